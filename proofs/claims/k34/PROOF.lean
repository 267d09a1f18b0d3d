import PyProof.Rows.All
import Wide.All
import OpenK.AllK
import Wide.FinOn
import Lean
import PyProof.EqAt
import PyProof.EqKinds
import PyProof.TupleCall
import KE.KTops
import KE.KIntText
import KE.KTryMore
import PyProof.ExcBaseAll.ValueError
import PyProof.ZipIter
import KE.KTurns
import PyProof.Rows.SetFrom
import KE.KxText
import PyProof.Rows.SumGenD
import KE.KDictList
import PyProof.DictWalks
import KE.KEqDict
import KE.KDictOf
import PyProof.Rows.SortStr
import PyProof.Rows.SortWalk
import PyProof.WalksEnum
import KE.KItemsList
import PySem.Challenge.RW_madeagain_k34_whole_papers_of_builds
set_option Elab.async false
set_option linter.all false
set_option maxRecDepth 100000
noncomputable section
namespace L2
open PySem PySem.Spec PyProof.Rows
abbrev Key:=Sum Int Str
def HH:Key->Value->Bool
 | .inl k,v=>Value.isInt k v
 | .inr x,v=>Value.isStrOf x v
def ajg (w:World):Key->Int
 | .inl k=>hashInt k
 | .inr x=>hashStr w x
theorem iY:∀{k:Key}{v:Value},HH k v=true->(∃i t,k=Sum.inl i/\v=Value.int i t)\/(∃x t,k=Sum.inr x/\v=Value.str x t)
 | .inl i,v,h=>by
   obtain⟨t,e⟩:=Value.isInt_shape (k:=i) (v:=v) h
   exact .inl ⟨i,t,rfl,e⟩
 | .inr x,v,h=>by
   obtain⟨t,e⟩:=Value.isStrOf_shape (x:=x) (v:=v) h
   exact .inr ⟨x,t,rfl,e⟩
theorem Uj (i:Int) (t:Tok):HH (.inl i) (.int i t)=true:=by simp[HH,Value.isInt]
theorem Uk (x:Str) (t:Tok):HH (.inr x) (.str x t)=true:=by simp[HH,Value.isStrOf]
theorem abz (a b:Int):decide ((Sum.inl a:Key)=Sum.inl b)=(a==b):=by
 by_cases e:a=b
 ·subst e;simp
 ·have h:¬(Sum.inl a:Key)=Sum.inl b:=fun q=>e (Sum.inl.inj q)
  rw[decide_eq_false h]
  exact(beq_eq_false_iff_ne.mpr e).symm
theorem abA (a b:Str):decide ((Sum.inr a:Key)=Sum.inr b)=decide (a=b):=by
 by_cases e:a=b
 ·subst e;simp
 ·have h:¬(Sum.inr a:Key)=Sum.inr b:=fun q=>e (Sum.inr.inj q)
  rw[decide_eq_false h,decide_eq_false e]
theorem abB (a:Int) (b:Str):decide ((Sum.inl a:Key)=Sum.inr b)=false:=decide_eq_false (fun q=>nomatch q)
theorem abC (a:Str) (b:Int):decide ((Sum.inr a:Key)=Sum.inl b)=false:=decide_eq_false (fun q=>nomatch q)
def dY (prog:Program) (w:World):PySem.KeyKind prog w Key where
 is:=HH
 hash:=ajg w
 inj:=fun v a b ha hb=>by
  rcases iY ha with⟨i,t,rfl,rfl⟩ | ⟨x,t,rfl,rfl⟩
  ·rcases iY hb with⟨j,u,rfl,e⟩ | ⟨y,u,rfl,e⟩
   ·injection e with e1 _;rw[e1]
   ·exact nomatch e
  ·rcases iY hb with⟨j,u,rfl,e⟩ | ⟨y,u,rfl,e⟩
   ·exact nomatch e
   ·injection e with e1 _;rw[e1]
 byValue:=fun k v h=>by
  rcases iY h with⟨i,t,rfl,rfl⟩ | ⟨x,t,rfl,rfl⟩<;>rfl
 pyHash:=fun hv h=>by
  rcases iY hv with⟨i,t,rfl,rfl⟩ | ⟨x,t,rfl,rfl⟩
  ·exact wpAny_pyHash_int h
  ·exact wpAny_pyHash_str h
 eqBool:=fun hu hv h=>by
  rcases iY hu with⟨i,t,rfl,rfl⟩ | ⟨x,t,rfl,rfl⟩
  ·rcases iY hv with⟨j,u,rfl,rfl⟩ | ⟨y,u,rfl,rfl⟩
   ·rw[abz] at h;exact wpAny_eqBool_int h
   ·rw[abB] at h;exact SeqAt.EqAt.int_str i t y u _ _ _ _ h
  ·rcases iY hv with⟨j,u,rfl,rfl⟩ | ⟨y,u,rfl,rfl⟩
   ·rw[abC] at h;exact SeqAt.EqAt.str_int x t j u _ _ _ _ h
   ·rw[abA] at h;exact wpAny_eqBool_str h
 «strs»:=fun k x t v h=>by
  rcases iY h with⟨i,u,rfl,e⟩ | ⟨y,u,rfl,e⟩
  ·exact nomatch e
  ·injection e with e1 _
   subst e1
   cases v<;>rfl
theorem Oo (prog:Program) (w:World) (i:Int) (t:Tok):(dY prog w).is (.inl i) (.int i t)=true:=Uj i t
theorem Oq (prog:Program) (w:World) (x:Str) (t:Tok):(dY prog w).is (.inr x) (.str x t)=true:=Uk x t
end L2
namespace L2
open PySem PySem.Spec PyProof.Rows
inductive V where
 | non | bl (b:Bool) | int (i:Int) | str (x:Str) | byt (b:Array UInt8) | flt (b:UInt64) | ref (a:Addr) | ty (n:String)
 deriving DecidableEq
def RelV:V->Value->Prop
 | .non,u=>u=Value.none
 | .bl b,u=>u=Value.bool b
 | .int i,u=>∃t,u=Value.int i t
 | .str x,u=>∃t,u=Value.str x t
 | .byt b,u=>∃t,u=Value.bytes b t
 | .flt b,u=>∃t,u=Value.float b t
 | .ref a,u=>u=Value.ref a
 | .ty n,u=>u=Value.type n
abbrev Vals:List V->List Value->Prop:=Paired RelV
theorem Vals.length {xs:List V}{us:List Value} (r:Vals xs us):xs.length=us.length:=Paired.length r
theorem Vals.get:∀{xs:List V}{us:List Value}{i:Nat}{x:V},Vals xs us->xs[i]? =some x->∃u,us[i]? =some u/\RelV x u
 | _,_,_,_, .nil,e=>by simp at e
 | _,_,0,_, .cons r _,e=>by simp at e;subst e;exact⟨_,rfl,r⟩
 | _,_,i+1,x, .cons _ t,e=>by
   obtain⟨u,h1,h2⟩:=Vals.get (i:=i) (x:=x) t (by simpa using e)
   exact⟨u,by simpa using h1,h2⟩
theorem Vals.append:∀{xs ys:List V}{us ws:List Value},Vals xs us->Vals ys ws->Vals (xs++ys) (us++ws)
 | _,_,_,_, .nil,s=>s
 | _,_,_,_, .cons r t,s=> .cons r (Vals.append t s)
theorem Vals.take:∀{xs:List V}{us:List Value} (n:Nat),Vals xs us->Vals (xs.take n) (us.take n)
 | _,_,0,_=> .nil
 | _,_,_+1, .nil=> .nil
 | _,_,n+1, .cons r t=> .cons r (Vals.take n t)
theorem Vals.drop:∀{xs:List V}{us:List Value} (n:Nat),Vals xs us->Vals (xs.drop n) (us.drop n)
 | _,_,0,r=>r
 | _,_,_+1, .nil=> .nil
 | _,_,n+1, .cons _ t=>Vals.drop n t
def wQ:Option V->Option Value->Prop
 | some v,some u=>RelV v u
 | none,none=>True
 | _,_=>False
def KV {κ:Type}:List (κ×V)->List (κ×Value)->Prop:=Paired fun(p:κ×V) (q:κ×Value)=>p.1=q.1/\RelV p.2 q.2
def kV:Key->V
 | .inl i=> .int i
 | .inr x=> .str x
inductive HO where
 | lst (xs:List V)
 | tup (xs:List V)
 | dK (kvs:List (Key×V)) | dT (kvs:List (List Key×V))
 | set (S:Int->Bool) (n:Nat)
 | ins (C dx:Addr) (fs:List (Str×V))
 | own (x:Addr)
 | xd (fs:List (Str×V))
 | met (f x:Addr)
 | rng (lo hi:Int)
 | frz (o:Obj) (u:HO)
 | tbl (ps:Array Value)
 | ext (φ:Heap->Prop)
abbrev Hp:=Addr->Option HO
def upd (H:Hp) (a:Addr) (o:HO):Hp:=fun b=>if b=a then some o else H b
theorem ao {H:Hp}{a:Addr}{o:HO}:upd H a o a=some o:=by unfold upd;rw[if_pos rfl]
theorem au {H:Hp}{a b:Addr}{o:HO} (h:b≠a):upd H a o b=H b:=by unfold upd;rw[if_neg h]
theorem wU {H:Hp}{a:Addr}{o u:HO}:upd (upd H a o) a u=upd H a u:=by
 funext b;unfold upd;split<;>rfl
theorem aeW {H:Hp}{a b:Addr}{o u:HO} (h:H a=some o) (h':H b=some u) (d:o≠u):a≠b:=by
 intro e;subst e;rw[h] at h';exact d (Option.some.inj h')
theorem aL {H:Hp}{a b:Addr}{o:HO} (h:H a=some o) (h':H b=none):a≠b:=by
 intro e;subst e;rw[h] at h';cases h'
section
variable (P:Program) (w:World)
def fX (H:Hp) (h:Heap) (a:Addr):HO->Prop
 | .lst xs=>xs.length<=sizeLine/\∃(its:List Value) (n:Nat),Vals xs its/\h.get? a=some {cls:= .type "list",data:= .seq its.toArray n}
 | .tup xs=>xs.length<=sizeLine/\∃its:List Value,Vals xs its/\IsTup h a its.toArray
 | .dK kvs=>kvs.length<=sizeLine/\(a==sysModules)=false/\∃vs,KV kvs vs/\h.DictOf (dY P w) a vs
 | .dT kvs=>kvs.length<=sizeLine/\(a==sysModules)=false/\∃xs:List (List Key×Addr×Value),
     Paired (fun(p:List Key×V) (q:List Key×Addr×Value)=>p.1=q.1/\H q.2.1=some (.tup (p.1.map kV))/\RelV p.2 q.2.2) kvs xs/\
     ∃o es ep,h.get? a=some o/\o.ExactDict/\o.data= .dict es ep/\es.toList=xs.map (entryOfKey (tupleKind (dY P w)))/\(xs.map (·.1)).Nodup
 | .set S n=>h.SetOf (intKind P w) a S n
 | .ins C dx fs=>H dx=some (.own a)/\fs.length<=1000/\dx≠a/\h.get? a=some (PySem.W.instObj C dx)/\
     ∃mA,h.Ns1 dx mA/\(∀f,wQ (fs.lookup f) (mA f))/\PySem.Within mA (fs.map (·.1))
 | .own _=>∃o,h.get? a=some o
 | .xd fs=>∃mA,h.Ns1 a mA/\∀f,wQ (fs.lookup f) (mA f)
 | .rng lo hi=>∃t u v,h.get? a=some {cls:= .type "range",data:= .fields #[.int lo t, .int hi u, .int 1 v]}
 | .frz o u=>h.get? a=some o/\fX H h a u
 | .tbl ps=>h.get? a=some {cls:= .none,data:= .fields ps}
 | .met f x=>h.get? a=some (PySem.W.methodObj (.ref f) (.ref x))
 | .ext φ=>φ h/\(∃o,h.get? a=some o)/\∀h1 h2:Heap,φ h1->(∀o,h1.get? a=some o->h2.get? a=some o)->φ h2
def HOk (H:Hp) (h:Heap):Prop:=∀a o,H a=some o->fX P w H h a o
end
section
variable {P:Program}{w:World}{H H':Hp}{h h':Heap}{a:Addr}{o:HO}
theorem fX.lt (x:fX P w H h a o):a<h.objs.size:=by
 cases o with
 | lst xs=>obtain⟨_,_,_,_,e⟩:=x;exact Heap.lt_size e
 | tup xs=>obtain⟨_,_,_,p⟩:=x;exact p.lt
 | dK kvs=>obtain⟨_,_,_,_,o,_,_,e,_⟩:=x;exact Heap.lt_size e
 | dT kvs=>obtain⟨_,_,_,_,o,_,_,e,_⟩:=x;exact Heap.lt_size e
 | set S n=>obtain⟨o,_,_,_,e,_⟩:=x;exact Heap.lt_size e
 | ins C dx fs=>obtain⟨_,_,_,e,_⟩:=x;exact Heap.lt_size e
 | own y=>obtain⟨_,e⟩:=x;exact Heap.lt_size e
 | xd fs=>obtain⟨_,⟨_,_,_,e,_⟩,_⟩:=x;exact Heap.lt_size e
 | rng lo hi=>obtain⟨_,_,_,e⟩:=x;exact Heap.lt_size e
 | frz ob u=>obtain⟨e,_⟩:=x;exact Heap.lt_size e
 | tbl ps=>exact Heap.lt_size (show h.get? a=some _ from x)
 | met f y=>exact Heap.lt_size (show h.get? a=some _ from x)
 | ext φ=>obtain⟨_,⟨_,e⟩,_⟩:=x;exact Heap.lt_size e
theorem Paired.abD {α β:Type}{F G:α->β->Prop}:∀{l₁:List α}{l₂:List β},Paired F l₁ l₂->(∀a b,F a b->G a b)->Paired G l₁ l₂
 | _,_, .nil,_=> .nil
 | _,_, .cons r t,f=> .cons (f _ _ r) (Paired.abD t f)
theorem fX.stay (x:fX P w H h a o) (k:∀b u,(b=a\/H b=some (.own a))->h.get? b=some u->h'.get? b=some u)
 (ho:∀b,H b=some (.own a)->H' b=some (.own a)) (ht:∀b xs,H b=some (.tup xs)->H' b=some (.tup xs)):fX P w H' h' a o:=by
 induction o with
 | lst xs=>obtain⟨z,its,n,r,e⟩:=x;exact⟨z,its,n,r,k _ _ (.inl rfl) e⟩
 | tup xs=>obtain⟨z,its,r,ob,e,c⟩:=x;exact⟨z,its,r,ob,k _ _ (.inl rfl) e,c⟩
 | dK kvs=>obtain⟨z,y,vs,r,ob,es,ep,e,c⟩:=x;exact⟨z,y,vs,r,ob,es,ep,k _ _ (.inl rfl) e,c⟩
 | dT kvs=>
   obtain⟨z,y,xs,r,ob,es,ep,e,c⟩:=x
   exact⟨z,y,xs,Paired.abD r fun p q z=>⟨z.1,ht _ _ z.2.1,z.2.2⟩,ob,es,ep,k _ _ (.inl rfl) e,c⟩
 | set S n=>obtain⟨ob,es,ep,t,e,c⟩:=x;exact⟨ob,es,ep,t,k _ _ (.inl rfl) e,c⟩
 | ins C dx fs=>
   obtain⟨d,z,ne,e,mA,⟨od,es,ep,e2,c⟩,r⟩:=x
   exact⟨ho _ d,z,ne,k _ _ (.inl rfl) e,mA,⟨od,es,ep,k _ _ (.inr d) e2,c⟩,r⟩
 | own y=>obtain⟨ob,e⟩:=x;exact⟨ob,k _ _ (.inl rfl) e⟩
 | xd fs=>obtain⟨mA,⟨od,es,ep,e,c⟩,r⟩:=x;exact⟨mA,⟨od,es,ep,k _ _ (.inl rfl) e,c⟩,r⟩
 | rng lo hi=>obtain⟨t,u,v,e⟩:=x;exact⟨t,u,v,k _ _ (.inl rfl) e⟩
 | frz ob u ih=>obtain⟨e,q⟩:=x;exact⟨k _ _ (.inl rfl) e,ih q⟩
 | tbl ps=>
   have e:h.get? a=some {cls:= .none,data:= .fields ps}:=x
   show h'.get? a=some {cls:= .none,data:= .fields ps}
   exact k a _ (.inl rfl) e
 | met f y=>
   have e:h.get? a=some (PySem.W.methodObj (.ref f) (.ref y)):=x
   show h'.get? a=some (PySem.W.methodObj (.ref f) (.ref y))
   exact k a _ (.inl rfl) e
 | ext φ=>obtain⟨p,⟨o,e⟩,st⟩:=x;exact⟨st _ _ p fun o q=>k _ _ (.inl rfl) q,⟨o,k _ _ (.inl rfl) e⟩,st⟩
theorem HOk.lt (x:HOk P w H h) (e:H a=some o):a<h.objs.size:=(x a o e).lt
theorem HOk.fresh (x:HOk P w H h) (e:h.objs.size<=a):H a=none:=by
 cases q:H a with
 | none=>rfl
 | some u=>exact absurd (Nat.lt_of_lt_of_le (x.lt q) e) (Nat.lt_irrefl _)
theorem HOk.kept (x:HOk P w H h) (k:∀b u,h.get? b=some u->h'.get? b=some u):HOk P w H h':=fun a o e=>
 (x a o e).stay (fun b u _ q=>k b u q) (fun _ q=>q) fun _ _ q=>q
theorem HOk.laid (x:HOk P w H h) (k:∀b u,h.get? b=some u->h'.get? b=some u) (hp:h.objs.size<=a) (new:fX P w (upd H a o) h' a o):HOk P w (upd H a o) h':=fun b u e=>by
 have hn:=x.fresh hp
 by_cases hb:b=a
 ·subst hb;rw[ao] at e;cases e;exact new
 ·rw[au hb] at e
  exact(x b u e).stay (fun c v _ q=>k c v q) (fun c q=>by rw[au (aL q hn)];exact q) fun c xs q=>by rw[au (aL q hn)];exact q
end
def Rd (H:Hp) (a:Addr) (u:HO):Prop:=H a=some u\/∃o,H a=some (.frz o u)
theorem Rd.ok {P:Program}{w:World}{H:Hp}{h:Heap}{a:Addr}{u:HO} (r:Rd H a u) (x:HOk P w H h):fX P w H h a u:=by
 rcases r with r | ⟨o,r⟩
 ·exact x a u r
 ·obtain⟨_,q⟩:=x a _ r
  exact q
def Mut:Option HO->Prop
 | some (.lst _)=>True
 | some (.dK _)=>True
 | some (.dT _)=>True
 | some (.set _ _)=>True
 | some (.ins _ _ _)=>True
 | some (.ext _)=>True
 | _=>False
section
variable {P:Program}{w:World}{H:Hp}{h h':Heap}{x e:Addr}{o':HO}
theorem HOk.write (ok:HOk P w H h) (mu:Mut (H x)) (he:e=x\/H e=some (.own x)) (k:∀b u,b≠e->h.get? b=some u->h'.get? b=some u) (heo:∃u,h'.get? e=some u)
 (new:fX P w (upd H x o') h' x o'):HOk P w (upd H x o') h':=fun b u q=>by
 have nown:∀c y,H c=some (.own y)->c≠x:=fun c y r z=>by subst z;rw[r] at mu;exact mu
 have ntup:∀c xs,H c=some (.tup xs)->c≠x:=fun c xs r z=>by subst z;rw[r] at mu;exact mu
 by_cases hb:b=x
 ·subst hb;rw[ao] at q;cases q;exact new
 ·rw[au hb] at q
  by_cases hbe:b=e
  ·have q':H b=some (.own x):=by
    rcases he with z | z
    ·exact absurd (hbe.trans z) hb
    ·rw[hbe];exact z
   rw[q] at q';cases q'
   obtain⟨v,hv⟩:=heo
   exact⟨v,by rw[hbe];exact hv⟩
  ·refine(ok b u q).stay (fun c v hc r=>k c v ?_ r) (fun c r=>by rw[au (nown c b r)];exact r) fun c xs r=>by rw[au (ntup c xs r)];exact r
   rcases hc with rfl | hc
   ·exact hbe
   ·rintro rfl
    rcases he with z | z
    ·exact nown c b hc z
    ·rw[hc] at z;cases z;exact hb rfl
end
structure Un (fs ex:List Addr) (H H':Hp) (h h':Heap):Prop where
 keep:∀b o,h.get? b=some o->H b=none->b∉fs->b∉ex->h'.get? b=some o
 slot:∀b o,h.get? b=some o->H b=none->b∈fs->b∉ex->∃sl,h'.get? b=some {o with slots:=sl}
 free:∀b o,h.get? b=some o->H b=none->b∉ex->H' b=none
 there:∀b o,h.get? b=some o->b∉ex->∃o',h'.get? b=some o'
 tups:∀b xs,H b=some (.tup xs)->H' b=some (.tup xs)
 frzs:∀b o u,H b=some (.frz o u)->H' b=some (.frz o u)
 tbls:∀b ps,H b=some (.tbl ps)->∃more,H' b=some (.tbl (ps++more))
section
variable {fs fs' ex ex':List Addr}{H H1 H2:Hp}{h h1 h2 h':Heap}{a x e:Addr}{o:HO}
theorem Un.any (u:Un fs ex H H1 h h1) {b:Addr}{ob:Obj} (q:h.get? b=some ob) (n:H b=none) (hx:b∉ex):∃sl,h1.get? b=some {ob with slots:=sl}:=by
 by_cases hb:b∈fs
 ·exact u.slot b ob q n hb hx
 ·exact⟨ob.slots,u.keep b ob q n hb hx⟩
theorem Un.kept (k:∀b u,h.get? b=some u->h'.get? b=some u):Un fs ex H H h h':=
 ⟨fun b ob q _ _ _=>k b ob q,fun b ob q _ _ _=>⟨ob.slots,k b ob q⟩,fun _ _ _ n _=>n,fun b ob q _=>⟨ob,k b ob q⟩,fun _ _ q=>q,fun _ _ _ q=>q,fun _ ps q=>⟨#[],by rw[q];simp⟩⟩
theorem Un.refl:Un fs ex H H h h:=Un.kept fun _ _ q=>q
theorem Un.laid (k:∀b u,h.get? b=some u->h'.get? b=some u) (hp:h.objs.size<=a) (hn:H a=none):Un fs ex H (upd H a o) h h' where
 keep:=fun b u q _ _ _=>k b u q
 slot:=fun b u q _ _ _=>⟨u.slots,k b u q⟩
 free:=fun b u q n _=>by rw[au (Nat.ne_of_lt (Nat.lt_of_lt_of_le (Heap.lt_size q) hp))];exact n
 there:=fun b u q _=>⟨u,k b u q⟩
 tups:=fun b xs q=>by rw[au (aL q hn)];exact q
 frzs:=fun b u xs q=>by rw[au (aL q hn)];exact q
 tbls:=fun b ps q=>⟨#[],by rw[au (aL q hn),q];simp⟩
theorem Un.write (mu:Mut (H x)) (he:e=x\/H e=some (.own x)) (k:∀b u,b≠e->h.get? b=some u->h'.get? b=some u) (heo:∃u,h'.get? e=some u):Un fs ex H (upd H x o) h h':=by
 have hx:∀b,H b=none->b≠x:=fun b n z=>by subst z;rw[n] at mu;exact mu
 have hb:∀b,H b=none->b≠e:=fun b n z=>by
  subst z
  rcases he with r | r
  ·exact hx b n r
  ·rw[n] at r;cases r
 have hm:∀b u,H b=some u->¬Mut (some u)->b≠x:=fun b u q nm z=>by subst z;rw[q] at mu;exact nm mu
 refine⟨fun b u q n _ _=>k b u (hb b n) q,fun b u q n _ _=>⟨u.slots,k b u (hb b n) q⟩,fun b u q n _=>by rw[au (hx b n)];exact n,fun b u q _=> ?_,
  fun b xs q=>by rw[au (hm b _ q fun z=>z)];exact q,fun b u xs q=>by rw[au (hm b _ q fun z=>z)];exact q,fun b ps q=>⟨#[],by rw[au (hm b _ q fun z=>z),q];simp⟩⟩
 by_cases hbe:b=e
 ·subst hbe;exact heo
 ·exact⟨u,k b u hbe q⟩
end
def trk (h:Heap) (H:Hp):List Addr:=(List.range h.objs.size).filter fun a=>(H a).isSome
def MT (h:Heap) (H:Hp):Heap:=PySem.W.hideAll h (trk h H)
theorem Ul (h:Heap) (H:Hp):(MT h H).objs.size=h.objs.size:=PySem.W.hideAll_size _ _
theorem Vo {h:Heap}{H:Hp}{b:Addr}{o:Obj} (e:h.get? b=some o) (n:H b=none):(MT h H).get? b=some o:=
 PySem.W.hideAll_get _ e fun hm=>by
  have q:(H b).isSome=true:=(List.mem_filter.mp hm).2
  rw[n] at q;simp at q
theorem Ye {h:Heap}{H:Hp}{b:Addr}{o:Obj} (e:(MT h H).get? b=some o):h.get? b=some o/\H b=none:=by
 have e':h.get? b=some o:=PySem.W.of_hideAll (trk h H) e
 refine⟨e', ?_⟩
 cases q:H b with
 | none=>rfl
 | some x=>
   have hm:b∈trk h H:=List.mem_filter.mpr ⟨List.mem_range.mpr (Heap.lt_size e'),by simp[q]⟩
   have z:(MT h H).get? b=none:=PySem.W.hideAll_none (trk h H) hm
   rw[z] at e;cases e
end L2
namespace L2
open PySem PySem.Spec PyProof.Rows
structure Mod (K:PySem.W.Frag) (mg:Str->Option Value) (base:Heap):Prop where
 kin:K.In base
 glob:base.Ns mainGlobals mg
 blt:∃mb,base.Ns builtinsNs mb/\∀x:Str,x≠"__name__"->mb x=bootBuiltins x
 nolimit:base.NoLimit
structure Cx where
 prog:Program
 w:World
 K:PySem.W.Frag
 mg:Str->Option Value
 base:Heap
 A:Around
 N:List Str
 s₀:Shared
 H₀:Hp
 env:Env
 outer:List Env
 stack:List Env
 ex:List Addr
 fn:Str->Bool
 calm:Bool
 pn:List (Addr×Obj)
 xe:Value->Shared->Prop
def frs (l:List Env):List Addr:=l.filterMap (·.frame)
abbrev Cx.fs (X:Cx):List Addr:=frs X.outer
def Vis (sc:Scope) (x:Str):Prop:=sc.names.lookup x=some .local\/sc.names.lookup x=some .cell\/sc.names.lookup x=some .free
def Loc (sc:Scope) (x:Str):Prop:=sc.names.lookup x=some .local\/sc.names.lookup x=some .cell
def Look (env:Env) (h:Heap) (m:Str->Option Value) (x:Str) (u:Value):Prop:=
 (env.kindOf x=some .local/\m x=some u)\/((env.kindOf x=some .cell\/env.kindOf x=some .free)/\∃c,env.cells.lookup x=some c/\h.IsCell c (some u))
structure Cx.Ok (X:Cx):Prop where
 mod:Mod X.K X.mg X.base
 kind:X.env.scope.kind= .function
 glob:X.env.globals=mainGlobals
 blt:X.env.builtins=builtinsNs
 above:X.s₀.heap.objs.size<=X.env.locals
 inj:∀x y c,X.env.cells.lookup x=some c->X.env.cells.lookup y=some c->x=y
 has:∀x,(X.env.kindOf x=some .cell\/X.env.kindOf x=some .free)->∃c,X.env.cells.lookup x=some c
 cab:∀x c,X.fn x=true->X.env.cells.lookup x=some c->X.s₀.heap.objs.size<=c
 hd:X.calm=true->X.A.handled=none
 frames:X.A.frames=some X.stack
 stk:X.stack=X.outer\/(X.stack=X.env::X.outer/\X.env.frame=some X.env.locals)
 exf:∀b∈X.ex,b≠X.env.locals/\∀x c,X.env.cells.lookup x=some c->c≠b
 bs:∀b o,X.base.get? b=some o->X.s₀.heap.get? b=some o/\X.H₀ b=none
 bsz:X.base.objs.size<=X.s₀.heap.objs.size
 noex:∀b o,X.base.get? b=some o->b∉X.ex
 exfs:∀b∈X.ex,b∉X.fs
 funs:X.s₀.heap.FunFrames X.base X.outer
 frf:∀b∈X.fs,X.H₀ b=none
structure Inv (X:Cx) (pins:List (Addr×Obj)) (σ:List (Option V)) (H:Hp) (s:Shared):Prop where
 ok:X.Ok
 os:s.os=X.s₀.os
 bare:AllBare s.gens
 base:Un X.fs X.ex X.H₀ H X.s₀.heap s.heap
 loc:∃m,s.heap.Ns X.env.locals m/\∀(i:Nat) (x:Str) (v:V),X.N[i]? =some x->σ[i]? =some (some v)->Vis X.env.scope x->∃u,RelV v u/\Look X.env s.heap m x u
 cell:∀x c,X.env.cells.lookup x=some c->∃v,s.heap.IsCell c v
 free:H X.env.locals=none
 vI:∀x c,X.env.cells.lookup x=some c->H c=none
 pin:∀p∈X.pn++pins,s.heap.get? p.1=some p.2/\H p.1=none/\p.1≠X.env.locals/\p.1∉X.fs/\∀v,p.2.data≠ .cell v
 hok:HOk X.prog X.w H s.heap
 len:σ.length=X.N.length
section
variable {X:Cx}{pins:List (Addr×Obj)}{σ:List (Option V)}{H H':Hp}{s:Shared}{h':Heap}
theorem Cx.Ok.nofr (ok:X.Ok) {b:Addr}{o:Obj} (e:X.base.get? b=some o):b∉X.fs:=fun hb=>by
 have:=(ok.funs.mem hb).1
 rw[e] at this;cases this
theorem Inv.bs (I:Inv X pins σ H s):∀b o,X.base.get? b=some o->s.heap.get? b=some o/\H b=none:=fun b o e=>
 ⟨I.base.keep b o (I.ok.bs b o e).1 (I.ok.bs b o e).2 (I.ok.nofr e) (I.ok.noex b o e),I.base.free b o (I.ok.bs b o e).1 (I.ok.bs b o e).2 (I.ok.noex b o e)⟩
theorem Inv.bk (I:Inv X pins σ H s):∀b o,X.base.get? b=some o->s.heap.get? b=some o:=fun b o e=>(I.bs b o e).1
theorem Inv.mod (I:Inv X pins σ H s):Mod X.K X.mg X.base:=I.ok.mod
theorem Inv.kIn (I:Inv X pins σ H s):X.K.In s.heap:=I.ok.mod.kin.keeps I.bk
theorem Inv.lt (I:Inv X pins σ H s):X.env.locals<s.heap.objs.size:=let ⟨_,hn,_⟩:=I.loc;hn.lt
theorem Inv.sz (I:Inv X pins σ H s):X.s₀.heap.objs.size<=s.heap.objs.size:=Nat.le_trans I.ok.above (Nat.le_of_lt I.lt)
theorem Inv.nofs (I:Inv X pins σ H s) {a:Addr} (h:s.heap.objs.size<=a):a∉X.fs:=fun hb=>by
 obtain⟨_,o,ho,_⟩:=I.ok.funs.mem hb
 exact absurd (Nat.lt_of_lt_of_le (Heap.lt_size ho) (Nat.le_trans I.sz h)) (Nat.lt_irrefl _)
theorem Inv.cne (I:Inv X pins σ H s):∀x c,X.env.cells.lookup x=some c->c≠X.env.locals:=fun x c e z=>by
 obtain⟨v,o,ho,hd⟩:=I.cell x c e
 obtain⟨m,⟨o',es,ep,ho',hd',_⟩,_⟩:=I.loc
 rw[z,ho'] at ho;cases ho;rw[hd'] at hd;cases hd
theorem Inv.funs (I:Inv X pins σ H s):s.heap.FunFrames X.base X.outer:=by
 have all:∀(l:List Env),(∀b∈frs l,b∈X.fs)->X.s₀.heap.FunFrames X.base l->s.heap.FunFrames X.base l:=by
  intro l
  induction l with
  | nil=>intro _ _;trivial
  | cons env r ih=>
    intro hs hl
    obtain⟨hk,⟨L,o,hf,hn,ho,hd⟩,hr⟩:=hl
    have hL:L∈X.fs:=hs L (by unfold frs;rw[List.filterMap_cons,hf];exact List.mem_cons_self)
    obtain⟨sl,e⟩:=I.base.slot L o ho (I.ok.frf L hL) hL fun z=>I.ok.exfs L z hL
    exact⟨hk,⟨L,_,hf,hn,e,hd⟩,ih (fun b hb=>hs b (by unfold frs;rw[List.filterMap_cons,hf];exact List.mem_cons_of_mem _ hb)) hr⟩
 exact all X.outer (fun _ hb=>hb) I.ok.funs
theorem Inv.stack (I:Inv X pins σ H s):s.heap.FunFrames X.base X.stack:=by
 rcases I.ok.stk with e | ⟨e,hf⟩
 ·rw[e];exact I.funs
 ·rw[e]
  obtain⟨m,hn,_⟩:=I.loc
  refine .cons (by rw[I.ok.kind];decide) hf hn ?_ I.funs
  exact Heap.get?_none_of_le (Nat.le_trans I.ok.bsz I.ok.above)
theorem Inv.M3 (I:Inv X pins σ H s):∀b∈frs X.stack,b∈X.env.locals::X.fs:=fun b hb=>by
 rcases I.ok.stk with e | ⟨e,hf⟩
 ·rw[e] at hb;exact List.mem_cons_of_mem _ hb
 ·rw[e] at hb
  unfold frs at hb
  rw[List.filterMap_cons,hf] at hb
  exact hb
theorem Inv.Ss (I:Inv X pins σ H s):∀b∈frs X.stack,H b=none:=fun b hb=>by
 rcases List.mem_cons.mp (I.M3 b hb) with e | hb
 ·rw[e];exact I.free
 ·obtain⟨_,o,ho,_⟩:=I.ok.funs.mem hb
  exact I.base.free b o ho (I.ok.frf b hb) fun z=>I.ok.exfs b z hb
theorem Inv.step {g':Array GenState}{t':Nat}{d':Drawn}{ch:List Addr} (I:Inv X pins σ H s)
 (hch:∀b∈ch,(b∈X.ex\/X.s₀.heap.objs.size<=b)/\b≠X.env.locals/\(∀x c,X.env.cells.lookup x=some c->c≠b)/\∀p∈X.pn++pins,p.1≠b)
 (keep:∀b o,b≠X.env.locals->b∉X.fs->b∉ch->s.heap.get? b=some o->H b=none->h'.get? b=some o)
 (slot:∀b o,b≠X.env.locals->b∈X.fs->b∉ch->s.heap.get? b=some o->H b=none->∃sl,h'.get? b=some {o with slots:=sl}) (free:∀b o,b∉ch->s.heap.get? b=some o->H b=none->H' b=none)
 (there:∀b o,b∉ch->s.heap.get? b=some o->∃o',h'.get? b=some o')
 (tups:∀b xs,H b=some (.tup xs)->H' b=some (.tup xs)) (frzs:∀b o u,H b=some (.frz o u)->H' b=some (.frz o u)) (tbls:∀b ps,H b=some (.tbl ps)->∃more,H' b=some (.tbl (ps++more)))
 (ns:∀m,s.heap.Ns X.env.locals m->h'.Ns X.env.locals m) (hok:HOk X.prog X.w H' h') (hg:AllBare g'):
 Inv X pins σ H' {s with heap:=h',gens:=g',drawn:=d',toks:=t'}:=by
 have neL:∀b o,X.s₀.heap.get? b=some o->b≠X.env.locals:=fun b o e=>Nat.ne_of_lt (Nat.lt_of_lt_of_le (Heap.lt_size e) I.ok.above)
 have neC:∀b o,X.s₀.heap.get? b=some o->b∉X.ex->b∉ch:=fun b o e hx hb=>by
  rcases(hch b hb).1 with z | z
  ·exact hx z
  ·exact absurd (Nat.lt_of_lt_of_le (Heap.lt_size e) z) (Nat.lt_irrefl _)
 have cellK:∀x c,X.env.cells.lookup x=some c->∀v,s.heap.IsCell c v->h'.IsCell c v:=fun x c e v ⟨o,ho,hd⟩=>by
  have nch:c∉ch:=fun z=>(hch c z).2.2.1 x c e rfl
  by_cases hc:c∈X.fs
  ·obtain⟨sl,q⟩:=slot c o (I.cne x c e) hc nch ho (I.vI x c e)
   exact⟨_,q,hd⟩
  ·exact⟨o,keep c o (I.cne x c e) hc nch ho (I.vI x c e),hd⟩
 refine⟨I.ok,I.os,hg,⟨fun b o e n hb hx=> ?_,fun b o e n hb hx=> ?_,fun b o e n hx=> ?_,fun b o e hx=> ?_,fun b xs e=>tups b xs (I.base.tups b xs e),fun b o xs e=>frzs b o xs (I.base.frzs b o xs e),fun b ps e=> ?_⟩, ?_,fun x c e=> ?_, ?_,fun x c e=> ?_,fun p hp=> ?_,hok,I.len⟩
 ·exact keep b o (neL b o e) hb (neC b o e hx) (I.base.keep b o e n hb hx) (I.base.free b o e n hx)
 ·obtain⟨sl,e1⟩:=I.base.slot b o e n hb hx
  obtain⟨sl',e2⟩:=slot b _ (neL b o e) hb (neC b o e hx) e1 (I.base.free b o e n hx)
  exact⟨sl',e2⟩
 ·obtain⟨o',e1⟩:=I.base.there b o e hx
  exact free b o' (neC b o e hx) e1 (I.base.free b o e n hx)
 ·obtain⟨o',e1⟩:=I.base.there b o e hx
  exact there b o' (neC b o e hx) e1
 ·obtain⟨m1,e1⟩:=I.base.tbls b ps e
  obtain⟨m2,e2⟩:=tbls b _ e1
  exact⟨m1++m2,by rw[e2,Array.append_assoc]⟩
 ·obtain⟨m,hn,hl⟩:=I.loc
  refine⟨m,ns m hn,fun i x v e1 e2 e3=> ?_⟩
  obtain⟨u,r,l⟩:=hl i x v e1 e2 e3
  refine⟨u,r, ?_⟩
  rcases l with l | ⟨k,c,e,z⟩
  ·exact .inl l
  ·exact .inr ⟨k,c,e,cellK x c e _ z⟩
 ·obtain⟨v,z⟩:=I.cell x c e
  exact⟨v,cellK x c e v z⟩
 ·obtain⟨m,⟨o,_,_,ho,_⟩,_⟩:=I.loc
  exact free _ o (fun z=>(hch _ z).2.1 rfl) ho I.free
 ·obtain⟨v,o,ho,hd⟩:=I.cell x c e
  exact free c o (fun z=>(hch c z).2.2.1 x c e rfl) ho (I.vI x c e)
 ·obtain⟨e,n,ne,nf,d⟩:=I.pin p hp
  have nch:p.1∉ch:=fun z=>(hch p.1 z).2.2.2 p hp rfl
  exact⟨keep p.1 p.2 ne nf nch e n,free p.1 p.2 nch e n,ne,nf,d⟩
theorem Inv.un {t':Nat} (I:Inv X pins σ H s) (u:Un X.fs [] H H' s.heap h') (hok:HOk X.prog X.w H' h'):Inv X pins σ H' {s with heap:=h',toks:=t'}:=by
 obtain⟨m,⟨o,es,ep,ho,r⟩,_⟩:=id I.loc
 obtain⟨sl,hL⟩:=u.any ho I.free (by simp)
 exact I.step (g':=s.gens) (d':=s.drawn) (ch:=[]) (fun _ z=>nomatch z) (fun b o _ hb _ e n=>u.keep b o e n hb (by simp)) (fun b o _ hb _ e n=>u.slot b o e n hb (by simp)) (fun b o _ e n=>u.free b o e n (by simp)) (fun b o _ e=>u.there b o e (by simp)) u.tups u.frzs u.tbls (fun m' hm=>by
  obtain⟨o',es',ep',ho',r'⟩:=hm
  rw[ho] at ho';cases ho'
  exact⟨_,es',ep',hL,r'⟩) hok I.bare
theorem Inv.call {g':Array GenState}{t':Nat}{d':Drawn}{ch:List Addr} (I:Inv X pins σ H s) (u:Un (frs X.stack) ch H H' s.heap h') (hok:HOk X.prog X.w H' h') (hg:AllBare g')
 (hch:∀b∈ch,(b∈X.ex\/X.s₀.heap.objs.size<=b)/\b≠X.env.locals/\(∀x c,X.env.cells.lookup x=some c->c≠b)/\∀p∈X.pn++pins,p.1≠b):
 Inv X pins σ H' {s with heap:=h',gens:=g',drawn:=d',toks:=t'}:=by
 obtain⟨m,⟨o,es,ep,ho,r⟩,_⟩:=id I.loc
 obtain⟨sl,hL⟩:=u.any ho I.free fun z=>(hch _ z).2.1 rfl
 exact I.step (ch:=ch) hch (fun b o hL hb hc e n=>u.keep b o e n (fun z=>(List.mem_cons.mp (I.M3 b z)).elim hL hb) hc) (fun b o _ _ hc e n=>u.any e n hc) (fun b o hc e n=>u.free b o e n hc) (fun b o hc e=>u.there b o e hc) u.tups u.frzs u.tbls (fun m' hm=>by
  obtain⟨o',es',ep',ho',r'⟩:=hm
  rw[ho] at ho';cases ho'
  exact⟨_,es',ep',hL,r'⟩) hok hg
theorem Inv.turned {t':Nat}{it:Addr} (I:Inv X pins σ H s) (k:∀b o,b≠it->s.heap.get? b=some o->h'.get? b=some o) (hn:H it=none) (hL:it≠X.env.locals)
 (h1:it∈X.ex\/X.s₀.heap.objs.size<=it) (h2:∀x c,X.env.cells.lookup x=some c->c≠it) (h3:∀p∈X.pn++pins,p.1≠it):Inv X pins σ H {s with heap:=h',toks:=t'}:=by
 have nit:∀b u,H b=some u->b≠it:=fun b u e z=>by rw[z,hn] at e;cases e
 refine I.step (g':=s.gens) (d':=s.drawn) (ch:=[it]) (fun b hb=> ?_) (fun b o _ _ hc e _=>k b o (fun z=>hc (by simp[z])) e) (fun b o _ _ hc e _=>⟨o.slots,k b o (fun z=>hc (by simp[z])) e⟩) (fun _ _ _ _ n=>n)
  (fun b o hc e=>⟨o,k b o (fun z=>hc (by simp[z])) e⟩) (fun _ _ e=>e) (fun _ _ _ e=>e) (fun b ps e=>⟨#[],by rw[e];simp⟩) (fun m hm=> ?_) (fun b u e=> ?_) I.bare
 ·have e:b=it:=by simpa using hb
  subst e
  exact⟨h1,hL,h2,h3⟩
 ·obtain⟨o,es,ep,ho,r⟩:=hm
  exact⟨o,es,ep,k _ o (Ne.symm hL) ho,r⟩
 ·refine(I.hok b u e).stay (fun c v hc q=>k c v ?_ q) (fun _ q=>q) fun _ _ q=>q
  rcases hc with z | z
  ·rw[z];exact nit b u e
  ·exact nit c _ z
theorem Inv.tok (I:Inv X pins σ H s) (t:Nat):Inv X pins σ H {s with toks:=t}:=I.un (h':=s.heap) (t':=t) Un.refl I.hok
theorem Inv.kept {t':Nat} (I:Inv X pins σ H s) (k:∀b u,s.heap.get? b=some u->h'.get? b=some u):Inv X pins σ H {s with heap:=h',toks:=t'}:=I.un (Un.kept k) (I.hok.kept k)
theorem Inv.laid {a:Addr}{o:HO}{t':Nat} (I:Inv X pins σ H s) (k:∀b u,s.heap.get? b=some u->h'.get? b=some u) (hp:s.heap.objs.size<=a) (new:fX X.prog X.w (upd H a o) h' a o):
 Inv X pins σ (upd H a o) {s with heap:=h',toks:=t'}:=I.un (Un.laid k hp (I.hok.fresh hp)) (I.hok.laid k hp new)
theorem Inv.write {x e:Addr}{o:HO}{t':Nat} (I:Inv X pins σ H s) (mu:Mut (H x)) (he:e=x\/H e=some (.own x)) (k:∀b u,b≠e->s.heap.get? b=some u->h'.get? b=some u) (heo:∃u,h'.get? e=some u)
 (new:fX X.prog X.w (upd H x o) h' x o):Inv X pins σ (upd H x o) {s with heap:=h',toks:=t'}:=I.un (Un.write mu he k heo) (I.hok.write mu he k heo new)
theorem Inv.Su {pins':List (Addr×Obj)} (I:Inv X pins σ H s) (h:∀p∈pins',s.heap.get? p.1=some p.2/\H p.1=none/\p.1≠X.env.locals/\p.1∉X.fs/\∀v,p.2.data≠ .cell v):Inv X pins' σ H s:=
 ⟨I.ok,I.os,I.bare,I.base,I.loc,I.cell,I.free,I.vI,fun p hp=>(List.mem_append.mp hp).elim (fun z=>I.pin p (List.mem_append_left _ z)) (h p),I.hok,I.len⟩
theorem Ot {N:List Str} (hN:N.Nodup) {i j:Nat}{x:Str} (a:N[i]? =some x) (b:N[j]? =some x):i=j:=by
 obtain⟨h1,e1⟩:=List.getElem?_eq_some_iff.mp a
 obtain⟨h2,e2⟩:=List.getElem?_eq_some_iff.mp b
 exact(List.getElem_inj hN).mp (e1.trans e2.symm)
theorem LK {M:Model}{A:Around}{E:Value->Shared->Prop}{i:Nat}{x:Str}{v:V}{u:Value}{Q:Unit->Shared->Prop} (I:Inv X pins σ H s) (hN:X.N.Nodup) (hi:X.N[i]? =some x) (hx:Loc X.env.scope x) (r:RelV v u)
 (h:∀s',Inv X pins (σ.set i (some v)) H s'->(∃a,Heap.SameBut a s.heap s'.heap/\(a=X.env.locals\/X.env.cells.lookup x=some a))->Q () s') (hf:X.fn x=true\/X.env.scope.names.lookup x=some .local:=by first | exact .inl rfl | exact .inr rfl | assumption):wpAny M A (storeName X.env x u) Q E s:=by
 obtain⟨m,hn,hl⟩:=id I.loc
 have hcls:(X.env.scope.kind== .class||(X.env.scope.kind== .module&&X.env.locals !=X.env.globals))=false:=by rw[I.ok.kind];rfl
 have hiσ:i<σ.length:=by rw[I.len];exact(List.getElem?_eq_some_iff.mp hi).1
 have cne:=I.cne
 have tracked:∀{a:Addr}{h':Heap},(∃o,s.heap.get? a=some o/\H a=none)->Heap.SameBut a s.heap h'->HOk X.prog X.w H h':=fun{a h'} ha hs b ob e=>by
  obtain⟨_,_,hfree⟩:=ha
  refine(I.hok b ob e).stay (fun c w' hc q=>(hs.2 c ?_).trans q) (fun _ q=>q) fun _ _ q=>q
  rintro rfl
  rcases hc with rfl | hc
  ·rw[hfree] at e;cases e
  ·rw[hfree] at hc;cases hc
 rcases hx with hk | hk
 ·refine wpAny_storeName_local hk hn (fun h' hn' hs=> ?_) hcls
  obtain⟨oL,_,_,hoL,_⟩:=id hn
  refine h _ ⟨I.ok,I.os,I.bare,⟨fun b o e n hb hx=> ?_,fun b o e n hb hx=> ?_,I.base.free,fun b o e hx=> ?_,I.base.tups,I.base.frzs,I.base.tbls⟩,⟨_,hn',fun j y v' e1 e2 e3=> ?_⟩,fun y c e=> ?_,I.free,I.vI,fun p hp=> ?_,tracked ⟨oL,hoL,I.free⟩ hs,by simpa using I.len⟩ ⟨_,hs, .inl rfl⟩
  ·exact(hs.2 b (Nat.ne_of_lt (Nat.lt_of_lt_of_le (Heap.lt_size e) I.ok.above))).trans (I.base.keep b o e n hb hx)
  ·obtain⟨sl,e1⟩:=I.base.slot b o e n hb hx
   exact⟨sl,(hs.2 b (Nat.ne_of_lt (Nat.lt_of_lt_of_le (Heap.lt_size e) I.ok.above))).trans e1⟩
  ·obtain⟨o',e1⟩:=I.base.there b o e hx
   exact⟨o',(hs.2 b (Nat.ne_of_lt (Nat.lt_of_lt_of_le (Heap.lt_size e) I.ok.above))).trans e1⟩
  ·by_cases hj:j=i
   ·subst hj
    rw[hi] at e1;cases e1
    rw[List.getElem?_set_self hiσ] at e2
    cases e2
    exact⟨u,r, .inl ⟨hk,by simp⟩⟩
   ·rw[List.getElem?_set_ne (Ne.symm hj)] at e2
    obtain⟨u',r',q⟩:=hl j y v' e1 e2 e3
    refine⟨u',r', ?_⟩
    rcases q with⟨k,e⟩ | ⟨k,c,e,z⟩
    ·refine .inl ⟨k, ?_⟩
     have:y≠x:=fun e=>hj (Ot hN e1 (e▸hi))
     simp[this,e]
    ·exact .inr ⟨k,c,e,z.sameBut hs (cne y c e)⟩
  ·obtain⟨w',z⟩:=I.cell y c e
   exact⟨w',z.sameBut hs (cne y c e)⟩
  ·obtain⟨e,n,ne,nf,d⟩:=I.pin p hp
   exact⟨(hs.2 p.1 ne).trans e,n,ne,nf,d⟩
 ·have hfn:X.fn x=true:=by
   rcases hf with z | z
   ·exact z
   ·rw[z] at hk;cases hk
  obtain⟨c,hc⟩:=I.ok.has x (.inl hk)
  obtain⟨w',z⟩:=I.cell x c hc
  refine wpAny_storeName_cell I.ok.kind hk hc z (fun h' hc' hs=> ?_)
  obtain⟨oc,hoc,hocd⟩:=id z
  refine h {s with heap:=h'} ⟨I.ok,I.os,I.bare,⟨fun b o e n hb hx=> ?_,fun b o e n hb hx=> ?_,I.base.free,fun b o e hx=> ?_,I.base.tups,I.base.frzs,I.base.tbls⟩,⟨m,hn.sameBut hs (Ne.symm (cne x c hc)),fun j y v' e1 e2 e3=> ?_⟩,fun y c' e=> ?_,I.free,I.vI,fun p hp=> ?_,tracked ⟨oc,hoc,I.vI x c hc⟩ hs,by simpa using I.len⟩ ⟨c,hs, .inr hc⟩
  ·exact(hs.2 b (Nat.ne_of_lt (Nat.lt_of_lt_of_le (Heap.lt_size e) (I.ok.cab x c hfn hc)))).trans (I.base.keep b o e n hb hx)
  ·obtain⟨sl,e1⟩:=I.base.slot b o e n hb hx
   exact⟨sl,(hs.2 b (Nat.ne_of_lt (Nat.lt_of_lt_of_le (Heap.lt_size e) (I.ok.cab x c hfn hc)))).trans e1⟩
  ·obtain⟨o',e1⟩:=I.base.there b o e hx
   exact⟨o',(hs.2 b (Nat.ne_of_lt (Nat.lt_of_lt_of_le (Heap.lt_size e) (I.ok.cab x c hfn hc)))).trans e1⟩
  ·by_cases hj:j=i
   ·subst hj
    rw[hi] at e1;cases e1
    rw[List.getElem?_set_self hiσ] at e2
    cases e2
    exact⟨u,r, .inr ⟨.inl hk,c,hc,hc'⟩⟩
   ·rw[List.getElem?_set_ne (Ne.symm hj)] at e2
    obtain⟨u',r',q⟩:=hl j y v' e1 e2 e3
    refine⟨u',r', ?_⟩
    rcases q with q | ⟨k,c',e,z'⟩
    ·exact .inl q
    ·refine .inr ⟨k,c',e,z'.sameBut hs ?_⟩
     rintro rfl
     exact hj (Ot hN e1 (I.ok.inj _ _ _ e hc▸hi))
  ·by_cases hcc:c'=c
   ·subst hcc;exact⟨_,hc'⟩
   ·obtain⟨w2,z2⟩:=I.cell y c' e
    exact⟨w2,z2.sameBut hs hcc⟩
  ·obtain⟨e,n,ne,nf,d⟩:=I.pin p hp
   refine⟨(hs.2 p.1 ?_).trans e,n,ne,nf,d⟩
   intro q
   rw[q,hoc] at e
   have q':oc=p.2:=Option.some.inj e
   exact d w' (by rw[<-q'];exact hocd)
theorem Ou {M:Model}{A:Around}{E:Value->Shared->Prop}{i:Nat}{x:Str}{v:V}{u:Value}{Q:Unit->Shared->Prop} (I:Inv X pins σ H s) (hN:X.N.Nodup) (hi:X.N[i]? =some x) (hx:Loc X.env.scope x) (r:RelV v u)
 (h:∀s',Inv X pins (σ.set i (some v)) H s'->Q () s') (hf:X.fn x=true\/X.env.scope.names.lookup x=some .local:=by first | exact .inl rfl | exact .inr rfl | assumption):wpAny M A (storeName X.env x u) Q E s:=
 LK I hN hi hx r (fun s' I' _=>h s' I') hf
theorem Inv.call' {s':Shared}{ch:List Addr} (I:Inv X pins σ H s) (ho:s'.os=s.os) (u:Un (frs X.stack) ch H H' s.heap s'.heap) (hok:HOk X.prog X.w H' s'.heap) (hg:AllBare s'.gens)
 (hch:∀b∈ch,(b∈X.ex\/X.s₀.heap.objs.size<=b)/\b≠X.env.locals/\(∀x c,X.env.cells.lookup x=some c->c≠b)/\∀p∈X.pn++pins,p.1≠b):Inv X pins σ H' s':=by
 obtain⟨h',g',d',t',o'⟩:=s'
 have e:o'=s.os:=ho
 subst e
 exact I.call (g':=g') (t':=t') (d':=d') u hok hg hch
end
abbrev XK:=Value->Option Addr->Hp->Prop
abbrev St:=List (Option V)
abbrev VK:=V->Hp->Prop
abbrev TE:=St->Hp->VK->Prop
abbrev TT:=St->Hp->(Bool->Hp->Prop)->Prop
abbrev TA:=St->Hp->(List V->Hp->Prop)->Prop
structure Ends where
 nx:St->Hp->Prop
 rt:VK
 bk:St->Hp->Prop:=fun _ _=>False
 ct:St->Hp->Prop:=fun _ _=>False
abbrev TS:=Ends->St->Hp->Prop
def EP (X:Cx) (pins:List (Addr×Obj)) (σ:St) (Q:VK) (u:Value) (s':Shared):Prop:=∃v H',Inv X pins σ H' s'/\RelV v u/\Q v H'
def TP (X:Cx) (pins:List (Addr×Obj)) (σ:St) (Q:Bool->Hp->Prop) (b:Bool) (s':Shared):Prop:=∃H',Inv X pins σ H' s'/\Q b H'
def AP (X:Cx) (pins:List (Addr×Obj)) (σ:St) (Q:List V->Hp->Prop) (us:List Value) (s':Shared):Prop:=∃vs H',Inv X pins σ H' s'/\Vals vs us/\Q vs H'
def SP (X:Cx) (pins:List (Addr×Obj)) (D:Ends) (f:Flow) (s':Shared):Prop:=
 match f with
 | .next=>∃σ' H',Inv X pins σ' H' s'/\D.nx σ' H'
 | .brk=>∃σ' H',Inv X pins σ' H' s'/\D.bk σ' H'
 | .cont=>∃σ' H',Inv X pins σ' H' s'/\D.ct σ' H'
 | .ret u=>∃v σ' H',Inv X pins σ' H' s'/\RelV v u/\D.rt v H'
def PE (X:Cx) (e:Expr) (t:TE):Prop:=
 ∀(pins:List (Addr×Obj)) (s:Shared) (σ:St) (H:Hp) (Q:VK),Inv X pins σ H s->t σ H Q->wpAny (model X.prog X.w) X.A (eval e X.env) (EP X pins σ Q) X.xe s
def PT (X:Cx) (e:Expr) (t:TT):Prop:=
 ∀(pins:List (Addr×Obj)) (s:Shared) (σ:St) (H:Hp) (Q:Bool->Hp->Prop),Inv X pins σ H s->t σ H Q->wpAny (model X.prog X.w) X.A (isTrue e X.env (eval e X.env)) (TP X pins σ Q) X.xe s
def PW (X:Cx) (e:Expr) (t:TT):Prop:=
 ∀(whole:Sem Value) (pins:List (Addr×Obj)) (s:Shared) (σ:St) (H:Hp) (Q:Bool->Hp->Prop),Inv X pins σ H s->t σ H Q->wpAny (model X.prog X.w) X.A (isTrue e X.env whole) (TP X pins σ Q) X.xe s
theorem PW.pt {X:Cx}{e:Expr}{t:TT} (h:PW X e t):PT X e t:=h _
def PA (X:Cx) (es:List Expr) (t:TA):Prop:=
 ∀(pos:Pos) (pins:List (Addr×Obj)) (s:Shared) (σ:St) (H:Hp) (Q:List V->Hp->Prop),Inv X pins σ H s->t σ H Q->wpAny (model X.prog X.w) X.A (spliced (backTo pos (starEach es X.env))) (AP X pins σ Q) X.xe s
def PS (X:Cx) (st:Stmt) (t:TS):Prop:=
 ∀(pins:List (Addr×Obj)) (s:Shared) (σ:St) (H:Hp) (D:Ends),Inv X pins σ H s->t D σ H->wpAny (model X.prog X.w) X.A (exec st X.env) (SP X pins D) X.xe s
def PSs (X:Cx) (st:List Stmt) (t:TS):Prop:=
 ∀(pins:List (Addr×Obj)) (s:Shared) (σ:St) (H:Hp) (D:Ends),Inv X pins σ H s->t D σ H->wpAny (model X.prog X.w) X.A (execs st X.env) (SP X pins D) X.xe s
theorem thn {α:Type}{t:Sem α}{Q Q':α->Shared->Prop}{M:Model}{A:Around}{E:Value->Shared->Prop}{s:Shared} (h:wpAny M A t Q E s) (hQ:∀a s,Q a s->Q' a s):wpAny M A t Q' E s:=wpAny_mono h hQ fun _ _ x=>x
end L2
namespace L2
open PySem PySem.Spec PyProof.Rows
section
variable {X:Cx}
def abE (i:Nat):TE:=fun σ H Q=>∃v,σ[i]? =some (some v)/\Q v H
def tC (v:V):TE:=fun _ H Q=>Q v H
theorem abF {i:Nat}{x:Str}{pos:Pos} (hN:X.N[i]? =some x) (hv:Vis X.env.scope x) (hd:(x==("__debug__":Str))=false:=by decide) (hcd:(x==("__classdict__":Str))=false:=by decide):PE X (.Name x pos) (abE i):=by
 intro pins s σ H Q I h
 obtain⟨v,e,h⟩:=h
 obtain⟨m,hn,hl⟩:=I.loc
 obtain⟨u,r,l⟩:=hl i x v hN e hv
 have fin:EP X pins σ Q u s:=⟨v,H,I,r,h⟩
 rcases l with⟨hk,hm⟩ | ⟨hk,c,hc,hcell⟩
 ·exact wpAny_Name (wpAny_loadName_local I.ok.kind hk hn hm fin) hd
 ·rcases hk with hk | hk
  ·exact wpAny_Name (wpAny_loadName_cell I.ok.kind hk hc hcell fin) hd
  ·exact wpAny_Name (wpAny_loadName_free I.ok.kind hk hc hcell fin hcd) hd
theorem abG {i j pos}:PE X (.Constant (.int i) j pos) (tC (.int i)):=fun _ _ _ H _ I h=>wpAny_Constant_int ⟨.int i,H,I.tok _,⟨_,rfl⟩,h⟩
theorem aeX {b j pos}:PE X (.Constant (.bool b) j pos) (tC (.bl b)):=fun _ _ _ H _ I h=>Constant_bool ⟨.bl b,H,I,rfl,h⟩
theorem abH {j pos}:PE X (.Constant .none j pos) (tC .non):=fun _ _ _ H _ I h=>Constant_none ⟨.non,H,I,rfl,h⟩
theorem abI {x j pos}:PE X (.Constant (.str x) j pos) (tC (.str x)):=fun _ _ _ H _ I h=>Calls.Constant_str ⟨.str x,H,I.tok _,⟨_,rfl⟩,h⟩
def Gl (X:Cx) (x:Str):Prop:=X.env.kindOf x=some .globalImplicit
theorem M4 {E:Value->Shared->Prop}{pins:List (Addr×Obj)}{s:Shared}{σ:St}{H:Hp}{x:Str}{u:Value}{pos:Pos}{Q:Value->Shared->Prop} (I:Inv X pins σ H s) (hg:Gl X x) (hm:X.mg x=some u) (h:Q u s)
 (hd:(x==("__debug__":Str))=false:=by decide):wpAny (model X.prog X.w) X.A (eval (.Name x pos) X.env) Q E s:=
 Calls.Name_function_global I.ok.kind hg (Calls.loadGlobal_global (by rw[I.ok.glob];exact I.mod.glob.keeps I.bk) hm h) hd
theorem Ca {E:Value->Shared->Prop}{pins:List (Addr×Obj)}{s:Shared}{σ:St}{H:Hp}{x:Str}{u:Value}{pos:Pos}{Q:Value->Shared->Prop} (I:Inv X pins σ H s) (hg:Gl X x) (hm:X.mg x=none) (hv:bootBuiltins x=some u) (h:Q u s)
 (hn:x≠"__name__":=by decide) (hd:(x==("__debug__":Str))=false:=by decide):wpAny (model X.prog X.w) X.A (eval (.Name x pos) X.env) Q E s:=by
 obtain⟨mb,h1,h2⟩:=I.mod.blt
 exact Calls.Name_function_global I.ok.kind hg (Calls.loadGlobal_builtin (by rw[I.ok.glob];exact I.mod.glob.keeps I.bk) hm (by rw[I.ok.blt];exact h1.keeps I.bk) ((h2 x hn).trans hv) h) hd
theorem Yg {x:Str}{v:V}{u:Value}{pos:Pos} (hg:Gl X x) (hm:X.mg x=some u) (r:RelV v u) (hd:(x==("__debug__":Str))=false:=by decide):PE X (.Name x pos) (tC v):=
 fun _ _ _ H _ I h=>M4 I hg hm ⟨v,H,I,r,h⟩ hd
theorem Yh {x:Str}{v:V}{u:Value}{pos:Pos} (hg:Gl X x) (hm:X.mg x=none) (hv:bootBuiltins x=some u) (r:RelV v u) (hn:x≠"__name__":=by decide) (hd:(x==("__debug__":Str))=false:=by decide):PE X (.Name x pos) (tC v):=
 fun _ _ _ H _ I h=>Ca I hg hm hv ⟨v,H,I,r,h⟩ hn hd
variable {a b:Expr}{ta tb:TE}{pos:Pos}
def PC (X:Cx) (op:CmpOp) (a b:Expr) (t:TE):Prop:=
 ∀(pins:List (Addr×Obj)) (s:Shared) (σ:St) (H:Hp) (Q:VK),Inv X pins σ H s->t σ H Q->
  wpAny (model X.prog X.w) X.A (eval a X.env) (fun v s₁=>wpAny (model X.prog X.w) X.A (eval b X.env) (fun u s₂=>wpAny (model X.prog X.w) X.A (compareOp op v u) (EP X pins σ Q) X.xe s₂) X.xe s₁) X.xe s
def tB (t:TE):TT:=fun σ H Q=>t σ H fun x H1=>∃c,x= .bl c/\Q c H1
theorem Vp {op:CmpOp}{t:TE} (h:PC X op a b t) (h1:behindInMarks op b=false:=by first | exact nobehind _ (by decide) (by decide) | rfl):PT X (.Compare a [op] [b] pos) (tB t):=by
 intro pins s σ H Q I hw
 refine wpAny_isTrue_Compare1 (thn (h pins s σ H _ I hw) fun v s1 h1=>thn h1 fun u s2 h2=>thn h2 fun c s3 ⟨x,H1,I1,r1,q1⟩=> ?_) h1
 obtain⟨d,rfl,q⟩:=q1
 cases r1
 exact wpAny_truthy_bool ⟨H1,I1,q⟩
theorem abJ {e:Expr}{t:TE} (h:PE X e t) (he:∀whole,isTrue e X.env whole=(do let v <-whole;standAt e.pos;holding [v] (truthy v)):=by intro _;rfl):PT X e (tB t):=by
 intro pins s σ H Q I hw
 refine isTrue_plain (thn (h pins s σ H _ I hw) fun v s1 ⟨x,H1,I1,r1,q1⟩=> ?_) (he _)
 obtain⟨d,rfl,q⟩:=q1
 cases r1
 exact wpAny_truthy_bool ⟨H1,I1,q⟩
variable {tA tB':TT}{rest:List Expr}
def aeY (t u:TT):TT:=fun σ H Q=>t σ H fun c H1=>if c=true then u σ H1 Q else Q false H1
def tOr (t u:TT):TT:=fun σ H Q=>t σ H fun c H1=>if c=true then Q true H1 else u σ H1 Q
def aeZ (t:TT):TT:=fun σ H Q=>t σ H fun c H1=>Q (!c) H1
theorem Yi (ha:PT X a tA):PW X (.BoolOp .And [a] pos) tA:=by
 intro wh pins s σ H Q I h
 refine isTrue_and (thn (ha pins s σ H Q I h) fun c s1 e=> ?_)
 cases c with
 | true=>exact isTrue_and_nil e
 | false=>exact e
theorem abK (ha:PT X a tA):PW X (.BoolOp .Or [a] pos) tA:=by
 intro wh pins s σ H Q I h
 refine isTrue_or (thn (ha pins s σ H Q I h) fun c s1 e=> ?_)
 cases c with
 | false=>exact isTrue_or_nil e
 | true=>exact e
theorem abL (ha:PT X a tA) (hb:PW X (.BoolOp .And (b::rest) pos) tB'):PW X (.BoolOp .And (a::b::rest) pos) (aeY tA tB'):=by
 intro wh pins s σ H Q I h
 refine isTrue_and (thn (ha pins s σ H _ I h) fun c s1 ⟨H1,I1,q1⟩=> ?_)
 cases c with
 | true=>exact hb wh pins s1 σ H1 Q I1 q1
 | false=>exact⟨H1,I1,q1⟩
theorem ae0 (ha:PT X a tA) (hb:PW X (.BoolOp .Or (b::rest) pos) tB'):PW X (.BoolOp .Or (a::b::rest) pos) (tOr tA tB'):=by
 intro wh pins s σ H Q I h
 refine isTrue_or (thn (ha pins s σ H _ I h) fun c s1 ⟨H1,I1,q1⟩=> ?_)
 cases c with
 | true=>exact⟨H1,I1,q1⟩
 | false=>exact hb wh pins s1 σ H1 Q I1 q1
theorem abM (ha:PT X a tA):PT X (.UnaryOp .Not a pos) (aeZ tA):=by
 intro pins s σ H Q I h
 exact isTrue_not (ha pins s σ H (fun c H1=>Q (!c) H1) I h)
def aaA (ta tb:TE):TE:=fun σ H Q=>ta σ H fun x H1=>∃c,x= .bl c/\if c=true then tb σ H1 Q else Q (.bl false) H1
def ae1 (ta tb:TE):TE:=fun σ H Q=>ta σ H fun x H1=>∃c,x= .bl c/\if c=true then Q (.bl true) H1 else tb σ H1 Q
def aaB (ta:TE):TE:=fun σ H Q=>ta σ H fun x H1=>∃c,x= .bl c/\Q (.bl (!c)) H1
theorem abN {op}{t:TE} (h:PE X a t):PE X (.BoolOp op [a] pos) t:=fun pins s σ H Q I hw=>BoolOp_one (h pins s σ H Q I hw)
theorem abO (ha:PE X a ta) (hb:PE X (.BoolOp .And (b::rest) pos) tb):PE X (.BoolOp .And (a::b::rest) pos) (aaA ta tb):=by
 intro pins s σ H Q I h
 refine BoolOp_and (thn (ha pins s σ H _ I h) fun v s1 ⟨x,H1,I1,r1,q1⟩=> ?_)
 obtain⟨c,rfl,q1⟩:=q1
 cases r1
 refine wpAny_truthy_bool ?_
 cases c with
 | true=>exact hb pins s1 σ H1 Q I1 q1
 | false=>exact⟨.bl false,H1,I1,rfl,q1⟩
theorem ae2 (ha:PE X a ta) (hb:PE X (.BoolOp .Or (b::rest) pos) tb):PE X (.BoolOp .Or (a::b::rest) pos) (ae1 ta tb):=by
 intro pins s σ H Q I h
 refine BoolOp_or (thn (ha pins s σ H _ I h) fun v s1 ⟨x,H1,I1,r1,q1⟩=> ?_)
 obtain⟨c,rfl,q1⟩:=q1
 cases r1
 refine wpAny_truthy_bool ?_
 cases c with
 | false=>exact hb pins s1 σ H1 Q I1 q1
 | true=>exact⟨.bl true,H1,I1,rfl,q1⟩
theorem abP (ha:PE X a ta):PE X (.UnaryOp .Not a pos) (aaB ta):=by
 intro pins s σ H Q I h
 refine UnaryOp_ (thn (ha pins s σ H _ I h) fun v s1 ⟨x,H1,I1,r1,q1⟩=> ?_)
 obtain⟨c,rfl,q1⟩:=q1
 cases r1
 exact not_of (wpAny_truthy_bool ⟨.bl (!c),H1,I1,rfl,q1⟩)
def tIf (t:TT) (ta tb:TE):TE:=fun σ H Q=>t σ H fun c H1=>if c=true then ta σ H1 Q else tb σ H1 Q
theorem Vq {c:Expr} (hc:PT X c tA) (ha:PE X a ta) (hb:PE X b tb):PE X (.IfExp c a b pos) (tIf tA ta tb):=by
 intro pins s σ H Q I h
 refine wpAny_IfExp (thn (hc pins s σ H _ I h) fun d s1 ⟨H1,I1,q1⟩=> ?_)
 cases d with
 | true=>exact ha pins s1 σ H1 Q I1 q1
 | false=>exact hb pins s1 σ H1 Q I1 q1
end
end L2
namespace L2
open PySem PySem.Spec PyProof.Rows
def SqL (K:PySem.W.Frag) (H:Hp) (a:Addr) (xs:List V):Prop:=
 Rd H a (.lst xs)\/
  ∃(o:Obj) (its:Array Value) (n:Nat),K.lookup a=some o/\o.cls= .type "list"/\o.dict=none/\o.data= .seq its n/\its.size<=sizeLine/\Vals xs its.toList
def SqT (K:PySem.W.Frag) (H:Hp) (a:Addr) (xs:List V):Prop:=
 Rd H a (.tup xs)\/
  ∃(o:Obj) (its:Array Value) (n:Nat),K.lookup a=some o/\o.cls= .type "tuple"/\o.data= .seq its n/\its.size<=sizeLine/\Vals xs its.toList
def ajh:Value->Option V
 | .none=>some .non
 | .bool b=>some (.bl b)
 | .int i _=>some (.int i)
 | .str x _=>some (.str x)
 | .bytes b _=>some (.byt b)
 | .float b _=>some (.flt b)
 | .ref a=>some (.ref a)
 | .type n=>some (.ty n)
 | _=>none
theorem RelV.abs {x:V}{u:Value} (r:RelV x u):ajh u=some x:=by
 cases x with
 | non=>cases r;rfl
 | bl _=>cases r;rfl
 | int _=>obtain⟨t,rfl⟩:=r;rfl
 | str _=>obtain⟨t,rfl⟩:=r;rfl
 | byt _=>obtain⟨t,rfl⟩:=r;rfl
 | flt _=>obtain⟨t,rfl⟩:=r;rfl
 | ref _=>cases r;rfl
 | ty _=>cases r;rfl
theorem RelV.inj {x y:V}{u:Value} (r:RelV x u) (q:RelV y u):x=y:=Option.some.inj (r.abs.symm.trans q.abs)
theorem Vals.inj:∀{xs ys:List V}{us:List Value},Vals xs us->Vals ys us->xs=ys
 | _,_,_, .nil, .nil=>rfl
 | _,_,_, .cons r t, .cons r' t'=>by rw[r.inj r',Vals.inj t t']
section
variable {X:Cx}{pins:List (Addr×Obj)}{σ:St}{H:Hp}{s:Shared}{a:Addr}{xs ys:List V}
theorem SqL.of {K:PySem.W.Frag} (h:H a=some (.lst xs)):SqL K H a xs:= .inl (.inl h)
theorem SqT.of {K:PySem.W.Frag} (h:H a=some (.tup xs)):SqT K H a xs:= .inl (.inl h)
theorem Inv.list (I:Inv X pins σ H s) (h:SqL X.K H a xs):∃its:List Value,Vals xs its/\PlainL s.heap a its.toArray/\xs.length<=sizeLine:=by
 rcases h with h | ⟨o,its,n,hk,hc,hd,hs,hz,r⟩
 ·obtain⟨z,its,n,r,e⟩:=h.ok I.hok
  exact⟨its,r,⟨_,n,e,rfl,rfl,rfl⟩,z⟩
 ·refine⟨its.toList,r,⟨o,n,I.kIn a o hk,hc,hd,by simpa using hs⟩, ?_⟩
  have e:=r.length
  simp only[Array.length_toList] at e
  omega
theorem Inv.tuple (I:Inv X pins σ H s) (h:SqT X.K H a xs):∃its:List Value,Vals xs its/\IsTup s.heap a its.toArray/\xs.length<=sizeLine:=by
 rcases h with h | ⟨o,its,n,hk,hc,hs,hz,r⟩
 ·obtain⟨z,its,r,p⟩:=h.ok I.hok
  exact⟨its,r,p,z⟩
 ·refine⟨its.toList,r,⟨o,I.kIn a o hk,hc,n,by simpa using hs⟩, ?_⟩
  have e:=r.length
  simp only[Array.length_toList] at e
  omega
theorem Inv.Ov (I:Inv X pins σ H s) (h:SqL X.K H a xs) (h':SqL X.K H a ys):xs=ys:=by
 obtain⟨its,r,⟨o,n,e,_,_,d⟩,_⟩:=I.list h
 obtain⟨its',r',⟨o',n',e',_,_,d'⟩,_⟩:=I.list h'
 rw[e] at e';cases e'
 rw[d] at d'
 injection d' with d1 _
 have:its=its':=by simpa using congrArg Array.toList d1
 subst this
 exact r.inj r'
theorem Inv.LQ (I:Inv X pins σ H s) (h:SqT X.K H a xs) (h':SqT X.K H a ys):xs=ys:=by
 obtain⟨its,r,⟨o,e,_,n,d⟩,_⟩:=I.tuple h
 obtain⟨its',r',⟨o',e',_,n',d'⟩,_⟩:=I.tuple h'
 rw[e] at e';cases e'
 rw[d] at d'
 injection d' with d1 _
 have:its=its':=by simpa using congrArg Array.toList d1
 subst this
 exact r.inj r'
end
abbrev Cx.wish (X:Cx) (E:Value->Shared->Prop):Cx:={X with xe:=E}
abbrev Cx.nox (X:Cx):Cx:=X.wish fun _ _=>False
theorem Cx.Ok.wish {X:Cx} (ok:X.Ok) (E:Value->Shared->Prop):(X.wish E).Ok:=
 ⟨ok.mod,ok.kind,ok.glob,ok.blt,ok.above,ok.inj,ok.has,ok.cab,ok.hd,ok.frames,ok.stk,ok.exf,ok.bs,ok.bsz,ok.noex,ok.exfs,ok.funs,ok.frf⟩
theorem Cx.Ok.unwish {X:Cx}{E:Value->Shared->Prop} (ok:(X.wish E).Ok):X.Ok:=
 ⟨ok.mod,ok.kind,ok.glob,ok.blt,ok.above,ok.inj,ok.has,ok.cab,ok.hd,ok.frames,ok.stk,ok.exf,ok.bs,ok.bsz,ok.noex,ok.exfs,ok.funs,ok.frf⟩
section
variable {X:Cx}{pins:List (Addr×Obj)}{σ:St}{H:Hp}{s:Shared}{E:Value->Shared->Prop}
theorem Inv.wish (I:Inv X pins σ H s) (E:Value->Shared->Prop):Inv (X.wish E) pins σ H s:=⟨I.ok.wish E,I.os,I.bare,I.base,I.loc,I.cell,I.free,I.vI,I.pin,I.hok,I.len⟩
theorem Inv.unwish (I:Inv (X.wish E) pins σ H s):Inv X pins σ H s:=⟨I.ok.unwish,I.os,I.bare,I.base,I.loc,I.cell,I.free,I.vI,I.pin,I.hok,I.len⟩
theorem SP.unwish {D:Ends}{f:Flow}{s':Shared} (h:SP (X.wish E) pins D f s'):SP X pins D f s':=by
 cases f with
 | next=>obtain⟨σ',H',I,q⟩:=h;exact⟨σ',H',I.unwish,q⟩
 | brk=>obtain⟨σ',H',I,q⟩:=h;exact⟨σ',H',I.unwish,q⟩
 | cont=>obtain⟨σ',H',I,q⟩:=h;exact⟨σ',H',I.unwish,q⟩
 | ret u=>obtain⟨v,σ',H',I,r,q⟩:=h;exact⟨v,σ',H',I.unwish,r,q⟩
theorem PSs.nox {st:List Stmt}{t:TS} (h:PSs X.nox st t):PSs X st t:=fun pins s σ H D I hw=>
 wpAny_mono (h pins s σ H D (I.wish _) hw) (fun _ _ q=>q.unwish) fun _ _ z=>False.elim z
end
section
variable {X:Cx}{st:Stmt}{rest:List Stmt}{t u:TS}{e:Expr}{te:TE}{pos:Pos}
def Sv:TS:=fun D σ H=>D.nx σ H
def ae3 (t u:TS):TS:=fun D σ H=>t {D with nx:=u D} σ H
theorem Yj:PSs X [] Sv:=fun _ _ σ H _ I h=>wpAny_execs_nil ⟨σ,H,I,h⟩
theorem Vr (h1:PS X st t) (h2:PSs X rest u):PSs X (st::rest) (ae3 t u):=by
 intro pins s σ H D I h
 refine wpAny_execs_cons (thn (h1 pins s σ H {D with nx:=u D} I h) fun f s1 q=> ?_)
 cases f with
 | next=>
   obtain⟨σ',H',I',q⟩:=q
   exact h2 pins s1 σ' H' D I' q
 | ret v=>exact q
 | brk=>exact q
 | cont=>exact q
theorem Yk (h1:PS X st t):PSs X [st] t:=by
 intro pins s σ H D I h
 refine wpAny_execs_cons (thn (h1 pins s σ H D I h) fun f s1 q=> ?_)
 cases f with
 | next=>exact wpAny_execs_nil q
 | ret v=>exact q
 | brk=>exact q
 | cont=>exact q
def Vs:TS:=fun D σ H=>D.bk σ H
def aaC:TS:=fun D σ H=>D.ct σ H
theorem Yl:PS X (.Pass pos) Sv:=fun _ _ σ H _ I h=>wpAny_Pass ⟨σ,H,I,h⟩
theorem Vt:PS X (.Break pos) Vs:=fun _ _ σ H _ I h=>wpAny_Break ⟨σ,H,I,h⟩
theorem Ow:PS X (.Continue pos) aaC:=fun _ _ σ H _ I h=>wpAny_Continue ⟨σ,H,I,h⟩
theorem Inv.quiet {pins:List (Addr×Obj)}{σ:St}{H:Hp}{s:Shared} (I:Inv X pins σ H s):interactive X.env=false:=by simp[interactive,I.ok.kind]
def aaD (te:TE):TS:=fun D σ H=>te σ H fun _ H1=>D.nx σ H1
theorem Ym (he:PE X e te) (hs:swapsWith e none pos.line X.env=pure false:=by rfl):PS X (.Expr e pos) (aaD te):=by
 intro pins s σ H D I h
 exact wpAny_Expr_any (thn (he pins s σ H _ I h) fun v s1 ⟨x,H1,I1,r1,q1⟩=>⟨σ,H1,I1,q1⟩) I.quiet hs
def ae4 (te:TE):TS:=fun D σ H=>te σ H D.rt
theorem abQ (he:PE X e te):PS X (.Return (some e) pos) (ae4 te):=by
 intro pins s σ H D I h
 exact wpAny_Return_some (thn (he pins s σ H _ I h) fun v s1 ⟨x,H1,I1,r1,q1⟩=>⟨x,σ,H1,I1,r1,q1⟩)
def ae5 (c:TT) (t u:TS):TS:=fun D σ H=>c σ H fun b H1=>if b=true then t D σ H1 else u D σ H1
theorem ae6 {c:Expr}{a b:List Stmt}{tc:TT} (hc:PT X c tc) (ha:PSs X a t) (hb:PSs X b u):PS X (.If c a b pos) (ae5 tc t u):=by
 intro pins s σ H D I h
 refine wpAny_If (thn (hc pins s σ H _ I h) fun d s1 ⟨H1,I1,q1⟩=> ?_)
 cases d with
 | true=>exact ha pins s1 σ H1 D I1 q1
 | false=>exact hb pins s1 σ H1 D I1 q1
def Vu:TS:=fun _ _ _=>False
theorem Vv:PS X st Vu:=fun _ _ _ _ _ _ h=>h.elim
end
abbrev TG:=V->St->Hp->(St->Hp->Prop)->Prop
abbrev TGs:=List V->St->Hp->(St->Hp->Prop)->Prop
def PG (X:Cx) (target:Expr) (t:TG):Prop:=
 ∀(pins:List (Addr×Obj)) (s:Shared) (σ:St) (H:Hp) (v:V) (u:Value) (Q:St->Hp->Prop),Inv X pins σ H s->RelV v u->t v σ H Q->
  wpAny (model X.prog X.w) X.A (assign target X.env u) (fun _ s'=>∃σ' H',Inv X pins σ' H' s'/\Q σ' H') X.xe s
def PGs (X:Cx) (ts:List Expr) (t:TGs):Prop:=
 ∀(pins:List (Addr×Obj)) (s:Shared) (σ:St) (H:Hp) (vs:List V) (us:List Value) (Q:St->Hp->Prop),Inv X pins σ H s->Vals vs us->t vs σ H Q->
  wpAny (model X.prog X.w) X.A (assignInOrder ((assignEach ts X.env).map (·.2)) us) (fun _ s'=>∃σ' H',Inv X pins σ' H' s'/\Q σ' H') X.xe s
section
variable {X:Cx}{pos:Pos}
def DR (i:Nat):TG:=fun v σ H Q=>Q (σ.set i (some v)) H
theorem Sw {i:Nat}{x:Str} (hN:X.N.Nodup) (hi:X.N[i]? =some x) (hx:Loc X.env.scope x) (hf:X.fn x=true\/X.env.scope.names.lookup x=some .local:=by first | exact .inl rfl | exact .inr rfl | assumption):PG X (.Name x pos) (DR i):=by
 intro pins s σ H v u Q I r h
 exact wpAny_assign_Name (Ou I hN hi hx r (fun s' I'=>⟨_,H,I',h⟩) hf)
def ae7:TGs:=fun vs σ H Q=>vs=[]/\Q σ H
def aaE (t:TG) (u:TGs):TGs:=fun vs σ H Q=>∃v r,vs=v::r/\t v σ H fun σ' H'=>u r σ' H' Q
theorem Yn:PGs X [] ae7:=by
 intro pins s σ H vs us Q I r h
 obtain⟨e,h⟩:=h
 subst e
 cases r
 exact assignInOrder_nil ⟨σ,H,I,h⟩
theorem Vw {e:Expr}{es:List Expr}{t:TG}{u:TGs} (h1:PG X e t) (h2:PGs X es u)
 (hs:(assignEach (e::es) X.env).map (·.2)=assign e X.env::(assignEach es X.env).map (·.2):=by rfl):PGs X (e::es) (aaE t u):=by
 intro pins s σ H vs us Q I r h
 obtain⟨v,vr,e1,h⟩:=h
 subst e1
 cases r with
 | cons r rr=>
   rw[hs]
   refine assignInOrder_cons (thn (h1 pins s σ H _ _ _ I r h) fun _ s1 ⟨σ1,H1,I1,q1⟩=> ?_)
   exact h2 pins s1 σ1 H1 _ _ Q I1 rr q1
def abR (K:PySem.W.Frag) (n:Nat) (t:TGs):TG:=fun v σ H Q=>∃a xs,v= .ref a/\SqT K H a xs/\xs.length=n/\t xs σ H Q
theorem abS {es:List Expr}{k:Nat}{t:TGs}{n:Nat} (hc:X.calm=true) (h:PGs X es t)
 (hn:(assignEach es X.env).length=n:=by rfl) (hst:(assignEach es X.env).findIdx? (·.1)=none:=by rfl):PG X (.Tuple es k pos) (abR X.K n t):=by
 intro pins s σ H v u Q I r hw
 obtain⟨a,xs,e1,hq,hl,hw⟩:=hw
 subst e1
 cases r
 obtain⟨its,rv,ht,hz⟩:=I.tuple hq
 refine assign_Tuple_tuple (I.ok.hd hc) ht (by simp[hn,<-hl,rv.length]) hst fun h' hx=> ?_
 have I1:Inv X pins σ H {s with heap:=h'}:=I.kept (t':=s.toks) fun b o e=>hx b o (Nat.ne_of_lt (Heap.lt_size e)) e
 exact h pins _ σ H xs _ Q I1 (by simpa using rv) hw
def Um (te:TE) (g:TG):TS:=fun D σ H=>te σ H fun x H1=>g x σ H1 D.nx
theorem abT {tg e:Expr}{te:TE}{g:TG} (he:PE X e te) (hg:PG X tg g) (hs:swapsWithSole [tg] e pos.line X.env=pure false:=by rfl) (hw:swappedStores [tg] e X.env=pure none:=by rfl)
 (h1:(assignEach [tg] X.env).map (·.2)=[assign tg X.env]:=by rfl):PS X (.Assign [tg] e pos) (Um te g):=by
 intro pins s σ H D I h
 refine wpAny_Assign_stores (thn (he pins s σ H _ I h) fun v s1 ⟨x,H1,I1,r1,q1⟩=> ?_) hs hw
 rw[h1]
 exact thn (hg pins s1 σ H1 x v _ I1 r1 q1) fun _ s2 q=>q
theorem abU {i:Nat}{x:Str}{e:Expr}{te:TE}{pos':Pos} (hN:X.N.Nodup) (hi:X.N[i]? =some x) (hx:Loc X.env.scope x) (he:PE X e te) (hs:swapsWith e (some (.Name x pos')) pos.line X.env=pure false:=by rfl) (hf:X.fn x=true\/X.env.scope.names.lookup x=some .local:=by first | exact .inl rfl | exact .inr rfl | assumption):
 PS X (.Assign [.Name x pos'] e pos) (Um te (DR i)):=by
 intro pins s σ H D I h
 refine wpAny_Assign_Name (thn (he pins s σ H _ I h) fun v s1 ⟨y,H1,I1,r1,q1⟩=> ?_) hs
 exact Ou I1 hN hi hx r1 (fun s2 I2=>⟨_,H1,I2,q1⟩) hf
end
section
variable {X:Cx}{pos:Pos}
def Vx (c:TT) (tb:TS):TS:=fun D σ H=>∃W:Nat->St->Hp->Prop,(∃m,W m σ H)/\∀m σ H,W m σ H->
 c σ H fun b H1=>if b=true then∃N:St->Hp->Prop,(∀σ' H',N σ' H'->∃m',m'<m/\W m' σ' H')/\tb {D with nx:=N,ct:=N,bk:=D.nx} σ H1 else D.nx σ H1
theorem Vy {c:Expr}{body:List Stmt}{tc:TT}{tb:TS} (hp:PassesOwn (model X.prog X.w) X.A X.env X.xe) (hc:PT X c tc) (hb:PSs X body tb):PS X (.While c body [] pos) (Vx tc tb):=by
 intro pins s σ H D I h
 obtain⟨W,⟨m0,w0⟩,turn⟩:=h
 refine wpAny_While (codeAny_whileLoop (fun n s'=>∃σ' H',Inv X pins σ' H' s'/\W n σ' H') ?_ m0 ⟨σ,H,I,w0⟩)
 rintro n s1 ⟨σ1,H1,I1,w1⟩
 refine wpAny_passesOwn hp (thn (hc pins s1 σ1 H1 _ I1 (turn n σ1 H1 w1)) fun b s2 ⟨H2,I2,q2⟩=> ?_)
 cases b with
 | true=>
   obtain⟨N,hN,q2⟩:=q2
   rw[if_pos rfl]
   refine wpAny_passesOwn hp (thn (hb pins s2 σ1 H2 _ I2 q2) fun f s3 q3=> ?_)
   cases f with
   | next=>
     obtain⟨σ3,H3,I3,n3⟩:=q3
     obtain⟨m',hm,w3⟩:=hN σ3 H3 n3
     exact⟨m',hm,σ3,H3,I3,w3⟩
   | cont=>
     obtain⟨σ3,H3,I3,n3⟩:=q3
     obtain⟨m',hm,w3⟩:=hN σ3 H3 n3
     exact⟨m',hm,σ3,H3,I3,w3⟩
   | brk=>exact q3
   | ret v=>exact q3
 | false=>
   rw[if_neg Bool.false_ne_true]
   exact wpAny_execs_nil ⟨σ1,H2,I2,q2⟩
end
structure It where
 go:Nat->Hp->Prop
 yld:Nat->Hp->V->Hp->Prop
 stop:Nat->Hp->Prop
def Gh (X:Cx) (pins:List (Addr×Obj)) (H:Hp) (b:Addr):Prop:=
 H b=none/\b≠X.env.locals/\b∉X.fs/\(b∈X.ex\/X.s₀.heap.objs.size<=b)/\(∀x c,X.env.cells.lookup x=some c->c≠b)/\∀p∈X.pn++pins,p.1≠b
theorem Inv.M5 {X:Cx}{pins:List (Addr×Obj)}{σ:St}{H H':Hp}{s:Shared}{b:Addr} (I:Inv X pins σ H s) (hb:s.heap.objs.size<=b) (hn:H' b=none):Gh X pins H' b:=by
 refine⟨hn,Nat.ne_of_gt (Nat.lt_of_lt_of_le I.lt hb),I.nofs hb, .inr (Nat.le_trans I.sz hb),fun x c e z=> ?_,fun p hp z=> ?_⟩
 ·obtain⟨v,q⟩:=I.cell x c e
  exact absurd (Nat.lt_of_lt_of_le q.lt (by rw[z];exact hb)) (Nat.lt_irrefl _)
 ·exact absurd (Nat.lt_of_lt_of_le (Heap.lt_size (I.pin p hp).1) (by rw[z];exact hb)) (Nat.lt_irrefl _)
structure Turn (P:Program) (w:World) (K:PySem.W.Frag) (tg:Expr) (J:It) (fp:List Addr) (it:Addr) (tn:Nat->Heap->Prop):Prop where
 mem:it∈fp
 obj:∀i h,tn i h->∀b∈fp,∃o,h.get? b=some o/\∀v,o.data≠ .cell v
 keep:∀i h h',tn i h->(∀b∈fp,∀o,h.get? b=some o->h'.get? b=some o)->tn i h'
 item:∀(X:Cx),X.prog=P->X.w=w->X.K=K->X.calm=true->∀(i:Nat) (pins:List (Addr×Obj)) (s:Shared) (σ:St) (H:Hp) (E:Value->Shared->Prop),Inv X pins σ H s->(∀b∈fp,Gh X pins H b)->tn i s.heap->J.go i H->
  wpAny (model P w) X.A (pyNext (.ref it)) (fun r s1=>∃u,r=some u/\
   wpAny (model P w) X.A (letOwnedTupleGo tg (.ref it) u) (fun _ s2=>∃x H',Inv X pins σ H' s2/\RelV x u/\J.yld i H x H'/\tn (i+1) s2.heap/\∀b∈fp,H' b=none) E s1) E s
 done:∀(X:Cx),X.prog=P->X.w=w->X.K=K->X.calm=true->∀(i:Nat) (pins:List (Addr×Obj)) (s:Shared) (σ:St) (H:Hp) (E:Value->Shared->Prop),Inv X pins σ H s->(∀b∈fp,Gh X pins H b)->tn i s.heap->J.stop i H->
  wpAny (model P w) X.A (pyNext (.ref it)) (fun r s1=>r=none/\Inv X pins σ H s1) E s
 self:∀(A:Around) (i:Nat) (s:Shared) (Q:Value->Shared->Prop) (E:Value->Shared->Prop),tn i s.heap->Q (.ref it) s->wpAny (model P w) A (pyIter (.ref it)) Q E s
abbrev TI:=St->Hp->(It->Hp->Prop)->Prop
def PIE (X:Cx) (pins:List (Addr×Obj)) (σ:St) (tg:Expr) (R:It->Hp->Prop) (itv:Value) (s2:Shared):Prop:=
 ∃(it:Addr) (fp:List Addr) (tn:Nat->Heap->Prop) (J:It) (H':Hp),itv= .ref it/\Inv X pins σ H' s2/\Turn X.prog X.w X.K tg J fp it tn/\tn 0 s2.heap/\(∀b∈fp,Gh X pins H' b)/\R J H'
def PI (X:Cx) (tg iter:Expr) (wi:TI):Prop:=
 ∀(pins:List (Addr×Obj)) (s:Shared) (σ:St) (H:Hp) (R:It->Hp->Prop),Inv X pins σ H s->wi σ H R->
  wpAny (model X.prog X.w) X.A (eval iter X.env) (fun v s1=>wpAny (model X.prog X.w) X.A (pyIter v) (PIE X pins σ tg R) X.xe s1) X.xe s
theorem Vz {M:Model}{A:Around}{E:Value->Shared->Prop}{s:Shared}{tg:Expr}{it:Addr}{u:Value}{o:Obj}{n:String}{vs:Array Value}{Q:Unit->Shared->Prop} (ho:s.heap.get? it=some o) (hc:o.cls= .type n) (hd:o.data= .fields vs)
 (hn:["enumerate","zip","dict_itemiterator","dict_reverseitemiterator","odict_iterator","itertools.zip_longest","itertools.pairwise"].contains n=false) (hQ:Q () s):wpAny M A (letOwnedTupleGo tg (.ref it) u) Q E s:=by
 unfold letOwnedTupleGo
 cases tg<;>first
  | exact wpAny_pure hQ
  | (cases u<;>first
      | exact wpAny_pure hQ
      | (refine wpAny_bind (wpAny_load ho ?_)
         rw[hc,hd]
         show wpAny M A (if(["enumerate","zip","dict_itemiterator","dict_reverseitemiterator","odict_iterator","itertools.zip_longest","itertools.pairwise"].contains n&&vs[0]? ==some (rawInt _))=true then _ else _) Q E s
         rw[if_neg (by intro h;rw[hn,Bool.false_and] at h;cases h)]
         exact wpAny_pure hQ))
def Itl (K:PySem.W.Frag) (a:Addr):It:=
 ⟨fun i H=>∃xs x,SqL K H a xs/\xs[i]? =some x,fun i H x H'=>H'=H/\∀xs,SqL K H a xs->xs[i]? =some x,fun i H=>∃xs,SqL K H a xs/\xs.length<=i⟩
def Itr (lo:Int) (n:Nat):It:=⟨fun i _=>i<n,fun i H x H'=>H'=H/\x= .int (lo+i),fun i _=>n<=i⟩
theorem Uo {P:Program}{w:World}{K:PySem.W.Frag}{tg:Expr} (a it:Addr):Turn P w K tg (Itl K a) [it] it (fun i h=>h.IsListIter it a i) where
 mem:=by simp
 obj:=fun i h st b hb=>by
  have e:b=it:=by simpa using hb
  subst e
  obtain⟨o,e,c,d⟩:=st
  exact⟨o,e,fun v z=>by rw[d] at z;cases z⟩
 keep:=fun i h h' st k=>st.at fun o e=>k it (by simp) o e
 item:=by
  intro X hP hw hK hc i pins s σ H E I hf st hg
  subst hP hw hK
  obtain⟨xs,x,hq,hx⟩:=hg
  obtain⟨its,rv,p,hz⟩:=I.list hq
  obtain⟨u,hu,ru⟩:=rv.get hx
  obtain⟨f0,f1,f2,f3,f4,f5⟩:=hf it (by simp)
  refine wpAny_pyNext_list_item st p.isList (x:=u) (by simpa using hu) fun h' st' sb=> ?_
  have I1:Inv X pins σ H {s with heap:=h'}:=I.turned (t':=s.toks) (fun b o hb e=>(sb.2 b hb).trans e) f0 f1 f3 f4 f5
  obtain⟨o,e,c,d⟩:=id st'
  exact⟨u,rfl,Vz (s:={s with heap:=h'}) e c d (by decide) ⟨x,H,I1,ru,⟨rfl,fun ys hy=>by rw[I.Ov hy hq];exact hx⟩,st',fun b hb=>(hf b hb).1⟩⟩
 done:=by
  intro X hP hw hK hc i pins s σ H E I hf st hg
  subst hP hw hK
  obtain⟨xs,hq,hx⟩:=hg
  obtain⟨its,rv,p,hz⟩:=I.list hq
  obtain⟨f0,f1,f2,f3,f4,f5⟩:=hf it (by simp)
  have hl:=rv.length
  exact wpAny_pyNext_list_end (I.ok.hd hc) st p.isList (by simp;omega) fun h' eb=>⟨rfl,I.turned (t':=s.toks) (fun b o hb e=>eb b o hb e) f0 f1 f3 f4 f5⟩
 self:=fun _ _ _ _ _ st h=>wpAny_pyIter_listiter st h
theorem Q3 {P:Program}{w:World}{K:PySem.W.Frag}{tg:Expr} (it:Addr) (lo:Int) (n:Nat):Turn P w K tg (Itr lo n) [it] it (fun i h=>IsRangeIter h it (lo+(i:Nat)* 1) ((n:Int) - (i:Nat)) 1) where
 mem:=by simp
 obj:=fun i h st b hb=>by
  have e:b=it:=by simpa using hb
  subst e
  exact⟨_,st,fun v z=>by
   have z':Data.fields _=Data.cell v:=z
   cases z'⟩
 keep:=fun i h h' st k=>k it (by simp) _ st
 item:=by
  intro X hP hw hK hc i pins s σ H E I hf st hg
  subst hP hw hK
  obtain⟨f0,f1,f2,f3,f4,f5⟩:=hf it (by simp)
  have W:=Walks.range (prog:=X.prog) (w:=X.w) (I.ok.hd hc) it lo 1 n
  refine W.item i s _ _ hg st fun v h' tk hv st' kk=> ?_
  obtain⟨t,rfl⟩:=hv
  have I1:Inv X pins σ H {s with heap:=h',toks:=tk}:=I.turned (fun b o hb e=>kk b o (by simpa using hb) e) f0 f1 f3 f4 f5
  refine⟨_,rfl,Vz (s:={s with heap:=h',toks:=tk}) (n:="range_iterator") st' rfl rfl (by decide) ⟨.int (lo+i),H,I1,⟨t, ?_⟩,⟨rfl,rfl⟩,st',fun b hb=>(hf b hb).1⟩⟩
  rw[Int.mul_one]
 done:=by
  intro X hP hw hK hc i pins s σ H E I hf st hg
  subst hP hw hK
  obtain⟨f0,f1,f2,f3,f4,f5⟩:=hf it (by simp)
  exact wpAny_pyNext_range_end (I.ok.hd hc) st (by have:n<=i:=hg;omega) fun h' eb=>⟨rfl,I.turned (t':=s.toks) (fun b o hb e=>eb b o hb e) f0 f1 f3 f4 f5⟩
 self:=fun _ _ _ _ _ st h=>wpAny_pyIter_rangeiter st h
end L2
namespace L2
open PySem PySem.Spec PyProof.Rows
section
variable {X:Cx}{tg:Expr}
def aaF (K:PySem.W.Frag) (tl:TE):TI:=fun σ H R=>tl σ H fun x H1=>∃a,x= .ref a/\(∃xs,SqL K H1 a xs)/\R (Itl K a) H1
theorem Yo {l:Expr}{tl:TE} (hl:PE X l tl):PI X tg l (aaF X.K tl):=by
 intro pins s σ H R I h
 refine thn (hl pins s σ H _ I h) fun v s1 ⟨x,H1,I1,r1,q1⟩=> ?_
 obtain⟨a,e,⟨xs,hq⟩,q⟩:=q1
 subst e
 cases r1
 obtain⟨its,rv,p,hz⟩:=I1.list hq
 refine wpAny_pyIter_list p.isList ?_
 refine⟨s1.heap.objs.size,[s1.heap.objs.size],_,_,H1,rfl,I1.kept (t':=s1.toks) fun b o e=>Heap.get?_push_of_some _ e,Uo a _,⟨_,Heap.get?_push_size _ rfl,rfl,rfl⟩,fun b hb=> ?_,q⟩
 have e:b=s1.heap.objs.size:=by simpa using hb
 subst e
 exact I1.M5 (Nat.le_refl _) (I1.hok.fresh (Nat.le_refl _))
theorem VB {pins:List (Addr×Obj)}{σ:St}{H:Hp}{s:Shared}{R:It->Hp->Prop}{E:Value->Shared->Prop}{lo hi:Int}{t u v:Tok}{tk:Nat} (I:Inv X pins σ H s) (h1: -(2 ^ 62)<=lo) (h2:lo<2 ^ 62) (h3: -(2 ^ 62)<=hi) (h4:hi<2 ^ 62)
 (q:R (Itr lo (hi - lo).toNat) H):wpAny (model X.prog X.w) X.A (pyIter (.ref s.heap.objs.size)) (PIE X pins σ tg R) E {s with heap:=s.heap.push {cls:= .type "range",data:= .fields #[.int lo t, .int hi u, .int 1 v]},toks:=tk}:=by
 refine wpAny_pyIter_range (IsRange.new ..) (small_one h1 h2 h3 h4) ?_
 have I1:Inv X pins σ H {s with heap:=s.heap.push {cls:= .type "range",data:= .fields #[.int lo t, .int hi u, .int 1 v]},toks:=tk}:=I.kept fun b o e=>Heap.get?_push_of_some _ e
 refine⟨(s.heap.push {cls:= .type "range",data:= .fields #[.int lo t, .int hi u, .int 1 v]}).objs.size,[(s.heap.push {cls:= .type "range",data:= .fields #[.int lo t, .int hi u, .int 1 v]}).objs.size],_,_,H,rfl,
  I1.kept (t':=tk) fun b o e=>Heap.get?_push_of_some _ e,Q3 _ lo (hi - lo).toNat, ?_,fun b hb=> ?_,q⟩
 ·have e1:lo+((0:Nat):Int)* 1=lo:=by simp
  have e2:(((hi - lo).toNat:Nat):Int) - ((0:Nat):Int)=Builtin.Range.rangeSize lo hi 1:=by rw[rangeSize_one];split<;>omega
  show IsRangeIter _ _ (lo+((0:Nat):Int)* 1) ((((hi - lo).toNat:Nat):Int) - ((0:Nat):Int)) 1
  rw[e1,e2]
  exact Heap.get?_push_size _ rfl
 ·have e:b=(s.heap.push {cls:= .type "range",data:= .fields #[.int lo t, .int hi u, .int 1 v]}).objs.size:=by simpa using hb
  subst e
  exact I1.M5 (Nat.le_refl _) (I1.hok.fresh (Nat.le_refl _))
def aaG (ta:TA):TI:=fun σ H R=>ta σ H fun vs H1=>∃j:Int,vs=[.int j]/\ -(2 ^ 62)<=j/\j<2 ^ 62/\R (Itr 0 j.toNat) H1
theorem Up {a:Expr}{ta:TA}{p pos:Pos} (hg:Gl X "range") (hm:X.mg "range"=none) (ha:PA X [a] ta) (hs:starEach [a] X.env=[(false,eval a X.env)]:=by rfl):PI X tg (.Call (.Name "range" p) [a] [] pos) (aaG ta):=by
 intro pins s σ H R I h
 refine Call_ (Ca I hg hm boot_range (PyProof.Rows.callWith_type1 (thn (ha pos pins s σ H _ I h) fun us s1 ⟨vs,H1,I1,r1,q1⟩=> ?_) hs rfl))
 obtain⟨j,e,q1,q2,q⟩:=q1
 subst e
 cases r1 with
 | cons r rr=>
   cases rr
   obtain⟨t,rfl⟩:=r
   exact call_range_1 (VB I1 (by omega) (by omega) q1 q2 (by simpa using q))
def ae8 (wi:TI) (g:TG) (tb:TS):TS:=fun D σ H=>wi σ H fun J H1=>∃W:Nat->Nat->St->Hp->Prop,(∃m,W 0 m σ H1)/\∀i m σ H,W i m σ H->
 (J.stop i H/\D.nx σ H)\/(J.go i H/\∃N:St->Hp->Prop,(∀σ' H',N σ' H'->∃m',m'<m/\W (i+1) m' σ' H')/\∀x H',J.yld i H x H'->g x σ H' fun σ2 H2=>tb {D with nx:=N,ct:=N,bk:=D.nx} σ2 H2)
def Jp (fp:List Addr) (h:Heap):List (Addr×Obj):=fp.filterMap fun b=>(h.get? b).map fun o=>(b,o)
theorem wV {fp:List Addr}{h:Heap}{b:Addr}{o:Obj} (hb:b∈fp) (e:h.get? b=some o):(b,o)∈Jp fp h:=List.mem_filterMap.mpr ⟨b,hb,by rw[e];rfl⟩
theorem Uq {fp:List Addr}{h:Heap}{p:Addr×Obj} (hp:p∈Jp fp h):p.1∈fp/\h.get? p.1=some p.2:=by
 obtain⟨b,hb,e⟩:=List.mem_filterMap.mp hp
 cases q:h.get? b with
 | none=>rw[q] at e;cases e
 | some o=>
   rw[q] at e
   have e':(b,o)=p:=Option.some.inj e
   subst e'
   exact⟨hb,q⟩
theorem Inv.pinned {pins:List (Addr×Obj)}{σ:St}{H:Hp}{s:Shared}{fp:List Addr} (I:Inv X pins σ H s) (hf:∀b∈fp,Gh X pins H b) (ho:∀b∈fp,∃o,s.heap.get? b=some o/\∀v,o.data≠ .cell v):Inv X (pins++Jp fp s.heap) σ H s:=
 I.Su fun p hp=>(List.mem_append.mp hp).elim (fun z=>I.pin p (List.mem_append_right _ z)) fun z=>by
   obtain⟨hb,e⟩:=Uq z
   obtain⟨f0,f1,f2,_⟩:=hf p.1 hb
   obtain⟨o,e',d⟩:=ho p.1 hb
   rw[e] at e';cases e'
   exact⟨e,f0,f1,f2,d⟩
theorem Inv.unpinned {pins pl:List (Addr×Obj)}{σ:St}{H:Hp}{s:Shared} (I:Inv X (pins++pl) σ H s):Inv X pins σ H s:=I.Su fun p hp=>I.pin p (List.mem_append_right _ (List.mem_append_left _ hp))
theorem abV {iter:Expr}{body:List Stmt}{wi:TI}{g:TG}{tb:TS}{pos:Pos} (hp:PassesOwn (model X.prog X.w) X.A X.env X.xe) (hc:X.calm=true) (hi:PI X tg iter wi) (hg:PG X tg g) (hb:PSs X body tb)
 (hs:∀x,foldedSetIterable iter X.env x=pure x:=by intro _;rfl):PS X (.For tg iter body [] pos) (ae8 wi g tb):=by
 intro pins s σ H D I h
 refine wpAny_For (thn (hi pins s σ H _ I h) fun v s1 h1=>thn h1 fun itv s2 h2=> ?_) hs
 obtain⟨it,fp,tn,J,H2,e,I2,T,st2,f2,W,⟨m0,w0⟩,turn⟩:=h2
 subst e
 have stat:∀{H':Hp},(∀b∈fp,H' b=none)->∀b∈fp,Gh X pins H' b:=fun hn b hb=>⟨hn b hb,(f2 b hb).2⟩
 refine codeAny_forLoop_any (fun n s'=>∃i σ' H',Inv X pins σ' H' s'/\tn i s'.heap/\(∀b∈fp,H' b=none)/\W i n σ' H') ?_ m0 ⟨0,σ,H2,I2,st2,fun b hb=>(f2 b hb).1,w0⟩
 rintro n s3 ⟨i,σ3,H3,I3,st3,fr3,w3⟩
 rcases turn i n σ3 H3 w3 with⟨stop,qn⟩ | ⟨go,N,hN,step⟩
 ·refine wpAny_passesOwn hp (thn (T.done X rfl rfl rfl hc i pins s3 σ3 H3 X.xe I3 (stat fr3) st3 stop) fun r s4 ⟨hr,I4⟩=> ?_)
  subst hr
  exact wpAny_execs_nil ⟨σ3,H3,I4,qn⟩
 ·refine wpAny_passesOwn hp (thn (T.item X rfl rfl rfl hc i pins s3 σ3 H3 X.xe I3 (stat fr3) st3 go) fun r s4 ⟨u,hr,h4⟩=> ?_)
  subst hr
  refine wpAny_passesOwn hp (thn h4 fun _ s5 ⟨x,H5,I5,r5,y5,st5,fr5⟩=> ?_)
  have I5':=I5.pinned (stat fr5) (T.obj _ _ st5)
  refine wpAny_passesOwn hp (thn (hg _ s5 σ3 H5 x u _ I5' r5 (step x H5 y5)) fun _ s6 ⟨σ6,H6,I6,q6⟩=> ?_)
  refine wpAny_passesOwn hp (thn (hb _ s6 σ6 H6 _ I6 q6) fun f s7 q7=> ?_)
  have again:∀{σ7:St}{H7:Hp},Inv X (pins++Jp fp s5.heap) σ7 H7 s7->N σ7 H7->∃m,m<n/\∃i σ' H',Inv X pins σ' H' s7/\tn i s7.heap/\(∀b∈fp,H' b=none)/\W i m σ' H':=fun{σ7 H7} I7 n7=>by
   obtain⟨m',hm,w7⟩:=hN σ7 H7 n7
   refine⟨m',hm,i+1,σ7,H7,I7.unpinned,T.keep _ _ _ st5 fun b hb o e=>(I7.pin (b,o) (List.mem_append_right _ (List.mem_append_right _ (wV hb e)))).1,fun b hb=> ?_,w7⟩
   obtain⟨o,e,d⟩:=T.obj _ _ st5 b hb
   exact(I7.pin (b,o) (List.mem_append_right _ (List.mem_append_right _ (wV hb e)))).2.1
  cases f with
  | next=>obtain⟨σ7,H7,I7,n7⟩:=q7;exact again I7 n7
  | cont=>obtain⟨σ7,H7,I7,n7⟩:=q7;exact again I7 n7
  | brk=>obtain⟨σ7,H7,I7,q7⟩:=q7;exact⟨σ7,H7,I7.unpinned,q7⟩
  | ret v=>obtain⟨x7,σ7,H7,I7,r7,q7⟩:=q7;exact⟨x7,σ7,H7,I7.unpinned,r7,q7⟩
end
theorem Jq {K:PySem.W.Frag}{a:Addr}{xs:List V}{g:TG}{tb:TS}{D:Ends}{σ:St}{H:Hp} (Pv:Nat->St->Hp->Prop) (h0:Pv 0 σ H) (hl:∀i σ H,i<=xs.length->Pv i σ H->SqL K H a xs)
 (hs:∀i x σ H,xs[i]? =some x->Pv i σ H->g x σ H fun σ2 H2=>tb {D with nx:=Pv (i+1),ct:=Pv (i+1),bk:=D.nx} σ2 H2) (hd:∀σ H,Pv xs.length σ H->D.nx σ H):
 ∃W:Nat->Nat->St->Hp->Prop,(∃m,W 0 m σ H)/\∀i m σ H,W i m σ H->
  ((Itl K a).stop i H/\D.nx σ H)\/((Itl K a).go i H/\∃N:St->Hp->Prop,(∀σ' H',N σ' H'->∃m',m'<m/\W (i+1) m' σ' H')/\∀x H',(Itl K a).yld i H x H'->g x σ H' fun σ2 H2=>tb {D with nx:=N,ct:=N,bk:=D.nx} σ2 H2):=by
 refine⟨fun i m σ H=>m=xs.length - i/\i<=xs.length/\Pv i σ H,⟨xs.length,by simp,Nat.zero_le _,h0⟩, ?_⟩
 rintro i m σ H ⟨rfl,hi,p⟩
 have q:=hl i σ H hi p
 by_cases hlt:i<xs.length
 ·refine .inr ⟨⟨xs,xs[i],q,by simp[hlt]⟩,Pv (i+1),fun σ' H' p'=>⟨xs.length - (i+1),by omega,rfl,hlt,p'⟩,fun x H' y=> ?_⟩
  obtain⟨e,y⟩:=y
  subst e
  exact hs i x σ _ (y xs q) p
 ·have e:i=xs.length:=by omega
  subst e
  exact .inl ⟨⟨xs,q,Nat.le_refl _⟩,hd σ H p⟩
theorem LR {lo:Int}{n:Nat}{g:TG}{tb:TS}{D:Ends}{σ:St}{H:Hp} (Pv:Nat->St->Hp->Prop) (h0:Pv 0 σ H)
 (hs:∀i σ H,i<n->Pv i σ H->g (.int (lo+i)) σ H fun σ2 H2=>tb {D with nx:=Pv (i+1),ct:=Pv (i+1),bk:=D.nx} σ2 H2) (hd:∀σ H,Pv n σ H->D.nx σ H):
 ∃W:Nat->Nat->St->Hp->Prop,(∃m,W 0 m σ H)/\∀i m σ H,W i m σ H->
  ((Itr lo n).stop i H/\D.nx σ H)\/((Itr lo n).go i H/\∃N:St->Hp->Prop,(∀σ' H',N σ' H'->∃m',m'<m/\W (i+1) m' σ' H')/\∀x H',(Itr lo n).yld i H x H'->g x σ H' fun σ2 H2=>tb {D with nx:=N,ct:=N,bk:=D.nx} σ2 H2):=by
 refine⟨fun i m σ H=>m=n - i/\i<=n/\Pv i σ H,⟨n,by simp,Nat.zero_le _,h0⟩, ?_⟩
 rintro i m σ H ⟨rfl,hi,p⟩
 by_cases hlt:i<n
 ·refine .inr ⟨hlt,Pv (i+1),fun σ' H' p'=>⟨n - (i+1),by omega,rfl,hlt,p'⟩,fun x H' y=> ?_⟩
  obtain⟨e,y⟩:=y
  subst e y
  exact hs i σ _ hlt p
 ·have e:i=n:=by omega
  subst e
  exact .inl ⟨Nat.le_refl _,hd σ H p⟩
end L2
namespace L2
open PySem PySem.Spec PyProof.Rows
abbrev R2:=V->V->Hp->VK->Prop
def OpR (X:Cx) (f:Value->Value->Sem Value) (r:R2):Prop:=
 ∀(pins:List (Addr×Obj)) (s:Shared) (σ:St) (H:Hp) (x y:V) (v u:Value) (Q:VK),Inv X pins σ H s->RelV x v->RelV y u->r x y H Q->
  wpAny (model X.prog X.w) X.A (f v u) (EP X pins σ Q) X.xe s
def UnR (X:Cx) (f:Value->Sem Value) (r:V->Hp->VK->Prop):Prop:=
 ∀(pins:List (Addr×Obj)) (s:Shared) (σ:St) (H:Hp) (x:V) (v:Value) (Q:VK),Inv X pins σ H s->RelV x v->r x H Q->
  wpAny (model X.prog X.w) X.A (f v) (EP X pins σ Q) X.xe s
def sU (X:Cx) (f:Value) (r:List V->Hp->VK->Prop):Prop:=
 ∀(pins:List (Addr×Obj)) (s:Shared) (σ:St) (H:Hp) (xs:List V) (us:List Value) (Q:VK),Inv X pins σ H s->Vals xs us->r xs H Q->
  wpAny (model X.prog X.w) X.A (call f us) (EP X pins σ Q) X.xe s
def aji (X:Cx) (r:V->Hp->(Bool->Hp->Prop)->Prop):Prop:=
 ∀(pins:List (Addr×Obj)) (s:Shared) (σ:St) (H:Hp) (x:V) (v:Value) (Q:Bool->Hp->Prop),Inv X pins σ H s->RelV x v->r x H Q->
  wpAny (model X.prog X.w) X.A (truthy v) (TP X pins σ Q) X.xe s
def tOp (r:R2) (ta tb:TE):TE:=fun σ H Q=>ta σ H fun x H1=>tb σ H1 fun y H2=>r x y H2 Q
def tUn (r:V->Hp->VK->Prop) (ta:TE):TE:=fun σ H Q=>ta σ H fun x H1=>r x H1 Q
def rI (C:Int->Int->Prop) (g:Int->Int->V):R2:=fun x y H Q=>∃i j,x= .int i/\y= .int j/\C i j/\Q (g i j) H
def rI0 (g:Int->Int->V):R2:=fun x y H Q=>∃i j,x= .int i/\y= .int j/\Q (g i j) H
def rU (g:Int->V):V->Hp->VK->Prop:=fun x H Q=>∃i,x= .int i/\Q (g i) H
section
variable {X:Cx}{a b c:Expr}{ta tb tc:TE}{pos:Pos}
theorem abW (ha:PE X a ta) (hb:PE X b tb) {pins:List (Addr×Obj)}{s:Shared}{σ:St}{H:Hp}{R:V->V->Hp->Prop} (I:Inv X pins σ H s)
 (h:ta σ H fun x H1=>tb σ H1 fun y H2=>R x y H2) {Q:Value->Shared->Prop}{f:Value->Value->Sem Value}
 (hf:∀v u s2 x y H2,Inv X pins σ H2 s2->RelV x v->RelV y u->R x y H2->wpAny (model X.prog X.w) X.A (f v u) Q X.xe s2):
 wpAny (model X.prog X.w) X.A (eval a X.env) (fun v s₁=>wpAny (model X.prog X.w) X.A (eval b X.env) (fun u s₂=>wpAny (model X.prog X.w) X.A (f v u) Q X.xe s₂) X.xe s₁) X.xe s:=by
 refine thn (ha pins s σ H _ I h) fun v s1 ⟨x,H1,I1,r1,q1⟩=> ?_
 refine thn (hb pins s1 σ H1 _ I1 q1) fun u s2 ⟨y,H2,I2,r2,q2⟩=> ?_
 exact hf v u s2 x y H2 I2 r1 r2 q2
theorem ae9 {op:Operator}{r:R2} (ho:OpR X (binaryOp op) r) (ha:PE X a ta) (hb:PE X b tb):PE X (.BinOp a op b pos) (tOp r ta tb):=by
 intro pins s σ H Q I h
 exact wpAny_BinOp (abW ha hb I h fun v u s2 x y H2 I2 rx ry q=>ho pins s2 σ H2 x y v u Q I2 rx ry q)
theorem afa {op:UnaryOp}{r:V->Hp->VK->Prop} (ho:UnR X (unaryOp op) r) (ha:PE X a ta):PE X (.UnaryOp op a pos) (tUn r ta):=by
 intro pins s σ H Q I h
 exact UnaryOp_ (thn (ha pins s σ H _ I h) fun v s1 ⟨x,H1,I1,r1,q1⟩=>ho pins s1 σ H1 x v Q I1 r1 q1)
theorem opI {f:Value->Value->Sem Value}{C:Int->Int->Prop}{g:Int->Int->Int}
 (rule:∀(i j:Int) (t u:Tok) (s:Shared) (Q:Value->Shared->Prop) (E:Value->Shared->Prop),C i j->Q (.int (g i j) s.toks) {s with toks:=s.toks+1}->wpAny (model X.prog X.w) X.A (f (.int i t) (.int j u)) Q E s):
 OpR X f (rI C fun i j=> .int (g i j)):=by
 intro pins s σ H x y v u Q I rx ry h
 obtain⟨i,j,rfl,rfl,hc,q⟩:=h
 obtain⟨t,rfl⟩:=rx
 obtain⟨t',rfl⟩:=ry
 exact rule i j t t' s _ _ hc ⟨.int (g i j),H,I.tok _,⟨_,rfl⟩,q⟩
theorem afb {f:Value->Value->Sem Value}{g:Int->Int->Int}
 (rule:∀(i j:Int) (t u:Tok) (s:Shared) (Q:Value->Shared->Prop) (E:Value->Shared->Prop),Q (.int (g i j) s.toks) {s with toks:=s.toks+1}->wpAny (model X.prog X.w) X.A (f (.int i t) (.int j u)) Q E s):
 OpR X f (rI0 fun i j=> .int (g i j)):=by
 intro pins s σ H x y v u Q I rx ry h
 obtain⟨i,j,rfl,rfl,q⟩:=h
 obtain⟨t,rfl⟩:=rx
 obtain⟨t',rfl⟩:=ry
 exact rule i j t t' s _ _ ⟨.int (g i j),H,I.tok _,⟨_,rfl⟩,q⟩
theorem afc {f:Value->Value->Sem Value}{g:Int->Int->Bool}
 (rule:∀(i j:Int) (t u:Tok) (s:Shared) (Q:Value->Shared->Prop) (E:Value->Shared->Prop),Q (.bool (g i j)) s->wpAny (model X.prog X.w) X.A (f (.int i t) (.int j u)) Q E s):
 OpR X f (rI0 fun i j=> .bl (g i j)):=by
 intro pins s σ H x y v u Q I rx ry h
 obtain⟨i,j,rfl,rfl,q⟩:=h
 obtain⟨t,rfl⟩:=rx
 obtain⟨t',rfl⟩:=ry
 exact rule i j t t' s _ _ ⟨.bl (g i j),H,I,rfl,q⟩
def VD (i j:Int):Prop:=0<=j/\j<=1000000/\i.natAbs<2 ^ 64
def Gi (i j:Int):Prop:=(-(2 ^ 64)<i/\i<2 ^ 64)\/(-(2 ^ 64)<j/\j<2 ^ 64)
theorem Gi.ok {i j:Int} (h:Gi i j):IntMulOk i j:=by
 rcases h with⟨h1,h2⟩ | ⟨h1,h2⟩
 ·exact .of_left (intBits_le_64 h1 h2)
 ·exact .of_right (intBits_le_64 h1 h2)
theorem abX:OpR X (binaryOp .Add) (rI0 fun i j=> .int (i+j)):=afb fun _ _ _ _ _ _ _ q=>add_int q
theorem abY:OpR X (binaryOp .Sub) (rI0 fun i j=> .int (i - j)):=afb fun _ _ _ _ _ _ _ q=>sub_int q
theorem abZ:OpR X (binaryOp .Mult) (rI Gi fun i j=> .int (i * j)):=opI fun _ _ _ _ _ _ _ hc q=>mul_int q hc.ok
theorem ab0:OpR X (binaryOp .Mod) (rI (fun _ j=>0<j) fun i j=> .int (i % j)):=opI fun i j _ _ _ _ _ hc q=>by
 have h1:(0:Int)<j:=hc
 exact mod_int' (by omega) (by rw[Int.fmod_eq_emod_of_nonneg i (by omega)];exact q)
theorem ab1:OpR X (binaryOp .Pow) (rI VD fun i j=> .int (i ^ j.toNat)):=opI fun _ _ _ _ _ _ _ hc q=>pow_int_small hc.1 hc.2.1 hc.2.2 q
theorem unI {f:Value->Sem Value}{g:Int->Int}
 (rule:∀(i:Int) (t:Tok) (s:Shared) (Q:Value->Shared->Prop) (E:Value->Shared->Prop),Q (.int (g i) s.toks) {s with toks:=s.toks+1}->wpAny (model X.prog X.w) X.A (f (.int i t)) Q E s):
 UnR X f (rU fun i=> .int (g i)):=by
 intro pins s σ H x v Q I rx h
 obtain⟨i,rfl,q⟩:=h
 obtain⟨t,rfl⟩:=rx
 exact rule i t s _ _ ⟨.int (g i),H,I.tok _,⟨_,rfl⟩,q⟩
theorem ab2:UnR X (unaryOp .USub) (rU fun i=> .int (-i)):=unI fun _ _ _ _ _ q=>neg_int q
end
def afd:V->V->Bool
 | .non, .non=>true | .non, .int _=>true | .int _, .non=>true | .non, .bl _=>true | .bl _, .non=>true | .non, .str _=>true | .str _, .non=>true
 | .int _, .int _=>true | .bl _, .bl _=>true | .str _, .str _=>true | .byt _, .byt _=>true
 | .int _, .str _=>true | .str _, .int _=>true | .bl _, .str _=>true | .str _, .bl _=>true
 | _,_=>false
def rEq:R2:=fun x y H Q=>afd x y=true/\Q (.bl (decide (x=y))) H
def rNe:R2:=fun x y H Q=>afd x y=true/\Q (.bl (!decide (x=y))) H
theorem Sx {i j:Int}:decide (V.int i=V.int j)=(i==j):=by
 rw[Bool.eq_iff_iff]
 simp
theorem VF {i j:Bool}:decide (V.bl i=V.bl j)=(i==j):=by
 rw[Bool.eq_iff_iff]
 simp
theorem Sy {i j:Str}:decide (V.str i=V.str j)=(i==j):=by
 rw[Bool.eq_iff_iff]
 simp
theorem SM {i j:Array UInt8}:decide (V.byt i=V.byt j)=(i.toList==j.toList):=by
 rw[Bool.eq_iff_iff]
 cases i
 cases j
 simp
section
variable {X:Cx}{a b c:Expr}{ta tb tc:TE}{pos:Pos}
theorem fK {pins:List (Addr×Obj)}{σ:St}{H:Hp}{s:Shared}{Q:VK}{k k':Bool} (I:Inv X pins σ H s) (q:Q (.bl k) H) (e:k=k'):EP X pins σ Q (.bool k') s:=by
 subst e
 exact⟨.bl k,H,I,rfl,q⟩
theorem afe:OpR X (compareOp .Eq) rEq:=by
 intro pins s σ H x y v u Q I rx ry h
 obtain⟨hs,q⟩:=h
 cases x with
 | non=>
   cases rx
   cases y with
   | non=>cases ry;exact PySem.EqNone.eq_none_none (fK I q (by simp))
   | bl j=>cases ry;exact PySem.EqNone.eq_none_bool (fK I q (by simp))
   | int j=>obtain⟨t',rfl⟩:=ry;exact PySem.EqNone.eq_none_int (fK I q (by simp))
   | str j=>obtain⟨t',rfl⟩:=ry;exact PySem.EqNone.eq_none_str (fK I q (by simp))
   | _=>exact absurd (show false=true from hs) Bool.false_ne_true
 | bl i=>
   cases rx
   cases y with
   | non=>cases ry;exact PySem.EqNone.eq_bool_none (fK I q (by simp))
   | bl j=>cases ry;exact eq_bool (fK I q VF)
   | str j=>obtain⟨t',rfl⟩:=ry;exact PySem.EqMixed.eq_bool_str (fK I q (by simp))
   | _=>exact absurd (show false=true from hs) Bool.false_ne_true
 | int i=>
   obtain⟨t,rfl⟩:=rx
   cases y with
   | non=>cases ry;exact PySem.EqNone.eq_int_none (fK I q (by simp))
   | int j=>obtain⟨t',rfl⟩:=ry;exact eq_int (fK I q Sx)
   | str j=>obtain⟨t',rfl⟩:=ry;exact PySem.EqMixed.eq_int_str (fK I q (by simp))
   | _=>exact absurd (show false=true from hs) Bool.false_ne_true
 | str i=>
   obtain⟨t,rfl⟩:=rx
   cases y with
   | non=>cases ry;exact PySem.EqNone.eq_str_none (fK I q (by simp))
   | bl j=>cases ry;exact PySem.EqMixed.eq_str_bool (fK I q (by simp))
   | int j=>obtain⟨t',rfl⟩:=ry;exact PySem.EqMixed.eq_str_int (fK I q (by simp))
   | str j=>obtain⟨t',rfl⟩:=ry;exact eq_str (fK I q Sy)
   | _=>exact absurd (show false=true from hs) Bool.false_ne_true
 | byt i=>
   obtain⟨t,rfl⟩:=rx
   cases y with
   | byt j=>obtain⟨t',rfl⟩:=ry;exact PySem.W.eq_bytes (fK I q SM)
   | _=>exact absurd (show false=true from hs) Bool.false_ne_true
 | _=>cases y<;>exact absurd (show false=true from hs) Bool.false_ne_true
theorem afg:OpR X (compareOp .NotEq) rNe:=by
 intro pins s σ H x y v u Q I rx ry h
 obtain⟨hs,q⟩:=h
 cases x with
 | non=>
   cases rx
   cases y with
   | non=>cases ry;exact PySem.EqNone.ne_none_none (fK I q (by simp))
   | bl j=>cases ry;exact PySem.EqNone.ne_none_bool (fK I q (by simp))
   | int j=>obtain⟨t',rfl⟩:=ry;exact PySem.EqNone.ne_none_int (fK I q (by simp))
   | str j=>obtain⟨t',rfl⟩:=ry;exact PySem.EqNone.ne_none_str (fK I q (by simp))
   | _=>exact absurd (show false=true from hs) Bool.false_ne_true
 | bl i=>
   cases rx
   cases y with
   | non=>cases ry;exact PySem.EqNone.ne_bool_none (fK I q (by simp))
   | bl j=>cases ry;exact ne_bool (fK I q (congrArg not VF))
   | str j=>obtain⟨t',rfl⟩:=ry;exact PySem.EqMixed.ne_bool_str (fK I q (by simp))
   | _=>exact absurd (show false=true from hs) Bool.false_ne_true
 | int i=>
   obtain⟨t,rfl⟩:=rx
   cases y with
   | non=>cases ry;exact PySem.EqNone.ne_int_none (fK I q (by simp))
   | int j=>obtain⟨t',rfl⟩:=ry;exact ne_int (fK I q (congrArg not Sx))
   | str j=>obtain⟨t',rfl⟩:=ry;exact PySem.EqMixed.ne_int_str (fK I q (by simp))
   | _=>exact absurd (show false=true from hs) Bool.false_ne_true
 | str i=>
   obtain⟨t,rfl⟩:=rx
   cases y with
   | non=>cases ry;exact PySem.EqNone.ne_str_none (fK I q (by simp))
   | bl j=>cases ry;exact PySem.EqMixed.ne_str_bool (fK I q (by simp))
   | int j=>obtain⟨t',rfl⟩:=ry;exact PySem.EqMixed.ne_str_int (fK I q (by simp))
   | str j=>obtain⟨t',rfl⟩:=ry;exact ne_str (fK I q (congrArg not Sy))
   | _=>exact absurd (show false=true from hs) Bool.false_ne_true
 | byt i=>
   obtain⟨t,rfl⟩:=rx
   cases y with
   | byt j=>obtain⟨t',rfl⟩:=ry;exact PySem.W.ne_bytes (fK I q (congrArg not SM))
   | _=>exact absurd (show false=true from hs) Bool.false_ne_true
 | _=>cases y<;>exact absurd (show false=true from hs) Bool.false_ne_true
theorem afh:OpR X (compareOp .Lt) (rI0 fun i j=> .bl (decide (i<j))):=afc fun _ _ _ _ _ _ _ q=>lt_int q
theorem afi:OpR X (compareOp .Gt) (rI0 fun i j=> .bl (decide (j<i))):=afc fun _ _ _ _ _ _ _ q=>gt_int q
theorem ab3:OpR X (compareOp .Is) (fun x y H Q=>y= .non/\Q (.bl (decide (x= .non))) H):=by
 intro pins s σ H x y v u Q I rx ry h
 obtain⟨rfl,q⟩:=h
 cases ry
 refine is_none_gen (fK I q ?_)
 cases x<;>first
  | (cases rx;rfl)
  | (obtain⟨t,rfl⟩:=rx;rfl)
theorem ab4 (b:Expr) {op:CmpOp} (h:op≠ .In:=by decide) (h2:op≠ .NotIn:=by decide):behindInMarks op b=false:=by
 have e1:(op==CmpOp.In)=false:=by cases op<;>first | rfl | exact absurd rfl h
 have e2:(op==CmpOp.NotIn)=false:=by cases op<;>first | rfl | exact absurd rfl h2
 cases b<;>simp[behindInMarks,e1,e2]
theorem Yp {op:CmpOp}{r:R2} (ho:OpR X (compareOp op) r) (ha:PE X a ta) (hb:PE X b tb) (hm:behindInMarks op b=false):PE X (.Compare a [op] [b] pos) (tOp r ta tb):=by
 intro pins s σ H Q I h
 exact wpAny_Compare1 (abW ha hb I h fun v u s2 x y H2 I2 rx ry q=>ho pins s2 σ H2 x y v u Q I2 rx ry q) hm
def aaH (t:TE):TT:=fun σ H Q=>t σ H fun x H'=>∃k,x= .bl k/\Q k H'
theorem Yq {op:CmpOp}{r:R2} (ho:OpR X (compareOp op) r) (ha:PE X a ta) (hb:PE X b tb) (hm:behindInMarks op b=false):PT X (.Compare a [op] [b] pos) (aaH (tOp r ta tb)):=by
 intro pins s σ H Q I h
 refine wpAny_isTrue_Compare1 (thn (ha pins s σ H _ I h) fun v s1 ⟨x,H1,I1,r1,q1⟩=>thn (hb pins s1 σ H1 _ I1 q1) fun u s2 ⟨y,H2,I2,r2,q2⟩=>
  thn (ho pins s2 σ H2 x y v u _ I2 r1 r2 q2) fun c s3 ⟨z,H3,I3,r3,k,e,q3⟩=> ?_) hm
 subst e
 cases r3
 exact wpAny_truthy_bool ⟨H3,I3,q3⟩
def ab5 (K:PySem.W.Frag) (x:V) (H:Hp) (k:Bool):Prop:=
 match x with
 | .non=>k=false
 | .bl b=>k=b
 | .int i=>k=(i !=0)
 | .str y=>y.length<=sizeLine/\k=((y.length:Int) !=0)
 | .byt y=>y.size<=sizeLine/\k=((y.size:Int) !=0)
 | .ref p=>(∃xs,SqL K H p xs/\k= !xs.isEmpty)\/(∃xs,SqT K H p xs/\k= !xs.isEmpty)\/∃kvs,H p=some (.dK kvs)/\k= !kvs.isEmpty
 | _=>False
theorem Q4 {κ:Type}{kvs:List (κ×V)}{vs:List (κ×Value)} (r:KV kvs vs):(!vs.isEmpty)= !kvs.isEmpty:=by
 cases r<;>rfl
theorem Jr {xs:List V}{its:List Value} (r:Vals xs its):(!its.toArray.isEmpty)= !xs.isEmpty:=by
 cases r<;>simp
theorem Js:(sizeLine:Nat)<2 ^ 63:=by rw[sizeLine_eq];decide
theorem ab6:aji X (fun x H Q=>∃k,ab5 X.K x H k/\Q k H):=by
 intro pins s σ H x v Q I rx h
 obtain⟨k,e,q⟩:=h
 have hl:=Js
 have hs:sizeLine=16777216:=sizeLine_eq
 cases x with
 | non=>
   cases rx
   have e':k=false:=e
   subst e'
   exact truthy_none ⟨H,I,q⟩
 | bl b=>
   cases rx
   have e':k=b:=e
   subst e'
   exact wpAny_truthy_bool ⟨H,I,q⟩
 | int i=>
   obtain⟨t,rfl⟩:=rx
   have e':k=(i !=0):=e
   subst e'
   exact PySem.P.truthy_int ⟨H,I,q⟩
 | str y=>
   obtain⟨t,rfl⟩:=rx
   obtain⟨hy,e'⟩:y.length<=sizeLine/\k=((y.length:Int) !=0):=e
   subst e'
   exact PySem.P.truthy_str (by omega) ⟨H,I.tok _,q⟩
 | byt y=>
   obtain⟨t,rfl⟩:=rx
   obtain⟨hy,e'⟩:y.size<=sizeLine/\k=((y.size:Int) !=0):=e
   subst e'
   exact PySem.W.truthy_bytes (by omega) ⟨H,I.tok _,q⟩
 | ref p=>
   cases rx
   have e':(∃xs,SqL X.K H p xs/\k= !xs.isEmpty)\/(∃xs,SqT X.K H p xs/\k= !xs.isEmpty)\/∃kvs,H p=some (.dK kvs)/\k= !kvs.isEmpty:=e
   rcases e' with⟨xs,hx,e'⟩ | ⟨xs,hx,e'⟩ | ⟨kvs,hx,e'⟩
   ·subst e'
    obtain⟨its,r,pl,hz⟩:=I.list hx
    have hlen:=r.length
    exact wpAny_truthy_list pl.isList (by simp only[List.size_toArray];omega) ⟨H,I.tok _,by rw[Jr r];exact q⟩
   ·subst e'
    obtain⟨its,r,pl,hz⟩:=I.tuple hx
    have hlen:=r.length
    exact truthy_tuple pl (by simp only[List.size_toArray];omega) ⟨H,I.tok _,by rw[Jr r];exact q⟩
   ·subst e'
    obtain⟨hz,hS,vs,r,m⟩:kvs.length<=sizeLine/\(p==sysModules)=false/\∃vs,KV kvs vs/\s.heap.DictOf (dY X.prog X.w) p vs:=I.hok p _ hx
    have hlen:kvs.length=vs.length:=Paired.length r
    exact wpAny_truthy_dict hS m (by omega) ⟨H,I.tok _,by rw[Q4 r];exact q⟩
 | _=>exact(show False from e).elim
theorem VG (ha:PE X a ta) (he:∀whole,isTrue a X.env whole=(do let v <-whole;standAt a.pos;holding [v] (truthy v))):
 PT X a (fun σ H Q=>ta σ H fun x H'=>∃k,ab5 X.K x H' k/\Q k H'):=by
 intro pins s σ H Q I h
 exact isTrue_plain (thn (ha pins s σ H _ I h) fun v s1 ⟨x,H1,I1,r1,q1⟩=>ab6 pins s1 σ H1 x v Q I1 r1 q1) (he _)
theorem Q5:OpR X (binaryOp .Add) (fun x y H Q=>∃i j,x= .str i/\y= .str j/\i.length+j.length<=sizeLine/\Q (.str (i++j)) H):=by
 intro pins s σ H x y v u Q I rx ry h
 obtain⟨i,j,rfl,rfl,hz,q⟩:=h
 obtain⟨t,rfl⟩:=rx
 obtain⟨t',rfl⟩:=ry
 exact add_str (fun t' tk=>⟨.str (i++j),H,I.tok _,⟨_,rfl⟩,q⟩) hz
theorem vals1 {x:V}{us:List Value} (r:Vals [x] us):∃u,us=[u]/\RelV x u:=by
 cases r with
 | cons r1 r2=>cases r2;exact⟨_,rfl,r1⟩
theorem vals2 {x y:V}{us:List Value} (r:Vals [x,y] us):∃u w',us=[u,w']/\RelV x u/\RelV y w':=by
 cases r with
 | cons r1 r2=>
   cases r2 with
   | cons r3 r4=>cases r4;exact⟨_,_,rfl,r1,r3⟩
theorem Ur (hc:X.calm=true):sU X (.builtin "max") (fun xs H Q=>∃i j,xs=[.int i, .int j]/\Q (.int (if j>i then j else i)) H):=by
 intro pins s σ H xs us Q I r h
 obtain⟨i,j,rfl,q⟩:=h
 obtain⟨u,w',rfl,⟨t,rfl⟩,⟨t',rfl⟩⟩:=vals2 r
 refine max_two_ints (I.ok.hd hc) fun h' tk k=>⟨_,H,I.kept k, ?_,q⟩
 by_cases hj:j>i
 ·rw[if_pos hj,if_pos hj];exact⟨_,rfl⟩
 ·rw[if_neg hj,if_neg hj];exact⟨_,rfl⟩
theorem Us:sU X (.type "int") (fun xs H Q=>(∃i,xs=[.int i]/\Q (.int i) H)\/∃k,xs=[.bl k]/\Q (.int (if k then 1 else 0)) H):=by
 intro pins s σ H xs us Q I r h
 rcases h with⟨i,rfl,q⟩ | ⟨k,rfl,q⟩
 ·obtain⟨u,rfl,t,rfl⟩:=vals1 r
  exact call_int_int ⟨.int i,H,I,⟨_,rfl⟩,q⟩
 ·obtain⟨u,rfl,r1⟩:=vals1 r
  cases r1
  exact call_int_bool ⟨.int (if k then 1 else 0),H,I.tok _,⟨_,rfl⟩,q⟩
end
end L2
namespace L2
open PySem PySem.Spec PyProof.Rows
structure Q6 (h:Heap) (x dx C:Addr) (mA:Str->Option Value):Prop where
 obj:h.get? x=some (PySem.W.instObj C dx)
 ns:h.Ns1 dx mA
 ne:dx≠x
theorem Ut {h:Heap}{dx:Addr}{mA:Str->Option Value} (n:h.Ns1 dx mA):∃od,h.get? dx=some od/\∀name,PySem.W.lookIn name od=some (mA name):=by
 obtain⟨o,es,ep,ho,hd,hk,_,hm⟩:=n
 refine⟨o,ho,fun name=> ?_⟩
 have e:=hm name
 unfold nsFind findBy at e
 rw[<-Array.find?_toList] at e
 unfold PySem.W.lookIn
 rw[hd]
 dsimp only
 split
 ·rename_i y q
  rw[q] at e
  exact congrArg some e
 ·rename_i q
  rw[q] at e
  have a:es.toList.any (·.refKey)=false:=by
   rw[List.any_eq_false]
   intro y hy
   obtain⟨z,t,hkey⟩:=hk y (Array.mem_toList_iff.mp hy)
   simp[DictEntry.refKey,hkey]
  have a':¬es.toList.any (·.refKey)=true:=by rw[a];exact Bool.false_ne_true
  rw[if_neg a']
  exact congrArg some e
theorem Q6.look {h:Heap}{x dx C:Addr}{mA:Str->Option Value} (I:Q6 h x dx C mA):∃od,PySem.W.InstAt h x (PySem.W.instObj C dx) C (some od)/\∀name,PySem.W.lookIn name od=some (mA name):=
 let ⟨od,ho,hl⟩:=Ut I.ns
 ⟨od,⟨I.obj,rfl,rfl,ho⟩,hl⟩
section
variable {prog:Program}{w:World}{A:Around}{E:Value->Shared->Prop}{s:Shared}{K:PySem.W.Frag}{x dx C f:Addr}{mA:Str->Option Value}{name:Str}{v:Value}
theorem get_map {expr:Bool}{Q:Value->Shared->Prop} (X:K.In s.heap) (I:Q6 s.heap x dx C mA) (hg:PySem.W.plainGet K C name=true) (hh:PySem.W.hasDictIn K C=true)
 (ha:PySem.W.findIn K (.ref C) name=some none) (hv:mA name=some v) (hv':PySem.W.handedIn v=true) (h:Q v {s with toks:=s.toks+1}):
 wpAny (model prog w) A (getAttr (.ref x) name expr) Q E s:=by
 obtain⟨od,J,hl⟩:=I.look
 exact PySem.W.get_value X J (PySem.W.plainGet_of hg).1 (PySem.W.findObj_own hh ha rfl (by rw[hl,hv])) hv' h
theorem VH {pl:Sem Bool}{Q:Value×List Value->Shared->Prop} (X:K.In s.heap) (I:Q6 s.heap x dx C mA) (hg:PySem.W.plainGet K C name=true)
 (hf:PySem.W.findIn K (.ref C) name=some (some (.ref f))) (ht:PySem.W.isFn K (.ref f)=true) (hv:mA name=none) (h:Q (.ref f,[.ref x]) s):
 wpAny (model prog w) A (getMethod (.ref x) name pl) Q E s:=by
 obtain⟨od,J,hl⟩:=I.look
 exact PySem.W.method_fn X J (PySem.W.plainGet_of hg).1 (PySem.W.plainGet_of hg).2 hf (beq_iff_eq.mp ht) (by show(PySem.W.lookIn name od).map (·.isSome)=some false;rw[hl,hv];rfl) h
theorem Yr {ns:List Str}{Q:Unit->Shared->Prop} (X:K.In s.heap) (I:Q6 s.heap x dx C mA)
 (hs:PySem.W.findIn K (.ref C) "__setattr__"=some (some (.builtin "object.__setattr__"))) (hp:PySem.W.plainOver K C=true) (ht:PySem.W.takerIn K C name=some none) (hh:PySem.W.hasDictIn K C=true)
 (hw:PySem.Within mA ns) (hsz:ns.length<=sizeLine)
 (h:∀h',Q6 h' x dx C (fun y=>if y=name then some v else mA y)->Heap.SameBut dx s.heap h'->Q () {s with heap:=h',toks:=s.toks+2}):
 wpAny (model prog w) A (setAttr (.ref x) name v) Q E s:=by
 obtain⟨od,J,hl⟩:=I.look
 refine PySem.W.set_plain X J hs (PySem.W.osa_open (s:={s with toks:=s.toks+1}) (r:=none) X J hp ht fun b=> ?_)
 obtain⟨cd,hc,hd'⟩:=PySem.W.any_some hh
 have hx:s.heap.get? x=some ⟨.ref C,some dx, .plain, #[]⟩:=I.obj
 refine wpAny_bind (wpAny_pure (wpAny_bind (wpAny_bind (wpAny_loadPart hx (wpAny_bind (PySem.W.Looks.here (s:={s with toks:=s.toks+1}) (PySem.W.looks_clsIn X hc) ?_))))))
 rw[hd']
 refine wpAny_pure (a:=some dx) (wpAny_bind (wpAny_pure (wpAny_bind ?_)))
 refine wpAny_nsSet1 (s:={s with toks:=s.toks+1}) I.ns fun h' hn2 hs2=> ?_
 obtain⟨oD,esD,epD,hoD,hdD,hcD⟩:=hn2.count (PySem.Within.cons name v hw)
 refine wpAny_bind (wpAny_lookBehind hoD (by rw[hdD];exact pastItsLine_dict (Nat.le_trans hcD (by rw[List.length_cons];omega))) ?_)
 exact wpAny_pure (h _ ⟨(hs2.2 _ (Ne.symm I.ne)).trans I.obj,hn2,I.ne⟩ hs2)
theorem VJ {R:Result->Shared->Prop}{vs:List Value}{kw:List (Str×Value)} (X:K.In s.heap) (hm:PySem.W.makesIn K C=true)
 (hi:PySem.W.findIn K (.ref C) "__init__"=some (some (.ref f))) (hf:PySem.W.typeIn K (.ref f)=some (.type "function"))
 (h:codeAny (model prog w) (A.under (.builtin "type.__call__" ⟨.ref C::vs,kw⟩)) (.call (.ref f) ⟨.ref (s.heap.objs.size+1)::vs,kw⟩) (PySem.W.InitBack (s.heap.objs.size+1) R)
   {s with heap:=(s.heap.push PySem.W.emptyDict).push (PySem.W.instObj C s.heap.objs.size)}):
 codeAny (model prog w) A (.call (.ref C) ⟨vs,kw⟩) R s:=by
 obtain⟨hh,g,d,t,os⟩:=s
 exact PySem.W.make_core (PySem.W.makes_of X hm) (PySem.W.looks_findIn X hi) (fun self=>PySem.W.bind_fn X self hf) (.inl rfl) h
end
def bx (f:Str) (v:V):List (Str×V)->List (Str×V)
 |[]=>[(f,v)]
 | (g,x)::r=>if g=f then(g,v)::r else(g,x)::bx f v r
theorem HJ (f g:Str) (v:V):∀fs:List (Str×V),(bx f v fs).lookup g=if g=f then some v else fs.lookup g
 |[]=>by
  show List.lookup g [(f,v)]=_
  by_cases h:g=f
  ·have hb:(g==f)=true:=beq_iff_eq.mpr h
   simp only[List.lookup,hb,if_pos h]
  ·have hb:(g==f)=false:=beq_eq_false_iff_ne.mpr h
   simp only[List.lookup,hb,if_neg h]
 | (k,x)::r=>by
   have ih:=HJ f g v r
   rw[show bx f v ((k,x)::r)=(if k=f then(k,v)::r else(k,x)::bx f v r) from rfl]
   by_cases hk:k=f
   ·rw[if_pos hk]
    by_cases h:g=k
    ·have hb:(g==k)=true:=beq_iff_eq.mpr h
     simp only[List.lookup,hb,if_pos (h.trans hk)]
    ·have hb:(g==k)=false:=beq_eq_false_iff_ne.mpr h
     simp only[List.lookup,hb,if_neg (fun e:g=f=>h (e.trans hk.symm))]
   ·rw[if_neg hk]
    by_cases h:g=k
    ·have hb:(g==k)=true:=beq_iff_eq.mpr h
     simp only[List.lookup,hb,if_neg (fun e:g=f=>hk (h.symm.trans e))]
    ·have hb:(g==k)=false:=beq_eq_false_iff_ne.mpr h
     simp only[List.lookup,hb]
     exact ih
theorem Gj (f:Str) (v:V):∀fs:List (Str×V),f∈(bx f v fs).map (·.1)/\∀g,g∈fs.map (·.1)->g∈(bx f v fs).map (·.1)
 |[]=>⟨by simp[bx],fun g h=>by simp at h⟩
 | (k,x)::r=>by
   obtain⟨i1,i2⟩:=Gj f v r
   rw[show bx f v ((k,x)::r)=(if k=f then(k,v)::r else(k,x)::bx f v r) from rfl]
   by_cases hk:k=f
   ·rw[if_pos hk]
    subst hk
    exact⟨by simp,fun g h=>by simpa using h⟩
   ·rw[if_neg hk]
    refine⟨?_,fun g h=> ?_⟩
    ·rw[List.map_cons]
     exact List.mem_cons_of_mem _ i1
    ·rw[List.map_cons] at h ⊢
     rcases List.mem_cons.mp h with e | e
     ·exact List.mem_cons.mpr (.inl e)
     ·exact List.mem_cons_of_mem _ (i2 g e)
theorem HN (f:Str) (v:V):∀fs:List (Str×V),(bx f v fs).length<=fs.length+1
 |[]=>by simp[bx]
 | (k,x)::r=>by
   have ih:=HN f v r
   rw[show bx f v ((k,x)::r)=(if k=f then(k,v)::r else(k,x)::bx f v r) from rfl]
   by_cases hk:k=f
   ·rw[if_pos hk,List.length_cons,List.length_cons];omega
   ·rw[if_neg hk,List.length_cons,List.length_cons];omega
theorem wQ.some_of {v:V}{o:Option Value} (r:wQ (some v) o):∃u,o=some u/\RelV v u:=by
 cases o with
 | none=>exact(show False from r).elim
 | some u=>exact⟨u,rfl,r⟩
theorem wQ.none_of {o:Option Value} (r:wQ none o):o=none:=by
 cases o with
 | none=>rfl
 | some u=>exact(show False from r).elim
theorem Uu {v:V}{u:Value} (r:RelV v u):PySem.W.handedIn u=true:=by
 cases v with
 | non=>cases(show u=Value.none from r);rfl
 | bl b=>cases(show u=Value.bool b from r);rfl
 | int i=>obtain⟨t,e⟩:=(show∃t,u=Value.int i t from r);cases e;rfl
 | str x=>obtain⟨t,e⟩:=(show∃t,u=Value.str x t from r);cases e;rfl
 | byt b=>obtain⟨t,e⟩:=(show∃t,u=Value.bytes b t from r);cases e;rfl
 | flt b=>obtain⟨t,e⟩:=(show∃t,u=Value.float b t from r);cases e;rfl
 | ref a=>cases(show u=Value.ref a from r);rfl
 | ty n=>cases(show u=Value.type n from r);rfl
section
variable {P:Program}{w:World}{H H':Hp}{h h':Heap}{a C dx:Addr}{fs fs':List (Str×V)}
theorem Je (hok:HOk P w H h) (e:H a=some (.ins C dx fs)):∃mA,Q6 h a dx C mA/\(∀f,wQ (fs.lookup f) (mA f))/\PySem.Within mA (fs.map (·.1))/\fs.length<=1000/\H dx=some (.own a):=by
 obtain⟨d,z,ne,ob,mA,n,r,q⟩:=(show fX P w H h a (.ins C dx fs) from hok a _ e)
 exact⟨mA,⟨ob,n,ne⟩,r,q,z,d⟩
end
structure Cls (K:PySem.W.Frag) (C:Addr):Prop where
 pg:PySem.W.plainGet K C Str.empty=true
 hd:PySem.W.hasDictIn K C=true
 po:PySem.W.plainOver K C=true
 sa:PySem.W.findIn K (.ref C) "__setattr__"=some (some (.builtin "object.__setattr__"))
theorem Cls.get {K:PySem.W.Frag}{C:Addr} (c:Cls K C) (f:Str):PySem.W.plainGet K C f=true:=c.pg
def jU (K:PySem.W.Frag) (C:Addr) (f:Str):Prop:=PySem.W.findIn K (.ref C) f=some none
theorem jU.taker {K:PySem.W.Frag}{C:Addr}{f:Str} (n:jU K C f):PySem.W.takerIn K C f=some none:=by
 unfold PySem.W.takerIn
 rw[show PySem.W.findIn K (.ref C) f=some none from n]
 rfl
structure Meth (K:PySem.W.Frag) (C:Addr) (m:Str) (f:Addr):Prop where
 at_:PySem.W.findIn K (.ref C) m=some (some (.ref f))
 fn:PySem.W.isFn K (.ref f)=true
 kp:PySem.W.keepIn K (.ref f)=true
section
variable {X:Cx}{pins:List (Addr×Obj)}{σ:St}{H:Hp}{s:Shared}{a C dx:Addr}{fs:List (Str×V)}{f:Str}{v:V}{A:Around}{E:Value->Shared->Prop}
theorem Q7 {b:Bool}{Q:Value->Shared->Prop} (I:Inv X pins σ H s) (e:H a=some (.ins C dx fs)) (c:Cls X.K C) (n:jU X.K C f) (l:fs.lookup f=some v)
 (h:∀u s',Inv X pins σ H s'->RelV v u->Q u s'):wpAny (model X.prog X.w) A (getAttr (.ref a) f b) Q E s:=by
 obtain⟨mA,O,r,_,_,_⟩:=Je I.hok e
 obtain⟨u,hu,ru⟩:=wQ.some_of (v:=v) (o:=mA f) (by rw[<-l];exact r f)
 exact get_map I.kIn O (c.get f) c.hd n hu (Uu ru) (h u _ (I.tok _) ru)
theorem Jt {m:Str}{g:Addr}{pl:Sem Bool}{Q:Value×List Value->Shared->Prop} (I:Inv X pins σ H s) (e:H a=some (.ins C dx fs)) (c:Cls X.K C) (k:Meth X.K C m g) (l:fs.lookup m=none)
 (h:Q (.ref g,[.ref a]) s):wpAny (model X.prog X.w) A (getMethod (.ref a) m pl) Q E s:=by
 obtain⟨mA,O,r,_,_,_⟩:=Je I.hok e
 have hn:mA m=none:=wQ.none_of (by rw[<-l];exact r m)
 exact VH I.kIn O (c.get m) k.at_ k.fn hn h
theorem Q8 {y:V}{u:Value}{Q:Unit->Shared->Prop} (I:Inv X pins σ H s) (e:H a=some (.ins C dx fs)) (c:Cls X.K C) (n:jU X.K C f) (hl:fs.length<1000) (ry:RelV y u)
 (h:∀s',Inv X pins σ (upd H a (.ins C dx (bx f y fs))) s'->Q () s'):wpAny (model X.prog X.w) A (setAttr (.ref a) f u) Q E s:=by
 obtain⟨mA,O,r,wi,_,ho⟩:=Je I.hok e
 have hz:(fs.map (·.1)).length<=sizeLine:=by rw[List.length_map,sizeLine_eq];omega
 refine Yr I.kIn O c.sa c.po n.taker c.hd wi hz fun h' O' sb=>h _ ?_
 have hd:∃o,h'.get? dx=some o:=let ⟨o,_,_,e',_⟩:=O'.ns;⟨o,e'⟩
 refine I.write (x:=a) (e:=dx) (by rw[e];exact True.intro) (.inr ho) (fun b q hb z=>(sb.2 b hb).trans z) hd ?_
 refine⟨by rw[au O.ne];exact ho, ?_,O.ne,O'.obj,_,O'.ns,fun g=> ?_,fun g hg=> ?_⟩
 ·have:=HN f y fs;omega
 ·show wQ ((bx f y fs).lookup g) (if g=f then some u else mA g)
  rw[HJ]
  by_cases q:g=f
  ·rw[if_pos q,if_pos q];exact ry
  ·rw[if_neg q,if_neg q];exact r g
 ·by_cases q:g=f
  ·rw[q];exact(Gj f y fs).1
  ·refine(Gj f y fs).2 g (wi g fun z=>hg ?_)
   show(if g=f then some u else mA g)=none
   rw[if_neg q];exact z
theorem Inv.made (I:Inv X pins σ H s):Inv X pins σ (upd (upd H s.heap.objs.size (.own (s.heap.objs.size+1))) (s.heap.objs.size+1) (.ins C s.heap.objs.size []))
 {s with heap:=(s.heap.push PySem.W.emptyDict).push (PySem.W.instObj C s.heap.objs.size)}:=by
 have e1:(s.heap.push PySem.W.emptyDict).get? s.heap.objs.size=some PySem.W.emptyDict:=Heap.get?_push_size s.heap rfl
 have e2:((s.heap.push PySem.W.emptyDict).push (PySem.W.instObj C s.heap.objs.size)).get? (s.heap.objs.size+1)=some (PySem.W.instObj C s.heap.objs.size):=by
  have:=Heap.get?_push_size (s.heap.push PySem.W.emptyDict) (o:=PySem.W.instObj C s.heap.objs.size) rfl
  rwa [Heap.size_push] at this
 have e3:(s.heap.push PySem.W.emptyDict).Ns s.heap.objs.size (fun _=>none):=⟨PySem.W.emptyDict, #[],_,e1,rfl,(fun e he=>absurd he (by simp)),fun _=>rfl⟩
 have I1:=I.laid (a:=s.heap.objs.size) (o:= .own (s.heap.objs.size+1)) (h':=s.heap.push PySem.W.emptyDict) (t':=s.toks) (fun b u q=>Heap.get?_push_of_some _ q) (Nat.le_refl _) ⟨_,e1⟩
 refine I1.laid (a:=s.heap.objs.size+1) (o:= .ins C s.heap.objs.size []) (t':=s.toks) (fun b u q=>Heap.get?_push_of_some _ q) (Nat.le_of_eq (Heap.size_push _ _)) ?_
 have ne:s.heap.objs.size≠s.heap.objs.size+1:=Nat.ne_of_lt (Nat.lt_succ_self _)
 refine⟨by rw[au ne,ao],Nat.zero_le _,ne,e2,fun _=>none,(Heap.Ns1.of_empty e3).at fun o q=>Heap.get?_push_of_some _ q,fun _=>True.intro,fun y hy=>absurd rfl hy⟩
theorem Ys {prog:Program}{w:World}{env:Env}{e:Expr}{f:Str}{pos:Pos}{s:Shared}{Q:Value->Shared->Prop} (hb:attributeBase e f env (eval e env)=eval e env)
 (h:wpAny (model prog w) A (eval e env) (fun o s₁=>wpAny (model prog w) A (getAttr o f true) Q E s₁) E s):wpAny (model prog w) A (eval (.Attribute e f pos) env) Q E s:=
 Attribute_any_ h (by rw[arm_eval_Attribute,hb])
end
def ab7 (K:PySem.W.Frag) (ta:TE) (f:Str):TE:=fun σ H Q=>ta σ H fun x H1=>∃a C dx fs v,x= .ref a/\H1 a=some (.ins C dx fs)/\Cls K C/\jU K C f/\fs.lookup f=some v/\Q v H1
def afj (K:PySem.W.Frag) (ta tv:TE) (f:Str):TS:=fun D σ H=>tv σ H fun y H1=>ta σ H1 fun x H2=>∃a C dx fs,x= .ref a/\H2 a=some (.ins C dx fs)/\Cls K C/\jU K C f/\fs.length<1000/\
 D.nx σ (upd H2 a (.ins C dx (bx f y fs)))
section
variable {X:Cx}{o e value:Expr}{f:Str}{pos pos' tpos:Pos}{ta tv:TE}
theorem ab8 (he:PE X e ta) (hb:attributeBase e f X.env (eval e X.env)=eval e X.env):PE X (.Attribute e f pos) (ab7 X.K ta f):=by
 intro pins s σ H Q I h
 refine Ys hb (thn (he pins s σ H _ I h) fun u s1 ⟨x,H1,I1,rx,a,C,dx,fs,v,ex,ea,c,n,l,q⟩=> ?_)
 subst ex
 obtain rfl:u=Value.ref a:=rx
 exact Q7 I1 ea c n l fun u' s2 I2 ru=>⟨v,H1,I2,ru,q⟩
theorem ab9 (ha:PE X o ta) (hv:PE X value tv) (hs:swapsWith value (some (.Attribute o f pos')) pos.line X.env=pure false):PS X (.Assign [.Attribute o f pos'] value pos) (afj X.K ta tv f):=by
 intro pins s σ H D I h
 refine plainObj_wpAny_Assign_Attribute (thn (hv pins s σ H _ I h) fun u s1 ⟨y,H1,I1,ry,q⟩=>thn (ha pins s1 σ H1 _ I1 q) fun ov s2 ⟨x,H2,I2,rx,a,C,dx,fs,ex,ea,c,n,l,q2⟩=> ?_) hs
 subst ex
 obtain rfl:ov=Value.ref a:=rx
 exact Q8 I2 ea c n l ry fun s3 I3=>⟨σ,_,I3,q2⟩
end
section
variable {X:Cx}{pins:List (Addr×Obj)}{σ:St}{H:Hp}{s:Shared}{A:Around}{E:Value->Shared->Prop}{Q:Value->Shared->Prop}{c:Value}{b:Bool}
inductive uN (K:PySem.W.Frag) (H:Hp):V->Value->Prop where
 | non:uN K H .non (.type "NoneType")
 | bl (x:Bool):uN K H (.bl x) (.type "bool")
 | int (i:Int):uN K H (.int i) (.type "int")
 | str (x:Str):uN K H (.str x) (.type "str")
 | flt (x:UInt64):uN K H (.flt x) (.type "float")
 | lst {a:Addr}{xs:List V} (e:H a=some (.lst xs)):uN K H (.ref a) (.type "list")
 | frz {a:Addr}{o:Obj}{xs:List V} (e:H a=some (.frz o (.lst xs))):uN K H (.ref a) (.type "list")
 | tup {a:Addr}{xs:List V} (e:H a=some (.tup xs)):uN K H (.ref a) (.type "tuple")
 | dK {a:Addr}{kvs:List (Key×V)} (e:H a=some (.dK kvs)):uN K H (.ref a) (.type "dict")
 | dT {a:Addr}{kvs:List (List Key×V)} (e:H a=some (.dT kvs)):uN K H (.ref a) (.type "dict")
 | ins {a C dx:Addr}{fs:List (Str×V)} (e:H a=some (.ins C dx fs)) (cl:Cls K C) (ha:PySem.W.findIn K (.ref C) "__class__"=some (some (.builtin "object.__class__")))
    (hn:PySem.W.specialIn K (.builtin "object.__class__") "__get__"=some (some (.builtin "getset_descriptor.__get__"))) (htk:PySem.W.takesIn K (.builtin "object.__class__")=some true)
    (hm:PySem.W.mroIn K C (.type "object")=some true):uN K H (.ref a) (.ref C)
theorem Uv {x:V}{u t:Value} (I:Inv X pins σ H s) (rx:RelV x u) (ty:uN X.K H x t) (e:PySem.W.kitOne X.K t c=some b) (h:∀tk,Q (.bool b) {s with toks:=tk}):
 wpAny (model X.prog X.w) A (call (.builtin "isinstance") [u,c]) Q E s:=by
 cases ty with
 | non=>cases(show u=Value.none from rx);exact PySem.W.kia_one PySem.W.kitx_none I.kIn True.intro e (fun z=>nomatch z) h
 | bl y=>cases(show u=Value.bool y from rx);exact PySem.W.kia_one PySem.W.kitx_bool I.kIn True.intro e (fun z=>nomatch z) h
 | int i=>obtain⟨t,q⟩:=(show∃t,u=Value.int i t from rx);cases q;exact PySem.W.kia_one PySem.W.kitx_int I.kIn True.intro e (fun z=>nomatch z) h
 | str y=>obtain⟨t,q⟩:=(show∃t,u=Value.str y t from rx);cases q;exact PySem.W.kia_one PySem.W.kitx_str I.kIn True.intro e (fun z=>nomatch z) h
 | flt y=>obtain⟨t,q⟩:=(show∃t,u=Value.float y t from rx);cases q;exact PySem.W.kia_one PySem.W.kitx_float I.kIn True.intro e (fun z=>nomatch z) h
 | @lst a xs ea=>
   cases(show u=Value.ref a from rx)
   obtain⟨_,_,n,_,h1⟩:=(show fX X.prog X.w H s.heap a (.lst xs) from I.hok a _ ea)
   exact PySem.W.kia_one PySem.W.kitx_list I.kIn ⟨_,h1,rfl⟩ e (fun z=>nomatch z) h
 | @frz a ob xs ea=>
   cases(show u=Value.ref a from rx)
   obtain⟨_,_,_,n,_,h1⟩:=(show fX X.prog X.w H s.heap a (.frz ob (.lst xs)) from I.hok a _ ea)
   exact PySem.W.kia_one PySem.W.kitx_list I.kIn ⟨_,h1,rfl⟩ e (fun z=>nomatch z) h
 | @tup a xs ea=>
   cases(show u=Value.ref a from rx)
   obtain⟨_,_,_,p⟩:=(show fX X.prog X.w H s.heap a (.tup xs) from I.hok a _ ea)
   obtain⟨o,h1,h2,_⟩:=p
   exact PySem.W.kia_one PySem.W.kitx_tuple I.kIn ⟨o,h1,h2⟩ e (fun z=>nomatch z) h
 | @dK a kvs ea=>
   cases(show u=Value.ref a from rx)
   obtain⟨_,_,vs,_,p⟩:=(show fX X.prog X.w H s.heap a (.dK kvs) from I.hok a _ ea)
   obtain⟨o,es,ep,h1,h2,_⟩:=p
   exact PySem.W.kia_one PySem.W.kitx_dict I.kIn ⟨o,h1,h2.1⟩ e (fun z=>nomatch z) h
 | @dT a kvs ea=>
   cases(show u=Value.ref a from rx)
   obtain⟨_,_,xs,_,o,es,ep,h1,h2,_⟩:=(show fX X.prog X.w H s.heap a (.dT kvs) from I.hok a _ ea)
   exact PySem.W.kia_one PySem.W.kitx_dict I.kIn ⟨o,h1,h2.1⟩ e (fun z=>nomatch z) h
 | @ins a C dx fs ea cl ha hn htk hm=>
   cases(show u=Value.ref a from rx)
   obtain⟨mA,O,_⟩:=Je I.hok ea
   obtain⟨od,J,_⟩:=O.look
   exact PySem.W.kia_one (PySem.W.kitx_own (cl.get _) cl.hd ha hn htk hm) I.kIn J e (fun z=>nomatch z) h
end
end L2
namespace L2
open PySem PySem.Spec PyProof.Rows
structure o8 (k:Nat) (A:Around):Prop where
 hd:A.handled=none
 dp:A.depth+3 * k+5<recursionLimit
 un:A.units+16 * k+200<cLine
theorem o8.mono {j k:Nat}{A:Around} (r:o8 k A) (h:j<=k):o8 j A:=⟨r.hd,by have:=r.dp;omega,by have:=r.un;omega⟩
theorem o8.deeper {k:Nat}{A:Around} (r:o8 (k+1) A) (env:Env):o8 k (A.deeper env):=
 ⟨r.hd,by have:=r.dp;show A.depth+1+3 * k+5<_;omega,by have:=r.un;show A.units+3+16 * k+200<_;omega⟩
theorem Q9 {A:Around}{C:Addr}{us:List Value}{kw:List (Str×Value)}:(A.under (.builtin "type.__call__" ⟨.ref C::us,kw⟩)).depth=A.depth+1:=by
 first | rfl | simp[Around.under,Code.weight,Code.isCreation,Code.isGuard,Code.isCaller,Code.frames,Code.isFrame,guardIds]
theorem Ra {A:Around}{C:Addr}{us:List Value}{kw:List (Str×Value)}:(A.under (.builtin "type.__call__" ⟨.ref C::us,kw⟩)).units=A.units+1:=by
 first | rfl | simp[Around.under,Code.cUnits,Code.frames,Code.isFrame]
theorem o8.make {k:Nat}{A:Around} (r:o8 (k+1) A) (C:Addr) (us:List Value) (kw:List (Str×Value)):o8 k (A.under (.builtin "type.__call__" ⟨.ref C::us,kw⟩)):=
 ⟨r.hd,by have:=r.dp;rw[Q9];omega,by have:=r.un;rw[Ra];omega⟩
theorem o8.depth {k:Nat}{A:Around} (r:o8 k A):A.depth<recursionLimit:=by have:=r.dp;omega
theorem o8.units {k:Nat}{A:Around} (r:o8 k A):A.units+64<cLine:=by have:=r.un;omega
def Yt:TA:=fun _ H Q=>Q [] H
def rJ (ta:TE) (tr:TA):TA:=fun σ H Q=>ta σ H fun x H1=>tr σ H1 fun xs H2=>Q (x::xs) H2
section
variable {X:Cx}{e:Expr}{es:List Expr}{te:TE}{t:TA}{pos:Pos}
theorem acd:PA X [] Yt:=fun _ _ _ _ H Q I h=>Calls.spliced_nil ⟨[],H,I, .nil,h⟩
theorem Yu (ha:PE X e te) (hr:PA X es t) (hs:starEach (e::es) X.env=(false,eval e X.env)::starEach es X.env:=by rfl):PA X (e::es) (rJ te t):=by
 intro pos pins s σ H Q I h
 rw[hs]
 show wpAny _ _ (spliced ((false,eval e X.env)::backTo pos (starEach es X.env))) _ _ s
 refine Calls.spliced_cons (thn (ha pins s σ H _ I h) fun u s1 ⟨x,H1,I1,r1,q1⟩=> ?_)
 exact thn (hr pos pins s1 σ H1 _ I1 q1) fun us s2 ⟨xs,H2,I2,r2,q2⟩=>⟨x::xs,H2,I2, .cons r1 r2,q2⟩
def afk (t:TA):TE:=fun σ H Q=>t σ H fun xs H1=>xs.length<=sizeLine/\∀p,H1 p=none->Q (.ref p) (upd H1 p (.tup xs))
def afl (t:TA):TE:=fun σ H Q=>t σ H fun xs H1=>xs.length<=sizeLine/\∀p,H1 p=none->Q (.ref p) (upd H1 p (.lst xs))
theorem ace {x1} (h:PA X es t):PE X (.Tuple es x1 pos) (afk t):=by
 intro pins s σ H Q I hq
 refine wpAny_Tuple_spliced (thn (h pos pins s σ H _ I hq) fun us s1 ⟨xs,H1,I1,r,z,q⟩=>⟨by rw[<-r.length];exact z, ?_⟩)
 have hf:H1 s1.heap.objs.size=none:=I1.hok.fresh (Nat.le_refl _)
 refine⟨.ref s1.heap.objs.size,upd H1 s1.heap.objs.size (.tup xs),I1.laid (t':=s1.toks) (fun b u e=>Heap.get?_push_of_some _ e) (Nat.le_refl _) ?_,rfl,q _ hf⟩
 exact⟨z,us,r,⟨_,Heap.get?_push_size _ rfl,rfl,_,rfl⟩⟩
theorem acf (h:PA X es t):PE X (.List es pos) (afl t):=by
 intro pins s σ H Q I hq
 refine wpAny_List_spliced (thn (h pos pins s σ H _ I hq) fun us s1 ⟨xs,H1,I1,r,z,q⟩=>⟨by rw[<-r.length];exact z, ?_⟩)
 have hf:H1 s1.heap.objs.size=none:=I1.hok.fresh (Nat.le_refl _)
 refine⟨.ref s1.heap.objs.size,upd H1 s1.heap.objs.size (.lst xs),I1.laid (t':=s1.toks) (fun b u e=>Heap.get?_push_of_some _ e) (Nat.le_refl _) ?_,rfl,q _ hf⟩
 exact⟨z,us,0,r,Heap.get?_push_size _ rfl⟩
end
abbrev Sp:=List V->Hp->VK->XK->Prop
abbrev CXT:=List Env->Hp->Shared->XK->Value->Shared->Prop
structure Rb (P:Program) (w:World) (K:PySem.W.Frag) (mg:Str->Option Value) (base:Heap) (A:Around) (outer:List Env) (s:Shared) (H:Hp):Prop where
 frames:A.frames=some outer
 mod:Mod K mg base
 bs:∀b o,base.get? b=some o->s.heap.get? b=some o/\H b=none
 bsz:base.objs.size<=s.heap.objs.size
 funs:s.heap.FunFrames base outer
 frf:∀b∈frs outer,H b=none
 hok:HOk P w H s.heap
 bare:AllBare s.gens
def CE (outer:List Env) (P:Program) (w:World) (H:Hp) (s:Shared) (Q:VK) (u:Value) (s':Shared):Prop:=
 ∃v H',s'.os=s.os/\AllBare s'.gens/\Un (frs outer) [] H H' s.heap s'.heap/\HOk P w H' s'.heap/\RelV v u/\Q v H'
def CR (CX:CXT) (outer:List Env) (P:Program) (w:World) (H:Hp) (s:Shared) (Q:VK) (E:XK) (r:Result) (s':Shared):Prop:=
 match r with
 | .ok (.ret u)=>CE outer P w H s Q u s'
 | .ok _=>False
 | .error e=>CX outer H s E e s'
structure bf (P:Program) (w:World) (K:PySem.W.Frag) (mg:Str->Option Value) (base:Heap) (CX:CXT) (k:Nat) (f:Addr) (fd:FuncData) (ps:List Str) (sp:Sp):Prop where
 len:∀vs H Q E,sp vs H Q E->vs.length=ps.length
 run:∀(A:Around) (outer:List Env) (s:Shared) (H:Hp) (args:Args) (us:List Value) (vs:List V) (Q:VK) (E:XK),o8 k A->Rb P w K mg base A outer s H->BindsTo s fd args (ps.zip us)->Vals vs us->sp vs H Q E->
  codeAny (model P w) A (.call (.ref f) args) (CR CX outer P w H s Q E) s
theorem bf.mono {P:Program}{w:World}{K:PySem.W.Frag}{mg:Str->Option Value}{base:Heap}{CX:CXT}{j k:Nat}{f:Addr}{fd:FuncData}{ps:List Str}{sp:Sp} (F:bf P w K mg base CX j f fd ps sp) (h:j<=k):
 bf P w K mg base CX k f fd ps sp:=⟨F.len,fun A outer s H args us vs Q E hr=>F.run A outer s H args us vs Q E (hr.mono h)⟩
theorem bf.imp {P:Program}{w:World}{K:PySem.W.Frag}{mg:Str->Option Value}{base:Heap}{CX:CXT}{k:Nat}{f:Addr}{fd:FuncData}{ps:List Str}{sp sp':Sp} (F:bf P w K mg base CX k f fd ps sp)
 (h:∀vs H Q E,sp' vs H Q E->sp vs H Q E):bf P w K mg base CX k f fd ps sp':=
 ⟨fun vs H Q E q=>F.len vs H Q E (h _ _ _ _ q),fun A outer s H args us vs Q E hr he hb hv hs=>F.run A outer s H args us vs Q E hr he hb hv (h _ _ _ _ hs)⟩
theorem Rb.make {P:Program}{w:World}{K:PySem.W.Frag}{mg:Str->Option Value}{base:Heap}{A:Around}{outer:List Env}{s:Shared}{H:Hp} (e:Rb P w K mg base A outer s H) (C:Addr) (us:List Value) (kw:List (Str×Value)):
 Rb P w K mg base (A.under (.builtin "type.__call__" ⟨.ref C::us,kw⟩)) outer s H:=⟨by first | exact e.frames | (simpa [Around.under,Code.envs,Code.isFrame,pushEnvs] using e.frames),e.mod,e.bs,e.bsz,e.funs,e.frf,e.hok,e.bare⟩
section
variable {X:Cx}{pins:List (Addr×Obj)}{σ:St}{H:Hp}{s s':Shared}
theorem Inv.env0 (I:Inv X pins σ H s):Rb X.prog X.w X.K X.mg X.base X.A X.stack s H:=
 ⟨I.ok.frames,I.ok.mod,I.bs,Nat.le_trans I.ok.bsz I.sz,I.stack,I.Ss,I.hok,I.bare⟩
theorem Inv.after {Q:VK}{u:Value} (I:Inv X pins σ H s) (h:CE X.stack X.prog X.w H s Q u s'):EP X pins σ Q u s':=by
 obtain⟨v,H',os,bare,un,hok,r,q⟩:=h
 obtain⟨hh,g,d,t,os'⟩:=s'
 obtain rfl:os'=s.os:=os
 exact⟨v,H',I.call (h':=hh) (g':=g) (d':=d) (t':=t) (ch:=[]) un hok bare (fun b z=>absurd z (by simp)),r,q⟩
end
def aaI (sp:Sp) (dvs:List V) (E:XK) (t:TA):TE:=fun σ H Q=>t σ H fun vs H1=>sp (vs++dvs) H1 Q E
def SN (C:Addr) (m:Str) (sp:Sp) (dvs:List V) (E:XK) (ta:TE) (t:TA):TE:=fun σ H Q=>ta σ H fun x H1=>∃a dx fs,x= .ref a/\H1 a=some (.ins C dx fs)/\fs.lookup m=none/\
 t σ H1 fun vs H2=>sp (x::(vs++dvs)) H2 Q E
def aaJ (C:Addr) (sp:Sp) (dvs:List V) (E:XK) (t:TA):TE:=fun σ H Q=>t σ H fun vs H1=>∀x dx,H1 x=none->H1 dx=none->dx≠x->
 sp (.ref x::(vs++dvs)) (upd (upd H1 dx (.own x)) x (.ins C dx [])) (fun v H2=>v= .non/\Q (.ref x) H2) E
def Binds (K:PySem.W.Frag) (fd:FuncData) (ps:List Str) (ds:List Value):Prop:=
 ∀(s:Shared) (us:List Value),K.In s.heap->(us++ds).length=ps.length->BindsTo s fd ⟨us,[]⟩ (ps.zip (us++ds))
theorem Binds.all {K:PySem.W.Frag}{fd:FuncData}{ps:List Str} (h:∀us:List Value,us.length=ps.length->bindArgs fd ⟨us,[]⟩=pure (ps.zip us)):Binds K fd ps []:=fun s us _ hl=>by
 rw[List.append_nil] at hl ⊢
 exact .of_eq (h us hl)
def Passes (CX:CXT) (X:Cx) (E:XK):Prop:=∀(pins:List (Addr×Obj)) (σ:St) (H:Hp) (s:Shared) (e:Value) (s':Shared),Inv X pins σ H s->CX X.stack H s E e s'->X.xe e s'
section
variable {X:Cx}{CX:CXT}{k:Nat}{f C:Addr}{fd:FuncData}{ps:List Str}{sp:Sp}{dvs:List V}{ds:List Value}{E:XK}{x m:Str}{p pos apos:Pos}{e o:Expr}{es:List Expr}{ta:TE}{t:TA}
theorem Rc {pins:List (Addr×Obj)}{σ:St}{H:Hp}{s:Shared}{Q:VK}{us:List Value}{vs:List V} (F:bf X.prog X.w X.K X.mg X.base CX k f fd ps sp) (hr:o8 k X.A) (hb:Binds X.K fd ps ds) (hd:Vals dvs ds) (hx:Passes CX X E)
 (I:Inv X pins σ H s) (r:Vals vs us) (h:sp (vs++dvs) H Q E):wpAny (model X.prog X.w) X.A (call (.ref f) us) (EP X pins σ Q) X.xe s:=by
 have r2:Vals (vs++dvs) (us++ds):=r.append hd
 have hl:(us++ds).length=ps.length:=by rw[<-r2.length];exact F.len _ _ _ _ h
 refine wpAny_call (codeAny_mono (F.run X.A X.stack s H ⟨us,[]⟩ (us++ds) (vs++dvs) Q E hr I.env0 (hb s us I.kIn hl) r2 h) fun r s' hq=> ?_)
 cases r with
 | error e=>exact hx pins σ H s e s' I hq
 | ok fl=>
   cases fl with
   | ret u=>exact I.after hq
   | next=>exact False.elim hq
   | brk=>exact False.elim hq
   | cont=>exact False.elim hq
theorem Yv (F:bf X.prog X.w X.K X.mg X.base CX k f fd ps sp) (hr:o8 k X.A) (hg:Gl X x) (hm:X.mg x=some (.ref f)) (hk:PySem.W.keepIn X.K (.ref f)=true) (hb:Binds X.K fd ps ds) (hd:Vals dvs ds) (hx:Passes CX X E)
 (ha:PA X (e::es) t) (hdb:(x==("__debug__":Str))=false:=by decide) (he:starEach (e::es) X.env=(false,eval e X.env)::starEach es X.env:=by rfl) (hpl:(backTo pos (starEach es X.env)).any (·.1)=false:=by rfl):
 PE X (.Call (.Name x p) (e::es) [] pos) (aaI sp dvs E t):=by
 intro pins s σ H Q I h
 refine wpAny_Call_Name_kw (M4 I hg hm ?_ hdb)
 refine PySem.W.callWith_K (h₀:=X.base) I.ok.mod.kin hk (thn (ha pos pins s σ H _ I h) fun us s1 ⟨vs,H1,I1,r,q⟩=>⟨I1.kIn, ?_⟩) he hpl
 exact Rc F hr hb hd hx I1 r q
theorem Yw {pl:Sem Bool} (he:PE X o ta) (c:Cls X.K C) (hm:Meth X.K C m f) (F:bf X.prog X.w X.K X.mg X.base CX k f fd ps sp) (hr:o8 k X.A) (hb:Binds X.K fd ps ds) (hd:Vals dvs ds) (hx:Passes CX X E) (ha:PA X (e::es) t)
 (hst:starEach (e::es) X.env=(false,eval e X.env)::starEach es X.env:=by rfl) (hpl:(backTo pos (starEach es X.env)).any (·.1)=false:=by rfl)
 (ht:eval (.Call (.Attribute o m apos) (e::es) [] pos) X.env=(do
   let ov <-eval o X.env
   standAt apos.atName
   let (f,first) <-holding [ov] (getMethod ov m pl)
   callWith pos f first (backTo pos (starEach (e::es) X.env)) (backToKw pos (keywordEach [] X.env))):=by rfl):
 PE X (.Call (.Attribute o m apos) (e::es) [] pos) (SN C m sp dvs E ta t):=by
 intro pins s σ H Q I h
 refine PySem.W.methodCall_KW (pl:=pl) (thn (he pins s σ H _ I h) fun u s1 ⟨x,H1,I1,rx,a,dx,fs,ex,ea,l,q⟩=> ?_) ht
 subst ex
 obtain rfl:u=Value.ref a:=rx
 refine Jt I1 ea c hm l ?_
 refine PySem.W.callWith_K (first:=[.ref a]) (h₀:=X.base) I.ok.mod.kin hm.kp (thn (ha pos pins s1 σ H1 _ I1 q) fun us s2 ⟨vs,H2,I2,r,q2⟩=>⟨I2.kIn, ?_⟩) hst hpl
 exact Rc (us:= .ref a::us) (vs:= .ref a::vs) F hr hb hd hx I2 (.cons rfl r) q2
theorem VL {pl:Sem Bool} (he:PE X o ta) (c:Cls X.K C) (hm:Meth X.K C m f) (F:bf X.prog X.w X.K X.mg X.base CX k f fd ps sp) (hr:o8 k X.A) (hb:Binds X.K fd ps ds) (hd:Vals dvs ds) (hx:Passes CX X E)
 (ht:eval (.Call (.Attribute o m apos) [] [] pos) X.env=(do
   let ov <-eval o X.env
   standAt apos.atName
   let (f,first) <-holding [ov] (getMethod ov m pl)
   callWith pos f first (backTo pos (starEach [] X.env)) (backToKw pos (keywordEach [] X.env))):=by rfl):
 PE X (.Call (.Attribute o m apos) [] [] pos) (SN C m sp dvs E ta Yt):=by
 intro pins s σ H Q I h
 refine PySem.W.methodCall_KW (pl:=pl) (thn (he pins s σ H _ I h) fun u s1 ⟨x,H1,I1,rx,a,dx,fs,ex,ea,l,q⟩=> ?_) ht
 subst ex
 obtain rfl:u=Value.ref a:=rx
 refine Jt I1 ea c hm l ?_
 exact PySem.W.callWith_K0 (first:=[.ref a]) I1.kIn hm.kp (Rc (us:=[.ref a]) (vs:=[.ref a]) F hr hb hd hx I1 (.cons rfl .nil) q)
structure Mk (K:PySem.W.Frag) (C f:Addr):Prop where
 makes:PySem.W.makesIn K C=true
 init:PySem.W.findIn K (.ref C) "__init__"=some (some (.ref f))
 fn:PySem.W.isFn K (.ref f)=true
 kp:PySem.W.keepIn K (.ref C)=true
theorem VM {pins:List (Addr×Obj)}{σ:St}{H:Hp}{s:Shared}{Q:VK}{us:List Value}{vs:List V} (M:Mk X.K C f) (F:bf X.prog X.w X.K X.mg X.base CX k f fd ps sp) (hr:o8 (k+1) X.A) (hb:Binds X.K fd ps ds) (hd:Vals dvs ds)
 (hx:Passes CX X E) (I:Inv X pins σ H s) (r:Vals vs us)
 (h:∀x dx,H x=none->H dx=none->dx≠x->sp (.ref x::(vs++dvs)) (upd (upd H dx (.own x)) x (.ins C dx [])) (fun v H2=>v= .non/\Q (.ref x) H2) E):
 wpAny (model X.prog X.w) X.A (call (.ref C) us) (EP X pins σ Q) X.xe s:=by
 have hq:=h (s.heap.objs.size+1) s.heap.objs.size (I.hok.fresh (Nat.le_succ _)) (I.hok.fresh (Nat.le_refl _)) (Nat.ne_of_lt (Nat.lt_succ_self _))
 have I2:=Inv.made (C:=C) I
 have r2:Vals (V.ref (s.heap.objs.size+1)::(vs++dvs)) (Value.ref (s.heap.objs.size+1)::(us++ds)):= .cons rfl (r.append hd)
 have hl:(Value.ref (s.heap.objs.size+1)::us++ds).length=ps.length:=by
  have e:=r2.length
  rw[F.len _ _ _ _ hq] at e
  exact e.symm
 refine wpAny_call (VJ (f:=f) I.kIn M.makes M.init (beq_iff_eq.mp M.fn) (codeAny_mono (F.run _ X.stack _ _ ⟨Value.ref (s.heap.objs.size+1)::us,[]⟩ (Value.ref (s.heap.objs.size+1)::(us++ds)) _ _ E (hr.make C us [])
  (I2.env0.make C us []) (hb _ (Value.ref (s.heap.objs.size+1)::us) I2.kIn hl) r2 hq) fun r s' hq'=> ?_))
 cases r with
 | error e=>exact hx pins σ _ _ e s' I2 hq'
 | ok fl=>
   cases fl with
   | ret u=>
     obtain⟨v,H',I3,rv,ev,q3⟩:=I2.after hq'
     subst ev
     exact⟨rv,⟨V.ref (s.heap.objs.size+1),H',I3,rfl,q3⟩⟩
   | next=>exact False.elim hq'
   | brk=>exact False.elim hq'
   | cont=>exact False.elim hq'
theorem Yx (M:Mk X.K C f) (F:bf X.prog X.w X.K X.mg X.base CX k f fd ps sp) (hr:o8 (k+1) X.A) (hg:Gl X x) (hm:X.mg x=some (.ref C)) (hb:Binds X.K fd ps ds) (hd:Vals dvs ds) (hx:Passes CX X E)
 (ha:PA X (e::es) t) (hdb:(x==("__debug__":Str))=false:=by decide) (he:starEach (e::es) X.env=(false,eval e X.env)::starEach es X.env:=by rfl) (hpl:(backTo pos (starEach es X.env)).any (·.1)=false:=by rfl):
 PE X (.Call (.Name x p) (e::es) [] pos) (aaJ C sp dvs E t):=by
 intro pins s σ H Q I h
 refine wpAny_Call_Name_kw (M4 I hg hm ?_ hdb)
 refine PySem.W.callWith_K (h₀:=X.base) I.ok.mod.kin M.kp (thn (ha pos pins s σ H _ I h) fun us s1 ⟨vs,H1,I1,r,q⟩=>⟨I1.kIn, ?_⟩) he hpl
 exact VM M F hr hb hd hx I1 r q
end
section
variable {X:Cx}{CX:CXT}{k:Nat}{f C:Addr}{fd:FuncData}{ps ks:List Str}{sp:Sp}{E:XK}{x m:Str}{p pos apos kpos:Pos}{e o:Expr}{es:List Expr}{kws:List Keyword}{te ta:TE}{t tk:TA}{nm:Option Str}
variable {g:List Value->List Value->List Value}{gV:List V->List V->List V}
end
structure bH (N P:List Str) (sc:Scope):Prop where
 kind:sc.kind= .function
 co:sc.isCoroutine=false
 gen:sc.isGenerator=false
 nd:N.Nodup
 pre:N.take P.length=P
 par:∀x∈P,sc.names.lookup x=some .local\/sc.names.lookup x=some .cell
 nofree:∀y∈sc.names,y.2≠ .free
theorem Ma {kindOf:Str->Option NameKind}{x:Str}:∀{binds:List (Str×Value)}{m:Str->Option Value},(∀v,(x,v)∉binds)->bindL kindOf binds m x=m x
 |[],_,_=>rfl
 | (n,v)::r,m,h=>by
   unfold bindL
   rw[Ma fun w hw=>h w (List.mem_cons_of_mem _ hw)]
   split
   ·have:x≠n:=by rintro rfl;exact h v List.mem_cons_self
    simp[this]
   ·rfl
theorem Mf {kindOf:Str->Option NameKind}{x:Str}:∀{binds:List (Str×Value)}{m:Str->Option Value},(∀v,(x,v)∉binds)->bindC kindOf binds m x=m x
 |[],_,_=>rfl
 | (n,v)::r,m,h=>by
   unfold bindC
   rw[Mf fun w hw=>h w (List.mem_cons_of_mem _ hw)]
   split
   ·rfl
   ·have:x≠n:=by rintro rfl;exact h v List.mem_cons_self
    simp[this]
theorem Mg {kindOf:Str->Option NameKind}{x:Str}{v:Value}:∀{P:List Str}{vs:List Value}{i:Nat}{m:Str->Option Value},P.Nodup->P[i]? =some x->vs[i]? =some v->kindOf x=some .local->
 bindL kindOf (P.zip vs) m x=some v
 |[],_,_,_,_,h,_,_=>by simp at h
 | _::_,[],_,_,_,_,h,_=>by simp at h
 | p::P,w::vs,0,m,nd,h1,h2,hk=>by
   simp at h1 h2;subst h1;subst h2
   show bindL kindOf ((p,w)::P.zip vs) m p=_
   unfold bindL
   rw[Ma fun v hv=>(List.nodup_cons.mp nd).1 (List.of_mem_zip hv).1,if_pos hk]
   simp
 | p::P,w::vs,i+1,m,nd,h1,h2,hk=>by
   show bindL kindOf ((p,w)::P.zip vs) m x=_
   unfold bindL
   exact Mg (i:=i) (List.nodup_cons.mp nd).2 (by simpa using h1) (by simpa using h2) hk
theorem Mh {kindOf:Str->Option NameKind}{x:Str}{v:Value}:∀{P:List Str}{vs:List Value}{i:Nat}{m:Str->Option Value},P.Nodup->P[i]? =some x->vs[i]? =some v->kindOf x≠some .local->
 bindC kindOf (P.zip vs) m x=some v
 |[],_,_,_,_,h,_,_=>by simp at h
 | _::_,[],_,_,_,_,h,_=>by simp at h
 | p::P,w::vs,0,m,nd,h1,h2,hk=>by
   simp at h1 h2;subst h1;subst h2
   show bindC kindOf ((p,w)::P.zip vs) m p=_
   unfold bindC
   rw[Mf fun v hv=>(List.nodup_cons.mp nd).1 (List.of_mem_zip hv).1,if_neg hk]
   simp
 | p::P,w::vs,i+1,m,nd,h1,h2,hk=>by
   show bindC kindOf ((p,w)::P.zip vs) m x=_
   unfold bindC
   exact Mh (i:=i) (List.nodup_cons.mp nd).2 (by simpa using h1) (by simpa using h2) hk
def start (N:List Str) (vs:List V):St:=vs.map some++List.replicate (N.length - vs.length) none
def Rf (CX:CXT) (P:Program) (w:World) (K:PySem.W.Frag) (mg:Str->Option Value) (base:Heap) (N:List Str) (qual:Str) (scope:Scope) (f:Addr) (cd:Value) (A:Around) (outer:List Env) (s:Shared) (H:Hp) (E:XK):Cx where
 prog:=P
 w:=w
 K:=K
 mg:=mg
 base:=base
 A:=A.deeper (envOfC qual scope s.heap.objs.size f cd)
 N:=N
 s₀:=s
 H₀:=H
 env:=envOfC qual scope s.heap.objs.size f cd
 outer:=outer
 stack:=envOfC qual scope s.heap.objs.size f cd::outer
 ex:=[]
 calm:=true
 fn:=fun _=>true
 pn:=[]
 xe:=fun e s'=>wpAny (model P w) (A.deeper (envOfC qual scope s.heap.objs.size f cd)) (leaving (envOfC qual scope s.heap.objs.size f cd) e) (fun _ s''=>CX outer H s E e s'') (fun e' s''=>CX outer H s E e' s'') s'
theorem Ox {sc:Scope}{n:Nat}{x:Str} (h:sc.names.lookup x=some .cell):∃c,(cellsFrom n sc.names []).lookup x=some c:=by
 have q:=PySem.W.cellsFrom_some sc.names n [] (.inl h)
 exact Option.isSome_iff_exists.mp q
theorem Uw {CX:CXT}{P:Program}{w:World}{K:PySem.W.Frag}{mg:Str->Option Value}{base:Heap}{N ps:List Str}{qual:Str}{scope:Scope}{f:Addr}{cd:Value}{A:Around}{outer:List Env}{s s1:Shared}{H:Hp}{E:XK}{us:List Value}{vs:List V}
 (S:bH N ps scope) (hd:A.handled=none) (e0:Rb P w K mg base A outer s H) (hl:vs.length=ps.length) (r:Vals vs us)
 (x:InCallC s s.heap.objs.size (bindL (envOfC qual scope s.heap.objs.size f cd).kindOf (ps.zip us) fun _=>none) (cellsFrom (s.heap.objs.size+1) scope.names []) (bindC (envOfC qual scope s.heap.objs.size f cd).kindOf (ps.zip us) fun _=>none) s1):
 Inv (Rf CX P w K mg base N qual scope f cd A outer s H E) [] (start N vs) H s1:=by
 have hpl:ps.length<=N.length:=by have:=congrArg List.length S.pre;rw[List.length_take] at this;omega
 obtain⟨h1,tk,rfl,hk⟩:=x.done
 have noA:∀b:Addr,b∉(Rf CX P w K mg base N qual scope f cd A outer s H E).ex:=fun b z=>absurd (show b∈([]:List Addr) from z) (by simp)
 refine⟨⟨e0.mod,S.kind,rfl,rfl,Nat.le_refl _,fun y z c h1 h2=> ?_,fun y hy=> ?_,fun y c _ h=> ?_,fun _=>hd,Around.frames_deeper e0.frames, .inr ⟨rfl,rfl⟩,fun b z=>absurd z (noA b),e0.bs,e0.bsz,fun b _ _=>noA b,fun b z=>absurd z (noA b),e0.funs,e0.frf⟩,
  rfl,e0.bare,Un.kept hk,⟨_,x.toInCall.ns,fun i y v h1 h2 h3=> ?_⟩,fun y c h=>⟨_,x.cell y c h⟩,e0.hok.fresh (Nat.le_refl _),fun y c h=> ?_,fun p hp=>absurd (show p∈([]:List (Addr×Obj)) from hp) (by simp),e0.hok.kept hk, ?_⟩
 ·exact name_of_addr x.apart (PySem.mem_of_lookup h1) (PySem.mem_of_lookup h2)
 ·have hy:scope.names.lookup y=some .cell\/scope.names.lookup y=some .free:=hy
  rcases hy with hy | hy
  ·exact Ox hy
  ·exact absurd rfl (S.nofree _ (PySem.mem_of_lookup hy))
 ·exact Nat.le_of_lt (x.above y c (PySem.mem_of_lookup h))
 ·have hi:i<vs.length:=by
   unfold start at h2
   by_cases hi:i<vs.length
   ·exact hi
   ·rw[List.getElem?_append_right (by simpa using hi)] at h2
    rw[List.getElem?_replicate] at h2
    split at h2<;>cases h2
  have ha:vs[i]? =some v:=by
   unfold start at h2
   rw[List.getElem?_append_left (by simpa using hi),List.getElem?_map] at h2
   cases e:vs[i]? with
   | none=>rw[e] at h2;cases h2
   | some a=>rw[e] at h2;cases h2;rfl
  obtain⟨u,hu,rv⟩:=r.get ha
  have hp:ps[i]? =some y:=by
   rw[<-S.pre,List.getElem?_take_of_lt (by omega)];exact h1
  have ndP:ps.Nodup:=by rw[<-S.pre];exact S.nd.sublist (List.take_sublist _ _)
  refine⟨u,rv, ?_⟩
  rcases S.par y (List.mem_of_getElem? hp) with k | k
  ·exact .inl ⟨k,Mg ndP hp hu k⟩
  ·obtain⟨c,e⟩:=Ox (n:=s.heap.objs.size+1) k
   refine .inr ⟨.inl k,c,e, ?_⟩
   have q:=x.cell y c e
   rw[Mh ndP hp hu (by show scope.names.lookup y≠_;rw[k];decide)] at q
   exact q
 ·exact e0.hok.fresh (Nat.le_of_lt (x.above y c (PySem.mem_of_lookup h)))
 ·unfold start
  show _=N.length
  rw[List.length_append,List.length_map,List.length_replicate]
  omega
theorem afm {CX:CXT}{P:Program}{w:World}{K:PySem.W.Frag}{mg:Str->Option Value}{base:Heap}{k:Nat}{f:Addr}{name qual:Str}{params:Arguments}{body:List Stmt}{scope:Scope}{dV kV doc pm cdv ct oc:Value}{an od:Option Addr}
 {osl:Array (Option Value)}{N ps:List Str}{sp:Sp} (lk:K.lookup f=some ⟨oc,od, .func (PySem.W.fnOf name qual params body scope dV kV doc pm an cdv ct),osl⟩) (hcd:PySem.W.codeIn K cdv qual=true) (S:bH N ps scope)
 (len:∀vs H Q E,sp vs H Q E->vs.length=ps.length)
 (hbody:∀(A:Around) (outer:List Env) (s:Shared) (H:Hp) (vs:List V) (Q:VK) (E:XK),o8 k (A.deeper (envOfC qual scope s.heap.objs.size f cdv))->sp vs H Q E->
   ∃t,PSs (Rf CX P w K mg base N qual scope f cdv A outer s H E) body t/\t {nx:=fun _ H'=>Q .non H',rt:=Q} (start N vs) H):
 bf P w K mg base CX (k+1) f (PySem.W.fnOf name qual params body scope dV kV doc pm an cdv ct) ps sp:=by
 refine⟨len,fun A outer s H args us vs Q E hr e0 hb r hsp=> ?_⟩
 have hl:=len _ _ _ _ hsp
 have KX:K.In s.heap:=e0.mod.kin.keeps fun b o e=>(e0.bs b o e).1
 have lim:s.heap.NoLimit:=e0.mod.nolimit.keeps fun b o e=>(e0.bs b o e).1
 have hkind:∀y∈ps.zip us,scope.names.lookup y.1=some .local\/(scope.names.lookup y.1=some .cell/\((cellsFrom (s.heap.objs.size+1) scope.names []).lookup y.1).isSome=true):=fun⟨n,v⟩ hy=>by
  rcases S.par n (List.of_mem_zip hy).1 with q | q
  ·exact .inl q
  ·exact .inr ⟨q,PySem.W.cellsFrom_some _ _ _ (.inl q)⟩
 refine codeAny_call_function hr.depth (KX _ _ lk) rfl S.co S.gen rfl (PySem.W.codeRec_of KX hcd) (hb _ _ _ _ ?_)
 refine wpAny_newFunctionEnv_cells S.kind hkind fun env he s1 x=> ?_
 subst he
 refine⟨lim.keeps x.toInCall.keep,codeAny_func ?_⟩
 obtain⟨t,ht,hq⟩:=hbody A outer s H vs Q E (hr.deeper _) hsp
 have I:Inv (Rf CX P w K mg base N qual scope f cdv A outer s H E) [] (start N vs) H s1:=Uw S hr.hd e0 hl r x
 refine wpAny_mono (ht [] s1 (start N vs) H _ I hq) (fun fl s' hs=> ?_) fun e s' hs=>hs
 have fin:∀{σ':St}{H':Hp}{v:V}{u:Value},Inv (Rf CX P w K mg base N qual scope f cdv A outer s H E) [] σ' H' s'->RelV v u->Q v H'->CE outer P w H s Q u s':=
  fun{σ' H' v u} J rv q=>⟨v,H',J.os,J.bare,J.base,J.hok,rv,q⟩
 cases fl with
 | ret u=>
   obtain⟨v,σ',H',J,rv,q⟩:=hs
   exact fin J rv q
 | next=>
   obtain⟨σ',H',J,q⟩:=hs
   exact fin (v:=V.non) (u:=Value.none) J rfl q
 | brk=>
   obtain⟨_,_,_,q⟩:=hs
   exact False.elim q
 | cont=>
   obtain⟨_,_,_,q⟩:=hs
   exact False.elim q
end L2
namespace L2
open PySem PySem.Spec PyProof.Rows
section
variable {X:Cx}{x:Str}{p pos:Pos}{e:Expr}{es:List Expr}{t:TA}{id T:String}{r:List V->Hp->VK->Prop}
def tCB (r:List V->Hp->VK->Prop) (t:TA):TE:=fun σ H Q=>t σ H fun vs H1=>r vs H1 Q
theorem VN (hc:sU X (.builtin id) r) (hg:Gl X x) (hm:X.mg x=none) (hv:bootBuiltins x=some (.builtin id)) (ha:PA X (e::es) t) (hn:x≠"__name__":=by decide) (hdb:(x==("__debug__":Str))=false:=by decide)
 (he:starEach (e::es) X.env=(false,eval e X.env)::starEach es X.env:=by rfl) (hpl:(backTo pos (starEach es X.env)).any (·.1)=false:=by rfl):PE X (.Call (.Name x p) (e::es) [] pos) (tCB r t):=by
 intro pins s σ H Q I h
 refine wpAny_Call_Name_kw (Ca I hg hm hv ?_ hn hdb)
 exact PyProof.Rows.callWith_builtin1 (thn (ha pos pins s σ H _ I h) fun us s1 ⟨vs,H1,I1,r1,q1⟩=>hc pins s1 σ H1 vs us Q I1 r1 q1) he hpl
theorem Ux (hc:sU X (.type T) r) (hg:Gl X x) (hm:X.mg x=none) (hv:bootBuiltins x=some (.type T)) (ha:PA X (e::es) t) (hn:x≠"__name__":=by decide) (hdb:(x==("__debug__":Str))=false:=by decide)
 (he:starEach (e::es) X.env=(false,eval e X.env)::starEach es X.env:=by rfl) (hpl:(backTo pos (starEach es X.env)).any (·.1)=false:=by rfl):PE X (.Call (.Name x p) (e::es) [] pos) (tCB r t):=by
 intro pins s σ H Q I h
 refine wpAny_Call_Name_kw (Ca I hg hm hv ?_ hn hdb)
 exact PyProof.Rows.callWith_type1 (thn (ha pos pins s σ H _ I h) fun us s1 ⟨vs,H1,I1,r1,q1⟩=>hc pins s1 σ H1 vs us Q I1 r1 q1) he hpl
end
end L2
namespace HT
open PySem PyProof.Rows
section
open PySem.SeqAt
open PySem.AutoSeq1 (wpAny_loadPart')
open PySem.MeetsSeq PySem.MeetsSeq2 PySem.MeetsSeq3
end
section
variable {prog:Program}{w:World}{A:Around}{E:Value->Shared->Prop}{s:Shared}
def sIx (n d:Nat):Option Int->Nat
 | none=>d
 | some v=>if v<0 then(v+(n:Int)).toNat else min v.toNat n
theorem Yy (n d k:Nat):sIx n d (some (k:Int))=min k n:=by
 show(if(k:Int)<0 then((k:Int)+(n:Int)).toNat else min (k:Int).toNat n)=min k n
 rw[if_neg (by omega),Int.toNat_natCast]
end
end HT
namespace L2
open PySem PySem.Spec PyProof.Rows
abbrev TO:=St->Hp->(Option Int->Hp->Prop)->Prop
def PO (X:Cx) (e:Option Expr) (t:TO):Prop:=
 ∀(pins:List (Addr×Obj)) (s:Shared) (σ:St) (H:Hp) (Q:Option Int->Hp->Prop),Inv X pins σ H s->t σ H Q->
  wpAny (model X.prog X.w) X.A (evalPart e X.env) (fun u s'=>∃o H',Inv X pins σ H' s'/\IsPart u o/\Q o H') X.xe s
def SQ:TO:=fun _ H Q=>Q none H
def aaK (t:TE):TO:=fun σ H Q=>t σ H fun x H1=>∃i,x= .int i/\Q (some i) H1
section
variable {X:Cx}{e:Expr}{te:TE}{lo hi:Option Expr}{tl th:TO}{pos p2:Pos}
theorem Yz:PO X none SQ:=by
 intro pins s σ H Q I h
 rw[evalPart_none]
 exact wpAny_pure ⟨none,H,I, .none,h⟩
theorem YB (h:PE X e te):PO X (some e) (aaK te):=by
 intro pins s σ H Q I hw
 rw[evalPart_some]
 refine thn (h pins s σ H _ I hw) fun u s1 ⟨x,H1,I1,r1,q1⟩=> ?_
 obtain⟨i,rfl,q⟩:=q1
 obtain⟨t,rfl⟩:=r1
 exact⟨some i,H1,I1, .int i t,q⟩
def SlR (X:Cx) (r:V->Option Int->Option Int->Hp->VK->Prop):Prop:=
 ∀(pins:List (Addr×Obj)) (s:Shared) (σ:St) (H:Hp) (x:V) (v vl vu:Value) (lo hi:Option Int) (sl:Addr) (Q:VK),Inv X pins σ H s->RelV x v->s.heap.IsSliceOf sl vl vu .none->IsPart vl lo->IsPart vu hi->r x lo hi H Q->
  ∃T id,typeLookup (.type T) "__getitem__"=pure (some (.builtin id))/\s.TypeIs v T/\wpAny (model X.prog X.w) X.A (getItem v (.ref sl)) (EP X pins σ Q) X.xe s
def tSl (r:V->Option Int->Option Int->Hp->VK->Prop) (te:TE) (tl th:TO):TE:=fun σ H Q=>te σ H fun x H1=>tl σ H1 fun l H2=>th σ H2 fun u H3=>r x l u H3 Q
theorem VP {r:V->Option Int->Option Int->Hp->VK->Prop} (hr:SlR X r) (he:PE X e te) (hl:PO X lo tl) (hu:PO X hi th):PE X (.Subscript e (.Slice lo hi none p2) pos) (tSl r te tl th):=by
 intro pins s σ H Q I h
 refine Subscript_ (thn (he pins s σ H _ I h) fun v s1 ⟨x,H1,I1,r1,q1⟩=> ?_)
 refine wpAny_Slice (thn (hl pins s1 σ H1 _ I1 q1) fun vl s2 ⟨l,H2,I2,pl,q2⟩=>thn (hu pins s2 σ H2 _ I2 q2) fun vu s3 ⟨u,H3,I3,pu,q3⟩=> ?_)
 rw[evalPart_none]
 refine wpAny_pure ?_
 have I4:Inv X pins σ H3 {s3 with heap:=s3.heap.push {cls:= .type "slice",data:= .fields #[vl,vu, .none]}}:=I3.kept (t':=s3.toks) fun b ob q=>Heap.get?_push_of_some _ q
 obtain⟨T,id,hT,ht,hg⟩:=hr pins {s3 with heap:=s3.heap.push {cls:= .type "slice",data:= .fields #[vl,vu, .none]}} σ H3 x v vl vu l u s3.heap.objs.size Q I4 r1 (Heap.IsSliceOf.new ..) pl pu q3
 show wpAny (model X.prog X.w) X.A (subscriptTail e (.Slice lo hi none p2) v (.ref s3.heap.objs.size)) (EP X pins σ Q) X.xe {s3 with heap:=s3.heap.push {cls:= .type "slice",data:= .fields #[vl,vu, .none]}}
 exact tail_any (ops:=[.ref s3.heap.objs.size,v]) ht hT hg (by with_unfolding_all rfl)
def Oz (xs:List V) (lo hi:Option Int):List V:=(xs.drop (HT.sIx xs.length 0 lo)).take (HT.sIx xs.length xs.length hi - HT.sIx xs.length 0 lo)
theorem OD (xs:List V) (lo hi:Option Int):(Oz xs lo hi).length<=xs.length:=by
 unfold Oz
 rw[List.length_take,List.length_drop]
 omega
end
end L2
namespace L2
open PySem PySem.Spec PyProof.Rows
def ixN (n:Nat) (i:Int):Option Nat:=if 0<=i then(if i<n then some i.toNat else none) else if -(n:Int)<=i then some (i+n).toNat else none
def atI {α:Type} (xs:List α) (i:Int):Option α:=(ixN xs.length i).bind fun j=>xs[j]?
theorem YC {n:Nat}{i:Int}{j:Nat} (h:ixN n i=some j):seqIndex? i n=some j/\j<n/\ -(n:Int)<=i/\i<n:=by
 unfold ixN at h
 by_cases h0:0<=i
 ·rw[if_pos h0] at h
  by_cases h1:i<n
  ·rw[if_pos h1] at h
   have e:i.toNat=j:=Option.some.inj h
   exact⟨by rw[seqIndex_of h0 h1,e],by omega,by omega,h1⟩
  ·rw[if_neg h1] at h;cases h
 ·rw[if_neg h0] at h
  by_cases h1: -(n:Int)<=i
  ·rw[if_pos h1] at h
   have e:(i+n).toNat=j:=Option.some.inj h
   exact⟨by rw[seqIndex_neg (by omega) h1,e],by omega,h1,by omega⟩
  ·rw[if_neg h1] at h;cases h
theorem M6 {α:Type}{xs:List α}{i:Int}{v:α} (h:atI xs i=some v):∃j,seqIndex? i xs.length=some j/\xs[j]? =some v/\j<xs.length/\ -(xs.length:Int)<=i/\i<xs.length:=by
 unfold atI at h
 cases e:ixN xs.length i with
 | none=>rw[e] at h;cases h
 | some j=>
   rw[e] at h
   obtain⟨h1,h2,h3,h4⟩:=YC e
   exact⟨j,h1,h,h2,h3,h4⟩
theorem iT {α:Type}{xs:List α}{j:Nat}{v:α} (h:xs[j]? =some v):atI xs (j:Int)=some v:=by
 have hj:j<xs.length:=(List.getElem?_eq_some_iff.mp h).1
 have e:ixN xs.length (j:Int)=some j:=by
  unfold ixN
  rw[if_pos (by omega),if_pos (by omega)];simp
 unfold atI;rw[e];exact h
def SX (b:Expr):Prop:=∀o i,subscripted b false o i=operate [o,i] (getItem o i)
def IxR (X:Cx) (r:R2):Prop:=
 ∀(value slice:Expr) (pins:List (Addr×Obj)) (s:Shared) (σ:St) (H:Hp) (x y:V) (v u:Value) (Q:VK),Inv X pins σ H s->RelV x v->RelV y u->r x y H Q->
  subscripted slice false v u=operate [v,u] (getItem v u)->wpAny (model X.prog X.w) X.A (subscriptTail value slice v u) (EP X pins σ Q) X.xe s
def MtR (X:Cx) (id:String) (r:V->List V->Hp->VK->Prop):Prop:=
 ∀(pins:List (Addr×Obj)) (s:Shared) (σ:St) (H:Hp) (x:V) (xs:List V) (v:Value) (us:List Value) (Q:VK),Inv X pins σ H s->RelV x v->Vals xs us->r x xs H Q->
  wpAny (model X.prog X.w) X.A (call (.builtin id) (v::us)) (EP X pins σ Q) X.xe s
section
variable {X:Cx}{a b:Expr}{ta tb:TE}{pos:Pos}
theorem afn {r:R2} (hr:IxR X r) (ha:PE X a ta) (hb:PE X b tb) (hs:SX b):PE X (.Subscript a b pos) (tOp r ta tb):=by
 intro pins s σ H Q I h
 exact Subscript_ (abW ha hb I h fun v u s2 x y H2 I2 rx ry q=>hr a b pins s2 σ H2 x y v u Q I2 rx ry q (hs _ _))
def acg (K:PySem.W.Frag):R2:=fun x y H Q=>∃p xs i v,x= .ref p/\y= .int i/\SqL K H p xs/\atI xs i=some v/\Q v H
def ach (K:PySem.W.Frag):R2:=fun x y H Q=>∃p xs i v,x= .ref p/\y= .int i/\SqT K H p xs/\atI xs i=some v/\Q v H
def afo:R2:=fun x y H Q=>∃z i c,x= .str z/\y= .int i/\z.length<=sizeLine/\atI z.cps.toList i=some c/\Q (.str ⟨#[c]⟩) H
theorem YD:IxR X (acg X.K):=by
 intro value slice pins s σ H x y v u Q I rx ry h hs
 obtain⟨p,xs,i,z,rfl,rfl,hq,he,q⟩:=h
 cases rx
 obtain⟨t,rfl⟩:=ry
 obtain⟨its,r,pl,hz⟩:=I.list hq
 obtain⟨j,h1,h2,h3,h4,h5⟩:=M6 he
 obtain⟨w,ew,rw'⟩:=r.get h2
 have hl:=r.length
 have hn:=Js
 have fin:EP X pins σ Q w s:=⟨z,H,I,rw',q⟩
 by_cases h0:0<=i
 ·have hj:i.toNat=j:=by
   rw[seqIndex_of h0 h5] at h1
   exact Option.some.inj h1
  exact item_listR pl.isList h0 (by omega) (by rw[hj];simpa using ew) fin hs
 ·have hj:(i+(its.toArray.size:Int)).toNat=j:=by
   rw[seqIndex_neg (by omega) h4] at h1
   rw[List.size_toArray,<-hl]
   exact Option.some.inj h1
  exact subscriptTail_builtinR (x:=w) pl.isList.typeIs slot_list_getitem.lookup
   (wpAny_getItem_list_neg (Q:=fun r s'=>r=w/\EP X pins σ Q r s') pl.isList (by omega) (by rw[List.size_toArray]<;>omega) (by omega) (by rw[hj];simpa using ew) ⟨rfl,fin⟩) hs
theorem aci:IxR X (ach X.K):=by
 intro value slice pins s σ H x y v u Q I rx ry h hs
 obtain⟨p,xs,i,z,rfl,rfl,hq,he,q⟩:=h
 cases rx
 obtain⟨t,rfl⟩:=ry
 obtain⟨its,r,pl,hz⟩:=I.tuple hq
 obtain⟨j,h1,h2,h3,h4,h5⟩:=M6 he
 obtain⟨w,ew,rw'⟩:=r.get h2
 have hl:=r.length
 have hn:=Js
 have fin:EP X pins σ Q w s:=⟨z,H,I,rw',q⟩
 exact subscriptTail_builtinR (x:=w) pl.typeIs slot_tuple_getitem.lookup
  (getItem_tuple (j:=j) (Q:=fun r s'=>r=w/\EP X pins σ Q r s') pl (by omega) (by omega) (by rw[List.size_toArray,<-hl];exact h1) (by simpa using ew) ⟨rfl,fin⟩) hs
theorem acj:IxR X afo:=by
 intro value slice pins s σ H x y v u Q I rx ry h hs
 obtain⟨z,i,c,rfl,rfl,hz,he,q⟩:=h
 obtain⟨t,rfl⟩:=rx
 obtain⟨t',rfl⟩:=ry
 obtain⟨j,h1,h2,h3,h4,h5⟩:=M6 he
 have hl:z.cps.toList.length=z.length:=by simp[Str.length]
 rw[hl] at h1 h4 h5
 have hn:=Js
 exact tail_any (typeIs_str s z t) slot_str_getitem.lookup (getItem_str (c:=c) (by
  have e1:decide (i< -(2 ^ 63:Int))=false:=decide_eq_false (by omega)
  have e2:decide (i >= 2 ^ 63)=false:=decide_eq_false (by omega)
  rw[e1,e2,Bool.or_false]) (by rw[h1];simpa using h2) ⟨.str ⟨#[c]⟩,H,I.tok _,⟨_,rfl⟩,q⟩) hs
theorem M7 (lo hi:Option Int) (n:Nat):(sliceBounds lo hi none n).1=((HT.sIx n 0 lo:Nat):Int)/\(sliceBounds lo hi none n).2.1=((HT.sIx n n hi:Nat):Int)/\(sliceBounds lo hi none n).2.2=1:=by
 refine⟨?_, ?_,rfl⟩
 ·cases lo with
  | none=>simp[sliceBounds,HT.sIx]
  | some i=>
    simp only[sliceBounds,HT.sIx,Option.getD_none,show(1:Int)>0 by decide,if_true]
    by_cases h:i<0
    ·simp only[h,if_true]<;>omega
    ·simp only[h,if_false]<;>omega
 ·cases hi with
  | none=>simp[sliceBounds,HT.sIx]
  | some i=>
    simp only[sliceBounds,HT.sIx,Option.getD_none,show(1:Int)>0 by decide,if_true]
    by_cases h:i<0
    ·simp only[h,if_true]<;>omega
    ·simp only[h,if_false]<;>omega
theorem K6 (its:List Value) (lo hi:Option Int):slicePick its.toArray lo hi none=((its.drop (HT.sIx its.length 0 lo)).take (HT.sIx its.length its.length hi - HT.sIx its.length 0 lo)).toArray:=by
 obtain⟨h1,h2,h3⟩:=M7 lo hi its.toArray.size
 unfold slicePick
 rw[h1,h2,h3]
 simp only[sliceRange_one,pick_run,List.size_toArray]<;>rfl
def afp (K:PySem.W.Frag):V->Option Int->Option Int->Hp->VK->Prop:=fun x lo hi H Q=>∃a xs,x= .ref a/\SqL K H a xs/\∀p,H p=none->Q (.ref p) (upd H p (.lst (Oz xs lo hi)))
theorem YF:SlR X (afp X.K):=by
 intro pins s σ H x v vl vu lo hi sl Q I rx hs pl pu h
 obtain⟨a,xs,rfl,hx,q⟩:=h
 cases rx
 obtain⟨its,r,ht,hz⟩:=I.list hx
 have hlen:=r.length
 refine⟨"list",_,slot_list_getitem.lookup,ht.isList.typeIs, ?_⟩
 refine wpAny_getItem_list_slice ht.isList hs pl pu .none (by simp) ?_ (by rw[List.size_toArray]<;>omega)
 rw[K6,<-hlen]
 refine⟨.ref s.heap.objs.size,_,I.laid (t':=s.toks) (o:= .lst (Oz xs lo hi)) (fun b ob q=>Heap.get?_push_of_some _ q) (Nat.le_refl _) ?_,rfl,q _ (I.hok.fresh (Nat.le_refl _))⟩
 exact⟨Nat.le_trans (OD xs lo hi) hz,_,0,(r.drop (HT.sIx xs.length 0 lo)).take (HT.sIx xs.length xs.length hi - HT.sIx xs.length 0 lo),Heap.get?_push_size _ rfl⟩
def yO:V->Bool
 | .non=>true
 | .bl _=>true
 | .int _=>true
 | .str _=>true
 | _=>false
def eqV:V->V->Bool
 | .non, .non=>true
 | .bl a, .bl b=>a==b
 | .bl a, .int b=>(if a then 1 else 0)==b
 | .int a, .bl b=>a==(if b then 1 else 0)
 | .int a, .int b=>a==b
 | .str a, .str b=>a==b
 | _,_=>false
theorem ack {A:Around}{s:Shared}{y x:V}{u v:Value} (ry:RelV y u) (rx:RelV x v) (fy:yO y=true) (fx:yO x=true):SeqAt.EqAt A s u v (eqV y x):=by
 cases y with
 | non=>
   cases ry
   cases x with
   | non=>cases rx;exact SeqAt.EqAt.same _
   | bl b=>cases rx;exact SeqAt.EqAt.none_bool b
   | int b=>obtain⟨t,rfl⟩:=rx;exact SeqAt.EqAt.none_int b t
   | str b=>obtain⟨t,rfl⟩:=rx;exact SeqAt.EqAt.none_str b t
   | _=>exact absurd (show false=true from fx) Bool.false_ne_true
 | bl a=>
   cases ry
   cases x with
   | non=>cases rx;exact SeqAt.EqAt.bool_none a
   | bl b=>cases rx;exact SeqAt.EqAt.bool_bool a b
   | int b=>obtain⟨t,rfl⟩:=rx;exact SeqAt.EqAt.bool_int a b t
   | str b=>obtain⟨t,rfl⟩:=rx;exact SeqAt.EqAt.bool_str a b t
   | _=>exact absurd (show false=true from fx) Bool.false_ne_true
 | int a=>
   obtain⟨t',rfl⟩:=ry
   cases x with
   | non=>cases rx;exact SeqAt.EqAt.int_none a t'
   | bl b=>cases rx;exact SeqAt.EqAt.int_bool a t' b
   | int b=>obtain⟨t,rfl⟩:=rx;exact SeqAt.EqAt.int_int a t' b t
   | str b=>obtain⟨t,rfl⟩:=rx;exact SeqAt.EqAt.int_str a t' b t
   | _=>exact absurd (show false=true from fx) Bool.false_ne_true
 | str a=>
   obtain⟨t',rfl⟩:=ry
   cases x with
   | non=>cases rx;exact SeqAt.EqAt.str_none a t'
   | bl b=>cases rx;exact SeqAt.EqAt.str_bool a t' b
   | int b=>obtain⟨t,rfl⟩:=rx;exact SeqAt.EqAt.str_int a t' b t
   | str b=>obtain⟨t,rfl⟩:=rx;exact SeqAt.EqAt.str_str a t' b t
   | _=>exact absurd (show false=true from fx) Bool.false_ne_true
 | _=>exact absurd (show false=true from fy) Bool.false_ne_true
def eqU (x:V) (u:Value):Bool:=match u with
 | .none=>eqV .non x
 | .bool b=>eqV (.bl b) x
 | .int i _=>eqV (.int i) x
 | .str z _=>eqV (.str z) x
 | _=>false
theorem VR {x y:V}{u:Value} (r:RelV y u) (f:yO y=true):eqU x u=eqV y x:=by
 cases y with
 | non=>cases r;rfl
 | bl b=>cases r;rfl
 | int i=>obtain⟨t,rfl⟩:=r;rfl
 | str z=>obtain⟨t,rfl⟩:=r;rfl
 | _=>exact absurd (show false=true from f) Bool.false_ne_true
theorem DW {x:V}:∀{xs:List V}{us:List Value},Vals xs us->xs.all yO=true->us.any (eqU x)=xs.any fun y=>eqV y x
 | _,_, .nil,_=>rfl
 | y::xs,u::us, .cons r t,f=>by
   rw[List.all_cons,Bool.and_eq_true] at f
   rw[List.any_cons,List.any_cons,VR r f.1,DW t f.2]
theorem yP {A:Around}{s:Shared}{x:V}{v:Value} (rx:RelV x v) (fx:yO x=true):∀{xs:List V}{us:List Value},Vals xs us->xs.all yO=true->∀u∈us,SeqAt.EqAt A s u v (eqU x u)
 | _,_, .nil,_=>fun u hu=>by cases hu
 | y::xs,u::us, .cons r t,f=>fun u' hu=>by
   rw[List.all_cons,Bool.and_eq_true] at f
   rcases List.mem_cons.mp hu with rfl | hu
   ·rw[VR r f.1];exact ack r rx f.1 fx
   ·exact yP rx fx t f.2 u' hu
def inV (x:V) (xs:List V):Bool:=xs.any fun y=>eqV y x
def rIn (K:PySem.W.Frag) (neg:Bool):R2:=fun x y H Q=>∃p xs,y= .ref p/\(SqL K H p xs\/SqT K H p xs)/\yO x=true/\xs.all yO=true/\Q (.bl (if neg then !inV x xs else inV x xs)) H
theorem Uy:OpR X (compareOp .In) (rIn X.K false):=by
 intro pins s σ H x y v u Q I rx ry h
 obtain⟨p,xs,rfl,hq,fx,fs,q⟩:=h
 cases ry
 rcases hq with hq | hq
 ·obtain⟨its,r,pl,hz⟩:=I.list hq
  refine SeqAt.in_listAt (eqU x) pl.isList (fun w hw=>yP rx fx r fs w (by simpa using hw)) ⟨.bl _,H,I,rfl, ?_⟩
  rw[show its.toArray.any (eqU x)=its.any (eqU x) by simp,DW r fs]
  exact q
 ·obtain⟨its,r,pl,hz⟩:=I.tuple hq
  refine SeqAt.in_tupleAt (eqU x) pl (fun w hw=>yP rx fx r fs w (by simpa using hw)) ⟨.bl _,H,I,rfl, ?_⟩
  rw[show its.toArray.any (eqU x)=its.any (eqU x) by simp,DW r fs]
  exact q
theorem M8:OpR X (compareOp .NotIn) (rIn X.K true):=by
 intro pins s σ H x y v u Q I rx ry h
 obtain⟨p,xs,rfl,hq,fx,fs,q⟩:=h
 cases ry
 rcases hq with hq | hq
 ·obtain⟨its,r,pl,hz⟩:=I.list hq
  refine SeqAt.notIn_listAt (eqU x) pl.isList (fun w hw=>yP rx fx r fs w (by simpa using hw)) ⟨.bl _,H,I,rfl, ?_⟩
  rw[show its.toArray.any (eqU x)=its.any (eqU x) by simp,DW r fs]
  exact q
 ·obtain⟨its,r,pl,hz⟩:=I.tuple hq
  refine SeqAt.notIn_tupleAt (eqU x) pl (fun w hw=>yP rx fx r fs w (by simpa using hw)) ⟨.bl _,H,I,rfl, ?_⟩
  rw[show its.toArray.any (eqU x)=its.any (eqU x) by simp,DW r fs]
  exact q
theorem M9:sU X (.builtin "len") (fun xs H Q=>∃p ys,xs=[.ref p]/\(SqL X.K H p ys\/SqT X.K H p ys)/\Q (.int ys.length) H):=by
 intro pins s σ H xs us Q I r h
 obtain⟨p,ys,rfl,hq,q⟩:=h
 obtain⟨u,rfl,rx⟩:=vals1 r
 cases rx
 have hn:=Js
 rcases hq with hq | hq
 ·obtain⟨its,r',pl,hz⟩:=I.list hq
  have hlen:=r'.length
  exact Calls.call_len_list pl.isList (by simp only[List.size_toArray]<;>omega) ⟨.int ys.length,H,I.tok _,⟨s.toks+1,by rw[List.size_toArray,hlen]⟩,q⟩
 ·obtain⟨its,r',pl,hz⟩:=I.tuple hq
  have hlen:=r'.length
  exact len_tuple pl (by simp only[List.size_toArray]<;>omega) ⟨.int ys.length,H,I.tok _,⟨s.toks+1,by rw[List.size_toArray,hlen]⟩,q⟩
theorem Nb:sU X (.type "list") (fun xs H Q=>∃p ys,xs=[.ref p]/\(SqL X.K H p ys\/SqT X.K H p ys)/\∀l,H l=none->Q (.ref l) (upd H l (.lst ys))):=by
 intro pins s σ H xs us Q I r h
 obtain⟨p,ys,rfl,hq,q⟩:=h
 obtain⟨u,rfl,rx⟩:=vals1 r
 cases rx
 have fin:∀(its:List Value),Vals ys its->ys.length<=sizeLine->∀(h':Heap) (c':Nat),(∀b o',s.heap.get? b=some o'->h'.get? b=some o')->
  h'.get? s.heap.objs.size=some {cls:= .type "list",dict:=none,data:= .seq its.toArray c',slots:= #[]}->EP X pins σ Q (.ref s.heap.objs.size) {s with heap:=h'}:=fun its r' hz h' c' kp e=>
  ⟨.ref s.heap.objs.size,_,I.laid (t':=s.toks) kp (Nat.le_refl _) (show fX X.prog X.w _ h' _ (.lst ys) from⟨hz,its,c',r',e⟩),rfl,q _ (I.hok.fresh (Nat.le_refl _))⟩
 rcases hq with hq | hq
 ·obtain⟨its,r',pl,hz⟩:=I.list hq
  have hlen:=r'.length
  obtain⟨o,ho,hc,n,hd⟩:=pl.isList
  exact call_list_seq p (.inl rfl) ho hc hd (fun h' c' kp e=>fin its r' hz h' c' kp e) (by simp only[List.size_toArray]<;>omega)
 ·obtain⟨its,r',pl,hz⟩:=I.tuple hq
  have hlen:=r'.length
  obtain⟨o,ho,hc,n,hd⟩:=pl
  exact call_list_seq p (.inr rfl) ho hc hd (fun h' c' kp e=>fin its r' hz h' c' kp e) (by simp only[List.size_toArray]<;>omega)
theorem K7:sU X (.type "tuple") (fun xs H Q=>∃p ys,xs=[.ref p]/\((SqL X.K H p ys/\∀l,H l=none->Q (.ref l) (upd H l (.tup ys)))\/(SqT X.K H p ys/\Q (.ref p) H))):=by
 intro pins s σ H xs us Q I r h
 obtain⟨p,ys,rfl,h⟩:=h
 obtain⟨u,rfl,rx⟩:=vals1 r
 cases rx
 rcases h with⟨hq,q⟩ | ⟨hq,q⟩
 ·obtain⟨its,r',pl,hz⟩:=I.list hq
  have hlen:=r'.length
  refine call_tuple_list pl.isList (fun h' kp=> ?_) (by simp only[List.size_toArray]<;>omega)
  have I1:Inv X pins σ H {s with heap:=h'}:=I.kept (t':=s.toks) kp
  have I2:Inv X pins σ (upd H h'.objs.size (.tup ys)) {s with heap:=h'.push {cls:= .type "tuple",data:= .seq its.toArray}}:=
   I1.laid (t':=s.toks) (fun b o e=>Heap.get?_push_of_some _ e) (Nat.le_refl _) (show fX X.prog X.w _ _ _ (.tup ys) from⟨hz,its,r',IsTup.new _ _⟩)
  exact⟨.ref h'.objs.size,_,I2,rfl,q _ (I1.hok.fresh (Nat.le_refl _))⟩
 ·obtain⟨its,r',pl,hz⟩:=I.tuple hq
  exact call_tuple_same pl ⟨.ref p,H,I,rfl,q⟩
def tyV (K:PySem.W.Frag) (T:String) (x:V) (H:Hp):Prop:=match x with
 | .str _=>T="str"
 | .int _=>T="int"
 | .ref p=>(T="list"/\∃xs,SqL K H p xs)\/(T="tuple"/\∃o,K.lookup p=some o/\o.cls= .type "tuple"/\o.dict=none)\/
     (T="dict"/\((∃kvs,H p=some (.dK kvs))\/∃kvs,H p=some (.dT kvs)))\/(T="set"/\∃S n,H p=some (.set S n))
 | _=>False
theorem V0 {pins:List (Addr×Obj)}{σ:St}{H:Hp}{s:Shared}{T:String}{x:V}{v:Value} (I:Inv X pins σ H s) (r:RelV x v) (ty:tyV X.K T x H):
 s.TypeIs v T/\∀a,v= .ref a->∃ob,s.heap.get? a=some ob/\ob.dict=none:=by
 cases x with
 | str z=>
   obtain⟨t,rfl⟩:=r
   cases(show T="str" from ty)
   exact⟨typeIs_str s z t,fun _ e=>nomatch e⟩
 | int i=>
   obtain⟨t,rfl⟩:=r
   cases(show T="int" from ty)
   exact⟨typeIs_int s i t,fun _ e=>nomatch e⟩
 | ref p=>
   cases r
   rcases ty with⟨rfl,xs,hq⟩ | ⟨rfl,o,hk,hc,hd⟩ | ⟨rfl,hk⟩ | ⟨rfl,S,n,hk⟩
   ·obtain⟨its,_,pl,_⟩:=I.list hq
    refine⟨pl.isList.typeIs,fun a e=> ?_⟩
    cases e
    obtain⟨o,n,e,c,hd,_⟩:=pl
    exact⟨o,e,hd⟩
   ·refine⟨⟨o,I.kIn p o hk,hc⟩,fun a e=> ?_⟩
    cases e
    exact⟨o,I.kIn _ o hk,hd⟩
   ·have z:∃o,s.heap.get? p=some o/\o.ExactDict:=by
     rcases hk with⟨kvs,hk⟩ | ⟨kvs,hk⟩
     ·obtain⟨_,_,_,_,o,_,_,e,ex,_⟩:=I.hok p _ hk
      exact⟨o,e,ex⟩
     ·obtain⟨_,_,_,_,o,_,_,e,ex,_⟩:=I.hok p _ hk
      exact⟨o,e,ex⟩
    obtain⟨o,e,ex⟩:=z
    refine⟨⟨o,e,ex.1⟩,fun a e2=> ?_⟩
    cases e2
    exact⟨o,e,ex.2.1⟩
   ·obtain⟨o,_,_,_,e,ex,_⟩:=I.hok p _ hk
    refine⟨⟨o,e,ex.1⟩,fun a e2=> ?_⟩
    cases e2
    exact⟨o,e,ex.2.1⟩
 | _=>exact False.elim ty
def afq (K:PySem.W.Frag) (T:String) (r:V->List V->Hp->VK->Prop) (to:TE):TE:=fun σ H Q=>to σ H fun x H1=>tyV K T x H1/\r x [] H1 Q
def tBM (K:PySem.W.Frag) (T:String) (r:V->List V->Hp->VK->Prop) (to:TE) (t:TA):TE:=fun σ H Q=>to σ H fun x H1=>tyV K T x H1/\t σ H1 fun xs H2=>r x xs H2 Q
variable {o e:Expr}{es:List Expr}{to:TE}{t:TA}{name:Str}{apos cpos:Pos}{T id:String}{r:V->List V->Hp->VK->Prop}
theorem acn (pa:PlainAttrs T) (slot:Slot T name id) (hty:typeOf (.builtin id)=pure (.type "method_descriptor")) (hm:MtR X id r) (ho:PE X o to)
 (hbase:attributeBase o name X.env (eval o X.env)=eval o X.env:=by rfl) (hline:(apos.endLine==cpos.line)=true:=by rfl):PE X (.Call (.Attribute o name apos) [] [] cpos) (afq X.K T r to):=by
 intro pins s σ H Q I h
 refine wpAny_Call_method0_late hbase hline (thn (ho pins s σ H _ I h) fun v s1 ⟨x,H1,I1,r1,ty,q1⟩=> ?_)
 obtain⟨h1,h2⟩:=V0 I1 r1 ty
 exact⟨T,id,pa,slot,hty,h1,h2,Calls.callWith_builtin rfl (PySem.evalArgs_none (hm pins s1 σ H1 x [] v [] Q I1 r1 .nil q1))⟩
theorem afr (pa:PlainAttrs T) (slot:Slot T name id) (hty:typeOf (.builtin id)=pure (.type "method_descriptor")) (hm:MtR X id r) (ho:PE X o to) (ha:PA X (e::es) t)
 (hbase:attributeBase o name X.env (eval o X.env)=eval o X.env:=by rfl)
 (hfew:((backTo cpos (starEach (e::es) X.env)).all (fun x=> !x.1)&&(backToKw cpos (keywordEach [] X.env)).all (fun x=>x.1.isSome)
   &&decide ((e::es).length+([]:List Keyword).length+(if([]:List Keyword).isEmpty then 0 else 1)<30))=true:=by rfl)
 (hline:(apos.endLine==cpos.line)=true:=by rfl) (hs:starEach (e::es) X.env=(false,eval e X.env)::starEach es X.env:=by rfl) (hplain:(backTo cpos (starEach es X.env)).any (·.1)=false:=by rfl):
 PE X (.Call (.Attribute o name apos) (e::es) [] cpos) (tBM X.K T r to t):=by
 intro pins s σ H Q I h
 refine wpAny_Call_method_late hbase hfew hline rfl (thn (ho pins s σ H _ I h) fun v s1 ⟨x,H1,I1,r1,ty,q1⟩=> ?_)
 obtain⟨h1,h2⟩:=V0 I1 r1 ty
 refine⟨T,id,pa,slot,hty,h1,h2, ?_⟩
 have hA:=ha cpos pins s1 σ H1 _ I1 q1
 rw[hs] at hA ⊢
 refine Calls.callWith_builtin (by show(false||(backTo cpos (starEach es X.env)).any (·.1))=false;rw[hplain]<;>rfl) (Calls.evalArgs_plain ?_)
 exact thn hA fun us s2 ⟨vs,H2,I2,r2,q2⟩=>hm pins s2 σ H2 x vs v us Q I2 r1 r2 q2
/- xs.append(e),list.index on a module's tuple .. are MtR facts of 06m -/
end
end L2
namespace L2
open PySem PySem.Spec PyProof.Rows
def MtM (X:Cx) (id:String) (r:V->List V->Hp->VK->Prop):Prop:=
 ∀(pins:List (Addr×Obj)) (s:Shared) (σ:St) (H:Hp) (x:V) (xs:List V) (v:Value) (us:List Value) (Q:VK),Inv X pins σ H s->RelV x v->Vals xs us->r x xs H Q->
  wpAny (model X.prog X.w) X.A (call (.builtin id) (v::us)) (EP X pins σ Q) X.xe s
theorem Vals.one:∀{x:V}{us:List Value},Vals [x] us->∃u,us=[u]/\RelV x u
 | _,_, .cons r .nil=>⟨_,rfl,r⟩
theorem Vals.two:∀{x y:V}{us:List Value},Vals [x,y] us->∃u v,us=[u,v]/\RelV x u/\RelV y v
 | _,_,_, .cons r (.cons q .nil)=>⟨_,_,rfl,r,q⟩
theorem Vals.zero:∀{us:List Value},Vals [] us->us=[]
 | _, .nil=>rfl
theorem Vals.dropLast {xs:List V}{us:List Value} (h:Vals xs us):Vals xs.dropLast us.dropLast:=by
 induction h with
 | nil=>exact .nil
 | cons r t ih=>
   cases t with
   | nil=>exact .nil
   | cons q t'=>exact .cons r ih
theorem Rg {α:Type} (l:List α):l.eraseIdx (l.length - 1)=l.dropLast:=by
 induction l with
 | nil=>rfl
 | cons a r ih=>
   cases r with
   | nil=>rfl
   | cons b r=>
     have e:(a::b::r).length - 1=((b::r).length - 1)+1:=by
      have h1:(a::b::r).length=r.length+2:=rfl
      have h2:(b::r).length=r.length+1:=rfl
      omega
     rw[e,List.eraseIdx_cons_succ,ih]
     all_goals rfl
section
variable {X:Cx}{pins:List (Addr×Obj)}{σ:St}{H:Hp}{s:Shared}{l b:Addr}{xs ys zs:List V}
theorem Inv.lset {its its':List Value}{n:Nat}{f:Array Value->Array Value}{t':Nat} (I:Inv X pins σ H s) (hH:H l=some (.lst xs))
 (e:s.heap.get? l=some {cls:= .type "list",data:= .seq its.toArray n}) (hf:f its.toArray=its'.toArray) (hv:Vals ys its') (hz:ys.length<=sizeLine):
 Inv X pins σ (upd H l (.lst ys)) {s with heap:=s.heap.update l (Obj.mapSeq f),toks:=t'}:=by
 have q:=PySem.IsL.update e f
 rw[hf] at q
 refine I.write (x:=l) (e:=l) (by rw[hH];exact trivial) (.inl rfl) (fun b' u hb hu=>(Heap.get?_update_other s.heap (Obj.mapSeq f) (Ne.symm hb)).trans hu) ⟨_,q⟩ ?_
 exact⟨hz,its',_,hv,q⟩
theorem Inv.lnew {its:List Value}{t':Nat} (I:Inv X pins σ H s) (hv:Vals ys its) (hz:ys.length<=sizeLine):
 Inv X pins σ (upd H s.heap.objs.size (.lst ys)) {s with heap:=s.heap.push {cls:= .type "list",data:= .seq its.toArray},toks:=t'}:=
 I.laid (fun _ _ q=>Heap.get?_push_of_some _ q) (Nat.le_refl _) ⟨hz,its,0,hv,Heap.get?_push_size _ rfl⟩
theorem Inv.fresh (I:Inv X pins σ H s):H s.heap.objs.size=none:=I.hok.fresh (Nat.le_refl _)
theorem Inv.Uz (I:Inv X pins σ H s) (hH:H l=some (.lst xs)):xs.length<=sizeLine/\∃(its:List Value) (n:Nat),Vals xs its/\xs.length=its.length/\s.heap.get? l=some {cls:= .type "list",data:= .seq its.toArray n}:=by
 obtain⟨z,its,n,r,e⟩:=I.hok l _ hH
 exact⟨z,its,n,r,r.length,e⟩
theorem V1 {n:Nat} (h:n<=sizeLine):Builtin.List.listTooLong n=false:=by
 unfold Builtin.List.listTooLong
 exact decide_eq_false (by omega)
end
section
variable {X:Cx}
def Tc:V->List V->Hp->VK->Prop:=fun x vs H Q=>∃l xs y,x= .ref l/\vs=[y]/\H l=some (.lst xs)/\xs.length<sizeLine/\Q .non (upd H l (.lst (xs++[y])))
theorem Mi:MtM X "list.append" Tc:=by
 intro pins s σ H x vs v us Q I rx rv h
 obtain⟨l,xs,y,rfl,rfl,hH,hz,q⟩:=h
 cases rx
 obtain⟨u,rfl,ru⟩:=rv.one
 obtain⟨z,its,n,r,hl,e⟩:=I.Uz hH
 refine call_meets F.slot_list_append ⟨_,e,rfl⟩ F.entry_list_append (F.args_list_append_2 _ _) (PySem.list_append l its.toArray n u (by rw[List.size_toArray];omega)) ⟨e, ?_⟩
 refine⟨.non,_,I.lset (its':=its++[u]) hH e (by simp) (r.append (.cons ru .nil)) ?_,rfl,q⟩
 rw[List.length_append,List.length_singleton]
 omega
def Td:V->List V->Hp->VK->Prop:=fun x vs H Q=>∃l b xs zs,x= .ref l/\vs=[.ref b]/\H l=some (.lst xs)/\H b=some (.lst zs)/\xs.length+zs.length<=sizeLine/\Q .non (upd H l (.lst (xs++zs)))
theorem UG:MtM X "list.extend" Td:=by
 intro pins s σ H x vs v us Q I rx rv h
 obtain⟨l,b,xs,zs,rfl,rfl,hH,hB,hz,q⟩:=h
 cases rx
 obtain⟨u,rfl,ru⟩:=rv.one
 cases ru
 obtain⟨z,its,n,r,hl,e⟩:=I.Uz hH
 obtain⟨z2,its2,n2,r2,hl2,e2⟩:=I.Uz hB
 have hsz:its.toArray.size+its2.toArray.size<=sizeLine:=by rw[List.size_toArray,List.size_toArray];omega
 have hlong:¬(!its.toArray.isEmpty&&Builtin.List.listTooLong (its.toArray.size+its2.toArray.size))=true:=by
  rw[V1 hsz,Bool.and_false]
  exact Bool.false_ne_true
 refine call_meets F.slot_list_extend ⟨_,e,rfl⟩ F.entry_list_extend (F.args_list_extend_2 _ _)
  (AutoSeq1.list_extend_list_list_0 l its.toArray n b its2.toArray n2 hlong (by rw[List.size_toArray];omega) (by omega)) ⟨e,e2, ?_⟩
 refine⟨.non,_,I.lset (its':=its++its2) hH e (by simp) (r.append r2) ?_,rfl,q⟩
 rw[List.length_append]
 omega
def afs:V->List V->Hp->VK->Prop:=fun x vs H Q=>∃l xs y,x= .ref l/\vs=[]/\H l=some (.lst xs)/\xs[xs.length - 1]? =some y/\Q y (upd H l (.lst xs.dropLast))
theorem aco:MtM X "list.pop" afs:=by
 intro pins s σ H x vs v us Q I rx rv h
 obtain⟨l,xs,y,rfl,rfl,hH,hy,q⟩:=h
 cases rx
 have hus:=rv.zero
 subst hus
 obtain⟨z,its,n,r,hl,e⟩:=I.Uz hH
 obtain⟨u,hu,ru⟩:=r.get hy
 have hy':its.toArray[its.toArray.size - 1]? =some u:=by
  show its.toArray[its.length - 1]? =some u
  rw[<-Array.getElem?_toList,<-hl]
  exact hu
 refine call_meets F.slot_list_pop ⟨_,e,rfl⟩ F.entry_list_pop (F.args_list_pop_1 _) (MeetsSeq.list_pop_last l its.toArray n u hy' (by rw[List.size_toArray];omega)) ⟨e, ?_⟩
 refine⟨y,_,I.lset (its':=its.dropLast) hH e ?_ r.dropLast ?_,ru,q⟩
 ·show its.toArray.eraseIdxIfInBounds (its.toArray.size - 1)=its.dropLast.toArray
  rw[List.size_toArray,List.eraseIdxIfInBounds_toArray,Rg]
 ·rw[List.length_dropLast]
  omega
def aft:R2:=fun x y H Q=>∃l b xs zs,x= .ref l/\y= .ref b/\H l=some (.lst xs)/\H b=some (.lst zs)/\xs.length+zs.length<=sizeLine/\∀p,H p=none->Q (.ref p) (upd H p (.lst (xs++zs)))
theorem acp:OpR X (binaryOp .Add) aft:=by
 intro pins s σ H x y v u Q I rx ry h
 obtain⟨l,b,xs,zs,rfl,rfl,hH,hB,hz,q⟩:=h
 cases rx
 cases ry
 obtain⟨z,its,n,r,hl,e⟩:=I.Uz hH
 obtain⟨z2,its2,n2,r2,hl2,e2⟩:=I.Uz hB
 refine PySem.P.add_list e e2 ?_ (by rw[List.size_toArray,List.size_toArray];omega)
 have ea:its.toArray++its2.toArray=(its++its2).toArray:=by simp
 rw[ea]
 exact⟨.ref _,_,I.lnew (t':=s.toks) (r.append r2) (by rw[List.length_append];omega),rfl,q _ I.fresh⟩
theorem len_rep {α:Type} (xs:List α) (k:Nat):(List.replicate k xs).flatten.length=k * xs.length:=by
 induction k with
 | zero=>simp
 | succ k ih=>rw[List.replicate_succ,List.flatten_cons,List.length_append,ih,Nat.succ_mul,Nat.add_comm]
end
section
variable {prog:Program}{w:World}{A:Around}{E:Value->Shared->Prop}{s:Shared}
end
section
variable {X:Cx}
end
end L2
namespace L2
open PySem PySem.Spec PyProof.Rows
section
variable {κ:Type} [DecidableEq κ]
def dH (kvs:List (κ×V)) (k:κ):Option V:=(kvs.find? fun kv=>decide (kv.1=k)).map (·.2)
def putK (kvs:List (κ×V)) (k:κ) (v:V):List (κ×V):=
 if(kvs.any fun kv=>decide (kv.1=k))=true then kvs.map (fun kv=>if kv.1=k then(kv.1,v) else kv) else kvs++[(k,v)]
def jP (kvs:List (κ×V)) (k:κ):List (κ×V):=kvs.filter fun kv=>decide (kv.1≠k)
theorem yQ {k:κ}:dH ([]:List (κ×V)) k=none:=rfl
theorem jV {p:κ×V}{r:List (κ×V)}{k:κ} (e:p.1=k):dH (p::r) k=some p.2:=by simp[dH,List.find?_cons,e]
theorem jE {p:κ×V}{r:List (κ×V)}{k:κ} (e:¬p.1=k):dH (p::r) k=dH r k:=by simp[dH,List.find?_cons,e]
theorem yR (k:κ):∀kvs:List (κ×V),(kvs.any fun kv=>decide (kv.1=k))=(dH kvs k).isSome
 |[]=>rfl
 | p::r=>by
   rw[List.any_cons]
   by_cases e:p.1=k
   ·simp only[jV e,decide_eq_true e,Bool.true_or,Option.isSome_some]
   ·rw[jE e,decide_eq_false e,Bool.false_or];exact yR k r
theorem OJ (k j:κ) (y:V):∀kvs:List (κ×V),dH (kvs.map fun kv=>if kv.1=k then(kv.1,y) else kv) j=(dH kvs j).map fun x=>if j=k then y else x
 |[]=>rfl
 | p::r=>by
   have ih:=OJ k j y r
   rw[List.map_cons]
   by_cases h:p.1=k
   ·rw[if_pos h]
    by_cases e:p.1=j
    ·rw[jV (p:=(p.1,y)) e,jV e,Option.map_some,if_pos (e.symm.trans h)]
    ·rw[jE (p:=(p.1,y)) e,jE e,ih]
   ·rw[if_neg h]
    by_cases e:p.1=j
    ·rw[jV (p:=p) e,jV e,Option.map_some,if_neg (fun z=>h (e.trans z))]
    ·rw[jE (p:=p) e,jE e,ih]
theorem Mj (k j:κ) (y:V):∀kvs:List (κ×V),dH kvs k=none->dH (kvs++[(k,y)]) j=if j=k then some y else dH kvs j
 |[],_=>by
  by_cases e:k=j
  ·rw[if_pos e.symm];exact jV (p:=(k,y)) e
  ·rw[if_neg (fun z=>e z.symm)];exact jE (p:=(k,y)) e
 | p::r,hn=>by
   rw[List.cons_append]
   have hk:¬p.1=k:=fun z=>by rw[jV z] at hn;cases hn
   rw[jE hk] at hn
   have ih:=Mj k j y r hn
   by_cases e:p.1=j
   ·rw[jV e,jV e,if_neg (fun z=>hk (e.trans z))]
   ·rw[jE e,jE e,ih]
theorem iQ (kvs:List (κ×V)) (k j:κ) (y:V):dH (putK kvs k y) j=if j=k then some y else dH kvs j:=by
 unfold putK
 by_cases a:(kvs.any fun kv=>decide (kv.1=k))=true
 ·rw[if_pos a,OJ]
  rw[yR] at a
  by_cases e:j=k
  ·obtain⟨x,hx⟩:=Option.isSome_iff_exists.mp a
   rw[if_pos e,e,hx,Option.map_some,if_pos rfl]
  ·rw[if_neg e]
   cases dH kvs j with
   | none=>rfl
   | some x=>rw[Option.map_some,if_neg e]
 ·rw[if_neg a]
  refine Mj k j y kvs ?_
  rw[yR] at a
  cases q:dH kvs k with
  | none=>rfl
  | some x=>rw[q] at a;exact(a rfl).elim
theorem yS (kvs:List (κ×V)) (k:κ) (v:V):(putK kvs k v).length<=kvs.length+1:=by
 unfold putK
 split
 ·rw[List.length_map];omega
 ·rw[List.length_append,List.length_cons,List.length_nil];omega
theorem wQ.vJ {o:Option V}{u:Option Value} (r:wQ o u):o.isSome=u.isSome:=by
 cases o with
 | none=>cases u with
   | none=>rfl
   | some _=>exact(show False from r).elim
 | some _=>cases u with
   | none=>exact(show False from r).elim
   | some _=>rfl
theorem wQ.getD {o:Option V}{u:Option Value}{d:V}{d':Value} (r:wQ o u) (rd:RelV d d'):RelV (o.getD d) (u.getD d'):=by
 cases o with
 | none=>cases u with
   | none=>exact rd
   | some _=>exact(show False from r).elim
 | some _=>cases u with
   | none=>exact(show False from r).elim
   | some _=>exact r
theorem KV.val {kvs:List (κ×V)}{vs:List (κ×Value)} (r:KV kvs vs) (k:κ):wQ (dH kvs k) (valueAt vs k):=by
 unfold KV at r
 induction r with
 | nil=>exact True.intro
 | @cons p q ps qs h t ih=>
   obtain⟨h1,h2⟩:=h
   by_cases e:p.1=k
   ·have e':q.1=k:=h1.symm.trans e
    have b:valueAt (q::qs) k=some q.2:=by simp[valueAt,List.find?_cons,e']
    rw[jV e,b];exact h2
   ·have e':¬q.1=k:=fun z=>e (h1.trans z)
    have b:valueAt (q::qs) k=valueAt qs k:=by simp[valueAt,List.find?_cons,e']
    rw[jE e,b];exact ih
theorem KV.any {kvs:List (κ×V)}{vs:List (κ×Value)} (r:KV kvs vs) (k:κ):(kvs.any fun kv=>decide (kv.1=k))=vs.any fun kv=>decide (kv.1=k):=by
 unfold KV at r
 induction r with
 | nil=>rfl
 | cons h t ih=>rw[List.any_cons,List.any_cons,ih,h.1]
theorem KV.repl {kvs:List (κ×V)}{vs:List (κ×Value)} (r:KV kvs vs) (k:κ) {y:V}{u:Value} (ry:RelV y u):
 KV (kvs.map fun kv=>if kv.1=k then(kv.1,y) else kv) (vs.map fun kv=>if kv.1=k then(kv.1,u) else kv):=by
 unfold KV at r ⊢
 induction r with
 | nil=>exact .nil
 | @cons p q ps qs h t ih=>
   rw[List.map_cons,List.map_cons]
   refine .cons ?_ ih
   obtain⟨h1,h2⟩:=h
   by_cases e:p.1=k
   ·rw[if_pos e,if_pos (h1.symm.trans e)];exact⟨h1,ry⟩
   ·rw[if_neg e,if_neg (fun z=>e (h1.trans z))];exact⟨h1,h2⟩
theorem KV.put {kvs:List (κ×V)}{vs:List (κ×Value)} (r:KV kvs vs) (k:κ) {y:V}{u:Value} (ry:RelV y u):KV (putK kvs k y) (stored vs k u):=by
 unfold putK stored
 rw[r.any k]
 by_cases e:(vs.any fun kv=>decide (kv.1=k))=true
 ·rw[if_pos e,if_pos e];exact r.repl k ry
 ·rw[if_neg e,if_neg e];exact Paired.snoc r ⟨rfl,ry⟩
theorem KV.drop {kvs:List (κ×V)}{vs:List (κ×Value)} (r:KV kvs vs) (k:κ):KV (jP kvs k) (without vs k):=by
 unfold KV at r ⊢
 unfold jP without
 induction r with
 | nil=>exact .nil
 | @cons p q ps qs h t ih=>
   obtain⟨h1,h2⟩:=h
   rw[List.filter_cons,List.filter_cons]
   by_cases e:p.1=k
   ·have a:¬decide (p.1≠k)=true:=by simp[e]
    have b:¬decide (q.1≠k)=true:=by simp[h1.symm.trans e]
    rw[if_neg a,if_neg b];exact ih
   ·have e':¬q.1=k:=fun z=>e (h1.trans z)
    have a:decide (p.1≠k)=true:=by simp[e]
    have b:decide (q.1≠k)=true:=by simp[e']
    rw[if_pos a,if_pos b];exact .cons ⟨h1,h2⟩ ih
theorem KV.length {kvs:List (κ×V)}{vs:List (κ×Value)} (r:KV kvs vs):kvs.length=vs.length:=Paired.length r
theorem V2 (kvs:List (κ×V)) (k:κ):(jP kvs k).length<=kvs.length:=List.length_filter_le _ _
end
theorem HQ {P:Program}{w:World}{k:Key}{u:Value} (r:RelV (kV k) u):(dY P w).is k u=true:=by
 cases k with
 | inl i=>obtain⟨t,e⟩:=(show∃t,u=Value.int i t from r);subst e;exact Oo P w i t
 | inr x=>obtain⟨t,e⟩:=(show∃t,u=Value.str x t from r);subst e;exact Oq P w x t
theorem Ml {P:Program}{w:World}:∀{ks:List Key}{us:List Value},Vals (ks.map kV) us->ItemsAre (dY P w) ks us
 |[],_,r=>by rw[List.map_nil] at r;cases r;exact .nil
 | k::ks,_,r=>by
   rw[List.map_cons] at r
   cases r with
   | cons h t=>exact .cons (HQ h) (Ml t)
abbrev KT (H:Hp):List (List Key×V)->List (List Key×Addr×Value)->Prop:=Paired fun p q=>p.1=q.1/\H q.2.1=some (.tup (p.1.map kV))/\RelV p.2 q.2.2
theorem KT.val {H:Hp}{kvs:List (List Key×V)}{xs:List (List Key×Addr×Value)} (r:KT H kvs xs) (k:List Key):wQ (dH kvs k) ((atKey xs k).map (·.2)):=by
 induction r with
 | nil=>exact True.intro
 | @cons p q ps qs h t ih=>
   obtain⟨h1,_,h2⟩:=h
   by_cases e:p.1=k
   ·have e':q.1=k:=h1.symm.trans e
    have b:atKey (q::qs) k=some q.2:=by simp[atKey,List.find?_cons,e']
    rw[jV e,b];exact h2
   ·have e':¬q.1=k:=fun z=>e (h1.trans z)
    have b:atKey (q::qs) k=atKey qs k:=by simp[atKey,List.find?_cons,e']
    rw[jE e,b];exact ih
theorem KT.repl {H:Hp}{kvs:List (List Key×V)}{xs:List (List Key×Addr×Value)} (r:KT H kvs xs) (k:List Key) {y:V}{u:Value} (ry:RelV y u):
 KT H (kvs.map fun kv=>if kv.1=k then(kv.1,y) else kv) (xs.map (putAt k u)):=by
 induction r with
 | nil=>exact .nil
 | @cons p q ps qs h t ih=>
   rw[List.map_cons,List.map_cons]
   refine .cons ?_ ih
   obtain⟨h1,h2,h3⟩:=h
   unfold putAt
   by_cases e:p.1=k
   ·rw[if_pos e,if_pos (h1.symm.trans e)];exact⟨h1,h2,ry⟩
   ·rw[if_neg e,if_neg (fun z=>e (h1.trans z))];exact⟨h1,h2,h3⟩
theorem KT.put {H:Hp}{kvs:List (List Key×V)}{xs:List (List Key×Addr×Value)} (r:KT H kvs xs) (k:List Key) {b:Addr}{y:V}{u:Value} (hb:H b=some (.tup (k.map kV))) (ry:RelV y u):
 KT H (putK kvs k y) (storedH xs k b u):=by
 have e:(kvs.any fun kv=>decide (kv.1=k))=(atKey xs k).isSome:=by
  rw[yR,(r.val k).vJ,Option.isSome_map]
 unfold putK storedH
 rw[e]
 by_cases q:(atKey xs k).isSome=true
 ·rw[if_pos q,if_pos q];exact r.repl k ry
 ·rw[if_neg q,if_neg q];exact Paired.snoc r ⟨rfl,hb,ry⟩
theorem KT.keeps {H H':Hp}{kvs:List (List Key×V)}{xs:List (List Key×Addr×Value)} (r:KT H kvs xs) (ht:∀b ys,H b=some (.tup ys)->H' b=some (.tup ys)):KT H' kvs xs:=
 Paired.abD r fun _ _ z=>⟨z.1,ht _ _ z.2.1,z.2.2⟩
section
variable {P:Program}{w:World}{H:Hp}{h:Heap}{a:Addr}
theorem aaL {u:HO} (ok:HOk P w H h) (e:Rd H a u):fX P w H h a u:=e.ok ok
theorem DX {kvs:List (Key×V)} (ok:HOk P w H h) (e:Rd H a (.dK kvs)):kvs.length<=sizeLine/\(a==sysModules)=false/\∃vs,KV kvs vs/\h.DictOf (dY P w) a vs:=
 show fX P w H h a (.dK kvs) from aaL ok e
theorem O1 {kvs:List (Key×V)} (ok:HOk P w H h) (e:H a=some (.dK kvs)):kvs.length<=sizeLine/\(a==sysModules)=false/\∃vs,KV kvs vs/\h.DictOf (dY P w) a vs:=DX ok (.inl e)
theorem Gk {ks:List Key} (ok:HOk P w H h) (e:H a=some (.tup (ks.map kV))):(tupleKind (dY P w)).is h ks a:=by
 obtain⟨_,its,r,o,h1,h2,n,h3⟩:=(show fX P w H h a (.tup (ks.map kV)) from ok a _ e)
 exact⟨o,its.toArray,n,h1,h2,h3,by simpa using Ml r⟩
theorem Ju {kvs:List (List Key×V)} (ok:HOk P w H h) (e:Rd H a (.dT kvs)):kvs.length<=sizeLine/\(a==sysModules)=false/\
 ∃xs,KT H kvs xs/\h.DictOfH (tupleKind (dY P w)) a xs:=by
 obtain⟨z,y,xs,r,o,es,ep,h1,h2,h3,h4,h5⟩:=(show fX P w H h a (.dT kvs) from aaL ok e)
 refine⟨z,y,xs,r,o,es,ep,h1,h2,h3,h4,fun x hx=> ?_,h5⟩
 have all:∀{l:List (List Key×V)}{m:List (List Key×Addr×Value)},KT H l m->∀x∈m,(tupleKind (dY P w)).is h x.1 x.2.1:=by
  intro l m q
  induction q with
  | nil=>intro x hx;exact nomatch hx
  | @cons p q ps qs hq t ih=>
    intro x hx
    rcases List.mem_cons.mp hx with e | hx
    ·subst e
     exact Gk ok (by rw[<-hq.1];exact hq.2.1)
    ·exact ih x hx
 exact all r x hx
theorem afu {kvs:List (List Key×V)} (ok:HOk P w H h) (e:H a=some (.dT kvs)):kvs.length<=sizeLine/\(a==sysModules)=false/\
 ∃xs,KT H kvs xs/\h.DictOfH (tupleKind (dY P w)) a xs:=Ju ok (.inl e)
end
def bK (H:Hp) (a:Addr) (y:V) (r:Option V):Prop:=
 (∃kvs k,Rd H a (.dK kvs)/\y=kV k/\r=dH kvs k)\/∃kvs k b,Rd H a (.dT kvs)/\y= .ref b/\H b=some (.tup (k.map kV))/\r=dH kvs k
def jF (H:Hp) (a:Addr) (y v:V) (H':Hp):Prop:=
 (∃kvs k,H a=some (.dK kvs)/\y=kV k/\kvs.length<sizeLine/\H'=upd H a (.dK (putK kvs k v)))\/
 ∃kvs k b,H a=some (.dT kvs)/\y= .ref b/\H b=some (.tup (k.map kV))/\kvs.length<sizeLine/\H'=upd H a (.dT (putK kvs k v))
theorem bK.k {H:Hp}{a:Addr}{kvs:List (Key×V)}{k:Key} (e:H a=some (.dK kvs)):bK H a (kV k) (dH kvs k):= .inl ⟨kvs,k, .inl e,rfl,rfl⟩
theorem jF.k {H:Hp}{a:Addr}{kvs:List (Key×V)}{k:Key}{v:V} (e:H a=some (.dK kvs)) (hl:kvs.length<sizeLine):jF H a (kV k) v (upd H a (.dK (putK kvs k v))):= .inl ⟨kvs,k,e,rfl,hl,rfl⟩
section
variable {X:Cx}{pins:List (Addr×Obj)}{σ:St}{H:Hp}{s:Shared}{a:Addr}{y v:V}{u r:Value}{o:Option V}{A:Around}{E:Value->Shared->Prop}
theorem Inv.big (I:Inv X pins σ H s):sysModules<s.heap.objs.size:=by
 have h:mainGlobals<s.heap.objs.size:=(I.mod.glob.keeps I.bk).lt
 exact Nat.lt_trans (by decide) h
theorem UJ {Q:Value->Shared->Prop} (hu:A.units+1<cLine) (I:Inv X pins σ H s) (g:bK H a y (some v)) (ry:RelV y u) (h:∀w' s',Inv X pins σ H s'->RelV v w'->Q w' s'):
 wpAny (model X.prog X.w) A (getItem (.ref a) u) Q E s:=by
 rcases g with⟨kvs,k,e,ey,l⟩ | ⟨kvs,k,b,e,ey,eb,l⟩
 ·subst ey
  obtain⟨z,hd,vs,rel,dd⟩:=DX I.hok e
  obtain⟨w',hw,rw'⟩:=wQ.some_of (v:=v) (o:=valueAt vs k) (by rw[l];exact rel.val k)
  exact wpAny_getItem_of (HQ ry) dd.mapOf hw (h w' _ (I.tok _) rw')
 ·subst ey
  cases(show u=Value.ref b from ry)
  obtain⟨z,hd,xs,rel,dd⟩:=Ju I.hok e
  obtain⟨w',hw,rw'⟩:=wQ.some_of (v:=v) (o:=(atKey xs k).map (·.2)) (by rw[l];exact rel.val k)
  obtain⟨p,hp,hp2⟩:=Option.map_eq_some_iff.mp hw
  refine wpAny_getItem_heap (tupleKind_room_in1 hu) (Gk I.hok eb) dd hp ?_
  rw[hp2]
  exact h w' _ (I.tok _) rw'
theorem ajj {Q:Value->Shared->Prop} (hu:A.units+1<cLine) (I:Inv X pins σ H s) (g:bK H a y o) (ry:RelV y u) (h:∀s',Inv X pins σ H s'->Q (.bool o.isSome) s'):
 wpAny (model X.prog X.w) A (compareOp .In u (.ref a)) Q E s:=by
 rcases g with⟨kvs,k,e,ey,l⟩ | ⟨kvs,k,b,e,ey,eb,l⟩
 ·subst ey
  obtain⟨z,hd,vs,rel,dd⟩:=DX I.hok e
  refine wpAny_in_of (HQ ry) hd dd.mapOf ?_
  rw[<-(rel.val k).vJ,<-l]
  exact h _ (I.tok _)
 ·subst ey
  cases(show u=Value.ref b from ry)
  obtain⟨z,hd,xs,rel,dd⟩:=Ju I.hok e
  refine wpAny_in_heap (tupleKind_room_in1 hu) (Gk I.hok eb) hd dd ?_
  have q:=(rel.val k).vJ
  rw[Option.isSome_map] at q
  rw[<-q,<-l]
  exact h _ (I.tok _)
theorem YG {Q:Value->Shared->Prop} (hu:A.units+1<cLine) (I:Inv X pins σ H s) (g:bK H a y o) (ry:RelV y u) (h:∀s',Inv X pins σ H s'->Q (.bool (!o.isSome)) s'):
 wpAny (model X.prog X.w) A (compareOp .NotIn u (.ref a)) Q E s:=by
 rcases g with⟨kvs,k,e,ey,l⟩ | ⟨kvs,k,b,e,ey,eb,l⟩
 ·subst ey
  obtain⟨z,hd,vs,rel,dd⟩:=DX I.hok e
  refine wpAny_notIn_of (HQ ry) hd dd.mapOf ?_
  rw[<-(rel.val k).vJ,<-l]
  exact h _ (I.tok _)
 ·subst ey
  cases(show u=Value.ref b from ry)
  obtain⟨z,hd,xs,rel,dd⟩:=Ju I.hok e
  refine wpAny_notIn_heap (tupleKind_room_in1 hu) (Gk I.hok eb) hd dd ?_
  have q:=(rel.val k).vJ
  rw[Option.isSome_map] at q
  rw[<-q,<-l]
  exact h _ (I.tok _)
theorem Jf {h':Heap}{t':Nat}{ob:HO} (I:Inv X pins σ H s) (mu:Mut (H a)) (hs:Heap.SameBut a s.heap h') (he:∃q,h'.get? a=some q) (new:fX X.prog X.w (upd H a ob) h' a ob):
 Inv X pins σ (upd H a ob) {s with heap:=h',toks:=t'}:=
 I.write (x:=a) (e:=a) mu (.inl rfl) (fun b q hb z=>(hs.2 b hb).trans z) he new
theorem Rh {P:Program}{w:World}{H':Hp}{h':Heap}{kvs:List (Key×V)}{vs:List (Key×Value)} (z:kvs.length<=sizeLine) (hd:(a==sysModules)=false) (rel:KV kvs vs) (dd:h'.DictOf (dY P w) a vs):
 fX P w H' h' a (.dK kvs):=⟨z,hd,vs,rel,dd⟩
theorem UL {H':Hp}{Q:Unit->Shared->Prop} (hu:A.units+1<cLine) (I:Inv X pins σ H s) (g:jF H a y v H') (ry:RelV y u) (rv:RelV v r) (h:∀s',Inv X pins σ H' s'->Q () s'):
 wpAny (model X.prog X.w) A (setItem (.ref a) u r) Q E s:=by
 rcases g with⟨kvs,k,e,ey,l,eH⟩ | ⟨kvs,k,b,e,ey,eb,l,eH⟩
 ·subst ey eH
  obtain⟨z,hd,vs,rel,dd⟩:=O1 I.hok e
  have hz:vs.length<=sizeLine:=by rw[<-rel.length];exact z
  have hl:(putK kvs k v).length<=sizeLine:=by have:=yS kvs k v;omega
  refine wpAny_setItem_pairs (hsz:=hz) (HQ ry) dd fun h' dd' hs=>h _ ?_
  have he:∃q,h'.get? a=some q:=let ⟨q,_,_,hq,_⟩:=dd';⟨q,hq⟩
  exact Jf I (by rw[e];exact True.intro) hs he (Rh hl hd (rel.put k rv) dd')
 ·subst ey eH
  cases(show u=Value.ref b from ry)
  obtain⟨z,hd,xs,rel,dd⟩:=afu I.hok e
  have hz:xs.length<=sizeLine:=by rw[<-Paired.length rel];exact z
  have hl:(putK kvs k v).length<=sizeLine:=by have:=yS kvs k v;omega
  refine wpAny_setItem_heap (hsz:=hz) (tupleKind_room_in1 hu) (Gk I.hok eb) dd fun h' dd' hs=>h _ ?_
  obtain⟨q,es,ep,hq,h2,h3,h4,_,h5⟩:=dd'
  refine Jf I (by rw[e];exact True.intro) hs ⟨q,hq⟩ ⟨hl,hd,_,(rel.put k eb rv).keeps fun c ys ec=> ?_,q,es,ep,hq,h2,h3,h4,h5⟩
  rw[au (aeW ec e (fun z=>nomatch z))]
  exact ec
end
section
variable {X:Cx}{pins:List (Addr×Obj)}{σ:St}{H:Hp}{s:Shared}{a:Addr}{kvs:List (Key×V)}{k:Key}{u:Value}{A:Around}{E:Value->Shared->Prop}
theorem afv {v:V}{more:List Value}{Q:Value->Shared->Prop} (I:Inv X pins σ H s) (e:H a=some (.dK kvs)) (ry:RelV (kV k) u) (l:dH kvs k=some v) (hm:more=[]\/∃x,more=[x])
 (h:∀w' s',Inv X pins σ (upd H a (.dK (jP kvs k))) s'->RelV v w'->Q w' s'):wpAny (model X.prog X.w) A (call (.builtin "dict.pop") (.ref a::u::more)) Q E s:=by
 obtain⟨z,hd,vs,rel,dd⟩:=O1 I.hok e
 obtain⟨w',hw,rw'⟩:=wQ.some_of (v:=v) (o:=valueAt vs k) (by rw[<-l];exact rel.val k)
 have hp:(keyPart u).isSome=true:=by
  cases k with
  | inl i=>obtain⟨t,q⟩:=(show∃t,u=Value.int i t from ry);subst q;rfl
  | inr x=>obtain⟨t,q⟩:=(show∃t,u=Value.str x t from ry);subst q;rfl
 have ha:argsOk "dict.pop" ⟨.ref a::u::more,[]⟩:=by
  rcases hm with q | ⟨x,q⟩
  ·subst q;exact PySem.F.args_dict_pop_2 _ _
  ·subst q;exact PySem.F.args_dict_pop_3 _ _ _
 refine call_meetsIn PySem.F.slot_dict_pop dd.typeIs PySem.F.entry_dict_pop ha (meets_dict_pop_there (dY X.prog X.w) a (HQ ry) more hm hp)
  ⟨vs,w',dd,by rw[<-rel.length];exact z,hw,fun h' dd' hs=>h w' _ ?_ rw'⟩
 have he:∃q,h'.get? a=some q:=let ⟨q,_,_,hq,_⟩:=dd';⟨q,hq⟩
 exact Jf I (by rw[e];exact True.intro) hs he (Rh (Nat.le_trans (V2 kvs k) z) hd (rel.drop k) dd')
theorem afw {Q:Value->Shared->Prop} (I:Inv X pins σ H s) (e:Rd H a (.dK kvs)) (h:∀t s',Inv X pins σ H s'->Q (.int kvs.length t) s'):wpAny (model X.prog X.w) A (call (.builtin "len") [.ref a]) Q E s:=by
 obtain⟨z,hd,vs,rel,dd⟩:=DX I.hok e
 refine call_len_dict hd dd (by rw[<-rel.length];rw[sizeLine_eq] at z;omega) ?_
 rw[<-rel.length]
 exact h _ _ (I.tok _)
end
def acq (i:Expr):Prop:=∀ov iv,subscripted i false ov iv=operate [ov,iv] (getItem ov iv)
theorem YH {prog:Program}{w:World}{A:Around}{E:Value->Shared->Prop}{s:Shared}{env:Env}{value slice:Expr}{pos:Pos}{T id:String}{Q:Value->Shared->Prop}
 (hl:typeLookup (.type T) "__getitem__"=pure (some (.builtin id))) (hs:acq slice)
 (h:wpAny (model prog w) A (eval value env) (fun o s₁=>wpAny (model prog w) A (eval slice env) (fun i s₂=>s₂.TypeIs o T/\wpAny (model prog w) A (getItem o i) Q E s₂) E s₁) E s):
 wpAny (model prog w) A (eval (.Subscript value slice pos) env) Q E s:=by
 refine Subscript_ (wpAny_mono h (fun o s₁ h₁=>wpAny_mono h₁ (fun i s₂ h₂=> ?_) fun _ _ x=>x) fun _ _ x=>x)
 obtain⟨hT,h₂⟩:=h₂
 unfold subscriptTail
 refine wpAny_bind ?_
 rw[getitemInPython_of_ne hT.not_modules]
 refine wpAny_bind (wpAny_specialOf hT hl ?_)
 have fin:wpAny (model prog w) A (subscripted slice false o i) (fun r s₃=>wpAny (model prog w) A (letTemporaryGo value o r>>=fun _=>pure r) Q E s₃) E s₂:=by
  rw[hs o i]
  exact wpAny_operating (wpAny_mono h₂ (fun r s₃ h₃=>wpAny_bind (wpAny_letTemporaryGo (wpAny_pure h₃))) fun _ _ x=>x)
 first
  | exact wpAny_pure (wpAny_bind fin)
  | exact wpAny_bind (wpAny_pure (wpAny_bind fin))
  | exact wpAny_bind fin
theorem O2 {X:Cx}{pins:List (Addr×Obj)}{σ:St}{H:Hp}{s:Shared}{a:Addr}{y:V}{o:Option V} (I:Inv X pins σ H s) (g:bK H a y o):s.TypeIs (.ref a) "dict":=by
 rcases g with⟨kvs,k,e,_,_⟩ | ⟨kvs,k,b,e,_,_,_⟩
 ·obtain⟨_,_,vs,_,dd⟩:=DX I.hok e
  exact dd.typeIs
 ·obtain⟨_,_,xs,_,dd⟩:=Ju I.hok e
  exact dd.typeIs
def aaM (td ty:TE):TE:=fun σ H Q=>td σ H fun x H1=>ty σ H1 fun y H2=>∃a v,x= .ref a/\bK H2 a y (some v)/\Q v H2
def afx (ty td:TE):TE:=fun σ H Q=>ty σ H fun y H1=>td σ H1 fun x H2=>∃a o,x= .ref a/\bK H2 a y o/\Q (.bl o.isSome) H2
def Te (ty td:TE):TE:=fun σ H Q=>ty σ H fun y H1=>td σ H1 fun x H2=>∃a o,x= .ref a/\bK H2 a y o/\Q (.bl (!o.isSome)) H2
def aaN (td ty tv:TE):TS:=fun D σ H=>tv σ H fun v H1=>td σ H1 fun x H2=>ty σ H2 fun y H3=>∃a H4,x= .ref a/\jF H3 a y v H4/\D.nx σ H4
section
variable {X:Cx}{o i e value:Expr}{pos pos' tpos:Pos}{td ty tv:TE}
theorem YJ (hu:X.A.units+1<cLine) (ho:PE X o td) (hi:PE X i ty) (hs:acq i):PE X (.Subscript o i pos) (aaM td ty):=by
 intro pins s σ H Q I h
 refine YH PySem.F.slot_dict_getitem.lookup hs (thn (ho pins s σ H _ I h) fun u s1 ⟨x,H1,I1,rx,q1⟩=>thn (hi pins s1 σ H1 _ I1 q1) fun iv s2 ⟨y,H2,I2,ry,a,v,ex,g,q2⟩=> ?_)
 subst ex
 obtain rfl:u=Value.ref a:=rx
 exact⟨O2 I2 g,UJ hu I2 g ry fun w' s3 I3 rw'=>⟨v,H2,I3,rw',q2⟩⟩
theorem acr (hu:X.A.units+1<cLine) (hi:PE X i ty) (ho:PE X o td):PC X .In i o (afx ty td):=by
 intro pins s σ H Q I h
 refine thn (hi pins s σ H _ I h) fun iv s1 ⟨y,H1,I1,ry,q1⟩=>thn (ho pins s1 σ H1 _ I1 q1) fun u s2 ⟨x,H2,I2,rx,a,ov,ex,g,q2⟩=> ?_
 subst ex
 obtain rfl:u=Value.ref a:=rx
 exact ajj hu I2 g ry fun s3 I3=>⟨.bl ov.isSome,H2,I3,rfl,q2⟩
theorem UT (hu:X.A.units+1<cLine) (hi:PE X i ty) (ho:PE X o td):PC X .NotIn i o (Te ty td):=by
 intro pins s σ H Q I h
 refine thn (hi pins s σ H _ I h) fun iv s1 ⟨y,H1,I1,ry,q1⟩=>thn (ho pins s1 σ H1 _ I1 q1) fun u s2 ⟨x,H2,I2,rx,a,ov,ex,g,q2⟩=> ?_
 subst ex
 obtain rfl:u=Value.ref a:=rx
 exact YG hu I2 g ry fun s3 I3=>⟨.bl (!ov.isSome),H2,I3,rfl,q2⟩
theorem YK (hu:X.A.units+1<cLine) (ho:PE X o td) (hi:PE X i ty) (hv:PE X value tv) (hs:swapsWith value (some (.Subscript o i pos')) pos.line X.env=pure false):
 PS X (.Assign [.Subscript o i pos'] value pos) (aaN td ty tv):=by
 intro pins s σ H D I h
 refine wpAny_Assign_Subscript (thn (hv pins s σ H _ I h) fun r s1 ⟨v,H1,I1,rv,q1⟩=>thn (ho pins s1 σ H1 _ I1 q1) fun u s2 ⟨x,H2,I2,rx,q2⟩=>thn (hi pins s2 σ H2 _ I2 q2) fun iv s3 ⟨y,H3,I3,ry,a,H4,ex,g,q3⟩=> ?_) hs
 subst ex
 obtain rfl:u=Value.ref a:=rx
 exact UL hu I3 g ry rv fun s4 I4=>⟨σ,H4,I4,q3⟩
end
theorem O3 {P:Program}{w:World}{H:Hp} (h:Heap) (hb:sysModules<h.objs.size):fX P w H (h.push {cls:= .type "dict",data:= .dict #[]}) h.objs.size (.dK []):=
 ⟨Nat.zero_le _,beq_eq_false_iff_ne.mpr (Ne.symm (Nat.ne_of_lt hb)),[], .nil,Heap.DictOf.new h⟩
def V3:TE:=fun _ H Q=>∀p,H p=none->Q (.ref p) (upd H p (.dK []))
section
variable {X:Cx}{pos:Pos}
theorem V4:PE X (.Dict [] [] pos) V3:=fun pins s σ H Q I h=>
 wpAny_Dict_empty ⟨.ref s.heap.objs.size,_,I.laid (a:=s.heap.objs.size) (o:= .dK []) (t':=s.toks) (fun _ _ q=>Heap.get?_push_of_some _ q) (Nat.le_refl _) (O3 s.heap I.big),rfl,h _ (I.hok.fresh (Nat.le_refl _))⟩
end
def Ri:List (TE×TE)->St->Hp->(List (V×V)->Hp->Prop)->Prop
 |[],_,H,Q=>Q [] H
 | (tk,tv)::r,σ,H,Q=>tk σ H fun x H1=>tv σ H1 fun y H2=>Ri r σ H2 fun ps H3=>Q ((x,y)::ps) H3
abbrev VV:List (V×V)->List (Value×Value)->Prop:=Paired fun p q=>RelV p.1 q.1/\RelV p.2 q.2
def PPs (X:Cx) (pos:Pos) (keys:List (Option Expr)) (values:List Expr) (trs:List (TE×TE)):Prop:=
 ∀(pins:List (Addr×Obj)) (s:Shared) (σ:St) (H:Hp) (Q:List (V×V)->Hp->Prop),Inv X pins σ H s->Ri trs σ H Q->
  wpAny (model X.prog X.w) X.A (evalPairs (pairTrees keys values X.env pos)) (fun vs s'=>∃ps H',Inv X pins σ H' s'/\VV ps vs/\Q ps H') X.xe s
theorem YL {X:Cx}{pos:Pos}:PPs X pos [] [] []:=fun pins s σ H Q I h=>pairTrees_nil_walk ⟨[],H,I, .nil,h⟩
theorem V5 {X:Cx}{pos:Pos}{k v:Expr}{ks:List (Option Expr)}{vs:List Expr}{tk tv:TE}{trs:List (TE×TE)} (hk:PE X k tk) (hv:PE X v tv) (hr:PPs X pos ks vs trs):
 PPs X pos (some k::ks) (v::vs) ((tk,tv)::trs):=fun pins s σ H Q I h=>
 pairTrees_cons_walk (thn (hk pins s σ H _ I h) fun u s1 ⟨x,H1,I1,rx,q1⟩=>thn (hv pins s1 σ H1 _ I1 q1) fun w2 s2 ⟨y,H2,I2,ry,q2⟩=>
  thn (hr pins s2 σ H2 _ I2 q2) fun ws s3 ⟨ps,H3,I3,rel,q3⟩=>⟨(x,y)::ps,H3,I3, .cons ⟨rx,ry⟩ rel,q3⟩)
def Gm (kvs more:List (Key×V)):List (Key×V):=more.foldl (fun acc kv=>putK acc kv.1 kv.2) kvs
theorem KV.merge:∀{more:List (Key×V)}{rs:List (Key×Value)}{kvs:List (Key×V)}{vs:List (Key×Value)},KV more rs->KV kvs vs->KV (Gm kvs more) (merged vs rs):=by
 intro more rs kvs vs r
 unfold KV at r
 induction r generalizing kvs vs with
 | nil=>intro q;exact q
 | @cons p q ps qs h t ih=>
   intro r0
   have e:KV (putK kvs p.1 p.2) (stored vs q.1 q.2):=by
    have:=r0.put p.1 h.2
    rw[<-h.1];exact this
   exact ih e
theorem BJ:∀(more kvs:List (Key×V)),(Gm kvs more).length<=kvs.length+more.length
 |[],kvs=>by show kvs.length<=kvs.length+0;omega
 | p::r,kvs=>by
   have h1:=BJ r (putK kvs p.1 p.2)
   have h2:=yS kvs p.1 p.2
   show(Gm (putK kvs p.1 p.2) r).length<=_
   rw[List.length_cons];omega
theorem Jv {P:Program}{w:World}:∀{kvs:List (Key×V)}{ws:List (Value×Value)},VV (kvs.map fun kv=>(kV kv.1,kv.2)) ws->∃rs,Carries (dY P w) ws rs/\KV kvs rs
 |[],_,r=>by rw[List.map_nil] at r;cases r;exact⟨[],True.intro, .nil⟩
 | p::kvs,_,r=>by
   rw[List.map_cons] at r
   cases r with
   | @cons a b as bs h t=>
     obtain⟨rs,c,q⟩:=Jv (P:=P) (w:=w) t
     obtain⟨b1,b2⟩:=b
     exact⟨(p.1,b2)::rs,⟨HQ h.1,rfl,c⟩, .cons ⟨rfl,h.2⟩ q⟩
def aaO (trs:List (TE×TE)):TE:=fun σ H Q=>∀p,H p=none->Ri trs σ (upd H p (.dK [])) fun ps H2=>H2 p=some (.dK [])/\∃kvs:List (Key×V),ps=kvs.map (fun kv=>(kV kv.1,kv.2))/\kvs.length<=15/\Q (.ref p) (upd H2 p (.dK (Gm [] kvs)))
theorem YM {X:Cx}{pos:Pos}{keys:List (Option Expr)}{values:List Expr}{trs:List (TE×TE)} (h:PPs X pos keys values trs) (hall:keys.all (·.isSome)=true) (hl:keys.length=values.length) (h0:keys≠[])
 (h15:keys.length<=15):PE X (.Dict keys values pos) (aaO trs):=by
 intro pins s σ H Q I q
 have hn:=I.hok.fresh (Nat.le_refl s.heap.objs.size)
 have I1:=I.laid (a:=s.heap.objs.size) (o:= .dK []) (h':=s.heap.push {cls:= .type "dict",data:= .dict #[]}) (t':=s.toks) (fun _ _ q=>Heap.get?_push_of_some _ q) (Nat.le_refl _) (O3 s.heap I.big)
 refine wpAny_Dict_walk (knd:=dY X.prog X.w) hall hl h0 h15 (thn (h pins _ σ _ _ I1 (q _ hn)) fun ws s2 ⟨ps,H2,I2,rel,e,kvs,ep,lk,q2⟩=> ?_)
 subst ep
 obtain⟨rs,c,rk⟩:=Jv (P:=X.prog) (w:=X.w) rel
 obtain⟨z,hd,vs0,r0,dd⟩:=O1 I2.hok e
 cases r0
 refine⟨rs,c,dd,fun h' dd' hs=>⟨.ref s.heap.objs.size,_, ?_,rfl,q2⟩⟩
 have hz:(Gm [] kvs).length<=sizeLine:=by
  have h1:=BJ kvs []
  rw[List.length_nil] at h1
  rw[sizeLine_eq];omega
 have he:∃q,h'.get? s.heap.objs.size=some q:=let ⟨q,_,_,hq,_⟩:=dd';⟨q,hq⟩
 exact Jf I2 (by rw[e];exact True.intro) hs he (Rh hz hd (rk.merge .nil) dd')
structure M1 (X:Cx) (o:Expr) (m:Str) (apos:Pos) (e:Expr) (cpos:Pos):Prop where
 base:attributeBase o m X.env (eval o X.env)=eval o X.env
 few:((backTo cpos (starEach [e] X.env)).all (fun x=> !x.1)&&(backToKw cpos (keywordEach [] X.env)).all (fun x=>x.1.isSome)
  &&decide (([e]:List Expr).length+([]:List Keyword).length+(if([]:List Keyword).isEmpty then 0 else 1)<30))=true
 line:(apos.endLine==cpos.line)=true
 trees:backTo cpos (starEach [e] X.env)=[(false,eval e X.env)]
def IsD (H:Hp) (a:Addr):Prop:=(∃kvs,Rd H a (.dK kvs))\/∃kvs,Rd H a (.dT kvs)
theorem Rj {X:Cx}{pins:List (Addr×Obj)}{σ:St}{H:Hp}{s:Shared}{a:Addr} (I:Inv X pins σ H s) (d:IsD H a):
 s.TypeIs (.ref a) "dict"/\(∀b,Value.ref a= .ref b->∃ob,s.heap.get? b=some ob/\ob.dict=none)/\(a==sysModules)=false:=by
 rcases d with⟨kvs,e⟩ | ⟨kvs,e⟩
 ·obtain⟨_,hd,vs,_,dd⟩:=DX I.hok e
  refine⟨dd.typeIs,fun b q=> ?_,hd⟩
  cases q
  obtain⟨ob,_,_,h1,h2,_⟩:=dd
  exact⟨ob,h1,h2.2.1⟩
 ·obtain⟨_,hd,xs,_,dd⟩:=Ju I.hok e
  refine⟨dd.typeIs,fun b q=> ?_,hd⟩
  cases q
  obtain⟨ob,_,_,h1,h2,_⟩:=dd
  exact⟨ob,h1,h2.2.1⟩
section
variable {X:Cx}{pins:List (Addr×Obj)}{σ:St}{H:Hp}{s:Shared}{a:Addr}{y d:V}{u r:Value}{o:Option V}{A:Around}{E:Value->Shared->Prop}
theorem acs {Q:Value->Shared->Prop} (hu:A.units+1<cLine) (I:Inv X pins σ H s) (g:bK H a y o) (ry:RelV y u) (h:∀w' s',Inv X pins σ H s'->RelV (o.getD .non) w'->Q w' s'):
 wpAny (model X.prog X.w) A (call (.builtin "dict.get") [.ref a,u]) Q E s:=by
 rcases g with⟨kvs,k,e,ey,l⟩ | ⟨kvs,k,b,e,ey,eb,l⟩
 ·subst ey
  obtain⟨z,hd,vs,rel,dd⟩:=DX I.hok e
  refine call_meetsIn PySem.F.slot_dict_get dd.typeIs PySem.F.entry_dict_get (PySem.F.args_dict_get_2 _ _) (meets_dict_get (dY X.prog X.w) a (HQ ry) hd) ⟨_,dd.mapOf,h _ _ (I.tok _) ?_⟩
  rw[l]
  exact(rel.val k).getD rfl
 ·subst ey
  cases(show u=Value.ref b from ry)
  obtain⟨z,hd,xs,rel,dd⟩:=Ju I.hok e
  refine call_meetsIn PySem.F.slot_dict_get dd.typeIs PySem.F.entry_dict_get (PySem.F.args_dict_get_2 _ _) (meetsH_dict_get (tupleKind (dY X.prog X.w)) a b hd) ⟨tupleKind_room_in1 hu,k,xs,Gk I.hok eb,dd,h _ _ (I.tok _) ?_⟩
  rw[l]
  exact(rel.val k).getD rfl
end
def V6 (td ty:TE):TE:=fun σ H Q=>td σ H fun x H1=>∃a,x= .ref a/\IsD H1 a/\ty σ H1 fun y H2=>∃o,bK H2 a y o/\Q (o.getD .non) H2
def V7 (td ty:TE):TE:=fun σ H Q=>td σ H fun x H1=>∃a,x= .ref a/\IsD H1 a/\ty σ H1 fun y H2=>∃kvs k v,H2 a=some (.dK kvs)/\y=kV k/\dH kvs k=some v/\Q v (upd H2 a (.dK (jP kvs k)))
section
variable {X:Cx}{o e f:Expr}{apos cpos:Pos}{td ty tx:TE}
theorem V8 (hu:X.A.units+1<cLine) (ho:PE X o td) (he:PE X e ty) (m:M1 X o "get" apos e cpos):PE X (.Call (.Attribute o "get" apos) [e] [] cpos) (V6 td ty):=by
 intro pins s σ H Q I h
 refine wpAny_Call_method m.base m.few m.line PySem.F.plainAttrs_dict PySem.F.slot_dict_get PySem.F.type_dict_get (thn (ho pins s σ H _ I h) fun u s1 ⟨x,H1,I1,rx,a,ex,d,q1⟩=> ?_)
 subst ex
 obtain rfl:u=Value.ref a:=rx
 obtain⟨t1,t2,_⟩:=Rj I1 d
 refine⟨t1,t2, ?_⟩
 rw[m.trees]
 refine Calls.callWith_builtin rfl (Calls.evalArgs_plain (Calls.spliced_cons (thn (he pins s1 σ H1 _ I1 q1) fun iv s2 ⟨y,H2,I2,ry,ov,g,q2⟩=>Calls.spliced_nil ?_)))
 exact acs hu I2 g ry fun w' s3 I3 rw'=>⟨_,H2,I3,rw',q2⟩
theorem V9 (ho:PE X o td) (he:PE X e ty) (m:M1 X o "pop" apos e cpos):PE X (.Call (.Attribute o "pop" apos) [e] [] cpos) (V7 td ty):=by
 intro pins s σ H Q I h
 refine wpAny_Call_method m.base m.few m.line PySem.F.plainAttrs_dict PySem.F.slot_dict_pop PySem.F.type_dict_pop (thn (ho pins s σ H _ I h) fun u s1 ⟨x,H1,I1,rx,a,ex,d,q1⟩=> ?_)
 subst ex
 obtain rfl:u=Value.ref a:=rx
 obtain⟨t1,t2,_⟩:=Rj I1 d
 refine⟨t1,t2, ?_⟩
 rw[m.trees]
 refine Calls.callWith_builtin rfl (Calls.evalArgs_plain (Calls.spliced_cons (thn (he pins s1 σ H1 _ I1 q1) fun iv s2 ⟨y,H2,I2,ry,kvs,k,v,ea,ey,l,q2⟩=>Calls.spliced_nil ?_)))
 subst ey
 exact afv I2 ea ry l (.inl rfl) fun w' s3 I3 rw'=>⟨v,_,I3,rw',q2⟩
end
section
variable {X:Cx}{pins:List (Addr×Obj)}{σ:St}{H:Hp}{s:Shared}{a:Addr}{kvs:List (Key×V)}{A:Around}{E:Value->Shared->Prop}
end
section
variable {X:Cx}{pins:List (Addr×Obj)}{σ:St}{H:Hp}{s:Shared}{a:Addr}{y:V}{u:Value}{A:Around}{E:Value->Shared->Prop}
end
end L2
namespace Att
open PySem PySem.W PySem.Calls PyProof.Rows
theorem Im {P:Params}{h:Heap}:∀(ns:List Int) (vs:List Value),WellAll P h vs (ns.map WData.int)->IntsAre vs ns:=by
 intro ns
 induction ns with
 | nil=>
   intro vs w
   rw[List.map_nil] at w
   cases w
   exact .nil
 | cons n ns ih=>
   intro vs w
   rw[List.map_cons] at w
   cases w with
   | cons a b=>
     cases a
     exact .cons _ _ (ih _ b)
theorem UW {l:OpenLaw}{n:Nat} (hn:l.most=some n) {P:Params}{h:Heap}{args:List WData}{vals:List Value}
 (hpre:l.row.toRowW.claim.pre args=true) (hwl:WellAll P h vals args):
 ∃a vs ns,vals=[Value.ref a]/\args=[WData.list (ns.map WData.int)]/\h.get? a=some {cls:= .type "list",data:= .seq vs.toArray}/\IntsAre vs ns/\ns.length<=n:=by
 have hsh:WShape.hasAll [] args [.list .int]=true:=(pre_splitW hpre).1
 have hc:l.pre.holds [] {args:=args}=true:=(pre_splitW hpre).2
 obtain⟨d,r,rfl,h1,h2⟩:=hasAllW_cons hsh
 obtain rfl:=hasAllW_nil h2
 obtain⟨xs,rfl,h3⟩:=hasW_list h1
 obtain⟨ns,rfl⟩:=items_int h3
 have hlen:ns.length<=n:=by
  unfold OpenLaw.pre at hc
  have h4:(WTm.not (.lt (.lit (.int (n:Int))) (.len (.arg 0)))).holds [] {args:=[.list (ns.map .int)]}=true:=by
   have h4:=(holds_andW hc).1
   rw[hn] at h4
   exact h4
  have h5:=condW_of h4 (w_not (w_lt w_lit (w_len_list (w_arg rfl))))
  rw[List.length_map] at h5
  refine Nat.le_of_not_lt fun q=> ?_
  have q':(n:Int)<((ns.length:Nat):Int):=by omega
  first
   | (rw[decide_eq_true q'] at h5;exact absurd h5 (by decide))
   | (simp at h5;omega)
 cases hwl with
 | cons w1 w2=>
   cases w2
   cases w1 with
   | list ho hall=>exact⟨_,_,ns,rfl,rfl,ho,Im ns _ hall,hlen⟩
theorem U0 (l:OpenLaw) (args:List WData):l.row.toRowW.claim.post args (.bool true) args=true:=
 postW_of (r:=l.row.toRowW) (X:=(true==true))
  (show WShape.has [] (.bool true) .bool=true by first | rfl | decide | simp[WShape.has,WShape.arms,WShape.armsAll])
  (show(WTm.eq .res (.lit (.bool true))).value [] {args:=args,res:=some (.bool true),after:=args}=some (.bool (true==true)) from w_eq_bool (w_res rfl) w_lit) rfl
theorem O4 {l:OpenLaw}{n:Nat}{q:Program}{loose:List Str}{XP:(Str->Option Value)->Heap->Prop}{YP:World->Heap->Prop}{d:DefRec}
 (hn:l.most=some n) (hdf:d.params.defaults=[])
 (call:∀(w:World) (s₀ s₁:Shared) (mg mb:Str->Option Value) (fa:Addr) (o:Obj) (pm cd doc:Value) (a:Addr) (vs:List Value) (ns:List Int),
   Ground q loose [] XP w s₀ mg mb s₁.heap->YP w s₁.heap->
   s₁.heap.get? fa=some o->o.data= .func (docDef d.name d.params d.body d.scope pm cd doc)->s₁.heap.CodeRec cd d.name->mg d.name=some (.ref fa)->
   s₁.heap.get? a=some {cls:= .type "list",data:= .seq vs.toArray}->IntsAre vs ns->ns.length<=n->s₁.gens= #[]->
   codeAny (model l.prog w) callerA (.call (.ref fa) ⟨[.ref a],[]⟩) (fun r s'=>r= .ok (.ret (.bool true))/\OldK s₁.heap s'.heap/\s'.os=s₁.os/\AllBare s'.gens) s₁):
 WalkO q loose XP YP l.row.toRowW d [] (fun f vs=>PySem.call f vs):=by
 intro w s₀ s₁ mg mb G Y fa o pm cd doc dV kV ho hd hcd hD hmg hg args vals as hpre hlay hrd hwl hlo
 obtain rfl:dV= .none:=Dflts.none hD hdf
 obtain rfl:kV= .none:=Dflts.noKw hD
 obtain⟨a,vs,ns,rfl,rfl,hobj,hints,hlen⟩:=UW hn hpre hwl
 refine enter_call (codeAny_mono (call w s₀ s₁ mg mb fa o pm cd doc a vs ns G Y ho (fd_plain hd) hcd hmg hobj hints hlen hg) fun r s' hq=> ?_)
 obtain⟨rfl,h2,h3,h4⟩:=hq
 exact⟨.inl ⟨.bool true, .bool true,[],rfl,fun _=>rfl, .bool true,U0 l _,fun _=>⟨List.Pairwise.nil,fun _ hm=>(nomatch hm)⟩⟩,h2,h3,h4⟩
section
variable {prog:Program}{w:World}{A:Around}{E:Value->Shared->Prop}{s:Shared}{K:Frag}
end
end Att
namespace L2
open PySem PySem.Spec PyProof.Rows
theorem Mm:∀{vs:List Value}{ns:List Int},IntsAre vs ns->Vals (ns.map V.int) vs
 | _,_, .nil=> .nil
 | _,_, .cons n t h=> .cons ⟨t,rfl⟩ (Mm h)
def Only (H:Hp):Prop:=∀b,H b=none\/∃o xs,H b=some (.frz o (.lst xs))
theorem Wa {P:Program}{w:World}{K:PySem.W.Frag}{mg mb:Str->Option Value}{CX:CXT}{k:Nat}{fa a:Addr}{fd:FuncData}{x:Str}{sp:Sp}{s₁:Shared}{vs:List Value}{ns:List Int}
 (KX:K.In s₁.heap) (hns:s₁.heap.Ns mainGlobals mg) (hb:s₁.heap.Ns builtinsNs mb) (hbb:∀x:Str,x≠"__name__"->mb x=bootBuiltins x) (hlim:s₁.heap.NoLimit) (hg:s₁.gens= #[])
 (ha:s₁.heap.get? a=some {cls:= .type "list",data:= .seq vs.toArray}) (hi:IntsAre vs ns) (hl:ns.length<=sizeLine) (hr:o8 k callerA)
 (F:∀base:Heap,K.In base->base.Ns mainGlobals mg->bf P w K mg base CX k fa fd [x] sp) (hbind:∀(s:Shared) (u:Value),BindsTo s fd ⟨[u],[]⟩ [(x,u)])
 (hsp:∀H:Hp,Only H->SqL K H a (ns.map V.int)->sp [.ref a] H (fun v _=>v= .bl true) fun _ _ _=>False)
 (hCX:∀H e s',CX [] H s₁ (fun _ _ _=>False) e s'->False):
 codeAny (model P w) callerA (.call (.ref fa) ⟨[.ref a],[]⟩) (fun r s'=>r= .ok (.ret (.bool true))/\OldK s₁.heap s'.heap/\s'.os=s₁.os/\AllBare s'.gens) s₁:=by
 have rv:=Mm hi
 have lenV:=hi.length
 have core:∀H:Hp,Only H->SqL K H a (ns.map V.int)->HOk P w H s₁.heap->(∀b,H b≠none->b=a)->(H a≠none->K.lookup a=none)->
  codeAny (model P w) callerA (.call (.ref fa) ⟨[.ref a],[]⟩) (fun r s'=>r= .ok (.ret (.bool true))/\OldK s₁.heap s'.heap/\s'.os=s₁.os/\AllBare s'.gens) s₁:=by
  intro H hO hS hok hA hK
  have Tf:∀{b:Addr}{o:Obj},s₁.heap.get? b=some o->H b=none->(MT s₁.heap H).get? b=some o:=fun e n=>Vo e n
  have noA:∀{b:Addr}{o:Obj}{es:Array DictEntry}{ep:Nat},s₁.heap.get? b=some o->o.data= .dict es ep->H b=none:=fun{b o es ep} e d=>by
   cases q:H b with
   | none=>rfl
   | some u=>
     have e':b=a:=hA b (by rw[q];simp)
     subst e'
     rw[ha] at e;cases e
     have d':Data.seq vs.toArray _=Data.dict es ep:=d
     cases d'
  have nsK:∀{b:Addr}{m:Str->Option Value},s₁.heap.Ns b m->(MT s₁.heap H).Ns b m:=fun{b m} ⟨o,es,ep,e,d,r⟩=>⟨o,es,ep,Tf e (noA e d),d,r⟩
  have hKb:K.In (MT s₁.heap H):=fun b o e=>Tf (KX b o e) (by
   cases q:H b with
   | none=>rfl
   | some u=>
     have e':b=a:=hA b (by rw[q];simp)
     subst e'
     rw[hK (by rw[q];simp)] at e;cases e)
  have hM:Mod K mg (MT s₁.heap H):=⟨hKb,nsK hns,⟨mb,nsK hb,hbb⟩,let ⟨mc,h1,h2⟩:=hlim;⟨mc,nsK h1,h2⟩⟩
  have e0:Rb P w K mg (MT s₁.heap H) callerA [] s₁ H:=⟨rfl,hM,fun b o e=>Ye e,Nat.le_of_eq (Ul _ _),trivial,fun b hb=>absurd (show b∈([]:List Addr) from hb) (by simp),hok, .of_eq hg⟩
  refine codeAny_mono ((F _ hKb (nsK hns)).run callerA [] s₁ H ⟨[.ref a],[]⟩ [.ref a] [.ref a] _ _ hr e0 (hbind s₁ (.ref a)) (.cons rfl .nil) (hsp H hO hS)) fun r s' h=> ?_
  cases r with
  | error e=>exact(hCX H e s' h).elim
  | ok fl=>
    cases fl with
    | next=>exact False.elim h
    | brk=>exact False.elim h
    | cont=>exact False.elim h
    | ret u=>
      obtain⟨v,H',os,bare,un,hok',r',q⟩:=h
      have q':v= .bl true:=q
      subst q'
      obtain rfl:u=Value.bool true:=r'
      refine⟨rfl,OldK.of_keep fun b o e=> ?_,os,bare⟩
      cases q:H b with
      | none=>exact un.keep b o e q (by intro z;exact absurd (show b∈([]:List Addr) from z) (by simp)) (by simp)
      | some u=>
        rcases hO b with z | ⟨ob,xs,z⟩
        ·rw[q] at z;cases z
        ·have z2:=un.frzs b ob _ z
         obtain⟨e1,_⟩:=hok b _ z
         obtain⟨e2,_⟩:=hok' b _ z2
         rw[e] at e1;cases e1
         exact e2
 cases hk:K.lookup a with
 | some o=>
   have e:=KX a o hk
   rw[ha] at e
   cases e
   refine core (fun _=>none) (fun _=> .inl rfl) (.inr ⟨_,vs.toArray,_,hk,rfl,rfl,rfl,by rw[List.size_toArray,lenV];exact hl,by simpa using rv⟩) (fun b u z=>by have z':(none:Option HO)=some u:=z;cases z') (fun b z=>absurd rfl z) fun z=>absurd rfl z
 | none=>
   refine core (fun b=>if b=a then some (.frz {cls:= .type "list",data:= .seq vs.toArray} (.lst (ns.map V.int))) else none) (fun b=> ?_) (.inl (.inr ⟨{cls:= .type "list",data:= .seq vs.toArray},if_pos rfl⟩)) (fun b u z=> ?_) (fun b z=> ?_) fun _=>hk
   ·by_cases hb:b=a
    ·exact .inr ⟨_,_,if_pos hb⟩
    ·exact .inl (if_neg hb)
   ·by_cases hb:b=a
    ·have z':=(if_pos hb).symm.trans z
     cases z'
     subst hb
     exact⟨ha,by rw[List.length_map];exact hl,vs,_,rv,ha⟩
    ·have z':=(if_neg hb).symm.trans z
     cases z'
   ·by_cases hb:b=a
    ·exact hb
    ·exact absurd (if_neg hb) z
end L2
namespace L2
open PySem PySem.Spec PyProof.Rows
theorem Tg {l:PySem.W.OpenLaw}{n k:Nat}{q:Program}{loose:List Str}{XP:(Str->Option Value)->Heap->Prop}{YP:World->Heap->Prop}{d:DefRec}{K:Params->PySem.W.Frag}{CX:World->CXT}{sp:World->Sp}{x:Str}
 (hn:l.most=some n) (hn2:n<=sizeLine) (hdf:d.params.defaults=[]) (hr:o8 k callerA)
 (hY:∀(w:World) (h:Heap),YP w h->(K w.params).In h)
 (F:∀(w:World) (mg:Str->Option Value) (fa:Addr) (h:Heap),(K w.params).In h->h.Ns mainGlobals mg->mg d.name=some (.ref fa)->
   ∃fd:FuncData,(∀(s:Shared) (u:Value),BindsTo s fd ⟨[u],[]⟩ [(x,u)])/\
    ∀base:Heap,(K w.params).In base->base.Ns mainGlobals mg->bf l.prog w (K w.params) mg base (CX w) k fa fd [x] (sp w))
 (hsp:∀(w:World) (H:Hp) (a:Addr) (ns:List Int),ns.length<=n->Only H->SqL (K w.params) H a (ns.map V.int)->sp w [.ref a] H (fun v _=>v= .bl true) fun _ _ _=>False)
 (hCX:∀(w:World) (H:Hp) (s:Shared) (e:Value) (s':Shared),CX w [] H s (fun _ _ _=>False) e s'->False):
 PySem.W.WalkO q loose XP YP l.row.toRowW d [] (fun f vs=>PySem.call f vs):=by
 refine Att.O4 hn hdf fun w s₀ s₁ mg mb fa o pm cd doc a vs ns G Y ho hd hcd hmg hobj hints hlen hg=> ?_
 have KX:=hY w _ Y
 obtain⟨fd,hb,hF⟩:=F w mg fa _ KX G.T.g hmg
 exact Wa KX G.T.g G.T.b G.T.builtins G.T.nolimit hg hobj hints (Nat.le_trans hlen hn2) hr hF hb (fun H hO hS=>hsp w H a ns hlen hO hS) fun H e s'=>hCX w H s₁ e s'
end L2
/- THE LAST THEOREM (shape;LID,My.* are yours):
   My.Adr:a structure of the addresses that your layer names (classes,functions);My.Txt K t:a structure (Prop) of the equations over K;
   My.acu:{K}{implicit addresses ..} (e1:nsIn K mainGlobals "law"=some (some (.ref f))) (e2:K.lookup f=some ⟨oc,od, .func (fnOf "law" "law" params body scope dV kV doc pm an cdv ct),sl⟩) (e3:codeIn K cdv "law"=true) .. :∃t,My.Txt K t
theorem PySem.Challenge.cw_LID_holds : PySem.Challenge.rw_LID.Holds := by
 w_on;o_law;k_head;(case hw=>w_witness2)
 k_fill
 refine L2.Tg (l:=PySem.Challenge.acv) (n:=63) (k:=40) (x:="script") (CX:=fun w=> ..) (sp:=fun _=>My.ajk) rfl (by decide) rfl ⟨rfl,by decide,by decide⟩ (fun w h Y=>PySem.W.kIn_of Y) ?F ?S ?C
 case F=>
  intro w mg fa h KX G hmg
  have T:∃t,My.Txt (L2.KOf KX) t:=by
   dsimp only[L2.KOf] -- K must stand as «<heap const> w.params» for k_is
   refine' My.acu ?e1 ?e2 ?e3 ..
   (case e1=>PySem.W.k_is) -- in the order:a name->its address->its object->its parts
   (case e2=>PySem.W.k_is)
   ..
  obtain⟨t,T⟩:=T
  have e0:=hmg.symm.trans (PySem.W.mg_of KX G T.law)
  cases e0 -- fa is the law's own address
  exact⟨_,fun s u=> .of_eq rfl,fun base kb nb=>My.acw T kb nb⟩ -- if «.of_eq rfl» comes too early:refine' ⟨_, ?b,fun base kb nb=>My.acw T kb nb⟩;exact fun s u=> .of_eq rfl
 case S=>exact fun w H a ns hl hO hS=> ..
 case C=>exact ..
(the tactic k_is has no namespace:write k_is) -/
namespace L2
open PySem PySem.Spec PyProof.Rows
def bA (s:Stmt):Arguments:=match s with
 | .FunctionDef _ a _ _ _ _ _ _ _ _=>a
 | _=>{posonlyargs:=[],args:=[],vararg:=none,kwonlyargs:=[],kw_defaults:=[],kwarg:=none,defaults:=[]}
def bh (s:Stmt):List Stmt:=match s with
 | .FunctionDef _ _ b _ _ _ _ _ _ _=>b
 | _=>[]
def aa (s:Stmt):Scope:=match s with
 | .FunctionDef _ _ _ _ _ _ sc _ _ _=>sc
 | _=>{kind:= .function,names:=[],isGenerator:=false,isCoroutine:=false}
abbrev CX0:CXT:=fun _ _ _ _ _ _=>False
abbrev E0:XK:=fun _ _ _=>False
theorem aY {X:Cx}:Passes CX0 X E0:=fun _ _ _ _ _ _ _ h=>h.elim
structure Fun (K:PySem.W.Frag) (x qual:Str) (st:Stmt) (f:Addr) (fd:FuncData):Prop where
 ex:∃(oc:Value) (od:Option Addr) (kV doc pm:Value) (an:Option Addr) (cdv ct:Value) (osl:Array (Option Value)),
  fd=PySem.W.fnOf x qual (bA st) (bh st) (aa st) .none kV doc pm an cdv ct/\K.lookup f=some ⟨oc,od, .func fd,osl⟩/\PySem.W.codeIn K cdv qual=true
 kp:PySem.W.keepIn K (.ref f)=true
section
variable {P:Program}{w:World}{K:PySem.W.Frag}{mg:Str->Option Value}{base:Heap}
theorem Fun.ok {x qual:Str}{st:Stmt}{f:Addr}{fd:FuncData}{N ps:List Str}{k:Nat}{sp:Sp} (F:Fun K x qual st f fd) (S:bH N ps (aa st)) (len:∀vs H Q E,sp vs H Q E->vs.length=ps.length)
 (hbody:∀(cdv:Value) (A:Around) (outer:List Env) (s:Shared) (H:Hp) (vs:List V) (Q:VK) (E:XK),o8 k (A.deeper (envOfC qual (aa st) s.heap.objs.size f cdv))->sp vs H Q E->
   ∃t,PSs (Rf CX0 P w K mg base N qual (aa st) f cdv A outer s H E).nox (bh st) t/\t {nx:=fun _ H'=>Q .non H',rt:=Q} (start N vs) H):bf P w K mg base CX0 (k+1) f fd ps sp:=by
 obtain⟨oc,od,kV,doc,pm,an,cdv,ct,osl,rfl,lk,hcd⟩:=F.ex
 refine afm lk hcd S len fun A outer s H vs Q E hr hsp=> ?_
 obtain⟨t,h,q⟩:=hbody cdv A outer s H vs Q E hr hsp
 exact⟨t,h.nox,q⟩
theorem lR {x qual:Str}{st:Stmt}{f:Addr}{oc:Value}{od an:Option Addr}{osl:Array (Option Value)}{kV doc pm cdv ct:Value} (l:K.lookup f=some ⟨oc,od, .func (PySem.W.fnOf x qual (bA st) (bh st) (aa st) .none kV doc pm an cdv ct),osl⟩)
 (c:PySem.W.codeIn K cdv qual=true) (k:PySem.W.keepIn K (.ref f)=true):Fun K x qual st f (PySem.W.fnOf x qual (bA st) (bh st) (aa st) .none kV doc pm an cdv ct):=⟨⟨oc,od,kV,doc,pm,an,cdv,ct,osl,rfl,l,c⟩,k⟩
end
theorem bO {A:Around}{k:Nat} (hr:o8 k A):A.units+1<cLine:=Nat.lt_of_le_of_lt (Nat.add_le_add_left (by decide:1<=64) _) hr.units
theorem bR {n:Nat} (h:n<=1000):n<sizeLine:=Nat.lt_of_le_of_lt h (by decide)
section
variable {X:Cx}
theorem U3:sU X (.builtin "len") (fun xs H Q=>∃a kvs,xs=[V.ref a]/\H a=some (.dK kvs)/\Q (.int kvs.length) H):=by
 intro pins s σ H xs us Q I r h
 obtain⟨a,kvs,rfl,ha,q⟩:=h
 obtain⟨u,rfl,ru⟩:=vals1 r
 cases ru
 exact afw I (.inl ha) fun t s' I'=>⟨.int kvs.length,H,I',⟨t,rfl⟩,q⟩
end
theorem yw {c A B:Prop} [Decidable c] (h1:c->A) (h2:¬c->B):if c then A else B:=by
 by_cases h:c
 ·rw[if_pos h]
  exact h1 h
 ·rw[if_neg h]
  exact h2 h
def aM (H H':Hp):Prop:=∀b o,H b=some o->H' b=some o
theorem aM.refl (H:Hp):aM H H:=fun _ _ h=>h
theorem aM.trans {H H1 H2:Hp} (a:aM H H1) (b:aM H1 H2):aM H H2:=fun c o h=>b c o (a c o h)
section
variable {κ:Type} [DecidableEq κ]
end
end L2
set_option maxRecDepth 100000
namespace L2
open PySem PySem.Spec PyProof.Rows
def ccl (sc:Scope) (env:Env):List (Str×Addr):=(sc.names.filterMap fun p=>if p.2== .free then(env.cells.lookup p.1).map fun c=>(p.1,c) else none).reverse
theorem yU {env:Env}:∀(l:List (Str×NameKind)) (acc:List (Str×Addr)),(∀p∈l,p.2= .free->∃c,env.cells.lookup p.1=some c)->
 (forIn l acc fun(x:Str×NameKind) r=>match x with | (name,kind)=>(if(kind==NameKind.free)=true then do let a <-cellOf env name;pure (ForInStep.yield ((name,a)::r)) else pure (ForInStep.yield r):Sem _))=
   pure ((l.filterMap fun p=>if p.2== .free then(env.cells.lookup p.1).map fun c=>(p.1,c) else none).reverse++acc)
 |[],acc,_=>rfl
 | (n,k)::r,acc,h=>by
   rw[List.forIn_cons]
   have hr:∀p∈r,p.2= .free->∃c,env.cells.lookup p.1=some c:=fun p hp=>h p (List.mem_cons_of_mem _ hp)
   by_cases hk:k= .free
   ·subst hk
    obtain⟨c,hc⟩:=h (n, .free) List.mem_cons_self rfl
    have e1:cellOf env n=pure c:=by unfold cellOf;rw[hc]
    simp only[beq_self_eq_true,if_true,e1,pure_bind]
    rw[yU r _ hr]
    simp[List.filterMap_cons,hc]
   ·have hb:(k==NameKind.free)=false:=by simpa using hk
    simp only[hb,Bool.false_eq_true,if_false,pure_bind]
    rw[yU r _ hr]
    simp[List.filterMap_cons,hk]
theorem O5 {sc:Scope}{env:Env} (h:∀p∈sc.names,p.2= .free->∃c,env.cells.lookup p.1=some c):closureFor sc env=pure (ccl sc env):=by
 unfold closureFor
 have q:=yU (env:=env) sc.names [] h
 rw[List.append_nil] at q
 unfold ccl
 rw[<-q,bind_pure]
theorem K8 {f:Str->Option Addr}:∀(l:List (Str×NameKind)) (x:Str) (c:Addr),
 (l.filterMap fun p=>if p.2== .free then(f p.1).map fun c=>(p.1,c) else none).reverse.lookup x=some c->f x=some c:=by
 intro l x c h
 have hm:=PySem.mem_of_lookup h
 rw[List.mem_reverse,List.mem_filterMap] at hm
 obtain⟨p,_,e⟩:=hm
 split at e
 ·cases q:f p.1 with
  | none=>rw[q] at e;cases e
  | some d=>
    rw[q] at e
    simp only[Option.map_some,Option.some.injEq,Prod.mk.injEq] at e
    obtain⟨e1,e2⟩:=e
    rw[<-e1,q,e2]
 ·cases e
theorem sV {β:Type}:∀{l:List (Str×β)}{x:Str}{c:β},(x,c)∈l->∃d,l.lookup x=some d
 |[],_,_,h=>nomatch h
 | (n,d)::r,x,c,h=>by
   by_cases e:x=n
   ·subst e;exact⟨d,by simp[List.lookup_cons]⟩
   ·have hb:(x==n)=false:=by simpa using e
    rcases List.mem_cons.mp h with q | q
    ·cases q;exact absurd rfl e
    ·obtain⟨d',hd⟩:=sV q
     exact⟨d',by simp[List.lookup_cons,hb,hd]⟩
theorem wW {sc:Scope}{env:Env}{x:Str}{c:Addr} (h:(ccl sc env).lookup x=some c):env.cells.lookup x=some c:=K8 (f:=fun n=>env.cells.lookup n) sc.names x c h
theorem Ti {sc:Scope}{env:Env}{x:Str}{c:Addr} (hx:(x,NameKind.free)∈sc.names) (hc:env.cells.lookup x=some c):(ccl sc env).lookup x=some c:=by
 have hm:(x,c)∈ccl sc env:=by
  unfold ccl
  rw[List.mem_reverse,List.mem_filterMap]
  exact⟨(x, .free),hx,by simp[hc]⟩
 obtain⟨d,hd⟩:=sV hm
 have:=wW hd
 rw[hc] at this
 rw[hd,this]
theorem uO {env:Env}:∀{names:List (Str×NameKind)}{x:Str}{k:NameKind},
 (names.map fun(n,k)=>if(k==NameKind.free&&env.scope.kind== .function&&env.kindOf n==some .cell) then(n,NameKind.cell) else(n,k)).lookup x=some k->
 names.lookup x=some k\/(k= .cell/\names.lookup x=some .free)
 |[],_,_,h=>by simp at h
 | (n,q)::r,x,k,h=>by
   have ih:=@uO env r x k
   rw[List.map_cons] at h
   cases hx:x==n with
   | true=>
     by_cases hc:(q==NameKind.free&&env.scope.kind== .function&&env.kindOf n==some .cell)=true
     ·simp only[hc,if_true,List.lookup_cons,hx,Option.some.injEq] at h
      have hq:q= .free:=by
       have:=(Bool.and_eq_true _ _▸(Bool.and_eq_true _ _▸hc).1).1
       simpa using this
      subst hq
      exact .inr ⟨h.symm,by simp[List.lookup_cons,hx]⟩
     ·simp only[hc,if_false,List.lookup_cons,hx,Option.some.injEq,Bool.false_eq_true] at h
      subst h
      exact .inl (by simp[List.lookup_cons,hx])
   | false=>
     have h':(r.map fun(n,k)=>if(k==NameKind.free&&env.scope.kind== .function&&env.kindOf n==some .cell) then(n,NameKind.cell) else(n,k)).lookup x=some k:=by
      by_cases hc:(q==NameKind.free&&env.scope.kind== .function&&env.kindOf n==some .cell)=true
      ·simpa only[hc,if_true,List.lookup_cons,hx] using h
      ·simpa only[hc,if_false,List.lookup_cons,hx,Bool.false_eq_true] using h
     rcases ih h' with z | ⟨z1,z2⟩
     ·exact .inl (by simp[List.lookup_cons,hx,z])
     ·exact .inr ⟨z1,by simp[List.lookup_cons,hx,z2]⟩
theorem wX {env:Env}:∀{names:List (Str×NameKind)}{x:Str},names.lookup x=some .free->
 (names.map fun(n,k)=>if(k==NameKind.free&&env.scope.kind== .function&&env.kindOf n==some .cell) then(n,NameKind.cell) else(n,k)).lookup x=some .cell\/
 (names.map fun(n,k)=>if(k==NameKind.free&&env.scope.kind== .function&&env.kindOf n==some .cell) then(n,NameKind.cell) else(n,k)).lookup x=some .free
 |[],_,h=>by simp at h
 | (n,q)::r,x,h=>by
   have ih:=@wX env r x
   rw[List.map_cons]
   cases hx:x==n with
   | true=>
     simp only[List.lookup_cons,hx,Option.some.injEq] at h
     subst h
     by_cases hc:(NameKind.free==NameKind.free&&env.scope.kind== .function&&env.kindOf n==some .cell)=true
     ·exact .inl (by simp only[hc,if_true,List.lookup_cons,hx])
     ·exact .inr (by simp only[hc,if_false,List.lookup_cons,hx,Bool.false_eq_true])
   | false=>
     simp only[List.lookup_cons,hx] at h
     by_cases hc:(q==NameKind.free&&env.scope.kind== .function&&env.kindOf n==some .cell)=true
     ·simpa only[hc,if_true,List.lookup_cons,hx] using ih h
     ·simpa only[hc,if_false,List.lookup_cons,hx,Bool.false_eq_true] using ih h
def iU (X:Cx) (N:List Str) (sc:Scope) (pins:List (Addr×Obj)) (C:Addr) (s₀:Shared) (H₀:Hp) (fp:List Addr):Cx:=
 {X with N:=N,s₀:=s₀,H₀:=H₀,env:=compEnvC sc (ccl sc X.env) C X.env,outer:=X.stack,ex:=fp,fn:=fun _=>false,pn:=X.pn++pins,xe:=fun _ _=>False}
structure yV (X:Cx) (n:Nat) (fr:List Nat) (N:List Str) (sc:Scope):Prop where
 kind:sc.kind= .function
 nocell:∀p∈sc.names,p.2≠ .cell
 own:∀p∈sc.names,p.2= .local->sc.names.lookup p.1=some .local
 out:∀p∈sc.names,p.2= .free->X.env.kindOf p.1=some .cell\/X.env.kindOf p.1=some .free
 len:N.length=n+fr.length
 free:∀i x,N[n+i]? =some x->(x,NameKind.free)∈sc.names/\sc.names.lookup x=some .free/\∃j,fr[i]? =some j/\X.N[j]? =some x
def CS0 (scX:Scope) (NX:List Str) (n:Nat) (fr:List Nat) (N:List Str) (sc:Scope):Prop:=
 sc.kind= .function/\(∀p∈sc.names,p.2≠ .cell)/\(∀p∈sc.names,p.2= .local->sc.names.lookup p.1=some .local)/\
 (∀p∈sc.names,p.2= .free->scX.names.lookup p.1=some .cell\/scX.names.lookup p.1=some .free)/\N.length=n+fr.length/\
 (∀x∈N.drop n,(x,NameKind.free)∈sc.names/\sc.names.lookup x=some .free)/\(N.drop n).map some=fr.map fun j=>NX[j]?
instance {scX:Scope}{NX:List Str}{n:Nat}{fr:List Nat}{N:List Str}{sc:Scope}:Decidable (CS0 scX NX n fr N sc):=by unfold CS0;exact inferInstance
theorem HR {X:Cx}{scX:Scope}{NX:List Str}{n:Nat}{fr:List Nat}{N:List Str}{sc:Scope} (h1:X.env.scope=scX) (h2:X.N=NX) (h:CS0 scX NX n fr N sc):yV X n fr N sc:=by
 obtain⟨a,b,c,d,e,f,g⟩:=h
 refine⟨a,b,c,fun p hp z=> ?_,e,fun i x hx=> ?_⟩
 ·have q:=d p hp z
  rw[<-h1] at q
  exact q
 ·have hd:(N.drop n)[i]? =some x:=by rw[List.getElem?_drop];exact hx
  obtain⟨f1,f2⟩:=f x (List.mem_of_getElem? hd)
  refine⟨f1,f2, ?_⟩
  have q:((N.drop n).map some)[i]? =some (some x):=by rw[List.getElem?_map,hd];rfl
  rw[g,List.getElem?_map] at q
  cases z:fr[i]? with
  | none=>rw[z] at q;cases q
  | some j=>
    rw[z] at q
    refine⟨j,rfl, ?_⟩
    rw[h2]
    exact Option.some.inj q
def cst (n:Nat) (fr:List Nat) (σ:St):St:=List.replicate n none++fr.map fun j=>(σ[j]?).getD none
theorem Jw {X:Cx}{n:Nat}{fr:List Nat}{N:List Str}{sc:Scope} (S:yV X n fr N sc) (ok:X.Ok):closureFor sc X.env=pure (ccl sc X.env):=
 O5 fun p hp e=>ok.has p.1 (S.out p hp e)
section
variable {X:Cx}{n:Nat}{fr:List Nat}{N:List Str}{sc:Scope}{pins:List (Addr×Obj)}{σ:St}{H:Hp}{s:Shared}{fp:List Addr}{h₁:Heap}{tk:Nat}
theorem Rk (S:yV X n fr N sc) (I:Inv X pins σ H s) (hf:∀b∈fp,Gh X pins H b) (hlt:∀b∈fp,b<s.heap.objs.size)
 (hn:h₁.Ns s.heap.objs.size (fun _=>none)) (hk:∀b o,s.heap.get? b=some o->h₁.get? b=some o):
 Inv (iU X N sc pins s.heap.objs.size s H fp) [] (cst n fr σ) H {s with heap:=h₁,toks:=tk}:=by
 have hsub:∀b∈frs X.stack,b∈X.env.locals::X.fs:=I.M3
 refine⟨⟨I.ok.mod, ?_,I.ok.glob,I.ok.blt,Nat.le_refl _,fun x y c h1 h2=> ?_,fun x hx=> ?_,fun x c z=>(by cases z),I.ok.hd,I.ok.frames, .inl rfl,fun b hb=>⟨?_,fun x c e=> ?_⟩,fun b o e=>I.bs b o e,Nat.le_trans I.ok.bsz I.sz,fun b o e hb=> ?_,fun b hb hz=> ?_,I.stack,I.Ss⟩,
  rfl,I.bare,Un.kept hk,⟨_,hn,fun i x v e1 e2 e3=> ?_⟩,fun x c e=> ?_,I.hok.fresh (Nat.le_refl _),fun x c e=> ?_,fun p hp=> ?_,I.hok.kept hk, ?_⟩
 ·exact S.kind
 ·exact I.ok.inj x y c (wW h1) (wW h2)
 ·have hx':(relabel sc X.env).names.lookup x=some .cell\/(relabel sc X.env).names.lookup x=some .free:=hx
  have fr':sc.names.lookup x=some .free:=by
   rcases hx' with z | z
   ·rcases uO z with q | ⟨_,q⟩
    ·exact absurd rfl (S.nocell _ (PySem.mem_of_lookup q))
    ·exact q
   ·rcases uO z with q | ⟨q,_⟩
    ·exact q
    ·cases q
  obtain⟨c,hc⟩:=I.ok.has x (S.out _ (PySem.mem_of_lookup fr') rfl)
  exact⟨c,Ti (PySem.mem_of_lookup fr') hc⟩
 ·exact Nat.ne_of_lt (hlt b hb)
 ·exact(hf b hb).2.2.2.2.1 x c (wW e)
 ·rcases(hf b hb).2.2.2.1 with z | z
  ·exact I.ok.noex b o e z
  ·exact absurd (Nat.lt_of_lt_of_le (Heap.lt_size e) (Nat.le_trans I.ok.bsz z)) (Nat.lt_irrefl _)
 ·rcases List.mem_cons.mp (hsub b hz) with z | z
  ·exact(hf b hb).2.1 z
  ·exact(hf b hb).2.2.1 z
 ·have e1':N[i]? =some x:=e1
  have hi:n<=i:=by
   apply Nat.le_of_not_lt
   intro hlt
   unfold cst at e2
   rw[List.getElem?_append_left (by simpa using hlt),List.getElem?_replicate] at e2
   split at e2<;>cases e2
  obtain⟨j,rfl⟩:∃j,i=n+j:=⟨i - n,by omega⟩
  obtain⟨hm,hl,q,hq,hX⟩:=S.free j x e1'
  have e2':(σ[q]?).getD none=some v:=by
   unfold cst at e2
   rw[List.getElem?_append_right (by simp)] at e2
   simp only[List.length_replicate,Nat.add_sub_cancel_left,List.getElem?_map,hq,Option.map_some,Option.some.injEq] at e2
   exact e2
  have hσ:σ[q]? =some (some v):=by
   cases z:σ[q]? with
   | none=>rw[z] at e2';cases e2'
   | some w=>rw[z] at e2';simp only[Option.getD_some] at e2';rw[e2']
  have ko:=S.out _ hm rfl
  have hv:Vis X.env.scope x:=by
   rcases ko with z | z
   ·exact .inr (.inl z)
   ·exact .inr (.inr z)
  obtain⟨m,_,hloc⟩:=I.loc
  obtain⟨u,r,l⟩:=hloc q x v hX hσ hv
  refine⟨u,r, .inr ⟨?_, ?_⟩⟩
  ·exact wX hl
  ·rcases l with⟨k,_⟩ | ⟨_,c,hc,hcell⟩
   ·rcases ko with z | z<;>(rw[k] at z;cases z)
   ·refine⟨c,Ti hm hc, ?_⟩
    obtain⟨o,ho,hd⟩:=hcell
    exact⟨o,hk c o ho,hd⟩
 ·obtain⟨v,o,ho,hd⟩:=I.cell x c (wW e)
  exact⟨v,o,hk c o ho,hd⟩
 ·exact I.vI x c (wW e)
 ·have hp':p∈X.pn++pins:=by
   have z:p∈(X.pn++pins)++[]:=hp
   rwa [List.append_nil] at z
  obtain⟨e,hn',ne,nf,d⟩:=I.pin p hp'
  refine⟨hk p.1 p.2 e,hn',Nat.ne_of_lt (Heap.lt_size e),fun hz=> ?_,d⟩
  rcases List.mem_cons.mp (hsub p.1 hz) with z | z
  ·exact ne z
  ·exact nf z
 ·show(cst n fr σ).length=N.length
  unfold cst
  rw[List.length_append,List.length_replicate,List.length_map,S.len]
theorem comp_back {C:Addr}{σ':St}{H':Hp}{s':Shared}{pins':List (Addr×Obj)} (I:Inv X pins σ H s) (hf:∀b∈fp,Gh X pins H b) (J:Inv (iU X N sc pins C s H fp) pins' σ' H' s'):Inv X pins σ H' s':=
 I.call' (ch:=fp) J.os J.base J.hok J.bare fun b hb=>⟨(hf b hb).2.2.2.1,(hf b hb).2.1,(hf b hb).2.2.2.2.1,(hf b hb).2.2.2.2.2⟩
end
def U4 (X:Cx) (ifs:List Expr) (t:TT):Prop:=
 ∀(pins:List (Addr×Obj)) (s:Shared) (σ:St) (H:Hp) (Q:Bool->Hp->Prop),Inv X pins σ H s->t σ H Q->
  wpAny (model X.prog X.w) X.A (forIn ifs true fun c r=>if r=true then do let ok <-isTrue c X.env (eval c X.env);pure (ForInStep.yield ok) else pure (ForInStep.yield r)) (TP X pins σ Q) X.xe s
def aaP:TT:=fun _ H Q=>Q true H
theorem Wb {X:Cx}:U4 X [] aaP:=fun _ _ _ H _ I h=>wpAny_pure ⟨H,I,h⟩
theorem Wd {X:Cx}{c:Expr}{t:TT} (hc:PT X c t):U4 X [c] t:=by
 intro pins s σ H Q I h
 rw[List.forIn_cons]
 refine wpAny_bind ?_
 rw[if_pos rfl]
 refine wpAny_bind (thn (hc pins s σ H Q I h) fun b s1 q=>wpAny_pure ?_)
 exact wpAny_pure q
def Mp (J:It) (g:TG) (tc:TT) (te:TE) (D:Addr) (σ:St) (H:Hp) (Q:VK):Prop:=
 ∃W:Nat->Nat->St->Hp->Prop,(∃m,W 0 m σ H)/\∀i m σ' H',W i m σ' H'->
  (J.stop i H'/\Q (.ref D) H')\/(J.go i H'/\∃N:St->Hp->Prop,(∀σ3 H3,N σ3 H3->∃m',m'<m/\W (i+1) m' σ3 H3)/\∀x H2,J.yld i H' x H2->g x σ' H2 fun σ3 H3=>tc σ3 H3 fun b H4=>
    if b=true then te σ3 H4 fun y H5=>∃ys,H5 D=some (.lst ys)/\ys.length<sizeLine/\N σ3 (upd H5 D (.lst (ys++[y])))
    else N σ3 H4)
def Tj (wi:TI) (n:Nat) (fr:List Nat) (g:TG) (tc:TT) (te:TE):TE:=fun σ H Q=>wi σ H fun J H1=>∀D,H1 D=none->Mp J g tc te D (cst n fr σ) (upd H1 D (.lst [])) Q
section
variable {X:Cx}{n:Nat}{fr:List Nat}{N:List Str}{sc:Scope}{elt tg iter:Expr}{ifs:List Expr}{pos:Pos}{wi:TI}{g:TG}{tc:TT}{te:TE}
theorem O6 {pins:List (Addr×Obj)}{σ:St}{H:Hp}{s:Shared}{fp:List Addr}{it:Addr}{tn:Nat->Heap->Prop}{J:It}{Q:VK}{E:Value->Shared->Prop}{RR:Value->Addr->Result->Shared->Prop}
 (hc:X.calm=true) (S:yV X n fr N sc)
 (hg:∀C s₀ H₀ fp,PG (iU X N sc pins C s₀ H₀ fp) tg g) (hi:∀C s₀ H₀ fp,U4 (iU X N sc pins C s₀ H₀ fp) ifs tc) (he:∀C s₀ H₀ fp,PE (iU X N sc pins C s₀ H₀ fp) elt te)
 (I:Inv X pins σ H s) (T:Turn X.prog X.w X.K tg J fp it tn) (st:tn 0 s.heap) (hf:∀b∈fp,Gh X pins H b)
 (h:∀D,H D=none->Mp J g tc te D (cst n fr σ) (upd H D (.lst [])) Q)
 (hR:∀D C H' s',Inv X pins σ H' s'->Gh X pins H' C->(∃m,s'.heap.Ns C m)->Q (.ref D) H'->RR (.ref D) C (.ok .next) s'):
 wpAny (model X.prog X.w) X.A (newList []) (fun acc s₃=>wpAny (model X.prog X.w) X.A (newFunctionEnv sc X.env.globals (ccl sc X.env) [] X.env.qual none .none (some X.env)) (fun cenv s₄=>
  codeAny (model X.prog X.w) X.A (.compStart (.ListComp elt [⟨tg,iter,ifs,0⟩] sc pos) 0 (.ref it) acc {cenv with scope:=relabel sc X.env}) (RR acc cenv.locals) s₄) E s₃) E s:=by
 have hfree:H s.heap.objs.size=none:=I.hok.fresh (Nat.le_refl _)
 have hltf:∀b∈fp,b<s.heap.objs.size:=fun b hb=>by
  obtain⟨o,e,_⟩:=T.obj 0 s.heap st b hb
  exact Heap.lt_size e
 obtain⟨W,⟨m0,w0⟩,turn⟩:=h s.heap.objs.size hfree
 refine wpAny_newObj_type (wpAny_newFunctionEnv S.nocell (by intro y hy;simp at hy) (fun h₁ hns₁ hsb₁=> ?_) S.kind)
 dsimp only at hns₁ hsb₁ ⊢
 have I3:Inv X pins σ (upd H s.heap.objs.size (.lst [])) {s with heap:=s.heap.push {cls:= .type "list",dict:=none,data:= .seq ([]:List Value).toArray}}:=
  I.laid (t':=s.toks) (fun b u e=>Heap.get?_push_of_some _ e) (Nat.le_refl _) ⟨Nat.zero_le _,[],0, .nil,Heap.get?_push_size _ rfl⟩
 have hf3:∀b∈fp,Gh X pins (upd H s.heap.objs.size (.lst [])) b:=fun b hb=>⟨by rw[au (Nat.ne_of_lt (hltf b hb))];exact(hf b hb).1,(hf b hb).2⟩
 generalize hs3:({s with heap:=s.heap.push {cls:= .type "list",dict:=none,data:= .seq ([]:List Value).toArray}}:Shared)=s3 at *
 have e3:s3.heap=s.heap.push {cls:= .type "list",dict:=none,data:= .seq ([]:List Value).toArray}:=by rw[<-hs3]
 have et:s3.toks=s.toks:=by rw[<-hs3]
 have afy:∀b∈fp,b<s3.heap.objs.size:=fun b hb=>by rw[e3,Heap.size_push];exact Nat.lt_succ_of_lt (hltf b hb)
 have hk3:∀b o,s3.heap.get? b=some o->h₁.get? b=some o:=fun b o e=>hsb₁.extBut b o (by rw[<-e3];exact Nat.ne_of_lt (Heap.lt_size e)) (by rw[<-e3];exact Heap.get?_push_of_some _ e)
 have ajl:h₁.Ns s3.heap.objs.size (fun _=>none):=by rw[e3];exact hns₁
 have I4:=Rk (tk:=s.toks+([]:List (Str×Value)).length) S I3 hf3 afy ajl hk3
 have hDk:∀b o,s.heap.get? b=some o->h₁.get? b=some o:=fun b o e=>hk3 b o (by rw[e3];exact Heap.get?_push_of_some _ e)
 have st4:tn 0 h₁:=T.keep 0 s.heap h₁ st fun b hb o e=>hDk b o e
 have hfX:∀{H':Hp},(∀b∈fp,H' b=none)->∀b∈fp,Gh (iU X N sc pins s3.heap.objs.size s3 (upd H s.heap.objs.size (.lst [])) fp) [] H' b:=fun{H'} hn b hb=>by
  refine⟨hn b hb,Nat.ne_of_lt (afy b hb),fun z=> ?_, .inl hb,fun x c e=>(hf3 b hb).2.2.2.2.1 x c (wW e),fun p hp=> ?_⟩
  ·rcases List.mem_cons.mp (I3.M3 b z) with q | q
   ·exact(hf3 b hb).2.1 q
   ·exact(hf3 b hb).2.2.1 q
  ·have hp':p∈(X.pn++pins)++[]:=hp
   rw[List.append_nil] at hp'
   exact(hf3 b hb).2.2.2.2.2 p hp'
 have loop:∀s₄:Shared,s₄={s3 with heap:=h₁,toks:=s.toks+([]:List (Str×Value)).length}->
  codeAny (model X.prog X.w) X.A (.compLoop (.ListComp elt [⟨tg,iter,ifs,0⟩] sc pos) 0 (.ref it) (.ref s.heap.objs.size) (compEnvC sc (ccl sc X.env) s3.heap.objs.size X.env)) (RR (.ref s.heap.objs.size) s3.heap.objs.size) s₄:=by
  rintro s₄ rfl
  refine codeAny_loop rfl (fun k s'=>∃i σ' H',Inv (iU X N sc pins s3.heap.objs.size s3 (upd H s.heap.objs.size (.lst [])) fp) [] σ' H' s'/\tn i s'.heap/\(∀b∈fp,H' b=none)/\W i k σ' H') ?_ m0
   ⟨0,_,_,I4,st4,fun b hb=>(hf3 b hb).1,w0⟩
  rintro k s5 ⟨i,σ5,H5,I5,st5,fr5,w5⟩
  show wpAny _ X.A ((compTurn (.ListComp elt [⟨tg,iter,ifs,0⟩] sc pos) 0 (.ref it) (.ref s.heap.objs.size) (compEnvC sc (ccl sc X.env) s3.heap.objs.size X.env)).onRaise (fun x=>do noteFrame x (compEnvC sc (ccl sc X.env) s3.heap.objs.size X.env);theTreesLotGoes x)) _ _ s5
  refine wpAny_noted ?_
  rw[compTurn_list]
  refine wpAny_bind (wpAny_standAt (wpAny_bind ?_))
  have nev:∀{α:Type}{t:Sem α}{Q₁:α->Shared->Prop}{E₁:Value->Shared->Prop}{s₁:Shared},wpAny (model X.prog X.w) X.A t Q₁ (fun _ _=>False) s₁->wpAny (model X.prog X.w) X.A t Q₁ E₁ s₁:=fun h=>wpAny_noRaise h
  rcases turn i k σ5 H5 w5 with⟨stop,qn⟩ | ⟨go,Nn,hN,step⟩
  ·refine nev (thn (T.done (iU X N sc pins s3.heap.objs.size s3 (upd H s.heap.objs.size (.lst [])) fp) rfl rfl rfl hc i [] s5 σ5 H5 (fun _ _=>False) I5 (hfX fr5) st5 stop) fun r s6 ⟨hr,I6⟩=> ?_)
   subst hr
   have B:Inv X pins σ H5 s6:=comp_back I3 hf3 I6
   refine wpAny_pure (hR _ _ H5 s6 B (I3.M5 (Nat.le_refl _) I6.free) ?_ qn)
   obtain⟨m,hm,_⟩:=I6.loc
   exact⟨m,hm⟩
  ·refine nev (thn (T.item (iU X N sc pins s3.heap.objs.size s3 (upd H s.heap.objs.size (.lst [])) fp) rfl rfl rfl hc i [] s5 σ5 H5 (fun _ _=>False) I5 (hfX fr5) st5 go) fun r s6 ⟨u,hr,h6⟩=> ?_)
   subst hr
   refine wpAny_bind (nev (thn h6 fun _ s7 ⟨x,H7,I7,r7,y7,st7,fr7⟩=> ?_))
   have I7':=I7.pinned (hfX fr7) (T.obj _ _ st7)
   refine wpAny_bind (nev (thn (hg _ _ _ _ _ s7 σ5 H7 x u _ I7' r7 (step x H7 y7)) fun _ s8 ⟨σ8,H8,I8,q8⟩=> ?_))
   refine wpAny_bind (nev (thn (hi _ _ _ _ _ s8 σ8 H8 _ I8 q8) fun b s9 ⟨H9,I9,q9⟩=> ?_))
   have fin:∀{s10:Shared}{H10:Hp}{m':Nat},m'<k->Inv (iU X N sc pins s3.heap.objs.size s3 (upd H s.heap.objs.size (.lst [])) fp) ([]++Jp fp s7.heap) σ8 H10 s10->W (i+1) m' σ8 H10->
    ∃m,m<k/\∃i σ' H',Inv (iU X N sc pins s3.heap.objs.size s3 (upd H s.heap.objs.size (.lst [])) fp) [] σ' H' s10/\tn i s10.heap/\(∀b∈fp,H' b=none)/\W i m σ' H':=fun{s10 H10 m'} hm I10 w10=>by
    refine⟨m',hm,i+1,σ8,H10,I10.unpinned,T.keep _ _ _ st7 fun b hb o e=>(I10.pin (b,o) (List.mem_append_right _ (List.mem_append_right _ (wV hb e)))).1,fun b hb=> ?_,w10⟩
    obtain⟨o,e,d⟩:=T.obj _ _ st7 b hb
    exact(I10.pin (b,o) (List.mem_append_right _ (List.mem_append_right _ (wV hb e)))).2.1
   cases b with
   | false=>
     rw[if_neg Bool.false_ne_true] at q9
     obtain⟨m',hm,w9⟩:=hN _ _ q9
     exact wpAny_pure ⟨rfl,fin hm I9 w9⟩
   | true=>
     rw[if_pos rfl] at q9
     refine wpAny_bind (wpAny_bind (nev (thn (he _ _ _ _ _ s9 σ8 H9 _ I9 q9) fun v s10 ⟨y,H10,I10,r10,q10⟩=> ?_)))
     obtain⟨ys,hy,hz,n10⟩:=q10
     obtain⟨m',hm,w10⟩:=hN _ _ n10
     refine wpAny_bind (nev (thn (Mi _ s10 σ8 H10 (.ref s.heap.objs.size) [y] (.ref s.heap.objs.size) [v] (fun z H'=>H'=upd H10 s.heap.objs.size (.lst (ys++[y]))) I10 rfl (.cons r10 .nil) ⟨_,ys,y,rfl,rfl,hy,hz,rfl⟩) fun z s11 ⟨_,H11,I11,_,e11⟩=> ?_))
     subst e11
     exact wpAny_pure (wpAny_pure ⟨rfl,fin hm I11 w10⟩)
 subst hs3
 exact codeAny_compStart_list (loop _ rfl) (T.self _ 0 _ _ _ st4 (loop _ rfl))
theorem YS (hc:X.calm=true) (S:yV X n fr N sc) (hit:PI X tg iter wi)
 (hg:∀pins C s₀ H₀ fp,PG (iU X N sc pins C s₀ H₀ fp) tg g) (hi:∀pins C s₀ H₀ fp,U4 (iU X N sc pins C s₀ H₀ fp) ifs tc) (he:∀pins C s₀ H₀ fp,PE (iU X N sc pins C s₀ H₀ fp) elt te)
 (hs:∀x,foldedSetIterable iter X.env x=pure x:=by intro _;rfl):PE X (.ListComp elt [⟨tg,iter,ifs,0⟩] sc pos) (Tj wi n fr g tc te):=by
 intro pins s σ H Q I h
 rw[eval_ListComp]
 refine wpAny_comprehension_free (use:=none) rfl hs (Jw S I.ok) S.kind S.own ?_
 refine thn (hit pins s σ H _ I h) fun v s1 h1=>thn h1 fun itv s2 h2=> ?_
 obtain⟨it,fp,tn,J,H2,e,I2,T,st2,f2,q2⟩:=h2
 subst e
 refine O6 (RR:=fun acc C=>compPost (model X.prog X.w) X.A X.xe none (EP X pins σ Q) acc C) hc S (hg pins) (hi pins) (he pins) I2 T st2 f2 q2 fun D C H' s' I' fC hm q=> ?_
 obtain⟨m,hm⟩:=hm
 refine⟨m,hm,fun h' hs'=>⟨.ref D,H',I'.turned (t':=s'.toks) (fun b o hb e=>(hs'.2 b hb).trans e) fC.1 fC.2.1 fC.2.2.2.1 fC.2.2.2.2.1 fC.2.2.2.2.2,rfl,q⟩⟩
theorem Ro {i:Nat}{x:Str}{pos' spos:Pos} (hc:X.calm=true) (hN:X.N.Nodup) (hi':X.N[i]? =some x) (hx:Loc X.env.scope x) (S:yV X n fr N sc) (hit:PI X tg iter wi)
 (hg:∀pins C s₀ H₀ fp,PG (iU X N sc pins C s₀ H₀ fp) tg g) (hi:∀pins C s₀ H₀ fp,U4 (iU X N sc pins C s₀ H₀ fp) ifs tc) (he:∀pins C s₀ H₀ fp,PE (iU X N sc pins C s₀ H₀ fp) elt te)
 (hsw:swapsWith (.ListComp elt [⟨tg,iter,ifs,0⟩] sc pos) (some (.Name x pos')) spos.line X.env=pure true)
 (hs:∀x,foldedSetIterable iter X.env x=pure x:=by intro _;rfl) (hf:X.fn x=true\/X.env.scope.names.lookup x=some .local:=by first | exact .inl rfl | exact .inr rfl | assumption):
 PS X (.Assign [.Name x pos'] (.ListComp elt [⟨tg,iter,ifs,0⟩] sc pos) spos) (Um (Tj wi n fr g tc te) (DR i)):=by
 intro pins s σ H D I h
 rw[exec_Assign_Name_used _ _ _ _ hsw]
 refine wpAny_bind (wpAny_standAt (wpAny_bind ?_))
 show wpAny _ X.A (do let _ <-comprehension (.ListComp elt [⟨tg,iter,ifs,0⟩] sc pos) sc X.env _ (newList []) false (eval iter X.env) (some (assign (.Name x pos') X.env))) _ _ s
 refine wpAny_bind (wpAny_mono (wpAny_comprehension_free (use:=some (assign (.Name x pos') X.env)) (Q:=fun _ s'=>SP X pins D .next s') rfl hs (Jw S I.ok) S.kind S.own ?_) (fun _ s' hq=>wpAny_pure (wpAny_pure hq)) fun _ _ e=>e)
 refine thn (hit pins s σ H _ I h) fun v s1 h1=>thn h1 fun itv s2 h2=> ?_
 obtain⟨it,fp,tn,J,H2,e,I2,T,st2,f2,q2⟩:=h2
 subst e
 refine O6 (Q:=fun x H1=>DR i x σ H1 D.nx) (RR:=fun acc C=>compPost (model X.prog X.w) X.A X.xe (some (assign (.Name x pos') X.env)) (fun _ s'=>SP X pins D .next s') acc C) hc S (hg pins) (hi pins) (he pins) I2 T st2 f2 q2 fun D' C H' s' I' fC hm q=> ?_
 obtain⟨m,hm⟩:=hm
 show wpAny _ X.A (assign (.Name x pos') X.env (.ref D')) _ _ _
 refine wpAny_assign_Name (LK I' hN hi' hx (v:= .ref D') rfl (fun s'' I'' ch=> ?_) hf)
 obtain⟨a,hsb,ha⟩:=ch
 have hne:C≠a:=by
  rcases ha with z | z
  ·rw[z];exact fC.2.1
  ·exact fun z'=>fC.2.2.2.2.1 x a z z'.symm
 exact⟨m,hm.sameBut hsb hne,fun h' hs'=>⟨_,H',I''.turned (t':=s''.toks) (fun b o hb e=>(hs'.2 b hb).trans e) fC.1 fC.2.1 fC.2.2.2.1 fC.2.2.2.2.1 fC.2.2.2.2.2,q⟩⟩
end
theorem Jx {lo:Int}{n:Nat}{g:TG}{tc:TT}{te:TE}{σ:St}{H:Hp}{D:Addr}{Q:VK} (Pv:Nat->St->Hp->Prop) (h0:Pv 0 σ (upd H D (.lst [])))
 (hs:∀i σ' H',i<n->Pv i σ' H'->g (.int (lo+i)) σ' H' fun σ3 H3=>tc σ3 H3 fun b H4=>
   if b=true then te σ3 H4 fun y H5=>∃ys,H5 D=some (.lst ys)/\ys.length<sizeLine/\Pv (i+1) σ3 (upd H5 D (.lst (ys++[y]))) else Pv (i+1) σ3 H4) (hd:∀σ' H',Pv n σ' H'->Q (.ref D) H'):
 Mp (Itr lo n) g tc te D σ (upd H D (.lst [])) Q:=by
 refine⟨fun i m σ H=>m=n - i/\i<=n/\Pv i σ H,⟨n,by simp,Nat.zero_le _,h0⟩, ?_⟩
 rintro i m σ H ⟨rfl,hi,p⟩
 by_cases hlt:i<n
 ·refine .inr ⟨hlt,Pv (i+1),fun σ' H' p'=>⟨n - (i+1),by omega,rfl,hlt,p'⟩,fun x H' y=> ?_⟩
  obtain⟨e,y⟩:=y
  subst e y
  exact hs i σ _ hlt p
 ·have e:i=n:=by omega
  subst e
  exact .inl ⟨Nat.le_refl _,hd σ H p⟩
theorem Mq {K:PySem.W.Frag}{a:Addr}{xs:List V}{g:TG}{tc:TT}{te:TE}{σ:St}{H:Hp}{D:Addr}{Q:VK} (Pv:Nat->St->Hp->Prop) (h0:Pv 0 σ (upd H D (.lst []))) (hl:∀i σ H,i<=xs.length->Pv i σ H->SqL K H a xs)
 (hs:∀i x σ' H',xs[i]? =some x->Pv i σ' H'->g x σ' H' fun σ3 H3=>tc σ3 H3 fun b H4=>
   if b=true then te σ3 H4 fun y H5=>∃ys,H5 D=some (.lst ys)/\ys.length<sizeLine/\Pv (i+1) σ3 (upd H5 D (.lst (ys++[y]))) else Pv (i+1) σ3 H4) (hd:∀σ' H',Pv xs.length σ' H'->Q (.ref D) H'):
 Mp (Itl K a) g tc te D σ (upd H D (.lst [])) Q:=by
 refine⟨fun i m σ H=>m=xs.length - i/\i<=xs.length/\Pv i σ H,⟨xs.length,by simp,Nat.zero_le _,h0⟩, ?_⟩
 rintro i m σ H ⟨rfl,hi,p⟩
 have q:=hl i σ H hi p
 by_cases hlt:i<xs.length
 ·refine .inr ⟨⟨xs,xs[i],q,by simp[hlt]⟩,Pv (i+1),fun σ' H' p'=>⟨xs.length - (i+1),by omega,rfl,hlt,p'⟩,fun x H' y=> ?_⟩
  obtain⟨e,y⟩:=y
  subst e
  exact hs i x σ _ (y xs q) p
 ·have e:i=xs.length:=by omega
  subst e
  exact .inl ⟨⟨xs,q,Nat.le_refl _⟩,hd σ H p⟩
end L2
namespace L2
open PySem PySem.Spec PyProof.Rows
def aG (sc:Scope) (x:Str):Prop:=Vis sc x/\(x==("__debug__":Str))=false/\(x==("__classdict__":Str))=false
instance {sc:Scope}{x:Str}:Decidable (aG sc x):=by unfold aG Vis;exact inferInstance
instance {sc:Scope}{x:Str}:Decidable (Loc sc x):=by unfold Loc;exact inferInstance
theorem pvx {X:Cx} (i:Nat) {x:Str}{pos:Pos} (v:aG X.env.scope x) (hN:X.N[i]? =some x:=by rfl):PE X (.Name x pos) (abE i):=abF hN v.1 v.2.1 v.2.2
def o9 (sc:Scope) (x:Str):Prop:=(sc.names.lookup x=some .local\/sc.names.lookup x=some .free)/\(x==("__debug__":Str))=false/\(x==("__classdict__":Str))=false
instance {sc:Scope}{x:Str}:Decidable (o9 sc x):=by unfold o9;exact inferInstance
theorem o9.ok {sc:Scope}{env:Env}{x:Str} (h:o9 sc x):aG (relabel sc env) x:=by
 obtain⟨h1,h2⟩:=h
 refine⟨?_,h2⟩
 rcases h1 with h1 | h1
 ·exact .inl (lookup_relabel_local h1)
 ·rcases wX (env:=env) h1 with z | z
  ·exact .inr (.inl z)
  ·exact .inr (.inr z)
theorem DY {env:Env}:∀{names:List (Str×NameKind)}{x:Str},names.lookup x=some .globalImplicit->
 (names.map fun(n,k)=>if(k==NameKind.free&&env.scope.kind== .function&&env.kindOf n==some .cell) then(n,NameKind.cell) else(n,k)).lookup x=some .globalImplicit
 |[],_,h=>by simp at h
 | (n,q)::r,x,h=>by
   have ih:=@DY env r x
   rw[List.map_cons]
   cases hx:x==n with
   | true=>
     simp only[List.lookup_cons,hx,Option.some.injEq] at h
     subst h
     simp[List.lookup_cons,hx]
   | false=>
     simp only[List.lookup_cons,hx] at h
     by_cases hc:(q==NameKind.free&&env.scope.kind== .function&&env.kindOf n==some .cell)=true
     ·simpa only[hc,if_true,List.lookup_cons,hx] using ih h
     ·simpa only[hc,if_false,List.lookup_cons,hx,Bool.false_eq_true] using ih h
theorem glC {X:Cx}{N:List Str}{sc:Scope}{pins:List (Addr×Obj)}{C:Addr}{s₀:Shared}{H₀:Hp}{fp:List Addr}{x:Str} (h:sc.names.lookup x=some .globalImplicit):Gl (iU X N sc pins C s₀ H₀ fp) x:=DY h
theorem pgx {X:Cx}{i:Nat}{x:Str}{pos:Pos} (hN:X.N.Nodup) (hx:X.env.scope.names.lookup x=some .local) (hi:X.N[i]? =some x:=by rfl):PG X (.Name x pos) (DR i):=Sw hN hi (.inl hx) (.inr hx)
theorem K9 {sc:Scope}{env:Env}{x:Str} (h:sc.names.lookup x=some .local):(relabel sc env).names.lookup x=some .local:=lookup_relabel_local h
end L2
set_option maxRecDepth 100000
namespace L2
open PySem PySem.Spec PyProof.Rows
def We (_ j:Int):Prop:=0<j/\j.natAbs.log2<9000
theorem Wf {X:Cx}:OpR X (binaryOp .FloorDiv) (rI We fun i j=> .int (i / j)):=opI fun i j _ _ _ _ _ hc q=>by
 have h1:(0:Int)<j:=hc.1
 exact floordiv_int (by omega) (by rw[Int.fdiv_eq_ediv_of_nonneg i (by omega)];exact q) (.inl (PyProof.noPylong_of_log2 hc.2))
mutual
inductive yx (K:PySem.W.Frag) (H:Hp):V->PyData->Prop where
 | non:yx K H .non .none
 | bl (b:Bool):yx K H (.bl b) (.bool b)
 | int (i:Int):yx K H (.int i) (.int i)
 | str (x:Str):yx K H (.str x) (.str x)
 | lst {a:Addr}{xs:List V}{ds:List PyData} (h:SqL K H a xs) (r:yW K H xs ds):yx K H (.ref a) (.list ds)
 | tup {a:Addr}{xs:List V}{ds:List PyData} (h:SqT K H a xs) (r:yW K H xs ds):yx K H (.ref a) (.tuple ds)
inductive yW (K:PySem.W.Frag) (H:Hp):List V->List PyData->Prop where
 | nil:yW K H [] []
 | cons {x:V}{d:PyData}{xs:List V}{ds:List PyData} (h:yx K H x d) (r:yW K H xs ds):yW K H (x::xs) (d::ds)
end
theorem mj {K:PySem.W.Frag}{H:Hp}:∀ns:List Str,yW K H (ns.map V.str) (ns.map PyData.str)
 |[]=> .nil
 | n::r=> .cons (.str n) (mj r)
section
variable {X:Cx}{pins:List (Addr×Obj)}{σ:St}{H:Hp}{s:Shared}
mutual
theorem yx.reads (I:Inv X pins σ H s):∀{x:V}{d:PyData}{u:Value},yx X.K H x d->RelV x u->∃as,Reads s.heap u d as
 | _,_,_, .non,r=>by cases(show _=Value.none from r);exact⟨_, .none⟩
 | _,_,_, .bl b,r=>by cases(show _=Value.bool b from r);exact⟨_, .bool b⟩
 | _,_,_, .int i,r=>by obtain⟨t,rfl⟩:=r;exact⟨_, .int i t⟩
 | _,_,_, .str x,r=>by obtain⟨t,rfl⟩:=r;exact⟨_, .str x t⟩
 | _,_,_, .lst h q,r=>by
   cases(show _=Value.ref _ from r)
   obtain⟨its,rv,⟨o,n,e,c,_,d⟩,_⟩:=I.list h
   obtain⟨as,hr⟩:=yW.reads I q rv
   exact⟨_, .list e c d (by simpa using hr)⟩
 | _,_,_, .tup h q,r=>by
   cases(show _=Value.ref _ from r)
   obtain⟨its,rv,⟨o,e,c,n,d⟩,_⟩:=I.tuple h
   obtain⟨as,hr⟩:=yW.reads I q rv
   exact⟨_, .tuple e c d (by simpa using hr)⟩
theorem yW.reads (I:Inv X pins σ H s):∀{xs:List V}{ds:List PyData}{us:List Value},yW X.K H xs ds->Vals xs us->∃as,ReadsAll s.heap us ds as
 | _,_,_, .nil, .nil=>⟨_, .nil⟩
 | _,_,_, .cons h r, .cons q t=>by
   obtain⟨as,h1⟩:=yx.reads I h q
   obtain⟨bs,h2⟩:=yW.reads I r t
   exact⟨_, .cons h1 h2⟩
end
end
def YT (K:PySem.W.Frag) (neg:Bool):R2:=fun x y H Q=>∃d e,yx K H x d/\yx K H y e/\SeqAt.shaped d=true/\SeqAt.shaped e=true/\Q (.bl (if neg then !PyData.eqv d e else PyData.eqv d e)) H
theorem Rp {X:Cx} (hu:X.A.units+64<cLine):OpR X (compareOp .Eq) (YT X.K false):=by
 intro pins s σ H x y v u Q I rx ry h
 obtain⟨d,e,hd,he,sd,se,q⟩:=h
 obtain⟨as,h1⟩:=hd.reads I rx
 obtain⟨bs,h2⟩:=he.reads I ry
 exact eq_dataH h1 h2 sd se hu ⟨.bl _,H,I,rfl,q⟩
theorem Wg {X:Cx} (hu:X.A.units+64<cLine):OpR X (compareOp .NotEq) (YT X.K true):=by
 intro pins s σ H x y v u Q I rx ry h
 obtain⟨d,e,hd,he,sd,se,q⟩:=h
 obtain⟨as,h1⟩:=hd.reads I rx
 obtain⟨bs,h2⟩:=he.reads I ry
 exact ne_dataH h1 h2 sd se hu ⟨.bl _,H,I,rfl,q⟩
theorem Wh {X:Cx}:sU X (.builtin "isinstance") (fun xs H Q=>∃x T t b,xs=[x, .ty T]/\uN X.K H x t/\PySem.W.kitOne X.K t (.type T)=some b/\Q (.bl b) H):=by
 intro pins s σ H xs us Q I r h
 obtain⟨x,T,t,b,rfl,ty,e,q⟩:=h
 obtain⟨u,v,rfl,r1,r2⟩:=Vals.two r
 cases(show v=Value.type T from r2)
 exact Uv I r1 ty e fun tk=>⟨.bl b,H,I.tok tk,rfl,q⟩
theorem rA:bootBuiltins "len"=some (.builtin "len"):=by decide +kernel
theorem lN:bootBuiltins "isinstance"=some (.builtin "isinstance"):=by decide +kernel
theorem Wi:bootBuiltins "max"=some (.builtin "max"):=by decide +kernel
theorem vK:bootBuiltins "sorted"=some (.builtin "sorted"):=by decide +kernel
theorem acy:bootBuiltins "all"=some (.builtin "all"):=by decide +kernel
theorem Gn:bootBuiltins "int"=some (.type "int"):=by decide +kernel
theorem Wj:bootBuiltins "str"=some (.type "str"):=by decide +kernel
theorem YW:bootBuiltins "bool"=some (.type "bool"):=by decide +kernel
theorem Jg:bootBuiltins "list"=some (.type "list"):=by decide +kernel
theorem Jy:bootBuiltins "tuple"=some (.type "tuple"):=by decide +kernel
theorem Nf:bootBuiltins "dict"=some (.type "dict"):=by decide +kernel
theorem Ng:bootBuiltins "enumerate"=some (.type "enumerate"):=by decide +kernel
theorem acz:bootBuiltins "zip"=some (.type "zip"):=by decide +kernel
end L2
set_option maxRecDepth 100000
namespace L2
open PySem PySem.Spec PyProof.Rows
structure QE (X:Cx) (e:Expr) (t:TE):Prop where
 h:PE X e t
structure QT (X:Cx) (e:Expr) (t:TT):Prop where
 h:PT X e t
structure QW (X:Cx) (e:Expr) (t:TT):Prop where
 h:PW X e t
structure QA (X:Cx) (es:List Expr) (t:TA):Prop where
 h:PA X es t
structure QS (X:Cx) (s:Stmt) (t:TS):Prop where
 h:PS X s t
structure QSs (X:Cx) (s:List Stmt) (t:TS):Prop where
 h:PSs X s t
structure QG (X:Cx) (e:Expr) (t:TG):Prop where
 h:PG X e t
structure QGs (X:Cx) (es:List Expr) (t:TGs):Prop where
 h:PGs X es t
structure QI (X:Cx) (tg e:Expr) (t:TI):Prop where
 h:PI X tg e t
structure QO (X:Cx) (e:Option Expr) (t:TO):Prop where
 h:PO X e t
structure YX (X:Cx) (es:List Expr) (t:TT):Prop where
 h:U4 X es t
structure QPs (X:Cx) (pos:Pos) (ks:List (Option Expr)) (vs:List Expr) (t:List (TE×TE)):Prop where
 h:PPs X pos ks vs t
structure QOp (X:Cx) (f:Value->Value->Sem Value) (r:R2):Prop where
 h:OpR X f r
structure QUn (X:Cx) (f:Value->Sem Value) (r:V->Hp->VK->Prop):Prop where
 h:UnR X f r
structure QIx (X:Cx) (r:R2):Prop where
 h:IxR X r
structure QSl (X:Cx) (r:V->Option Int->Option Int->Hp->VK->Prop):Prop where
 h:SlR X r
structure QMt (X:Cx) (id:String) (r:V->List V->Hp->VK->Prop):Prop where
 h:MtR X id r
structure sW (X:Cx) (f:Value) (r:List V->Hp->VK->Prop):Prop where
 h:sU X f r
section
variable {X:Cx}{a b c e:Expr}{es:List Expr}{ta tb te:TE}{tA tB':TT}{pos p:Pos}{x:Str}
theorem aj (i:Nat) (v:aG X.env.scope x) (hN:X.N[i]? =some x:=by rfl):QE X (.Name x pos) (abE i):=⟨pvx i v hN⟩
theorem aB {i j pos}:QE X (.Constant (.int i) j pos) (tC (.int i)):=⟨abG⟩
theorem BK {b j pos}:QE X (.Constant (.bool b) j pos) (tC (.bl b)):=⟨aeX⟩
theorem Rq {j pos}:QE X (.Constant .none j pos) (tC .non):=⟨abH⟩
theorem aZ {x j pos}:QE X (.Constant (.str x) j pos) (tC (.str x)):=⟨abI⟩
theorem YZ {v:V}{u:Value} (hg:Gl X x) (hm:X.mg x=some u) (r:RelV v u) (hd:(x==("__debug__":Str))=false):QE X (.Name x pos) (tC v):=⟨Yg hg hm r hd⟩
theorem Aj {v:V}{u:Value} (hg:Gl X x) (hm:X.mg x=none) (hv:bootBuiltins x=some u) (r:RelV v u) (hn:x≠"__name__") (hd:(x==("__debug__":Str))=false):QE X (.Name x pos) (tC v):=⟨Yh hg hm hv r hn hd⟩
theorem cO {op:Operator}{r:R2} (ho:QOp X (binaryOp op) r) (ha:QE X a ta) (hb:QE X b tb):QE X (.BinOp a op b pos) (tOp r ta tb):=⟨ae9 ho.h ha.h hb.h⟩
theorem Mr {op:UnaryOp}{r:V->Hp->VK->Prop} (ho:QUn X (unaryOp op) r) (ha:QE X a ta):QE X (.UnaryOp op a pos) (tUn r ta):=⟨afa ho.h ha.h⟩
theorem lU {op:CmpOp}{r:R2} (ho:QOp X (compareOp op) r) (ha:QE X a ta) (hb:QE X b tb) (hm:behindInMarks op b=false):QE X (.Compare a [op] [b] pos) (tOp r ta tb):=⟨Yp ho.h ha.h hb.h hm⟩
theorem bT {op:CmpOp}{r:R2} (ho:QOp X (compareOp op) r) (ha:QE X a ta) (hb:QE X b tb) (hm:behindInMarks op b=false):QT X (.Compare a [op] [b] pos) (aaH (tOp r ta tb)):=⟨Yq ho.h ha.h hb.h hm⟩
theorem sX (h:QE X e te) (he:∀whole,isTrue e X.env whole=(do let v <-whole;standAt e.pos;holding [v] (truthy v)):=by intro _;rfl):QT X e (tB te):=⟨abJ h.h he⟩
theorem Jz (ha:QE X a ta) (he:∀whole,isTrue a X.env whole=(do let v <-whole;standAt a.pos;holding [v] (truthy v)):=by intro _;rfl):QT X a (fun σ H Q=>ta σ H fun x H1=>∃k,ab5 X.K x H1 k/\Q k H1):=⟨VG ha.h he⟩
theorem Gp (ha:QT X a tA):QT X (.UnaryOp .Not a pos) (aeZ tA):=⟨abM ha.h⟩
theorem acA (ha:QE X a ta):QE X (.UnaryOp .Not a pos) (aaB ta):=⟨abP ha.h⟩
theorem qy (ha:QT X a tA):QW X (.BoolOp .And [a] pos) tA:=⟨Yi ha.h⟩
theorem Cd (ha:QT X a tA):QW X (.BoolOp .Or [a] pos) tA:=⟨abK ha.h⟩
theorem uP {rest:List Expr} (ha:QT X a tA) (hb:QW X (.BoolOp .And (b::rest) pos) tB'):QW X (.BoolOp .And (a::b::rest) pos) (aeY tA tB'):=⟨abL ha.h hb.h⟩
theorem HS {rest:List Expr} (ha:QT X a tA) (hb:QW X (.BoolOp .Or (b::rest) pos) tB'):QW X (.BoolOp .Or (a::b::rest) pos) (tOr tA tB'):=⟨ae0 ha.h hb.h⟩
theorem yX (h:QW X e tA):QT X e tA:=⟨h.h.pt⟩
theorem JB {op} (h:QE X a ta):QE X (.BoolOp op [a] pos) ta:=⟨abN h.h⟩
theorem JC {rest:List Expr} (ha:QE X a ta) (hb:QE X (.BoolOp .And (b::rest) pos) tb):QE X (.BoolOp .And (a::b::rest) pos) (aaA ta tb):=⟨abO ha.h hb.h⟩
theorem afz {rest:List Expr} (ha:QE X a ta) (hb:QE X (.BoolOp .Or (b::rest) pos) tb):QE X (.BoolOp .Or (a::b::rest) pos) (ae1 ta tb):=⟨ae2 ha.h hb.h⟩
theorem Wk (hc:QT X c tA) (ha:QE X a ta) (hb:QE X b tb):QE X (.IfExp c a b pos) (tIf tA ta tb):=⟨Vq hc.h ha.h hb.h⟩
theorem aA:QA X [] Yt:=⟨acd⟩
theorem lV {t:TA} (ha:QE X e te) (hr:QA X es t) (hs:starEach (e::es) X.env=(false,eval e X.env)::starEach es X.env:=by rfl):QA X (e::es) (rJ te t):=⟨Yu ha.h hr.h hs⟩
theorem gC {x1}{t:TA} (h:QA X es t):QE X (.Tuple es x1 pos) (afk t):=⟨ace h.h⟩
theorem eG {t:TA} (h:QA X es t):QE X (.List es pos) (afl t):=⟨acf h.h⟩
theorem aN {r:R2} (hr:QIx X r) (ha:QE X a ta) (hb:QE X b tb) (hs:SX b:=by intro _ _;rfl):QE X (.Subscript a b pos) (tOp r ta tb):=⟨afn hr.h ha.h hb.h hs⟩
theorem Jh:QO X none SQ:=⟨Yz⟩
theorem Ji (h:QE X e te):QO X (some e) (aaK te):=⟨YB h.h⟩
theorem Ea {r:V->Option Int->Option Int->Hp->VK->Prop}{lo hi:Option Expr}{tl th:TO}{p2:Pos} (hr:QSl X r) (he:QE X e te) (hl:QO X lo tl) (hu:QO X hi th):QE X (.Subscript e (.Slice lo hi none p2) pos) (tSl r te tl th):=⟨VP hr.h he.h hl.h hu.h⟩
theorem cY (hu:X.A.units+1<cLine) (ho:QE X a ta) (hi:QE X b tb) (hs:acq b:=by intro _ _;rfl):QE X (.Subscript a b pos) (aaM ta tb):=⟨YJ hu ho.h hi.h hs⟩
theorem acB:QPs X pos [] [] []:=⟨YL⟩
theorem Nh {k v:Expr}{ks:List (Option Expr)}{vs:List Expr}{tk tv:TE}{trs:List (TE×TE)} (hk:QE X k tk) (hv:QE X v tv) (hr:QPs X pos ks vs trs):QPs X pos (some k::ks) (v::vs) ((tk,tv)::trs):=⟨V5 hk.h hv.h hr.h⟩
theorem Y0 {keys:List (Option Expr)}{values:List Expr}{trs:List (TE×TE)} (h:QPs X pos keys values trs) (hall:keys.all (·.isSome)=true:=by rfl) (hl:keys.length=values.length:=by rfl) (h1:keys≠[]:=by intro z;cases z) (h2:keys.length<=15:=by decide):QE X (.Dict keys values pos) (aaO trs):=⟨YM h.h hall hl h1 h2⟩
theorem aJ {CX:CXT}{k:Nat}{f:Addr}{fd:FuncData}{ps:List Str}{sp:Sp}{dvs:List V}{ds:List Value}{E:XK}{t:TA} (F:bf X.prog X.w X.K X.mg X.base CX k f fd ps sp) (hr:o8 k X.A) (hg:Gl X x) (hm:X.mg x=some (.ref f)) (hk:PySem.W.keepIn X.K (.ref f)=true) (hb:Binds X.K fd ps ds) (hd:Vals dvs ds) (hx:Passes CX X E)
 (ha:QA X (e::es) t) (hdb:(x==("__debug__":Str))=false) (he:starEach (e::es) X.env=(false,eval e X.env)::starEach es X.env:=by rfl) (hpl:(backTo pos (starEach es X.env)).any (·.1)=false:=by rfl):
 QE X (.Call (.Name x p) (e::es) [] pos) (aaI sp dvs E t):=⟨Yv F hr hg hm hk hb hd hx ha.h hdb he hpl⟩
theorem dm {id:String}{r:List V->Hp->VK->Prop}{t:TA} (hc:sW X (.builtin id) r) (hg:Gl X x) (hm:X.mg x=none) (hv:bootBuiltins x=some (.builtin id)) (ha:QA X (e::es) t) (hn:x≠"__name__") (hdb:(x==("__debug__":Str))=false)
 (he:starEach (e::es) X.env=(false,eval e X.env)::starEach es X.env:=by rfl) (hpl:(backTo pos (starEach es X.env)).any (·.1)=false:=by rfl):QE X (.Call (.Name x p) (e::es) [] pos) (tCB r t):=⟨VN hc.h hg hm hv ha.h hn hdb he hpl⟩
theorem jD {T:String}{r:List V->Hp->VK->Prop}{t:TA} (hc:sW X (.type T) r) (hg:Gl X x) (hm:X.mg x=none) (hv:bootBuiltins x=some (.type T)) (ha:QA X (e::es) t) (hn:x≠"__name__") (hdb:(x==("__debug__":Str))=false)
 (he:starEach (e::es) X.env=(false,eval e X.env)::starEach es X.env:=by rfl) (hpl:(backTo pos (starEach es X.env)).any (·.1)=false:=by rfl):QE X (.Call (.Name x p) (e::es) [] pos) (tCB r t):=⟨Ux hc.h hg hm hv ha.h hn hdb he hpl⟩
theorem Gq {o:Expr}{to:TE}{name:Str}{apos cpos:Pos}{T id:String}{r:V->List V->Hp->VK->Prop} (pa:PlainAttrs T) (slot:Slot T name id) (hty:typeOf (.builtin id)=pure (.type "method_descriptor")) (hm:QMt X id r) (ho:QE X o to)
 (hbase:attributeBase o name X.env (eval o X.env)=eval o X.env:=by rfl) (hline:(apos.endLine==cpos.line)=true:=by rfl):QE X (.Call (.Attribute o name apos) [] [] cpos) (afq X.K T r to):=⟨acn pa slot hty hm.h ho.h hbase hline⟩
theorem uz {o:Expr}{to:TE}{name:Str}{apos cpos:Pos}{T id:String}{r:V->List V->Hp->VK->Prop}{t:TA} (pa:PlainAttrs T) (slot:Slot T name id) (hty:typeOf (.builtin id)=pure (.type "method_descriptor")) (hm:QMt X id r) (ho:QE X o to) (ha:QA X (e::es) t)
 (hbase:attributeBase o name X.env (eval o X.env)=eval o X.env:=by rfl)
 (hfew:((backTo cpos (starEach (e::es) X.env)).all (fun x=> !x.1)&&(backToKw cpos (keywordEach [] X.env)).all (fun x=>x.1.isSome)
   &&decide ((e::es).length+([]:List Keyword).length+(if([]:List Keyword).isEmpty then 0 else 1)<30))=true:=by rfl)
 (hline:(apos.endLine==cpos.line)=true:=by rfl) (hs:starEach (e::es) X.env=(false,eval e X.env)::starEach es X.env:=by rfl) (hplain:(backTo cpos (starEach es X.env)).any (·.1)=false:=by rfl):
 QE X (.Call (.Attribute o name apos) (e::es) [] cpos) (tBM X.K T r to t):=⟨afr pa slot hty hm.h ho.h ha.h hbase hfew hline hs hplain⟩
theorem wY {n:Nat}{fr:List Nat}{N:List Str}{sc:Scope}{elt tg iter:Expr}{ifs:List Expr}{wi:TI}{g:TG}{tc:TT} (hc:X.calm=true) (S:yV X n fr N sc) (hit:QI X tg iter wi)
 (hg:∀pins C s₀ H₀ fp,QG (iU X N sc pins C s₀ H₀ fp) tg g) (hi:∀pins C s₀ H₀ fp,YX (iU X N sc pins C s₀ H₀ fp) ifs tc) (he:∀pins C s₀ H₀ fp,QE (iU X N sc pins C s₀ H₀ fp) elt te)
 (hs:∀x,foldedSetIterable iter X.env x=pure x:=by intro _;rfl):QE X (.ListComp elt [⟨tg,iter,ifs,0⟩] sc pos) (Tj wi n fr g tc te):=
 ⟨YS hc S hit.h (fun a b c d e=>(hg a b c d e).h) (fun a b c d e=>(hi a b c d e).h) (fun a b c d e'=>(he a b c d e').h) hs⟩
theorem Rr {i:Nat}{pos' spos:Pos}{n:Nat}{fr:List Nat}{N:List Str}{sc:Scope}{elt tg iter:Expr}{ifs:List Expr}{wi:TI}{g:TG}{tc:TT} (hc:X.calm=true) (hN:X.N.Nodup) (hi':X.N[i]? =some x) (hx:Loc X.env.scope x) (S:yV X n fr N sc) (hit:QI X tg iter wi)
 (hg:∀pins C s₀ H₀ fp,QG (iU X N sc pins C s₀ H₀ fp) tg g) (hi:∀pins C s₀ H₀ fp,YX (iU X N sc pins C s₀ H₀ fp) ifs tc) (he:∀pins C s₀ H₀ fp,QE (iU X N sc pins C s₀ H₀ fp) elt te)
 (hsw:swapsWith (.ListComp elt [⟨tg,iter,ifs,0⟩] sc pos) (some (.Name x pos')) spos.line X.env=pure true)
 (hs:∀x,foldedSetIterable iter X.env x=pure x:=by intro _;rfl) (hf:X.fn x=true\/X.env.scope.names.lookup x=some .local:=by first | exact .inl rfl | exact .inr rfl | assumption):
 QS X (.Assign [.Name x pos'] (.ListComp elt [⟨tg,iter,ifs,0⟩] sc pos) spos) (Um (Tj wi n fr g tc te) (DR i)):=
 ⟨Ro hc hN hi' hx S hit.h (fun a b c d e=>(hg a b c d e).h) (fun a b c d e=>(hi a b c d e).h) (fun a b c d e'=>(he a b c d e').h) hsw hs hf⟩
theorem Rt:YX X [] aaP:=⟨Wb⟩
theorem JD {t:TT} (h:QT X c t):YX X [c] t:=⟨Wd h.h⟩
theorem Eb {tg l:Expr}{tl:TE} (hl:QE X l tl):QI X tg l (aaF X.K tl):=⟨Yo hl.h⟩
theorem Ak {tg:Expr}{t:TA} (hg:Gl X "range") (hm:X.mg "range"=none) (ha:QA X [a] t) (hs:starEach [a] X.env=[(false,eval a X.env)]:=by rfl):QI X tg (.Call (.Name "range" p) [a] [] pos) (aaG t):=⟨Up hg hm ha.h hs⟩
theorem fH {i:Nat} (hN:X.N.Nodup) (hi:X.N[i]? =some x) (hx:Loc X.env.scope x) (hf:X.fn x=true\/X.env.scope.names.lookup x=some .local:=by first | exact .inl rfl | exact .inr rfl | assumption):QG X (.Name x pos) (DR i):=⟨Sw hN hi hx hf⟩
theorem qgx {i:Nat} (hN:X.N.Nodup) (hx:X.env.scope.names.lookup x=some .local) (hi:X.N[i]? =some x:=by rfl):QG X (.Name x pos) (DR i):=⟨pgx hN hx hi⟩
theorem uA:QGs X [] ae7:=⟨Yn⟩
theorem fu {t:TG}{u:TGs} (h1:QG X e t) (h2:QGs X es u) (hs:(assignEach (e::es) X.env).map (·.2)=assign e X.env::(assignEach es X.env).map (·.2):=by rfl):QGs X (e::es) (aaE t u):=⟨Vw h1.h h2.h hs⟩
theorem JF {k n:Nat}{t:TGs} (hc:X.calm=true) (h:QGs X es t) (hn:(assignEach es X.env).length=n:=by rfl) (hst:(assignEach es X.env).findIdx? (·.1)=none:=by rfl):QG X (.Tuple es k pos) (abR X.K n t):=⟨abS hc h.h hn hst⟩
theorem JG {tg:Expr}{g:TG} (he:QE X e te) (hg:QG X tg g) (hs:swapsWithSole [tg] e pos.line X.env=pure false:=by rfl) (hw:swappedStores [tg] e X.env=pure none:=by rfl)
 (h1:(assignEach [tg] X.env).map (·.2)=[assign tg X.env]:=by rfl):QS X (.Assign [tg] e pos) (Um te g):=⟨abT he.h hg.h hs hw h1⟩
theorem bB {i:Nat}{pos':Pos} (hN:X.N.Nodup) (hi:X.N[i]? =some x) (hx:Loc X.env.scope x) (he:QE X e te) (hs:swapsWith e (some (.Name x pos')) pos.line X.env=pure false:=by rfl) (hf:X.fn x=true\/X.env.scope.names.lookup x=some .local:=by first | exact .inl rfl | exact .inr rfl | assumption):
 QS X (.Assign [.Name x pos'] e pos) (Um te (DR i)):=⟨abU hN hi hx he.h hs hf⟩
theorem gQ {o i v:Expr}{td ty tv:TE}{pos':Pos} (hu:X.A.units+1<cLine) (ho:QE X o td) (hi:QE X i ty) (hv:QE X v tv) (hs:swapsWith v (some (.Subscript o i pos')) pos.line X.env=pure false:=by rfl):QS X (.Assign [.Subscript o i pos'] v pos) (aaN td ty tv):=⟨YK hu ho.h hi.h hv.h hs⟩
theorem fY (he:QE X e te) (hs:swapsWith e none pos.line X.env=pure false:=by rfl):QS X (.Expr e pos) (aaD te):=⟨Ym he.h hs⟩
theorem aW (he:QE X e te):QS X (.Return (some e) pos) (ae4 te):=⟨abQ he.h⟩
theorem Y4:QS X (.Pass pos) Sv:=⟨Yl⟩
theorem Wl:QS X (.Break pos) Vs:=⟨Vt⟩
theorem O7:QS X (.Continue pos) aaC:=⟨Ow⟩
theorem cJ {s1 s2:List Stmt}{t u:TS} (hc:QT X c tA) (ha:QSs X s1 t) (hb:QSs X s2 u):QS X (.If c s1 s2 pos) (ae5 tA t u):=⟨ae6 hc.h ha.h hb.h⟩
theorem Ec {body:List Stmt}{tb:TS} (hp:PassesOwn (model X.prog X.w) X.A X.env X.xe) (hc:QT X c tA) (hb:QSs X body tb):QS X (.While c body [] pos) (Vx tA tb):=⟨Vy hp hc.h hb.h⟩
theorem wZ {tg iter:Expr}{body:List Stmt}{wi:TI}{g:TG}{tb:TS} (hp:PassesOwn (model X.prog X.w) X.A X.env X.xe) (hc:X.calm=true) (hi:QI X tg iter wi) (hg:QG X tg g) (hb:QSs X body tb)
 (hs:∀x,foldedSetIterable iter X.env x=pure x:=by intro _;rfl):QS X (.For tg iter body [] pos) (ae8 wi g tb):=⟨abV hp hc hi.h hg.h hb.h hs⟩
theorem bF:QSs X [] Sv:=⟨Yj⟩
theorem az {s:Stmt}{rest:List Stmt}{t u:TS} (h1:QS X s t) (h2:QSs X rest u):QSs X (s::rest) (ae3 t u):=⟨Vr h1.h h2.h⟩
theorem aF {s:Stmt}{t:TS} (h1:QS X s t):QSs X [s] t:=⟨Yk h1.h⟩
theorem jR:QOp X (binaryOp .Add) (rI0 fun i j=> .int (i+j)):=⟨abX⟩
theorem pq:QOp X (binaryOp .Sub) (rI0 fun i j=> .int (i - j)):=⟨abY⟩
theorem rW:QOp X (binaryOp .Mult) (rI Gi fun i j=> .int (i * j)):=⟨abZ⟩
theorem oM:QOp X (binaryOp .Mod) (rI (fun _ j=>0<j) fun i j=> .int (i % j)):=⟨ab0⟩
theorem Ed:QOp X (binaryOp .FloorDiv) (rI We fun i j=> .int (i / j)):=⟨Wf⟩
theorem Ni:QOp X (binaryOp .Pow) (rI VD fun i j=> .int (i ^ j.toNat)):=⟨ab1⟩
theorem O8:QOp X (binaryOp .Add) (fun x y H Q=>∃i j,x= .str i/\y= .str j/\i.length+j.length<=sizeLine/\Q (.str (i++j)) H):=⟨Q5⟩
theorem Y5:QOp X (binaryOp .Add) aft:=⟨acp⟩
theorem Al:QUn X (unaryOp .USub) (rU fun i=> .int (-i)):=⟨ab2⟩
theorem dR:QOp X (compareOp .Eq) rEq:=⟨afe⟩
theorem rB:QOp X (compareOp .NotEq) rNe:=⟨afg⟩
theorem Wm:QOp X (compareOp .Lt) (rI0 fun i j=> .bl (decide (i<j))):=⟨afh⟩
theorem Ru:QOp X (compareOp .Gt) (rI0 fun i j=> .bl (decide (j<i))):=⟨afi⟩
theorem Y6:QOp X (compareOp .Is) (fun x y H Q=>y= .non/\Q (.bl (decide (x= .non))) H):=⟨ab3⟩
theorem Tn (hu:X.A.units+64<cLine):QOp X (compareOp .Eq) (YT X.K false):=⟨Rp hu⟩
theorem Y7 (hu:X.A.units+64<cLine):QOp X (compareOp .NotEq) (YT X.K true):=⟨Wg hu⟩
theorem mq:QOp X (compareOp .In) (rIn X.K false):=⟨Uy⟩
theorem La:QOp X (compareOp .NotIn) (rIn X.K true):=⟨M8⟩
theorem cR:QIx X (acg X.K):=⟨YD⟩
theorem aK:QIx X (ach X.K):=⟨aci⟩
theorem Tp:QIx X afo:=⟨acj⟩
theorem Ef:QSl X (afp X.K):=⟨YF⟩
theorem jb:QMt X "list.append" Tc:=⟨Mi⟩
theorem Ce:QMt X "list.extend" Td:=⟨UG⟩
theorem Am:QMt X "list.pop" afs:=⟨aco⟩
theorem kZ:sW X (.builtin "len") (fun xs H Q=>∃p ys,xs=[.ref p]/\(SqL X.K H p ys\/SqT X.K H p ys)/\Q (.int ys.length) H):=⟨M9⟩
theorem Tq:sW X (.builtin "len") (fun xs H Q=>∃a kvs,xs=[V.ref a]/\H a=some (.dK kvs)/\Q (.int kvs.length) H):=⟨U3⟩
theorem Gr:sW X (.builtin "isinstance") (fun xs H Q=>∃x T t b,xs=[x, .ty T]/\uN X.K H x t/\PySem.W.kitOne X.K t (.type T)=some b/\Q (.bl b) H):=⟨Wh⟩
theorem Eg:sW X (.type "int") (fun xs H Q=>∃k,xs=[.bl k]/\Q (.int (if k then 1 else 0)) H):=⟨fun pins s σ H xs us Q I r h=>Us pins s σ H xs us Q I r (.inr h)⟩
theorem Rv:sW X (.type "list") (fun xs H Q=>∃p ys,xs=[.ref p]/\(SqL X.K H p ys\/SqT X.K H p ys)/\∀l,H l=none->Q (.ref l) (upd H l (.lst ys))):=⟨Nb⟩
theorem O9:sW X (.type "tuple") (fun xs H Q=>∃p ys,xs=[.ref p]/\SqL X.K H p ys/\∀l,H l=none->Q (.ref l) (upd H l (.tup ys))):=⟨fun pins s σ H xs us Q I r h=>K7 pins s σ H xs us Q I r (let ⟨p,ys,e,hs,q⟩:=h;⟨p,ys,e, .inl ⟨hs,q⟩⟩)⟩
theorem aO (b:Expr) {op:CmpOp} (h:op≠ .In:=by decide) (h2:op≠ .NotIn:=by decide):behindInMarks op b=false:=ab4 b h h2
theorem Gs {K:PySem.W.Frag} (e:X.K=K):QIx X (acg K):=e▸cR
theorem JH {K:PySem.W.Frag} (e:X.K=K):QIx X (ach K):=e▸aK
theorem JK {K:PySem.W.Frag} (e:X.K=K):QOp X (compareOp .NotIn) (rIn K true):=e▸La
theorem HW {K:PySem.W.Frag} (e:X.K=K):sW X (.builtin "len") (fun xs H Q=>∃p ys,xs=[.ref p]/\(SqL K H p ys\/SqT K H p ys)/\Q (.int ys.length) H):=e▸kZ
end
end L2
set_option maxRecDepth 100000
namespace L2
open PySem PySem.Spec PyProof.Rows
theorem U5 {X:Cx} (hc:X.calm=true):sU X (.builtin "all") (fun xs H Q=>∃(p:Addr) (bs:List Bool),xs=[V.ref p]/\SqL X.K H p (bs.map V.bl)/\Q (.bl (bs.all id)) H):=by
 intro pins s σ H xs us Q I r h
 obtain⟨p,bs,rfl,hp,q⟩:=h
 obtain⟨u,rfl,ru⟩:=Vals.one r
 cases(show u=Value.ref p from ru)
 obtain⟨its,rv,pl,hz⟩:=I.list hp
 have hlt:p<s.heap.objs.size:=by obtain⟨o,n,e,_⟩:=pl;exact Heap.lt_size e
 have hlen:its.length=bs.length:=by rw[<-rv.length,List.length_map]
 refine call_all_walk (wpAny_pyIter_list pl.isList ?_)
 refine⟨s.heap.objs.size,_,_,its.toArray.size,(fun i v=>its.toArray[i]? =some v),_,(fun i=>bs.getD i false),rfl,Walks.list (A:=X.A.in1) (I.ok.hd hc) s.heap.objs.size p (Nat.ne_of_lt hlt) its.toArray,⟨⟨_,Heap.get?_push_size _ rfl,rfl,rfl⟩,pl.isList.push _⟩, ?_, ?_⟩
 ·intro i v s' Q' E' hv hq
  have hi:i<bs.length:=by
   rw[<-hlen]
   have:=(Array.getElem?_eq_some_iff.mp hv).1
   simpa using this
  obtain⟨u,hu,ru⟩:=rv.get (i:=i) (x:=V.bl bs[i]) (by rw[List.getElem?_map,List.getElem?_eq_getElem hi];rfl)
  have hv':its[i]? =some v:=by simpa using hv
  rw[hu] at hv'
  cases hv'
  cases(show v=Value.bool _ from ru)
  refine wpAny_truthy_bool ?_
  have e:bs.getD i false=bs[i]:=by rw[List.getD_eq_getElem?_getD,List.getElem?_eq_getElem hi];rfl
  have hq':Q' (bs.getD i false) s':=hq
  rw[e] at hq'
  exact hq'
 ·intro h' tk hk
  have e:(List.range its.toArray.size).all (fun i=>bs.getD i false)=bs.all id:=by
   rw[List.size_toArray,hlen]
   rw[Bool.eq_iff_iff,List.all_eq_true,List.all_eq_true]
   constructor
   ·intro h b hb
    obtain⟨i,hi,rfl⟩:=List.mem_iff_getElem.mp hb
    have:=h i (List.mem_range.mpr hi)
    rw[List.getD_eq_getElem?_getD,List.getElem?_eq_getElem hi] at this
    exact this
   ·intro h i hi
    have hi':=List.mem_range.mp hi
    rw[List.getD_eq_getElem?_getD,List.getElem?_eq_getElem hi']
    exact h _ (List.getElem_mem hi')
  rw[e]
  refine⟨.bl _,H,I.kept (t':=tk) fun b o eb=>hk b o ?_ (Heap.get?_push_of_some _ eb),rfl,q⟩
  intro z
  have:b=s.heap.objs.size:=by simpa using z
  exact absurd (Heap.lt_size eb) (by rw[this];exact Nat.lt_irrefl _)
section
variable {X:Cx}{a b c e:Expr}{ta tb tc te:TE}{pos:Pos}
theorem Y8 (hc:X.calm=true):sW X (.builtin "all") (fun xs H Q=>∃(p:Addr) (bs:List Bool),xs=[V.ref p]/\SqL X.K H p (bs.map V.bl)/\Q (.bl (bs.all id)) H):=⟨U5 hc⟩
end
end L2
set_option maxRecDepth 100000
namespace RB
open PySem L2 PySem.Spec PyProof.Rows
def But (S:List Addr) (H H':Hp):Prop:=∀b o,b∉S->H b=some o->H' b=some o
theorem But.refl (S:List Addr) (H:Hp):But S H H:=fun _ _ _ h=>h
theorem But.trans {S:List Addr}{H H1 H2:Hp} (a:But S H H1) (b:But S H1 H2):But S H H2:=fun c o n h=>b c o n (a c o n h)
theorem But.mono {S S':List Addr}{H H':Hp} (a:But S H H') (h:∀b∈S,b∈S'):But S' H H':=fun c o n q=>a c o (fun z=>n (h c z)) q
theorem But.new {S:List Addr}{H:Hp}{p:Addr} (o:HO) (h:H p=none):But S H (upd H p o):=fun b u _ q=>by rw[au (aL q h)];exact q
theorem But.set {S:List Addr}{H:Hp}{p:Addr} (o:HO) (h:p∈S):But S H (upd H p o):=fun b u n q=>by rw[au (show b≠p from fun e=>n (by rw[e];exact h))];exact q
theorem But.of_same {S:List Addr}{H H':Hp} (h:aM H H'):But S H H':=fun b o _ q=>h b o q
theorem aD {H:Hp}{p:Addr} (o:HO) (h:H p=none):aM H (upd H p o):=fun b u q=>by rw[au (aL q h)];exact q
def jz (H H':Hp):Prop:=∀b xs,H b=some (.tup xs)->H' b=some (.tup xs)
theorem aM.tups {H H':Hp} (h:aM H H'):jz H H':=fun b xs q=>h b _ q
inductive Op where | plus | minus | times | most
 deriving DecidableEq
def Op.word:Op->Str
 | .plus=>"plus" | .minus=>"minus" | .times=>"times" | .most=>"most"
inductive R where
 | num (n:Int) | rd (x:Str) | bin (op:Op) (a b:R) | pick (a b c:R) | cho (a:R) (ns:List Str)
def R.depth:R->Nat
 | .num _=>1
 | .rd _=>1
 | .bin _ a b=>max a.depth b.depth+1
 | .pick a b c=>max a.depth (max b.depth c.depth)+1
 | .cho a _=>a.depth+1
def Tr (c:Nat):Prop:=97<=c/\c<=122
def lK (x:Str):Prop:=1<=x.length/\x.length<=8/\∀c∈x.cps.toList,Tr c
def R.Good:R->Prop
 | .num n=>n.natAbs<10 ^ 40
 | .rd x=>lK x
 | .bin _ a b=>a.Good/\b.Good
 | .pick a b c=>a.Good/\b.Good/\c.Good
 | .cho a ns=>a.Good/\1<=ns.length/\ns.length<=9/\∀x∈ns,lK x
inductive IsR (H:Hp):Addr->R->Prop where
 | num {a:Addr}{n:Int} (e:H a=some (.tup [.str "number", .int n])):IsR H a (.num n)
 | rd {a:Addr}{x:Str} (e:H a=some (.tup [.str "read", .str x])):IsR H a (.rd x)
 | bin {a b c:Addr}{op:Op}{r s:R} (e:H a=some (.tup [.str op.word, .ref b, .ref c])) (h1:IsR H b r) (h2:IsR H c s):IsR H a (.bin op r s)
 | pick {a b c d:Addr}{r s t:R} (e:H a=some (.tup [.str "pick", .ref b, .ref c, .ref d])) (h1:IsR H b r) (h2:IsR H c s) (h3:IsR H d t):IsR H a (.pick r s t)
 | cho {a b c:Addr}{r:R}{ns:List Str} (e:H a=some (.tup [.str "choose", .ref b, .ref c])) (h1:IsR H b r) (h2:H c=some (.tup (ns.map V.str))):IsR H a (.cho r ns)
theorem IsR.tups {H H':Hp} (t:jz H H') {a:Addr}{r:R} (h:IsR H a r):IsR H' a r:=by
 induction h with
 | num e=>exact .num (t _ _ e)
 | rd e=>exact .rd (t _ _ e)
 | bin e _ _ i1 i2=>exact .bin (t _ _ e) i1 i2
 | pick e _ _ _ i1 i2 i3=>exact .pick (t _ _ e) i1 i2 i3
 | cho e _ h2 i1=>exact .cho (t _ _ e) i1 (t _ _ h2)
theorem IsR.same {H H':Hp} (t:aM H H') {a:Addr}{r:R} (h:IsR H a r):IsR H' a r:=h.tups (aM.tups t)
theorem R.An (r:R):1<=r.depth:=by cases r<;>simp[R.depth]
def Tt (K:PySem.W.Frag):Sp:=fun vs H Q _=>∃(a:Addr) (ns:List Int),vs=[.ref a]/\SqL K H a (ns.map V.int)/\ns.length<=63/\∀H',Q (.bl true) H'
structure FnT (K:PySem.W.Frag) (mg:Str->Option Value) (x:Str) (st:Stmt) (ps:List Str) (f:Addr) (fd:FuncData):Prop where
 F:Fun K x x st f fd
 b:Binds K fd ps []
 m:mg x=some (.ref f)
structure Blt (mg:Str->Option Value):Prop where
 ym:mg "len"=none
 Jj:mg "range"=none
 aaQ:mg "str"=none
 Ms:mg "int"=none
 Nj:mg "list"=none
 Nk:mg "tuple"=none
 mY:mg "isinstance"=none
 acC:mg "bool"=none
 Rw:mg "dict"=none
 amK:mg "sum"=none
 afA:mg "all"=none
 amL:mg "any"=none
 aaR:mg "max"=none
 amM:mg "min"=none
 yZ:mg "sorted"=none
 amN:mg "set"=none
 Pa:mg "enumerate"=none
 afB:mg "zip"=none
 acD:mg "reversed"=none
 amO:mg "abs"=none
end RB
namespace RB
open PySem L2 PySem.Spec PyProof.Rows
theorem afC {xs:List Int}{i:Int} (h0:0<=i) (h1:i<((xs.map V.int).length:Int)):∃v j,atI (xs.map V.int) i=some (.int v)/\ixN (xs.map V.int).length i=some j/\j<xs.length/\∀u:Int,(xs.map V.int).set j (.int u)=(xs.set j u).map V.int:=by
 have hl:(xs.map V.int).length=xs.length:=List.length_map _
 obtain⟨j,rfl⟩:=Int.eq_ofNat_of_zero_le h0
 have hj:j<xs.length:=by omega
 refine⟨xs[j],j,iT (by rw[List.getElem?_map,List.getElem?_eq_getElem hj];rfl), ?_,hj,fun u=> ?_⟩
 ·unfold ixN
  rw[if_pos h0,if_pos (by omega)]
  simp
 ·rw[List.map_set]
end RB
namespace RB
open PySem L2 PySem.Spec PyProof.Rows
theorem But.upd {S:List Addr}{H H':Hp}{p:Addr} (b:But S H H') (o:HO) (h:H p=none):But S H (upd H' p o):=fun c u n q=>by
 rw[au (aL q h)];exact b c u n q
instance (x:Str):Decidable (lK x):=by unfold lK Tr;exact inferInstance
theorem Pb:(Str.ofString "abcdefghijklmnopqrstuvwxyz").cps.toList=(List.range 26).map (· +97):=by decide +kernel
theorem afD {c A B:Prop} [Decidable c] (hc:c) (h:A):if decide c=true then A else B:=by rw[if_pos (decide_eq_true hc)];exact h
theorem afE {c A B:Prop} [Decidable c] (hc:¬c) (h:B):if decide c=true then A else B:=by rw[if_neg (by simpa using hc)];exact h
theorem afF {c A B:Prop} [Decidable c] (hc:¬c) (h:A):if(!decide c)=true then A else B:=by rw[if_pos (by simpa using hc)];exact h
end RB
namespace RB
open PySem L2 PySem.Spec PyProof.Rows
theorem never {P:Program}{w:World}{K:PySem.W.Frag}{mg:Str->Option Value}{base:Heap}{k:Nat}{f:Addr}{fd:FuncData}{ps:List Str}{sp:Sp} (no:∀vs H Q E,¬sp vs H Q E):bf P w K mg base CX0 k f fd ps sp:=
 ⟨fun vs H Q E h=>absurd h (no vs H Q E),fun A outer s H args us vs Q E _ _ _ _ h=>absurd h (no vs H Q E)⟩
end RB
namespace RB
open PySem L2 PySem.Spec PyProof.Rows
end RB
namespace RB
open PySem L2 PySem.Spec PyProof.Rows
theorem shaped_ints (ns:List Int):SeqAt.shaped (.list (ns.map PyData.int))=true:=by
 simp[SeqAt.shaped,PyData.canLay0,PyData.canLayAll0,PyData.depth,PyData.depthAll,PySem.W.ke_canLayAll0,PySem.W.ke_depthAll]
end RB
namespace RB
open PySem L2 PySem.Spec PyProof.Rows
end RB
namespace RB
open PySem L2 PySem.Spec PyProof.Rows
theorem cG {H H':Hp}{p:Addr} (o:HO) (h:H p=none) (s:aM H H'):aM H (upd H' p o):=fun b u q=>by
 rw[au (aL q h)];exact s b u q
end RB
namespace RB
open PySem L2 PySem.Spec PyProof.Rows
end RB
set_option maxRecDepth 100000
namespace RB
open PySem L2 PySem.Spec PyProof.Rows
inductive Th where
 | non | bl (b:Bool) | int (i:Int) | str (x:Str) | tup (xs:List Th) | oth (T:String)
mutual
inductive nQ (K:PySem.W.Frag) (H:Hp):V->Th->Prop where
 | non:nQ K H .non .non
 | bl (b:Bool):nQ K H (.bl b) (.bl b)
 | int (i:Int):nQ K H (.int i) (.int i)
 | str (x:Str):nQ K H (.str x) (.str x)
 | tup {a:Addr}{vs:List V}{ts:List Th} (e:H a=some (.tup vs)) (h:p7 K H vs ts):nQ K H (.ref a) (.tup ts)
 | oth {a:Addr}{T:String} (h:uN K H (.ref a) (.type T)) (hT:T="list"\/T="dict") (keep:∀H',aM H H'->uN K H' (.ref a) (.type T)):nQ K H (.ref a) (.oth T)
inductive p7 (K:PySem.W.Frag) (H:Hp):List V->List Th->Prop where
 | nil:p7 K H [] []
 | cons {v:V}{t:Th}{vs:List V}{ts:List Th} (h:nQ K H v t) (r:p7 K H vs ts):p7 K H (v::vs) (t::ts)
end
mutual
theorem nQ.same {K:PySem.W.Frag}{H H':Hp} (s:aM H H'):∀{v:V}{t:Th},nQ K H v t->nQ K H' v t
 | _,_, .non=> .non
 | _,_, .bl b=> .bl b
 | _,_, .int i=> .int i
 | _,_, .str x=> .str x
 | _,_, .tup e h=> .tup (s _ _ e) (p7.same s h)
 | _,_, .oth h hT k=> .oth (k _ s) hT fun H2 s2=>k _ (s.trans s2)
theorem p7.same {K:PySem.W.Frag}{H H':Hp} (s:aM H H'):∀{vs:List V}{ts:List Th},p7 K H vs ts->p7 K H' vs ts
 | _,_, .nil=> .nil
 | _,_, .cons h r=> .cons (nQ.same s h) (p7.same s r)
end
theorem p7.length {K:PySem.W.Frag}{H:Hp}:∀{vs:List V}{ts:List Th},p7 K H vs ts->vs.length=ts.length
 | _,_, .nil=>rfl
 | _,_, .cons _ r=>congrArg (· +1) (p7.length r)
theorem p7.get {K:PySem.W.Frag}{H:Hp}:∀{vs:List V}{ts:List Th}{i:Nat}{v:V},p7 K H vs ts->vs[i]? =some v->∃t,ts[i]? =some t/\nQ K H v t
 | _,_,_,_, .nil,e=>by simp at e
 | _,_,0,_, .cons h _,e=>by simp at e;subst e;exact⟨_,rfl,h⟩
 | _,_,i+1,v, .cons _ r,e=>by
   obtain⟨t,h1,h2⟩:=p7.get (i:=i) (v:=v) r (by simpa using e)
   exact⟨t,by simpa using h1,h2⟩
def Pg:Th->String
 | .non=>"NoneType" | .bl _=>"bool" | .int _=>"int" | .str _=>"str" | .tup _=>"tuple" | .oth T=>T
theorem nQ.ty {K:PySem.W.Frag}{H:Hp}{v:V}{t:Th} (h:nQ K H v t):uN K H v (.type (Pg t)):=by
 cases h with
 | non=>exact .non
 | bl b=>exact .bl b
 | int i=>exact .int i
 | str x=>exact .str x
 | tup e _=>exact .tup e
 | oth h _ _=>exact h
def tys:List String:=["NoneType","bool","int","str","tuple","list","dict"]
def Wn (t c:String):Bool:=t==c||(t=="bool"&&c=="int")
def Kinds (K:PySem.W.Frag):Prop:=∀t∈tys,∀c∈tys,PySem.W.kitOne K (.type t) (.type c)=some (Wn t c)
theorem Wo {K:PySem.W.Frag} (h:(tys.all fun t=>tys.all fun c=>PySem.W.kitOne K (.type t) (.type c)==some (Wn t c))=true):Kinds K:=fun t ht c hc=>by
 have h1:=List.all_eq_true.mp h t ht
 have h2:=List.all_eq_true.mp h1 c hc
 exact eq_of_beq h2
theorem acE {K:PySem.W.Frag}{H:Hp}{v:V}{t:Th} (h:nQ K H v t):Pg t∈tys:=by
 cases h with
 | oth _ hT _=>rcases hT with rfl | rfl<;>simp[Pg,tys]
 | _=>simp[Pg,tys]
theorem nQ.isi {K:PySem.W.Frag}{H:Hp}{v:V}{t:Th} (h:nQ K H v t) (k:Kinds K) {c:String} (hc:c∈tys):PySem.W.kitOne K (.type (Pg t)) (.type c)=some (Wn (Pg t) c):=k _ (acE h) _ hc
def acF:Th->Bool
 | .int _=>true
 | _=>false
def Nm (K:PySem.W.Frag):Sp:=fun vs H Q _=>∃v t,vs=[v]/\nQ K H v t/\Q (.bl (acF t)) H
theorem afG {b:Bool}{A B:Prop} (h:b=true) (hA:A):if b=true then A else B:=by rw[if_pos h];exact hA
theorem afH {b:Bool}{A B:Prop} (h:b=false) (hB:B):if b=true then A else B:=by rw[if_neg (by rw[h];exact Bool.false_ne_true)];exact hB
structure Wr (p:Prop):Prop where
 h:p
end RB
set_option maxRecDepth 100000
namespace RB
open PySem L2 PySem.Spec PyProof.Rows
def R.dz:R->Th
 | .num n=> .tup [.str "number", .int n]
 | .rd x=> .tup [.str "read", .str x]
 | .bin op a b=> .tup [.str op.word,a.dz,b.dz]
 | .pick a b c=> .tup [.str "pick",a.dz,b.dz,c.dz]
 | .cho a ns=> .tup [.str "choose",a.dz, .tup (ns.map Th.str)]
def R.Ph:R->Prop
 | .num _=>True
 | .rd x=>x.length<=8/\∀c∈x.cps.toList,c<128
 | .bin _ a b=>a.Ph/\b.Ph
 | .pick a b c=>a.Ph/\b.Ph/\c.Ph
 | .cho a ns=>a.Ph/\1<=ns.length/\ns.length<=9/\∀x∈ns,lK x
theorem JL {K:PySem.W.Frag}{H:Hp}:∀ns:List Str,p7 K H (ns.map V.str) (ns.map Th.str)
 |[]=> .nil
 | x::r=> .cons (.str x) (JL r)
theorem IsR.JM {K:PySem.W.Frag}{H:Hp}{a:Addr}{r:R} (h:IsR H a r):nQ K H (.ref a) r.dz:=by
 induction h with
 | num e=>exact .tup e (.cons (.str _) (.cons (.int _) .nil))
 | rd e=>exact .tup e (.cons (.str _) (.cons (.str _) .nil))
 | bin e _ _ i1 i2=>exact .tup e (.cons (.str _) (.cons i1 (.cons i2 .nil)))
 | pick e _ _ _ i1 i2 i3=>exact .tup e (.cons (.str _) (.cons i1 (.cons i2 (.cons i3 .nil))))
 | cho e _ h2 i1=>exact .tup e (.cons (.str _) (.cons i1 (.cons (.tup h2 (JL _)) .nil)))
theorem Cg:∀l:List Str,PyData.depthAll (l.map PyData.str)<=1
 |[]=>by simp[PyData.depthAll]
 | c::r=>by
   have:=Cg r
   simp[PyData.depthAll,PyData.depth]
   omega
end RB
set_option maxRecDepth 100000
namespace L2
open PySem PySem.Spec PyProof.Rows
theorem Fun.okQ {P:Program}{w:World}{K:PySem.W.Frag}{mg:Str->Option Value}{base:Heap}{x qual:Str}{st:Stmt}{f:Addr}{fd:FuncData}{N ps:List Str}{k:Nat}{sp:Sp} (F:Fun K x qual st f fd) (S:bH N ps (aa st)) (len:∀vs H Q E,sp vs H Q E->vs.length=ps.length)
 (hbody:∀(cdv:Value) (A:Around) (outer:List Env) (s:Shared) (H:Hp) (vs:List V) (Q:VK) (E:XK),o8 k (A.deeper (envOfC qual (aa st) s.heap.objs.size f cdv))->sp vs H Q E->
   ∃t,QSs (Rf CX0 P w K mg base N qual (aa st) f cdv A outer s H E).nox (bh st) t/\t {nx:=fun _ H'=>Q .non H',rt:=Q} (start N vs) H):bf P w K mg base CX0 (k+1) f fd ps sp:=
 F.ok S len fun cdv A outer s H vs Q E hr hsp=>let ⟨t,a,b⟩:=hbody cdv A outer s H vs Q E hr hsp;⟨t,a.h,b⟩
end L2
namespace RB
open PySem L2 PySem.Spec PyProof.Rows
theorem acG (value:Const) (k:Nat) (p:Pos) (es:List Expr) (env:Env):starEach (.Constant value k p::es) env=(false,eval (.Constant value k p) env)::starEach es env:=rfl
theorem dZ {X:Cx}{value:Const}{k:Nat}{p:Pos}{es:List Expr}{te:TE}{t:TA} (ha:QE X (.Constant value k p) te) (hr:QA X es t):QA X (.Constant value k p::es) (rJ te t):=lV ha hr (acG value k p _ _)
theorem acH (x:Str) (p:Pos) (es:List Expr) (env:Env):starEach (.Name x p::es) env=(false,eval (.Name x p) env)::starEach es env:=rfl
theorem aH {X:Cx}{x:Str}{p:Pos}{es:List Expr}{te:TE}{t:TA} (ha:QE X (.Name x p) te) (hr:QA X es t):QA X (.Name x p::es) (rJ te t):=lV ha hr (acH x p _ _)
theorem acI (a:Expr) (op:Operator) (b:Expr) (p:Pos) (es:List Expr) (env:Env):starEach (.BinOp a op b p::es) env=(false,eval (.BinOp a op b p) env)::starEach es env:=rfl
theorem Eh {X:Cx}{a:Expr}{op:Operator}{b:Expr}{p:Pos}{es:List Expr}{te:TE}{t:TA} (ha:QE X (.BinOp a op b p) te) (hr:QA X es t):QA X (.BinOp a op b p::es) (rJ te t):=lV ha hr (acI a op b p _ _)
theorem acJ (op:UnaryOp) (a:Expr) (p:Pos) (es:List Expr) (env:Env):starEach (.UnaryOp op a p::es) env=(false,eval (.UnaryOp op a p) env)::starEach es env:=rfl
theorem ajm {X:Cx}{op:UnaryOp}{a:Expr}{p:Pos}{es:List Expr}{te:TE}{t:TA} (ha:QE X (.UnaryOp op a p) te) (hr:QA X es t):QA X (.UnaryOp op a p::es) (rJ te t):=lV ha hr (acJ op a p _ _)
theorem acK (a:Expr) (ops:List CmpOp) (cs:List Expr) (p:Pos) (es:List Expr) (env:Env):starEach (.Compare a ops cs p::es) env=(false,eval (.Compare a ops cs p) env)::starEach es env:=rfl
theorem Y9 {X:Cx}{a:Expr}{ops:List CmpOp}{cs:List Expr}{p:Pos}{es:List Expr}{te:TE}{t:TA} (ha:QE X (.Compare a ops cs p) te) (hr:QA X es t):QA X (.Compare a ops cs p::es) (rJ te t):=lV ha hr (acK a ops cs p _ _)
theorem acL (xs:List Expr) (k:Nat) (p:Pos) (es:List Expr) (env:Env):starEach (.Tuple xs k p::es) env=(false,eval (.Tuple xs k p) env)::starEach es env:=rfl
theorem Lb {X:Cx}{xs:List Expr}{k:Nat}{p:Pos}{es:List Expr}{te:TE}{t:TA} (ha:QE X (.Tuple xs k p) te) (hr:QA X es t):QA X (.Tuple xs k p::es) (rJ te t):=lV ha hr (acL xs k p _ _)
theorem acM (xs:List Expr) (p:Pos) (es:List Expr) (env:Env):starEach (.List xs p::es) env=(false,eval (.List xs p) env)::starEach es env:=rfl
theorem acN {X:Cx}{xs:List Expr}{p:Pos}{es:List Expr}{te:TE}{t:TA} (ha:QE X (.List xs p) te) (hr:QA X es t):QA X (.List xs p::es) (rJ te t):=lV ha hr (acM xs p _ _)
theorem acO (ks:List (Option Expr)) (xs:List Expr) (p:Pos) (es:List Expr) (env:Env):starEach (.Dict ks xs p::es) env=(false,eval (.Dict ks xs p) env)::starEach es env:=rfl
theorem afI {X:Cx}{ks:List (Option Expr)}{xs:List Expr}{p:Pos}{es:List Expr}{te:TE}{t:TA} (ha:QE X (.Dict ks xs p) te) (hr:QA X es t):QA X (.Dict ks xs p::es) (rJ te t):=lV ha hr (acO ks xs p _ _)
theorem acP (a b:Expr) (p:Pos) (es:List Expr) (env:Env):starEach (.Subscript a b p::es) env=(false,eval (.Subscript a b p) env)::starEach es env:=rfl
theorem jc {X:Cx}{a b:Expr}{p:Pos}{es:List Expr}{te:TE}{t:TA} (ha:QE X (.Subscript a b p) te) (hr:QA X es t):QA X (.Subscript a b p::es) (rJ te t):=lV ha hr (acP a b p _ _)
theorem acQ (f:Expr) (xs:List Expr) (ks:List Keyword) (p:Pos) (es:List Expr) (env:Env):starEach (.Call f xs ks p::es) env=(false,eval (.Call f xs ks p) env)::starEach es env:=rfl
theorem uQ {X:Cx}{f:Expr}{xs:List Expr}{ks:List Keyword}{p:Pos}{es:List Expr}{te:TE}{t:TA} (ha:QE X (.Call f xs ks p) te) (hr:QA X es t):QA X (.Call f xs ks p::es) (rJ te t):=lV ha hr (acQ f xs ks p _ _)
theorem acR (a b c:Expr) (p:Pos) (es:List Expr) (env:Env):starEach (.IfExp a b c p::es) env=(false,eval (.IfExp a b c p) env)::starEach es env:=rfl
theorem ajn {X:Cx}{a b c:Expr}{p:Pos}{es:List Expr}{te:TE}{t:TA} (ha:QE X (.IfExp a b c p) te) (hr:QA X es t):QA X (.IfExp a b c p::es) (rJ te t):=lV ha hr (acR a b c p _ _)
theorem acS (op:BoolOp) (xs:List Expr) (p:Pos) (es:List Expr) (env:Env):starEach (.BoolOp op xs p::es) env=(false,eval (.BoolOp op xs p) env)::starEach es env:=rfl
theorem ajo {X:Cx}{op:BoolOp}{xs:List Expr}{p:Pos}{es:List Expr}{te:TE}{t:TA} (ha:QE X (.BoolOp op xs p) te) (hr:QA X es t):QA X (.BoolOp op xs p::es) (rJ te t):=lV ha hr (acS op xs p _ _)
theorem acT (e:Expr) (gs:List Comprehension) (sc:Scope) (p:Pos) (es:List Expr) (env:Env):starEach (.ListComp e gs sc p::es) env=(false,eval (.ListComp e gs sc p) env)::starEach es env:=rfl
theorem afJ {X:Cx}{e:Expr}{gs:List Comprehension}{sc:Scope}{p:Pos}{es:List Expr}{te:TE}{t:TA} (ha:QE X (.ListComp e gs sc p) te) (hr:QA X es t):QA X (.ListComp e gs sc p::es) (rJ te t):=lV ha hr (acT e gs sc p _ _)
theorem acU (e:Expr) (x:Str) (p:Pos) (es:List Expr) (env:Env):starEach (.Attribute e x p::es) env=(false,eval (.Attribute e x p) env)::starEach es env:=rfl
theorem U6 {X:Cx}{e:Expr}{x:Str}{p:Pos}{es:List Expr}{te:TE}{t:TA} (ha:QE X (.Attribute e x p) te) (hr:QA X es t):QA X (.Attribute e x p::es) (rJ te t):=lV ha hr (acU e x p _ _)
end RB
set_option maxRecDepth 100000
namespace L2
open PySem PySem.Spec PyProof.Rows
section
variable {X:Cx}{pins:List (Addr×Obj)}{σ:L2.St}{H:Hp}{s:Shared}
end
section
variable {X:Cx}{o e value:Expr}{es:List Expr}{f m:Str}{pos pos' apos:Pos}{ta tv:TE}{t:TA}{C fa:Addr}{CX:CXT}{k:Nat}{fd:FuncData}{ps:List Str}{sp:Sp}{dvs:List V}{ds:List Value}{E:XK}
theorem bW (he:QE X e ta) (hb:attributeBase e f X.env (eval e X.env)=eval e X.env:=by rfl):QE X (.Attribute e f pos) (ab7 X.K ta f):=⟨ab8 he.h hb⟩
theorem nC (ha:QE X o ta) (hv:QE X value tv) (hs:swapsWith value (some (.Attribute o f pos')) pos.line X.env=pure false:=by rfl):QS X (.Assign [.Attribute o f pos'] value pos) (afj X.K ta tv f):=⟨ab9 ha.h hv.h hs⟩
theorem rY {pl:Sem Bool} (he:QE X o ta) (c:Cls X.K C) (hm:Meth X.K C m fa) (F:bf X.prog X.w X.K X.mg X.base CX k fa fd ps sp) (hr:o8 k X.A) (hb:Binds X.K fd ps ds) (hd:Vals dvs ds) (hx:Passes CX X E) (ha:QA X (e::es) t)
 (hst:starEach (e::es) X.env=(false,eval e X.env)::starEach es X.env:=by rfl) (hpl:(backTo pos (starEach es X.env)).any (·.1)=false:=by rfl)
 (ht:eval (.Call (.Attribute o m apos) (e::es) [] pos) X.env=(do
   let ov <-eval o X.env
   standAt apos.atName
   let (f,first) <-holding [ov] (getMethod ov m pl)
   callWith pos f first (backTo pos (starEach (e::es) X.env)) (backToKw pos (keywordEach [] X.env))):=by rfl):
 QE X (.Call (.Attribute o m apos) (e::es) [] pos) (SN C m sp dvs E ta t):=⟨Yw he.h c hm F hr hb hd hx ha.h hst hpl ht⟩
theorem za {pl:Sem Bool} (he:QE X o ta) (c:Cls X.K C) (hm:Meth X.K C m fa) (F:bf X.prog X.w X.K X.mg X.base CX k fa fd ps sp) (hr:o8 k X.A) (hb:Binds X.K fd ps ds) (hd:Vals dvs ds) (hx:Passes CX X E)
 (ht:eval (.Call (.Attribute o m apos) [] [] pos) X.env=(do
   let ov <-eval o X.env
   standAt apos.atName
   let (f,first) <-holding [ov] (getMethod ov m pl)
   callWith pos f first (backTo pos (starEach [] X.env)) (backToKw pos (keywordEach [] X.env))):=by rfl):
 QE X (.Call (.Attribute o m apos) [] [] pos) (SN C m sp dvs E ta Yt):=⟨VL he.h c hm F hr hb hd hx ht⟩
theorem Pj {st:Stmt}:QS X st Vu:=⟨Vv⟩
theorem Jk {x:Str}{p:Pos} (M:Mk X.K C fa) (F:bf X.prog X.w X.K X.mg X.base CX k fa fd ps sp) (hr:o8 (k+1) X.A) (hg:Gl X x) (hm:X.mg x=some (.ref C)) (hb:Binds X.K fd ps ds) (hd:Vals dvs ds) (hx:Passes CX X E)
 (ha:QA X (e::es) t) (hdb:(x==("__debug__":Str))=false:=by decide) (he:starEach (e::es) X.env=(false,eval e X.env)::starEach es X.env:=by rfl) (hpl:(backTo pos (starEach es X.env)).any (·.1)=false:=by rfl):
 QE X (.Call (.Name x p) (e::es) [] pos) (aaJ C sp dvs E t):=⟨Yx M F hr hg hm hb hd hx ha.h hdb he hpl⟩
end
end L2
set_option maxRecDepth 100000
namespace L2
open PySem PySem.Spec PyProof.Rows
section
variable {X:Cx}{pins:List (Addr×Obj)}{σ:St}{H H':Hp}{s s':Shared}{a:Addr}{cls:Value}
end
section
variable {P:Program}{w:World}{K:PySem.W.Frag}{mg:Str->Option Value}{base:Heap}{N:List Str}{qual:Str}{scope:Scope}{f:Addr}{cd:Value}{A:Around}{outer:List Env}{s₀:Shared}{H₀:Hp}{E:XK}
end
end L2
set_option maxRecDepth 100000
namespace L2
open PySem PySem.Spec PyProof.Rows
section
variable {X:Cx}{pins:List (Addr×Obj)}{σ:St}{H H':Hp}{s s':Shared}{a:Addr}{cls:Value}
theorem Inv.track {o:HO} (I:Inv X pins σ H s) (hn:H a=none) (h0:X.s₀.heap.get? a=none) (hL:a≠X.env.locals) (hC:∀x c,X.env.cells.lookup x=some c->c≠a) (hp:∀p∈X.pn++pins,p.1≠a)
 (new:fX X.prog X.w (upd H a o) s.heap a o):Inv X pins σ (upd H a o) s:=by
 refine⟨I.ok,I.os,I.bare,⟨fun b u q n hb hx=>I.base.keep b u q n hb hx,fun b u q n hb hx=>I.base.slot b u q n hb hx,fun b u q n hx=> ?_,I.base.there,fun b xs q=> ?_,fun b u v q=> ?_,fun b ps q=> ?_⟩,I.loc,I.cell, ?_,fun x c e=> ?_,fun p q=> ?_,fun b u q=> ?_,I.len⟩
 ·rw[au (fun z=>by rw[z,h0] at q;cases q)];exact I.base.free b u q n hx
 ·have e:=I.base.tups b xs q
  rw[au (aL e hn)];exact e
 ·have e:=I.base.frzs b u v q
  rw[au (aL e hn)];exact e
 ·obtain⟨m,e⟩:=I.base.tbls b ps q
  exact⟨m,by rw[au (aL e hn)];exact e⟩
 ·rw[au (Ne.symm hL)];exact I.free
 ·rw[au (hC x c e)];exact I.vI x c e
 ·obtain⟨e,n,r⟩:=I.pin p q
  exact⟨e,by rw[au (hp p q)];exact n,r⟩
 ·by_cases hb:b=a
  ·subst hb;rw[ao] at q;cases q;exact new
  ·rw[au hb] at q
   exact(I.hok b u q).stay (fun c v _ r=>r) (fun c r=>by rw[au (aL r hn)];exact r) fun c xs r=>by rw[au (aL r hn)];exact r
end
section
variable {X:Cx}{x n:Str}{i:Nat}{C:Addr}{np hpos pos:Pos}{body suite:List Stmt}{b₀:Stmt}{tb:(St->XK)->TS}{th:TS}
end
end L2
set_option maxRecDepth 100000
namespace L2
open PySem PySem.Spec PyProof.Rows PySem.W
section
variable {prog:Program}{w:World}{A:Around}{E:Value->Shared->Prop}{h:Heap}{g:Array GenState}{d:Drawn}{t:Nat}{os:OsState}{K:PySem.W.Frag}{a C:Addr}{o:Obj}
end
end L2
set_option maxRecDepth 100000
namespace L2
open PySem PySem.Spec PyProof.Rows
section
variable {X:Cx}{pins:List (Addr×Obj)}{σ:St}{H H':Hp}{s s':Shared}
end
section
variable {P:Program}{w:World}{K:PySem.W.Frag}{mg:Str->Option Value}{base:Heap}{N:List Str}{qual:Str}{scope:Scope}{f:Addr}{cd:Value}{A:Around}{outer:List Env}{s₀:Shared}{H₀:Hp}{E:XK}
end
section
variable {X:Cx}{CX:CXT}{k:Nat}{f:Addr}{fd:FuncData}{ps:List Str}{sp:Sp}{dvs:List V}{ds:List Value}{E:St->XK}{x:Str}{p pos:Pos}{e:Expr}{es:List Expr}{t:TA}
end
end L2
namespace RB
open PySem L2 PySem.Spec PyProof.Rows
end RB
set_option maxRecDepth 100000
namespace L2
open PySem PySem.Spec PyProof.Rows
section
variable {X:Cx}{x:Str}{C:Addr}{np hpos pos:Pos}{body suite:List Stmt}{b₀:Stmt}{tb:(St->XK)->TS}{th:TS}
end
end L2
set_option maxRecDepth 100000
namespace L2
open PySem PySem.Spec PyProof.Rows
section
variable {X:Cx}{pins:List (Addr×Obj)}{σ:List (Option V)}{H:Hp}{s:Shared}{h':Heap}
theorem Inv.Jl {t':Nat}{ch:List Addr} (I:Inv X pins σ H s) (hf:∀b∈ch,Gh X pins H b) (k:∀b o,b∉ch->s.heap.get? b=some o->h'.get? b=some o):Inv X pins σ H {s with heap:=h',toks:=t'}:=by
 have nit:∀b u,H b=some u->b∉ch:=fun b u e z=>by rw[(hf b z).1] at e;cases e
 refine I.step (g':=s.gens) (d':=s.drawn) (ch:=ch) (fun b hb=> ?_) (fun b o _ _ hc e _=>k b o hc e) (fun b o _ _ hc e _=>⟨o.slots,k b o hc e⟩) (fun _ _ _ _ n=>n)
  (fun b o hc e=>⟨o,k b o hc e⟩) (fun _ _ e=>e) (fun _ _ _ e=>e) (fun b ps e=>⟨#[],by rw[e];simp⟩) (fun m hm=> ?_) (fun b u e=> ?_) I.bare
 ·obtain⟨_,f1,_,f3,f4,f5⟩:=hf b hb
  exact⟨f3,f1,f4,f5⟩
 ·obtain⟨o,es,ep,ho,r⟩:=hm
  exact⟨o,es,ep,k _ o (fun z=>(hf _ z).2.1 rfl) ho,r⟩
 ·refine(I.hok b u e).stay (fun c v hc q=>k c v ?_ q) (fun _ q=>q) fun _ _ q=>q
  rcases hc with z | z
  ·rw[z];exact nit b u e
  ·exact nit c _ z
end
end L2
set_option maxRecDepth 100000
namespace RB
open PySem L2 PySem.Spec PyProof.Rows
section
variable {prog:Program}{w:World}{A:Around}{R:Result->Shared->Prop}{I:Addr}{fp wr:List Addr}{G:Array GenState->Array GenState->Prop}{n:Nat}{P:Nat->Value->Prop}{St:Nat->Shared->Prop}
end
end RB
set_option maxRecDepth 100000
namespace RB
open PySem L2 PySem.Spec PyProof.Rows
section
variable {prog:Program}{w:World}{A:Around}{E:Value->Shared->Prop}{s:Shared}
end
end RB
set_option maxRecDepth 100000
namespace L2
open PySem PySem.Spec PyProof.Rows RB
section
variable {X:Cx}
end
end L2
set_option maxRecDepth 100000
namespace RB
open PySem L2 PySem.Spec PyProof.Rows
structure iw (K:PySem.W.Frag) (C:Addr) (x qual:Str) (st:Stmt) (ps:List Str) (f:Addr) (fd:FuncData):Prop where
 F:Fun K x qual st f fd
 b:Binds K fd ps []
 m:Meth K C x f
end RB
set_option maxRecDepth 100000
namespace RB
open PySem L2 PySem.Spec PyProof.Rows
theorem afK (x:Str):x.cps.toList.length=x.length:=by simp[Str.length]
end RB
set_option maxRecDepth 100000
namespace RB
open PySem L2 PySem.Spec PyProof.Rows
end RB
set_option maxRecDepth 100000
namespace RB
open PySem L2 PySem.Spec PyProof.Rows
end RB
set_option maxRecDepth 100000
namespace RB
open PySem L2 PySem.Spec PyProof.Rows
def Wq (K:PySem.W.Frag):R2:=fun x y H Q=>∃a b xs,x= .ref a/\y= .ref b/\SqL K H a xs/\SqL K H b []/\Q (.bl xs.isEmpty) H
theorem Ws {X:Cx} (hu:X.A.units+64<cLine):OpR X (compareOp .Eq) (Wq X.K):=by
 intro pins s σ H x y v u Q I rx ry h
 obtain⟨a,b,xs,rfl,rfl,ha,hb,q⟩:=h
 cases xs with
 | nil=>exact Rp hu pins s σ H _ _ v u Q I rx ry ⟨.list [], .list [], .lst ha .nil, .lst hb .nil,shaped_ints [],shaped_ints [],q⟩
 | cons x r=>
   cases rx
   cases ry
   obtain⟨its,rv,pl,_⟩:=I.list ha
   obtain⟨its',rv',pl',_⟩:=I.list hb
   cases rv
   cases rv'
   exact PySem.SeqAt.eq_list_lengthsAt pl.isList pl'.isList rfl (by omega) ⟨.bl false,H,I,rfl,q⟩
theorem Gu {X:Cx} (hu:X.A.units+64<cLine):QOp X (compareOp .Eq) (Wq X.K):=⟨Ws hu⟩
theorem nU {X:Cx}{pos:Pos}:QE X (.Dict [] [] pos) V3:=⟨V4⟩
end RB
set_option maxRecDepth 100000
namespace RB
open PySem L2 PySem.Spec PyProof.Rows
end RB
set_option maxRecDepth 100000
namespace RB
open PySem L2 PySem.Spec PyProof.Rows
end RB
set_option maxRecDepth 100000
namespace RB
open PySem L2 PySem.Spec PyProof.Rows
def R.dat:R->PyData
 | .num n=> .tuple [.str "number", .int n]
 | .rd x=> .tuple [.str "read", .str x]
 | .bin op a b=> .tuple [.str op.word,a.dat,b.dat]
 | .pick a b c=> .tuple [.str "pick",a.dat,b.dat,c.dat]
 | .cho a ns=> .tuple [.str "choose",a.dat, .tuple (ns.map PyData.str)]
theorem IsR.dat {K:PySem.W.Frag}{H:Hp}{a:Addr}{r:R} (h:IsR H a r):yx K H (.ref a) r.dat:=by
 induction h with
 | num e=>exact .tup (SqT.of e) (.cons (.str _) (.cons (.int _) .nil))
 | rd e=>exact .tup (SqT.of e) (.cons (.str _) (.cons (.str _) .nil))
 | bin e _ _ i1 i2=>exact .tup (SqT.of e) (.cons (.str _) (.cons i1 (.cons i2 .nil)))
 | pick e _ _ _ i1 i2 i3=>exact .tup (SqT.of e) (.cons (.str _) (.cons i1 (.cons i2 (.cons i3 .nil))))
 | cho e _ h2 i1=>exact .tup (SqT.of e) (.cons (.str _) (.cons i1 (.cons (.tup (SqT.of h2) (mj _)) .nil)))
theorem U7 {x:Str} (h:∀c∈x.cps.toList,c<128):PyData.strOk x=true:=by
 show x.cps.all (· <0x110000)=true
 rw[<-Array.all_toList,List.all_eq_true]
 intro c hc
 exact decide_eq_true (by have:=h c hc;omega)
theorem Ci {x:Str} (h:lK x):PyData.strOk x=true:=U7 fun c hc=>by have:=h.2.2 c hc;unfold Tr at this;omega
theorem Rx (op:Op):PyData.strOk op.word=true:=by cases op<;>decide +kernel
theorem Gv:∀ns:List Str,(∀x∈ns,lK x)->PyData.canLayAll0 (ns.map PyData.str)=true
 |[],_=>rfl
 | x::r,h=>by
   show(PyData.canLay0 (.str x)&&PyData.canLayAll0 (r.map PyData.str))=true
   rw[Gv r fun y hy=>h y (List.mem_cons_of_mem _ hy)]
   show(PyData.strOk x&&true)=true
   rw[Ci (h x List.mem_cons_self)];rfl
theorem R.lay:∀r:R,r.Good->r.dat.canLay0=true
 | .num n,_=>by show(PyData.strOk "number"&&(true&&true))=true;decide +kernel
 | .rd x,h=>by
   show(PyData.strOk "read"&&(PyData.strOk x&&true))=true
   rw[Ci h];decide +kernel
 | .bin op a b,h=>by
   show(PyData.strOk op.word&&(a.dat.canLay0&&(b.dat.canLay0&&true)))=true
   rw[Rx,R.lay a h.1,R.lay b h.2];rfl
 | .pick a b c,h=>by
   show(PyData.strOk "pick"&&(a.dat.canLay0&&(b.dat.canLay0&&(c.dat.canLay0&&true))))=true
   rw[R.lay a h.1,R.lay b h.2.1,R.lay c h.2.2];decide +kernel
 | .cho a ns,h=>by
   show(PyData.strOk "choose"&&(a.dat.canLay0&&(PyData.canLayAll0 (ns.map PyData.str)&&true)))=true
   rw[R.lay a h.1,Gv ns h.2.2.2];decide +kernel
theorem R.oY:∀r:R,r.dat.depth<=r.depth+2
 | .num n=>by simp[R.dat,R.depth,PyData.depth,PyData.depthAll]
 | .rd x=>by simp[R.dat,R.depth,PyData.depth,PyData.depthAll]
 | .bin op a b=>by
   have:=R.oY a
   have:=R.oY b
   simp only[R.dat,R.depth,PyData.depth,PyData.depthAll];omega
 | .pick a b c=>by
   have:=R.oY a
   have:=R.oY b
   have:=R.oY c
   simp only[R.dat,R.depth,PyData.depth,PyData.depthAll];omega
 | .cho a ns=>by
   have:=R.oY a
   have:=Cg ns
   have:=a.An
   simp only[R.dat,R.depth,PyData.depth,PyData.depthAll];omega
def aaS (K:PySem.W.Frag) (neg:Bool):R2:=fun x y H Q=>∃d,yx K H x d/\yx K H y d/\SeqAt.shaped d=true/\Q (.bl (!neg)) H
theorem JN {d:PyData} (h:SeqAt.shaped d=true):d.canLay0=true:=by
 have h':(d.canLay0&&decide (d.depth<=64))=true:=h
 rw[Bool.and_eq_true] at h'
 exact h'.1
theorem Ry {X:Cx} (hu:X.A.units+64<cLine):QOp X (compareOp .Eq) (aaS X.K false):=⟨fun pins s σ H x y v u Q I rx ry h=>by
 obtain⟨d,h1,h2,h3,q⟩:=h
 have e:=PySem.SeqAt.eqv_refl d (JN h3)
 exact Rp hu pins s σ H x y v u Q I rx ry ⟨d,d,h1,h2,h3,h3,by rw[e];exact q⟩⟩
theorem Rz {X:Cx} (hu:X.A.units+64<cLine):QOp X (compareOp .NotEq) (aaS X.K true):=⟨fun pins s σ H x y v u Q I rx ry h=>by
 obtain⟨d,h1,h2,h3,q⟩:=h
 have e:=PySem.SeqAt.eqv_refl d (JN h3)
 exact Wg hu pins s σ H x y v u Q I rx ry ⟨d,d,h1,h2,h3,h3,by rw[e];exact q⟩⟩
end RB
set_option maxRecDepth 100000
namespace RB
open PySem L2 PySem.Spec PyProof.Rows
end RB
set_option maxRecDepth 100000
namespace RB
open PySem L2 PySem.Spec PyProof.Rows
end RB
set_option maxRecDepth 100000
namespace RB
open PySem L2 PySem.Spec PyProof.Rows
end RB
set_option maxRecDepth 100000
namespace RB
open PySem L2 PySem.Spec PyProof.Rows
end RB
set_option maxRecDepth 100000
namespace RB
open PySem L2 PySem.Spec PyProof.Rows PySem.NumText
end RB
set_option maxRecDepth 100000
namespace RB
open PySem L2 PySem.Spec PyProof.Rows PySem.NumText
end RB
set_option maxRecDepth 100000
namespace L2
open PySem PySem.Spec PyProof.Rows
section
variable {prog:Program}{w:World}{A:Around}{E:Value->Shared->Prop}
theorem Pk {it l:Addr}{its:Array Value} (ne:l≠it):∀(n i:Nat) (s:Shared) (Q:List Value->Shared->Prop),i+n<=its.size->s.heap.IsListIter it l i->s.heap.IsList l its->
 (∀h',h'.IsListIter it l (i+n)->h'.IsList l its->(∀b o,b≠it->s.heap.get? b=some o->h'.get? b=some o)->Q ((its.toList.drop i).take n) {s with heap:=h'})->wpAny (model prog w) A (draw (.ref it) n) Q E s
 | 0,i,s,Q,_,st,hl,fin=>wpAny_pure (by simpa using fin s.heap st hl fun _ _ _ e=>e)
 | n+1,i,s,Q,le,st,hl,fin=>by
   have lt:i<its.size:=by omega
   show wpAny _ _ (pyNext (.ref it)>>=_) Q E s
   refine wpAny_bind (wpAny_pyNext_list_item st hl (x:=its[i]) (Array.getElem?_eq_getElem lt) fun h1 st1 sb=> ?_)
   have hl1:h1.IsList l its:=hl.at fun o e=>(sb.2 l ne).trans e
   refine wpAny_bind (wpAny_holding (Pk ne n (i+1) _ _ (by omega) st1 hl1 fun h2 st2 hl2 k2=>wpAny_pure ?_))
   have e1:its.toList.drop i=its[i]::its.toList.drop (i+1):=by simp[List.drop_eq_getElem_cons,lt]
   have q:=fin h2 (by rw[show i+(n+1)=i+1+n by omega];exact st2) hl2 fun b o hb e=>k2 b o hb ((sb.2 b hb).trans e)
   rw[e1,List.take_succ_cons] at q
   exact q
theorem RC {l:Addr}{its:Array Value}{s:Shared}{targets:List (Bool×(Value->Sem Unit))}{Q:Unit->Shared->Prop} (calm:A.handled=none) (hl:s.heap.IsList l its) (hn:targets.length=its.size) (hs:targets.findIdx? (·.1)=none)
 (fin:∀h',(∀b o,s.heap.get? b=some o->h'.get? b=some o)->wpAny (model prog w) A (assignInOrder (targets.map (·.2)) its.toList) Q E {s with heap:=h'}):wpAny (model prog w) A (unpack (.ref l) targets) Q E s:=by
 have ne:l≠s.heap.objs.size:=by obtain⟨o,ho,_⟩:=hl;exact Nat.ne_of_lt (Heap.lt_size ho)
 unfold unpack
 rw[hn,hs]
 refine wpAny_bind (wpAny_holding ?_)
 unfold unpackItems
 refine wpAny_bind ?_
 unfold notIterableAtAll
 refine wpAny_bind (wpAny_specialOf hl.typeIs slot_list_iter.lookup (wpAny_pure ?_))
 rw[if_neg (by decide)]
 refine wpAny_bind (wpAny_holding (wpAny_pyIter_list hl ?_))
 refine wpAny_bind (wpAny_holding (Pk ne its.size 0 _ _ (by omega) ⟨_,Heap.get?_push_size _ rfl,rfl,rfl⟩ (hl.push _) fun h1 st1 hl1 k1=> ?_))
 have all:(its.toList.drop 0).take its.size=its.toList:=by simp[List.take_of_length_le]
 rw[all,if_neg (by simp)]
 refine wpAny_bind (wpAny_holding (wpAny_pyNext_list_end calm st1 hl1 (by simp) fun h2 k2=> ?_))
 rw[if_neg (by simp)]
 refine wpAny_pure (fin h2 fun b o e=> ?_)
 have nb:b≠s.heap.objs.size:=Nat.ne_of_lt (Heap.lt_size e)
 exact k2 b o nb (k1 b o nb (Heap.get?_push_of_some _ e))
end
section
variable {X:Cx}{pos:Pos}
def afL (K:PySem.W.Frag) (n:Nat) (t:TGs):TG:=fun v σ H Q=>∃a xs,v= .ref a/\SqL K H a xs/\xs.length=n/\t xs σ H Q
theorem acV {es:List Expr}{k:Nat}{t:TGs}{n:Nat} (hc:X.calm=true) (h:PGs X es t) (hn:(assignEach es X.env).length=n:=by rfl) (hst:(assignEach es X.env).findIdx? (·.1)=none:=by rfl):PG X (.Tuple es k pos) (afL X.K n t):=by
 intro pins s σ H v u Q I r hw
 obtain⟨a,xs,rfl,hq,hl,hw⟩:=hw
 cases r
 obtain⟨its,rv,pl,hz⟩:=I.list hq
 rw[assign_Tuple]
 refine wpAny_bind (wpAny_standAt (RC (I.ok.hd hc) pl.isList (by simp[hn,<-hl,rv.length]) hst fun h' k=> ?_))
 exact h pins _ σ H xs _ Q (I.kept (t':=s.toks) k) (by simpa using rv) hw
theorem Wt {es:List Expr}{k:Nat}{t:TGs}{n:Nat} (hc:X.calm=true) (h:QGs X es t) (hn:(assignEach es X.env).length=n:=by rfl) (hst:(assignEach es X.env).findIdx? (·.1)=none:=by rfl):QG X (.Tuple es k pos) (afL X.K n t):=⟨acV hc h.h hn hst⟩
theorem Tu (hc:X.calm=true):sW X (.builtin "max") (fun xs H Q=>∃i j,xs=[.int i, .int j]/\Q (.int (if j>i then j else i)) H):=⟨Ur hc⟩
end
end L2
namespace RB
open PySem L2 PySem.Spec PyProof.Rows
end RB
set_option maxRecDepth 100000
namespace L2
open PySem PySem.Spec PyProof.Rows
end L2
namespace RB
open PySem L2 PySem.Spec PyProof.Rows
end RB
set_option maxRecDepth 100000
namespace RB
open PySem L2 PySem.Spec PyProof.Rows
theorem Za {α:Type}{l m:List α}{y:α} (h:l=m++[y]):atI l (-1)=some y:=by
 subst h
 unfold atI ixN
 have hl:(m++[y]).length=m.length+1:=by simp
 rw[hl,if_neg (by omega),if_pos (by omega)]
 show(m++[y])[((m.length+1:Nat)+(-1:Int)).toNat]? =some y
 rw[show(((m.length+1:Nat):Int)+(-1)).toNat=m.length by omega]
 simp
end RB
set_option maxRecDepth 100000
namespace RB
open PySem L2 PySem.Spec PyProof.Rows
end RB
set_option maxRecDepth 100000
namespace RB
open PySem L2 PySem.Spec PyProof.Rows
abbrev Rdp:=Str×Int
def rdV (p:Rdp):List V:=[.str p.1, .int p.2]
inductive gW (H:Hp):List Addr->List Rdp->Prop where
 | nil:gW H [] []
 | cons {a:Addr}{p:Rdp}{as:List Addr}{ps:List Rdp} (h:H a=some (.tup (rdV p))) (t:gW H as ps):gW H (a::as) (p::ps)
theorem gW.tups {H H':Hp} (t:jz H H') {as:List Addr}{ps:List Rdp} (h:gW H as ps):gW H' as ps:=by
 induction h with
 | nil=>exact .nil
 | cons h _ ih=>exact .cons (t _ _ h) ih
theorem gW.same {H H':Hp} (s:aM H H') {as:List Addr}{ps:List Rdp} (h:gW H as ps):gW H' as ps:=h.tups (aM.tups s)
theorem gW.length {H:Hp}{as:List Addr}{ps:List Rdp} (h:gW H as ps):as.length=ps.length:=by
 induction h with
 | nil=>rfl
 | cons _ _ ih=>simp[ih]
theorem gW.snoc {H:Hp}{a:Addr}{p:Rdp} (h:H a=some (.tup (rdV p))):∀{as:List Addr}{ps:List Rdp},gW H as ps->gW H (as++[a]) (ps++[p])
 | _,_, .nil=> .cons h .nil
 | _,_, .cons h' t=> .cons h' (t.snoc h)
theorem gW.get {H:Hp}{as:List Addr}{ps:List Rdp} (h:gW H as ps):∀(i:Nat) (a:Addr),as[i]? =some a->∃p,ps[i]? =some p/\H a=some (.tup (rdV p)):=by
 induction h with
 | nil=>intro i a e;simp at e
 | @cons b p as ps h t ih=>
   intro i a e
   cases i with
   | zero=>have:b=a:=by simpa using e
           subst this;exact⟨_,rfl,h⟩
   | succ i=>exact ih i a (by simpa using e)
theorem RD {as:List Addr}{i:Nat}{x:V} (h:(as.map V.ref)[i]? =some x):∃a,as[i]? =some a/\x= .ref a:=by
 rw[List.getElem?_map] at h
 cases e:as[i]? with
 | none=>rw[e] at h;cases h
 | some a=>rw[e] at h;cases h;exact⟨a,rfl,rfl⟩
theorem acW {vs:List V}{k:Nat}:Oz vs none (some (k:Int))=vs.take k:=by
 unfold Oz
 rw[HT.Yy,show HT.sIx vs.length 0 none=0 from rfl,List.drop_zero,Nat.sub_zero]
 by_cases h:k<=vs.length
 ·rw[show min k vs.length=k by omega]
 ·rw[show min k vs.length=vs.length by omega,List.take_length,List.take_of_length_le (by omega)]
end RB
namespace RB
open PySem L2 PySem.Spec PyProof.Rows
theorem acX {xs:List V} (h:1<=xs.length):atI xs (-1)=xs[xs.length - 1]? :=by
 have e:ixN xs.length (-1)=some (xs.length - 1):=by
  unfold ixN
  rw[if_neg (by decide),if_pos (by omega)]
  congr 1
  omega
 unfold atI
 rw[e];rfl
end RB
set_option maxRecDepth 100000
namespace L2
open PySem PySem.Spec PyProof.Rows
def JP (t:Str) (k:Nat):Str:=⟨((List.replicate k t.cps.toList).flatten).toArray⟩
theorem aaT (t:Array Nat):∀(k:Nat) (acc:Array Nat),((List.replicate k t).foldl (· ++ ·) acc).toList=acc.toList++(List.replicate k t.toList).flatten
 | 0,acc=>by simp
 | k+1,acc=>by
   rw[List.replicate_succ,List.foldl_cons,aaT t k,Array.toList_append,List.replicate_succ,List.flatten_cons,List.append_assoc]
theorem Zb {t:Str}{n:Int} (h:1<=n):Txt.mul t n=JP t n.toNat:=by
 unfold Txt.mul
 rw[if_neg (by omega)]
 split
 ·rename_i hc
  unfold JP
  rcases Bool.or_eq_true_iff.mp hc with z | z
  ·have:n=1:=by simpa using z
   subst this
   cases t;simp
  ·have z':t.length=0:=by simpa using z
   have e:t.cps.toList=[]:=by
    have:=z'
    unfold Str.length at this
    simpa using this
   rw[e]
   cases t with
   | mk c=>
     have e':c= #[]:=by simpa using e
     subst e'
     simp
 ·unfold JP
  have e:=aaT t.cps n.toNat #[]
  generalize (List.replicate n.toNat t.cps).foldl (· ++ ·) #[]=A at e
  have:A=((List.replicate n.toNat t.cps.toList).flatten).toArray:=by
   have e2:=congrArg List.toArray e
   simpa using e2
  rw[this]
end L2
namespace RB
open PySem L2 PySem.Spec PyProof.Rows
theorem Wu (t:Str) (k:Nat):(JP t k).cps.toList=(List.replicate k t.cps.toList).flatten:=by unfold JP;simp
theorem Zc (t:Str) (k:Nat):(JP t k).length=k * t.length:=by
 rw[<-afK,Wu,len_rep,afK]
end RB
set_option maxRecDepth 100000
namespace L2
open PySem PySem.Spec PyProof.Rows
theorem Wv {t:Str}{n:Int} (h:0<=n):Txt.mul t n=JP t n.toNat:=by
 by_cases h1:1<=n
 ·exact Zb h1
 ·have e:n=0:=by omega
  subst e
  unfold Txt.mul
  rw[if_pos (by omega)]
  rfl
def aaU:R2:=fun x y H Q=>∃t n,x= .str t/\y= .int n/\0<=n/\n<=1000/\t.length<=1000/\Q (.str (JP t n.toNat)) H
theorem Zd {X:Cx}:OpR X (binaryOp .Mult) aaU:=by
 intro pins s σ H x y v u Q I rx ry h
 obtain⟨t,n,rfl,rfl,h1,h2,h3,q⟩:=h
 obtain⟨k,rfl⟩:=rx
 obtain⟨k',rfl⟩:=ry
 have e63:(2:Int)^ 63=9223372036854775808:=by decide
 refine SB.mul ⟨?_,fun hn _=> ?_,fun hn _=> ?_⟩ fun t' kk=>⟨.str _,H,I.tok kk,⟨t',rfl⟩,by rw[Wv h1];exact q⟩
 ·rw[e63]
  simp
  omega
 ·intro hgt
  have hle:(1000:Int)<=((2:Int)^ 63 - 1)/ n:=by
   rw[e63]
   exact Int.le_ediv_of_mul_le (by omega) (by omega)
  omega
 ·have:t.length * n.toNat<=1000 * 1000:=Nat.mul_le_mul h3 (by omega)
  exact decide_eq_false (by rw[sizeLine_eq];omega)
theorem Tv {X:Cx}{es:List Expr}{pos:Pos}{K:PySem.W.Frag}{k n:Nat}{t:TGs} (eK:X.K=K) (hc:X.calm=true) (h:QGs X es t) (hn:(assignEach es X.env).length=n:=by rfl) (hst:(assignEach es X.env).findIdx? (·.1)=none:=by rfl):QG X (.Tuple es k pos) (abR K n t):=eK▸JF hc h hn hst
theorem Ww {X:Cx}:QOp X (binaryOp .Mult) aaU:=⟨Zd⟩
end L2
namespace RB
open PySem L2 PySem.Spec PyProof.Rows
theorem SqL.same {K:PySem.W.Frag}{H H':Hp}{a:Addr}{xs:List V} (s:aM H H') (h:SqL K H a xs):SqL K H' a xs:=by
 rcases h with(e | ⟨o,e⟩) | h
 ·exact .inl (.inl (s _ _ e))
 ·exact .inl (.inr ⟨o,s _ _ e⟩)
 ·exact .inr h
theorem fB {S:List Addr}{H0 H H':Hp} (s:aM H0 H) (hS:∀p∈S,H0 p=none) (b:But S H H'):aM H0 H':=fun a o e=>b a o (fun z=>by rw[hS a z] at e;cases e) (s a o e)
def Wx (K:PySem.W.Frag):Sp:=fun vs H Q _=>∃(a:Addr) (ns:List Int) (k:Int),vs=[.ref a, .int k]/\SqL K H a (ns.map V.int)/\0<=k/\∀n,Q (.int n) H
def qI (rest:Int) (mixed:Bool) (count:Int):List (Key×V):=[(.inr "rest", .int rest),(.inr "mixed", .bl mixed),(.inr "count", .int count)]
def eU (H:Hp) (p:Addr) (c:Nat):Prop:=∃(rest:Int) (mixed:Bool) (count:Int),H p=some (.dK (qI rest mixed count))/\0<=count/\count<=(c:Int)
theorem eU.keep {S:List Addr}{H H':Hp}{p:Addr}{c:Nat} (h:eU H p c) (b:But S H H') (hp:p∉S):eU H' p c:=by
 obtain⟨r,m,k,e,h⟩:=h
 exact⟨r,m,k,b _ _ hp e,h⟩
theorem eU.same {H H':Hp}{p:Addr}{c:Nat} (h:eU H p c) (b:aM H H'):eU H' p c:=h.keep (S:=[]) (But.of_same b) (by simp)
theorem eU.tups {H H':Hp}{p:Addr}{c:Nat} (h:eU H p c) (b:But [p] H H'):jz H H':=fun q xs e=>b q _ (fun z=>by
 obtain⟨r,m,k,e',_⟩:=h
 have:q=p:=by simpa using z
 rw[this,e'] at e;cases e) e
def Np (K:PySem.W.Frag):Sp:=fun vs H Q _=>∃(a:Addr) (ns:List Int) (k:Int),vs=[.ref a, .int k]/\SqL K H a (ns.map V.int)/\0<=k/\k<=100/\∀p H',aM H H'->H p=none->eU H' p 503->Q (.ref p) H'
def w6:Sp:=fun vs H Q _=>∃(p:Addr) (c:Nat) (many:Int),vs=[.ref p, .int many]/\eU H p c/\c<=100000/\0<many/\many.natAbs.log2<9000/\∀n H',0<=n->n<many->But [p] H H'->eU H' p (c+1)->Q (.int n) H'
def ltr (i:Nat):Str:=⟨#[i+97]⟩
def aq (k:Nat):Str:=ltr (k % 26)++JP (ltr (k * 7 % 26)) (k * 5 % 8)
def JQ:Sp:=fun vs H Q _=>∃k:Nat,vs=[.int (k:Int)]/\k<=1000/\Q (.str (aq k)) H
theorem Wy {n:Int}{i:Nat} (h:n=(i:Int)) (hi:i<26):atI (Str.ofString "abcdefghijklmnopqrstuvwxyz").cps.toList n=some (i+97):=by
 subst h
 exact iT (by rw[Pb,List.getElem?_map,List.getElem?_range hi];rfl)
def names26:List Str:=(List.range 26).map aq
theorem Nq:∀x∈names26++[("qz":Str),"xz","jz"],lK x:=by decide +kernel
theorem Gw {H:Hp}{p:Addr}{a c:Int}{b:Bool} (e:H p=some (.dK (qI a b c))):bK H p (.str "rest") (some (.int a)):=bK.k (k:= .inr "rest") e
theorem RG {H:Hp}{p:Addr}{a c:Int}{b:Bool} (e:H p=some (.dK (qI a b c))):bK H p (.str "mixed") (some (.bl b)):=bK.k (k:= .inr "mixed") e
theorem JR {H:Hp}{p:Addr}{a c:Int}{b:Bool} (e:H p=some (.dK (qI a b c))):bK H p (.str "count") (some (.int c)):=bK.k (k:= .inr "count") e
theorem uR {H:Hp}{p:Addr}{a c:Int}{b:Bool} (e:H p=some (.dK (qI a b c))) (x:Int):jF H p (.str "rest") (.int x) (upd H p (.dK (qI x b c))):=jF.k (k:= .inr "rest") e (bR (by show 3<=1000;decide))
theorem JS {H:Hp}{p:Addr}{a c:Int}{b:Bool} (e:H p=some (.dK (qI a b c))) (x:Int):jF H p (.str "count") (.int x) (upd H p (.dK (qI a b x))):=jF.k (k:= .inr "count") e (bR (by show 3<=1000;decide))
end RB
set_option maxRecDepth 100000
namespace RB
open PySem L2 PySem.Spec PyProof.Rows
abbrev Kn:=Str->Option Int
def Kn.put (kn:Kn) (x:Str) (v:Int):Kn:=fun y=>if y=x then some v else kn y
def Kn.puts:Kn->List Rdp->Kn
 | kn,[]=>kn
 | kn,p::ps=>(kn.put p.1 p.2).puts ps
def Kn.Le (kn kn':Kn):Prop:=∀x v,kn x=some v->kn' x=some v
theorem Kn.Le.refl (kn:Kn):Kn.Le kn kn:=fun _ _ h=>h
theorem Kn.Le.trans {a b c:Kn} (h:Kn.Le a b) (g:Kn.Le b c):Kn.Le a c:=fun x v z=>g x v (h x v z)
theorem Kn.qg {kn:Kn}{x:Str}{v:Int} (h:kn x=none):Kn.Le kn (kn.put x v):=fun y u z=>by
 unfold Kn.put
 rw[if_neg (fun e=>by rw[e,h] at z;cases z)];exact z
def Op.ap:Op->Int->Int->Int
 | .plus,u,v=>u+v
 | .minus,u,v=>u - v
 | .times,u,v=>u * v
 | .most,u,v=>if v>u then v else u
def yo (ns:List Str) (u:Int):Option Str:=ns[(u % (ns.length:Int)).toNat]?
def look (kn:Kn) (x:Str):Str ⊕ Int:=match kn x with
 | some v=> .inr v
 | none=> .inl x
def ev (kn:Kn):R->Str ⊕ Int
 | .num n=> .inr n
 | .rd x=>look kn x
 | .bin op a b=>match ev kn a with
   | .inl x=> .inl x
   | .inr u=>match ev kn b with
     | .inl x=> .inl x
     | .inr v=> .inr (op.ap u v)
 | .pick a b c=>match ev kn a with
   | .inl x=> .inl x
   | .inr u=>if u>0 then ev kn b else ev kn c
 | .cho a ns=>match ev kn a with
   | .inl x=> .inl x
   | .inr u=>match yo ns u with
     | none=> .inr 0
     | some x=>look kn x
theorem Tw {kn kn':Kn} (h:Kn.Le kn kn') {x:Str}{v:Int} (e:look kn x= .inr v):look kn' x= .inr v:=by
 unfold look at e ⊢
 cases z:kn x with
 | none=>rw[z] at e;cases e
 | some u=>rw[z] at e;rw[h x u z];exact e
theorem Ao {kn:Kn}{x y:Str} (e:look kn x= .inl y):y=x/\kn x=none:=by
 unfold look at e
 cases z:kn x with
 | none=>rw[z] at e;cases e;exact⟨rfl,rfl⟩
 | some u=>rw[z] at e;cases e
theorem rZ {kn:Kn}:∀{r:R}{x:Str},ev kn r= .inl x->kn x=none
 | .num n,x,h=>by cases h
 | .rd y,x,h=>by obtain⟨rfl,h⟩:=Ao h;exact h
 | .bin op a b,x,h=>by
   simp only[ev] at h
   cases ea:ev kn a with
   | inl y=>rw[ea] at h;cases h;exact rZ ea
   | inr u=>
     rw[ea] at h
     cases eb:ev kn b with
     | inl y=>rw[eb] at h;cases h;exact rZ eb
     | inr v=>rw[eb] at h;cases h
 | .pick a b c,x,h=>by
   simp only[ev] at h
   cases ea:ev kn a with
   | inl y=>rw[ea] at h;cases h;exact rZ ea
   | inr u=>
     rw[ea] at h
     simp only at h
     split at h
     ·exact rZ h
     ·exact rZ h
 | .cho a ns,x,h=>by
   simp only[ev] at h
   cases ea:ev kn a with
   | inl y=>rw[ea] at h;cases h;exact rZ ea
   | inr u=>
     rw[ea] at h
     simp only at h
     cases ep:yo ns u with
     | none=>rw[ep] at h;cases h
     | some y=>rw[ep] at h;obtain⟨rfl,h⟩:=Ao h;exact h
theorem vL {kn kn':Kn} (hk:Kn.Le kn kn'):∀{r:R}{v:Int},ev kn r= .inr v->ev kn' r= .inr v
 | .num n,v,h=>h
 | .rd y,v,h=>Tw hk h
 | .bin op a b,v,h=>by
   simp only[ev] at h ⊢
   cases ea:ev kn a with
   | inl y=>rw[ea] at h;cases h
   | inr u=>
     rw[ea] at h;rw[vL hk ea]
     cases eb:ev kn b with
     | inl y=>rw[eb] at h;cases h
     | inr w=>rw[eb] at h;rw[vL hk eb];exact h
 | .pick a b c,v,h=>by
   simp only[ev] at h ⊢
   cases ea:ev kn a with
   | inl y=>rw[ea] at h;cases h
   | inr u=>
     rw[ea] at h;rw[vL hk ea]
     simp only at h ⊢
     split at h
     ·rw[if_pos (by assumption)];exact vL hk h
     ·rw[if_neg (by assumption)];exact vL hk h
 | .cho a ns,v,h=>by
   simp only[ev] at h ⊢
   cases ea:ev kn a with
   | inl y=>rw[ea] at h;cases h
   | inr u=>
     rw[ea] at h;rw[vL hk ea]
     simp only at h ⊢
     cases ep:yo ns u with
     | none=>rw[ep] at h;exact h
     | some y=>rw[ep] at h;exact Tw hk h
inductive Stp where
 | r (r:R) | branch (s t:R) | among (ns:List Str) | join (op:Op)
structure Cf where
 todo:List Stp
 found:List Int
 rds:List Rdp
def uT (ps:List Rdp) (x:Str) (v:Int):List Rdp:=
 if(ps.any fun p=>decide (p.1=x))=true then ps.map (fun p=>if p.1=x then(p.1,v) else p) else ps++[(x,v)]
inductive St1 (kn:Kn):Cf->Cf->Prop where
 | num {t f d n}:St1 kn ⟨t++[.r (.num n)],f,d⟩ ⟨t,f++[n],d⟩
 | rd {t f d x v} (h:kn x=some v):St1 kn ⟨t++[.r (.rd x)],f,d⟩ ⟨t,f++[v],uT d x v⟩
 | bin {t f d op a b}:St1 kn ⟨t++[.r (.bin op a b)],f,d⟩ ⟨t++[.join op, .r b, .r a],f,d⟩
 | pick {t f d a b c}:St1 kn ⟨t++[.r (.pick a b c)],f,d⟩ ⟨t++[.branch b c, .r a],f,d⟩
 | cho {t f d a ns}:St1 kn ⟨t++[.r (.cho a ns)],f,d⟩ ⟨t++[.among ns, .r a],f,d⟩
 | branch {t f d b c v}:St1 kn ⟨t++[.branch b c],f++[v],d⟩ ⟨t++[.r (if v>0 then b else c)],f,d⟩
 | among {t f d ns v x} (h:yo ns v=some x):St1 kn ⟨t++[.among ns],f++[v],d⟩ ⟨t++[.r (.rd x)],f,d⟩
 | join {t f d op u v} (h:op= .times->Gi u v):St1 kn ⟨t++[.join op],f++[u,v],d⟩ ⟨t,f++[op.ap u v],d⟩
inductive StN (kn:Kn):Nat->Cf->Cf->Prop where
 | zero {c}:StN kn 0 c c
 | succ {n c c1 c2} (h:St1 kn c c1) (t:StN kn n c1 c2):StN kn (n+1) c c2
theorem StN.add {kn:Kn}{n m:Nat}{a b c:Cf} (h:StN kn n a b) (g:StN kn m b c):StN kn (n+m) a c:=by
 induction h with
 | zero=>rw[Nat.zero_add];exact g
 | succ h _ ih=>rw[Nat.succ_add];exact .succ h (ih g)
theorem St1.le {kn kn':Kn} (hk:Kn.Le kn kn') {a b:Cf} (h:St1 kn a b):St1 kn' a b:=by
 cases h with
 | num=>exact .num
 | rd h=>exact .rd (hk _ _ h)
 | bin=>exact .bin
 | pick=>exact .pick
 | cho=>exact .cho
 | branch=>exact .branch
 | among h=>exact .among h
 | join h=>exact .join h
theorem StN.le {kn kn':Kn} (hk:Kn.Le kn kn') {n:Nat}{a b:Cf} (h:StN kn n a b):StN kn' n a b:=by
 induction h with
 | zero=>exact .zero
 | succ h _ ih=>exact .succ (h.le hk) ih
theorem lM {α:Type}{s t:List α}{x y:α} (h:s++[x]=t++[y]):s=t/\x=y:=by
 have:=List.append_inj' h rfl
 exact⟨this.1,by simpa using this.2⟩
theorem U8 {α:Type}{s t:List α}{x y u v:α} (h:s++[x,y]=t++[u,v]):s=t/\x=u/\y=v:=by
 have:=List.append_inj' h rfl
 exact⟨this.1,by simpa using this.2⟩
def St1.Inv (kn:Kn) (f:List Int) (d:List Rdp) (t:List Stp) (c':Cf):Stp->Prop
 | .r (.num n)=>c'=⟨t,f++[n],d⟩
 | .r (.rd x)=>∃v,kn x=some v/\c'=⟨t,f++[v],uT d x v⟩
 | .r (.bin op a b)=>c'=⟨t++[.join op, .r b, .r a],f,d⟩
 | .r (.pick a b c)=>c'=⟨t++[.branch b c, .r a],f,d⟩
 | .r (.cho a ns)=>c'=⟨t++[.among ns, .r a],f,d⟩
 | .branch b c=>∃g v,f=g++[v]/\c'=⟨t++[.r (if v>0 then b else c)],g,d⟩
 | .among ns=>∃g v x,f=g++[v]/\yo ns v=some x/\c'=⟨t++[.r (.rd x)],g,d⟩
 | .join op=>∃g u v,f=g++[u,v]/\(op= .times->Gi u v)/\c'=⟨t,g++[op.ap u v],d⟩
theorem St1.inv {kn:Kn}{c c':Cf} (h:St1 kn c c'):∀t s,c.todo=t++[s]->St1.Inv kn c.found c.rds t c' s:=by
 cases h with
 | num=>intro t s e;obtain⟨rfl,rfl⟩:=lM e;exact rfl
 | rd h=>intro t s e;obtain⟨rfl,rfl⟩:=lM e;exact⟨_,h,rfl⟩
 | bin=>intro t s e;obtain⟨rfl,rfl⟩:=lM e;exact rfl
 | pick=>intro t s e;obtain⟨rfl,rfl⟩:=lM e;exact rfl
 | cho=>intro t s e;obtain⟨rfl,rfl⟩:=lM e;exact rfl
 | branch=>intro t s e;obtain⟨rfl,rfl⟩:=lM e;exact⟨_,_,rfl,rfl⟩
 | among h=>intro t s e;obtain⟨rfl,rfl⟩:=lM e;exact⟨_,_,_,rfl,h,rfl⟩
 | join h=>intro t s e;obtain⟨rfl,rfl⟩:=lM e;exact⟨_,_,_,rfl,h,rfl⟩
theorem St1.det {kn:Kn}{a b c:Cf} (h:St1 kn a b) (g:St1 kn a c):b=c:=by
 cases h with
 | num=>exact(g.inv _ _ rfl).symm
 | rd h=>
   obtain⟨v,e,z⟩:=g.inv _ _ rfl
   rw[h] at e;cases e;exact z.symm
 | bin=>exact(g.inv _ _ rfl).symm
 | pick=>exact(g.inv _ _ rfl).symm
 | cho=>exact(g.inv _ _ rfl).symm
 | branch=>
   obtain⟨f,v,e,z⟩:=g.inv _ _ rfl
   obtain⟨rfl,rfl⟩:=lM e
   exact z.symm
 | among h=>
   obtain⟨f,v,x,e,hx,z⟩:=g.inv _ _ rfl
   obtain⟨rfl,rfl⟩:=lM e
   rw[h] at hx;cases hx;exact z.symm
 | join h=>
   obtain⟨f,u,v,e,_,z⟩:=g.inv _ _ rfl
   obtain⟨rfl,rfl,rfl⟩:=U8 e
   exact z.symm
def Halt (kn:Kn) (c:Cf):Prop:=c.todo=[]\/∃t x,c.todo=t++[.r (.rd x)]/\kn x=none
theorem Halt.no {kn:Kn}{c c':Cf} (h:Halt kn c) (g:St1 kn c c'):False:=by
 rcases h with h | ⟨t,x,h,hx⟩
 ·cases g<;>simp at h
 ·obtain⟨v,e,_⟩:=g.inv _ _ h
  rw[hx] at e;cases e
theorem StN.rest {kn:Kn}{n m:Nat}{a b c:Cf} (h:StN kn n a b) (g:StN kn m a c) (hc:Halt kn c):∃k,StN kn k b c:=by
 induction h generalizing m with
 | zero=>exact⟨m,g⟩
 | succ h _ ih=>
   cases g with
   | zero=>exact(hc.no h).elim
   | succ h' g'=>rw[<-h.det h'] at g';exact ih g'
theorem Mt {ns:List Str} (h:1<=ns.length) (u:Int):∃x,yo ns u=some x:=by
 unfold yo
 have h1:(u % (ns.length:Int)).toNat<ns.length:=by
  have:=Int.emod_nonneg u (show(ns.length:Int)≠0 by omega)
  have:=Int.emod_lt_of_pos u (show(0:Int)<ns.length by omega)
  omega
 exact⟨_,List.getElem?_eq_getElem h1⟩
end RB
namespace RB
open PySem L2 PySem.Spec PyProof.Rows
def Reach (kn:Kn) (r:R) (c:Cf):Prop:=∃n,StN kn n ⟨[.r r],[],[]⟩ c
theorem Reach.le {kn kn':Kn} (h:Kn.Le kn kn') {r:R}{c:Cf} (g:Reach kn r c):Reach kn' r c:=by
 obtain⟨n,g⟩:=g
 exact⟨n,g.le h⟩
def kn0:Kn:=fun _=>none
end RB
set_option maxRecDepth 100000
namespace L2
open PySem PySem.Spec PyProof.Rows
section
variable {X:Cx}{i o:Expr}{ty td:TE}{pos:Pos}
theorem uU (hu:X.A.units+1<cLine) (hi:QE X i ty) (ho:QE X o td) (h1:behindInMarks .In o=false:=by rfl):QT X (.Compare i [.In] [o] pos) (tB (afx ty td)):=⟨Vp (acr hu hi.h ho.h) h1⟩
theorem lO (hu:X.A.units+1<cLine) (hi:QE X i ty) (ho:QE X o td) (h1:behindInMarks .NotIn o=false:=by rfl):QT X (.Compare i [.NotIn] [o] pos) (tB (Te ty td)):=⟨Vp (UT hu hi.h ho.h) h1⟩
end
end L2
namespace RB
open PySem L2 PySem.Spec PyProof.Rows
inductive Io (H:Hp):V->Stp->Prop where
 | r {a:Addr}{r:R} (h:IsR H a r):Io H (.ref a) (.r r)
 | branch {a b c:Addr}{s t:R} (e:H a=some (.tup [.str "branch", .ref b, .ref c])) (h1:IsR H b s) (h2:IsR H c t):Io H (.ref a) (.branch s t)
 | among {a b:Addr}{ns:List Str} (e:H a=some (.tup [.str "among", .ref b])) (h:H b=some (.tup (ns.map V.str))):Io H (.ref a) (.among ns)
 | join {a:Addr}{op:Op} (e:H a=some (.tup [.str "join", .str op.word])):Io H (.ref a) (.join op)
theorem Io.tups {H H':Hp} (t:jz H H') {v:V}{s:Stp} (h:Io H v s):Io H' v s:=by
 cases h with
 | r h=>exact .r (h.tups t)
 | branch e h1 h2=>exact .branch (t _ _ e) (h1.tups t) (h2.tups t)
 | among e h=>exact .among (t _ _ e) (t _ _ h)
 | join e=>exact .join (t _ _ e)
inductive qb (H:Hp):List V->List Stp->Prop where
 | nil:qb H [] []
 | cons {v:V}{s:Stp}{vs:List V}{ss:List Stp} (h:Io H v s) (t:qb H vs ss):qb H (v::vs) (s::ss)
theorem qb.tups {H H':Hp} (t:jz H H') {vs:List V}{ss:List Stp} (h:qb H vs ss):qb H' vs ss:=by
 induction h with
 | nil=>exact .nil
 | cons h _ ih=>exact .cons (h.tups t) ih
theorem qb.app {H:Hp}:∀{vs ws:List V}{ss ts:List Stp},qb H vs ss->qb H ws ts->qb H (vs++ws) (ss++ts)
 | _,_,_,_, .nil,h=>h
 | _,_,_,_, .cons h' t,h=> .cons h' (t.app h)
theorem qb.snoc {H:Hp}{s:Stp}:∀{ss:List Stp}{vs:List V},qb H vs (ss++[s])->∃us v,vs=us++[v]/\qb H us ss/\Io H v s
 |[],_,h=>by
  cases h with
  | cons h t=>cases t;exact⟨[],_,rfl, .nil,h⟩
 | s0::ss,_,h=>by
   cases h with
   | cons h t=>
     obtain⟨us,v,rfl,h1,h2⟩:=qb.snoc (ss:=ss) t
     exact⟨_::us,v,rfl, .cons h h1,h2⟩
theorem qb.length {H:Hp}{vs:List V}{ss:List Stp} (h:qb H vs ss):vs.length=ss.length:=by
 induction h with
 | nil=>rfl
 | cons _ _ ih=>simp[ih]
def wR:R->Nat
 | .num _=>1
 | .rd _=>1
 | .bin _ a b=>wR a+wR b+2
 | .pick a b c=>wR a+wR b+wR c+2
 | .cho a _=>wR a+3
def wS:Stp->Nat
 | .r r=>wR r
 | .branch s t=>wR s+wR t+1
 | .among _=>2
 | .join _=>1
def wT (t:List Stp):Nat:=(t.map wS).sum
def Cf.w (c:Cf):Nat:=c.rds.length+c.found.length+2 * wT c.todo
theorem pB (s t:List Stp):wT (s++t)=wT s+wT t:=by unfold wT;rw[List.map_append,List.sum_append]
theorem acY:∀r:R,1<=wR r
 | .num _=>Nat.le_refl _
 | .rd _=>Nat.le_refl _
 | .bin _ a b=>by show 1<=wR a+wR b+2;omega
 | .pick a b c=>by show 1<=wR a+wR b+wR c+2;omega
 | .cho a _=>by show 1<=wR a+3;omega
theorem acZ (s:Stp):1<=wS s:=by
 cases s with
 | r r=>exact acY r
 | branch s t=>show 1<=wR s+wR t+1;omega
 | among ns=>exact(by decide:1<=2)
 | join op=>exact Nat.le_refl _
theorem RJ:∀t:List Stp,t.length<=wT t
 |[]=>Nat.le_refl _
 | s::t=>by
   have:=RJ t
   have:=acZ s
   show t.length+1<=wS s+wT t
   omega
theorem Wz (d:List Rdp) (x:Str) (v:Int):(uT d x v).length<=d.length+1:=by
 unfold uT
 split
 ·rw[List.length_map];omega
 ·rw[List.length_append];exact Nat.le_refl _
theorem St1.w {kn:Kn}{a b:Cf} (h:St1 kn a b):b.w<=a.w:=by
 cases h with
 | @num t f d n=>
   show d.length+(f++[n]).length+2 * wT t<=d.length+f.length+2 * wT (t++[.r (.num n)])
   rw[pB,List.length_append];show _<=_+2 *(_+1);simp;omega
 | @rd t f d x v h=>
   have:=Wz d x v
   show(uT d x v).length+(f++[v]).length+2 * wT t<=d.length+f.length+2 * wT (t++[.r (.rd x)])
   rw[pB,List.length_append];show _<=_+2 *(_+1);simp;omega
 | @bin t f d op a b=>
   show d.length+f.length+2 * wT (t++[.join op, .r b, .r a])<=d.length+f.length+2 * wT (t++[.r (.bin op a b)])
   rw[pB,pB];show _+2 *(_+(1+(wR b+(wR a+0))))<=_+2 *(_+(wR a+wR b+2+0));omega
 | @pick t f d a b c=>
   show d.length+f.length+2 * wT (t++[.branch b c, .r a])<=d.length+f.length+2 * wT (t++[.r (.pick a b c)])
   rw[pB,pB];show _+2 *(_+(wR b+wR c+1+(wR a+0)))<=_+2 *(_+(wR a+wR b+wR c+2+0));omega
 | @cho t f d a ns=>
   show d.length+f.length+2 * wT (t++[.among ns, .r a])<=d.length+f.length+2 * wT (t++[.r (.cho a ns)])
   rw[pB,pB];show _+2 *(_+(2+(wR a+0)))<=_+2 *(_+(wR a+3+0));omega
 | @branch t f d b c v=>
   show d.length+f.length+2 * wT (t++[.r (if v>0 then b else c)])<=d.length+(f++[v]).length+2 * wT (t++[.branch b c])
   rw[pB,pB,List.length_append]
   have:wR (if v>0 then b else c)<=wR b+wR c:=by split<;>omega
   show _+2 *(_+(wR (if v>0 then b else c)+0))<=_+2 *(_+(wR b+wR c+1+0));omega
 | @among t f d ns v x h=>
   show d.length+f.length+2 * wT (t++[.r (.rd x)])<=d.length+(f++[v]).length+2 * wT (t++[.among ns])
   rw[pB,pB,List.length_append];show _+2 *(_+1)<=_+2 *(_+2);omega
 | @join t f d op u v h=>
   show d.length+(f++[op.ap u v]).length+2 * wT t<=d.length+(f++[u,v]).length+2 * wT (t++[.join op])
   rw[pB,List.length_append,List.length_append];show _+(_+1)+_<=_+(_+2)+2 *(_+1);omega
def rdK (d:List Rdp):List (Key×V):=d.map fun p=>(.inr p.1, .int p.2)
theorem Ze (d:List Rdp) (x:Str) (v:Int):putK (rdK d) (.inr x) (.int v)=rdK (uT d x v):=by
 unfold putK uT rdK
 rw[List.any_map]
 have e:((fun kv:Key×V=>decide (kv.1=(.inr x:Key)))∘fun p:Rdp=>((.inr p.1:Key),V.int p.2))=fun p:Rdp=>decide (p.1=x):=by
  funext p
  show decide ((Sum.inr p.1:Key)=Sum.inr x)=_
  by_cases h:p.1=x
  ·rw[decide_eq_true h,decide_eq_true (by rw[h])]
  ·rw[decide_eq_false h,decide_eq_false (fun z=>h (Sum.inr.inj z))]
 rw[e]
 by_cases hc:(d.any fun p=>decide (p.1=x))=true
 ·rw[if_pos hc,if_pos hc,List.map_map,List.map_map]
  apply List.map_congr_left
  intro p _
  show(if(Sum.inr p.1:Key)=Sum.inr x then((Sum.inr p.1:Key),V.int v) else((Sum.inr p.1:Key),V.int p.2))=_
  by_cases h:p.1=x
  ·rw[if_pos (by rw[h])]
   show _=((Sum.inr (if p.1=x then(p.1,v) else p).1:Key),V.int (if p.1=x then(p.1,v) else p).2)
   rw[if_pos h]
  ·rw[if_neg (fun z=>h (Sum.inr.inj z))]
   show _=((Sum.inr (if p.1=x then(p.1,v) else p).1:Key),V.int (if p.1=x then(p.1,v) else p).2)
   rw[if_neg h]
 ·rw[if_neg hc,if_neg hc,List.map_append];rfl
def rkF (a1 a2 a3:Addr):List (Str×V):=[("todo", .ref a1),("found", .ref a2),("reads", .ref a3)]
structure RcAt (H:Hp) (a C dx a1 a2 a3:Addr) (c:Cf):Prop where
 e:H a=some (.ins C dx (rkF a1 a2 a3))
 e1:∃ws,H a1=some (.lst ws)/\qb H ws c.todo
 e2:H a2=some (.lst (c.found.map V.int))
 e3:H a3=some (.dK (rdK c.rds))
 ne:a1≠a2
 hw:c.w<=10000
structure RkC (K:PySem.W.Frag) (C:Addr):Prop where
 cl:Cls K C
 nT:jU K C "todo"
 nF:jU K C "found"
 nR:jU K C "reads"
def WD (H:Hp) (d:Addr) (kn:Kn):Prop:=∃kvs,H d=some (.dK kvs)/\∀x,dH kvs (.inr x)=(kn x).map V.int
theorem Nr (a1 a2 a3:Addr):List.lookup ("todo":Str) (rkF a1 a2 a3)=some (.ref a1):=rfl
theorem JT (a1 a2 a3:Addr):List.lookup ("found":Str) (rkF a1 a2 a3)=some (.ref a2):=rfl
theorem JV (a1 a2 a3:Addr):List.lookup ("reads":Str) (rkF a1 a2 a3)=some (.ref a3):=rfl
theorem aaV (a1 a2 a3:Addr):List.lookup ("go_on":Str) (rkF a1 a2 a3)=none:=rfl
theorem Ei (a1 a2 a3:Addr):List.lookup ("lacking":Str) (rkF a1 a2 a3)=none:=rfl
def Tz:Sp:=fun vs H Q _=>∃(op:Op) (u v:Int),vs=[.str op.word, .int u, .int v]/\(op= .times->Gi u v)/\Q (.int (op.ap u v)) H
def Pn (C:Addr):Sp:=fun vs H Q _=>∃(a dx b:Addr) (r:R),vs=[.ref a, .ref b]/\H a=some (.ins C dx [])/\IsR H b r/\wR r<=4000/\
 ∀a1 a2 a3 H',But [a] H H'->H a1=none->H a2=none->H a3=none->RcAt H' a C dx a1 a2 a3 ⟨[.r r],[],[]⟩->Q .non H'
def afM (C:Addr):Sp:=fun vs H Q _=>∃(a dx a1 a2 a3:Addr) (v:V) (s:Stp) (t:List Stp) (f:List Int) (d:List Rdp) (kn:Kn) (c:Cf),vs=[.ref a,v]/\RcAt H a C dx a1 a2 a3 ⟨t,f,d⟩/\Io H v s/\(∀x,s≠ .r (.rd x))/\
 St1 kn ⟨t++[s],f,d⟩ c/\c.w<=10000/\∀H',But [a1,a2,a3] H H'->RcAt H' a C dx a1 a2 a3 c->Q .non H'
def WK (C:Addr):Sp:=fun vs H Q _=>∃(a dx a1 a2 a3 d:Addr) (kn:Kn) (n:Nat) (c c':Cf),vs=[.ref a, .ref d]/\RcAt H a C dx a1 a2 a3 c/\WD H d kn/\d≠a3/\StN kn n c c'/\Halt kn c'/\
 ∀H',But [a1,a2,a3] H H'->RcAt H' a C dx a1 a2 a3 c'->(c'.todo=[]->Q .non H')/\∀t x,c'.todo=t++[.r (.rd x)]->Q (.str x) H'
theorem RcAt.lists {H:Hp}{a C dx a1 a2 a3:Addr}{c:Cf} (h:RcAt H a C dx a1 a2 a3 c) {H':Hp} (b:But [a1,a2,a3] H H'):jz H H':=fun p xs q=>b p _ (fun z=>by
 obtain⟨ws,e1,_⟩:=h.e1
 have:p=a1\/p=a2\/p=a3:=by simpa using z
 rcases this with rfl | rfl | rfl
 ·rw[e1] at q;cases q
 ·rw[h.e2] at q;cases q
 ·rw[h.e3] at q;cases q) q
end RB
namespace RB
open PySem L2 PySem.Spec PyProof.Rows
theorem eX {H:Hp}{p q:Addr}{o:HO} (h:upd H p o q=none):q≠p/\H q=none:=by
 by_cases e:q=p
 ·subst e;rw[ao] at h;cases h
 ·rw[au e] at h;exact⟨e,h⟩
theorem RcAt.ins {H:Hp}{a C dx a1 a2 a3:Addr}{c:Cf} (h:RcAt H a C dx a1 a2 a3 c):a∉[a1,a2,a3]:=fun z=>by
 obtain⟨ws,e1,_⟩:=h.e1
 have z:a=a1\/a=a2\/a=a3:=by simpa using z
 have e:=h.e
 rcases z with z | z | z
 ·rw[z,e1] at e;cases e
 ·rw[z,h.e2] at e;cases e
 ·rw[z,h.e3] at e;cases e
theorem RcAt.n13 {H:Hp}{a C dx a1 a2 a3:Addr}{c:Cf} (h:RcAt H a C dx a1 a2 a3 c):a1≠a3:=fun z=>by
 obtain⟨ws,e1,_⟩:=h.e1
 have e:=h.e3
 rw[<-z,e1] at e;cases e
theorem RcAt.n23 {H:Hp}{a C dx a1 a2 a3:Addr}{c:Cf} (h:RcAt H a C dx a1 a2 a3 c):a2≠a3:=fun z=>by
 have e:=h.e3
 rw[<-z,h.e2] at e;cases e
theorem RcAt.next {H H':Hp}{a C dx a1 a2 a3:Addr}{c c':Cf}{ws:List V} (h:RcAt H a C dx a1 a2 a3 c) (b:But [a1,a2,a3] H H') (g1:H' a1=some (.lst ws)) (s:qb H' ws c'.todo) (g2:H' a2=some (.lst (c'.found.map V.int))) (g3:H' a3=some (.dK (rdK c'.rds))) (hw:c'.w<=10000):RcAt H' a C dx a1 a2 a3 c':=
 ⟨b _ _ h.ins h.e,⟨ws,g1,s⟩,g2,g3,h.ne,hw⟩
theorem Io.hd {H:Hp}{v:V}{s:Stp} (h:Io H v s) (hno:∀x,s≠ .r (.rd x)):∃p k xs,v= .ref p/\H p=some (.tup (.str k::xs))/\k≠"read":=by
 cases h with
 | r h=>
   cases h with
   | num e=>exact⟨_,_,_,rfl,e,by decide +kernel⟩
   | rd e=>exact absurd rfl (hno _)
   | @bin _ _ _ op _ _ e _ _=>exact⟨_,_,_,rfl,e,by cases op<;>decide +kernel⟩
   | pick e _ _ _=>exact⟨_,_,_,rfl,e,by decide +kernel⟩
   | cho e _ _=>exact⟨_,_,_,rfl,e,by decide +kernel⟩
 | branch e _ _=>exact⟨_,_,_,rfl,e,by decide +kernel⟩
 | among e _=>exact⟨_,_,_,rfl,e,by decide +kernel⟩
 | join e=>exact⟨_,_,_,rfl,e,by decide +kernel⟩
theorem StN.halt {kn:Kn}{n:Nat}{c c':Cf} (h:StN kn n c c') (hc:Halt kn c):c=c':=by
 cases h with
 | zero=>rfl
 | succ h _=>exact(hc.no h).elim
theorem ac0 {H:Hp}{a:Addr}{o:HO} (h:H a=some o):upd H a o=H:=by
 funext b
 by_cases e:b=a
 ·subst e;rw[ao,h]
 ·rw[au e]
end RB
namespace RB
open PySem L2 PySem.Spec PyProof.Rows
end RB
namespace RB
open PySem L2 PySem.Spec PyProof.Rows
theorem same_none {H H':Hp}{p:Addr} (s:aM H H') (h:H' p=none):H p=none:=by
 cases z:H p with
 | none=>rfl
 | some o=>rw[s _ _ z] at h;cases h
end RB
set_option maxRecDepth 100000
namespace L2
open PySem PySem.Spec PyProof.Rows
theorem Jm {k:Key}{v:Value} (h:HH k v=true):RelV (kV k) v:=by
 rcases iY h with⟨i,t,rfl,rfl⟩ | ⟨x,t,rfl,rfl⟩
 ·exact⟨t,rfl⟩
 ·exact⟨t,rfl⟩
theorem Cj:∀{ys:List V}{its:List Value},its.length=ys.length->(∀(i:Nat) (v:Value),its[i]? =some v->∃y,ys[i]? =some y/\RelV y v)->Vals ys its
 |[],[],_,_=> .nil
 | y::ys,v::its,hl,h=>by
   obtain⟨y',e,r⟩:=h 0 v rfl
   cases e
   exact .cons r (Cj (by simpa using hl) fun i u hu=>h (i+1) u (by simpa using hu))
 |[],_::_,hl,_=>by simp at hl
 | _::_,[],hl,_=>by simp at hl
theorem Ej {κ:Type}:∀{kvs:List (κ×V)}{vs:List (κ×Value)},KV kvs vs->kvs.length=vs.length/\∀(i:Nat) (k:κ) (x:Value),vs[i]? =some (k,x)->∃y,kvs[i]? =some (k,y)
 | _,_, .nil=>⟨rfl,fun i k x h=>by simp at h⟩
 | _,_, .cons (a:=p) (b:=q) h t=>by
   obtain⟨h1,h2⟩:=Ej t
   refine⟨by simp[h1],fun i k x e=> ?_⟩
   cases i with
   | zero=>cases e;exact⟨p.2,by rw[List.getElem?_cons_zero];cases p;simp only at h ⊢;rw[h.1]⟩
   | succ i=>exact h2 i k x (by simpa using e)
section
variable {X:Cx}
theorem RK (hc:X.calm=true):sU X (.type "list") (fun xs H Q=>∃a kvs,xs=[.ref a]/\H a=some (.dK kvs)/\∀l,H l=none->Q (.ref l) (upd H l (.lst (kvs.map fun kv=>kV kv.1)))):=by
 intro pins s σ H xs us Q I r h
 obtain⟨a,kvs,rfl,ha,q⟩:=h
 obtain⟨u,rfl,rx⟩:=vals1 r
 cases rx
 obtain⟨hz,lo,vs,hkv,hd⟩:=(show fX X.prog X.w H s.heap a (.dK kvs) from I.hok a _ ha)
 obtain⟨ep,hat⟩:=hd.dictAt
 obtain⟨hl,hk⟩:=Ej hkv
 refine PySem.W.kdl_call (PySem.W.kdl_dict lo) (I.ok.hd hc) hat (by rw[<-hl];exact hz) fun h' tk acc c kp e hacc=> ?_
 have hv:Vals (kvs.map fun kv=>kV kv.1) acc.toList:=Cj (by rw[List.length_map,Array.length_toList,hacc.1,hl]) fun i v hv=>by
  obtain⟨k,x,e1,e2⟩:=hacc.2 i v (by rw[<-Array.getElem?_toList];exact hv)
  obtain⟨y,hy⟩:=hk i k x e1
  exact⟨kV k,by rw[List.getElem?_map,hy];rfl,Jm e2⟩
 exact⟨.ref s.heap.objs.size,_,I.laid (t':=tk) kp (Nat.le_refl _) (show fX X.prog X.w _ h' _ (.lst (kvs.map fun kv=>kV kv.1)) from⟨by rw[List.length_map];exact hz,acc.toList,c,hv,by simpa using e⟩),rfl,q _ (I.hok.fresh (Nat.le_refl _))⟩
theorem Pq (hc:X.calm=true):sW X (.type "list") (fun xs H Q=>∃a kvs,xs=[.ref a]/\H a=some (.dK kvs)/\∀l,H l=none->Q (.ref l) (upd H l (.lst (kvs.map fun kv=>kV kv.1)))):=⟨RK hc⟩
end
end L2
set_option maxRecDepth 100000
namespace RB
open PySem L2 PySem.Spec PyProof.Rows
def R.In (ns:List Str):R->Prop
 | .num _=>True
 | .rd x=>x∈ns
 | .bin _ a b=>a.In ns/\b.In ns
 | .pick a b c=>a.In ns/\b.In ns/\c.In ns
 | .cho a ms=>a.In ns/\∀x∈ms,x∈ns
end RB
namespace RB
open PySem L2 PySem.Spec PyProof.Rows
theorem jd {S:List Addr}{H H':Hp}{q:Addr} (b:But S H H') (h:H' q=none) (hS:q∉S):H q=none:=by
 cases z:H q with
 | none=>rfl
 | some o=>rw[b _ _ hS z] at h;cases h
theorem xg {ns:List Str} (h:∀x∈ns,lK x):SeqAt.shaped (.list (ns.map PyData.str))=true:=by
 have:=Cg ns
 have h4:(PyData.list (ns.map PyData.str)).depth<=64:=by simp only[PyData.depth];omega
 have h5:(PyData.list (ns.map PyData.str)).canLay0=true:=by simp only[PyData.canLay0];exact Gv ns h
 show(_&&decide _)=true
 rw[h5,decide_eq_true h4];rfl
theorem TF {ns:List Str} (h:1<=ns.length):PyData.eqv (.list (ns.map PyData.str)) (.list [])=false:=by
 cases ns with
 | nil=>simp at h
 | cons n ns=>simp[PyData.eqv,PyData.eqvAll]
end RB
set_option maxRecDepth 100000
namespace L2
open PySem PySem.Spec PyProof.Rows
section
variable {X:Cx}{e st:Expr}{te ts:TE}{pos p2:Pos}
end
end L2
set_option maxRecDepth 100000
namespace RB
open PySem L2 PySem.Spec PyProof.Rows
def Chn (r:R):Kn->List Rdp->Prop
 | _,[]=>True
 | kn,p::us=>ev kn r= .inl p.1/\Chn r (kn.put p.1 p.2) us
theorem Chn.le {r:R}:∀{us:List Rdp}{kn:Kn},Chn r kn us->Kn.Le kn (kn.puts us)
 |[],kn,_=>Kn.Le.refl _
 | p::us,kn,h=>(Kn.qg (rZ h.1)).trans (Chn.le (us:=us) h.2)
theorem Chn.up {a r:R}:∀{us:List Rdp}{kn:Kn},(∀kn' x,Kn.Le kn kn'->ev kn' a= .inl x->ev kn' r= .inl x)->Chn a kn us->Chn r kn us
 |[],_,_,_=>trivial
 | p::us,kn,h,g=>⟨h kn p.1 (Kn.Le.refl _) g.1,Chn.up (us:=us) (fun kn' x l e=>h kn' x ((Kn.qg (rZ g.1)).trans l) e) g.2⟩
theorem Kn.fZ (kn:Kn) (us vs:List Rdp):kn.puts (us++vs)=(kn.puts us).puts vs:=by
 induction us generalizing kn with
 | nil=>rfl
 | cons u us ih=>exact ih _
theorem Chn.app {r:R}:∀{us vs:List Rdp}{kn:Kn},Chn r kn us->Chn r (kn.puts us) vs->Chn r kn (us++vs)
 |[],_,_,_,h=>h
 | p::us,vs,kn,g,h=>⟨g.1,Chn.app (us:=us) g.2 h⟩
end RB
set_option maxRecDepth 100000
namespace L2
open PySem PySem.Spec PyProof.Rows
def Itd (a:Addr) (o:Obj) (kvs:List (Key×V)):It where
 go:=fun i H=>i<kvs.length/\H a=some (.frz o (.dK kvs))
 yld:=fun i H x H'=>H'=H/\∃k v,kvs[i]? =some (k,v)/\x=kV k
 stop:=fun i H=>kvs.length<=i/\H a=some (.frz o (.dK kvs))
theorem Mv {P:Program}{w:World}{K:PySem.W.Frag}{tg:Expr}{a it:Addr}{o:Obj}{kvs:List (Key×V)}{vs:List (Key×Value)}{es:Array DictEntry}{ep:Nat} (hne:a≠it) (hkv:KV kvs vs) (hx:o.ExactDict) (hdat:o.data= .dict es ep) (hk:PySem.KeysOf (dY P w) es) (hp:Pairs (dY P w) es.toList vs) (hn:(vs.map (·.1)).Nodup):
 Turn P w K tg (Itd a o kvs) [it] it (fun i h=>h.IsKeyIter it a i kvs.length ep) where
 mem:=by simp
 obj:=fun i h st b hb=>by
  have e:b=it:=by simpa using hb
  subst e
  obtain⟨o,e,c,d⟩:=st
  exact⟨o,e,fun v z=>by rw[d] at z;cases z⟩
 keep:=fun i h h' st k=>st.at fun o e=>k it (by simp) o e
 item:=by
  intro X hP hw hK hc i pins s σ H E I hf st hg
  subst hP hw hK
  obtain⟨hi,hH⟩:=hg
  obtain⟨ho,_⟩:=(show fX X.prog X.w H s.heap a (.frz o (.dK kvs)) from I.hok a _ hH)
  have hm:s.heap.DictAt (dY X.prog X.w) a vs ep:=⟨o,es,ho,hx,hdat,hk,hp,hn⟩
  obtain⟨hl,hat⟩:=Ej hkv
  have hi':i<vs.length:=by rw[<-hl];exact hi
  obtain⟨⟨k,x⟩,hxk⟩:∃p,vs[i]? =some p:=⟨vs[i],by simp[hi']⟩
  obtain⟨y,hy⟩:=hat i k x hxk
  obtain⟨f0,f1,f2,f3,f4,f5⟩:=hf it (by simp)
  rw[hl] at st
  refine wpAny_pyNext_dict_item st hm hxk fun key h' hkey hit' hs'=> ?_
  have I1:Inv X pins σ H {s with heap:=h'}:=I.turned (t':=s.toks) (fun b o hb e=>hs'.extBut b o hb e) f0 f1 f3 f4 f5
  obtain⟨o',e',c',d'⟩:=id hit'
  exact⟨key,rfl,Vz (s:={s with heap:=h'}) e' c' d' (by decide) ⟨kV k,H,I1,Jm hkey,⟨rfl,k,y,hy,rfl⟩,by rw[hl];exact hit',fun b hb=>(hf b hb).1⟩⟩
 done:=by
  intro X hP hw hK hc i pins s σ H E I hf st hg
  subst hP hw hK
  obtain⟨hi,hH⟩:=hg
  obtain⟨ho,_⟩:=(show fX X.prog X.w H s.heap a (.frz o (.dK kvs)) from I.hok a _ hH)
  have hm:s.heap.DictAt (dY X.prog X.w) a vs ep:=⟨o,es,ho,hx,hdat,hk,hp,hn⟩
  obtain⟨hl,hat⟩:=Ej hkv
  obtain⟨f0,f1,f2,f3,f4,f5⟩:=hf it (by simp)
  rw[hl] at st
  exact wpAny_pyNext_dict_end (I.ok.hd hc) st hm (by rw[List.getElem?_eq_none_iff];omega) fun h' eb=>⟨rfl,I.turned (t':=s.toks) (fun b o hb e=>eb b o hb e) f0 f1 f3 f4 f5⟩
 self:=fun _ _ _ _ _ st h=>wpAny_pyIter_keyiter st h
section
variable {X:Cx}{tg:Expr}
def aaW (tl:TE):TI:=fun σ H R=>tl σ H fun x H1=>∃a kvs,x= .ref a/\H1 a=some (.dK kvs)/\∀o,R (Itd a o kvs) (upd H1 a (.frz o (.dK kvs)))
theorem Zf {l:Expr}{tl:TE} (hl:PE X l tl):PI X tg l (aaW tl):=by
 intro pins s σ H R I h
 refine thn (hl pins s σ H _ I h) fun v s1 ⟨x,H1,I1,r1,q1⟩=> ?_
 obtain⟨a,kvs,e,hq,q⟩:=q1
 subst e
 cases r1
 obtain⟨hz,lo,vs,hkv,hd⟩:=(show fX X.prog X.w H1 s1.heap a (.dK kvs) from I1.hok a _ hq)
 obtain⟨o,es,ep,ho,hx,hdat,hk,hp,hn⟩:=id hd
 have hl:=(Ej hkv).1
 have I2:Inv X pins σ (upd H1 a (.frz o (.dK kvs))) {s1 with heap:=s1.heap,toks:=s1.toks}:=I1.write (x:=a) (e:=a) (h':=s1.heap) (by rw[hq];exact trivial) (.inl rfl) (fun b u _ e=>e) ⟨o,ho⟩ ⟨ho,hz,lo,vs,hkv,hd⟩
 refine wpAny_pyIter_dict lo ⟨o,es,ho,hx,hdat,hk,hp,hn⟩ ?_
 have hlt:a<s1.heap.objs.size:=Heap.lt_size ho
 rw[<-hl]
 refine⟨s1.heap.objs.size,[s1.heap.objs.size],_,_,_,rfl,I2.kept (t':=s1.toks) fun b o e=>Heap.get?_push_of_some _ e,Mv (Nat.ne_of_lt hlt) hkv hx hdat hk hp hn,⟨_,Heap.get?_push_size _ rfl,rfl,rfl⟩,fun b hb=> ?_,q o⟩
 have e:b=s1.heap.objs.size:=by simpa using hb
 subst e
 exact I2.M5 (Nat.le_refl _) (I2.hok.fresh (Nat.le_refl _))
theorem Ek {l:Expr}{tl:TE} (hl:QE X l tl):QI X tg l (aaW tl):=⟨Zf hl.h⟩
end
theorem JW {a:Addr}{o:Obj}{kvs:List (Key×V)}{g:TG}{tb:TS}{D:Ends}{σ:St}{H:Hp} (Pv:Nat->St->Hp->Prop) (h0:Pv 0 σ H) (hl:∀i σ H,i<=kvs.length->Pv i σ H->H a=some (.frz o (.dK kvs)))
 (hs:∀i k v σ H,kvs[i]? =some (k,v)->Pv i σ H->g (kV k) σ H fun σ2 H2=>tb {D with nx:=Pv (i+1),ct:=Pv (i+1),bk:=D.nx} σ2 H2) (hd:∀σ H,Pv kvs.length σ H->D.nx σ H):
 ∃W:Nat->Nat->St->Hp->Prop,(∃m,W 0 m σ H)/\∀i m σ H,W i m σ H->
  ((Itd a o kvs).stop i H/\D.nx σ H)\/((Itd a o kvs).go i H/\∃N:St->Hp->Prop,(∀σ' H',N σ' H'->∃m',m'<m/\W (i+1) m' σ' H')/\∀x H',(Itd a o kvs).yld i H x H'->g x σ H' fun σ2 H2=>tb {D with nx:=N,ct:=N,bk:=D.nx} σ2 H2):=by
 refine⟨fun i m σ H=>m=kvs.length - i/\i<=kvs.length/\Pv i σ H,⟨kvs.length,by simp,Nat.zero_le _,h0⟩, ?_⟩
 rintro i m σ H ⟨rfl,hi,p⟩
 have q:=hl i σ H hi p
 by_cases hlt:i<kvs.length
 ·refine .inr ⟨⟨hlt,q⟩,Pv (i+1),fun σ' H' p'=>⟨kvs.length - (i+1),by omega,rfl,hlt,p'⟩,fun x H' y=> ?_⟩
  obtain⟨e,k,v,hk,ex⟩:=y
  subst e ex
  exact hs i k v σ _ hk p
 ·have e:i=kvs.length:=by omega
  subst e
  exact .inl ⟨⟨Nat.le_refl _,q⟩,hd σ H p⟩
section
variable {X:Cx}
theorem RL:sU X (.type "dict") (fun xs H Q=>∃a kvs,xs=[.ref a]/\Rd H a (.dK kvs)/\∀p,H p=none->Q (.ref p) (upd H p (.dK kvs))):=by
 intro pins s σ H xs us Q I r h
 obtain⟨a,kvs,rfl,ha,q⟩:=h
 obtain⟨u,rfl,rx⟩:=vals1 r
 cases rx
 obtain⟨hz,lo,vs,hkv,hd⟩:=(show fX X.prog X.w H s.heap a (.dK kvs) from ha.ok I.hok)
 have hl:=(Ej hkv).1
 refine kt_call_dict lo hd (Nat.le_trans (Nat.le_of_eq hl.symm) hz) fun h' hd' hs'=> ?_
 have keep:∀b u,s.heap.get? b=some u->h'.get? b=some u:=fun b u e=>by
  have hb:b≠s.heap.objs.size:=Nat.ne_of_lt (Heap.lt_size e)
  rw[hs'.2 b hb];exact Heap.get?_push_of_some _ e
 refine⟨.ref s.heap.objs.size,_,I.laid (t':=s.toks) keep (Nat.le_refl _) (show fX X.prog X.w _ h' _ (.dK kvs) from⟨hz, ?_,vs,hkv,hd'⟩),rfl,q _ (I.hok.fresh (Nat.le_refl _))⟩
 exact beq_eq_false_iff_ne.mpr (Nat.ne_of_gt I.big)
theorem JX:sW X (.type "dict") (fun xs H Q=>∃a kvs,xs=[.ref a]/\Rd H a (.dK kvs)/\∀p,H p=none->Q (.ref p) (upd H p (.dK kvs))):=⟨RL⟩
end
theorem WL {κ:Type}:∀{kvs:List (κ×V)}{vs:List (κ×Value)},KV kvs vs->∀(i:Nat) (k:κ) (x:Value),vs[i]? =some (k,x)->∃y,kvs[i]? =some (k,y)/\RelV y x
 | _,_, .nil=>fun i k x h=>by simp at h
 | _,_, .cons (a:=p) (b:=q) h t=>fun i k x e=>by
   cases i with
   | zero=>cases e;exact⟨p.2,by rw[List.getElem?_cons_zero];cases p;simp only at h ⊢;rw[h.1],h.2⟩
   | succ i=>exact WL t i k x (by simpa using e)
section
variable {X:Cx}
theorem JZ {ts:List Str}:∀{us:List Value},Vals (ts.map V.str) us->StrsAre us ts:=by
 induction ts with
 | nil=>intro us r;cases r;exact .nil
 | cons n ns ih=>
   intro us r
   rw[List.map_cons] at r
   cases r with
   | cons r1 r2=>
     obtain⟨t,e⟩:=r1
     subst e
     exact .cons n t (ih r2)
theorem Gx:∀{us:List Value}{ts:List Str},StrsAre us ts->Vals (ts.map V.str) us
 | _,_, .nil=> .nil
 | _,_, .cons y t h=> .cons ⟨t,rfl⟩ (Gx h)
theorem Nt:sU X (.builtin "sorted") (fun xs H Q=>∃(a:Addr) (ts:List Str),xs=[.ref a]/\SqL X.K H a (ts.map V.str)/\ts.length<64/\∀(p:Addr) (us:List Str),H p=none->us.Perm ts->Q (.ref p) (upd H p (.lst (us.map V.str)))):=by
 intro pins s σ H xs us Q I r h
 obtain⟨a,ts,rfl,ha,hl,q⟩:=h
 obtain⟨u,rfl,rx⟩:=vals1 r
 cases rx
 obtain⟨its,rv,pl,_⟩:=I.list ha
 have hli:its.length=ts.length:=by have:=rv.length;rw[List.length_map] at this;exact this.symm
 refine sorted_strs pl.isList (JZ rv) (by omega) fun out ss h1 h2 h3=> ?_
 obtain⟨e,he⟩:=sortedAll_at s.heap its out
 have hfr:H (s.heap.objs.size+1)=none:=I.hok.fresh (Nat.le_succ _)
 have hsl:=h2.length_eq
 have hz:(ss.map V.str).length<=sizeLine:=by rw[List.length_map,hsl,sizeLine_eq];omega
 exact⟨.ref (s.heap.objs.size+1),_,I.laid (t':=s.toks) (o:= .lst (ss.map V.str)) (fun b u e=>sortedAll_old e) (Nat.le_succ _) ⟨hz,out.toList,e,Gx h1,by simpa [seqObj] using he⟩,rfl,q _ ss hfr h2⟩
theorem RM:sW X (.builtin "sorted") (fun xs H Q=>∃(a:Addr) (ts:List Str),xs=[.ref a]/\SqL X.K H a (ts.map V.str)/\ts.length<64/\∀(p:Addr) (us:List Str),H p=none->us.Perm ts->Q (.ref p) (upd H p (.lst (us.map V.str)))):=⟨Nt⟩
end
end L2
namespace RB
open PySem L2 PySem.Spec PyProof.Rows
def rdT (p:Rdp):PyData:= .tuple [.str p.1, .int p.2]
theorem Zg (p t:Rdp):PyData.eqv (rdT p) (rdT t)=decide (p=t):=by
 obtain⟨a,i⟩:=p
 obtain⟨b,j⟩:=t
 simp only[rdT,PyData.eqv,PyData.eqvAll]
 by_cases h1:a=b
 ·by_cases h2:i=j
  ·simp[h1,h2]
  ·simp[h1,h2]
 ·simp[h1]
theorem J0 {p:Rdp} (h:lK p.1):SeqAt.shaped (rdT p)=true:=by
 have hs:=Ci h
 have h5:(rdT p).canLay0=true:=by
  show(PyData.strOk p.1&&(true&&true))=true
  rw[hs];rfl
 have h4:(rdT p).depth<=64:=by simp only[rdT,PyData.depth,PyData.depthAll];omega
 show(_&&decide _)=true
 rw[h5,decide_eq_true h4];rfl
open Classical in
def isT (H:Hp) (t:Rdp):Value->Bool
 | .ref a=>decide (H a=some (.tup (rdV t)))
 | _=>false
open Classical in
theorem TJ {H:Hp}{t:Rdp}{a:Addr} (h:H a=some (.tup (rdV t))):isT H t (.ref a)=true:=by
 unfold isT
 exact decide_eq_true h
open Classical in
theorem WM {H:Hp}{t:Rdp}{a:Addr} (h:¬H a=some (.tup (rdV t))):isT H t (.ref a)=false:=by
 unfold isT
 exact decide_eq_false h
theorem TQ {p t:Rdp} (h:rdV p=rdV t):p=t:=by
 obtain⟨a,i⟩:=p
 obtain⟨b,j⟩:=t
 unfold rdV at h
 simp only[List.cons.injEq,V.str.injEq,V.int.injEq,and_true] at h
 rw[h.1,h.2]
theorem TV {H:Hp}{t:Rdp}:∀{as:List Addr}{ps:List Rdp}{its:List Value},gW H as ps->Vals (as.map V.ref) its->its.any (isT H t)=decide (t∈ps)
 | _,_,_, .nil,r=>by cases r;simp
 | _,_,_, .cons (a:=a) (p:=p) (as:=as) (ps:=ps) h g,r=>by
   cases r with
   | cons r1 r2=>
     cases r1
     rw[List.any_cons,TV g r2]
     have e:isT H t (.ref a)=decide (t=p):=by
      by_cases z:t=p
      ·rw[decide_eq_true z,TJ (by rw[z];exact h)]
      ·rw[decide_eq_false z,WM (fun w=>z (TQ (by rw[h] at w;exact(HO.tup.inj (Option.some.inj w)).symm)))]
     rw[e]
     by_cases z:t=p
     ·simp[z]
     ·simp[z]
theorem U9 {X:Cx} (hu:X.A.units+64<cLine):OpR X (compareOp .NotIn) (fun x y H Q=>∃(a l:Addr) (as:List Addr) (ps:List Rdp) (t:Rdp),x= .ref a/\y= .ref l/\H a=some (.tup (rdV t))/\SqL X.K H l (as.map V.ref)/\gW H as ps/\(∀p∈ps,lK p.1)/\lK t.1/\Q (.bl (!decide (t∈ps))) H):=by
 intro pins s σ H x y v u Q I rx ry h
 obtain⟨a,l,as,ps,t,rfl,rfl,ha,hl,hR,hg,ht,q⟩:=h
 cases rx
 cases ry
 obtain⟨its,r,pl,_⟩:=I.list hl
 have dt:yx X.K H (.ref a) (rdT t):= .tup (SqT.of ha) (.cons (.str _) (.cons (.int _) .nil))
 obtain⟨bs,rt⟩:=dt.reads I (show RelV (.ref a) (.ref a) from rfl)
 refine SeqAt.notIn_listAt (isT H t) pl.isList (fun y hy=> ?_) ⟨.bl _,H,I,rfl, ?_⟩
 ·have hy:y∈its:=by simpa using hy
  obtain⟨i,hi⟩:=List.getElem?_of_mem hy
  have hli:i<(as.map V.ref).length:=by
   have:=(List.getElem?_eq_some_iff.mp hi).1
   rw[r.length];exact this
  have hx:(as.map V.ref)[i]? =some ((as.map V.ref)[i]):=List.getElem?_eq_getElem hli
  obtain⟨c,hc,ec⟩:=RD hx
  obtain⟨p,hp,ep⟩:=hR.get i c hc
  obtain⟨z,hz,rz⟩:=r.get hx
  rw[hi] at hz
  cases hz
  rw[ec] at rz
  cases rz
  have dp:yx X.K H (.ref c) (rdT p):= .tup (SqT.of ep) (.cons (.str _) (.cons (.int _) .nil))
  obtain⟨cs,rp⟩:=dp.reads I (show RelV (.ref c) (.ref c) from rfl)
  have k:SeqAt.EqAt X.A.in1 s (.ref c) (.ref a) (PyData.eqv (rdT p) (rdT t)):=SeqAt.eqAt_reads _ _ _ _ _ _ _ _ rp rt (SeqAt.canLay_of_shaped (J0 (hg p (List.mem_of_getElem? hp)))) (SeqAt.canLay_of_shaped (J0 ht)) (by
   have h1:(rdT p).depth<=4:=by simp only[rdT,PyData.depth,PyData.depthAll];omega
   have h2:min (rdT p).depth (rdT t).depth<=(rdT p).depth:=Nat.min_le_left _ _
   have h3:X.A.in1.units=X.A.units+1:=rfl
   omega)
  rw[Zg] at k
  have e:isT H t (.ref c)=decide (p=t):=by
   by_cases z:p=t
   ·rw[decide_eq_true z,TJ (by rw[<-z];exact ep)]
   ·rw[decide_eq_false z,WM (fun w=>z (TQ (by rw[ep] at w;exact HO.tup.inj (Option.some.inj w))))]
  rw[e];exact k
 ·rw[show its.toArray.any (isT H t)=its.any (isT H t) by simp,TV hR r]
  exact q
theorem RN {X:Cx} (hu:X.A.units+64<cLine):QOp X (compareOp .NotIn) (fun x y H Q=>∃(a l:Addr) (as:List Addr) (ps:List Rdp) (t:Rdp),x= .ref a/\y= .ref l/\H a=some (.tup (rdV t))/\SqL X.K H l (as.map V.ref)/\gW H as ps/\(∀p∈ps,lK p.1)/\lK t.1/\Q (.bl (!decide (t∈ps))) H):=⟨U9 hu⟩
end RB
namespace L2
open PySem PySem.Spec PyProof.Rows
section
variable {X:Cx}{o e:Expr}{td ty:TE}{apos cpos:Pos}
theorem Pr (ho:QE X o td) (he:QE X e ty) (m:M1 X o "pop" apos e cpos):QE X (.Call (.Attribute o "pop" apos) [e] [] cpos) (V7 td ty):=⟨V9 ho.h he.h m⟩
end
end L2
set_option maxRecDepth 100000
namespace RB
open PySem L2 PySem.Spec PyProof.Rows
def R.T3:R->Prop
 | .num _=>True
 | .rd _=>True
 | .bin op a b=>a.T3/\b.T3/\(op= .times->∃n,b= .num n/\ -100<=n/\n<=100)
 | .pick a b c=>a.T3/\b.T3/\c.T3
 | .cho a ns=>a.T3/\1<=ns.length
structure Rk3 (ns:List Str) (d:Nat) (r:R):Prop where
 g:r.Good
 t:r.T3
 i:r.In ns
 d:r.depth<=d
def TX:Sp:=fun vs H Q _=>∃(p l:Addr) (c:Nat) (ns:List Str),vs=[.ref p, .ref l]/\eU H p c/\c<=50000/\H l=some (.lst (ns.map V.str))/\1<=ns.length/\ns.length<=9/\(∀x∈ns,lK x)/\
 ∀a r H',But [p] H H'->eU H' p (c+6)->IsR H' a r->Rk3 ns 1 r->Q (.ref a) H'
def tk3:Nat->Nat
 | 0=>10
 | d+1=>3 * tk3 d+20
theorem Zh (d:Nat):10<=tk3 d:=by
 induction d with
 | zero=>exact Nat.le_refl _
 | succ d ih=>show 10<=3 * tk3 d+20;omega
def WN (d:Nat):Sp:=fun vs H Q _=>∃(p l:Addr) (c:Nat) (ns:List Str) (deep:Int),vs=[.ref p, .ref l, .int deep]/\deep=(d:Int)/\d<=3/\eU H p c/\c<=10000+1000 *(4 - d)/\H l=some (.lst (ns.map V.str))/\1<=ns.length/\ns.length<=9/\(∀x∈ns,lK x)/\
 ∀a r H',But [p] H H'->eU H' p (c+tk3 d)->IsR H' a r->Rk3 ns (d+1) r->Q (.ref a) H'
theorem eU.ne {H:Hp}{p q:Addr}{c:Nat} (h:eU H p c) (hq:H q=none):q≠p:=fun z=>by
 obtain⟨r,m,k,e',_⟩:=h
 rw[<-z,hq] at e';cases e'
theorem eU.nel {H:Hp}{p l:Addr}{c:Nat}{xs:List V} (h:eU H p c) (hl:H l=some (.lst xs)):l∉[p]:=fun z=>by
 obtain⟨r,m,k,e',_⟩:=h
 have:l=p:=by simpa using z
 rw[this,e'] at hl;cases hl
theorem eU.mono {H:Hp}{p:Addr}{c c':Nat} (h:eU H p c) (hc:c<=c'):eU H p c':=by
 obtain⟨r,m,k,e,h0,h1⟩:=h
 exact⟨r,m,k,e,h0,by omega⟩
def ajp:Nat->Sp
 | 0=>fun _ _ _ _=>False
 | d+1=>WN d
def WQ:Sp:=fun vs H Q _=>∃(p l:Addr) (c:Nat) (ns:List Str) (deep:Int),vs=[.ref p, .ref l, .int deep]/\0<=deep/\deep<4/\eU H p c/\c<=6000/\H l=some (.lst (ns.map V.str))/\1<=ns.length/\ns.length<=9/\(∀x∈ns,lK x)/\
 ∀a r H',But [p] H H'->eU H' p (c+530)->IsR H' a r->Rk3 ns 4 r->Q (.ref a) H'
end RB
set_option maxRecDepth 100000
namespace RB
open PySem L2 PySem.Spec PyProof.Rows
theorem Mw {κ:Type} [DecidableEq κ] (kvs:List (κ×V)) (k:κ) (v:V):(putK kvs k v).map (·.1)=if(kvs.any fun kv=>decide (kv.1=k))=true then kvs.map (·.1) else kvs.map (·.1)++[k]:=by
 unfold putK
 split
 ·rw[List.map_map]
  apply List.map_congr_left
  intro p _
  show(if p.1=k then(p.1,v) else p).1=p.1
  split<;>rfl
 ·rw[List.map_append];rfl
theorem Mx {kvs:List (Key×V)}{ns:List Str} (h:kvs.map (·.1)=ns.map Sum.inr):kvs.map (fun kv=>kV kv.1)=ns.map V.str:=by
 have:kvs.map (fun kv=>kV kv.1)=(kvs.map (·.1)).map kV:=by rw[List.map_map];rfl
 rw[this,h,List.map_map];rfl
end RB
set_option maxRecDepth 100000
namespace RB
open PySem L2 PySem.Spec PyProof.Rows
structure mZ (kvs:List (Key×V)) (ks:List Str):Prop where
 k:kvs.map (·.1)=ks.map Sum.inr
 nd:ks.Nodup
theorem mZ.len {kvs:List (Key×V)}{ks:List Str} (h:mZ kvs ks):kvs.length=ks.length:=by
 have:=congrArg List.length h.k
 rwa [List.length_map,List.length_map] at this
theorem Nu {kvs:List (Key×V)}{ks:List Str} (h:mZ kvs ks) (x:Str):(kvs.any fun kv=>decide (kv.1=(.inr x:Key)))=decide (x∈ks):=by
 have e:(kvs.any fun kv=>decide (kv.1=(.inr x:Key)))=(kvs.map (·.1)).any (fun k=>decide (k=(.inr x:Key))):=by rw[List.any_map];rfl
 rw[e,h.k,List.any_map]
 clear e h
 induction ks with
 | nil=>rfl
 | cons y ks ih=>
   rw[List.any_cons,ih]
   by_cases hy:x=y
   ·subst hy;simp
   ·have:¬(y=x):=fun z=>hy z.symm
    simp[hy,this]
theorem mZ.none {kvs:List (Key×V)}{ks:List Str} (h:mZ kvs ks) {x:Str}:dH kvs (.inr x)=none ↔ x∉ks:=by
 have e:=Nu h x
 rw[yR] at e
 constructor
 ·intro z m
  rw[z] at e
  simp[m] at e
 ·intro m
  cases z:dH kvs (.inr x) with
  | none=>rfl
  | some v=>rw[z] at e;simp[m] at e
theorem mZ.ql {kvs:List (Key×V)}{ks:List Str} (h:mZ kvs ks) {x:Str} (hx:x∉ks) (v:V):mZ (putK kvs (.inr x) v) (ks++[x]):=by
 refine⟨?_, ?_⟩
 ·rw[Mw,Nu h x,decide_eq_false hx,if_neg (by decide),h.k,List.map_append];rfl
 ·rw[List.nodup_append]
  exact⟨h.nd,by simp,fun a ha b hb=>by
   have:b=x:=by simpa using hb
   rw[this];exact fun z=>hx (z▸ha)⟩
theorem mZ.Nv {kvs:List (Key×V)}{ks:List Str} (h:mZ kvs ks) {x:Str} (hx:x∈ks) (v:V):mZ (putK kvs (.inr x) v) ks:=by
 refine⟨?_,h.nd⟩
 rw[Mw,Nu h x,decide_eq_true hx,if_pos rfl,h.k]
theorem mZ.drop {kvs:List (Key×V)}{ks:List Str} (h:mZ kvs ks) (x:Str):mZ (jP kvs (.inr x)) (ks.filter fun y=>decide (y≠x)):=by
 refine⟨?_,h.nd.sublist List.filter_sublist⟩
 unfold jP
 have e:(kvs.filter fun kv=>decide (kv.1≠(.inr x:Key))).map (·.1)=(kvs.map (·.1)).filter fun k=>decide (k≠(.inr x:Key)):=by rw[List.filter_map];rfl
 rw[e,h.k,List.filter_map]
 congr 1
 apply List.filter_congr
 intro y _
 show decide ((Sum.inr y:Key)≠Sum.inr x)=decide (y≠x)
 by_cases hy:y=x
 ·simp[hy]
 ·simp[hy]
theorem J1 {ks:List Str} (nd:ks.Nodup) {x:Str} (hx:x∈ks):(ks.filter fun y=>decide (y≠x)).length+1=ks.length:=by
 induction ks with
 | nil=>cases hx
 | cons y ks ih=>
   rw[List.nodup_cons] at nd
   by_cases hy:y=x
   ·subst hy
    have:(ks.filter fun z=>decide (z≠y))=ks:=List.filter_eq_self.mpr fun z hz=>by simp;exact fun e=>nd.1 (e▸hz)
    rw[List.filter_cons]
    simp only[ne_eq,not_true_eq_false,decide_false,if_false]
    simp
    exact fun a ha e=>nd.1 (e▸ha)
   ·have hm:x∈ks:=by
     rcases List.mem_cons.mp hx with z | z
     ·exact absurd z.symm hy
     ·exact z
    have:=ih nd.2 hm
    rw[List.filter_cons]
    simp only[ne_eq] at this ⊢
    simp[hy];simpa using this
def nmK (n:Nat):List Str:=(List.range n).map aq
theorem J2 {k:Nat} (h:k<26):lK (aq k):=Nq _ (List.mem_append_left _ (List.mem_map.mpr ⟨k,List.mem_range.mpr h,rfl⟩))
theorem RP:∀i j:Fin 26,aq i.1=aq j.1->i=j:=by decide +kernel
theorem iZ {i j:Nat} (hi:i<26) (hj:j<26) (h:aq i=aq j):i=j:=by
 have:=RP ⟨i,hi⟩ ⟨j,hj⟩ h
 exact Fin.mk.inj this
theorem Aq {κ:Type} [DecidableEq κ] (k j:κ):∀kvs:List (κ×V),dH (jP kvs k) j=if j=k then none else dH kvs j
 |[]=>by unfold jP;rw[List.filter_nil,yQ];split<;>rfl
 | p::r=>by
   have ih:=Aq k j r
   unfold jP at ih ⊢
   rw[List.filter_cons]
   by_cases e:p.1=k
   ·rw[if_neg (by simp[e]),ih]
    by_cases z:j=k
    ·rw[if_pos z,if_pos z]
    ·rw[if_neg z,if_neg z,jE (fun w=>z (w.symm.trans e))]
   ·rw[if_pos (by simp[e])]
    by_cases z:p.1=j
    ·rw[jV z,jV z,if_neg (fun w=>e (z.trans w))]
    ·rw[jE z,jE z,ih]
theorem dD {n:Nat}{x:Str}:x∈nmK n ↔∃k,k<n/\x=aq k:=by
 unfold nmK
 rw[List.mem_map]
 constructor
 ·rintro⟨k,hk,rfl⟩;exact⟨k,List.mem_range.mp hk,rfl⟩
 ·rintro⟨k,hk,rfl⟩;exact⟨k,List.mem_range.mpr hk,rfl⟩
theorem El (n:Nat):nmK (n+1)=nmK n++[aq n]:=by unfold nmK;rw[List.range_succ,List.map_append];rfl
theorem jn (n:Nat):(nmK n).length=n:=by unfold nmK;rw[List.length_map,List.length_range]
theorem vM {n:Nat} (h:n<=26):∀x∈nmK n,lK x:=fun x hx=>by
 obtain⟨k,hk,rfl⟩:=dD.mp hx
 exact J2 (by omega)
theorem R.In.mono {ns ms:List Str} (h:∀x∈ns,x∈ms):∀{r:R},r.In ns->r.In ms
 | .num _,_=>trivial
 | .rd _,i=>h _ i
 | .bin _ _ _,i=>⟨i.1.mono h,i.2.mono h⟩
 | .pick _ _ _,i=>⟨i.1.mono h,i.2.1.mono h,i.2.2.mono h⟩
 | .cho _ _,i=>⟨i.1.mono h,fun x hx=>h x (i.2 x hx)⟩
theorem Rk3.mono {ns ms:List Str}{d:Nat}{r:R} (k:Rk3 ns d r) (h:∀x∈ns,x∈ms):Rk3 ms d r:=⟨k.g,k.t,k.i.mono h,k.d⟩
abbrev Rn:=Str->Option R
def Rn.put (rc:Rn) (x:Str) (r:R):Rn:=fun y=>if y=x then some r else rc y
def Rn.del (rc:Rn) (x:Str):Rn:=fun y=>if y=x then none else rc y
def Kn.del (kn:Kn) (x:Str):Kn:=fun y=>if y=x then none else kn y
structure Ax (n:Nat) (gv:Kn) (rc:Rn):Prop where
 dom:∀k,k<n->gv (aq k)≠none\/rc (aq k)≠none
 gk:∀x,gv x≠none->x∈nmK n
 rk:∀x r,rc x=some r->∃k,k<n/\x=aq k/\Rk3 (nmK k) 4 r
 dj:∀x,gv x≠none->rc x=none
 g0:0<n->gv (aq 0)≠none
theorem Ax.fresh {n:Nat}{gv:Kn}{rc:Rn} (h:Ax n gv rc) (hn:n<26):gv (aq n)=none/\rc (aq n)=none:=by
 constructor
 ·cases e:gv (aq n) with
  | none=>rfl
  | some v=>
    obtain⟨k,hk,ek⟩:=dD.mp (h.gk (aq n) (by rw[e];simp))
    have:=iZ hn (by omega) ek
    omega
 ·cases e:rc (aq n) with
  | none=>rfl
  | some r=>
    obtain⟨k,hk,ek,_⟩:=h.rk _ _ e
    have:=iZ hn (by omega) ek
    omega
theorem Ax.Zi {n:Nat}{gv:Kn}{rc:Rn} (h:Ax n gv rc) (hn:n<26) (v:Int):Ax (n+1) (gv.put (aq n) v) rc:=by
 obtain⟨f1,f2⟩:=h.fresh hn
 refine⟨fun k hk=> ?_,fun x hx=> ?_,fun x r e=> ?_,fun x hx=> ?_,fun _=> ?_⟩
 ·unfold Kn.put
  by_cases e:k=n
  ·subst e;left;rw[if_pos rfl];simp
  ·rcases h.dom k (by omega) with z | z
   ·left;rw[if_neg (fun w=>e (iZ (by omega) hn w))];exact z
   ·exact .inr z
 ·rw[El]
  unfold Kn.put at hx
  by_cases e:x=aq n
  ·rw[e];simp
  ·rw[if_neg e] at hx;exact List.mem_append_left _ (h.gk x hx)
 ·obtain⟨k,hk,ek,o⟩:=h.rk x r e
  exact⟨k,by omega,ek,o⟩
 ·unfold Kn.put at hx
  by_cases e:x=aq n
  ·rw[e];exact f2
  ·rw[if_neg e] at hx;exact h.dj x hx
 ·unfold Kn.put
  by_cases e:aq 0=aq n
  ·rw[if_pos e];simp
  ·rw[if_neg e]
   by_cases z:n=0
   ·subst z;exact absurd rfl e
   ·exact h.g0 (by omega)
theorem Ax.ac1 {n:Nat}{gv:Kn}{rc:Rn} (h:Ax n gv rc) (hn:n<26) (h0:0<n) {r:R} (o:Rk3 (nmK n) 4 r):Ax (n+1) gv (rc.put (aq n) r):=by
 obtain⟨f1,f2⟩:=h.fresh hn
 refine⟨fun k hk=> ?_,fun x hx=> ?_,fun x r' e=> ?_,fun x hx=> ?_,fun _=>h.g0 h0⟩
 ·unfold Rn.put
  by_cases e:k=n
  ·subst e;right;rw[if_pos rfl];simp
  ·rcases h.dom k (by omega) with z | z
   ·exact .inl z
   ·right;rw[if_neg (fun w=>e (iZ (by omega) hn w))];exact z
 ·rw[El];exact List.mem_append_left _ (h.gk x hx)
 ·unfold Rn.put at e
  by_cases z:x=aq n
  ·rw[if_pos z] at e;cases e;exact⟨n,by omega,z,o⟩
  ·rw[if_neg z] at e
   obtain⟨k,hk,ek,o⟩:=h.rk x r' e
   exact⟨k,by omega,ek,o⟩
 ·unfold Rn.put
  rw[if_neg (fun z=>by rw[z,f1] at hx;exact hx rfl)];exact h.dj x hx
theorem Ax.setG {n:Nat}{gv:Kn}{rc:Rn} (h:Ax n gv rc) {k:Nat} (hk:k<n) (v:Int):Ax n (gv.put (aq k) v) (rc.del (aq k)):=by
 refine⟨fun j hj=> ?_,fun x hx=> ?_,fun x r e=> ?_,fun x hx=> ?_,fun z=> ?_⟩
 ·unfold Kn.put Rn.del
  by_cases e:aq j=aq k
  ·left;rw[if_pos e];simp
  ·rw[if_neg e,if_neg e];exact h.dom j hj
 ·unfold Kn.put at hx
  by_cases e:x=aq k
  ·rw[e];exact dD.mpr ⟨k,hk,rfl⟩
  ·rw[if_neg e] at hx;exact h.gk x hx
 ·unfold Rn.del at e
  by_cases z:x=aq k
  ·rw[if_pos z] at e;cases e
  ·rw[if_neg z] at e;exact h.rk x r e
 ·unfold Rn.del
  unfold Kn.put at hx
  by_cases z:x=aq k
  ·rw[if_pos z]
  ·rw[if_neg z] at hx ⊢;exact h.dj x hx
 ·unfold Kn.put
  split
  ·simp
  ·exact h.g0 z
theorem Ax.afN {n:Nat}{gv:Kn}{rc:Rn} (h:Ax n gv rc) {k:Nat} (hn:n<=26) (hk:k<n) (h0:0<k) {r:R} (o:Rk3 (nmK k) 4 r):Ax n (gv.del (aq k)) (rc.put (aq k) r):=by
 refine⟨fun j hj=> ?_,fun x hx=> ?_,fun x r' e=> ?_,fun x hx=> ?_,fun z=> ?_⟩
 ·unfold Kn.del Rn.put
  by_cases e:aq j=aq k
  ·right;rw[if_pos e];simp
  ·rw[if_neg e,if_neg e];exact h.dom j hj
 ·unfold Kn.del at hx
  by_cases e:x=aq k
  ·rw[e];exact dD.mpr ⟨k,hk,rfl⟩
  ·rw[if_neg e] at hx;exact h.gk x hx
 ·unfold Rn.put at e
  by_cases z:x=aq k
  ·rw[if_pos z] at e;cases e;exact⟨k,hk,z,o⟩
  ·rw[if_neg z] at e;exact h.rk x r' e
 ·unfold Rn.put
  unfold Kn.del at hx
  by_cases z:x=aq k
  ·rw[if_pos z] at hx;exact absurd rfl hx
  ·rw[if_neg z] at hx ⊢;exact h.dj x hx
 ·unfold Kn.del
  rw[if_neg (fun w=>by have:=iZ (by omega) (by omega) w;omega)];exact h.g0 z
end RB
namespace RB
open PySem L2 PySem.Spec PyProof.Rows
structure Bld (H:Hp) (kg kc:List (Key×V)) (n:Nat) (gv:Kn) (rc:Rn):Prop where
 ok:Ax n gv rc
 k:∃gs cs,mZ kg gs/\mZ kc cs/\gs.length+cs.length=n
 g:∀x,dH kg (.inr x)=(gv x).map V.int
 r:∀x r,rc x=some r->∃b,dH kc (.inr x)=some (.ref b)/\IsR H b r
 rn:∀x,rc x=none->dH kc (.inr x)=none
theorem Bld.tups {H H':Hp}{kg kc:List (Key×V)}{n:Nat}{gv:Kn}{rc:Rn} (h:Bld H kg kc n gv rc) (t:jz H H'):Bld H' kg kc n gv rc:=
 ⟨h.ok,h.k,h.g,fun x r e=>let ⟨b,h1,h2⟩:=h.r x r e;⟨b,h1,h2.tups t⟩,h.rn⟩
def jW (H:Hp) (h g c:Addr) (n:Nat) (gv:Kn) (rc:Rn):Prop:=∃kg kc,H h=some (.tup [.ref g, .ref c])/\H g=some (.dK kg)/\H c=some (.dK kc)/\Bld H kg kc n gv rc
theorem jW.same {H H':Hp}{h g c:Addr}{n:Nat}{gv:Kn}{rc:Rn} (a:jW H h g c n gv rc) (s:aM H H'):jW H' h g c n gv rc:=by
 obtain⟨kg,kc,e,e1,e2,b⟩:=a
 exact⟨kg,kc,s _ _ e,s _ _ e1,s _ _ e2,b.tups (aM.tups s)⟩
theorem Bld.Zi {H:Hp}{kg kc:List (Key×V)}{n:Nat}{gv:Kn}{rc:Rn} (h:Bld H kg kc n gv rc) (hn:n<26) (v:Int):Bld H (putK kg (.inr (aq n)) (.int v)) kc (n+1) (gv.put (aq n) v) rc:=by
 obtain⟨gs,cs,h1,h2,h3⟩:=h.k
 have hx:aq n∉gs:=h1.none.mp (by rw[h.g,(h.ok.fresh hn).1];rfl)
 refine⟨h.ok.Zi hn v,⟨_,cs,h1.ql hx _,h2,by rw[List.length_append];simp;omega⟩,fun x=> ?_,h.r,h.rn⟩
 rw[iQ]
 unfold Kn.put
 by_cases z:x=aq n
 ·rw[if_pos (by rw[z]),if_pos z];rfl
 ·rw[if_neg (fun w=>z (Sum.inr.inj w)),if_neg z];exact h.g x
theorem Bld.ac1 {H:Hp}{kg kc:List (Key×V)}{n:Nat}{gv:Kn}{rc:Rn} (h:Bld H kg kc n gv rc) (hn:n<26) (h0:0<n) {b:Addr}{r:R} (o:Rk3 (nmK n) 4 r) (hb:IsR H b r):Bld H kg (putK kc (.inr (aq n)) (.ref b)) (n+1) gv (rc.put (aq n) r):=by
 obtain⟨gs,cs,h1,h2,h3⟩:=h.k
 have hx:aq n∉cs:=h2.none.mp (h.rn _ (h.ok.fresh hn).2)
 refine⟨h.ok.ac1 hn h0 o,⟨gs,_,h1,h2.ql hx _,by rw[List.length_append];simp;omega⟩,h.g,fun x r' e=> ?_,fun x e=> ?_⟩
 ·rw[iQ]
  unfold Rn.put at e
  by_cases z:x=aq n
  ·rw[if_pos z] at e;cases e
   exact⟨b,by rw[if_pos (by rw[z])],hb⟩
  ·rw[if_neg z] at e
   rw[if_neg (fun w=>z (Sum.inr.inj w))];exact h.r x r' e
 ·rw[iQ]
  unfold Rn.put at e
  by_cases z:x=aq n
  ·rw[if_pos z] at e;cases e
  ·rw[if_neg z] at e
   rw[if_neg (fun w=>z (Sum.inr.inj w))];exact h.rn x e
def aaX (K:PySem.W.Frag):Sp:=fun vs H Q _=>∃(a:Addr) (zs:List Int) (start:Int) (many:Nat),vs=[.ref a, .int start, .int many]/\SqL K H a (zs.map V.int)/\0<=start/\start<=50/\many<=17/\
 ∀h g c gv rc H',aM H H'->H h=none->H g=none->H c=none->jW H' h g c many gv rc->Q (.ref h) H'
theorem ac2 {n:Nat} (h:1<=n):∃ns:List Str,Oz ((nmK n).map V.str) (some (-9)) none=ns.map V.str/\1<=ns.length/\ns.length<=9/\∀x∈ns,x∈nmK n:=by
 unfold Oz
 have hl:((nmK n).map V.str).length=n:=by rw[List.length_map,jn]
 rw[hl]
 have e1:HT.sIx n 0 (some (-9))=n - 9:=by
  show(if(-9:Int)<0 then((-9:Int)+(n:Int)).toNat else min (-9:Int).toNat n)=_
  rw[if_pos (by decide)];omega
 have e2:HT.sIx n n none=n:=rfl
 rw[e1,e2,<-List.map_drop,<-List.map_take]
 refine⟨_,rfl, ?_, ?_,fun x hx=>List.mem_of_mem_drop (List.mem_of_mem_take hx)⟩
 ·rw[List.length_take,List.length_drop,jn];omega
 ·rw[List.length_take,List.length_drop,jn];omega
end RB
namespace RB
open PySem L2 PySem.Spec PyProof.Rows
section
variable {H:Hp}{kg kc:List (Key×V)}{n:Nat}{gv:Kn}{rc:Rn}
theorem pC {x y:Str} (h:¬x=y):¬(Sum.inr x:Key)=Sum.inr y:=fun z=>h (Sum.inr.inj z)
theorem Bld.aaY (h:Bld H kg kc n gv rc) (y:Str) (v:Int):∀x,dH (putK kg (.inr y) (.int v)) (.inr x)=((gv.put y v) x).map V.int:=fun x=>by
 rw[iQ]
 unfold Kn.put
 by_cases z:x=y
 ·rw[if_pos (by rw[z]),if_pos z];rfl
 ·rw[if_neg (pC z),if_neg z];exact h.g x
theorem Bld.afO (h:Bld H kg kc n gv rc) {k:Nat} (hk:k<n) (hg:gv (aq k)≠none) (v:Int):Bld H (putK kg (.inr (aq k)) (.int v)) kc n (gv.put (aq k) v) (rc.del (aq k)):=by
 obtain⟨gs,cs,h1,h2,h3⟩:=h.k
 have hr:=h.ok.dj _ hg
 have hx:aq k∈gs:=by
  refine Decidable.byContradiction fun z=>hg ?_
  have:=h1.none.mpr z
  rw[h.g] at this
  cases e:gv (aq k) with
  | none=>rfl
  | some u=>rw[e] at this;cases this
 refine⟨h.ok.setG hk v,⟨gs,cs,h1.Nv hx _,h2,h3⟩,h.aaY _ _,fun x r e=> ?_,fun x e=> ?_⟩
 ·unfold Rn.del at e
  by_cases z:x=aq k
  ·rw[if_pos z] at e;cases e
  ·rw[if_neg z] at e;exact h.r x r e
 ·unfold Rn.del at e
  by_cases z:x=aq k
  ·rw[z];exact h.rn _ hr
  ·rw[if_neg z] at e;exact h.rn x e
theorem Bld.afP (h:Bld H kg kc n gv rc) {k:Nat} (hk:k<n) (hr:rc (aq k)≠none) (v:Int):Bld H (putK kg (.inr (aq k)) (.int v)) (jP kc (.inr (aq k))) n (gv.put (aq k) v) (rc.del (aq k)):=by
 obtain⟨gs,cs,h1,h2,h3⟩:=h.k
 have hg:gv (aq k)=none:=by
  cases e:gv (aq k) with
  | none=>rfl
  | some u=>exact absurd (h.ok.dj _ (by rw[e];simp)) hr
 have hx:aq k∉gs:=h1.none.mp (by rw[h.g,hg];rfl)
 have hy:aq k∈cs:=by
  refine Decidable.byContradiction fun z=>hr ?_
  cases e:rc (aq k) with
  | none=>rfl
  | some r=>
    obtain⟨b,hb,_⟩:=h.r _ r e
    rw[h2.none.mpr z] at hb;cases hb
 have hl:=J1 h2.nd hy
 refine⟨h.ok.setG hk v,⟨_,_,h1.ql hx _,h2.drop _,by rw[List.length_append];simp only[List.length_cons,List.length_nil];omega⟩,h.aaY _ _,fun x r e=> ?_,fun x e=> ?_⟩
 ·unfold Rn.del at e
  rw[Aq]
  by_cases z:x=aq k
  ·rw[if_pos z] at e;cases e
  ·rw[if_neg z] at e;rw[if_neg (pC z)];exact h.r x r e
 ·unfold Rn.del at e
  rw[Aq]
  by_cases z:x=aq k
  ·rw[if_pos (by rw[z])]
  ·rw[if_neg z] at e;rw[if_neg (pC z)];exact h.rn x e
theorem Bld.TY (h:Bld H kg kc n gv rc) (y:Str) {b:Addr}{r:R} (hb:IsR H b r):(∀x r',(rc.put y r) x=some r'->∃b',dH (putK kc (.inr y) (.ref b)) (.inr x)=some (.ref b')/\IsR H b' r')/\∀x,(rc.put y r) x=none->dH (putK kc (.inr y) (.ref b)) (.inr x)=none:=by
 refine⟨fun x r' e=> ?_,fun x e=> ?_⟩
 ·rw[iQ]
  unfold Rn.put at e
  by_cases z:x=y
  ·rw[if_pos z] at e;cases e
   exact⟨b,by rw[if_pos (by rw[z])],hb⟩
  ·rw[if_neg z] at e
   rw[if_neg (pC z)];exact h.r x r' e
 ·rw[iQ]
  unfold Rn.put at e
  by_cases z:x=y
  ·rw[if_pos z] at e;cases e
  ·rw[if_neg z] at e
   rw[if_neg (pC z)];exact h.rn x e
theorem Bld.afQ (h:Bld H kg kc n gv rc) {k:Nat} (hn:n<=26) (hk:k<n) (h0:0<k) (hr:rc (aq k)≠none) {b:Addr}{r:R} (o:Rk3 (nmK k) 4 r) (hb:IsR H b r):Bld H kg (putK kc (.inr (aq k)) (.ref b)) n (gv.del (aq k)) (rc.put (aq k) r):=by
 obtain⟨gs,cs,h1,h2,h3⟩:=h.k
 have hg:gv (aq k)=none:=by
  cases e:gv (aq k) with
  | none=>rfl
  | some u=>exact absurd (h.ok.dj _ (by rw[e];simp)) hr
 have hy:aq k∈cs:=by
  refine Decidable.byContradiction fun z=>hr ?_
  cases e:rc (aq k) with
  | none=>rfl
  | some r=>
    obtain⟨b,hb,_⟩:=h.r _ r e
    rw[h2.none.mpr z] at hb;cases hb
 refine⟨h.ok.afN hn hk h0 o,⟨gs,cs,h1,h2.Nv hy _,h3⟩,fun x=> ?_,(h.TY _ hb).1,(h.TY _ hb).2⟩
 unfold Kn.del
 by_cases z:x=aq k
 ·rw[if_pos z,z,h.g,hg]
 ·rw[if_neg z];exact h.g x
theorem Bld.afR (h:Bld H kg kc n gv rc) {k:Nat} (hn:n<=26) (hk:k<n) (h0:0<k) (hr:rc (aq k)=none) {b:Addr}{r:R} (o:Rk3 (nmK k) 4 r) (hb:IsR H b r):Bld H (jP kg (.inr (aq k))) (putK kc (.inr (aq k)) (.ref b)) n (gv.del (aq k)) (rc.put (aq k) r):=by
 obtain⟨gs,cs,h1,h2,h3⟩:=h.k
 have hg:gv (aq k)≠none:=by
  rcases h.ok.dom k hk with z | z
  ·exact z
  ·exact absurd hr z
 have hx:aq k∈gs:=by
  refine Decidable.byContradiction fun z=>hg ?_
  have:=h1.none.mpr z
  rw[h.g] at this
  cases e:gv (aq k) with
  | none=>rfl
  | some u=>rw[e] at this;cases this
 have hy:aq k∉cs:=h2.none.mp (h.rn _ hr)
 have hl:=J1 h1.nd hx
 refine⟨h.ok.afN hn hk h0 o,⟨_,_,h1.drop _,h2.ql hy _,by rw[List.length_append];simp only[List.length_cons,List.length_nil];omega⟩,fun x=> ?_,(h.TY _ hb).1,(h.TY _ hb).2⟩
 unfold Kn.del
 rw[Aq]
 by_cases z:x=aq k
 ·rw[if_pos (by rw[z]),if_pos z];rfl
 ·rw[if_neg (pC z),if_neg z];exact h.g x
end
def aaZ (K:PySem.W.Frag):Sp:=fun vs H Q _=>∃(h g c a:Addr) (zs:List Int) (start most:Int) (n:Nat) (gv:Kn) (rc:Rn),vs=[.ref h, .ref a, .int start, .int most]/\jW H h g c n gv rc/\n<=17/\SqL K H a (zs.map V.int)/\0<=start/\start<=50/\0<most/\most<=100/\
 ∀h2 g2 c2 gv2 rc2 H',aM H H'->H h2=none->H g2=none->H c2=none->jW H' h2 g2 c2 n gv2 rc2->Q (.ref h2) H'
end RB
set_option maxRecDepth 100000
namespace RB
open PySem L2 PySem.Spec PyProof.Rows
structure rC (r:R) (kn:Kn) (us:List Rdp) (v:Int):Prop where
 c:Chn r kn us
 e:ev (kn.puts us) r= .inr v
theorem T4 {n:Int}{kn:Kn}:rC (.num n) kn [] n:=⟨trivial,rfl⟩
theorem Zj {kn:Kn}{x:Str}{v:Int} (h:kn x=some v):rC (.rd x) kn [] v:=⟨trivial,by show look kn x=_;unfold look;rw[h]⟩
theorem Zk {kn:Kn}{x:Str}{v:Int} (h:kn x=none):rC (.rd x) kn [(x,v)] v:=by
 refine⟨⟨by show look kn x=_;unfold look;rw[h],trivial⟩, ?_⟩
 show look (kn.put x v) x=_
 unfold look Kn.put
 rw[if_pos rfl]
theorem Em {op:Op}{a b:R}{kn:Kn}{us vs:List Rdp}{u v:Int} (ha:rC a kn us u) (hb:rC b (kn.puts us) vs v):rC (.bin op a b) kn (us++vs) (op.ap u v):=by
 have ua:∀kn' x,ev kn' a= .inl x->ev kn' (.bin op a b)= .inl x:=fun kn' x e=>by simp only[ev];rw[e]
 have ub:∀kn' x,Kn.Le (kn.puts us) kn'->ev kn' b= .inl x->ev kn' (.bin op a b)= .inl x:=fun kn' x l e=>by simp only[ev];rw[vL l ha.e];simp only;rw[e]
 exact⟨(ha.c.up fun kn' x _ e=>ua kn' x e).app (hb.c.up ub),by rw[Kn.fZ];simp only[ev];rw[vL hb.c.le ha.e];simp only;rw[hb.e]⟩
theorem J3 {a b c:R}{kn:Kn}{us vs:List Rdp}{u v:Int} (ha:rC a kn us u) (hb:rC (if u>0 then b else c) (kn.puts us) vs v):rC (.pick a b c) kn (us++vs) v:=by
 have ua:∀kn' x,ev kn' a= .inl x->ev kn' (.pick a b c)= .inl x:=fun kn' x e=>by simp only[ev];rw[e]
 have e:∀kn':Kn,Kn.Le (kn.puts us) kn'->ev kn' (.pick a b c)=ev kn' (if u>0 then b else c):=fun kn' l=>by
  simp only[ev];rw[vL l ha.e];simp only;split<;>rfl
 exact⟨(ha.c.up fun kn' x _ e=>ua kn' x e).app (hb.c.up fun kn' x l z=>by rw[e kn' l];exact z),by rw[Kn.fZ,e _ hb.c.le];exact hb.e⟩
theorem T5 {a:R}{ns:List Str}{x:Str}{kn:Kn}{us vs:List Rdp}{u v:Int} (ha:rC a kn us u) (hx:yo ns u=some x) (hb:rC (.rd x) (kn.puts us) vs v):rC (.cho a ns) kn (us++vs) v:=by
 have ua:∀kn' x,ev kn' a= .inl x->ev kn' (.cho a ns)= .inl x:=fun kn' x e=>by simp only[ev];rw[e]
 have e:∀kn':Kn,Kn.Le (kn.puts us) kn'->ev kn' (.cho a ns)=ev kn' (.rd x):=fun kn' l=>by
  simp only[ev];rw[vL l ha.e];simp only;rw[hx]
 exact⟨(ha.c.up fun kn' x _ e=>ua kn' x e).app (hb.c.up fun kn' x l z=>by rw[e kn' l];exact z),by rw[Kn.fZ,e _ hb.c.le];exact hb.e⟩
theorem En {x:Str}{u:Int}:∀{ps:List Rdp}{kn:Kn},kn.puts ps x=some u->(x,u)∈ps\/kn x=some u
 |[],kn,h=> .inr h
 | p::ps,kn,h=>by
   rcases En (ps:=ps) h with z | z
   ·exact .inl (List.mem_cons_of_mem _ z)
   ·unfold Kn.put at z
    by_cases e:x=p.1
    ·rw[if_pos e] at z
     left
     have:p=(x,u):=by rw[e];exact Prod.ext rfl (Option.some.inj z)
     rw[this];simp
    ·rw[if_neg e] at z;exact .inr z
theorem J4 {x:Str}:∀{ps:List Rdp}{kn:Kn},kn.puts ps x=none->x∉ps.map (·.1)/\kn x=none
 |[],kn,h=>⟨by simp,h⟩
 | p::ps,kn,h=>by
   obtain⟨z1,z2⟩:=J4 (ps:=ps) h
   unfold Kn.put at z2
   by_cases e:x=p.1
   ·rw[if_pos e] at z2;cases z2
   ·rw[if_neg e] at z2
    exact⟨by rw[List.map_cons,List.mem_cons];exact fun w=>w.elim e z1,z2⟩
structure Rows (kn:Kn) (ps:List Rdp):Prop where
 s:∀p∈ps,kn p.1=some p.2
 nd:(ps.map (·.1)).Nodup
theorem Rows.le {kn kn':Kn}{ps:List Rdp} (h:Rows kn ps) (l:Kn.Le kn kn'):Rows kn' ps:=⟨fun p hp=>l _ _ (h.s p hp),h.nd⟩
theorem iy:∀{ws ns:List Str},ws.Nodup->(∀x∈ws,x∈ns)->ws.length<=ns.length
 |[],_,_,_=>Nat.zero_le _
 | w::ws,ns,nd,h=>by
   rw[List.nodup_cons] at nd
   have hw:=h w (by simp)
   have ih:=iy (ws:=ws) (ns:=ns.erase w) nd.2 fun x hx=>by
    have hne:x≠w:=fun e=>nd.1 (by rw[<-e];exact hx)
    exact(List.mem_erase_of_ne hne).mpr (h x (by simp[hx]))
   rw[List.length_erase_of_mem hw] at ih
   have:=List.length_pos_of_mem hw
   simp only[List.length_cons]
   omega
theorem Rows.look {kn:Kn}{ps:List Rdp}{x:Str}{v:Int} (h:Rows kn ps) (hx:kn x=some v):if(x,v)∈ps then rC (.rd x) (kn0.puts ps) [] v else rC (.rd x) (kn0.puts ps) [(x,v)] v/\Rows kn (ps++[(x,v)]):=by
 by_cases hm:(x,v)∈ps
 ·rw[if_pos hm]
  cases e:kn0.puts ps x with
  | none=>exact absurd (List.mem_map.mpr ⟨_,hm,rfl⟩) (J4 e).1
  | some u=>
    rcases En e with z | z
    ·have:=h.s _ z
     rw[hx] at this
     cases this
     exact Zj e
    ·cases z
 ·rw[if_neg hm]
  have hn:kn0.puts ps x=none:=by
   cases e:kn0.puts ps x with
   | none=>rfl
   | some u=>
     rcases En e with z | z
     ·have:=h.s _ z
      rw[hx] at this
      cases this
      exact absurd z hm
     ·cases z
  refine⟨Zk hn,fun p hp=> ?_, ?_⟩
  ·rcases List.mem_append.mp hp with z | z
   ·exact h.s p z
   ·have:p=(x,v):=by simpa using z
    rw[this];exact hx
  ·rw[List.map_append,List.nodup_append]
   exact⟨h.nd,by simp,fun a ha b hb=>by
    have:b=x:=by simpa using hb
    rw[this];exact fun z=>(J4 hn).1 (z▸ha)⟩
abbrev Rm:=Str->Option (R×List Rdp×Int)
def Rm.put (rm:Rm) (x:Str) (q:R×List Rdp×Int):Rm:=fun y=>if y=x then some q else rm y
def qm (X:List Addr) (H:Hp) (b:Addr) (q:R×List Rdp×Int):Prop:=∃br l as,H b=some (.tup [.ref br, .ref l, .int q.2.2])/\IsR H br q.1/\H l=some (.lst (as.map V.ref))/\gW H as q.2.1/\l∉X
structure yz (n:Nat) (gv:Kn) (rc:Rn) (kn:Kn) (rm:Rm):Prop where
 a:∀x v,kn x=some v->x∈nmK n/\(gv x=some v\/(gv x=none/\∃r ps,rc x=some r/\rm x=some (r,ps,v)))
 b:∀x r ps v,rm x=some (r,ps,v)->rc x=some r/\gv x=none/\kn x=some v/\rC r kn0 ps v/\Rows kn ps
structure StA (X:List Addr) (H:Hp) (st wd rd:Addr) (n:Nat) (gv:Kn) (rc:Rn) (kn:Kn) (rm:Rm):Prop where
 e:H st=some (.lst [.ref wd, .ref rd])
 ew:∃kw ws,H wd=some (.dK kw)/\mZ kw ws/\∀x,dH kw (.inr x)=(kn x).map V.int
 er:∃kr rs,H rd=some (.dK kr)/\mZ kr rs/\(∀x q,rm x=some q->∃b,dH kr (.inr x)=some (.ref b)/\qm X H b q)/\∀x,rm x=none->dH kr (.inr x)=none
 ne:wd≠rd
 ok:yz n gv rc kn rm
section
variable {X:List Addr}{H H':Hp}{st wd rd:Addr}{n:Nat}{gv:Kn}{rc:Rn}{kn:Kn}{rm:Rm}
theorem qm.but {S:List Addr}{b:Addr}{q:R×List Rdp×Int} (h:qm X H b q) (bt:But S H H') (tp:jz H H') (hs:∀y∈S,y∈X\/∀xs,H y≠some (.lst xs)):qm X H' b q:=by
 obtain⟨br,l,as,e,r,el,rs,hx⟩:=h
 exact⟨br,l,as,tp _ _ e,r.tups tp,bt _ _ (fun z=>(hs l z).elim hx fun w=>w _ el) el,rs.tups tp,hx⟩
theorem StA.kl (h:StA X H st wd rd n gv rc kn rm) {kw:List (Key×V)} (e:H wd=some (.dK kw)):kw.length<=n:=by
 obtain⟨kw',ws,e',k,v⟩:=h.ew
 rw[e] at e';cases e'
 rw[k.len,<-jn n]
 refine iy k.nd fun x hx=> ?_
 cases z:kn x with
 | none=>exact absurd hx (k.none.mp (by rw[v,z];rfl))
 | some u=>exact(h.ok.a x u z).1
theorem StA.rl (h:StA X H st wd rd n gv rc kn rm) {kr:List (Key×V)} (e:H rd=some (.dK kr)):kr.length<=n:=by
 obtain⟨kr',rs,e',k,v,w⟩:=h.er
 rw[e] at e';cases e'
 rw[k.len,<-jn n]
 refine iy k.nd fun x hx=> ?_
 cases z:rm x with
 | none=>exact absurd hx (k.none.mp (w x z))
 | some q=>
   obtain⟨r,ps,v⟩:=q
   exact(h.ok.a x v (h.ok.b x r ps v z).2.2.1).1
theorem StA.tups (h:StA X H st wd rd n gv rc kn rm) {S:List Addr} (hS:∀y∈S,y=wd\/y=rd\/∃xs,H y=some (.lst xs)) (b:But S H H'):jz H H':=fun p xs e=>b p _ (fun z=>by
 obtain⟨kw,ws,e1,_⟩:=h.ew
 obtain⟨kr,rs,e2,_⟩:=h.er
 rcases hS p z with z | z | ⟨ys,z⟩
 ·rw[z,e1] at e;cases e
 ·rw[z,e2] at e;cases e
 ·rw[z] at e;cases e) e
theorem Rows.len {ps:List Rdp} (h:StA X H st wd rd n gv rc kn rm) (r:Rows kn ps):ps.length<=n:=by
 have:=iy r.nd (ns:=nmK n) fun x hx=>by
  obtain⟨p,hp,rfl⟩:=List.mem_map.mp hx
  exact(h.ok.a _ _ (r.s p hp)).1
 rw[List.length_map,jn] at this
 exact this
end
theorem jW.but {S:List Addr}{H H':Hp}{h g c:Addr}{n:Nat}{gv:Kn}{rc:Rn} (a:jW H h g c n gv rc) (b:But S H H') (t:jz H H') (hg:g∉S) (hc:c∉S):jW H' h g c n gv rc:=by
 obtain⟨kg,kc,e,e1,e2,bd⟩:=a
 exact⟨kg,kc,t _ _ e,b _ _ hg e1,b _ _ hc e2,bd.tups t⟩
structure Ctx (X:List Addr) (H:Hp) (h g c st wd rd:Addr) (n:Nat) (gv:Kn) (rc:Rn) (kn:Kn) (rm:Rm):Prop where
 ho:jW H h g c n gv rc
 sa:StA X H st wd rd n gv rc kn rm
 n17:n<=17
 gw:g≠wd
 gr:g≠rd
 cw:c≠wd
 cr:c≠rd
 xs:∀y∈X,H y≠none
 st:st∉X
def New (kn kn':Kn) (m:Nat):Prop:=Kn.Le kn kn'/\∀y,kn' y≠none->kn y≠none\/y∈nmK m
def Nx (f:Nat):Sp:=fun vs H Q _=>∃(X:List Addr) (h g c st wd rd:Addr) (n:Nat) (gv:Kn) (rc:Rn) (kn:Kn) (rm:Rm) (k:Nat),vs=[.ref h, .str (aq k), .ref st]/\Ctx X H h g c st wd rd n gv rc kn rm/\k<f/\k<n/\
 ∀kn' rm' v H',But [wd,rd] H H'->Ctx X H' h g c st wd rd n gv rc kn' rm'->New kn kn' (k+1)->kn' (aq k)=some v->Q (.int v) H'
def WR (f:Nat):Sp:=fun vs H Q _=>∃(X:List Addr) (h g c st wd rd rl:Addr) (n:Nat) (gv:Kn) (rc:Rn) (kn:Kn) (rm:Rm) (as:List Addr) (ps:List Rdp) (k:Nat),vs=[.ref h, .str (aq k), .ref st, .ref rl]/\Ctx X H h g c st wd rd n gv rc kn rm/\k<f/\k<n/\
 H rl=some (.lst (as.map V.ref))/\gW H as ps/\Rows kn ps/\rl∈X/\rl≠st/\
 ∀kn' rm' v us as' H',But [wd,rd,rl] H H'->Ctx X H' h g c st wd rd n gv rc kn' rm'->New kn kn' (k+1)->H' rl=some (.lst (as'.map V.ref))->gW H' as' (ps++us)->Rows kn' (ps++us)->rC (.rd (aq k)) (kn0.puts ps) us v->Q (.int v) H'
def T6 (f d:Nat):Sp:=fun vs H Q _=>∃(X:List Addr) (h g c st wd rd rl b:Addr) (n:Nat) (gv:Kn) (rc:Rn) (kn:Kn) (rm:Rm) (as:List Addr) (ps:List Rdp) (r:R) (m:Nat),vs=[.ref h, .ref b, .ref st, .ref rl]/\Ctx X H h g c st wd rd n gv rc kn rm/\
 IsR H b r/\Rk3 (nmK m) d r/\m<=f/\m<=n/\H rl=some (.lst (as.map V.ref))/\gW H as ps/\Rows kn ps/\rl∈X/\rl≠st/\
 ∀kn' rm' v us as' H',But [wd,rd,rl] H H'->Ctx X H' h g c st wd rd n gv rc kn' rm'->New kn kn' m->H' rl=some (.lst (as'.map V.ref))->gW H' as' (ps++us)->Rows kn' (ps++us)->rC r (kn0.puts ps) us v->Q (.int v) H'
end RB
namespace RB
open PySem L2 PySem.Spec PyProof.Rows
theorem Ctx.same {X:List Addr}{H H':Hp}{h g c st wd rd:Addr}{n:Nat}{gv:Kn}{rc:Rn}{kn:Kn}{rm:Rm} (a:Ctx X H h g c st wd rd n gv rc kn rm) (s:aM H H'):Ctx X H' h g c st wd rd n gv rc kn rm:=by
 obtain⟨⟨kg,kc,e,e1,e2,bd⟩,⟨e3,⟨kw,ws,e4,k4,v4⟩,⟨kr,rs,e5,k5,v5,w5⟩,ne,ok⟩,n17,gw,gr,cw,cr,xs,st'⟩:=a
 exact⟨⟨kg,kc,s _ _ e,s _ _ e1,s _ _ e2,bd.tups (aM.tups s)⟩,⟨s _ _ e3,⟨kw,ws,s _ _ e4,k4,v4⟩,⟨kr,rs,s _ _ e5,k5,fun x q z=>let ⟨b,hb,ra⟩:=v5 x q z;⟨b,hb,ra.but (S:=[]) (But.of_same s) (aM.tups s) (by simp)⟩,w5⟩,ne,ok⟩,n17,gw,gr,cw,cr,fun y hy z=>xs y hy (same_none s z),st'⟩
theorem Ctx.row {X:List Addr}{H:Hp}{h g c st wd rd rl:Addr}{n:Nat}{gv:Kn}{rc:Rn}{kn:Kn}{rm:Rm} (a:Ctx X H h g c st wd rd n gv rc kn rm) {xs:List V} (el:H rl=some (.lst xs)) (hX:rl∈X) (hst:rl≠st) (ys:List V):Ctx X (upd H rl (.lst ys)) h g c st wd rd n gv rc kn rm:=by
 have t:jz H (upd H rl (.lst ys)):=fun y xs z=>(au (fun w=>by rw[w,el] at z;cases z)).trans z
 have hS:∀y∈[rl],y∈X\/∀xs,H y≠some (.lst xs):=fun y hy=> .inl (by
  have:y=rl:=by simpa using hy
  rw[this];exact hX)
 have nd:∀d kvs,H d=some (.dK kvs)->d≠rl:=fun d kvs e z=>by rw[z,el] at e;cases e
 obtain⟨⟨kg,kc,e,e1,e2,bd⟩,⟨e3,⟨kw,ws,e4,k4,v4⟩,⟨kr,rs,e5,k5,v5,w5⟩,ne,ok⟩,n17,gw,gr,cw,cr,xs',st'⟩:=a
 exact⟨⟨kg,kc,t _ _ e,(au (nd _ _ e1)).trans e1,(au (nd _ _ e2)).trans e2,bd.tups t⟩,⟨(au (Ne.symm hst)).trans e3,⟨kw,ws,(au (nd _ _ e4)).trans e4,k4,v4⟩,⟨kr,rs,(au (nd _ _ e5)).trans e5,k5,fun x q z=>let ⟨b,hb,ra⟩:=v5 x q z;⟨b,hb,ra.but (S:=[rl]) (But.set _ (by simp)) t hS⟩,w5⟩,ne,ok⟩,n17,gw,gr,cw,cr,fun y hy z=>xs' y hy (eX z).2,st'⟩
end RB
set_option maxRecDepth 100000
namespace RB
open PySem L2 PySem.Spec PyProof.Rows
section
variable {H:Hp}{s l h:Addr}{du wr:V}
end
section
variable {H H':Hp}{s l h:Addr}{kn:Kn}{ps:List Rdp}
end
end RB
namespace RB
open PySem L2 PySem.Spec PyProof.Rows
end RB
namespace RB
open PySem L2 PySem.Spec PyProof.Rows
end RB
set_option maxRecDepth 100000
namespace RB
open PySem L2 PySem.Spec PyProof.Rows
theorem HX {ns:List Str}:∀{r:R}{kn:Kn}{x:Str},r.In ns->ev kn r= .inl x->x∈ns
 | .num n,kn,x,i,h=>by cases h
 | .rd y,kn,x,i,h=>by obtain⟨rfl,_⟩:=Ao h;exact i
 | .bin op a b,kn,x,i,h=>by
   simp only[ev] at h
   cases ea:ev kn a with
   | inl y=>rw[ea] at h;cases h;exact HX i.1 ea
   | inr u=>
     rw[ea] at h
     cases eb:ev kn b with
     | inl y=>rw[eb] at h;cases h;exact HX i.2 eb
     | inr v=>rw[eb] at h;cases h
 | .pick a b c,kn,x,i,h=>by
   simp only[ev] at h
   cases ea:ev kn a with
   | inl y=>rw[ea] at h;cases h;exact HX i.1 ea
   | inr u=>
     rw[ea] at h
     simp only at h
     split at h
     ·exact HX i.2.1 h
     ·exact HX i.2.2 h
 | .cho a ms,kn,x,i,h=>by
   simp only[ev] at h
   cases ea:ev kn a with
   | inl y=>rw[ea] at h;cases h;exact HX i.1 ea
   | inr u=>
     rw[ea] at h
     simp only at h
     cases ep:yo ms u with
     | none=>rw[ep] at h;cases h
     | some y=>
       rw[ep] at h
       obtain⟨rfl,_⟩:=Ao h
       exact i.2 _ (List.mem_of_getElem? ep)
end RB
set_option maxRecDepth 100000
namespace RB
open PySem L2 PySem.Spec PyProof.Rows
section
variable {X:List Addr}{H:Hp}{h g c st wd rd:Addr}{n:Nat}{gv:Kn}{rc:Rn}{kn:Kn}{rm:Rm}
theorem Ctx.less {rl:Addr} (a:Ctx (rl::X) H h g c st wd rd n gv rc kn rm):Ctx X H h g c st wd rd n gv rc kn rm:=by
 obtain⟨ho,⟨e3,ew,⟨kr,rs,e5,k5,v5,w5⟩,ne,ok⟩,n17,gw,gr,cw,cr,xs,st'⟩:=a
 exact⟨ho,⟨e3,ew,⟨kr,rs,e5,k5,fun x q z=>let ⟨b,hb,br,l,as,h1,h2,h3,h4,h5⟩:=v5 x q z;⟨b,hb,br,l,as,h1,h2,h3,h4,fun m=>h5 (List.mem_cons_of_mem _ m)⟩,w5⟩,ne,ok⟩,n17,gw,gr,cw,cr,fun y hy=>xs y (List.mem_cons_of_mem _ hy),fun m=>st' (List.mem_cons_of_mem _ m)⟩
theorem Ctx.more {rl:Addr} (a:Ctx X H h g c st wd rd n gv rc kn rm) (hn:H rl=none) (xs0:List V):Ctx (rl::X) (upd H rl (.lst xs0)) h g c st wd rd n gv rc kn rm:=by
 have s:=aD (.lst xs0) hn
 have nf:∀{l xs},H l=some xs->l≠rl:=fun e z=>by rw[z,hn] at e;cases e
 obtain⟨⟨kg,kc,e,e1,e2,bd⟩,⟨e3,⟨kw,ws,e4,k4,v4⟩,⟨kr,rs,e5,k5,v5,w5⟩,ne,ok⟩,n17,gw,gr,cw,cr,xs,st'⟩:=a
 refine⟨⟨kg,kc,s _ _ e,s _ _ e1,s _ _ e2,bd.tups (aM.tups s)⟩,⟨s _ _ e3,⟨kw,ws,s _ _ e4,k4,v4⟩,⟨kr,rs,s _ _ e5,k5,fun x q z=> ?_,w5⟩,ne,ok⟩,n17,gw,gr,cw,cr,fun y hy z=> ?_,fun m=> ?_⟩
 ·obtain⟨b,hb,br,l,as,h1,h2,h3,h4,h5⟩:=v5 x q z
  refine⟨b,hb,br,l,as,s _ _ h1,h2.same s,s _ _ h3,h4.same s,fun m=> ?_⟩
  rcases List.mem_cons.mp m with m | m
  ·exact nf h3 m
  ·exact h5 m
 ·rcases List.mem_cons.mp hy with m | m
  ·rw[m,ao] at z;cases z
  ·exact xs y m (eX z).2
 ·rcases List.mem_cons.mp m with m | m
  ·exact nf e3 m
  ·exact st' m
theorem yz.Zm {x:Str}{v:Int} (h:yz n gv rc kn rm) (hx:x∈nmK n) (hk:kn x=none) (hg:gv x=some v):yz n gv rc (kn.put x v) rm:=by
 refine⟨fun y u e=> ?_,fun y r ps u e=> ?_⟩
 ·unfold Kn.put at e
  by_cases z:y=x
  ·rw[if_pos z] at e;cases e;rw[z];exact⟨hx, .inl hg⟩
  ·rw[if_neg z] at e;exact h.a y u e
 ·obtain⟨h1,h2,h3,h4,h5⟩:=h.b y r ps u e
  exact⟨h1,h2,Kn.qg hk _ _ h3,h4,h5.le (Kn.qg hk)⟩
theorem yz.uT {x:Str}{r:R}{ps:List Rdp}{v:Int} (h:yz n gv rc kn rm) (hx:x∈nmK n) (hk:kn x=none) (hg:gv x=none) (hr:rc x=some r) (got:rC r kn0 ps v) (row:Rows kn ps):yz n gv rc (kn.put x v) (rm.put x (r,ps,v)):=by
 refine⟨fun y u e=> ?_,fun y r' ps' u e=> ?_⟩
 ·unfold Kn.put at e
  by_cases z:y=x
  ·rw[if_pos z] at e;cases e
   refine⟨by rw[z];exact hx, .inr ⟨by rw[z];exact hg,r,ps,by rw[z];exact hr, ?_⟩⟩
   unfold Rm.put;rw[if_pos z]
  ·rw[if_neg z] at e
   obtain⟨h1,h2⟩:=h.a y u e
   refine⟨h1,h2.elim .inl fun⟨w0,r1,ps1,w1,w2⟩=> .inr ⟨w0,r1,ps1,w1, ?_⟩⟩
   unfold Rm.put;rw[if_neg z];exact w2
 ·unfold Rm.put at e
  by_cases z:y=x
  ·rw[if_pos z] at e;cases e
   refine⟨by rw[z];exact hr,by rw[z];exact hg, ?_,got,row.le (Kn.qg hk)⟩
   unfold Kn.put;rw[if_pos z]
  ·rw[if_neg z] at e
   obtain⟨h1,h2,h3,h4,h5⟩:=h.b y r' ps' u e
   exact⟨h1,h2,Kn.qg hk _ _ h3,h4,h5.le (Kn.qg hk)⟩
theorem qz {d:Addr}{kvs:List (Key×V)}{o:HO} (e:H d=some (.dK kvs)):jz H (upd H d o):=fun y xs z=>(au (fun w=>by rw[w,e] at z;cases z)).trans z
theorem Eo {kw:List (Key×V)} (v4:∀y,dH kw (.inr y)=(kn y).map V.int) (x:Str) (v:Int):∀y,dH (putK kw (.inr x) (.int v)) (.inr y)=((kn.put x v) y).map V.int:=fun y=>by
 rw[iQ]
 unfold Kn.put
 by_cases z:y=x
 ·rw[if_pos (by rw[z]),if_pos z];rfl
 ·rw[if_neg (pC z),if_neg z];exact v4 y
theorem qm.dk {b:Addr}{q:R×List Rdp×Int} (r:qm X H b q) {d:Addr}{kvs:List (Key×V)}{o:HO} (e:H d=some (.dK kvs)):qm X (upd H d o) b q:=r.but (S:=[d]) (But.set _ (by simp)) (qz e) (fun y hy=> .inr fun xs w=>by
 have:y=d:=by simpa using hy
 rw[this,e] at w;cases w)
theorem Ctx.Zm {x:Str}{v:Int}{kw:List (Key×V)} (a:Ctx X H h g c st wd rd n gv rc kn rm) (ew:H wd=some (.dK kw)) (hx:x∈nmK n) (hk:kn x=none) (hg:gv x=some v):Ctx X (upd H wd (.dK (putK kw (.inr x) (.int v)))) h g c st wd rd n gv rc (kn.put x v) rm:=by
 have t:=qz (o:= .dK (putK kw (.inr x) (.int v))) ew
 obtain⟨⟨kg,kc,e,e1,e2,bd⟩,⟨e3,⟨kw',ws,e4,k4,v4⟩,⟨kr,rs,e5,k5,v5,w5⟩,ne,ok⟩,n17,gw,gr,cw,cr,xs,st'⟩:=a
 rw[ew] at e4;cases e4
 have hst:st≠wd:=fun z=>by rw[z,ew] at e3;cases e3
 have hx':x∉ws:=k4.none.mp (by rw[v4,hk];rfl)
 exact⟨⟨kg,kc,t _ _ e,(au gw).trans e1,(au cw).trans e2,bd.tups t⟩,⟨(au hst).trans e3,⟨_,_,ao,k4.ql hx' _,Eo v4 x v⟩,⟨kr,rs,(au (Ne.symm ne)).trans e5,k5,fun y q z=>let ⟨b,hb,ra⟩:=v5 y q z;⟨b,hb,ra.dk ew⟩,w5⟩,ne,ok.Zm hx hk hg⟩,n17,gw,gr,cw,cr,fun y hy z=>xs y hy (eX z).2,st'⟩
theorem Ctx.uT {x:Str}{r:R}{ps:List Rdp}{v:Int}{kw kr:List (Key×V)}{b:Addr} (a:Ctx X H h g c st wd rd n gv rc kn rm) (ew:H wd=some (.dK kw)) (er:H rd=some (.dK kr)) (hx:x∈nmK n) (hk:kn x=none) (hg:gv x=none) (hr:rc x=some r) (got:rC r kn0 ps v) (row:Rows kn ps) (ra:qm X H b (r,ps,v)):
 Ctx X (upd (upd H rd (.dK (putK kr (.inr x) (.ref b)))) wd (.dK (putK kw (.inr x) (.int v)))) h g c st wd rd n gv rc (kn.put x v) (rm.put x (r,ps,v)):=by
 have t1:=qz (o:= .dK (putK kr (.inr x) (.ref b))) er
 obtain⟨⟨kg,kc,e,e1,e2,bd⟩,⟨e3,⟨kw',ws,e4,k4,v4⟩,⟨kr',rs,e5,k5,v5,w5⟩,ne,ok⟩,n17,gw,gr,cw,cr,xs,st'⟩:=a
 rw[ew] at e4;cases e4
 rw[er] at e5;cases e5
 have ew1:upd H rd (.dK (putK kr (.inr x) (.ref b))) wd=some (.dK kw):=(au ne).trans ew
 have t2:=qz (o:= .dK (putK kw (.inr x) (.int v))) ew1
 have hsw:st≠wd:=fun z=>by rw[z,ew] at e3;cases e3
 have hsr:st≠rd:=fun z=>by rw[z,er] at e3;cases e3
 have hx':x∉ws:=k4.none.mp (by rw[v4,hk];rfl)
 have hrm:rm x=none:=by
  cases z:rm x with
  | none=>rfl
  | some q=>
    obtain⟨r1,ps1,v1⟩:=q
    have:=(ok.b x r1 ps1 v1 z).2.2.1
    rw[hk] at this;cases this
 have hxr:x∉rs:=k5.none.mp (w5 x hrm)
 have up:∀{b q},qm X H b q->qm X (upd (upd H rd (.dK (putK kr (.inr x) (.ref b)))) wd (.dK (putK kw (.inr x) (.int v)))) b q:=fun z=>(z.dk er).dk ((au ne).trans ew)
 refine⟨⟨kg,kc,t2 _ _ (t1 _ _ e),(au gw).trans ((au gr).trans e1),(au cw).trans ((au cr).trans e2),(bd.tups t1).tups t2⟩,⟨(au hsw).trans ((au hsr).trans e3),⟨_,_,ao,k4.ql hx' _,Eo v4 x v⟩,⟨_,_,(au (Ne.symm ne)).trans ao,k5.ql hxr _,fun y q z=> ?_,fun y z=> ?_⟩,ne,ok.uT hx hk hg hr got row⟩,n17,gw,gr,cw,cr,fun y hy z=>xs y hy (eX (eX z).2).2,st'⟩
 ·rw[iQ]
  unfold Rm.put at z
  by_cases w:y=x
  ·rw[if_pos w] at z;cases z
   exact⟨b,by rw[if_pos (by rw[w])],(ra.dk er).dk ew1⟩
  ·rw[if_neg w] at z
   obtain⟨b',hb,ra'⟩:=v5 y q z
   exact⟨b',by rw[if_neg (pC w)];exact hb,(ra'.dk er).dk ew1⟩
 ·rw[iQ]
  unfold Rm.put at z
  by_cases w:y=x
  ·rw[if_pos w] at z;cases z
  ·rw[if_neg w] at z
   rw[if_neg (pC w)];exact w5 y z
end
end RB
namespace RB
open PySem L2 PySem.Spec PyProof.Rows
def aa0:Sp:=fun vs H Q _=>∃(h g c wl:Addr) (n:Nat) (gv:Kn) (rc:Rn) (ws:List Str),vs=[.ref h, .ref wl]/\jW H h g c n gv rc/\n<=17/\H wl=some (.lst (ws.map V.str))/\(∀x∈ws,x∈nmK n)/\
 ∀st wd rd kn rm H',aM H H'->H st=none->H wd=none->H rd=none->StA [] H' st wd rd n gv rc kn rm->(∀x∈ws,kn x≠none)->Q (.ref st) H'
def aa1:Sp:=fun vs H Q _=>∃(h g c p:Addr) (n cc:Nat) (gv:Kn) (rc:Rn),vs=[.ref h, .ref p]/\jW H h g c n gv rc/\1<=n/\n<=17/\eU H p cc/\cc<=50000/\p≠g/\p≠c/\
 ∀(wl:Addr) (ws:List Str) (H':Hp),But [p] H H'->H wl=none->H' wl=some (.lst (ws.map V.str))->(∀x∈ws,x∈nmK n)->Q (.ref wl) H'
end RB
namespace RB
open PySem L2 PySem.Spec PyProof.Rows
theorem J5 {r:R}{ns:List Str} (hi:r.In ns):∀{ps:List Rdp}{kn:Kn},Chn r kn ps->∀p∈ps,p.1∈ns
 |[],_,_,p,hp=>by cases hp
 | q::ps,kn,c,p,hp=>by
   rcases List.mem_cons.mp hp with z | z
   ·rw[z];exact HX hi c.1
   ·exact J5 hi (ps:=ps) c.2 p z
def afS (n:Nat) (rm:Rm):Prop:=∀x r ps v,rm x=some (r,ps,v)->rC r kn0 ps v/\∃k,k<n/\x=aq k/\Rk3 (nmK k) 4 r
structure pF (H:Hp) (kr:List (Key×V)) (n:Nat) (rm:Rm):Prop where
 k:∃rs,mZ kr rs/\∀x∈rs,x∈nmK n
 v:∀x q,rm x=some q->∃b,dH kr (.inr x)=some (.ref b)/\qm [] H b q
 w:∀x,rm x=none->dH kr (.inr x)=none
 ok:afS n rm
theorem qm.same {X:List Addr}{H H':Hp}{b:Addr}{q:R×List Rdp×Int} (r:qm X H b q) (s:aM H H'):qm X H' b q:=r.but (S:=[]) (But.of_same s) (aM.tups s) (by simp)
theorem pF.map {H H':Hp}{kr:List (Key×V)}{n:Nat}{rm:Rm} (h:pF H kr n rm) (f:∀b q,qm [] H b q->qm [] H' b q):pF H' kr n rm:=⟨h.k,fun x q e=>let ⟨b,h1,h2⟩:=h.v x q e;⟨b,h1,f b q h2⟩,h.w,h.ok⟩
theorem pF.len {H:Hp}{kr:List (Key×V)}{n:Nat}{rm:Rm} (h:pF H kr n rm):kr.length<=n:=by
 obtain⟨rs,k,hr⟩:=h.k
 rw[k.len,<-jn n]
 exact iy k.nd hr
theorem pF.put {H:Hp}{kr:List (Key×V)}{n:Nat}{rm:Rm} (h:pF H kr n rm) {x:Str}{q:R×List Rdp×Int}{b:Addr} (hx:x∈nmK n) (ra:qm [] H b q) (hq:rC q.1 kn0 q.2.1 q.2.2/\∃k,k<n/\x=aq k/\Rk3 (nmK k) 4 q.1):pF H (putK kr (.inr x) (.ref b)) n (rm.put x q):=by
 obtain⟨rs,k,hr⟩:=h.k
 refine⟨?_,fun y q' e=> ?_,fun y e=> ?_,fun y r ps v e=> ?_⟩
 ·by_cases hm:x∈rs
  ·exact⟨rs,k.Nv hm _,hr⟩
  ·exact⟨_,k.ql hm _,fun y hy=>by
    rcases List.mem_append.mp hy with z | z
    ·exact hr y z
    ·have:y=x:=by simpa using z
     rw[this];exact hx⟩
 ·rw[iQ]
  unfold Rm.put at e
  by_cases z:y=x
  ·rw[if_pos z] at e;cases e
   exact⟨b,by rw[if_pos (by rw[z])],ra⟩
  ·rw[if_neg z] at e;rw[if_neg (pC z)];exact h.v y q' e
 ·rw[iQ]
  unfold Rm.put at e
  by_cases z:y=x
  ·rw[if_pos z] at e;cases e
  ·rw[if_neg z] at e;rw[if_neg (pC z)];exact h.w y e
 ·unfold Rm.put at e
  by_cases z:y=x
  ·rw[if_pos z] at e;cases e
   rw[z];exact hq
  ·rw[if_neg z] at e;exact h.ok y r ps v e
theorem StA.afT {X:List Addr}{H:Hp}{st wd rd:Addr}{n:Nat}{gv:Kn}{rc:Rn}{kn:Kn}{rm:Rm} (h:StA X H st wd rd n gv rc kn rm) (ho:Ax n gv rc):∃kr,H rd=some (.dK kr)/\pF H kr n rm:=by
 obtain⟨kr,rs,e,k,v,w⟩:=h.er
 refine⟨kr,e,⟨rs,k,fun x hx=> ?_⟩,fun x q z=>let ⟨b,hb,br,l,as,h1,h2,h3,h4,_⟩:=v x q z;⟨b,hb,br,l,as,h1,h2,h3,h4,by simp⟩,w,fun x r ps v z=> ?_⟩
 ·cases z:rm x with
  | none=>exact absurd hx (k.none.mp (w x z))
  | some q=>
    obtain⟨r,ps,v⟩:=q
    exact(h.ok.a x v (h.ok.b x r ps v z).2.2.1).1
 ·obtain⟨h1,h2,h3,h4,h5⟩:=h.ok.b x r ps v z
  exact⟨h4,ho.rk x r h1⟩
def aa2 (K:PySem.W.Frag):Sp:=fun vs H Q _=>∃(a:Addr) (zs:List Int),vs=[.ref a]/\SqL K H a (zs.map V.int)/\
 ∀(t h g c rcd wl:Addr) (n:Nat) (gv:Kn) (rc:Rn) (kr:List (Key×V)) (rm:Rm) (ws:List Str) (H':Hp),aM H H'->H' t=some (.lst [.ref h, .ref rcd, .ref wl])->jW H' h g c n gv rc->n<=17->H' rcd=some (.dK kr)->pF H' kr n rm->H' wl=some (.lst (ws.map V.str))->(∀x∈ws,x∈nmK n)->Q (.ref t) H'
end RB
namespace RB
open PySem L2 PySem.Spec PyProof.Rows
theorem mZ.at {kvs:List (Key×V)}{ks:List Str} (h:mZ kvs ks) {i:Nat}{k:Key}{v:V} (e:kvs[i]? =some (k,v)):∃x,k= .inr x/\ks[i]? =some x:=by
 have h1:(kvs.map (·.1))[i]? =some k:=by rw[List.getElem?_map,e];rfl
 rw[h.k,List.getElem?_map] at h1
 cases z:ks[i]? with
 | none=>rw[z] at h1;cases h1
 | some x=>rw[z] at h1;exact⟨x,(Option.some.inj h1).symm,rfl⟩
end RB
set_option maxRecDepth 100000
namespace RB
open PySem L2 PySem.Spec PyProof.Rows
theorem again {r:R}{kn:Kn}{v:Int}:∀(k:Nat) {ps qs:List Rdp}{kn1:Kn},Chn r kn1 ps->Chn r kn1 qs->ev (kn1.puts qs) r= .inr v->(∀q∈qs,kn q.1=some q.2)->(∀(j:Nat) p,j<k->ps[j]? =some p->kn p.1=some p.2)->∀p,ps[k]? =some p->∃u,kn p.1=some u
 | k,[],qs,kn1,cp,cq,e,hq,hj,p,hp=>by simp at hp
 | k,q0::ps,[],kn1,cp,cq,e,hq,hj,p,hp=>by
   have h1:=cp.1
   have e:ev kn1 r= .inr v:=e
   rw[e] at h1;cases h1
 | 0,q0::ps,q::qs,kn1,cp,cq,e,hq,hj,p,hp=>by
   have:q0=p:=by simpa using hp
   subst this
   have h1:=cp.1
   rw[cq.1] at h1
   have:q.1=q0.1:=Sum.inl.inj h1
   exact⟨q.2,by rw[<-this];exact hq q (by simp)⟩
 | k+1,q0::ps,q::qs,kn1,cp,cq,e,hq,hj,p,hp=>by
   have h1:=cp.1
   rw[cq.1] at h1
   have e1:q.1=q0.1:=Sum.inl.inj h1
   have h2:=hj 0 q0 (by omega) rfl
   have h3:=hq q (by simp)
   rw[e1,h2] at h3
   have e2:q0.2=q.2:=Option.some.inj h3
   have cq2:=cq.2
   have ee:ev ((kn1.put q.1 q.2).puts qs) r= .inr v:=e
   rw[e1,<-e2] at cq2 ee
   exact again k cp.2 cq2 ee (fun y hy=>hq y (by simp[hy])) (fun j p' hj' hp'=>hj (j+1) p' (by omega) (by simpa using hp')) p (by simpa using hp)
inductive Pap where
 | given | new | rcp (r s:R) | rd (k:Nat) (n m:Int) | alike
inductive jQ (H:Hp) (b:Addr):Pap->Prop where
 | given (e:H b=some (.tup [.str "given"])):jQ H b .given
 | new (e:H b=some (.tup [.str "new"])):jQ H b .new
 | rcp {r s:R}{p q:Addr} (e:H b=some (.tup [.str "recipe", .ref p, .ref q])) (hp:IsR H p r) (hq:IsR H q s) (gr:r.Good) (gs:s.Good) (dr:r.depth<=8) (ds:s.depth<=8):jQ H b (.rcp r s)
 | rd {k:Nat}{n m:Int} (e:H b=some (.tup [.str "read", .int k, .int n, .int m])):jQ H b (.rd k n m)
 | alike (e:H b=some (.tup [.str "alike"])):jQ H b .alike
theorem jQ.tups {H H':Hp}{b:Addr}{p:Pap} (h:jQ H b p) (t:jz H H'):jQ H' b p:=by
 cases h with
 | given e=>exact .given (t _ _ e)
 | new e=>exact .new (t _ _ e)
 | rcp e hp hq a b c d=>exact .rcp (t _ _ e) (hp.tups t) (hq.tups t) a b c d
 | rd e=>exact .rd (t _ _ e)
 | alike e=>exact .alike (t _ _ e)
def aa3 (rm:Rm) (kn:Kn) (x:Str):Pap->Prop
 | .rd k _ _=>∃r ps v y nn u,rm x=some (r,ps,v)/\ps[k]? =some (y,nn)/\kn y=some u
 | _=>True
end RB
namespace RB
open PySem L2 PySem.Spec PyProof.Rows
theorem vN {r:R}:∀{ps:List Rdp}{kn:Kn},Chn r kn ps->(∀p∈ps,kn p.1=none)/\(ps.map (·.1)).Nodup
 |[],_,_=>⟨by simp,by simp⟩
 | q::ps,kn,c=>by
   obtain⟨h1,h2⟩:=vN (ps:=ps) c.2
   have h0:=rZ c.1
   have h3:∀p∈ps,p.1≠q.1/\kn p.1=none:=fun p hp=>by
    have:=h1 p hp
    unfold Kn.put at this
    by_cases z:p.1=q.1
    ·rw[if_pos z] at this;cases this
    ·rw[if_neg z] at this;exact⟨z,this⟩
   refine⟨fun p hp=> ?_, ?_⟩
   ·rcases List.mem_cons.mp hp with z | z
    ·rw[z];exact h0
    ·exact(h3 p z).2
   ·rw[List.map_cons,List.nodup_cons]
    refine⟨fun hm=> ?_,h2⟩
    obtain⟨p,hp,e⟩:=List.mem_map.mp hm
    exact(h3 p hp).1 e
theorem T7 {r:R}{ps:List Rdp}{kn:Kn}{k:Nat} (c:Chn r kn ps) (hi:r.In (nmK k)):ps.length<=k:=by
 have:=iy (vN c).2 (ns:=nmK k) fun x hx=>by
  obtain⟨p,hp,rfl⟩:=List.mem_map.mp hx
  exact J5 hi c p hp
 rwa [List.length_map,jn] at this
end RB
set_option maxRecDepth 100000
namespace RB
open PySem L2 PySem.Spec PyProof.Rows
abbrev Pm:=Str->Option (Addr×Pap)
inductive Chain (pa:Pm) (rm:Rm):Str->List Str->Prop where
 | g {x:Str}{b:Addr} (h:pa x=some (b, .given)):Chain pa rm x []
 | a {x:Str}{b:Addr} (h:pa x=some (b, .alike)):Chain pa rm x []
 | n {x:Str}{b:Addr} (h:pa x=some (b, .new)):Chain pa rm x [x]
 | r {x:Str}{b:Addr}{r s:R} (h:pa x=some (b, .rcp r s)):Chain pa rm x [x]
 | s {x y:Str}{b:Addr}{k:Nat}{n m nn:Int}{r:R}{ps:List Rdp}{v:Int}{ys:List Str} (h:pa x=some (b, .rd k n m)) (hr:rm x=some (r,ps,v)) (hp:ps[k]? =some (y,nn)) (t:Chain pa rm y ys):Chain pa rm x (x::ys)
theorem Pu {pa:Pm}{rm:Rm}{kn:Kn}{n:Nat} (h17:n<=17) (hok:afS n rm) (hd:∀x,kn x≠none->∃b p,pa x=some (b,p)/\aa3 rm kn x p) (hn:∀x,kn x≠none->x∈nmK n):∀(f k:Nat),k<f->k<n->kn (aq k)≠none->∃ys,Chain pa rm (aq k) ys/\ys.length<=f
 | 0,k,h,_,_=>by omega
 | f+1,k,h,hkn,hx=>by
   obtain⟨b,p,hp,ok⟩:=hd _ hx
   cases p with
   | given=>exact⟨[], .g hp,by simp⟩
   | alike=>exact⟨[], .a hp,by simp⟩
   | new=>exact⟨[aq k], .n hp,by simp⟩
   | rcp r s=>exact⟨[aq k], .r hp,by simp⟩
   | rd j nn m=>
     obtain⟨r,ps,v,y,n2,u,h1,h2,h3⟩:=ok
     obtain⟨got,k',hk',ek',rk'⟩:=hok _ r ps v h1
     have:k=k':=iZ (by omega) (by omega) ek'
     subst this
     obtain⟨i,hi,ei⟩:=dD.mp (J5 rk'.i got.c (y,n2) (List.mem_of_getElem? h2))
     have ei:y=aq i:=ei
     subst ei
     obtain⟨ys,c,l⟩:=Pu h17 hok hd hn f i (by omega) (by omega) (by rw[h3];simp)
     exact⟨_, .s hp h1 h2 c,by simp;omega⟩
def Ld (pa:Pm) (x:Str):List V:=match pa x with
 | some (b,_)=>[.str x, .ref b]
 | none=>[]
inductive vO (H:Hp) (pa:Pm):List Addr->List Str->Prop where
 | nil:vO H pa [] []
 | cons {a:Addr}{x:Str}{as:List Addr}{xs:List Str} (h:H a=some (.tup (Ld pa x))) (t:vO H pa as xs):vO H pa (a::as) (x::xs)
theorem vO.tups {H H':Hp}{pa:Pm} (t:jz H H') {as:List Addr}{xs:List Str} (h:vO H pa as xs):vO H' pa as xs:=by
 induction h with
 | nil=>exact .nil
 | cons h _ ih=>exact .cons (t _ _ h) ih
theorem vO.snoc {H:Hp}{pa:Pm}{a:Addr}{x:Str} (h:H a=some (.tup (Ld pa x))):∀{as:List Addr}{xs:List Str},vO H pa as xs->vO H pa (as++[a]) (xs++[x])
 | _,_, .nil=> .cons h .nil
 | _,_, .cons h' t=> .cons h' (t.snoc h)
theorem vO.length {H:Hp}{pa:Pm}{as:List Addr}{xs:List Str} (h:vO H pa as xs):as.length=xs.length:=by
 induction h with
 | nil=>rfl
 | cons _ _ ih=>simp[ih]
structure Ny (H:Hp) (pd:Addr) (kp:List (Key×V)) (pa:Pm):Prop where
 e:Rd H pd (.dK kp)
 v:∀x b p,pa x=some (b,p)->dH kp (.inr x)=some (.ref b)/\jQ H b p
theorem Ny.get {H:Hp}{pd:Addr}{kp:List (Key×V)}{pa:Pm} (h:Ny H pd kp pa) {x:Str}{b:Addr}{p:Pap} (e:pa x=some (b,p)):bK H pd (.str x) (some (.ref b)):=by
 rw[<-(h.v x b p e).1];exact .inl ⟨kp, .inr x,h.e,rfl,rfl⟩
theorem Rd.same {H H':Hp}{a:Addr}{u:HO} (r:Rd H a u) (s:aM H H'):Rd H' a u:=by
 rcases r with r | ⟨o,r⟩
 ·exact .inl (s _ _ r)
 ·exact .inr ⟨o,s _ _ r⟩
theorem Ny.same {H H':Hp}{pd:Addr}{kp:List (Key×V)}{pa:Pm} (h:Ny H pd kp pa) (s:aM H H'):Ny H' pd kp pa:=⟨Rd.same h.e s,fun x b p e=>⟨(h.v x b p e).1,(h.v x b p e).2.tups (aM.tups s)⟩⟩
def aa4:Sp:=fun vs H Q _=>∃(pd rcd:Addr) (kp kr:List (Key×V)) (pa:Pm) (n:Nat) (rm:Rm) (x:Str) (ys:List Str),vs=[.ref pd, .ref rcd, .str x]/\Ny H pd kp pa/\Rd H rcd (.dK kr)/\pF H kr n rm/\Chain pa rm x ys/\ys.length<=100/\
 ∀l as H',aM H H'->H l=none->H' l=some (.lst (as.map V.ref))->vO H' pa as ys->Q (.ref l) H'
end RB
set_option maxRecDepth 100000
namespace RB
open PySem L2 PySem.Spec PyProof.Rows
def Pap.dat:Pap->PyData
 | .given=> .tuple [.str "given"]
 | .new=> .tuple [.str "new"]
 | .rcp r s=> .tuple [.str "recipe",r.dat,s.dat]
 | .rd k n m=> .tuple [.str "read", .int k, .int n, .int m]
 | .alike=> .tuple [.str "alike"]
theorem jQ.dat {K:PySem.W.Frag}{H:Hp}{b:Addr}{p:Pap} (h:jQ H b p):yx K H (.ref b) p.dat:=by
 cases h with
 | given e=>exact .tup (SqT.of e) (.cons (.str _) .nil)
 | new e=>exact .tup (SqT.of e) (.cons (.str _) .nil)
 | rcp e hp hq _ _ _ _=>exact .tup (SqT.of e) (.cons (.str _) (.cons hp.dat (.cons hq.dat .nil)))
 | rd e=>exact .tup (SqT.of e) (.cons (.str _) (.cons (.int _) (.cons (.int _) (.cons (.int _) .nil))))
 | alike e=>exact .tup (SqT.of e) (.cons (.str _) .nil)
theorem jQ.lay {H:Hp}{b:Addr}{p:Pap} (h:jQ H b p):p.dat.canLay0=true/\p.dat.depth<=12:=by
 cases h with
 | given e=>exact⟨by decide +kernel,by decide +kernel⟩
 | new e=>exact⟨by decide +kernel,by decide +kernel⟩
 | @rcp r s _ _ e hp hq gr gs dr ds=>
   have h1:=r.oY
   have h2:=s.oY
   refine⟨?_, ?_⟩
   ·show(PyData.strOk "recipe"&&(r.dat.canLay0&&(s.dat.canLay0&&true)))=true
    rw[r.lay gr,s.lay gs];decide +kernel
   ·simp only[Pap.dat,PyData.depth,PyData.depthAll];omega
 | rd e=>
   refine⟨?_, ?_⟩
   ·show(PyData.strOk "read"&&(true&&(true&&(true&&true))))=true
    decide +kernel
   ·simp only[Pap.dat,PyData.depth,PyData.depthAll];omega
 | alike e=>exact⟨by decide +kernel,by decide +kernel⟩
end RB
set_option maxRecDepth 100000
namespace L2
open PySem PySem.Spec PyProof.Rows
section
variable {prog:Program}{w:World}{A:Around}{E:Value->Shared->Prop}{s:Shared}
theorem Nz {j t:Addr}{k:Nat}{vs:Array Value}{v:Value}{Q:Value->Shared->Prop} (hj:IsTupIter s.heap j t k) (ht:IsTup s.heap t vs) (hv:vs[k]? =some v)
 (q:∀g,IsTupIter g j t (k+1)->Heap.SameBut j s.heap g->Q v {s with heap:=g}):wpAny (model prog w) A (Builtin.SmallTypes.nextOf (.ref j)) Q E s:=by
 have ty:=hj.typeIs
 obtain⟨oj,ej,cj,dj⟩:=hj
 obtain⟨ot,et,_,nt,dt⟩:=ht
 unfold Builtin.SmallTypes.nextOf
 refine wpAny_bind (wpAny_callSpecial?_slot (name:=Str.ofString "__next__") ty slot_tupleiter_next (wpAny_call_entry slot_tupleiter_next ty entry_tupleiter_next ?_ (args_tupleiter_next _)))
 show wpAny _ _ (field (.ref j) 0>>=_) _ _ s
 refine wpAny_bind (wpAny_field ej dj (x:= .ref t) rfl ?_)
 show wpAny _ _ (if(Value.ref t==Value.none)=true then _ else _) _ _ _
 rw[if_neg (by intro z;cases z)]
 show wpAny _ _ (field (.ref j) 1>>=_) _ _ s
 refine wpAny_bind (wpAny_field ej dj (x:= .int k 0) rfl ?_)
 show wpAny _ _ (seqItems? (.ref t)>>=_) _ _ _
 refine wpAny_bind (wpAny_seqItems et dt ?_)
 simp only[hv,Int.toNat_natCast]
 refine wpAny_bind (wpAny_setField ej dj (by simp) (wpAny_pure ⟨v,rfl,wpAny_pure (q _ ?_ (Heap.SameBut.update ..))⟩))
 refine⟨_,Heap.get?_update_self _ ej (Obj.isFreed_of_fields (Obj.data_mapFields dj _)),(Obj.cls_mapFields ..).trans cj, ?_⟩
 rw[Obj.data_mapFields dj];simp[rawInt]
theorem T8 {j t:Addr}{k:Nat}{vs:Array Value}{Q:Value->Shared->Prop} (hA:A.handled=none) (hj:IsTupIter s.heap j t k) (ht:IsTup s.heap t vs) (hv:vs[k]? =none)
 (q:∀g b,Heap.ExtBut j s.heap g->(∃ob,g.get? b=some ob/\ob.cls= .type "StopIteration")->E (.ref b) {s with heap:=g}):wpAny (model prog w) A (Builtin.SmallTypes.nextOf (.ref j)) Q E s:=by
 have ty:=hj.typeIs
 obtain⟨oj,ej,cj,dj⟩:=hj
 obtain⟨ot,et,_,nt,dt⟩:=ht
 unfold Builtin.SmallTypes.nextOf
 refine wpAny_bind (wpAny_callSpecial?_slot (name:=Str.ofString "__next__") ty slot_tupleiter_next (wpAny_call_entry slot_tupleiter_next ty entry_tupleiter_next ?_ (args_tupleiter_next _)))
 show wpAny _ _ (field (.ref j) 0>>=_) _ _ s
 refine wpAny_bind (wpAny_field ej dj (x:= .ref t) rfl ?_)
 show wpAny _ _ (if(Value.ref t==Value.none)=true then _ else _) _ _ _
 rw[if_neg (by intro z;cases z)]
 show wpAny _ _ (field (.ref j) 1>>=_) _ _ s
 refine wpAny_bind (wpAny_field ej dj (x:= .int k 0) rfl ?_)
 show wpAny _ _ (seqItems? (.ref t)>>=_) _ _ _
 refine wpAny_bind (wpAny_seqItems et dt ?_)
 simp only[hv,Int.toNat_natCast]
 refine wpAny_bind (wpAny_rule (wpAny_bind (wpAny_setField ej dj (by simp) ?_)))
 show wpAny _ _ (newExc (.type "StopIteration") []>>=_) _ _ _
 refine wpAny_bind ?_
 simp only[newTuple,newExc]
 refine wpAny_bind (wpAny_newObj_type ?_ (by size_fits))
 refine wpAny_bind (m:=firstArgMember _ _) (wpAny_of_eq (a:=Value.none) (by first | rfl | (unfold firstArgMember;rfl)) ?_)
 refine wpAny_newObj_type ?_ (by size_fits)
 simp only[raiseNew]
 refine wpAny_bind (wpAny_handled ?_)
 first | rw[hA] | rw[show A.in1.handled=none from hA]
 exact wpAny_bind (wpAny_pure (wpAny_throw (q _ _ (((Heap.SameBut.update ..).extBut.push _).push _) ⟨_,Heap.get?_push_size _ rfl,rfl⟩)))
theorem WT {z TI TO i j a b:Addr}{k:Nat}{xs ys:Array Value}{x y p q:Value}{Q:Value->Shared->Prop} (D:ZipApart z TI TO i j a b)
 (ez:IsZip s.heap z TI TO .none) (eI:IsPair s.heap TI (.ref i) (.ref j)) (eO:IsPair s.heap TO p q) (ei:IsTupIter s.heap i a k) (ej:IsTupIter s.heap j b k) (ea:IsTup s.heap a xs) (eb:IsTup s.heap b ys)
 (hx:xs[k]? =some x) (hy:ys[k]? =some y)
 (r:∀g,IsZip g z TI TO (rawInt s.heap.objs.size)->IsPair g TO x y->IsTupIter g i a (k+1)->IsTupIter g j b (k+1)->IsPair g s.heap.objs.size x y->g.objs.size=s.heap.objs.size+1->
   (∀c o,c∉[z,TO,i,j]->s.heap.get? c=some o->g.get? c=some o)->Q (.ref s.heap.objs.size) {s with heap:=g}):
 wpAny (model prog w) A (Builtin.«zip.__next__» ⟨[.ref z],[]⟩) (fun f s'=>∃v,f= .done (.ret v)/\Q v s') E s:=by
 show wpAny _ _ (field (.ref z) 2>>=_) _ _ s
 refine wpAny_bind (wpAny_field ez rfl (x:= .bool false) rfl ?_)
 show wpAny _ _ (field (.ref z) 3>>=_) _ _ s
 refine wpAny_bind (wpAny_field ez rfl (x:= .ref TI) rfl (wpAny_bind (wpAny_seqItems eI rfl ?_)))
 show wpAny _ _ (Builtin.SmallTypes.ownedTupleIsFree (.ref z)>>=_) _ _ s
 refine wpAny_bind ?_
 unfold Builtin.SmallTypes.ownedTupleIsFree;refine wpAny_bind (wpAny_field ez rfl (x:= .none) rfl (wpAny_pure ?_))
 simp only[if_true]
 refine wpAny_bind (wpAny_rule (wpAny_bind (wpAny_field ez rfl (x:= .ref TO) rfl (wpAny_bind (wpAny_setField_rec ez (by simp) fun g1 z1 b1=> ?_)))))
 have z1':IsZip g1 z TI TO .ellipsis:=z1
 refine wpAny_bind ?_
 simp only[List.forIn_cons,List.forIn_nil,List.zipIdx_cons,List.zipIdx_nil]
 refine wpAny_bind (wpAny_bind (wpAny_onRaise ?_))
 show wpAny _ _ (Builtin.SmallTypes.nextOf (.ref i)>>=_) _ _ _
 refine wpAny_bind (Nz (ei.extBut b1.extBut D.i1z) (ea.extBut b1.extBut D.l1z) hx fun g2 i2 b2=>wpAny_pure ?_)
 have o2:IsPair g2 TO p q:=b2.extBut _ _ D.TOi1 (b1.extBut _ _ D.TOz eO)
 refine wpAny_bind (wpAny_seqItems o2 rfl (wpAny_bind (wpAny_updateSeq_pair o2 fun g3 o3 b3=> ?_)))
 have o3':IsPair g3 TO x q:=o3
 refine wpAny_bind (wpAny_letGo (wpAny_pure (wpAny_bind (wpAny_bind (wpAny_onRaise ?_)))))
 show wpAny _ _ (Builtin.SmallTypes.nextOf (.ref j)>>=_) _ _ _
 refine wpAny_bind (Nz (((ej.extBut b1.extBut D.i2z).extBut b2.extBut D.i12.symm).extBut b3.extBut D.TOi2.symm) (((eb.extBut b1.extBut D.l2z).extBut b2.extBut D.l2i1).extBut b3.extBut D.l2TO) hy fun g4 j4 b4=>wpAny_pure ?_)
 have o4:IsPair g4 TO x q:=b4.extBut _ _ D.TOi2 o3'
 refine wpAny_bind (wpAny_seqItems o4 rfl (wpAny_bind (wpAny_updateSeq_pair o4 fun g5 o5 b5=> ?_)))
 have o5':IsPair g5 TO x y:=o5
 refine wpAny_bind (wpAny_letGo (wpAny_pure (wpAny_pure (wpAny_bind (wpAny_seqItems o5' rfl (wpAny_bind (wpAny_newTuple ?_)))))))
 have sz:g5.objs.size=s.heap.objs.size:=by rw[b5.1,b4.1,b3.1,b2.1,b1.1]
 have z5:IsZip g5 z TI TO .ellipsis:=b5.extBut _ _ D.TOz.symm (b4.extBut _ _ D.i2z.symm (b3.extBut _ _ D.TOz.symm (b2.extBut _ _ D.i1z.symm z1')))
 have k5:∀c o,c∉[z,TO,i,j]->s.heap.get? c=some o->g5.get? c=some o:=fun c o hc e=>by
  simp only[List.mem_cons,List.not_mem_nil,or_false,not_or] at hc
  exact b5.extBut _ _ hc.2.1 (b4.extBut _ _ hc.2.2.2 (b3.extBut _ _ hc.2.1 (b2.extBut _ _ hc.2.2.1 (b1.extBut _ _ hc.1 e))))
 have i5:IsTupIter g5 i a (k+1):=((i2.extBut b3.extBut D.TOi1.symm).extBut b4.extBut D.i12).extBut b5.extBut D.TOi1.symm
 have j5:IsTupIter g5 j b (k+1):=j4.extBut b5.extBut D.TOi2.symm
 have lz:g5.objs.size≠z:=Nat.ne_of_gt (Heap.lt_size z5)
 show wpAny _ _ (Builtin.SmallTypes.ownedTupleHandOut (.ref z) (.ref g5.objs.size)>>=_) _ _ _
 refine wpAny_bind ?_
 unfold Builtin.SmallTypes.ownedTupleHandOut;refine wpAny_bind (wpAny_setField_rec (Heap.get?_push_of_some _ z5) (by simp) fun g7 z7 b7=> ?_)
 have z7':IsZip g7 z TI TO (rawInt g5.objs.size):=z7
 refine wpAny_setField_rec z7' (by simp) fun g8 z8 b8=> ?_
 have z8':IsZip g8 z TI TO (rawInt g5.objs.size):=z8
 have up:∀c o,c≠z->g5.get? c=some o->g8.get? c=some o:=fun c o hc e=>b8.extBut _ _ hc (b7.extBut _ _ hc (Heap.get?_push_of_some _ e))
 have t8:IsPair g8 g5.objs.size x y:=b8.extBut _ _ lz (b7.extBut _ _ lz (Heap.get?_push_size _ rfl))
 have s8:g8.objs.size=g5.objs.size+1:=by rw[b8.1,b7.1,Heap.size_push]
 rw[sz] at z8' t8 s8
 refine wpAny_pure ⟨_,rfl, ?_⟩
 show Q (.ref g5.objs.size) _
 rw[sz]
 obtain⟨oi,qi,ri⟩:=i5
 obtain⟨oj,qj,rj⟩:=j5
 exact r g8 z8' (up _ _ D.TOz o5') ⟨oi,up _ _ D.i1z qi,ri⟩ ⟨oj,up _ _ D.i2z qj,rj⟩ t8 s8 fun c o hc e=>up c o (fun h=>hc (by simp[h])) (k5 c o hc e)
theorem WW {z TI TO i j a b:Addr}{k:Nat}{xs ys:Array Value}{p q:Value}{Q:Fin->Shared->Prop} (hA:A.handled=none) (D:ZipApart z TI TO i j a b)
 (ez:IsZip s.heap z TI TO .none) (eI:IsPair s.heap TI (.ref i) (.ref j)) (eO:IsPair s.heap TO p q) (ei:IsTupIter s.heap i a k) (ej:IsTupIter s.heap j b k) (ea:IsTup s.heap a xs) (eb:IsTup s.heap b ys)
 (hend:xs[k]? =none\/ys[k]? =none)
 (r:∀g u,(∀c o,c∉[z,TO,i,j]->s.heap.get? c=some o->g.get? c=some o)->(∃o,g.get? u=some o/\o.cls= .type "StopIteration")->E (.ref u) {s with heap:=g}):
 wpAny (model prog w) A (Builtin.«zip.__next__» ⟨[.ref z],[]⟩) Q E s:=by
 show wpAny _ _ (field (.ref z) 2>>=_) _ _ s
 refine wpAny_bind (wpAny_field ez rfl (x:= .bool false) rfl ?_)
 show wpAny _ _ (field (.ref z) 3>>=_) _ _ s
 refine wpAny_bind (wpAny_field ez rfl (x:= .ref TI) rfl (wpAny_bind (wpAny_seqItems eI rfl ?_)))
 show wpAny _ _ (Builtin.SmallTypes.ownedTupleIsFree (.ref z)>>=_) _ _ s
 refine wpAny_bind ?_
 unfold Builtin.SmallTypes.ownedTupleIsFree;refine wpAny_bind (wpAny_field ez rfl (x:= .none) rfl (wpAny_pure ?_))
 simp only[if_true]
 refine wpAny_bind (wpAny_rule (wpAny_bind (wpAny_field ez rfl (x:= .ref TO) rfl (wpAny_bind (wpAny_setField_rec ez (by simp) fun g1 z1 b1=> ?_)))))
 have z1':IsZip g1 z TI TO .ellipsis:=z1
 refine wpAny_bind ?_
 simp only[List.forIn_cons,List.forIn_nil,List.zipIdx_cons,List.zipIdx_nil]
 refine wpAny_bind (wpAny_bind (wpAny_onRaise ?_))
 show wpAny _ _ (Builtin.SmallTypes.nextOf (.ref i)>>=_) _ _ _
 have nz:∀{g:Heap}{u o},IsZip g z TI TO .ellipsis->g.get? u=some o->o.cls= .type "StopIteration"->u≠z:=fun hz hu hc h=>by subst h;rw[hz] at hu;cases hu;simp at hc
 cases hx:xs[k]? with
 | none=>
   refine wpAny_bind (T8 hA (ei.extBut b1.extBut D.i1z) (ea.extBut b1.extBut D.l1z) hx fun g2 u b2 ⟨ou,hou,hcu⟩=> ?_)
   have z2:IsZip g2 z TI TO .ellipsis:=b2 _ _ D.i1z.symm z1'
   refine wpAny_setField_rec z2 (by simp) fun g3 _ b3=>r g3 u (fun c o hc e=> ?_) ⟨ou,b3.extBut _ _ (nz z2 hou hcu) hou,hcu⟩
   simp only[List.mem_cons,List.not_mem_nil,or_false,not_or] at hc
   exact b3.extBut _ _ hc.1 (b2 _ _ hc.2.2.1 (b1.extBut _ _ hc.1 e))
 | some x=>
   have hy:ys[k]? =none:=by rcases hend with h | h;exact absurd (hx.symm.trans h) (by simp);exact h
   refine wpAny_bind (Nz (ei.extBut b1.extBut D.i1z) (ea.extBut b1.extBut D.l1z) hx fun g2 i2 b2=>wpAny_pure ?_)
   have o2:IsPair g2 TO p q:=b2.extBut _ _ D.TOi1 (b1.extBut _ _ D.TOz eO)
   refine wpAny_bind (wpAny_seqItems o2 rfl (wpAny_bind (wpAny_updateSeq_pair o2 fun g3 o3 b3=> ?_)))
   refine wpAny_bind (wpAny_letGo (wpAny_pure (wpAny_bind (wpAny_bind (wpAny_onRaise ?_)))))
   show wpAny _ _ (Builtin.SmallTypes.nextOf (.ref j)>>=_) _ _ _
   refine wpAny_bind (T8 hA (((ej.extBut b1.extBut D.i2z).extBut b2.extBut D.i12.symm).extBut b3.extBut D.TOi2.symm) (((eb.extBut b1.extBut D.l2z).extBut b2.extBut D.l2i1).extBut b3.extBut D.l2TO) hy fun g4 u b4 ⟨ou,hou,hcu⟩=> ?_)
   have z4:IsZip g4 z TI TO .ellipsis:=b4 _ _ D.i2z.symm (b3.extBut _ _ D.TOz.symm (b2.extBut _ _ D.i1z.symm z1'))
   refine wpAny_setField_rec z4 (by simp) fun g5 _ b5=>r g5 u (fun c o hc e=> ?_) ⟨ou,b5.extBut _ _ (nz z4 hou hcu) hou,hcu⟩
   simp only[List.mem_cons,List.not_mem_nil,or_false,not_or] at hc
   exact b5.extBut _ _ hc.1 (b4 _ _ hc.2.2.2 (b3.extBut _ _ hc.2.1 (b2.extBut _ _ hc.2.2.1 (b1.extBut _ _ hc.1 e))))
end
end L2
set_option maxRecDepth 100000
namespace L2
open PySem PySem.Spec PyProof.Rows
abbrev tzA (g:Heap) (a:Addr):Heap:=g.push {cls:= .type "tuple_iterator",data:= .fields #[.ref a, .int 0 0]}
abbrev tzB (g:Heap) (a b:Addr):Heap:=(tzA g a).push {cls:= .type "tuple_iterator",data:= .fields #[.ref b, .int 0 0]}
abbrev tzC (g:Heap) (a b:Addr):Heap:=(tzB g a b).push {cls:= .type "tuple",data:= .seq #[.ref g.objs.size, .ref (tzA g a).objs.size]}
abbrev tzD (g:Heap) (a b:Addr):Heap:=(tzC g a b).push {cls:= .type "tuple",data:= .seq #[.none, .none]}
abbrev tzE (g:Heap) (a b:Addr):Heap:=(tzD g a b).push {cls:= .type "zip",data:= .fields #[.none, .bool false, .bool false, .ref (tzB g a b).objs.size, .ref (tzC g a b).objs.size]}
theorem WX (a b:Addr) (xs ys:Array Value):
 Meets (Builtin.«zip.__new__» ⟨[.type "zip", .ref a, .ref b],[]⟩) (fun _ R s=>IsTup s.heap a xs/\IsTup s.heap b ys/\
  R (.ok (.ret (.ref (tzD s.heap a b).objs.size))) {s with heap:=tzE s.heap a b}):=
 .of_wp fun prog w A R s h=>by
   obtain⟨hp,g,d,tk,os⟩:=s;obtain⟨ha,hb,h⟩:=h
   have hsub:=sub_zip
   have h1:IsTup (Shared.heap ⟨hp,g,d,tk,os⟩) a xs:=ha
   have h2:IsTup (Shared.heap ⟨hp.push {cls:= .type "tuple_iterator",data:= .fields #[.ref a, .int 0 0]},g,d,tk,os⟩) b ys:=hb.push _
   wp_walk using iter_tuple h1,iter_tuple h2
   exact⟨_,rfl,h⟩
section
variable {prog:Program}{w:World}{A:Around}{E:Value->Shared->Prop}{s:Shared}
theorem Zn {a b:Addr}{xs ys:Array Value}{Q:Value->Shared->Prop} (ha:IsTup s.heap a xs) (hb:IsTup s.heap b ys)
 (q:∀g n,n=s.heap.objs.size->IsZip g (n+4) (n+2) (n+3) .none->IsPair g (n+2) (.ref n) (.ref (n+1))->
   IsPair g (n+3) .none .none->IsTupIter g n a 0->IsTupIter g (n+1) b 0->
   (∀c o,s.heap.get? c=some o->g.get? c=some o)->Q (.ref (n+4)) {s with heap:=g}):
 wpAny (model prog w) A (call (.type "zip") [.ref a, .ref b]) Q E s:=by
 refine callType_new F.called_zip (by decide) (F.typeCall_zip_2 _ _) (F.newCall_zip_2 _ _) (fun obj=>F.args_object_init_3 obj _ _) F.entry_zip_new
  (WX a b xs ys) ⟨ha,hb, ?_⟩
 have n1:(tzA s.heap a).objs.size=s.heap.objs.size+1:=Heap.size_push ..
 have n2:(tzB s.heap a b).objs.size=s.heap.objs.size+2:=by rw[Heap.size_push,n1]
 have n3:(tzC s.heap a b).objs.size=s.heap.objs.size+3:=by rw[Heap.size_push,n2]
 have n4:(tzD s.heap a b).objs.size=s.heap.objs.size+4:=by rw[Heap.size_push,n3]
 have e5:(tzE s.heap a b).get? (tzD s.heap a b).objs.size=some _:=Heap.get?_push_size _ rfl
 have e4:(tzE s.heap a b).get? (tzC s.heap a b).objs.size=some _:=Heap.get?_push_of_some _ (Heap.get?_push_size _ rfl)
 have e3:(tzE s.heap a b).get? (tzB s.heap a b).objs.size=some _:=Heap.get?_push_of_some _ (Heap.get?_push_of_some _ (Heap.get?_push_size _ rfl))
 have e2:(tzE s.heap a b).get? (tzA s.heap a).objs.size=some _:=Heap.get?_push_of_some _ (Heap.get?_push_of_some _ (Heap.get?_push_of_some _ (Heap.get?_push_size _ rfl)))
 have e1:(tzE s.heap a b).get? s.heap.objs.size=some _:=Heap.get?_push_of_some _ (Heap.get?_push_of_some _ (Heap.get?_push_of_some _ (Heap.get?_push_of_some _ (Heap.get?_push_size _ rfl))))
 show _/\_
 rw[n2,n3,n4] at e5
 rw[n3] at e4
 rw[n1,n2] at e3
 rw[n1] at e2
 rw[n4]
 exact⟨⟨_,e5,rfl⟩,q _ _ rfl e5 e3 e4 ⟨_,e1,rfl,rfl⟩ ⟨_,e2,rfl,rfl⟩ fun c o x=>
  Heap.get?_push_of_some _ (Heap.get?_push_of_some _ (Heap.get?_push_of_some _ (Heap.get?_push_of_some _ (Heap.get?_push_of_some _ x))))⟩
theorem Zo {z TI TO i j a b:Addr}{k:Nat}{xs ys:Array Value}{x y p q:Value}{Q:Option Value->Shared->Prop} (D:ZipApart z TI TO i j a b)
 (ez:IsZip s.heap z TI TO .none) (eI:IsPair s.heap TI (.ref i) (.ref j)) (eO:IsPair s.heap TO p q) (ei:IsTupIter s.heap i a k) (ej:IsTupIter s.heap j b k) (ea:IsTup s.heap a xs) (eb:IsTup s.heap b ys)
 (hx:xs[k]? =some x) (hy:ys[k]? =some y)
 (r:∀g,IsZip g z TI TO (rawInt s.heap.objs.size)->IsPair g TO x y->IsTupIter g i a (k+1)->IsTupIter g j b (k+1)->IsPair g s.heap.objs.size x y->g.objs.size=s.heap.objs.size+1->
   (∀c o,c∉[z,TO,i,j]->s.heap.get? c=some o->g.get? c=some o)->Q (some (.ref s.heap.objs.size)) {s with heap:=g}):
 wpAny (model prog w) A (pyNext (.ref z)) Q E s:=by
 have ty:s.TypeIs (.ref z) "zip":=⟨_,ez,rfl⟩
 unfold pyNext
 exact wpAny_bind (wpAny_attempt (wpAny_callSpecial?_slot (name:=Str.ofString "__next__") ty F.slot_zip_next (wpAny_call_entry F.slot_zip_next ty F.entry_zip_next
  (WT D ez eI eO ei ej ea eb hx hy fun g a1 a2 a3 a4 a5 a6 a7=>wpAny_pure (r g a1 a2 a3 a4 a5 a6 a7)) (F.args_zip_next_1 _))))
theorem ac3 {z TI TO i j a b:Addr}{k:Nat}{xs ys:Array Value}{p q:Value}{Q:Option Value->Shared->Prop} (hA:A.handled=none) (D:ZipApart z TI TO i j a b)
 (ez:IsZip s.heap z TI TO .none) (eI:IsPair s.heap TI (.ref i) (.ref j)) (eO:IsPair s.heap TO p q) (ei:IsTupIter s.heap i a k) (ej:IsTupIter s.heap j b k) (ea:IsTup s.heap a xs) (eb:IsTup s.heap b ys)
 (hend:xs[k]? =none\/ys[k]? =none)
 (r:∀g,(∀c o,c∉[z,TO,i,j]->s.heap.get? c=some o->g.get? c=some o)->Q none {s with heap:=g}):
 wpAny (model prog w) A (pyNext (.ref z)) Q E s:=by
 have ty:s.TypeIs (.ref z) "zip":=⟨_,ez,rfl⟩
 unfold pyNext
 refine wpAny_bind (wpAny_attempt (wpAny_callSpecial?_slot (name:=Str.ofString "__next__") ty F.slot_zip_next (wpAny_call_entry F.slot_zip_next ty F.entry_zip_next
  (WW hA D ez eI eO ei ej ea eb hend fun g u hk ⟨o,ho,hc⟩=> ?_) (F.args_zip_next_1 _))))
 exact wpAny_bind (wpAny_isInstance (T:="StopIteration") (b:=true) ⟨o,ho,hc⟩ isSubtype_stop (wpAny_pure (r _ hk)))
end
def ac4 (K:PySem.W.Frag) (l1 l2:Addr):It:=
 ⟨fun i H=>∃xs ys x y,SqT K H l1 xs/\SqT K H l2 ys/\xs[i]? =some x/\ys[i]? =some y,
  fun i H v H'=>∃T x y,v= .ref T/\H T=none/\H'=upd H T (.tup [x,y])/\(∀xs,SqT K H l1 xs->xs[i]? =some x)/\∀ys,SqT K H l2 ys->ys[i]? =some y,
  fun i H=>∃xs ys,SqT K H l1 xs/\SqT K H l2 ys/\min xs.length ys.length=i⟩
theorem Zq {P:Program}{w:World}{K:PySem.W.Frag}{elts:List Expr}{k:Nat}{pos:Pos} (z TI TO i1 i2 l1 l2:Addr) (D:ZipApart z TI TO i1 i2 l1 l2):
 Turn P w K (.Tuple elts k pos) (ac4 K l1 l2) [z,TI,TO,i1,i2] z (fun i h=>IsZip h z TI TO .none/\IsPair h TI (.ref i1) (.ref i2)/\(∃a b,IsPair h TO a b)/\IsTupIter h i1 l1 i/\IsTupIter h i2 l2 i) where
 mem:=by simp
 obj:=fun i h st b hb=>by
  obtain⟨h1,h2,⟨a,c,h3⟩,⟨o4,e4,_,d4⟩,⟨o5,e5,_,d5⟩⟩:=st
  have hb':b=z\/b=TI\/b=TO\/b=i1\/b=i2:=by simpa using hb
  rcases hb' with rfl | rfl | rfl | rfl | rfl
  ·exact⟨_,h1,fun v e=>by cases e⟩
  ·exact⟨_,h2,fun v e=>by cases e⟩
  ·exact⟨_,h3,fun v e=>by cases e⟩
  ·exact⟨o4,e4,fun v e=>by rw[d4] at e;cases e⟩
  ·exact⟨o5,e5,fun v e=>by rw[d5] at e;cases e⟩
 keep:=fun i h h' st kp=>by
  obtain⟨h1,h2,⟨a,c,h3⟩,⟨o4,e4,r4⟩,⟨o5,e5,r5⟩⟩:=st
  exact⟨kp z (by simp) _ h1,kp TI (by simp) _ h2,⟨a,c,kp TO (by simp) _ h3⟩,⟨o4,kp i1 (by simp) _ e4,r4⟩,⟨o5,kp i2 (by simp) _ e5,r5⟩⟩
 item:=by
  intro X hP hw hK hc i pins s σ H E I hf st hg
  subst hP hw hK
  obtain⟨xs,ys,x,y,hq1,hq2,hx,hy⟩:=hg
  obtain⟨afU,rv1,p1,hz1⟩:=I.tuple hq1
  obtain⟨its2,rv2,p2,hz2⟩:=I.tuple hq2
  obtain⟨u1,hu1,ru1⟩:=rv1.get hx
  obtain⟨u2,hu2,ru2⟩:=rv2.get hy
  obtain⟨s1,s2,⟨a3,b3,s3⟩,s4,s5⟩:=st
  refine Zo D s1 s2 s3 s4 s5 p1 p2 (x:=u1) (y:=u2) (by simpa using hu1) (by simpa using hu2) fun g t1 t3 t4 t5 isT sz kp=> ?_
  have sub:∀c∈[z,TO,i1,i2],c∈[z,TI,TO,i1,i2]:=fun c hc=>by
   have:c=z\/c=TO\/c=i1\/c=i2:=by simpa using hc
   rcases this with rfl | rfl | rfl | rfl<;>simp
  have tI:IsPair g TI (.ref i1) (.ref i2):=kp TI _ (by simp[D.TIz,D.TITO,D.TIi1,D.TIi2]) s2
  refine⟨.ref s.heap.objs.size,rfl,wpAny_letOwnedTupleGo_zip t1 fun h3 t1' b3'=> ?_⟩
  have kp3:∀c o,c∉[z,TO,i1,i2]->s.heap.get? c=some o->h3.get? c=some o:=fun c o hc e=>b3'.extBut _ _ (fun h=>hc (by simp[h])) (kp c o hc e)
  have J:Inv X pins σ H {s with heap:=h3,toks:=s.toks}:=I.Jl (ch:=[z,TO,i1,i2]) (fun b hb=>hf b (sub b hb)) kp3
  have hT0:H s.heap.objs.size=none:=I.hok.fresh (Nat.le_refl _)
  have nT:s.heap.objs.size∉[z,TI,TO,i1,i2]:=fun hm=>by
   obtain⟨o,e⟩:∃o,s.heap.get? s.heap.objs.size=some o:=by
    have:s.heap.objs.size=z\/s.heap.objs.size=TI\/s.heap.objs.size=TO\/s.heap.objs.size=i1\/s.heap.objs.size=i2:=by simpa using hm
    obtain⟨o4,e4,_⟩:=s4
    obtain⟨o5,e5,_⟩:=s5
    rcases this with h | h | h | h | h
    ·exact⟨_,h▸s1⟩
    ·exact⟨_,h▸s2⟩
    ·exact⟨_,h▸s3⟩
    ·exact⟨_,h▸e4⟩
    ·exact⟨_,h▸e5⟩
   exact absurd (Heap.lt_size e) (Nat.lt_irrefl _)
  have ac5:IsTup h3 s.heap.objs.size #[u1,u2]:=⟨_,b3'.extBut _ _ (fun h=>nT (by simp[h])) isT,rfl,_,rfl⟩
  have fp:=I.M5 (H':=H) (Nat.le_refl _) hT0
  refine⟨.ref s.heap.objs.size,upd H s.heap.objs.size (.tup [x,y]),J.track hT0 ?_ fp.2.1 fp.2.2.2.2.1 fp.2.2.2.2.2 ?_,rfl,⟨_,x,y,rfl,hT0,rfl,fun zs hs=>by rw[I.LQ hs hq1];exact hx,fun zs hs=>by rw[I.LQ hs hq2];exact hy⟩,
   ⟨t1',b3'.extBut _ _ D.TIz tI,⟨_,_,b3'.extBut _ _ D.TOz t3⟩,t4.extBut b3'.extBut D.i1z,t5.extBut b3'.extBut D.i2z⟩,fun b hb=> ?_⟩
  ·cases e:X.s₀.heap.get? s.heap.objs.size with
   | none=>rfl
   | some o=>exact absurd (Heap.lt_size e) (Nat.not_lt.mpr I.sz)
  ·exact⟨by show 2<=sizeLine;rw[sizeLine_eq];decide,[u1,u2], .cons ru1 (.cons ru2 .nil),ac5⟩
  ·have nb:b≠s.heap.objs.size:=fun e=>nT (by rw[<-e];exact hb)
   rw[au nb];exact(hf b hb).1
 done:=by
  intro X hP hw hK hc i pins s σ H E I hf st hg
  subst hP hw hK
  obtain⟨xs,ys,hq1,hq2,hi⟩:=hg
  obtain⟨afU,rv1,p1,hz1⟩:=I.tuple hq1
  obtain⟨its2,rv2,p2,hz2⟩:=I.tuple hq2
  obtain⟨s1,s2,⟨a3,b3,s3⟩,s4,s5⟩:=st
  have e1:=rv1.length
  have e2:=rv2.length
  refine ac3 (I.ok.hd hc) D s1 s2 s3 s4 s5 p1 p2 ?_ fun g kp=>⟨rfl,I.Jl (t':=s.toks) (ch:=[z,TO,i1,i2]) (fun b hb=>hf b ?_) kp⟩
  ·rcases Nat.le_total xs.length ys.length with h | h
   ·exact .inl (by simp;omega)
   ·exact .inr (by simp;omega)
  ·have:b=z\/b=TO\/b=i1\/b=i2:=by simpa using hb
   rcases this with rfl | rfl | rfl | rfl<;>simp
 self:=fun _ _ _ _ _ st h=>wpAny_pyIter_zip st.1 h
def aa5 (K:PySem.W.Frag) (ta:TA):TI:=fun σ H R=>ta σ H fun vs H1=>∃l1 l2,vs=[.ref l1, .ref l2]/\(∃xs,SqT K H1 l1 xs)/\(∃ys,SqT K H1 l2 ys)/\R (ac4 K l1 l2) H1
theorem Zr {X:Cx}{elts:List Expr}{k:Nat}{tp:Pos}{a b:Expr}{ta:TA}{p pos:Pos} (hg:Gl X "zip") (hm:X.mg "zip"=none) (ha:PA X [a,b] ta) (hs:starEach [a,b] X.env=[(false,eval a X.env),(false,eval b X.env)]:=by rfl) (hs2:starEach [b] X.env=[(false,eval b X.env)]:=by rfl):
 PI X (.Tuple elts k tp) (.Call (.Name "zip" p) [a,b] [] pos) (aa5 X.K ta):=by
 intro pins s σ H R I h
 refine Call_ (Ca I hg hm acz (PyProof.Rows.callWith_type1 (thn (ha pos pins s σ H _ I h) fun us s1 ⟨vs,H1,I1,r1,q1⟩=> ?_) (by rw[hs,hs2]) (by rw[hs2];rfl)))
 obtain⟨l1,l2,rfl,⟨xs,hq1⟩,⟨ys,hq2⟩,q⟩:=q1
 obtain⟨u,v,rfl,ru,rv⟩:=vals2 r1
 cases ru
 cases rv
 obtain⟨afU,_,p1,_⟩:=I1.tuple hq1
 obtain⟨its2,_,p2,_⟩:=I1.tuple hq2
 have D:=PySem.W.ktu_apart s1.heap.objs.size l1 l2 p1.lt p2.lt
 refine Zn p1 p2 fun h5 n en hz hTI hTO hi1 hi2 kp=> ?_
 subst en
 refine wpAny_pyIter_zip hz ?_
 have I2:Inv X pins σ H1 {s1 with heap:=h5}:=I1.kept (t':=s1.toks) kp
 refine⟨s1.heap.objs.size+4,[s1.heap.objs.size+4,s1.heap.objs.size+2,s1.heap.objs.size+3,s1.heap.objs.size,s1.heap.objs.size+1],_,_,H1,rfl,I2,Zq _ _ _ _ _ l1 l2 D,⟨hz,hTI,⟨_,_,hTO⟩,hi1,hi2⟩,fun b hb=> ?_,q⟩
 have hle:s1.heap.objs.size<=b:=by
  have:b=s1.heap.objs.size+4\/b=s1.heap.objs.size+2\/b=s1.heap.objs.size+3\/b=s1.heap.objs.size\/b=s1.heap.objs.size+1:=by simpa using hb
  rcases this with rfl | rfl | rfl | rfl | rfl<;>first | exact Nat.le_refl _ | exact Nat.le_add_right _ _
 exact I1.M5 hle (I1.hok.fresh hle)
theorem Zt {X:Cx}{elts:List Expr}{k:Nat}{tp:Pos}{a b:Expr}{ta:TA}{p pos:Pos} (hg:Gl X "zip") (hm:X.mg "zip"=none) (ha:QA X [a,b] ta) (hs:starEach [a,b] X.env=[(false,eval a X.env),(false,eval b X.env)]:=by rfl) (hs2:starEach [b] X.env=[(false,eval b X.env)]:=by rfl):
 QI X (.Tuple elts k tp) (.Call (.Name "zip" p) [a,b] [] pos) (aa5 X.K ta):=⟨Zr hg hm ha.h hs hs2⟩
theorem Va {K:PySem.W.Frag}{a b:Addr}{xs ys:List V}{g:TG}{tc:TT}{te:TE}{σ:St}{H:Hp}{D:Addr}{Q:VK} (Pv:Nat->St->Hp->Prop) (hxy:xs.length=ys.length) (h0:Pv 0 σ (upd H D (.lst [])))
 (hl:∀i σ H,i<=xs.length->Pv i σ H->SqT K H a xs/\SqT K H b ys)
 (hs:∀i x y T σ' H',xs[i]? =some x->ys[i]? =some y->Pv i σ' H'->H' T=none->g (.ref T) σ' (upd H' T (.tup [x,y])) fun σ3 H3=>tc σ3 H3 fun b H4=>
   if b=true then te σ3 H4 fun y H5=>∃ys,H5 D=some (.lst ys)/\ys.length<sizeLine/\Pv (i+1) σ3 (upd H5 D (.lst (ys++[y]))) else Pv (i+1) σ3 H4) (hd:∀σ' H',Pv xs.length σ' H'->Q (.ref D) H'):
 Mp (ac4 K a b) g tc te D σ (upd H D (.lst [])) Q:=by
 refine⟨fun i m σ H=>m=xs.length - i/\i<=xs.length/\Pv i σ H,⟨xs.length,by simp,Nat.zero_le _,h0⟩, ?_⟩
 rintro i m σ H ⟨rfl,hi,p⟩
 have q:=hl i σ H hi p
 by_cases hlt:i<xs.length
 ·refine .inr ⟨⟨xs,ys,xs[i],ys[i]'(hxy▸hlt),q.1,q.2,by simp[hlt],by simp[hxy▸hlt]⟩,Pv (i+1),fun σ' H' p'=>⟨xs.length - (i+1),by omega,rfl,hlt,p'⟩,fun v H' y=> ?_⟩
  obtain⟨T,x,y',rfl,hT,rfl,y1,y2⟩:=y
  exact hs i x y' T σ _ (y1 xs q.1) (y2 ys q.2) p hT
 ·have e:i=xs.length:=by omega
  subst e
  exact .inl ⟨⟨xs,ys,q.1,q.2,by omega⟩,hd σ H p⟩
end L2
set_option maxRecDepth 100000
namespace RB
open PySem PySem.Spec PyProof.Rows L2
mutual
def dN:Th->Th->Bool
 | .tup xs, .tup ys=>jK xs ys
 | .int i, .int j=>decide (i=j)
 | .str x, .str y=>decide (x=y)
 | _,_=>false
def jK:List Th->List Th->Bool
 |[],[]=>true
 | x::xs,y::ys=>dN x y&&jK xs ys
 | _,_=>false
end
def DpT:Nat->Th->Prop
 | 0, .tup _=>False
 | d+1, .tup ts=>ts.length<=1000/\∀t∈ts,DpT d t
 | _,_=>True
theorem J6:∀{xs ys:List Th},xs.length≠ys.length->jK xs ys=false
 |[],[],h=>absurd rfl h
 |[],_::_,_=>by simp[jK]
 | _::_,[],_=>by simp[jK]
 | x::xs,y::ys,h=>by
   have:jK xs ys=false:=J6 (by simpa using h)
   simp[jK,this]
theorem J7:∀{xs ys:List Th},xs.length=ys.length->jK xs ys=((List.zipWith dN xs ys).all id)
 |[],[],_=>by simp[jK]
 | x::xs,y::ys,h=>by
   have:jK xs ys=((List.zipWith dN xs ys).all id):=J7 (by simpa using h)
   simp[jK,this]
def Gy (K:PySem.W.Frag) (d:Nat):Sp:=fun vs H Q _=>∃v t v' t',vs=[v,v']/\nQ K H v t/\nQ K H v' t'/\DpT d t/\∀H',aM H H'->Q (.bl (dN t t')) H'
theorem p7.at {K:PySem.W.Frag}{H:Hp}{vs:List V}{ts:List Th}{i:Nat}{v:V} (h:p7 K H vs ts) (e:vs[i]? =some v):∃(hi:i<ts.length),nQ K H v ts[i]:=by
 obtain⟨t,et,r⟩:=h.get e
 obtain⟨hi,rfl⟩:=List.getElem?_eq_some_iff.mp et
 exact⟨hi,r⟩
theorem Vb {α β γ:Type} (f:α->β->γ) {xs:List α}{ys:List β}{i:Nat} (h1:i<xs.length) (h2:i<ys.length):(List.zipWith f xs ys).take i++[f xs[i] ys[i]]=(List.zipWith f xs ys).take (i+1):=by
 rw[List.take_add_one,List.getElem?_eq_getElem (by simp;omega),List.getElem_zipWith];rfl
end RB
set_option maxRecDepth 100000
namespace RB
open PySem L2 PySem.Spec PyProof.Rows
def rK (gv:Kn) (rc:Rn) (rm:Rm) (kn:Kn) (x:Str):Pap->Prop
 | .given=>gv x≠none
 | .new=>gv x=none/\rm x=none
 | .rcp r s=>gv x=none/\rc x=some s/\r≠s/\∃ps v,rm x=some (r,ps,v)
 | .rd k n m=>gv x=none/\∃r ps v y,rm x=some (r,ps,v)/\rc x=some r/\(∀(j:Nat) p,j<k->ps[j]? =some p->kn p.1=some p.2)/\ps[k]? =some (y,n)/\kn y=some m/\m≠n
 | .alike=>gv x=none/\∃r ps v,rm x=some (r,ps,v)/\rc x=some r/\∀(j:Nat) p,ps[j]? =some p->kn p.1=some p.2
theorem rK.one {gv:Kn}{rc:Rn}{rm:Rm}{kn:Kn}{x:Str}:∀{p q:Pap},rK gv rc rm kn x p->rK gv rc rm kn x q->p=q
 | .given, .given,_,_=>rfl
 | .given, .new,h,g=>absurd g.1 h
 | .given, .rcp _ _,h,g=>absurd g.1 h
 | .given, .rd _ _ _,h,g=>absurd g.1 h
 | .given, .alike,h,g=>absurd g.1 h
 | .new, .given,h,g=>absurd h.1 g
 | .rcp _ _, .given,h,g=>absurd h.1 g
 | .rd _ _ _, .given,h,g=>absurd h.1 g
 | .alike, .given,h,g=>absurd h.1 g
 | .new, .new,_,_=>rfl
 | .new, .rcp _ _,h,g=>by obtain⟨_,_,_,ps,v,e⟩:=g;rw[h.2] at e;cases e
 | .new, .rd _ _ _,h,g=>by obtain⟨_,r,ps,v,y,e,_⟩:=g;rw[h.2] at e;cases e
 | .new, .alike,h,g=>by obtain⟨_,r,ps,v,e,_⟩:=g;rw[h.2] at e;cases e
 | .rcp _ _, .new,g,h=>by obtain⟨_,_,_,ps,v,e⟩:=g;rw[h.2] at e;cases e
 | .rd _ _ _, .new,g,h=>by obtain⟨_,r,ps,v,y,e,_⟩:=g;rw[h.2] at e;cases e
 | .alike, .new,g,h=>by obtain⟨_,r,ps,v,e,_⟩:=g;rw[h.2] at e;cases e
 | .rcp _ _, .rcp _ _,h,g=>by
   obtain⟨_,h1,_,ps,v,e⟩:=h
   obtain⟨_,g1,_,ps',v',e'⟩:=g
   rw[e] at e';rw[h1] at g1
   cases e';cases g1;rfl
 | .rcp _ _, .rd _ _ _,h,g=>by
   obtain⟨_,h1,h2,ps,v,e⟩:=h
   obtain⟨_,r,ps',v',y,e',g1,_⟩:=g
   rw[e] at e';rw[h1] at g1
   cases e';cases g1;exact absurd rfl h2
 | .rcp _ _, .alike,h,g=>by
   obtain⟨_,h1,h2,ps,v,e⟩:=h
   obtain⟨_,r,ps',v',e',g1,_⟩:=g
   rw[e] at e';rw[h1] at g1
   cases e';cases g1;exact absurd rfl h2
 | .rd _ _ _, .rcp _ _,g,h=>by
   obtain⟨_,h1,h2,ps,v,e⟩:=h
   obtain⟨_,r,ps',v',y,e',g1,_⟩:=g
   rw[e] at e';rw[h1] at g1
   cases e';cases g1;exact absurd rfl h2
 | .alike, .rcp _ _,g,h=>by
   obtain⟨_,h1,h2,ps,v,e⟩:=h
   obtain⟨_,r,ps',v',e',g1,_⟩:=g
   rw[e] at e';rw[h1] at g1
   cases e';cases g1;exact absurd rfl h2
 | .rd k n m, .rd k' n' m',h,g=>by
   obtain⟨_,r,ps,v,y,e,_,h1,h2,h3,h4⟩:=h
   obtain⟨_,r',ps',v',y',e',_,g1,g2,g3,g4⟩:=g
   rw[e] at e';cases e'
   have hk:k=k':=by
    rcases Nat.lt_trichotomy k k' with z | z | z
    ·have:=g1 k _ z h2
     rw[h3] at this;exact absurd (Option.some.inj this) h4
    ·exact z
    ·have:=h1 k' _ z g2
     rw[g3] at this;exact absurd (Option.some.inj this) g4
   subst hk
   rw[h2] at g2;cases g2
   rw[h3] at g3;cases g3
   rfl
 | .rd k n m, .alike,h,g=>by
   obtain⟨_,r,ps,v,y,e,_,h1,h2,h3,h4⟩:=h
   obtain⟨_,r',ps',v',e',_,g1⟩:=g
   rw[e] at e';cases e'
   have:=g1 k _ h2
   rw[h3] at this;exact absurd (Option.some.inj this) h4
 | .alike, .rd k n m,g,h=>by
   obtain⟨_,r,ps,v,y,e,_,h1,h2,h3,h4⟩:=h
   obtain⟨_,r',ps',v',e',_,g1⟩:=g
   rw[e] at e';cases e'
   have:=g1 k _ h2
   rw[h3] at this;exact absurd (Option.some.inj this) h4
 | .alike, .alike,_,_=>rfl
def WY:Sp:=fun vs H Q _=>∃(h g c rcd wd:Addr) (n:Nat) (gv:Kn) (rc:Rn) (kr kw:List (Key×V)) (rm rmN:Rm) (kn:Kn) (x:Str),vs=[.ref h, .ref rcd, .ref wd, .str x]/\jW H h g c n gv rc/\n<=17/\H rcd=some (.dK kr)/\pF H kr n rm/\Rd H wd (.dK kw)/\(∀x,dH kw (.inr x)=(kn x).map V.int)/\yz n gv rc kn rmN/\kn x≠none/\
 ∀b p H',aM H H'->jQ H' b p->rK gv rc rm kn x p->Q (.ref b) H'
def Pap.dz:Pap->Th
 | .given=> .tup [.str "given"]
 | .new=> .tup [.str "new"]
 | .rcp r s=> .tup [.str "recipe",r.dz,s.dz]
 | .rd k n m=> .tup [.str "read", .int k, .int n, .int m]
 | .alike=> .tup [.str "alike"]
theorem jQ.JM {K:PySem.W.Frag}{H:Hp}{b:Addr}{p:Pap} (h:jQ H b p):nQ K H (.ref b) p.dz:=by
 cases h with
 | given e=>exact .tup e (.cons (.str _) .nil)
 | new e=>exact .tup e (.cons (.str _) .nil)
 | rcp e hp hq _ _ _ _=>exact .tup e (.cons (.str _) (.cons hp.JM (.cons hq.JM .nil)))
 | rd e=>exact .tup e (.cons (.str _) (.cons (.int _) (.cons (.int _) (.cons (.int _) .nil))))
 | alike e=>exact .tup e (.cons (.str _) .nil)
theorem DpT.mono:∀{d e:Nat}{t:Th},d<=e->DpT d t->DpT e t
 | 0,0,_,_,h=>h
 | 0,e+1,t,_,h=>by cases t<;>first | trivial | exact h.elim
 | d+1,0,_,hl,_=>absurd hl (by omega)
 | d+1,e+1,t,hl,h=>by
   cases t with
   | tup ts=>exact⟨h.1,fun t ht=>DpT.mono (by omega) (h.2 t ht)⟩
   | _=>trivial
theorem pG {d:Nat}{x:Str}:DpT d (.str x):=by cases d<;>trivial
theorem T9 {d:Nat}{i:Int}:DpT d (.int i):=by cases d<;>trivial
theorem R.dpT:∀(r:R),r.Ph->DpT (r.depth+1) r.dz
 | .num n,_=>⟨by simp,fun t ht=>by
   have:t= .str "number"\/t= .int n:=by simpa using ht
   rcases this with rfl | rfl<;>first | exact pG | exact T9⟩
 | .rd x,_=>⟨by simp,fun t ht=>by
   have:t= .str "read"\/t= .str x:=by simpa using ht
   rcases this with rfl | rfl<;>exact pG⟩
 | .bin op a b,h=>⟨by simp,fun t ht=>by
   have:t= .str op.word\/t=a.dz\/t=b.dz:=by simpa using ht
   have hd:(R.bin op a b).depth=max a.depth b.depth+1:=rfl
   rcases this with rfl | rfl | rfl
   ·exact pG
   ·exact(R.dpT a h.1).mono (by omega)
   ·exact(R.dpT b h.2).mono (by omega)⟩
 | .pick a b c,h=>⟨by simp,fun t ht=>by
   have:t= .str "pick"\/t=a.dz\/t=b.dz\/t=c.dz:=by simpa using ht
   have hd:(R.pick a b c).depth=max a.depth (max b.depth c.depth)+1:=rfl
   rcases this with rfl | rfl | rfl | rfl
   ·exact pG
   ·exact(R.dpT a h.1).mono (by omega)
   ·exact(R.dpT b h.2.1).mono (by omega)
   ·exact(R.dpT c h.2.2).mono (by omega)⟩
 | .cho a ns,h=>⟨by simp,fun t ht=>by
   have:t= .str "choose"\/t=a.dz\/t= .tup (ns.map Th.str):=by simpa using ht
   have hd:(R.cho a ns).depth=a.depth+1:=rfl
   rcases this with rfl | rfl | rfl
   ·exact pG
   ·exact(R.dpT a h.1).mono (by omega)
   ·refine⟨by have:=h.2;simp at *;omega,fun t ht=> ?_⟩
    obtain⟨x,_,rfl⟩:=List.mem_map.mp ht
    exact pG⟩
end RB
set_option maxRecDepth 100000
namespace RB
open PySem L2 PySem.Spec PyProof.Rows
mutual
theorem Px:∀{t u:Th},dN t u=true->t=u
 | .tup xs, .tup ys,h=>by rw[dN] at h;rw[Mz h]
 | .int i, .int j,h=>by rw[dN] at h;rw[of_decide_eq_true h]
 | .str x, .str y,h=>by rw[dN] at h;rw[of_decide_eq_true h]
 | .tup _, .non,h=>by simp[dN] at h
 | .tup _, .bl _,h=>by simp[dN] at h
 | .tup _, .int _,h=>by simp[dN] at h
 | .tup _, .str _,h=>by simp[dN] at h
 | .tup _, .oth _,h=>by simp[dN] at h
 | .int _, .non,h=>by simp[dN] at h
 | .int _, .bl _,h=>by simp[dN] at h
 | .int _, .tup _,h=>by simp[dN] at h
 | .int _, .str _,h=>by simp[dN] at h
 | .int _, .oth _,h=>by simp[dN] at h
 | .str _, .non,h=>by simp[dN] at h
 | .str _, .bl _,h=>by simp[dN] at h
 | .str _, .tup _,h=>by simp[dN] at h
 | .str _, .int _,h=>by simp[dN] at h
 | .str _, .oth _,h=>by simp[dN] at h
 | .non,u,h=>by simp[dN] at h
 | .bl _,u,h=>by simp[dN] at h
 | .oth _,u,h=>by simp[dN] at h
theorem Mz:∀{ts us:List Th},jK ts us=true->ts=us
 |[],[],_=>rfl
 | x::xs,y::ys,h=>by
   rw[jK,Bool.and_eq_true] at h
   rw[Px h.1,Mz h.2]
 |[],_::_,h=>by simp[jK] at h
 | _::_,[],h=>by simp[jK] at h
end
inductive PlT:Th->Prop where
 | int (i:Int):PlT (.int i)
 | str (x:Str):PlT (.str x)
 | tup {ts:List Th} (h:∀t∈ts,PlT t):PlT (.tup ts)
theorem HY:∀{ts:List Th},(∀t∈ts,dN t t=true)->jK ts ts=true
 |[],_=>by simp[jK]
 | x::xs,h=>by
   rw[jK,h x (by simp),HY fun t ht=>h t (by simp[ht])];rfl
theorem PlT.refl {t:Th} (h:PlT t):dN t t=true:=by
 induction h with
 | int i=>simp[dN]
 | str x=>simp[dN]
 | tup h ih=>rw[dN];exact HY ih
theorem R.plT:∀(r:R),PlT r.dz
 | .num n=> .tup fun t ht=>by
   have:t= .str "number"\/t= .int n:=by simpa using ht
   rcases this with rfl | rfl<;>constructor
 | .rd x=> .tup fun t ht=>by
   have:t= .str "read"\/t= .str x:=by simpa using ht
   rcases this with rfl | rfl<;>constructor
 | .bin op a b=> .tup fun t ht=>by
   have:t= .str op.word\/t=a.dz\/t=b.dz:=by simpa using ht
   rcases this with rfl | rfl | rfl
   ·constructor
   ·exact R.plT a
   ·exact R.plT b
 | .pick a b c=> .tup fun t ht=>by
   have:t= .str "pick"\/t=a.dz\/t=b.dz\/t=c.dz:=by simpa using ht
   rcases this with rfl | rfl | rfl | rfl
   ·constructor
   ·exact R.plT a
   ·exact R.plT b
   ·exact R.plT c
 | .cho a ns=> .tup fun t ht=>by
   have:t= .str "choose"\/t=a.dz\/t= .tup (ns.map Th.str):=by simpa using ht
   rcases this with rfl | rfl | rfl
   ·constructor
   ·exact R.plT a
   ·refine .tup fun t ht=> ?_
    obtain⟨x,_,rfl⟩:=List.mem_map.mp ht
    constructor
theorem RQ:∀{o o':Op},o.word=o'.word->o=o':=by
 intro o o' h;cases o<;>cases o'<;>first | rfl | exact absurd h (by decide)
theorem MF (o:Op):o.word≠"choose":=by cases o<;>decide
theorem R.Ck:∀{r s:R},r.dz=s.dz->r=s
 | .num n, .num m,h=>by simp[R.dz] at h;rw[h]
 | .rd x, .rd y,h=>by simp[R.dz] at h;rw[h]
 | .bin o a b, .bin o' a' b',h=>by
   simp only[R.dz,Th.tup.injEq,List.cons.injEq,Th.str.injEq,and_true] at h
   rw[RQ h.1,R.Ck h.2.1,R.Ck h.2.2]
 | .pick a b c, .pick a' b' c',h=>by
   simp only[R.dz,Th.tup.injEq,List.cons.injEq,and_true,true_and] at h
   rw[R.Ck h.1,R.Ck h.2.1,R.Ck h.2.2]
 | .cho a ns, .cho a' ms,h=>by
   simp only[R.dz,Th.tup.injEq,List.cons.injEq,and_true,true_and] at h
   rw[R.Ck h.1,(List.map_inj_right (fun x y e=>by cases e;rfl)).mp h.2]
 | .num n, .rd y,h=>by simp[R.dz] at h
 | .num n, .bin _ _ _,h=>by simp[R.dz] at h
 | .num n, .pick _ _ _,h=>by simp[R.dz] at h
 | .num n, .cho _ _,h=>by simp[R.dz] at h
 | .rd n, .num y,h=>by simp[R.dz] at h
 | .rd n, .bin _ _ _,h=>by simp[R.dz] at h
 | .rd n, .pick _ _ _,h=>by simp[R.dz] at h
 | .rd n, .cho _ _,h=>by simp[R.dz] at h
 | .bin _ _ _, .num y,h=>by simp[R.dz] at h
 | .bin _ _ _, .rd y,h=>by simp[R.dz] at h
 | .bin _ _ _, .pick _ _ _,h=>by simp[R.dz] at h
 | .bin o _ _, .cho _ _,h=>by
   simp only[R.dz,Th.tup.injEq,List.cons.injEq,Th.str.injEq,and_true] at h
   exact absurd h.1 (MF o)
 | .pick _ _ _, .num y,h=>by simp[R.dz] at h
 | .pick _ _ _, .rd y,h=>by simp[R.dz] at h
 | .pick _ _ _, .bin _ _ _,h=>by simp[R.dz] at h
 | .pick _ _ _, .cho _ _,h=>by simp[R.dz] at h
 | .cho _ _, .num y,h=>by simp[R.dz] at h
 | .cho _ _, .rd y,h=>by simp[R.dz] at h
 | .cho _ _, .bin o _ _,h=>by
   simp only[R.dz,Th.tup.injEq,List.cons.injEq,Th.str.injEq,and_true] at h
   exact absurd h.1.symm (MF o)
 | .cho _ _, .pick _ _ _,h=>by simp[R.dz] at h
theorem Ua {r s:R} (e:r=s):dN r.dz s.dz=true:=by rw[e];exact s.plT.refl
theorem Ub {r s:R} (e:r≠s):dN r.dz s.dz=false:=by
 cases h:dN r.dz s.dz with
 | false=>rfl
 | true=>exact absurd (R.Ck (Px h)) e
end RB
set_option maxRecDepth 100000
namespace L2
open PySem PySem.Spec PyProof.Rows
def Ite (K:PySem.W.Frag) (l:Addr):It:=
 ⟨fun i H=>∃xs x,SqL K H l xs/\xs[i]? =some x,
  fun i H v H'=>∃T x,v= .ref T/\H T=none/\H'=upd H T (.tup [.int (i:Int),x])/\∀xs,SqL K H l xs->xs[i]? =some x,
  fun i H=>∃xs,SqL K H l xs/\xs.length=i⟩
theorem Vc {P:Program}{w:World}{K:PySem.W.Frag}{elts:List Expr}{k:Nat}{pos:Pos} (e it l:Addr) (n1:e≠it) (n2:l≠e) (n3:l≠it):
 Turn P w K (.Tuple elts k pos) (Ite K l) [e,it] e (fun i h=>(∃old,IsEnum h e it i old)/\h.IsListIter it l i) where
 mem:=by simp
 obj:=fun i h st b hb=>by
  obtain⟨⟨old,h1⟩,⟨o4,e4,_,d4⟩⟩:=st
  have hb':b=e\/b=it:=by simpa using hb
  rcases hb' with rfl | rfl
  ·exact⟨_,h1,fun v e=>by cases e⟩
  ·exact⟨o4,e4,fun v e=>by rw[d4] at e;cases e⟩
 keep:=fun i h h' st kp=>by
  obtain⟨⟨old,h1⟩,h4⟩:=st
  exact⟨⟨old,kp e (by simp) _ h1⟩,h4.at fun o z=>kp it (by simp) o z⟩
 item:=by
  intro X hP hw hK hc i pins s σ H E I hf st hg
  subst hP hw hK
  obtain⟨xs,x,hq,hx⟩:=hg
  obtain⟨its,rv,p1,hz1⟩:=I.list hq
  obtain⟨u,hu,ru⟩:=rv.get hx
  obtain⟨⟨old,s1⟩,s4⟩:=st
  have W:=WalksT.enumerate (prog:=X.prog) (w:=X.w) (A:=X.A) (I.ok.hd hc) e it l n1 n2 n3 its.toArray
  have b1:i<its.length:=(List.getElem?_eq_some_iff.mp hu).1
  refine W.item i s _ _ (by simpa using b1) ⟨⟨old,s1⟩,s4,p1.isList⟩ fun T vals h2 tk pv hT isT mid kp=> ?_
  obtain⟨tt,a,ha,rfl⟩:=pv
  have ea:a=u:=by have:its[i]? =some a:=by simpa using ha
                  rw[hu] at this;exact(Option.some.inj this).symm
  subst ea
  refine⟨.ref T,rfl,W.go elts k pos i T _ _ _ mid fun h3 st3 kp3=> ?_⟩
  obtain⟨t1,t4,_⟩:=st3
  have J:Inv X pins σ H {s with heap:=h3,toks:=tk}:=I.Jl (ch:=[e,it]) (fun b hb=>hf b hb) fun b o hb z=>kp3 b o hb (kp b o hb z)
  have hT0:H T=none:=I.hok.fresh hT
  have nT:T∉[e,it]:=fun hm=>by
   obtain⟨o,z⟩:∃o,s.heap.get? T=some o:=by
    have:T=e\/T=it:=by simpa using hm
    obtain⟨o4,e4,_⟩:=s4
    rcases this with rfl | rfl
    ·exact⟨_,s1⟩
    ·exact⟨_,e4⟩
   exact absurd (Heap.lt_size z) (Nat.not_lt.mpr hT)
  have ac5:IsTup h3 T #[.int i tt,a]:=by
   obtain⟨o,z,r⟩:=isT
   exact⟨o,kp3 T o nT z,r⟩
  have fp:=I.M5 (H':=H) hT hT0
  refine⟨.ref T,upd H T (.tup [.int (i:Int),x]),J.track hT0 ?_ fp.2.1 fp.2.2.2.2.1 fp.2.2.2.2.2 ?_,rfl,⟨T,x,rfl,hT0,rfl,fun zs hs=>by rw[I.Ov hs hq];exact hx⟩,⟨t1,t4⟩,fun b hb=> ?_⟩
  ·cases z:X.s₀.heap.get? T with
   | none=>rfl
   | some o=>exact absurd (Heap.lt_size z) (Nat.not_lt.mpr (Nat.le_trans I.sz hT))
  ·exact⟨by show 2<=sizeLine;rw[sizeLine_eq];decide,[.int i tt,a], .cons ⟨tt,rfl⟩ (.cons ru .nil),ac5⟩
  ·have nb:b≠T:=fun z=>nT (by rw[<-z];exact hb)
   rw[au nb];exact(hf b hb).1
 done:=by
  intro X hP hw hK hc i pins s σ H E I hf st hg
  subst hP hw hK
  obtain⟨xs,hq,hi⟩:=hg
  obtain⟨its,rv,p1,hz1⟩:=I.list hq
  obtain⟨s1,s4⟩:=st
  have W:=WalksT.enumerate (prog:=X.prog) (w:=X.w) (A:=X.A) (I.ok.hd hc) e it l n1 n2 n3 its.toArray
  have en:its.toArray.size=i:=by rw[List.size_toArray,<-rv.length];exact hi
  subst en
  exact W.done s _ _ ⟨s1,s4,p1.isList⟩ fun h2 tk kp=>⟨rfl,I.Jl (ch:=[e,it]) (fun b hb=>hf b hb) kp⟩
 self:=fun A i s Q E st h=>by
  obtain⟨⟨old,h1⟩,h4⟩:=st
  exact wpAny_pyIter_enum h1 h
def aa6 (K:PySem.W.Frag) (ta:TA):TI:=fun σ H R=>ta σ H fun vs H1=>∃l,vs=[.ref l]/\(∃xs,SqL K H1 l xs)/\R (Ite K l) H1
theorem Zu {X:Cx}{elts:List Expr}{k:Nat}{tp:Pos}{a:Expr}{ta:TA}{p pos:Pos} (hg:Gl X "enumerate") (hm:X.mg "enumerate"=none) (ha:PA X [a] ta) (hs:starEach [a] X.env=[(false,eval a X.env)]:=by rfl):
 PI X (.Tuple elts k tp) (.Call (.Name "enumerate" p) [a] [] pos) (aa6 X.K ta):=by
 intro pins s σ H R I h
 refine Call_ (Ca I hg hm Ng (PyProof.Rows.callWith_type1 (thn (ha pos pins s σ H _ I h) fun us s1 ⟨vs,H1,I1,r1,q1⟩=> ?_) (by rw[hs];rfl) (by rfl)))
 obtain⟨l,rfl,⟨xs,hq⟩,q⟩:=q1
 obtain⟨u,rfl,ru⟩:=vals1 r1
 cases ru
 obtain⟨its,_,p1,_⟩:=I1.list hq
 have lt1:l<s1.heap.objs.size:=by obtain⟨o,e,_⟩:=p1.isList;exact Heap.lt_size e
 refine call_enumerate_list p1.isList fun h5 he hi _ kp=> ?_
 refine wpAny_pyIter_enum he ?_
 have I2:Inv X pins σ H1 {s1 with heap:=h5}:=I1.kept (t':=s1.toks) kp
 refine⟨s1.heap.objs.size+1,[s1.heap.objs.size+1,s1.heap.objs.size],_,_,H1,rfl,I2,Vc _ _ l (Nat.succ_ne_self _) (Nat.ne_of_lt (Nat.lt_succ_of_lt lt1)) (Nat.ne_of_lt lt1),⟨⟨_,he⟩,hi⟩,fun b hb=> ?_,q⟩
 have hle:s1.heap.objs.size<=b:=by
  have:b=s1.heap.objs.size+1\/b=s1.heap.objs.size:=by simpa using hb
  rcases this with rfl | rfl<;>first | exact Nat.le_refl _ | exact Nat.le_add_right _ _
 exact I1.M5 hle (I1.hok.fresh hle)
theorem Zv {X:Cx}{elts:List Expr}{k:Nat}{tp:Pos}{a:Expr}{ta:TA}{p pos:Pos} (hg:Gl X "enumerate") (hm:X.mg "enumerate"=none) (ha:QA X [a] ta) (hs:starEach [a] X.env=[(false,eval a X.env)]:=by rfl):
 QI X (.Tuple elts k tp) (.Call (.Name "enumerate" p) [a] [] pos) (aa6 X.K ta):=⟨Zu hg hm ha.h hs⟩
theorem W0 {K:PySem.W.Frag}{a:Addr}{xs:List V}{g:TG}{tb:TS}{D:Ends}{σ:St}{H:Hp} (Pv:Nat->St->Hp->Prop) (h0:Pv 0 σ H) (hl:∀i σ H,i<=xs.length->Pv i σ H->SqL K H a xs)
 (hs:∀i x T σ H,xs[i]? =some x->H T=none->Pv i σ H->g (.ref T) σ (upd H T (.tup [.int (i:Int),x])) fun σ2 H2=>tb {D with nx:=Pv (i+1),ct:=Pv (i+1),bk:=D.nx} σ2 H2) (hd:∀σ H,Pv xs.length σ H->D.nx σ H):
 ∃W:Nat->Nat->St->Hp->Prop,(∃m,W 0 m σ H)/\∀i m σ H,W i m σ H->
  ((Ite K a).stop i H/\D.nx σ H)\/((Ite K a).go i H/\∃N:St->Hp->Prop,(∀σ' H',N σ' H'->∃m',m'<m/\W (i+1) m' σ' H')/\∀x H',(Ite K a).yld i H x H'->g x σ H' fun σ2 H2=>tb {D with nx:=N,ct:=N,bk:=D.nx} σ2 H2):=by
 refine⟨fun i m σ H=>m=xs.length - i/\i<=xs.length/\Pv i σ H,⟨xs.length,by simp,Nat.zero_le _,h0⟩, ?_⟩
 rintro i m σ H ⟨rfl,hi,p⟩
 have q1:=hl i σ H hi p
 by_cases hlt:i<xs.length
 ·refine .inr ⟨⟨xs,xs[i],q1,List.getElem?_eq_getElem hlt⟩,Pv (i+1),fun σ' H' z=>⟨_,by omega,rfl,hlt,z⟩, ?_⟩
  rintro x H' ⟨T,u,rfl,hT,rfl,e1⟩
  exact hs i u T σ H (e1 xs q1) hT p
 ·have e:i=xs.length:=by omega
  subst e
  exact .inl ⟨⟨xs,q1,rfl⟩,hd σ H p⟩
theorem Py {X:Cx}{o e:Expr}{apos cpos:Pos}{td ty:TE} (hu:X.A.units+1<cLine) (ho:QE X o td) (he:QE X e ty) (m:M1 X o "get" apos e cpos):QE X (.Call (.Attribute o "get" apos) [e] [] cpos) (V6 td ty):=⟨V8 hu ho.h he.h m⟩
end L2
set_option maxRecDepth 100000
namespace RB
open PySem L2 PySem.Spec PyProof.Rows
theorem jL:∀{r:R},r.Good->r.Ph
 | .num _,_=>trivial
 | .rd x,h=>⟨h.2.1,fun c hc=>by have:=h.2.2 c hc;unfold Tr at this;omega⟩
 | .bin _ a b,h=>⟨jL h.1,jL h.2⟩
 | .pick a b c,h=>⟨jL h.1,jL h.2.1,jL h.2.2⟩
 | .cho a ns,h=>⟨jL h.1,h.2⟩
theorem jQ.dpT {H:Hp}{b:Addr}{p:Pap} (h:jQ H b p):DpT 10 p.dz:=by
 cases h with
 | given e=>exact⟨by simp,fun t ht=>by have:t= .str "given":=by simpa using ht
                                       rw[this];exact pG⟩
 | new e=>exact⟨by simp,fun t ht=>by have:t= .str "new":=by simpa using ht
                                     rw[this];exact pG⟩
 | alike e=>exact⟨by simp,fun t ht=>by have:t= .str "alike":=by simpa using ht
                                       rw[this];exact pG⟩
 | @rd k n m e=>exact⟨by simp,fun t ht=>by
     have:t= .str "read"\/t= .int k\/t= .int n\/t= .int m:=by simpa using ht
     rcases this with rfl | rfl | rfl | rfl<;>first | exact pG | exact T9⟩
 | @rcp r s a b e _ _ gr gs dr ds=>exact⟨by simp,fun t ht=>by
     have:t= .str "recipe"\/t=r.dz\/t=s.dz:=by simpa using ht
     rcases this with rfl | rfl | rfl
     ·exact pG
     ·exact(r.dpT (jL gr)).mono (show r.depth+1<=9 by omega)
     ·exact(s.dpT (jL gs)).mono (show s.depth+1<=9 by omega)⟩
def aa7 (K:PySem.W.Frag):Sp:=fun vs H Q _=>∃(h g c rcd wd:Addr) (n:Nat) (gv:Kn) (rc:Rn) (kr kw:List (Key×V)) (rm rmN:Rm) (kn:Kn) (x:Str) (v:V) (t:Th),vs=[.ref h, .ref rcd, .ref wd, .str x,v]/\jW H h g c n gv rc/\n<=17/\H rcd=some (.dK kr)/\pF H kr n rm/\H wd=some (.dK kw)/\(∀x,dH kw (.inr x)=(kn x).map V.int)/\yz n gv rc kn rmN/\nQ K H v t/\
 (kn x=none->∀H',aM H H'->Q (.bl false) H')/\∀p H',kn x≠none->rK gv rc rm kn x p->aM H H'->Q (.bl (dN p.dz t)) H'
end RB
set_option maxRecDepth 100000
namespace RB
open PySem L2 PySem.Spec PyProof.Rows
end RB
set_option maxRecDepth 100000
namespace RB
open PySem L2 PySem.Spec PyProof.Rows
end RB
set_option maxRecDepth 100000
namespace RB
open PySem L2 PySem.Spec PyProof.Rows
theorem Pap.plT:∀(p:Pap),PlT p.dz
 | .given=> .tup fun t ht=>by have:t= .str "given":=by simpa using ht
                              rw[this];constructor
 | .new=> .tup fun t ht=>by have:t= .str "new":=by simpa using ht
                            rw[this];constructor
 | .alike=> .tup fun t ht=>by have:t= .str "alike":=by simpa using ht
                              rw[this];constructor
 | .rd k n m=> .tup fun t ht=>by
     have:t= .str "read"\/t= .int k\/t= .int n\/t= .int m:=by simpa using ht
     rcases this with rfl | rfl | rfl | rfl<;>constructor
 | .rcp r s=> .tup fun t ht=>by
     have:t= .str "recipe"\/t=r.dz\/t=s.dz:=by simpa using ht
     rcases this with rfl | rfl | rfl
     ·constructor
     ·exact r.plT
     ·exact s.plT
end RB
set_option maxRecDepth 100000
namespace L2
open PySem PySem.Spec PyProof.Rows RB
section
variable {prog:Program}{w:World}{A:Around}{E:Value->Shared->Prop}{s:Shared}
end
end L2
namespace RB
open PySem L2 PySem.Spec PyProof.Rows
end RB
set_option maxRecDepth 100000
namespace L2
open PySem PySem.Spec PyProof.Rows RB
end L2
set_option maxRecDepth 100000
namespace RB
open PySem L2 PySem.Spec PyProof.Rows
section
variable {p h hg hc h2 g2 c2 rcd r2 wd w2 hd:Addr}{o:Obj}{n:Nat}{gv:Kn}{rc:Rn}{kg kc kr kw:List (Key×V)}{rm:Rm}{H H':Hp}
end
end RB
set_option maxRecDepth 100000
namespace RB
open PySem L2 PySem.Spec PyProof.Rows
theorem W2 {kn:Kn}{d:List Rdp} (h:Rows kn d) {x:Str}{v:Int} (hx:kn x=some v) (m:(x,v)∈d):uT d x v=d:=by
 unfold uT
 rw[if_pos (List.any_eq_true.mpr ⟨(x,v),m,by simp⟩)]
 have:∀p∈d,(if p.1=x then(p.1,v) else p)=p:=fun p hp=>by
  by_cases z:p.1=x
  ·rw[if_pos z]
   have:=h.s p hp
   rw[z,hx] at this
   rw[Option.some.inj this]
  ·rw[if_neg z]
 rw[List.map_congr_left this]
 exact List.map_id _
theorem W3 {kn:Kn}{d:List Rdp} (h:Rows kn d) {x:Str}{v:Int} (hx:kn x=some v) (m:(x,v)∉d):uT d x v=d++[(x,v)]:=by
 unfold uT
 rw[if_neg]
 intro z
 obtain⟨p,hp,e⟩:=List.any_eq_true.mp z
 have e:=of_decide_eq_true e
 have:=h.s p hp
 rw[e,hx] at this
 exact m (by rw[<-e,Option.some.inj this];exact hp)
def zb (kn:Kn) (r:R) (t:List Stp) (f:List Int) (d:List Rdp):Prop:=match ev kn r with
 | .inr v=>∃n us,StN kn n ⟨t++[.r r],f,d⟩ ⟨t,f++[v],d++us⟩/\rC r (kn0.puts d) us v/\Rows kn (d++us)
 | .inl x=>∃n t' f' us,StN kn n ⟨t++[.r r],f,d⟩ ⟨t'++[.r (.rd x)],f',d++us⟩/\kn x=none/\Chn r (kn0.puts d) us/\ev (kn0.puts (d++us)) r= .inl x/\Rows kn (d++us)
theorem Vd {kn:Kn}{d:List Rdp} (h:Rows kn d) {x:Str} (hx:kn x=none):kn0.puts d x=none:=by
 cases e:kn0.puts d x with
 | none=>rfl
 | some u=>
   rcases En e with z | z
   ·have:=h.s _ z
    rw[hx] at this;cases this
   ·cases z
theorem Pz {kn:Kn}{x:Str}{t:List Stp}{f:List Int}{d:List Rdp} (hd:Rows kn d):zb kn (.rd x) t f d:=by
 unfold zb
 show match look kn x with
  | .inr v=>_
  | .inl y=>_
 unfold look
 cases e:kn x with
 | none=>
   refine⟨0,t,f,[], ?_,e,trivial, ?_,by rw[List.append_nil];exact hd⟩
   ·rw[List.append_nil];exact .zero
   ·rw[List.append_nil]
    show look _ x=_
    unfold look
    rw[Vd hd e]
 | some v=>
   have hl:=hd.look e
   by_cases m:(x,v)∈d
   ·rw[if_pos m] at hl
    refine⟨1,[], .succ (.rd e) ?_,hl,by rw[List.append_nil];exact hd⟩
    rw[W2 hd e m,List.append_nil];exact .zero
   ·rw[if_neg m] at hl
    refine⟨1,[(x,v)], .succ (.rd e) ?_,hl.1,hl.2⟩
    rw[W3 hd e m];exact .zero
theorem J8 {kn:Kn}:∀(r:R),r.T3->∀t f d,Rows kn d->zb kn r t f d
 | .num n,_,t,f,d,hd=>⟨1,[], .succ .num (by rw[List.append_nil];exact .zero),T4,by rw[List.append_nil];exact hd⟩
 | .rd x,_,t,f,d,hd=>Pz hd
 | .bin op a b,h,t,f,d,hd=>by
   have ua:∀kn' x,ev kn' a= .inl x->ev kn' (.bin op a b)= .inl x:=fun kn' x e=>by simp only[ev];rw[e]
   have ha:=J8 (kn:=kn) a h.1 (t++[.join op, .r b]) f d hd
   unfold zb at ha ⊢
   rw[List.append_assoc] at ha
   simp only[ev]
   cases ea:ev kn a with
   | inl x=>
     rw[ea] at ha
     obtain⟨n,t',f',us,s,hx,c,e,hr⟩:=ha
     exact⟨n+1,t',f',us, .succ .bin s,hx,c.up fun kn' x _ e=>ua kn' x e,ua _ _ e,hr⟩
   | inr u=>
     rw[ea] at ha
     obtain⟨n,us,s,g,hr⟩:=ha
     have hb:=J8 (kn:=kn) b h.2.1 (t++[.join op]) (f++[u]) (d++us) hr
     unfold zb at hb
     rw[List.append_assoc] at hb
     have ub:∀kn' x,Kn.Le ((kn0.puts d).puts us) kn'->ev kn' b= .inl x->ev kn' (.bin op a b)= .inl x:=fun kn' x l e=>by simp only[ev];rw[vL l g.e];simp only;rw[e]
     cases eb:ev kn b with
     | inl x=>
       rw[eb] at hb
       obtain⟨m,t',f',vs,s2,hx,c,e,hr2⟩:=hb
       rw[Kn.fZ] at c
       rw[List.append_assoc] at s2 e hr2
       refine⟨n+m+1,t',f',us++vs, .succ .bin (s.add s2),hx,(g.c.up fun kn' x _ e=>ua kn' x e).app (c.up ub), ?_,hr2⟩
       refine ub _ _ ?_ e
       rw[Kn.fZ,Kn.fZ]
       exact c.le
     | inr v=>
       rw[eb] at hb
       obtain⟨m,vs,s2,g2,hr2⟩:=hb
       rw[Kn.fZ] at g2
       rw[List.append_assoc] at s2 hr2
       refine⟨n+(m+1)+1,us++vs, .succ .bin (s.add (s2.add (.succ ?_ .zero))),Em g g2,hr2⟩
       rw[List.append_assoc]
       exact .join fun z=> .inr (by
        obtain⟨k,rfl,h1,h2⟩:=h.2.2 z
        cases eb
        omega)
 | .pick a b c,h,t,f,d,hd=>by
   have ua:∀kn' x,ev kn' a= .inl x->ev kn' (.pick a b c)= .inl x:=fun kn' x e=>by simp only[ev];rw[e]
   have ha:=J8 (kn:=kn) a h.1 (t++[.branch b c]) f d hd
   unfold zb at ha ⊢
   rw[List.append_assoc] at ha
   simp only[ev]
   cases ea:ev kn a with
   | inl x=>
     rw[ea] at ha
     obtain⟨n,t',f',us,s,hx,c,e,hr⟩:=ha
     exact⟨n+1,t',f',us, .succ .pick s,hx,c.up fun kn' x _ e=>ua kn' x e,ua _ _ e,hr⟩
   | inr u=>
     rw[ea] at ha
     obtain⟨n,us,s,g,hr⟩:=ha
     have hb:zb kn (if u>0 then b else c) t f (d++us):=by
      split
      ·exact J8 b h.2.1 t f _ hr
      ·exact J8 c h.2.2 t f _ hr
     unfold zb at hb
     simp only
     have e:(if u>0 then ev kn b else ev kn c)=ev kn (if u>0 then b else c):=by split<;>rfl
     rw[e]
     have up:∀kn':Kn,Kn.Le ((kn0.puts d).puts us) kn'->ev kn' (.pick a b c)=ev kn' (if u>0 then b else c):=fun kn' l=>by
      simp only[ev];rw[vL l g.e];simp only;split<;>rfl
     cases eb:ev kn (if u>0 then b else c) with
     | inl x=>
       rw[eb] at hb
       obtain⟨m,t',f',vs,s2,hx,c2,e2,hr2⟩:=hb
       rw[Kn.fZ] at c2
       rw[List.append_assoc] at s2 e2 hr2
       refine⟨n+(m+1)+1,t',f',us++vs, .succ .pick (s.add (.succ .branch s2)),hx,(g.c.up fun kn' x _ e=>ua kn' x e).app (c2.up fun kn' x l z=>by rw[up kn' l];exact z), ?_,hr2⟩
       rw[<-e2]
       have hl:=c2.le
       have:=up (kn0.puts (d++(us++vs))) (by rw[Kn.fZ,Kn.fZ];exact hl)
       simp only[ev] at this
       exact this
     | inr v=>
       rw[eb] at hb
       obtain⟨m,vs,s2,g2,hr2⟩:=hb
       rw[Kn.fZ] at g2
       rw[List.append_assoc] at s2 hr2
       exact⟨n+(m+1)+1,us++vs, .succ .pick (s.add (.succ .branch s2)),J3 g g2,hr2⟩
 | .cho a ns,h,t,f,d,hd=>by
   have ua:∀kn' x,ev kn' a= .inl x->ev kn' (.cho a ns)= .inl x:=fun kn' x e=>by simp only[ev];rw[e]
   have ha:=J8 (kn:=kn) a h.1 (t++[.among ns]) f d hd
   unfold zb at ha ⊢
   rw[List.append_assoc] at ha
   simp only[ev]
   cases ea:ev kn a with
   | inl x=>
     rw[ea] at ha
     obtain⟨n,t',f',us,s,hx,c,e,hr⟩:=ha
     exact⟨n+1,t',f',us, .succ .cho s,hx,c.up fun kn' x _ e=>ua kn' x e,ua _ _ e,hr⟩
   | inr u=>
     rw[ea] at ha
     obtain⟨n,us,s,g,hr⟩:=ha
     obtain⟨y,ey⟩:=Mt h.2 u
     simp only
     rw[ey]
     have hb:=Pz (kn:=kn) (x:=y) (t:=t) (f:=f) hr
     unfold zb at hb
     simp only[ev] at hb
     simp only
     have up:∀kn':Kn,Kn.Le ((kn0.puts d).puts us) kn'->ev kn' (.cho a ns)=ev kn' (.rd y):=fun kn' l=>by
      simp only[ev];rw[vL l g.e];simp only;rw[ey]
     cases eb:look kn y with
     | inl x=>
       rw[eb] at hb
       obtain⟨m,t',f',vs,s2,hx,c2,e2,hr2⟩:=hb
       rw[Kn.fZ] at c2
       rw[List.append_assoc] at s2 e2 hr2
       refine⟨n+(m+1)+1,t',f',us++vs, .succ .cho (s.add (.succ (.among ey) s2)),hx,(g.c.up fun kn' x _ e=>ua kn' x e).app (c2.up fun kn' x l z=>by rw[up kn' l];exact z), ?_,hr2⟩
       have hl:=c2.le
       have:=up (kn0.puts (d++(us++vs))) (by rw[Kn.fZ,Kn.fZ];exact hl)
       exact this.trans e2
     | inr v=>
       rw[eb] at hb
       obtain⟨m,vs,s2,g2,hr2⟩:=hb
       rw[Kn.fZ] at g2
       rw[List.append_assoc] at s2 hr2
       exact⟨n+(m+1)+1,us++vs, .succ .cho (s.add (.succ (.among ey) s2)),T5 g ey g2,hr2⟩
def BL (kn:Kn) (r:R) (x:Str):Prop:=∃ps,Chn r kn0 ps/\ev (kn0.puts ps) r= .inl x/\Rows kn ps
def Goes (kn:Kn) (r:R) (c:Cf):Prop:=match ev kn r with
 | .inr v=>c.todo=[]/\c.found=[v]/\rC r kn0 c.rds v/\Rows kn c.rds
 | .inl x=>(∃t,c.todo=t++[.r (.rd x)])/\kn x=none/\BL kn r x
theorem W4 {kn:Kn}:Rows kn []:=⟨by simp,by simp⟩
theorem Reach.afV {kn:Kn}{r:R} (hr:r.T3) {c:Cf} (g:Reach kn r c):∃n c',StN kn n c c'/\Halt kn c'/\Reach kn r c'/\Goes kn r c':=by
 have h:=J8 (kn:=kn) r hr [] [] [] W4
 unfold zb at h
 unfold Goes
 obtain⟨m,g⟩:=g
 cases e:ev kn r with
 | inr v=>
   rw[e] at h
   obtain⟨n,us,s,gg,hr⟩:=h
   obtain⟨k,t⟩:=g.rest s (.inl rfl)
   exact⟨k,_,t, .inl rfl,⟨n,s⟩,rfl,rfl,gg,hr⟩
 | inl x=>
   rw[e] at h
   obtain⟨n,t',f',us,s,hx,c1,e1,hr⟩:=h
   have hh:Halt kn ⟨t'++[.r (.rd x)],f',[]++us⟩:= .inr ⟨t',x,rfl,hx⟩
   obtain⟨k,t⟩:=g.rest s hh
   exact⟨k,_,t,hh,⟨n,s⟩,⟨t',rfl⟩,hx,us,c1,e1,hr⟩
theorem An:∀r:R,1<=r.depth
 | .num _=>Nat.le_refl _
 | .rd _=>Nat.le_refl _
 | .bin _ a b=>by show 1<=max a.depth b.depth+1;omega
 | .pick a b c=>by show 1<=max a.depth (max b.depth c.depth)+1;omega
 | .cho a _=>by show 1<=a.depth+1;omega
theorem J9:∀(r:R) (d:Nat),r.depth<=d->wR r+2<=3 ^ d
 | r,0,h=>absurd (An r) (by omega)
 | .num _,d+1,_=>by
   have:1<=3 ^ d:=Nat.one_le_pow _ _ (by decide)
   show 1+2<=3 ^(d+1)
   rw[Nat.pow_succ];omega
 | .rd _,d+1,_=>by
   have:1<=3 ^ d:=Nat.one_le_pow _ _ (by decide)
   show 1+2<=3 ^(d+1)
   rw[Nat.pow_succ];omega
 | .bin _ a b,d+1,h=>by
   have h:max a.depth b.depth+1<=d+1:=h
   have h1:=J9 a d (by omega)
   have h2:=J9 b d (by omega)
   show wR a+wR b+2+2<=3 ^(d+1)
   rw[Nat.pow_succ];omega
 | .pick a b c,d+1,h=>by
   have h:max a.depth (max b.depth c.depth)+1<=d+1:=h
   have h1:=J9 a d (by omega)
   have h2:=J9 b d (by omega)
   have h3:=J9 c d (by omega)
   show wR a+wR b+wR c+2+2<=3 ^(d+1)
   rw[Nat.pow_succ];omega
 | .cho a _,d+1,h=>by
   have h:a.depth+1<=d+1:=h
   have h1:=J9 a d (by omega)
   show wR a+3+2<=3 ^(d+1)
   rw[Nat.pow_succ];omega
end RB
set_option maxRecDepth 100000
namespace L2
open PySem PySem.Spec PyProof.Rows
theorem NB {X:Cx}{e:Expr}{f:Str}{pos:Pos}{ta:TE}{K:PySem.W.Frag} (eK:X.K=K) (he:QE X e ta) (hb:attributeBase e f X.env (eval e X.env)=eval e X.env:=by rfl):QE X (.Attribute e f pos) (ab7 K ta f):=eK▸bW he hb
end L2
namespace RB
open PySem L2 PySem.Spec PyProof.Rows
structure NrC (K:PySem.W.Frag) (C:Addr):Prop where
 cl:Cls K C
 nB:jU K C "by_name"
def nrF (rcd:Addr):List (Str×V):=[("by_name", .ref rcd)]
def PB (C:Addr):Sp:=fun vs H Q _=>∃(a dx rcd:Addr),vs=[.ref a, .ref rcd]/\H a=some (.ins C dx [])/\∀H',But [a] H H'->H' a=some (.ins C dx (nrF rcd))->Q .non H'
def MJ (rm:Rm) (y:Str) (r:R) (kn:Kn):Prop:=∀r' ps v,rm y=some (r',ps,v)->r'≠r\/∃p∈ps,∃u,kn p.1=some u/\u≠p.2
theorem MJ.le {rm:Rm}{y:Str}{r:R}{kn kn':Kn} (h:MJ rm y r kn) (l:Kn.Le kn kn'):MJ rm y r kn':=fun r' ps v e=>(h r' ps v e).imp id fun⟨p,hp,u,hu,hn⟩=>⟨p,hp,u,l _ _ hu,hn⟩
def PJ (H:Hp) (fl:Addr) (kr:List (Key×V)) (rm:Rm) (y:Str) (r:R) (kn:Kn) (k:Nat):Prop:=
 (∃rb ps v,H fl=some (.lst [.ref rb])/\dH kr (.inr y)=some (.ref rb)/\rm y=some (r,ps,v)/\k<=ps.length/\∀(j:Nat) p,j<k->ps[j]? =some p->kn p.1=some p.2)\/(H fl=some (.lst [])/\MJ rm y r kn)
theorem PJ.le {H:Hp}{fl:Addr}{kr:List (Key×V)}{rm:Rm}{y:Str}{r:R}{kn kn':Kn}{k:Nat} (h:PJ H fl kr rm y r kn k) (l:Kn.Le kn kn'):PJ H fl kr rm y r kn' k:=
 h.imp (fun⟨rb,ps,v,a,b,c,d,e⟩=>⟨rb,ps,v,a,b,c,d,fun j p hj hp=>l _ _ (e j p hj hp)⟩) fun⟨a,b⟩=>⟨a,b.le l⟩
theorem PJ.at {H H':Hp}{fl:Addr}{kr:List (Key×V)}{rm:Rm}{y:Str}{r:R}{kn:Kn}{k:Nat} (h:PJ H fl kr rm y r kn k) (f:∀o,H fl=some o->H' fl=some o):PJ H' fl kr rm y r kn k:=
 h.imp (fun⟨rb,ps,v,a,b⟩=>⟨rb,ps,v,f _ a,b⟩) fun⟨a,b⟩=>⟨f _ a,b⟩
def W5 (C:Addr):Sp:=fun vs H Q _=>∃(o dx rcd b:Addr) (kr:List (Key×V)) (n:Nat) (rm:Rm) (y:Str) (r:R),vs=[.ref o, .str y, .ref b]/\H o=some (.ins C dx (nrF rcd))/\H rcd=some (.dK kr)/\pF H kr n rm/\IsR H b r/\r.Good/\r.depth<=8/\
 ∀fl H',aM H H'->H fl=none->(∀kn,PJ H' fl kr rm y r kn 0)->Q (.ref fl) H'
def aa8:Sp:=fun vs H Q _=>(∃v w,vs=[v,w])/\Q .non H
structure SeD where
 s:Addr
 dx:Addr
 b:Addr
 fl:Addr
 rk:Addr
 dxr:Addr
 a1:Addr
 a2:Addr
 a3:Addr
 k:Nat
def SeD.ft (A:SeD):List Addr:=[A.s,A.fl,A.rk,A.a1,A.a2,A.a3]
def seF (b fl:Addr) (k:Nat) (rk:Addr):List (Str×V):=[("recipe", .ref b),("fitting", .ref fl),("place", .int k),("reckoning", .ref rk)]
structure SeC (K:PySem.W.Frag) (C:Addr):Prop where
 cl:Cls K C
 nR:jU K C "recipe"
 nF:jU K C "fitting"
 nP:jU K C "place"
 nK:jU K C "reckoning"
theorem Ar (b fl:Addr) (k:Nat) (rk:Addr):List.lookup ("recipe":Str) (seF b fl k rk)=some (.ref b):=rfl
theorem xj (b fl:Addr) (k:Nat) (rk:Addr):List.lookup ("fitting":Str) (seF b fl k rk)=some (.ref fl):=rfl
theorem Av (b fl:Addr) (k:Nat) (rk:Addr):List.lookup ("place":Str) (seF b fl k rk)=some (.int k):=rfl
theorem su (b fl:Addr) (k:Nat) (rk:Addr):List.lookup ("reckoning":Str) (seF b fl k rk)=some (.ref rk):=rfl
theorem iH (b fl:Addr) (k:Nat) (rk:Addr):List.lookup ("lacking":Str) (seF b fl k rk)=none/\List.lookup ("fit_on":Str) (seF b fl k rk)=none/\List.lookup ("was_reckoned":Str) (seF b fl k rk)=none/\List.lookup ("new_record":Str) (seF b fl k rk)=none:=⟨rfl,rfl,rfl,rfl⟩
structure xm (CS CR:Addr) (kr:List (Key×V)) (rm:Rm) (y:Str) (r:R) (kn:Kn) (A:SeD) (H:Hp):Prop where
 e:H A.s=some (.ins CS A.dx (seF A.b A.fl A.k A.rk))
 hr:IsR H A.b r
 c:∃c,RcAt H A.rk CR A.dxr A.a1 A.a2 A.a3 c/\Reach kn r c
 f:PJ H A.fl kr rm y r kn A.k
 n1:A.s≠A.rk
 n2:A.fl≠A.a1
 n3:A.fl≠A.a2
theorem RcAt.move {S:List Addr}{H H':Hp}{a C dx a1 a2 a3:Addr}{c:Cf} (h:RcAt H a C dx a1 a2 a3 c) (b:But S H H') (t:jz H H') (hs:∀z∈[a,a1,a2,a3],z∉S):RcAt H' a C dx a1 a2 a3 c:=by
 obtain⟨e,⟨ws,e1,hw⟩,e2,e3,ne,w⟩:=h
 exact⟨b _ _ (hs _ (by simp)) e,⟨ws,b _ _ (hs _ (by simp)) e1,hw.tups t⟩,b _ _ (hs _ (by simp)) e2,b _ _ (hs _ (by simp)) e3,ne,w⟩
section
variable {CS CR:Addr}{kr:List (Key×V)}{rm:Rm}{y:Str}{r:R}{kn kn':Kn}{A:SeD}{H H':Hp}
theorem xm.move {S:List Addr} (h:xm CS CR kr rm y r kn A H) (b:But S H H') (t:jz H H') (hs:∀z∈A.ft,z∉S):xm CS CR kr rm y r kn A H':=by
 obtain⟨c,h1,h2⟩:=h.c
 exact⟨b _ _ (hs _ (by simp[SeD.ft])) h.e,h.hr.tups t,⟨c,h1.move b t fun z hz=>hs z (by
  have:z=A.rk\/z=A.a1\/z=A.a2\/z=A.a3:=by simpa using hz
  unfold SeD.ft
  rcases this with rfl | rfl | rfl | rfl<;>simp),h2⟩,h.f.at fun o e=>b _ _ (hs _ (by simp[SeD.ft])) e,h.n1,h.n2,h.n3⟩
theorem xm.le (h:xm CS CR kr rm y r kn A H) (l:Kn.Le kn kn'):xm CS CR kr rm y r kn' A H:=by
 obtain⟨c,h1,h2⟩:=h.c
 exact⟨h.e,h.hr,⟨c,h1,h2.le l⟩,h.f.le l,h.n1,h.n2,h.n3⟩
def W6 (H:Hp) (CR:Addr) (kr:List (Key×V)) (rm:Rm) (y:Str) (r:R) (kn:Kn) (A:SeD):Prop:=
 (∃rb ps v,H A.fl=some (.lst [.ref rb])/\dH kr (.inr y)=some (.ref rb)/\rm y=some (r,ps,v)/\∀p∈ps,kn p.1=some p.2)\/
 (H A.fl=some (.lst [])/\MJ rm y r kn/\∃c v,RcAt H A.rk CR A.dxr A.a1 A.a2 A.a3 c/\c.found=[v]/\rC r kn0 c.rds v/\Rows kn c.rds)
end
def PK (CS CR:Addr):Sp:=fun vs H Q _=>∃(a dx b fl:Addr) (r:R),vs=[.ref a, .ref b, .ref fl]/\H a=some (.ins CS dx [])/\IsR H b r/\wR r<=4000/\
 ∀(A:SeD) H',But [a] H H'->A.s=a->A.b=b->A.fl=fl->A.k=0->H' a=some (.ins CS A.dx (seF b fl 0 A.rk))->RcAt H' A.rk CR A.dxr A.a1 A.a2 A.a3 ⟨[.r r],[],[]⟩->(∀z∈[A.rk,A.a1,A.a2,A.a3],H z=none)->Q .non H'
def aa9 (CS:Addr):Sp:=fun vs H Q _=>∃(s dx b fl rk rb br l:Addr) (k:Nat) (as:List Addr) (ps:List Rdp) (v w u:Int) (x:Str),vs=[.ref s, .int w]/\H s=some (.ins CS dx (seF b fl k rk))/\H fl=some (.lst [.ref rb])/\H rb=some (.tup [.ref br, .ref l, .int v])/\H l=some (.lst (as.map V.ref))/\gW H as ps/\ps[k]? =some (x,u)/\
 ∀fl' H',But [s] H H'->H fl'=none->H' s=some (.ins CS dx (seF b fl' (k+1) rk))->H' fl'=some (.lst (if u=w then [.ref rb] else []))->Q .non H'
def PL (CS CR:Addr):Sp:=fun vs H Q _=>∃(A:SeD) (d:Addr) (kr:List (Key×V)) (n:Nat) (rm:Rm) (y:Str) (r:R) (kn:Kn),vs=[.ref A.s, .ref d]/\xm CS CR kr rm y r kn A H/\pF H kr n rm/\n<=17/\WD H d kn/\d≠A.a3/\r.T3/\
 ∀(A':SeD) H',But A.ft H H'->A'.s=A.s->A'.b=A.b->A'.rk=A.rk->A'.a1=A.a1->A'.a2=A.a2->A'.a3=A.a3->(A'.fl=A.fl\/H A'.fl=none)->xm CS CR kr rm y r kn A' H'->
  (W6 H' CR kr rm y r kn A'->Q .non H')/\∀x,kn x=none->BL kn r x->Q (.str x) H'
theorem PN {r:R}:∀{ps:List Rdp}{kn:Kn}{k:Nat}{x:Str}{u:Int},Chn r kn ps->ps[k]? =some (x,u)->Chn r kn (ps.take k)/\ev (kn.puts (ps.take k)) r= .inl x
 |[],_,_,_,_,_,h=>by simp at h
 | p::ps,kn,0,x,u,c,h=>by cases h;exact⟨trivial,c.1⟩
 | p::ps,kn,k+1,x,u,c,h=>by
   obtain⟨h1,h2⟩:=PN (ps:=ps) (k:=k) c.2 (by simpa using h)
   exact⟨⟨c.1,h1⟩,h2⟩
theorem RT {r:R}{ps:List Rdp}{kn:Kn}{k:Nat}{x:Str}{u:Int} (c:Chn r kn0 ps) (h:ps[k]? =some (x,u)) (he:∀(j:Nat) p,j<k->ps[j]? =some p->kn p.1=some p.2):BL kn r x:=by
 obtain⟨h1,h2⟩:=PN c h
 refine⟨ps.take k,h1,h2,fun p hp=> ?_, ?_⟩
 ·obtain⟨j,hj⟩:=List.getElem?_of_mem hp
  rw[List.getElem?_take] at hj
  split at hj
  ·exact he j p (by assumption) hj
  ·cases hj
 ·rw[List.map_take]
  exact((vN c).2).sublist (List.take_sublist _ _)
theorem PX {H:Hp}:∀{as:List Addr}{ps:List Rdp},as.length=ps.length->(∀(j:Nat) (b:Addr) (p:Rdp),as[j]? =some b->ps[j]? =some p->H b=some (.tup (rdV p)))->gW H as ps
 |[],[],_,_=> .nil
 | a::as,p::ps,hl,h=> .cons (h 0 a p rfl rfl) (PX (by simpa using hl) fun j b q h1 h2=>h (j+1) b q (by simpa using h1) (by simpa using h2))
 |[],_::_,hl,_=>by simp at hl
 | _::_,[],hl,_=>by simp at hl
def Rcd (rm:Rm) (y:Str) (r:R) (kn:Kn) (ps:List Rdp) (v:Int) (made:Bool):Prop:=
 rC r kn0 ps v/\Rows kn ps/\if made=true then MJ rm y r kn else rm y=some (r,ps,v)
def W7 (CS CR:Addr):Sp:=fun vs H Q _=>∃(A:SeD) (kr:List (Key×V)) (n:Nat) (rm:Rm) (y:Str) (r:R) (kn:Kn),vs=[.ref A.s]/\H A.s=some (.ins CS A.dx (seF A.b A.fl A.k A.rk))/\pF H kr n rm/\n<=17/\W6 H CR kr rm y r kn A/\
 ∀(rb l:Addr) (as:List Addr) (ps:List Rdp) (v:Int) (made:Bool) (H':Hp),aM H H'->H' rb=some (.tup [.ref A.b, .ref l, .int v])->H l=none->H' l=some (.lst (as.map V.ref))->gW H' as ps->Rcd rm y r kn ps v made->(∃xs,H' A.fl=some (.lst xs)/\decide (xs.length=0)=made)->Q (.ref rb) H'
end RB
set_option maxRecDepth 100000
namespace L2
open PySem PySem.Spec PyProof.Rows RB
theorem P0 {P:Program}{w:World} (d:Addr) (od:Obj) (hl:(d==sysModules)=false) (hc:od.cls= .type "dict"):
 MeetsIn P w (Builtin.«dict.items» ⟨[.ref d],[]⟩)
  (fun A R s=>s.heap.get? d=some od/\R (.ok (.ret (.ref s.heap.objs.size))) ⟨s.heap.push {cls:= .type "dict_items",data:= .fields #[.ref d]},s.gens,s.drawn,s.toks,s.os⟩):=by
 intro A R s z
 obtain⟨hp,g,dr,tk,os⟩:=s
 obtain⟨z1,z⟩:=z
 obtain⟨c,dd,da,sl⟩:=od
 simp only at hc
 subst hc
 wp_walk
 exact z
theorem Inv.more {X:Cx}{pins:List (Addr×Obj)}{σ:St}{H H':Hp}{s:Shared}{h':Heap}{t':Nat} (I:Inv X pins σ H s) (k:∀b u,s.heap.get? b=some u->h'.get? b=some u) (sm:aM H H')
 (new:∀a o,H' a=some o->H a=some o\/(s.heap.objs.size<=a/\fX X.prog X.w H' h' a o)):Inv X pins σ H' {s with heap:=h',toks:=t'}:=by
 refine I.un ⟨fun b u q _ _ _=>k b u q,fun b u q _ _ _=>⟨u.slots,k b u q⟩,fun b u q n _=> ?_,fun b u q _=>⟨u,k b u q⟩,fun b xs q=>sm _ _ q,fun b u xs q=>sm _ _ q,fun b ps q=>⟨#[],by rw[sm _ _ q];simp⟩⟩ fun a o e=> ?_
 ·cases e:H' b with
  | none=>rfl
  | some o=>
    rcases new b o e with z | ⟨z,_⟩
    ·rw[n] at z;cases z
    ·exact absurd (Nat.lt_of_lt_of_le (Heap.lt_size q) z) (Nat.lt_irrefl _)
 ·rcases new a o e with z | ⟨_,z⟩
  ·exact(I.hok a o z).stay (fun c v _ q=>k c v q) (fun c q=>sm _ _ q) fun c xs q=>sm _ _ q
  ·exact z
def mkH:List Addr->List (Key×V)->Hp->Hp
 | a::as,kv::kvs,H=>upd (mkH as kvs H) a (.tup [kV kv.1,kv.2])
 | _,_,H=>H
theorem Uc:∀{as:List Addr}{kvs:List (Key×V)}{H:Hp}{b:Addr},b∉as->mkH as kvs H b=H b
 |[],_,_,_,_=>by cases ‹List (Key×V)›<;>rfl
 | a::as,[],_,_,_=>rfl
 | a::as,kv::kvs,H,b,h=>by
   show upd (mkH as kvs H) a _ b=_
   rw[au (fun z=>h (by simp[z]))]
   exact Uc fun z=>h (by simp[z])
theorem W8:∀{as:List Addr}{kvs:List (Key×V)}{H:Hp}{j:Nat}{a:Addr}{kv:Key×V},as.Nodup->as[j]? =some a->kvs[j]? =some kv->mkH as kvs H a=some (.tup [kV kv.1,kv.2])
 |[],_,_,_,_,_,_,h,_=>by simp at h
 | a::as,[],_,_,_,_,_,_,h=>by simp at h
 | a::as,kv::kvs,H,0,b,kv',_,h1,h2=>by
   cases h1;cases h2
   exact ao
 | a::as,kv::kvs,H,j+1,b,kv',nd,h1,h2=>by
   rw[List.nodup_cons] at nd
   have hb:b∈as:=List.mem_of_getElem? (by simpa using h1)
   show upd (mkH as kvs H) a _ b=_
   rw[au (fun z:b=a=>nd.1 (by rw[<-z];exact hb))]
   exact W8 nd.2 (by simpa using h1) (by simpa using h2)
theorem Ud:∀{as:List Addr}{kvs:List (Key×V)}{H:Hp}{b:Addr}{o:HO},as.Nodup->mkH as kvs H b=some o->(b∉as/\H b=some o)\/(∃(j:Nat) (kv:Key×V),as[j]? =some b/\kvs[j]? =some kv/\o= .tup [kV kv.1,kv.2])\/(H b=some o)
 |[],kvs,H,b,o,_,h=> .inl ⟨by simp,by cases kvs<;>exact h⟩
 | a::as,[],H,b,o,_,h=> .inr (.inr h)
 | a::as,kv::kvs,H,b,o,nd,h=>by
   rw[List.nodup_cons] at nd
   have h:upd (mkH as kvs H) a _ b=some o:=h
   by_cases z:b=a
   ·subst z
    rw[ao] at h;cases h
    exact .inr (.inl ⟨0,kv,rfl,rfl,rfl⟩)
   ·rw[au z] at h
    rcases Ud nd.2 h with⟨h1,h2⟩ | ⟨j,kv',h1,h2,h3⟩ | h1
    ·exact .inl ⟨by simp[z,h1],h2⟩
    ·exact .inr (.inl ⟨j+1,kv',by simpa using h1,by simpa using h2,h3⟩)
    ·exact .inr (.inr h1)
def afW (to:TE):TE:=fun σ H Q=>to σ H fun x H1=>∃a kvs,x= .ref a/\H1 a=some (.dK kvs)/\∀(l:Addr) (as:List Addr) (H':Hp),aM H1 H'->H1 l=none->H' l=some (.lst (as.map V.ref))->as.length=kvs.length->(∀(j:Nat) (b:Addr) (kv:Key×V),as[j]? =some b->kvs[j]? =some kv->H' b=some (.tup [kV kv.1,kv.2]))->Q (.ref l) H'
theorem ac6 {X:Cx}{o:Expr}{to:TE}{p apos cpos pos:Pos} (hc:X.calm=true) (ho:PE X o to) (hg:Gl X "list") (hm:X.mg "list"=none) (hv:bootBuiltins "list"=some (.type "list"))
 (hbase:attributeBase o "items" X.env (eval o X.env)=eval o X.env:=by rfl) (hline:(apos.endLine==cpos.line)=true:=by rfl)
 (he:starEach [.Call (.Attribute o "items" apos) [] [] cpos] X.env=(false,eval (.Call (.Attribute o "items" apos) [] [] cpos) X.env)::starEach [] X.env:=by rfl) (hpl:(backTo pos (starEach [] X.env)).any (·.1)=false:=by rfl):
 PE X (.Call (.Name "list" p) [.Call (.Attribute o "items" apos) [] [] cpos] [] pos) (afW to):=by
 intro pins s σ H Q I h
 refine wpAny_Call_Name_kw (Ca I hg hm hv ?_ (by decide) (by decide))
 refine PyProof.Rows.callWith_type1 ?_ he hpl
 rw[he]
 show wpAny _ _ (spliced ((false,eval (.Call (.Attribute o "items" apos) [] [] cpos) X.env)::backTo pos (starEach [] X.env))) _ _ s
 refine Calls.spliced_cons ?_
 refine wpAny_Call_method0_late hbase hline (thn (ho pins s σ H _ I h) fun v s1 ⟨x,H1,I1,r1,a,kvs,ex,ha,q⟩=> ?_)
 subst ex
 obtain rfl:v=Value.ref a:=r1
 obtain⟨t1,t2,hlo⟩:=Rj I1 (.inl ⟨kvs, .inl ha⟩)
 refine⟨"dict","dict.items",PySem.F.plainAttrs_dict,PySem.F.slot_dict_items,PySem.F.type_dict_items,t1,t2,Calls.callWith_builtin rfl (PySem.evalArgs_none ?_)⟩
 obtain⟨hz,_,vs,hkv,hd⟩:=O1 I1.hok ha
 obtain⟨ep,hat⟩:=hd.dictAt
 obtain⟨od,hod,hocls⟩:=id t1
 refine call_meetsIn PySem.F.slot_dict_items t1 PySem.F.entry_dict_items (PySem.F.args_dict_items_1 _) (P0 a od hlo hocls) ⟨hod, ?_⟩
 show wpAny (model X.prog X.w) X.A (spliced []) _ X.xe _
 refine Calls.spliced_nil ?_
 have hk1:∀b u,s1.heap.get? b=some u->(s1.heap.push {cls:= .type "dict_items",data:= .fields #[.ref a]}).get? b=some u:=fun b u e=>Heap.get?_push_of_some _ e
 have hsz:(s1.heap.push {cls:= .type "dict_items",data:= .fields #[.ref a]}).objs.size=s1.heap.objs.size+1:=by simp[Heap.push]
 obtain⟨_,_,vs',hkv',hd'⟩:=O1 (I1.hok.kept hk1) ha
 obtain⟨ep',hat'⟩:=hd'.dictAt
 obtain⟨hvl,hvk⟩:=Ej hkv'
 have hview:(s1.heap.push {cls:= .type "dict_items",data:= .fields #[.ref a]}).IsItemsView s1.heap.objs.size a:=⟨_,Heap.get?_push_size _ rfl,rfl,rfl⟩
 refine PySem.W.kdx_call (I1.ok.hd hc) hview hat' (by rw[<-hvl];exact hz) fun h' tk acc c as kp e hlen hG hacc=> ?_
 have hal:as.length=kvs.length:=hlen.trans hvl.symm
 have hnd:as.Nodup:=hG.rise.imp fun z=>Nat.ne_of_lt z
 have hlow:∀b∈as,s1.heap.objs.size+1<b:=fun b hb=>by rw[<-hsz];exact hG.above b hb
 have hfresh:∀{b:Addr}{o:HO},H1 b=some o->@LT.lt Nat _ b s1.heap.objs.size:=fun{b o} e=>I1.hok.lt e
 have hl:(s1.heap.push {cls:= .type "dict_items",data:= .fields #[.ref a]}).objs.size∉as:=fun z=>by have:=hlow _ z;rw[hsz] at this;exact absurd this (Nat.lt_irrefl _)
 have sm:aM H1 (upd (mkH as kvs H1) (s1.heap.push {cls:= .type "dict_items",data:= .fields #[.ref a]}).objs.size (.lst (as.map V.ref))):=fun b o eb=>by
  have h1:@LT.lt Nat _ b s1.heap.objs.size:=hfresh eb
  have n1:b∉as:=fun z=>absurd (Nat.lt_trans h1 (Nat.lt_of_succ_lt (hlow b z))) (Nat.lt_irrefl _)
  rw[au (by rw[hsz];exact Nat.ne_of_lt (Nat.lt_succ_of_lt h1)),Uc n1];exact eb
 have hpairs:∀(j:Nat) (b:Addr) (kv:Key×V),as[j]? =some b->kvs[j]? =some kv->mkH as kvs H1 b=some (.tup [kV kv.1,kv.2]):=fun j b kv h1 h2=>W8 hnd h1 h2
 have hne:∀{b:Addr},b∈as->b≠(s1.heap.push {cls:= .type "dict_items",data:= .fields #[.ref a]}).objs.size:=fun hb z=>hl (z▸hb)
 refine⟨.ref _,_,I1.more (t':=tk) (fun b u eb=>kp b u (hk1 b u eb)) sm (fun b o eb=> ?_),rfl,q _ as _ sm (I1.hok.fresh (by rw[hsz];omega)) ao hal fun j b kv h1 h2=> ?_⟩
 ·by_cases z:b=(s1.heap.push {cls:= .type "dict_items",data:= .fields #[.ref a]}).objs.size
  ·subst z
   rw[ao] at eb;cases eb
   refine .inr ⟨by rw[hsz];omega,by rw[List.length_map,hal];exact hz,acc.toList,c, ?_,by simpa using e⟩
   rw[hacc]
   clear e hacc q sm hpairs hG hlow hnd hal hlen hl hne
   induction as with
   | nil=>exact .nil
   | cons x as ih=>exact .cons rfl ih
  ·rw[au z] at eb
   rcases Ud hnd eb with⟨_,h2⟩ | ⟨j,kv,h1,h2,h3⟩ | h1
   ·exact .inl h2
   ·subst h3
    have hbm:=List.mem_of_getElem? h1
    have:=hlow b hbm
    obtain⟨key,k,x,e1,e2,e3⟩:=hG.pairs j b h1
    obtain⟨y,ey,ry⟩:=WL hkv' j k x e1
    rw[h2] at ey
    cases ey
    exact .inr ⟨by omega,by show 2<=sizeLine;decide,[key,x], .cons (Jm e2) (.cons ry .nil),⟨_,e3,rfl,_,rfl⟩⟩
   ·exact .inl h1
 ·rw[au (hne (List.mem_of_getElem? h1))]
  exact hpairs j b kv h1 h2
theorem ac7 {X:Cx}{o:Expr}{to:TE}{p apos cpos pos:Pos} (hc:X.calm=true) (ho:QE X o to) (hg:Gl X "list") (hm:X.mg "list"=none)
 (hbase:attributeBase o "items" X.env (eval o X.env)=eval o X.env:=by rfl) (hline:(apos.endLine==cpos.line)=true:=by rfl)
 (he:starEach [.Call (.Attribute o "items" apos) [] [] cpos] X.env=(false,eval (.Call (.Attribute o "items" apos) [] [] cpos) X.env)::starEach [] X.env:=by rfl) (hpl:(backTo pos (starEach [] X.env)).any (·.1)=false:=by rfl):
 QE X (.Call (.Name "list" p) [.Call (.Attribute o "items" apos) [] [] cpos] [] pos) (afW to):=⟨ac6 hc ho.h hg hm Jg hbase hline he hpl⟩
end L2
set_option maxRecDepth 100000
namespace RB
open PySem L2 PySem.Spec PyProof.Rows
structure SrD where
 so:Addr
 dx:Addr
 g:Addr
 c:Addr
 o:Addr
 dxo:Addr
 rcd:Addr
 kd:Addr
 sd:Addr
 rd:Addr
def srF (g c o kd sd rd:Addr):List (Str×V):=[("given", .ref g),("recipes", .ref c),("old", .ref o),("known", .ref kd),("settled", .ref sd),("reckoned", .ref rd)]
structure SrC (K:PySem.W.Frag) (C:Addr):Prop where
 cl:Cls K C
 nG:jU K C "given"
 nR:jU K C "recipes"
 nO:jU K C "old"
 nK:jU K C "known"
 nS:jU K C "settled"
 nM:jU K C "reckoned"
theorem zc (g c o kd sd rd:Addr):List.lookup ("given":Str) (srF g c o kd sd rd)=some (.ref g):=rfl
theorem sY (g c o kd sd rd:Addr):List.lookup ("recipes":Str) (srF g c o kd sd rd)=some (.ref c):=rfl
theorem Ka (g c o kd sd rd:Addr):List.lookup ("old":Str) (srF g c o kd sd rd)=some (.ref o):=rfl
theorem zf (g c o kd sd rd:Addr):List.lookup ("known":Str) (srF g c o kd sd rd)=some (.ref kd):=rfl
theorem sZ (g c o kd sd rd:Addr):List.lookup ("settled":Str) (srF g c o kd sd rd)=some (.ref sd):=rfl
theorem qJ (g c o kd sd rd:Addr):List.lookup ("reckoned":Str) (srF g c o kd sd rd)=some (.ref rd):=rfl
theorem iI (g c o kd sd rd:Addr):List.lookup ("begin":Str) (srF g c o kd sd rd)=none/\List.lookup ("end":Str) (srF g c o kd sd rd)=none/\List.lookup ("made":Str) (srF g c o kd sd rd)=none/\List.lookup ("kept":Str) (srF g c o kd sd rd)=none/\List.lookup ("settle":Str) (srF g c o kd sd rd)=none:=⟨rfl,rfl,rfl,rfl,rfl⟩
theorem Gz (rcd:Addr):List.lookup ("records_for":Str) (nrF rcd)=none/\List.lookup ("put_made":Str) (nrF rcd)=none:=⟨rfl,rfl⟩
def Mu (H:Hp) (z:Addr):Prop:=∃o,H z=some o/\∀xs,o≠ .tup xs
def afX:Option HO->Option HO->Option HO
 | some (.tup xs),_=>some (.tup xs)
 | _,d=>d
def grow (Hf H H1:Hp):Hp:=fun a=>if H a=none then H1 a else afX (H1 a) (Hf a)
theorem Zw {Hf H H1:Hp} (s0:aM Hf H) (s1:aM H H1):aM Hf (grow Hf H H1):=fun a o e=>by
 have h0:=s0 _ _ e
 have h1:=s1 _ _ h0
 unfold grow
 rw[if_neg (by rw[h0];simp),h1]
 cases o<;>first | exact e | rfl
theorem Zx {Hf H H1:Hp} (s0:aM Hf H) (s1:aM H H1):aM (grow Hf H H1) H1:=fun a o e=>by
 unfold grow at e
 split at e
 ·exact e
 ·cases h1:H1 a with
  | none=>
    rw[h1] at e
    have e:Hf a=some o:=e
    have:=s1 _ _ (s0 _ _ e)
    rw[h1] at this;cases this
  | some u=>
    rw[h1] at e
    cases u with
    | tup xs=>exact e
    | _=>
      have e:Hf a=some o:=e
      have:=s1 _ _ (s0 _ _ e)
      rw[h1] at this;exact this
theorem Ve {Hf H H1:Hp}:jz H1 (grow Hf H H1):=fun a xs e=>by
 unfold grow
 split
 ·exact e
 ·rw[e];rfl
theorem W9 {Hf H H1:Hp}{a:Addr} (h:H a=none):grow Hf H H1 a=H1 a:=by unfold grow;rw[if_pos h]
theorem Jo {Hf H H1:Hp} (s1:aM H H1) {z:Addr} (m:Mu H z) (hz:Hf z=none):grow Hf H H1 z=none:=by
 obtain⟨o,e,n⟩:=m
 have h1:=s1 _ _ e
 unfold grow
 rw[if_neg (by rw[e];simp),h1]
 cases o with
 | tup xs=>exact absurd rfl (n xs)
 | _=>exact hz
structure SrH (CSe CN:Addr) (D:SrD) (n:Nat) (gv:Kn) (rc:Rn) (kg kc kr:List (Key×V)) (rm:Rm) (Hf:Hp):Prop where
 e:Hf D.so=some (.ins CSe D.dx (srF D.g D.c D.o D.kd D.sd D.rd))
 eg:Hf D.g=some (.dK kg)
 ec:Hf D.c=some (.dK kc)
 bd:Bld Hf kg kc n gv rc
 eo:Hf D.o=some (.ins CN D.dxo (nrF D.rcd))
 er:Hf D.rcd=some (.dK kr)
 rD:pF Hf kr n rm
 n17:n<=17
 ne:D.kd≠D.sd/\D.kd≠D.rd/\D.sd≠D.rd
theorem SrH.same {CSe CN:Addr}{D:SrD}{n:Nat}{gv:Kn}{rc:Rn}{kg kc kr:List (Key×V)}{rm:Rm}{Hf H:Hp} (h:SrH CSe CN D n gv rc kg kc kr rm Hf) (s:aM Hf H):SrH CSe CN D n gv rc kg kc kr rm H:=
 ⟨s _ _ h.e,s _ _ h.eg,s _ _ h.ec,h.bd.tups (aM.tups s),s _ _ h.eo,s _ _ h.er,h.rD.map fun _ _ z=>z.same s,h.n17,h.ne⟩
structure vP (D:SrD) (n:Nat) (gv:Kn) (rc:Rn) (rm:Rm) (kn:Kn) (rmN:Rm) (rkn:Str->Bool) (Hf H:Hp):Prop where
 sm:aM Hf H
 fk:Hf D.kd=none
 fs:Hf D.sd=none
 fr:Hf D.rd=none
 ek:∃kw ws,H D.kd=some (.dK kw)/\mZ kw ws/\∀x,dH kw (.inr x)=(kn x).map V.int
 es:∃ks,H D.sd=some (.dK ks)/\pF Hf ks n rmN
 er:∃kk rs,H D.rd=some (.dK kk)/\mZ kk rs/\(∀x,dH kk (.inr x)=if rkn x=true then some (.bl true) else none)/\∀x,rkn x=true->rmN x≠none
 ok:yz n gv rc kn rmN
 md:∀x r ps v,rmN x=some (r,ps,v)->Rcd rm x r kn ps v (rkn x)
theorem Rcd.le {rm:Rm}{y:Str}{r:R}{kn kn':Kn}{ps:List Rdp}{v:Int}{m:Bool} (h:Rcd rm y r kn ps v m) (l:Kn.Le kn kn'):Rcd rm y r kn' ps v m:=by
 obtain⟨h1,h2,h3⟩:=h
 refine⟨h1,h2.le l, ?_⟩
 cases m with
 | true=>rw[if_pos rfl] at h3 ⊢;exact h3.le l
 | false=>exact h3
theorem vP.kl {D:SrD}{n:Nat}{gv:Kn}{rc:Rn}{rm:Rm}{kn:Kn}{rmN:Rm}{rkn:Str->Bool}{Hf H:Hp} (h:vP D n gv rc rm kn rmN rkn Hf H) {kw:List (Key×V)}{ws:List Str} (k:mZ kw ws) (hk:∀x,dH kw (.inr x)=(kn x).map V.int):kw.length<=n:=by
 rw[k.len,<-jn n]
 refine iy k.nd fun x hx=> ?_
 cases e:kn x with
 | none=>exact absurd hx (k.none.mp (by rw[hk,e];rfl))
 | some v=>exact(h.ok.a x v e).1
inductive Rch (gv:Kn) (rc:Rn) (kn:Kn) (x:Str):Str->Prop where
 | refl:Rch gv rc kn x x
 | step {y z:Str}{r:R} (h:Rch gv rc kn x y) (hg:gv y=none) (hr:rc y=some r) (hs:BL kn r z):Rch gv rc kn x z
theorem BL.le {kn kn':Kn}{r:R}{x:Str} (h:BL kn r x) (l:Kn.Le kn kn'):BL kn' r x:=let ⟨ps,a,b,c⟩:=h;⟨ps,a,b,c.le l⟩
theorem Rch.le {gv:Kn}{rc:Rn}{kn kn':Kn}{x y:Str} (h:Rch gv rc kn x y) (l:Kn.Le kn kn'):Rch gv rc kn' x y:=by
 induction h with
 | refl=>exact .refl
 | step _ hg hr hs ih=>exact .step ih hg hr (hs.le l)
def Qa (CSe:Addr):Sp:=fun vs H Q _=>∃(a dx h g c o:Addr),vs=[.ref a, .ref h, .ref o]/\H a=some (.ins CSe dx [])/\H h=some (.tup [.ref g, .ref c])/\
 ∀kd sd rd H',But [a] H H'->H' a=some (.ins CSe dx (srF g c o kd sd rd))->H kd=none->H sd=none->H rd=none->kd≠sd->kd≠rd->sd≠rd->H' kd=some (.dK [])->H' sd=some (.dK [])->H' rd=some (.dK [])->Q .non H'
def Ue (CSe CN CS CR:Addr):Sp:=fun vs H Q _=>∃(D:SrD) (n:Nat) (gv:Kn) (rc:Rn) (kg kc kr:List (Key×V)) (rm:Rm) (y:Str) (r:R),vs=[.ref D.so, .str y]/\SrH CSe CN D n gv rc kg kc kr rm H/\rc y=some r/\
 ∀(A:SeD) H',aM H H'->(∀z∈A.ft,H z=none)->(∀kn,xm CS CR kr rm y r kn A H')->Q (.ref A.s) H'
def Xa (CSe CN CS CR:Addr):Sp:=fun vs H Q _=>∃(D:SrD) (n:Nat) (gv:Kn) (rc:Rn) (kg kc kr:List (Key×V)) (rm:Rm) (kn:Kn) (rmN:Rm) (rkn:Str->Bool) (Hf:Hp) (A:SeD) (y:Str) (r:R),vs=[.ref D.so, .str y, .ref A.s]/\SrH CSe CN D n gv rc kg kc kr rm Hf/\vP D n gv rc rm kn rmN rkn Hf H/\
 H A.s=some (.ins CS A.dx (seF A.b A.fl A.k A.rk))/\IsR H A.b r/\W6 H CR kr rm y r kn A/\kn y=none/\gv y=none/\rc y=some r/\y∈nmK n/\(∀z∈A.ft,z∉[D.kd,D.sd,D.rd])/\
 ∀(v:Int) (ps:List Rdp) (made:Bool) (Hf' H':Hp),But [D.kd,D.sd,D.rd] H H'->aM Hf Hf'->(∀z,Mu H z->Hf z=none->Hf' z=none)->vP D n gv rc rm (kn.put y v) (rmN.put y (r,ps,v)) (fun x=>if x=y then made else rkn x) Hf' H'->Q .non H'
def Qc (CSe CN:Addr):Sp:=fun vs H Q _=>∃(D:SrD) (n:Nat) (gv:Kn) (rc:Rn) (kg kc kr:List (Key×V)) (rm:Rm) (kn:Kn) (rmN:Rm) (rkn:Str->Bool) (Hf:Hp) (x:Str),vs=[.ref D.so, .str x]/\SrH CSe CN D n gv rc kg kc kr rm Hf/\vP D n gv rc rm kn rmN rkn Hf H/\x∈nmK n/\
 ∀(kn':Kn) (Qd:Rm) (rkn':Str->Bool) (Hf' H':Hp),But [D.kd,D.sd,D.rd] H H'->aM Hf Hf'->(∀z,Mu H z->Hf z=none->Hf' z=none)->vP D n gv rc rm kn' Qd rkn' Hf' H'->Kn.Le kn kn'->kn' x≠none->(∀y,kn' y≠none->kn y≠none\/Rch gv rc kn' x y)->Q .non H'
def RV (kn:Kn) (n:Nat):Nat:=((List.range n).filter fun i=>(kn (aq i)).isNone).length
theorem MK {p p':Nat->Bool}:∀{l:List Nat},(∀j∈l,p' j=true->p j=true)->∀{i:Nat},i∈l->p i=true->p' i=false->(l.filter p').length+1<=(l.filter p).length
 |[],_,i,hi,_,_=>by cases hi
 | a::l,h,i,hi,h1,h2=>by
   have hle:∀l:List Nat,(∀j∈l,p' j=true->p j=true)->(l.filter p').length<=(l.filter p).length:=by
    intro l
    induction l with
    | nil=>intro _;exact Nat.le_refl _
    | cons b l ih=>
      intro h
      have ih:=ih fun j hj=>h j (by simp[hj])
      rw[List.filter_cons,List.filter_cons]
      by_cases hb:p' b=true
      ·rw[if_pos hb,if_pos (h b (by simp) hb)];simp;exact ih
      ·rw[if_neg hb]
       split
       ·simp;omega
       ·exact ih
   rcases List.mem_cons.mp hi with z | z
   ·subst z
    rw[List.filter_cons,List.filter_cons,if_neg (by rw[h2];decide),if_pos h1]
    have:=hle l fun j hj=>h j (by simp[hj])
    simp;exact this
   ·have ih:=MK (l:=l) (fun j hj=>h j (by simp[hj])) z h1 h2
    rw[List.filter_cons,List.filter_cons]
    by_cases hb:p' a=true
    ·rw[if_pos hb,if_pos (h a (by simp) hb)];simp;exact ih
    ·rw[if_neg hb]
     split
     ·simp;omega
     ·exact ih
theorem Kc {kn:Kn}{n i:Nat}{v:Int} (hi:i<n) (h:kn (aq i)=none):RV (kn.put (aq i) v) n+1<=RV kn n:=by
 refine MK (fun j _ hj=> ?_) (List.mem_range.mpr hi) (by simp only[h];rfl) ?_
 ·unfold Kn.put at hj
  by_cases z:aq j=aq i
  ·rw[if_pos z] at hj;cases hj
  ·rw[if_neg z] at hj;exact hj
 ·unfold Kn.put;rw[if_pos rfl];rfl
end RB
set_option maxRecDepth 100000
namespace RB
open PySem L2 PySem.Spec PyProof.Rows
theorem Qe {S:List Addr}{H H':Hp} (b:But S H H') (m:∀z∈S,Mu H z):jz H H':=fun p xs e=>b p _ (fun w=>by
 obtain⟨o,h1,h2⟩:=m p w
 rw[e] at h1;cases h1;exact h2 _ rfl) e
theorem Mu.but {S:List Addr}{H H':Hp}{z:Addr} (m:Mu H z) (b:But S H H') (hz:z∉S):Mu H' z:=let ⟨o,h1,h2⟩:=m;⟨o,b _ _ hz h1,h2⟩
theorem Mu.some {H:Hp}{z:Addr} (m:Mu H z):H z≠none:=let ⟨o,h1,_⟩:=m;by rw[h1];simp
theorem vP.but {D:SrD}{n:Nat}{gv:Kn}{rc:Rn}{rm:Rm}{kn:Kn}{rmN:Rm}{rkn:Str->Bool}{Hf H H':Hp}{S:List Addr} (h:vP D n gv rc rm kn rmN rkn Hf H) (b:But S H H') (hf:∀z∈S,Hf z=none) (hk:D.kd∉S) (hs:D.sd∉S) (hr:D.rd∉S):vP D n gv rc rm kn rmN rkn Hf H':=by
 obtain⟨sm,fk,fs,fr,⟨kw,ws,e1,r1⟩,⟨ks,e2,r2⟩,⟨kk,rs,e3,r3⟩,ok,md⟩:=h
 exact⟨fun z o e=>b z o (fun w=>by rw[hf z w] at e;cases e) (sm z o e),fk,fs,fr,⟨kw,ws,b _ _ hk e1,r1⟩,⟨ks,b _ _ hs e2,r2⟩,⟨kk,rs,b _ _ hr e3,r3⟩,ok,md⟩
theorem vP.same {D:SrD}{n:Nat}{gv:Kn}{rc:Rn}{rm:Rm}{kn:Kn}{rmN:Rm}{rkn:Str->Bool}{Hf H H':Hp} (h:vP D n gv rc rm kn rmN rkn Hf H) (s:aM H H'):vP D n gv rc rm kn rmN rkn Hf H':=h.but (S:=[]) (But.of_same s) (by simp) (by simp) (by simp) (by simp)
structure BgI (CS CR:Addr) (D:SrD) (pth bgd:Addr) (n:Nat) (gv:Kn) (rc:Rn) (kr:List (Key×V)) (rm:Rm) (kn:Kn) (bg:Str->Option SeD) (Hf H:Hp):Prop where
 e:∃kb ks,H bgd=some (.dK kb)/\mZ kb ks/\∀y,dH kb (.inr y)=(bg y).map fun A=>V.ref A.s
 nm:∀y,bg y≠none->y∈nmK n
 ok:∀y A,bg y=some A->kn y=none->∃r,rc y=some r/\gv y=none/\xm CS CR kr rm y r kn A H
 al:∀y A,bg y=some A->∀z∈A.ft,Mu H z/\Hf z=none/\z∉[pth,bgd,D.kd,D.sd,D.rd]
 dj:∀y y' A A',y≠y'->bg y=some A->bg y'=some A'->∀z∈A.ft,z∉A'.ft
section
variable {CS CR:Addr}{D:SrD}{pth bgd:Addr}{n:Nat}{gv:Kn}{rc:Rn}{kr:List (Key×V)}{rm:Rm}{kn kn':Kn}{bg:Str->Option SeD}{Hf Hf' H H':Hp}
theorem BgI.but {S:List Addr} (h:BgI CS CR D pth bgd n gv rc kr rm kn bg Hf H) (b:But S H H') (t:jz H H') (hb:bgd∉S) (hS:∀y A,bg y=some A->∀z∈A.ft,z∉S):BgI CS CR D pth bgd n gv rc kr rm kn bg Hf H':=by
 obtain⟨⟨kb,ks,e1,e2,e3⟩,nm,ok,al,dj⟩:=h
 exact⟨⟨kb,ks,b _ _ hb e1,e2,e3⟩,nm,fun y A h1 h2=>let ⟨r,a1,a2,a3⟩:=ok y A h1 h2;⟨r,a1,a2,a3.move b t (hS y A h1)⟩,fun y A h1 z hz=>⟨(al y A h1 z hz).1.but b (hS y A h1 z hz),(al y A h1 z hz).2⟩,dj⟩
theorem BgI.same (h:BgI CS CR D pth bgd n gv rc kr rm kn bg Hf H) (s:aM H H'):BgI CS CR D pth bgd n gv rc kr rm kn bg Hf H':=h.but (S:=[]) (But.of_same s) (aM.tups s) (by simp) (by simp)
theorem BgI.off {S:List Addr} (h:BgI CS CR D pth bgd n gv rc kr rm kn bg Hf H) (b:But S H H') (m:∀z∈S,Mu H z) (hS:∀z∈S,z∈[pth,D.kd,D.sd,D.rd]) (hb:bgd∉S):BgI CS CR D pth bgd n gv rc kr rm kn bg Hf H':=
 h.but b (Qe b m) hb fun y A h1 z hz w=>(h.al y A h1 z hz).2.2 (by
   have:=hS z w
   simp only[List.mem_cons,List.not_mem_nil,or_false] at this ⊢
   rcases this with q | q | q | q
   ·exact .inl q
   ·exact .inr (.inr (.inl q))
   ·exact .inr (.inr (.inr (.inl q)))
   ·exact .inr (.inr (.inr (.inr q))))
theorem BgI.le (h:BgI CS CR D pth bgd n gv rc kr rm kn bg Hf H) (l:Kn.Le kn kn'):BgI CS CR D pth bgd n gv rc kr rm kn' bg Hf H:=
 ⟨h.e,h.nm,fun y A h1 h2=>by
   have h0:kn y=none:=by
    cases z:kn y with
    | none=>rfl
    | some v=>rw[l y v z] at h2;cases h2
   obtain⟨r,a1,a2,a3⟩:=h.ok y A h1 h0
   exact⟨r,a1,a2,a3.le l⟩,h.al,h.dj⟩
theorem BgI.hf (h:BgI CS CR D pth bgd n gv rc kr rm kn bg Hf H) (f:∀z,Mu H z->Hf z=none->Hf' z=none):BgI CS CR D pth bgd n gv rc kr rm kn bg Hf' H:=
 ⟨h.e,h.nm,h.ok,fun y A h1 z hz=>let ⟨a,b,c⟩:=h.al y A h1 z hz;⟨a,f z a b,c⟩,h.dj⟩
theorem xm.mu {y:Str}{r:R}{A:SeD} (h:xm CS CR kr rm y r kn A H):∀z∈A.ft,Mu H z:=fun z hz=>by
 obtain⟨c,rc',_⟩:=h.c
 have hz:z=A.s\/z=A.fl\/z=A.rk\/z=A.a1\/z=A.a2\/z=A.a3:=by simpa [SeD.ft] using hz
 rcases hz with rfl | rfl | rfl | rfl | rfl | rfl
 ·exact⟨_,h.e,by simp⟩
 ·rcases h.f with⟨rb,ps,v,w1,_⟩ | ⟨w1,_⟩
  ·exact⟨_,w1,by simp⟩
  ·exact⟨_,w1,by simp⟩
 ·exact⟨_,rc'.e,by simp⟩
 ·obtain⟨ws,w1,_⟩:=rc'.e1
  exact⟨_,w1,by simp⟩
 ·exact⟨_,rc'.e2,by simp⟩
 ·exact⟨_,rc'.e3,by simp⟩
def nq (bg:Str->Option SeD) (y:Str) (A:SeD):Str->Option SeD:=fun x=>if x=y then some A else bg x
theorem BgI.new {H1:Hp}{y:Str}{r:R}{A:SeD}{kb:List (Key×V)} (h:BgI CS CR D pth bgd n gv rc kr rm kn bg Hf H) (s:aM H H1) (hA:∀z∈A.ft,H z=none) (so:xm CS CR kr rm y r kn A H1) (hr:rc y=some r) (hg:gv y=none) (hy:y∈nmK n) (hb:bg y=none)
 (ebd:H bgd=some (.dK kb)) (sf:aM Hf H) (al:∀z∈[pth,bgd,D.kd,D.sd,D.rd],H z≠none):BgI CS CR D pth bgd n gv rc kr rm kn (nq bg y A) Hf (upd H1 bgd (.dK (putK kb (.inr y) (.ref A.s)))):=by
 have h1:=h.same s
 have eb1:=s _ _ ebd
 have b1:But [bgd] H1 (upd H1 bgd (.dK (putK kb (.inr y) (.ref A.s)))):=But.set _ (by simp)
 have t1:jz H1 (upd H1 bgd (.dK (putK kb (.inr y) (.ref A.s)))):=qz eb1
 have nA:∀z∈A.ft,z∉[pth,bgd,D.kd,D.sd,D.rd]:=fun z hz w=>al z w (hA z hz)
 have nb:∀z∈A.ft,z∉[bgd]:=fun z hz w=>nA z hz (by simp at w ⊢;exact .inr (.inl w))
 obtain⟨⟨kb',ks,e1,e2,e3⟩,nm,ok,al1,dj⟩:=h1
 rw[eb1] at e1;cases e1
 have hyk:y∉ks:=e2.none.mp (by rw[e3,hb];rfl)
 refine⟨⟨_,_,ao,e2.ql hyk _,fun x=> ?_⟩,fun x hx=> ?_,fun x B h1 h2=> ?_,fun x B h1 z hz=> ?_,fun x x' B B' hne h1 h2 z hz=> ?_⟩
 ·rw[iQ]
  unfold nq
  by_cases z:x=y
  ·rw[if_pos (by rw[z]),if_pos z];rfl
  ·rw[if_neg (pC z),if_neg z];exact e3 x
 ·unfold nq at hx
  by_cases z:x=y
  ·rw[z];exact hy
  ·rw[if_neg z] at hx;exact nm x hx
 ·unfold nq at h1
  by_cases z:x=y
  ·rw[if_pos z] at h1;cases h1
   rw[z];exact⟨r,hr,hg,so.move b1 t1 nb⟩
  ·rw[if_neg z] at h1
   obtain⟨r',a1,a2,a3⟩:=ok x B h1 h2
   exact⟨r',a1,a2,a3.move b1 t1 fun w hw q=>(al1 x B h1 w hw).2.2 (by simp at q ⊢;exact .inr (.inl q))⟩
 ·unfold nq at h1
  by_cases w:x=y
  ·rw[if_pos w] at h1;cases h1
   refine⟨(so.mu z hz).but b1 (nb z hz), ?_,nA z hz⟩
   cases q:Hf z with
   | none=>rfl
   | some o=>have:=sf _ _ q;rw[hA z hz] at this;cases this
  ·rw[if_neg w] at h1
   obtain⟨a1,a2,a3⟩:=al1 x B h1 z hz
   exact⟨a1.but b1 (fun q=>a3 (by simp at q ⊢;exact .inr (.inl q))),a2,a3⟩
 ·unfold nq at h1 h2
  by_cases w:x=y
  ·rw[if_pos w] at h1;cases h1
   rw[if_neg (fun q=>hne (w.trans q.symm))] at h2
   exact fun q=>((h.al x' B' h2 z q).1.some) (hA z hz)
  ·rw[if_neg w] at h1
   by_cases w':x'=y
   ·rw[if_pos w'] at h2;cases h2
    exact fun q=>((h.al x B h1 z hz).1.some) (hA z q)
   ·rw[if_neg w'] at h2
    exact dj x x' B B' hne h1 h2 z hz
theorem BgI.set {y:Str}{r:R}{A A':SeD} (h:BgI CS CR D pth bgd n gv rc kr rm kn bg Hf H) (hy:bg y=some A) (b:But A.ft H H') (so:xm CS CR kr rm y r kn A' H') (hr:rc y=some r) (hg:gv y=none)
 (es:A'.s=A.s) (erk:A'.rk=A.rk) (e1:A'.a1=A.a1) (e2:A'.a2=A.a2) (e3:A'.a3=A.a3) (efl:A'.fl=A.fl\/H A'.fl=none) (sf:aM Hf H) (al:∀z∈[pth,bgd,D.kd,D.sd,D.rd],H z≠none):BgI CS CR D pth bgd n gv rc kr rm kn (nq bg y A') Hf H':=by
 have hin:∀z∈A'.ft,z∈A.ft\/H z=none:=fun z hz=>by
  have hz:z=A'.s\/z=A'.fl\/z=A'.rk\/z=A'.a1\/z=A'.a2\/z=A'.a3:=by simpa [SeD.ft] using hz
  rcases hz with w | w | w | w | w | w
  ·exact .inl (by rw[w,es];simp[SeD.ft])
  ·rcases efl with q | q
   ·exact .inl (by rw[w,q];simp[SeD.ft])
   ·exact .inr (by rw[w];exact q)
  ·exact .inl (by rw[w,erk];simp[SeD.ft])
  ·exact .inl (by rw[w,e1];simp[SeD.ft])
  ·exact .inl (by rw[w,e2];simp[SeD.ft])
  ·exact .inl (by rw[w,e3];simp[SeD.ft])
 have mA:∀z∈A.ft,Mu H z:=fun z hz=>(h.al y A hy z hz).1
 have t:=Qe b mA
 have nbg:bgd∉A.ft:=fun z=>(h.al y A hy _ z).2.2 (by simp)
 obtain⟨⟨kb,ks,f1,f2,f3⟩,nm,ok,al1,dj⟩:=h
 refine⟨⟨kb,ks,b _ _ nbg f1,f2,fun x=> ?_⟩,fun x hx=> ?_,fun x B h1 h2=> ?_,fun x B h1 z hz=> ?_,fun x x' B B' hne h1 h2 z hz=> ?_⟩
 ·rw[f3]
  unfold nq
  by_cases z:x=y
  ·rw[if_pos z,z,hy];show some (V.ref A.s)=some (V.ref A'.s);rw[es]
  ·rw[if_neg z]
 ·unfold nq at hx
  by_cases z:x=y
  ·rw[z];exact nm y (by rw[hy];simp)
  ·rw[if_neg z] at hx;exact nm x hx
 ·unfold nq at h1
  by_cases z:x=y
  ·rw[if_pos z] at h1;cases h1
   rw[z];exact⟨r,hr,hg,so⟩
  ·rw[if_neg z] at h1
   obtain⟨r',a1,a2,a3⟩:=ok x B h1 h2
   exact⟨r',a1,a2,a3.move b t fun w hw=>dj x y B A z h1 hy w hw⟩
 ·unfold nq at h1
  by_cases w:x=y
  ·rw[if_pos w] at h1;cases h1
   refine⟨so.mu z hz, ?_, ?_⟩
   ·rcases hin z hz with q | q
    ·exact(al1 y A hy z q).2.1
    ·cases q':Hf z with
     | none=>rfl
     | some o=>have:=sf _ _ q';rw[q] at this;cases this
   ·rcases hin z hz with q | q
    ·exact(al1 y A hy z q).2.2
    ·exact fun w'=>al z w' q
  ·rw[if_neg w] at h1
   obtain⟨a1,a2,a3⟩:=al1 x B h1 z hz
   exact⟨a1.but b (dj x y B A w h1 hy z hz),a2,a3⟩
 ·unfold nq at h1 h2
  by_cases w:x=y
  ·rw[if_pos w] at h1;cases h1
   rw[if_neg (fun q=>hne (w.trans q.symm))] at h2
   rcases hin z hz with q | q
   ·exact dj y x' A B' (fun e=>hne (w.trans e)) hy h2 z q
   ·exact fun w'=>((al1 x' B' h2 z w').1.some) q
  ·rw[if_neg w] at h1
   by_cases w':x'=y
   ·rw[if_pos w'] at h2;cases h2
    intro q
    rcases hin z q with q' | q'
    ·exact dj x y B A w h1 hy z hz q'
    ·exact((al1 x B h1 z hz).1.some) q'
   ·rw[if_neg w'] at h2
    exact dj x x' B B' hne h1 h2 z hz
end
end RB
set_option maxRecDepth 100000
namespace RB
open PySem L2 PySem.Spec PyProof.Rows
theorem Ug:∀{is:List Nat}{n:Nat},is.Pairwise (fun a b=>b<a)->(∀i∈is,i<n)->is.length<=n
 |[],n,_,_=>Nat.zero_le _
 | a::l,n,h,hl=>by
   rw[List.pairwise_cons] at h
   have:=Ug (is:=l) (n:=a) h.2 h.1
   have:=hl a (by simp)
   simp;omega
theorem BL.in {kn:Kn}{r:R}{x:Str}{ns:List Str} (h:BL kn r x) (hi:r.In ns):x∈ns:=by
 obtain⟨ps,_,e,_⟩:=h
 exact HX hi e
def Ia (n:Nat) (kn:Kn) (is:List Nat):Nat:=match is.getLast? with
 | none=>0
 | some i=>if(kn (aq i)).isNone=true then 60 * RV kn n+20 - is.length else 60 * RV kn n+30
theorem qK {n:Nat}{kn:Kn}{js:List Nat}{i:Nat} (h:kn (aq i)=none):Ia n kn (js++[i])=60 * RV kn n+20 - (js.length+1):=by
 unfold Ia
 rw[List.getLast?_concat]
 simp only[h]
 rw[List.length_append];rfl
theorem Aw {n:Nat}{kn:Kn}{js:List Nat}{i:Nat} (h:kn (aq i)≠none):Ia n kn (js++[i])=60 * RV kn n+30:=by
 unfold Ia
 rw[List.getLast?_concat]
 simp only
 rw[if_neg]
 intro z
 exact h (Option.isNone_iff_eq_none.mp z)
structure LpI (CSe CN CS CR:Addr) (D:SrD) (pth bgd:Addr) (n:Nat) (gv:Kn) (rc:Rn) (kg kc kr:List (Key×V)) (rm:Rm) (knI:Kn) (HfI HI:Hp) (x:Str) (k0:Nat) (is:List Nat) (kn:Kn) (rmN:Rm) (rkn:Str->Bool) (bg:Str->Option SeD) (Hf H:Hp):Prop where
 b:But [D.kd,D.sd,D.rd] HI H
 sf:aM HfI Hf
 fm:∀z,Mu HI z->HfI z=none->Hf z=none
 sh:SrH CSe CN D n gv rc kg kc kr rm Hf
 so:vP D n gv rc rm kn rmN rkn Hf H
 ep:H pth=some (.lst (is.map fun i=>V.str (aq i)))
 fp:Hf pth=none
 fb:Hf bgd=none
 ip:HI pth=none
 ib:HI bgd=none
 np:pth∉[D.kd,D.sd,D.rd]
 nb:bgd∉[D.kd,D.sd,D.rd]
 nn:pth≠bgd
 dec:is.Pairwise (fun a b=>b<a)
 lt:∀i∈is,i<n
 un:∀i∈is.dropLast,kn (aq i)=none
 rch:∀i∈is,Rch gv rc kn x (aq i)
 le:Kn.Le knI kn
 new:∀y,kn y≠none->knI y≠none\/Rch gv rc kn x y
 bgi:BgI CS CR D pth bgd n gv rc kr rm kn bg Hf H
 hd:is.head?=some k0\/(is=[]/\kn x≠none)
 fr:∀y A,bg y=some A->∀z∈A.ft,HI z=none
section
variable {CSe CN CS CR:Addr}{D:SrD}{pth bgd:Addr}{n:Nat}{gv:Kn}{rc:Rn}{kg kc kr:List (Key×V)}{rm:Rm}{knI:Kn}{HfI HI:Hp}{x:Str}{k0:Nat}{is js:List Nat}{i:Nat}{kn:Kn}{rmN:Rm}{rkn:Str->Bool}{bg:Str->Option SeD}{Hf H H':Hp}
theorem LpI.len (h:LpI CSe CN CS CR D pth bgd n gv rc kg kc kr rm knI HfI HI x k0 is kn rmN rkn bg Hf H):is.length<=17:=Nat.le_trans (Ug h.dec h.lt) h.sh.n17
theorem LpI.al (h:LpI CSe CN CS CR D pth bgd n gv rc kg kc kr rm knI HfI HI x k0 is kn rmN rkn bg Hf H):∀z∈[pth,bgd,D.kd,D.sd,D.rd],Mu H z:=fun z hz=>by
 obtain⟨kb,ks,e1,_⟩:=h.bgi.e
 obtain⟨kw,ws,e2,_⟩:=h.so.ek
 obtain⟨ks',e3,_⟩:=h.so.es
 obtain⟨kk,rs,e4,_⟩:=h.so.er
 have hz:z=pth\/z=bgd\/z=D.kd\/z=D.sd\/z=D.rd:=by simpa using hz
 rcases hz with rfl | rfl | rfl | rfl | rfl
 ·exact⟨_,h.ep,by simp⟩
 ·exact⟨_,e1,by simp⟩
 ·exact⟨_,e2,by simp⟩
 ·exact⟨_,e3,by simp⟩
 ·exact⟨_,e4,by simp⟩
theorem LpI.path {is':List Nat} (h:LpI CSe CN CS CR D pth bgd n gv rc kg kc kr rm knI HfI HI x k0 is kn rmN rkn bg Hf H) (dec:is'.Pairwise (fun a b=>b<a)) (lt:∀i∈is',i<n) (un:∀i∈is'.dropLast,kn (aq i)=none) (rch:∀i∈is',Rch gv rc kn x (aq i)) (hd:is'.head?=some k0\/(is'=[]/\kn x≠none)):
 LpI CSe CN CS CR D pth bgd n gv rc kg kc kr rm knI HfI HI x k0 is' kn rmN rkn bg Hf (upd H pth (.lst (is'.map fun i=>V.str (aq i)))):=by
 have hb:But [pth] H (upd H pth (.lst (is'.map fun i=>V.str (aq i)))):=But.set _ (by simp)
 have np:=h.np
 simp only[List.mem_cons,List.not_mem_nil,or_false,not_or] at np
 refine⟨h.b.upd _ h.ip,h.sf,h.fm,h.sh,h.so.but hb (fun z hz=> ?_) (fun z=>np.1 (List.mem_singleton.mp z).symm) (fun z=> ?_) (fun z=> ?_),ao,h.fp,h.fb,h.ip,h.ib,h.np,h.nb,h.nn,dec,lt,un,rch,h.le,h.new,h.bgi.off hb (fun z hz=> ?_) (fun z hz=> ?_) (fun z=> ?_),hd,h.fr⟩
 ·have:z=pth:=by simpa using hz
  rw[this];exact h.fp
 ·exact np.2.1 (by have:D.sd=pth:=by simpa using z
                   exact this.symm)
 ·exact np.2.2 (by have:D.rd=pth:=by simpa using z
                   exact this.symm)
 ·have:z=pth:=by simpa using hz
  rw[this];exact h.al pth (by simp)
 ·have:z=pth:=by simpa using hz
  rw[this];simp
 ·exact h.nn (by have:bgd=pth:=by simpa using z
                 exact this.symm)
theorem LpI.pop (h:LpI CSe CN CS CR D pth bgd n gv rc kg kc kr rm knI HfI HI x k0 (js++[i]) kn rmN rkn bg Hf H) (hk:kn (aq i)≠none) (ex:x=aq k0):LpI CSe CN CS CR D pth bgd n gv rc kg kc kr rm knI HfI HI x k0 js kn rmN rkn bg Hf (upd H pth (.lst (js.map fun i=>V.str (aq i)))):=by
 have un:=h.un
 rw[List.dropLast_concat] at un
 refine h.path (h.dec.sublist (List.sublist_append_left _ _)) (fun j hj=>h.lt j (by simp[hj])) (fun j hj=>un j ((List.dropLast_sublist _).subset hj)) (fun j hj=>h.rch j (by simp[hj])) ?_
 rcases h.hd with z | ⟨z,_⟩
 ·cases js with
  | nil=>
    right
    have:i=k0:=by simpa using z
    exact⟨rfl,by rw[ex,<-this];exact hk⟩
  | cons a js=>left;simpa using z
 ·simp at z
theorem LpI.push {j:Nat}{r:R} (h:LpI CSe CN CS CR D pth bgd n gv rc kg kc kr rm knI HfI HI x k0 (js++[i]) kn rmN rkn bg Hf H) (hk:kn (aq i)=none) (hji:j<i) (hg:gv (aq i)=none) (hr:rc (aq i)=some r) (hs:BL kn r (aq j)):LpI CSe CN CS CR D pth bgd n gv rc kg kc kr rm knI HfI HI x k0 (js++[i]++[j]) kn rmN rkn bg Hf (upd H pth (.lst ((js++[i]++[j]).map fun i=>V.str (aq i)))):=by
 have hi:=h.lt i (by simp)
 have un:=h.un
 rw[List.dropLast_concat] at un
 have dec:=h.dec
 rw[List.pairwise_append] at dec
 refine h.path ?_ (fun k hk=> ?_) (fun k hk'=> ?_) (fun k hk'=> ?_) ?_
 ·rw[List.pairwise_append]
  refine⟨h.dec,by simp,fun a ha b hb=> ?_⟩
  have hb:b=j:=by simpa using hb
  rw[hb]
  rcases List.mem_append.mp ha with z | z
  ·exact Nat.lt_trans hji (dec.2.2 a z i (by simp))
  ·have:a=i:=by simpa using z
   rw[this];exact hji
 ·rcases List.mem_append.mp hk with z | z
  ·exact h.lt k z
  ·have:k=j:=by simpa using z
   rw[this];omega
 ·rw[List.dropLast_concat] at hk'
  rcases List.mem_append.mp hk' with z | z
  ·exact un k z
  ·have:k=i:=by simpa using z
   rw[this];exact hk
 ·rcases List.mem_append.mp hk' with z | z
  ·exact h.rch k z
  ·have:k=j:=by simpa using z
   rw[this];exact .step (h.rch i (by simp)) hg hr hs
 ·left
  rcases h.hd with z | ⟨z,_⟩
  ·cases js with
   | nil=>simpa using z
   | cons a js=>simpa using z
  ·simp at z
theorem LpI.know {kn':Kn}{Qd:Rm}{rkn':Str->Bool}{Hf':Hp} (h:LpI CSe CN CS CR D pth bgd n gv rc kg kc kr rm knI HfI HI x k0 (js++[i]) kn rmN rkn bg Hf H) (b:But [D.kd,D.sd,D.rd] H H') (sf:aM Hf Hf') (fm:∀z,Mu H z->Hf z=none->Hf' z=none) (so:vP D n gv rc rm kn' Qd rkn' Hf' H') (le:Kn.Le kn kn') (hn:∀y,kn' y≠none->kn y≠none\/y=aq i) (hun:∀y,y≠aq i->kn y=none->kn' y=none) (n26:n<=26):LpI CSe CN CS CR D pth bgd n gv rc kg kc kr rm knI HfI HI x k0 (js++[i]) kn' Qd rkn' bg Hf' H':=by
 have hal:=h.al
 have hmu:∀z∈[D.kd,D.sd,D.rd],Mu H z:=fun z hz=>hal z (by simp at hz ⊢;rcases hz with q | q | q<;>simp[q])
 have un:=h.un
 rw[List.dropLast_concat] at un
 have dec:=h.dec
 rw[List.pairwise_append] at dec
 refine⟨h.b.trans b,h.sf.trans sf,fun z m hz=> ?_,h.sh.same sf,so,b _ _ h.np h.ep,fm _ (hal _ (by simp)) h.fp,fm _ (hal _ (by simp)) h.fb,h.ip,h.ib,h.np,h.nb,h.nn,h.dec,h.lt,fun j hj=> ?_,fun j hj=>(h.rch j hj).le le,h.le.trans le,fun y hy=> ?_,((h.bgi.hf fm).off b hmu (fun z hz=>by simp at hz ⊢;rcases hz with q | q | q<;>simp[q]) h.nb).le le, ?_,h.fr⟩
 ·have hz':=h.fm z m hz
  by_cases hS:z∈[D.kd,D.sd,D.rd]
  ·exact fm z (hmu z hS) hz'
  ·exact fm z (m.but h.b hS) hz'
 ·rw[List.dropLast_concat] at hj
  have hlt:i<j:=dec.2.2 j hj i (by simp)
  have hjn:=h.lt j (by simp[hj])
  exact hun _ (fun z=>by
   have:=iZ (show j<26 by omega) (show i<26 by omega) z
   omega) (un j hj)
 ·rcases hn y hy with z | z
  ·exact(h.new y z).imp id fun w=>w.le le
  ·right;rw[z];exact(h.rch i (by simp)).le le
 ·exact h.hd.imp id fun⟨a,_⟩=>by simp at a
theorem LpI.bgs {S:List Addr}{bg':Str->Option SeD} (h:LpI CSe CN CS CR D pth bgd n gv rc kg kc kr rm knI HfI HI x k0 is kn rmN rkn bg Hf H) (b:But S H H') (hS:∀z∈S,HI z=none/\Hf z=none/\z∉[pth,D.kd,D.sd,D.rd]) (hb:BgI CS CR D pth bgd n gv rc kr rm kn bg' Hf H') (hf:∀y A,bg' y=some A->∀z∈A.ft,HI z=none):LpI CSe CN CS CR D pth bgd n gv rc kg kc kr rm knI HfI HI x k0 is kn rmN rkn bg' Hf H':=by
 refine⟨fun c o hc e=>b c o (fun w=>by rw[(hS c w).1] at e;cases e) (h.b c o hc e),h.sf,h.fm,h.sh,h.so.but b (fun z hz=>(hS z hz).2.1) (fun z=>(hS _ z).2.2 (by simp)) (fun z=>(hS _ z).2.2 (by simp)) (fun z=>(hS _ z).2.2 (by simp)),b _ _ (fun z=>(hS _ z).2.2 (by simp)) h.ep,h.fp,h.fb,h.ip,h.ib,h.np,h.nb,h.nn,h.dec,h.lt,h.un,h.rch,h.le,h.new,hb,h.hd,hf⟩
theorem LpI.free (h:LpI CSe CN CS CR D pth bgd n gv rc kg kc kr rm knI HfI HI x k0 is kn rmN rkn bg Hf H) {z:Addr} (hz:H z=none):HI z=none/\Hf z=none:=by
 refine⟨jd h.b hz fun w=>(h.al z (by simp at w ⊢;rcases w with q | q | q<;>simp[q])).some hz, ?_⟩
 cases q:Hf z with
 | none=>rfl
 | some o=>have:=h.so.sm _ _ q;rw[hz] at this;cases this
theorem LpI.begun {H1:Hp}{y:Str}{r:R}{A:SeD}{kb:List (Key×V)} (h:LpI CSe CN CS CR D pth bgd n gv rc kg kc kr rm knI HfI HI x k0 is kn rmN rkn bg Hf H) (s:aM H H1) (hA:∀z∈A.ft,H z=none) (so:xm CS CR kr rm y r kn A H1) (hr:rc y=some r) (hg:gv y=none) (hy:y∈nmK n) (hb:bg y=none) (ebd:H bgd=some (.dK kb)):
 LpI CSe CN CS CR D pth bgd n gv rc kg kc kr rm knI HfI HI x k0 is kn rmN rkn (nq bg y A) Hf (upd H1 bgd (.dK (putK kb (.inr y) (.ref A.s)))):=by
 have nb:=h.nb
 refine h.bgs (S:=[bgd]) ((But.of_same s).trans (But.set _ (by simp))) (fun z hz=> ?_) (h.bgi.new s hA so hr hg hy hb ebd h.so.sm fun z hz=>(h.al z hz).some) (fun x B hB z hz=> ?_)
 ·have:z=bgd:=by simpa using hz
  rw[this]
  exact⟨h.ib,h.fb,fun w=>by
   rcases List.mem_cons.mp w with q | q
   ·exact h.nn q.symm
   ·exact nb q⟩
 ·unfold nq at hB
  by_cases w:x=y
  ·rw[if_pos w] at hB;cases hB
   exact(h.free (hA z hz)).1
  ·rw[if_neg w] at hB;exact h.fr x B hB z hz
theorem LpI.gone {y:Str}{r:R}{A A':SeD} (h:LpI CSe CN CS CR D pth bgd n gv rc kg kc kr rm knI HfI HI x k0 is kn rmN rkn bg Hf H) (hy:bg y=some A) (b:But A.ft H H') (so:xm CS CR kr rm y r kn A' H') (hr:rc y=some r) (hg:gv y=none)
 (es:A'.s=A.s) (erk:A'.rk=A.rk) (e1:A'.a1=A.a1) (e2:A'.a2=A.a2) (e3:A'.a3=A.a3) (efl:A'.fl=A.fl\/H A'.fl=none):LpI CSe CN CS CR D pth bgd n gv rc kg kc kr rm knI HfI HI x k0 is kn rmN rkn (nq bg y A') Hf H':=by
 refine h.bgs (S:=A.ft) b (fun z hz=> ?_) (h.bgi.set hy b so hr hg es erk e1 e2 e3 efl h.so.sm fun z hz=>(h.al z hz).some) (fun x B hB z hz=> ?_)
 ·obtain⟨a1,a2,a3⟩:=h.bgi.al y A hy z hz
  exact⟨h.fr y A hy z hz,a2,fun w=>a3 (by
   simp only[List.mem_cons,List.not_mem_nil,or_false] at w ⊢
   rcases w with q | q | q | q
   ·exact .inl q
   ·exact .inr (.inr (.inl q))
   ·exact .inr (.inr (.inr (.inl q)))
   ·exact .inr (.inr (.inr (.inr q))))⟩
 ·unfold nq at hB
  by_cases w:x=y
  ·rw[if_pos w] at hB;cases hB
   have hz:z=A'.s\/z=A'.fl\/z=A'.rk\/z=A'.a1\/z=A'.a2\/z=A'.a3:=by simpa [SeD.ft] using hz
   rcases hz with q | q | q | q | q | q
   ·rw[q,es];exact h.fr y A hy _ (by simp[SeD.ft])
   ·rcases efl with w | w
    ·rw[q,w];exact h.fr y A hy _ (by simp[SeD.ft])
    ·rw[q];exact(h.free w).1
   ·rw[q,erk];exact h.fr y A hy _ (by simp[SeD.ft])
   ·rw[q,e1];exact h.fr y A hy _ (by simp[SeD.ft])
   ·rw[q,e2];exact h.fr y A hy _ (by simp[SeD.ft])
   ·rw[q,e3];exact h.fr y A hy _ (by simp[SeD.ft])
  ·rw[if_neg w] at hB;exact h.fr x B hB z hz
theorem vP.giv {y:Str}{v:Int}{kw:List (Key×V)}{ws:List Str} (h:vP D n gv rc rm kn rmN rkn Hf H) (ek:H D.kd=some (.dK kw)) (kk:mZ kw ws) (hk:∀x,dH kw (.inr x)=(kn x).map V.int) (hy:y∈nmK n) (hg:gv y=some v) (ne:D.kd≠D.sd/\D.kd≠D.rd/\D.sd≠D.rd):vP D n gv rc rm (kn.put y v) rmN rkn Hf (upd H D.kd (.dK (putK kw (.inr y) (.int v))))/\Kn.Le kn (kn.put y v):=by
 have hn:kn y=none\/kn y=some v:=by
  cases z:kn y with
  | none=>exact .inl rfl
  | some u=>
    rcases(h.ok.a y u z).2 with w | ⟨w,_⟩
    ·rw[hg] at w;cases w;exact .inr rfl
    ·rw[hg] at w;cases w
 obtain⟨sm,fk,fs,fr,_,⟨ks,e2,r2⟩,⟨kk',rs,e3,r3⟩,ok,md⟩:=h
 have hs:aM Hf (upd H D.kd (.dK (putK kw (.inr y) (.int v)))):=fun z o e=>(au (fun w=>by rw[w,fk] at e;cases e)).trans (sm z o e)
 rcases hn with z | z
 ·have le:=Kn.qg (v:=v) z
  have hyw:y∉ws:=kk.none.mp (by rw[hk,z];rfl)
  exact⟨⟨hs,fk,fs,fr,⟨_,_,ao,kk.ql hyw _,Eo hk y v⟩,⟨ks,(au (Ne.symm ne.1)).trans e2,r2⟩,⟨kk',rs,(au (Ne.symm ne.2.1)).trans e3,r3⟩,ok.Zm hy z hg,fun x r ps u e=>(md x r ps u e).le le⟩,le⟩
 ·have hyw:y∈ws:=Decidable.byContradiction fun w=>by
   have:=kk.none.mpr w
   rw[hk,z] at this;cases this
  have eq:kn.put y v=kn:=by
   funext x
   unfold Kn.put
   by_cases w:x=y
   ·rw[if_pos w,w,z]
   ·rw[if_neg w]
  rw[eq]
  refine⟨⟨hs,fk,fs,fr,⟨_,_,ao,kk.Nv hyw _,fun x=> ?_⟩,⟨ks,(au (Ne.symm ne.1)).trans e2,r2⟩,⟨kk',rs,(au (Ne.symm ne.2.1)).trans e3,r3⟩,ok,md⟩,Kn.Le.refl _⟩
  have:=Eo hk y v x
  rw[eq] at this;exact this
theorem Qf (hl:js.length<=17) (h:∀j∈js,kn (aq j)=none):Ia n kn js<=60 * RV kn n+20 - js.length:=by
 rcases List.eq_nil_or_concat js with z | ⟨ks,j,z⟩
 ·subst z;exact Nat.zero_le _
 ·rw[List.concat_eq_append] at z
  subst z
  rw[qK (h j (by simp)),List.length_append]
  exact Nat.le_refl _
end
end RB
set_option maxRecDepth 100000
namespace L2
open PySem PySem.Spec PyProof.Rows RB
section
variable {X:Cx}{tg:Expr}
def Xb (tl:TE):TI:=fun σ H R=>tl σ H fun x H1=>∃a o kvs,x= .ref a/\H1 a=some (.frz o (.dK kvs))/\R (Itd a o kvs) H1
theorem Xc {l:Expr}{tl:TE} (hl:PE X l tl):PI X tg l (Xb tl):=by
 intro pins s σ H R I h
 refine thn (hl pins s σ H _ I h) fun v s1 ⟨x,H1,I1,r1,q1⟩=> ?_
 obtain⟨a,o,kvs,e,hq,q⟩:=q1
 subst e
 cases r1
 obtain⟨ho,hz,lo,vs,hkv,hd⟩:=(show fX X.prog X.w H1 s1.heap a (.frz o (.dK kvs)) from I1.hok a _ hq)
 obtain⟨o',es,ep,ho',hx,hdat,hk,hp,hn⟩:=id hd
 rw[ho] at ho'
 cases ho'
 have hl:=(Ej hkv).1
 refine wpAny_pyIter_dict lo ⟨o,es,ho,hx,hdat,hk,hp,hn⟩ ?_
 have hlt:a<s1.heap.objs.size:=Heap.lt_size ho
 rw[<-hl]
 refine⟨s1.heap.objs.size,[s1.heap.objs.size],_,_,_,rfl,I1.kept (t':=s1.toks) fun b o e=>Heap.get?_push_of_some _ e,Mv (Nat.ne_of_lt hlt) hkv hx hdat hk hp hn,⟨_,Heap.get?_push_size _ rfl,rfl,rfl⟩,fun b hb=> ?_,q⟩
 have e:b=s1.heap.objs.size:=by simpa using hb
 subst e
 exact I1.M5 (Nat.le_refl _) (I1.hok.fresh (Nat.le_refl _))
theorem Xd {l:Expr}{tl:TE} (hl:QE X l tl):QI X tg l (Xb tl):=⟨Xc hl.h⟩
end
theorem GC {a:Addr}{o:Obj}{kvs:List (Key×V)}{g:TG}{tc:TT}{te:TE}{σ:St}{H:Hp}{D:Addr}{Q:VK} (Pv:Nat->St->Hp->Prop) (h0:Pv 0 σ (upd H D (.lst []))) (hl:∀i σ H,i<=kvs.length->Pv i σ H->H a=some (.frz o (.dK kvs)))
 (hs:∀i k v σ' H',kvs[i]? =some (k,v)->Pv i σ' H'->g (kV k) σ' H' fun σ3 H3=>tc σ3 H3 fun b H4=>
   if b=true then te σ3 H4 fun y H5=>∃ys,H5 D=some (.lst ys)/\ys.length<sizeLine/\Pv (i+1) σ3 (upd H5 D (.lst (ys++[y]))) else Pv (i+1) σ3 H4) (hd:∀σ' H',Pv kvs.length σ' H'->Q (.ref D) H'):
 Mp (Itd a o kvs) g tc te D σ (upd H D (.lst [])) Q:=by
 refine⟨fun i m σ H=>m=kvs.length - i/\i<=kvs.length/\Pv i σ H,⟨kvs.length,by simp,Nat.zero_le _,h0⟩, ?_⟩
 rintro i m σ H ⟨rfl,hi,p⟩
 have q:=hl i σ H hi p
 by_cases hlt:i<kvs.length
 ·refine .inr ⟨⟨hlt,q⟩,Pv (i+1),fun σ' H' p'=>⟨kvs.length - (i+1),by omega,rfl,hlt,p'⟩,fun x H' y=> ?_⟩
  obtain⟨e,k,v,hk,ex⟩:=y
  subst e ex
  exact hs i k v σ _ hk p
 ·have e:i=kvs.length:=by omega
  subst e
  exact .inl ⟨⟨Nat.le_refl _,q⟩,hd σ H p⟩
end L2
namespace RB
open PySem L2 PySem.Spec PyProof.Rows
def Xe (CSe:Addr):Sp:=fun vs H Q _=>∃(D:SrD) (ks kk:List (Key×V)) (ss:List Str) (rkn:Str->Bool),vs=[.ref D.so]/\H D.so=some (.ins CSe D.dx (srF D.g D.c D.o D.kd D.sd D.rd))/\H D.sd=some (.dK ks)/\mZ ks ss/\ss.length<=100/\D.sd≠D.rd/\H D.rd=some (.dK kk)/\(∀x,dH kk (.inr x)=if rkn x=true then some (.bl true) else none)/\
 ∀(l:Addr) (o:Obj) (H':Hp),But [D.sd] H H'->H' D.sd=some (.frz o (.dK ks))->H l=none->H' l=some (.lst ((ss.filter rkn).map V.str))->Q (.ref l) H'
def Xf (CSe:Addr):Sp:=fun vs H Q _=>∃(D:SrD) (o:Obj) (ks kk:List (Key×V)) (ss:List Str) (rkn:Str->Bool),vs=[.ref D.so]/\H D.so=some (.ins CSe D.dx (srF D.g D.c D.o D.kd D.sd D.rd))/\H D.sd=some (.frz o (.dK ks))/\mZ ks ss/\ss.length<=100/\H D.rd=some (.dK kk)/\(∀x,dH kk (.inr x)=if rkn x=true then some (.bl true) else none)/\
 ∀(l:Addr) (H':Hp),aM H H'->H l=none->H' l=some (.lst ((ss.filter fun x=> !rkn x).map V.str))->Q (.ref l) H'
def Kd (CSe CN:Addr):Sp:=fun vs H Q _=>∃(h g c o dxo rcd wl:Addr) (n:Nat) (gv:Kn) (rc:Rn) (kg kc kr:List (Key×V)) (rm:Rm) (ws:List Str),vs=[.ref h, .ref o, .ref wl]/\H h=some (.tup [.ref g, .ref c])/\H g=some (.dK kg)/\H c=some (.dK kc)/\Bld H kg kc n gv rc/\n<=17/\H o=some (.ins CN dxo (nrF rcd))/\H rcd=some (.dK kr)/\pF H kr n rm/\H wl=some (.lst (ws.map V.str))/\(∀x∈ws,x∈nmK n)/\
 ∀(D:SrD) (kn:Kn) (rmN:Rm) (rkn:Str->Bool) (Hf H':Hp),aM H H'->aM H Hf->SrH CSe CN D n gv rc kg kc kr rm Hf->vP D n gv rc rm kn rmN rkn Hf H'->H D.kd=none->H D.sd=none->H D.rd=none->(∀x∈ws,kn x≠none)->(∀y,kn y≠none->∃x∈ws,Rch gv rc kn x y)->Q (.ref D.so) H'
structure Built (n:Nat) (gv:Kn) (rc:Rn) (rm:Rm) (ws:List Str) (kn:Kn) (rmN:Rm) (rkn:Str->Bool):Prop where
 ok:yz n gv rc kn rmN
 md:∀x r ps v,rmN x=some (r,ps,v)->Rcd rm x r kn ps v (rkn x)
 w:∀x∈ws,kn x≠none
 r:∀y,kn y≠none->∃x∈ws,Rch gv rc kn x y
 rn:∀x,rkn x=true->rmN x≠none
def NK:Sp:=fun vs H Q _=>∃(h g c rcd wl:Addr) (n:Nat) (gv:Kn) (rc:Rn) (kr:List (Key×V)) (rm:Rm) (ws:List Str),vs=[.ref h, .ref rcd, .ref wl]/\jW H h g c n gv rc/\n<=17/\H rcd=some (.dK kr)/\pF H kr n rm/\H wl=some (.lst (ws.map V.str))/\(∀x∈ws,x∈nmK n)/\
 ∀(t kd sd lm lk:Addr) (kw ks:List (Key×V)) (wn sn:List Str) (kn:Kn) (rmN:Rm) (rkn:Str->Bool) (o:Obj) (H':Hp),aM H H'->H' t=some (.tup [.ref kd, .ref sd, .ref lm, .ref lk])->H kd=none->H sd=none->H lm=none->H lk=none->kd≠sd->lm≠lk->H' kd=some (.dK kw)->mZ kw wn->(∀x,dH kw (.inr x)=(kn x).map V.int)->H' sd=some (.frz o (.dK ks))->mZ ks sn->pF H' ks n rmN->H' lm=some (.lst ((sn.filter rkn).map V.str))->H' lk=some (.lst ((sn.filter fun x=> !rkn x).map V.str))->Built n gv rc rm ws kn rmN rkn->Q (.ref t) H'
end RB
set_option maxRecDepth 100000
namespace RB
open PySem L2 PySem.Spec PyProof.Rows
theorem Uh {r:R}{u v:Int}:∀{ps qs:List Rdp}{kn:Kn},Chn r kn ps->Chn r kn qs->ev (kn.puts ps) r= .inr u->ev (kn.puts qs) r= .inr v->(∀p∈ps,∀q∈qs,p.1=q.1->p.2=q.2)->u=v/\ps=qs
 |[],[],kn,_,_,e1,e2,_=>by
  have e1:ev kn r= .inr u:=e1
  have e2:ev kn r= .inr v:=e2
  rw[e1] at e2
  exact⟨Sum.inr.inj e2,rfl⟩
 |[],q::qs,kn,_,c,e1,_,_=>by
  have e1:ev kn r= .inr u:=e1
  rw[c.1] at e1;cases e1
 | p::ps,[],kn,c,_,_,e2,_=>by
   have e2:ev kn r= .inr v:=e2
   rw[c.1] at e2;cases e2
 | p::ps,q::qs,kn,c1,c2,e1,e2,h=>by
   have e:p.1=q.1:=Sum.inl.inj (c1.1.symm.trans c2.1)
   have e':=h p (by simp) q (by simp) e
   have hpq:p=q:=Prod.ext e e'
   subst hpq
   obtain⟨a,b⟩:=Uh (ps:=ps) (qs:=qs) c1.2 c2.2 e1 e2 fun p' hp q' hq=>h p' (by simp[hp]) q' (by simp[hq])
   exact⟨a,by rw[b]⟩
section
variable {n:Nat}{gv:Kn}{rc:Rn}{kn1 kn2:Kn}{rm1 rm2:Rm}{ws:List Str}
theorem Qg (n26:n<=26) (rk:∀x r,rc x=some r->∃k,k<n/\x=aq k/\Rk3 (nmK k) 4 r) (s1:yz n gv rc kn1 rm1) (s2:yz n gv rc kn2 rm2):∀(k:Nat),k<n->∀u v,kn1 (aq k)=some u->kn2 (aq k)=some v->u=v:=fun k=>by
 induction k using Nat.strongRecOn with
 | ind k ih=>
   intro hk u v e1 e2
   rcases(s1.a _ _ e1).2 with g1 | ⟨g1,r,ps,hr,m1⟩
   ·rcases(s2.a _ _ e2).2 with g2 | ⟨g2,_⟩
    ·rw[g1] at g2;exact Option.some.inj g2
    ·rw[g1] at g2;cases g2
   ·rcases(s2.a _ _ e2).2 with g2 | ⟨g2,r',qs,hr',m2⟩
    ·rw[g1] at g2;cases g2
    ·rw[hr] at hr';cases hr'
     obtain⟨_,_,_,t1,w1⟩:=s1.b _ _ _ _ m1
     obtain⟨_,_,_,t2,w2⟩:=s2.b _ _ _ _ m2
     obtain⟨k',hk',ek,R⟩:=rk _ _ hr
     have:k=k':=iZ (by omega) (by omega) ek
     subst this
     refine(Uh t1.c t2.c t1.e t2.e fun p hp q hq e=> ?_).1
     obtain⟨j,hj,ej⟩:=dD.mp (J5 R.i t1.c p hp)
     have h1:=w1.s p hp
     have h2:=w2.s q hq
     rw[<-e,ej] at h2
     rw[ej] at h1
     exact ih j hj (by omega) _ _ h1 h2
theorem Xg (n26:n<=26) (rk:∀x r,rc x=some r->∃k,k<n/\x=aq k/\Rk3 (nmK k) 4 r) (s1:yz n gv rc kn1 rm1) (s2:yz n gv rc kn2 rm2) (w2:∀x∈ws,kn2 x≠none) {x:Str} (hx:x∈ws) {y:Str} (h:Rch gv rc kn1 x y):kn2 y≠none:=by
 induction h with
 | refl=>exact w2 x hx
 | @step y z r _ hg hr hs ih=>
   obtain⟨qs,cq,eq,rq⟩:=hs
   cases ey:kn2 y with
   | none=>exact absurd ey ih
   | some v=>
     rcases(s2.a _ _ ey).2 with g2 | ⟨g2,r',ps,hr',m2⟩
     ·rw[hg] at g2;cases g2
     ·rw[hr] at hr';cases hr'
      obtain⟨_,_,_,t2,u2⟩:=s2.b _ _ _ _ m2
      have cT:Chn r kn0 (qs++[(z,0)]):=cq.app ⟨eq,trivial⟩
      have key:∀j p,j<qs.length->(qs++[(z,0)])[j]? =some p->kn2 p.1=some p.2:=fun j=>by
       induction j using Nat.strongRecOn with
       | ind j ihj=>
         intro p hj hp
         obtain⟨u,hu⟩:=again j cT t2.c t2.e u2.s (fun i p' hi hp'=>ihj i hi p' (by omega) hp') p hp
         have hm:p∈qs:=by
          rw[List.getElem?_append_left hj] at hp
          exact List.mem_of_getElem? hp
         have h1:=rq.s p hm
         obtain⟨i,hi,ei⟩:=dD.mp (s1.a _ _ h1).1
         rw[ei] at h1 hu
         rw[ei,hu,Qg n26 rk s1 s2 i hi _ _ h1 hu]
      obtain⟨u,hu⟩:=again qs.length cT t2.c t2.e u2.s key (z,0) (by simp)
      rw[hu];simp
theorem Xh (n26:n<=26) (rk:∀x r,rc x=some r->∃k,k<n/\x=aq k/\Rk3 (nmK k) 4 r) (s1:yz n gv rc kn1 rm1) (s2:yz n gv rc kn2 rm2) (w1:∀x∈ws,kn1 x≠none) (w2:∀x∈ws,kn2 x≠none) (r1:∀y,kn1 y≠none->∃x∈ws,Rch gv rc kn1 x y) (r2:∀y,kn2 y≠none->∃x∈ws,Rch gv rc kn2 x y):kn1=kn2:=by
 funext y
 cases e1:kn1 y with
 | none=>
   cases e2:kn2 y with
   | none=>rfl
   | some v=>
     obtain⟨x,hx,h⟩:=r2 y (by rw[e2];simp)
     exact absurd e1 (Xg n26 rk s2 s1 w1 hx h)
 | some u=>
   obtain⟨x,hx,h⟩:=r1 y (by rw[e1];simp)
   cases e2:kn2 y with
   | none=>exact absurd e2 (Xg n26 rk s1 s2 w2 hx h)
   | some v=>
     obtain⟨k,hk,ek⟩:=dD.mp (s1.a _ _ e1).1
     rw[ek] at e1 e2
     rw[Qg n26 rk s1 s2 k hk _ _ e1 e2]
end
end RB
set_option maxRecDepth 100000
namespace L2
open PySem PySem.Spec PyProof.Rows RB
theorem Inv.thaw {X:Cx}{pins:List (Addr×Obj)}{σ:St}{H:Hp}{s:Shared}{a:Addr}{o:Obj}{u:HO} (I:Inv X pins σ H s) (e:H a=some (.frz o u)) (h0:X.H₀ a=none):Inv X pins σ (upd H a u) s:=by
 have hb:∀{b:Addr}{z:HO},H b=some z->z≠ .frz o u->b≠a:=fun q n w=>by rw[w,e] at q;cases q;exact n rfl
 have hn:∀{b:Addr},H b=none->b≠a:=fun q w=>by rw[w,e] at q;cases q
 have b0:=I.base
 refine⟨I.ok,I.os,I.bare,⟨b0.keep,b0.slot,fun b ob q n hx=> ?_,b0.there,fun b xs q=> ?_,fun b ob z q=> ?_,fun b ps q=> ?_⟩,I.loc,I.cell, ?_,fun x c q=> ?_,fun p hp=> ?_,fun b z q=> ?_,I.len⟩
 ·have:=b0.free b ob q n hx
  exact(au (hn this)).trans this
 ·have:=b0.tups b xs q
  exact(au (hb this (by simp))).trans this
 ·have:=b0.frzs b ob z q
  exact(au (fun w=>by rw[w,h0] at q;cases q)).trans this
 ·obtain⟨more,w⟩:=b0.tbls b ps q
  exact⟨more,(au (hb w (by simp))).trans w⟩
 ·exact(au (hn I.free)).trans I.free
 ·exact(au (hn (I.vI x c q))).trans (I.vI x c q)
 ·obtain⟨p1,p2,p3⟩:=I.pin p hp
  exact⟨p1,(au (hn p2)).trans p2,p3⟩
 ·have st:∀{c:Addr}{w:HO},fX X.prog X.w H s.heap c w->fX X.prog X.w (upd H a u) s.heap c w:=fun x=>x.stay (fun _ _ _ r=>r) (fun b q=>(au (hb q (by simp))).trans q) fun b xs q=>(au (hb q (by simp))).trans q
  by_cases w:b=a
  ·rw[w,ao] at q;cases q
   rw[w]
   exact st (show _/\_ from I.hok a _ e).2
  ·rw[au w] at q
   exact st (I.hok b z q)
end L2
set_option maxRecDepth 100000
namespace L2
open PySem PySem.Spec PyProof.Rows RB
section
variable {X:Cx}
end
end L2
namespace RB
open PySem L2 PySem.Spec PyProof.Rows
structure PpJ (H:Hp) (kp:List (Key×V)) (gv:Kn) (rc:Rn) (rm:Rm) (kn:Kn) (ks:List Str):Prop where
 k:mZ kp ks
 v:∀x∈ks,∃b p,dH kp (.inr x)=some (.ref b)/\jQ H b p/\rK gv rc rm kn x p
section
variable {H H':Hp}{kp kq:List (Key×V)}{gv:Kn}{rc:Rn}{rm:Rm}{kn:Kn}{ks qs:List Str}
theorem PpJ.tups (h:PpJ H kp gv rc rm kn ks) (t:jz H H'):PpJ H' kp gv rc rm kn ks:=⟨h.k,fun x hx=>let ⟨b,p,h1,h2,h3⟩:=h.v x hx;⟨b,p,h1,h2.tups t,h3⟩⟩
theorem PpJ.same (h:PpJ H kp gv rc rm kn ks) (s:aM H H'):PpJ H' kp gv rc rm kn ks:=h.tups (aM.tups s)
theorem PpJ.nil:PpJ H [] gv rc rm kn []:=⟨⟨rfl,by simp⟩,by simp⟩
theorem PpJ.put (h:PpJ H kp gv rc rm kn ks) {x:Str} (hx:x∉ks) {b:Addr}{p:Pap} (pA:jQ H b p) (pI:rK gv rc rm kn x p):PpJ H (putK kp (.inr x) (.ref b)) gv rc rm kn (ks++[x]):=by
 refine⟨h.k.ql hx _,fun y hy=> ?_⟩
 rw[iQ]
 by_cases z:y=x
 ·rw[if_pos (by rw[z])]
  exact⟨b,p,rfl,pA,by rw[z];exact pI⟩
 ·rw[if_neg (pC z)]
  rcases List.mem_append.mp hy with w | w
  ·exact h.v y w
  ·exact absurd (by simpa using w) z
theorem Ke {b:Addr}{p:Pap} (h:jQ H b p):SeqAt.shaped p.dat=true:=by
 obtain⟨h1,h2⟩:=h.lay
 show(p.dat.canLay0&&decide (p.dat.depth<=64))=true
 rw[h1,decide_eq_true (by omega)];rfl
end
theorem zg {kw:List (Key×V)}{ws:List Str}{kn:Kn} (k:mZ kw ws) (h:∀x,dH kw (.inr x)=(kn x).map V.int) (x:Str):x∈ws ↔ kn x≠none:=by
 constructor
 ·intro hx z
  exact k.none.mp (by rw[h,z];rfl) hx
 ·intro hx
  refine Decidable.byContradiction fun z=>hx ?_
  have:=k.none.mpr z
  rw[h] at this
  cases e:kn x with
  | none=>rfl
  | some u=>rw[e] at this;cases this
def aba:Sp:=fun vs H Q _=>∃(h g c rcd wl:Addr) (n:Nat) (gv:Kn) (rc:Rn) (kr:List (Key×V)) (rm:Rm) (ws:List Str),vs=[.ref h, .ref rcd, .ref wl]/\jW H h g c n gv rc/\n<=17/\H rcd=some (.dK kr)/\pF H kr n rm/\H wl=some (.lst (ws.map V.str))/\(∀x∈ws,x∈nmK n)/\
 ∀(pd:Addr) (kp:List (Key×V)) (ks:List Str) (kn:Kn) (rmN:Rm) (rkn:Str->Bool) (H':Hp),aM H H'->H pd=none->H' pd=some (.dK kp)->PpJ H' kp gv rc rm kn ks->(∀x,x∈ks ↔ kn x≠none)->Built n gv rc rm ws kn rmN rkn->Q (.ref pd) H'
end RB
set_option maxRecDepth 100000
namespace RB
open PySem L2 PySem.Spec PyProof.Rows
namespace SJ
theorem ajq:typeLookup (.type "dict") "__len__"=pure (some (.builtin "dict.__len__")):=by
 rw[typeLookup_type,builtinLookup_eq_fast]
 kernel_rfl
theorem ajr:isSubtype (.type "dict") (.type "dict")=pure true:=by
 rw[isSubtype_type]
 kernel_rfl
end SJ
section
variable {prog:Program}{w:World}{A:Around}{E:Value->Shared->Prop}{s:Shared}
theorem Xi {a:Addr}{vs:List (Key×Value)}{ep:Nat}{Q:List Value->Shared->Prop} (hh:A.handled=none) (hlo:(a==sysModules)=false) (hD:s.heap.DictAt (dY prog w) a vs ep) (hz:vs.length<=sizeLine)
 (q:∀(us:List Value) (h':Heap) (tk:Nat),us.length=vs.length->(∀(i:Nat) u,us[i]? =some u->∃k x,vs[i]? =some (k,x)/\(dY prog w).is k u=true)->(∀b o,s.heap.get? b=some o->h'.get? b=some o)->s.heap.objs.size<h'.objs.size->Q us {s with heap:=h',toks:=tk}):
 wpAny (model prog w) A (collect (.ref a)) Q E s:=by
 obtain⟨o,es,ho,hx,hdat,hk,hp,hn⟩:=id hD
 have hlt:=Heap.lt_size ho
 unfold collect
 refine wpAny_bind (wpAny_runValue (codeAny_builtin PySem.F.entry_proto_collect ?_))
 rw[Around.under_plainId PySem.F.plain_proto_collect _]
 show wpAny _ A.in1 (newList []>>=fun l=>PySem.again (.builtin "list.__iadd__" ⟨[l, .ref a],[]⟩)) _ _ s
 refine wpAny_bind (wpAny_newObj_type (wpAny_pure ⟨plainId_quiet PySem.F.plain_list_iadd _,codeAny_builtin PySem.F.entry_list_iadd ?_⟩))
 rw[Around.under_plainId PySem.F.plain_list_iadd _]
 show wpAny _ A.in1 (Builtin.List.listExtendWith (.ref s.heap.objs.size) (.ref a) (.ref s.heap.objs.size)) _ _ _
 unfold Builtin.List.listExtendWith
 have hD1:(s.heap.push {cls:= .type "list",data:= .seq ([]:List Value).toArray}).DictAt (dY prog w) a vs ep:=hD.push _
 have hT:Shared.TypeIs {s with heap:=s.heap.push {cls:= .type "list",data:= .seq ([]:List Value).toArray}} (.ref a) "dict":=hD1.dictOf.typeIs
 refine wpAny_bind (wpAny_typeOf hT ?_)
 have e1:Builtin.List.listSameRef (.ref s.heap.objs.size) (.ref a)=false:=by simpa [Builtin.List.listSameRef] using Nat.ne_of_gt hlt
 rw[if_neg (by rw[e1];decide)]
 refine wpAny_bind (wpAny_pyIter_dict (knd:=dY prog w) hlo hD1 ?_)
 refine wpAny_bind (wpAny_holding ?_)
 unfold Builtin.List.listLengthHint
 have hD2:((s.heap.push {cls:= .type "list",data:= .seq ([]:List Value).toArray}).push {cls:= .type "dict_keyiterator",data:= .fields #[.ref a, .int 0 0, .int vs.length 0, .int ep 0]}).DictAt (dY prog w) a vs ep:=hD1.push _
 have hT2:Shared.TypeIs {s with heap:=(s.heap.push {cls:= .type "list",data:= .seq ([]:List Value).toArray}).push {cls:= .type "dict_keyiterator",data:= .fields #[.ref a, .int 0 0, .int vs.length 0, .int ep 0]}} (.ref a) "dict":=hD2.dictOf.typeIs
 refine wpAny_bind (wpAny_specialOf hT2 SJ.ajq ?_)
 generalize hid:("dict.__len__":String)=id0
 (fail_if_success (clear hid id0))
 wp_delta
 rw[show splitId id0=some ("dict","__len__") from by subst hid;decide +kernel]
 subst hid
 refine wpAny_bind (wpAny_isInstance (b:=true) hT2 SJ.ajr ?_)
 rw[if_neg (by decide),if_pos (by decide)]
 refine wpAny_bind (wpAny_typeOf hT2 (wpAny_pure ?_))
 rw[if_pos (by decide)]
 refine wpAny_bind (wpAny_rule ?_)
 have hS1:((s.heap.push {cls:= .type "list",data:= .seq ([]:List Value).toArray}).push {cls:= .type "dict_keyiterator",data:= .fields #[.ref a, .int 0 0, .int vs.length 0, .int ep 0]}).get? s.heap.objs.size=some {cls:= .type "list",dict:=none,data:= .seq #[] 0,slots:= #[]}:=Heap.get?_push_of_some _ (Heap.get?_push_size _ rfl)
 have hsz:(s.heap.push {cls:= .type "list",data:= .seq ([]:List Value).toArray}).objs.size=s.heap.objs.size+1:=Heap.size_push _ _
 have hIt:((s.heap.push {cls:= .type "list",data:= .seq ([]:List Value).toArray}).push {cls:= .type "dict_keyiterator",data:= .fields #[.ref a, .int 0 0, .int vs.length 0, .int ep 0]}).IsKeyIter (s.heap.push {cls:= .type "list",data:= .seq ([]:List Value).toArray}).objs.size a 0 vs.length ep:=⟨_,Heap.get?_push_size _ rfl,rfl,rfl⟩
 have hk2:∀b o,s.heap.get? b=some o->((s.heap.push {cls:= .type "list",data:= .seq ([]:List Value).toArray}).push {cls:= .type "dict_keyiterator",data:= .fields #[.ref a, .int 0 0, .int vs.length 0, .int ep 0]}).get? b=some o:=fun b o z=>Heap.get?_push_of_some _ (Heap.get?_push_of_some _ z)
 have W:=Walks.dictKeys (prog:=prog) (w:=w) (A:=A.in1) (knd:=dY prog w) hh (s.heap.push {cls:= .type "list",data:= .seq ([]:List Value).toArray}).objs.size a (by rw[hsz];exact Nat.ne_of_lt (Nat.lt_succ_of_lt hlt)) vs ep
 have hSf:s.heap.objs.size∉[(s.heap.push {cls:= .type "list",data:= .seq ([]:List Value).toArray}).objs.size,a]:=fun z=>by
  rw[hsz] at z
  rcases List.mem_cons.mp z with y | y
  ·exact absurd y (Nat.ne_of_lt (Nat.lt_succ_self _))
  ·exact absurd (List.mem_singleton.mp y) (Nat.ne_of_gt hlt)
 show wpAny _ A.in1 (Builtin.List.listTouch (.ref s.heap.objs.size)>>=fun _=>PySem.again (.builtin "list.extend.loop" ⟨[.ref s.heap.objs.size, .ref (s.heap.push {cls:= .type "list",data:= .seq ([]:List Value).toArray}).objs.size, .ref s.heap.objs.size],[]⟩)) _ _ _
 generalize (s.heap.push {cls:= .type "list",data:= .seq ([]:List Value).toArray}).push {cls:= .type "dict_keyiterator",data:= .fields #[.ref a, .int 0 0, .int vs.length 0, .int ep 0]}=h2 at *
 generalize hI:(s.heap.push {cls:= .type "list",data:= .seq ([]:List Value).toArray}).objs.size=I at *
 refine wpAny_bind ?_
 show wpAny _ A.in1 (updateSeq s.heap.objs.size (·.push .none)>>=fun _=>updateSeq s.heap.objs.size (·.pop)) _ _ {s with heap:=h2}
 refine wpAny_bind (wpAny_updateSeq hS1 rfl (wpAny_updateSeq (Heap.get?_update_self (Obj.mapSeq (·.push Value.none)) hS1 rfl) rfl ?_))
 have hS3:=Heap.get?_update_self (Obj.mapSeq (·.pop)) (Heap.get?_update_self (Obj.mapSeq (·.push Value.none)) hS1 rfl) rfl
 have oth:∀b o,b≠s.heap.objs.size->h2.get? b=some o->((h2.update s.heap.objs.size (Obj.mapSeq (·.push Value.none))).update s.heap.objs.size (Obj.mapSeq (·.pop))).get? b=some o:=
  fun b o hb e=>(Heap.get?_update_other _ _ (Ne.symm hb)).trans ((Heap.get?_update_other _ _ (Ne.symm hb)).trans e)
 have Wc:=W.toS
 refine wpAny_pure ⟨plainId_quiet PySem.F.plain_extend_loop _,codeAny_extend_loopS Wc hz _ hSf _ vs.length 0 _ _ _ rfl (Nat.zero_le _) (Wc.frame 0 {s with heap:=h2} _ s.toks ⟨hIt,hD2⟩ (Nat.le_refl _) fun b hb o e=>oth b o (fun y=>hSf (y▸hb)) e) hS3 (ItemsOf.nil _) fun s3 ac c' mv hS' hit=> ?_⟩
 show wpAny _ A (load s.heap.objs.size>>=_) _ _ s3
 refine wpAny_bind (wpAny_load hS' ?_)
 obtain⟨h5,g5,d5,tk5,os5⟩:=s3
 have g1:g5=s.gens:=mv.gens
 have g2:d5=s.drawn:=mv.drawn
 have g3:os5=s.os:=mv.os
 subst g1 g2 g3
 refine wpAny_pure (q ac.toList h5 tk5 (by rw[Array.length_toList];exact hit.1) (fun i u hu=> ?_) (fun b o' z=> ?_) (Heap.lt_size hS'))
 ·rw[Array.getElem?_toList] at hu
  exact hit.2 i u hu
 ·have hbl:=Heap.lt_size z
  refine mv.heap b o' (fun y=> ?_) (oth b o' (Nat.ne_of_lt hbl) (hk2 b o' z))
  rcases List.mem_cons.mp y with y | y
  ·exact Nat.lt_irrefl _ (y▸hbl)
  ·rw[List.mem_singleton.mp y,hsz] at hbl
   exact Nat.lt_irrefl _ (Nat.lt_of_succ_lt hbl)
end
end RB
namespace L2
open PySem PySem.Spec PyProof.Rows RB
section
variable {prog:Program}{w:World}{A:Around}{E:Value->Shared->Prop}{s:Shared}{κ:PyProof.Rows.KeyKind}
theorem Qh (hO:κ.OneLt) {v:Value}{Q:Value->Shared->Prop}
 (hc:∀A',A'.handled=A.handled->wpAny (model prog w) A' (collect v) (fun vs s1=>KeysOf κ (pairsOf vs)/\(∀x y r,vs=x::y::r->keyKind' (x::y::r).toArray=pure oneType')/\vs.length<64/\
   ∀t:SortSt,(arrOf t).Perm (pairsOf vs)->SortedToK κ (arrOf t) (pairsOf vs).size->Q (.ref s1.heap.objs.size) {s1 with heap:=sortedHeap (s1.heap.push (seqObj "list" vs.toArray 0)) s1.heap.objs.size vs ((arrOf t).map (·.2))}) E s):
 wpAny (model prog w) A (call (.builtin "sorted") [v]) Q E s:=by
 refine Calls.call_function_entry kind_sorted plain_sorted entry_sorted (args_sorted1 _) ?_
 unfold Builtin.«sorted»
 refine wpAny_bind (m:=checkCount "sorted" 1 1 _) (wpAny_pure ?_)
 refine wpAny_bind (wpAny_mono (hc _ ?_) (fun vs s1 h=> ?_) fun _ _ e=>e)
 ·simp
 obtain⟨h0,hkk,hz,h⟩:=h
 refine wpAny_bind (wpAny_newList ?_)
 have hoL:(s1.heap.push (seqObj "list" vs.toArray 0)).get? s1.heap.objs.size=some (seqObj "list" vs.toArray 0):=Heap.get?_push_size _ rfl
 refine wpAny_bind (wpAny_holding (wpAny_call_entry slot_list_sort ⟨_,hoL,rfl⟩ entry_list_sort (list_sort_treeK (κ:=κ) hO hoL h0 hkk hz fun t t1 t2=>⟨_,rfl, ?_⟩) (args_list_sort _)))
 exact wpAny_pure ⟨_,rfl,h t t1 t2⟩
end
section
variable {X:Cx}{pins:List (Addr×Obj)}{σ:St}{H:Hp}{s:Shared}
theorem Qi {vs:List Value}{ss:List Str}{ts:List Str}{Q:VK}{h1:Heap}{tk:Nat} (I:Inv X pins σ H s) (hk:∀b o,s.heap.get? b=some o->h1.get? b=some o) (hsz:s.heap.objs.size<=h1.objs.size) (hS:StrsAre vs ss) (hp:ss.Perm ts) (hz:ts.length<=sizeLine)
 (q:∀(p:Addr) (us:List Str),H p=none->us.Perm ts->sortedS us=true->Q (.ref p) (upd H p (.lst (us.map V.str)))) (t:SortSt) (t1:(arrOf t).Perm (pairsOf vs)) (t2:SortedToK PyProof.Rows.strKind (arrOf t) (pairsOf vs).size):
 EP X pins σ Q (.ref h1.objs.size) {s with heap:=sortedHeap (h1.push (seqObj "list" vs.toArray 0)) h1.objs.size vs ((arrOf t).map (·.2)),toks:=tk}:=by
 obtain⟨us,u1,u2,u3⟩:=sorted_out_str hS t1 t2
 have hn:(h1.push (seqObj "list" vs.toArray 0)).get? h1.objs.size=some (seqObj "list" vs.toArray 0):=Heap.get?_push_size _ rfl
 obtain⟨e,he⟩:=sortedHeap_at (out:=(arrOf t).map (·.2)) hn
 have kk:∀b o,s.heap.get? b=some o->(sortedHeap (h1.push (seqObj "list" vs.toArray 0)) h1.objs.size vs ((arrOf t).map (·.2))).get? b=some o:=fun b o z=>by
  have hb:=Heap.lt_size (hk b o z)
  rw[sortedHeap_old (Nat.ne_of_lt hb) (by rw[Heap.size_push];exact Nat.lt_succ_of_lt hb)]
  exact Heap.get?_push_of_some _ (hk b o z)
 have hl:(us.map V.str).length<=sizeLine:=by rw[List.length_map,u2.length_eq,hp.length_eq];exact hz
 exact⟨.ref h1.objs.size,_,(I.laid (t':=tk) (o:= .lst (us.map V.str)) kk hsz ⟨hl,_,e,Gx u1,by rw[Array.toArray_toList];exact he⟩),rfl,q _ us (I.hok.fresh hsz) (u2.trans hp) u3⟩
end
section
variable {X:Cx}
theorem NP (hc:X.calm=true):sU X (.builtin "sorted") (fun xs H Q=>∃(a:Addr) (kvs:List (Key×V)) (ts:List Str),xs=[.ref a]/\Rd H a (.dK kvs)/\kvs.length<64/\kvs.map (·.1)=ts.map Sum.inr/\∀(p:Addr) (us:List Str),H p=none->us.Perm ts->sortedS us=true->Q (.ref p) (upd H p (.lst (us.map V.str)))):=by
 intro pins s σ H xs us Q I r h
 obtain⟨a,kvs,ts,rfl,ha,h64,hts,q⟩:=h
 obtain⟨u,rfl,rx⟩:=vals1 r
 cases rx
 obtain⟨hz,lo,vs,hkv,hd⟩:=DX I.hok ha
 obtain⟨ep,hat⟩:=hd.dictAt
 obtain⟨hl,hvk⟩:=Ej hkv
 have htl:ts.length=kvs.length:=by have:=congrArg List.length hts;simpa using this.symm
 refine Qh (κ:=PyProof.Rows.strKind) strKind_oneLt fun A' hA=>Xi (hA.trans (I.ok.hd hc)) lo hat (by rw[<-hl];exact hz) fun us h1 tk hul hus hk hlt=> ?_
 have hS:StrsAre us ts:=by
  refine JZ (Cj (by rw[List.length_map,hul,<-hl,htl]) fun i v hv=> ?_)
  obtain⟨k,x,hx,hkk⟩:=hus i v hv
  obtain⟨y,hy⟩:=hvk i k x hx
  have e1:(kvs.map (·.1))[i]? =some k:=by rw[List.getElem?_map,hy];rfl
  rw[hts,List.getElem?_map] at e1
  cases ht:ts[i]? with
  | none=>rw[ht] at e1;cases e1
  | some t=>
    rw[ht] at e1
    have ek:k=Sum.inr t:=(Option.some.inj e1).symm
    subst ek
    exact⟨.str t,by rw[List.getElem?_map,ht];rfl,Jm (k:=Sum.inr t) (v:=v) (show HH (Sum.inr t) v=true from hkk)⟩
 have hvl:us.length=ts.length:=by rw[hul,<-hl,htl]
 have hz':ts.length<=sizeLine:=by rw[htl];exact hz
 refine⟨hS.keysOf,fun x y r e=>keyKind_strs (by rw[<-e];exact hS),by rw[hvl,htl];exact h64,fun t t1 t2=> ?_⟩
 exact Qi I hk (Nat.le_of_lt hlt) hS (List.Perm.refl _) hz' q t t1 t2
theorem xq (hc:X.calm=true):sW X (.builtin "sorted") (fun xs H Q=>∃(a:Addr) (kvs:List (Key×V)) (ts:List Str),xs=[.ref a]/\Rd H a (.dK kvs)/\kvs.length<64/\kvs.map (·.1)=ts.map Sum.inr/\∀(p:Addr) (us:List Str),H p=none->us.Perm ts->sortedS us=true->Q (.ref p) (upd H p (.lst (us.map V.str)))):=⟨NP hc⟩
end
end L2
set_option maxRecDepth 100000
namespace L2
open PySem PySem.Spec PyProof.Rows RB
end L2
namespace RB
open PySem L2 PySem.Spec PyProof.Rows
section
variable {n:Nat}{gv gv':Kn}{rc:Rn}{kn kn':Kn}{rm rm' rm1 rm2:Rm}
end
theorem vO.get {H:Hp}{pa:Pm}:∀{as:List Addr}{xs:List Str},vO H pa as xs->∀(i:Nat) (x:Str),xs[i]? =some x->∃a,as[i]? =some a/\H a=some (.tup (Ld pa x))
 | _,_, .nil,i,x,h=>by simp at h
 | _,_, .cons (a:=a) h t,0,x,e=>by cases e;exact⟨a,rfl,h⟩
 | _,_, .cons h t,i+1,x,e=>by
   obtain⟨a,h1,h2⟩:=t.get i x (by simpa using e)
   exact⟨a,by simpa using h1,h2⟩
theorem Xj {H:Hp}{as:List Addr}{ps:List Rdp} (h:gW H as ps) {k:Nat}{p:Rdp} (e:ps[k]? =some p):∃a,as[k]? =some a/\H a=some (.tup [.str p.1, .int p.2]):=by
 have hk:k<as.length:=by rw[h.length];exact(List.getElem?_eq_some_iff.mp e).1
 obtain⟨q,h1,h2⟩:=h.get k _ (List.getElem?_eq_getElem hk)
 rw[e] at h1;cases h1
 exact⟨_,List.getElem?_eq_getElem hk,h2⟩
theorem Qj {z:Str}{cs:List Str} (h:z∈cs):inV (.str z) (cs.map V.str)=true:=by
 unfold inV
 rw[List.any_map,List.any_eq_true]
 exact⟨z,h,by show(z==z)=true;exact beq_self_eq_true z⟩
theorem MN (cs:List Str):(cs.map V.str).all yO=true:=by
 rw[List.all_map,List.all_eq_true]
 exact fun _ _=>rfl
theorem PpJ.pm {H:Hp}{kp:List (Key×V)}{gv:Kn}{rc:Rn}{rm:Rm}{kn:Kn}{ks:List Str} (h:PpJ H kp gv rc rm kn ks):∃pa:Pm,(∀x∈ks,∃b p,pa x=some (b,p))/\∀x b p,pa x=some (b,p)->x∈ks/\dH kp (.inr x)=some (.ref b)/\jQ H b p/\rK gv rc rm kn x p:=by
 have key:∀x:Str,∃o:Option (Addr×Pap),(x∈ks->∃b p,o=some (b,p))/\∀b p,o=some (b,p)->x∈ks/\dH kp (.inr x)=some (.ref b)/\jQ H b p/\rK gv rc rm kn x p:=fun x=>by
  by_cases hx:x∈ks
  ·obtain⟨b,p,h1,h2,h3⟩:=h.v x hx
   exact⟨some (b,p),fun _=>⟨b,p,rfl⟩,fun b' p' e=>by cases e;exact⟨hx,h1,h2,h3⟩⟩
  ·exact⟨none,fun z=>absurd z hx,fun _ _ e=>nomatch e⟩
 obtain⟨pa,hpa⟩:=Classical.axiomOfChoice key
 exact⟨pa,fun x hx=>(hpa x).1 hx,fun x b p e=>(hpa x).2 b p e⟩
end RB
set_option maxRecDepth 100000
namespace L2
open PySem PySem.Spec PyProof.Rows RB
def afY (H0:Hp) (t:TE):TE:=fun σ H Q=>t σ H fun x H1=>∃a o u,H1 a=some (.frz o u)/\H0 a=none/\Q x (upd H1 a u)
theorem Zy {X:Cx}{H0:Hp}{e:Expr}{t:TE} (e0:X.H₀=H0) (h:QE X e t):QE X e (afY H0 t):=⟨by
 intro pins s σ H Q I q
 subst e0
 exact thn (h.h pins s σ H _ I q) fun v s1 ⟨x,H1,I1,r,a,o,u,e1,e2,q1⟩=>⟨x,_,I1.thaw e1 e2,r,q1⟩⟩
end L2
namespace RB
open PySem L2 PySem.Spec PyProof.Rows
theorem Qk {H:Hp}{d:Addr}{o:Obj}{u u':HO} (e:H d=some (.frz o u)):jz H (upd H d u'):=fun y xs z=>(au (fun w=>by rw[w,e] at z;cases z)).trans z
theorem qm.thaw {X:List Addr}{H:Hp}{b d:Addr}{q:R×List Rdp×Int}{o:Obj}{u u':HO} (r:qm X H b q) (e:H d=some (.frz o u)):qm X (upd H d u') b q:=r.but (S:=[d]) (But.set _ (by simp)) (Qk e) (fun y hy=> .inr fun xs w=>by
 have:y=d:=by simpa using hy
 rw[this,e] at w;cases w)
theorem pF.mem {H:Hp}{ks:List (Key×V)}{n:Nat}{rm:Rm} (h:pF H ks n rm) {rs:List Str} (k:mZ ks rs) (x:Str):x∈rs ↔ rm x≠none:=by
 constructor
 ·intro hx z
  exact k.none.mp (h.w x z) hx
 ·intro hx
  cases e:rm x with
  | none=>exact absurd e hx
  | some q=>
    obtain⟨b,hb,_⟩:=h.v x q e
    refine Decidable.byContradiction fun z=> ?_
    rw[k.none.mpr z] at hb;cases hb
theorem NQ {z:Str}{cs:List Str} (h:z∉cs):inV (.str z) (cs.map V.str)=false:=by
 unfold inV
 rw[List.any_map,List.any_eq_false]
 intro y hy w
 have w:(y==z)=true:=w
 exact h (by rw[<-eq_of_beq w];exact hy)
end RB
set_option maxRecDepth 100000
namespace RB
open PySem L2 PySem.Spec PyProof.Rows
def slJ (a b:Str):Prop:=a.cps.toList<b.cps.toList
theorem NT (a:Str):¬slJ a a:=List.lt_irrefl _
theorem MP {a b c:Str} (h1:slJ a b) (h2:slJ b c):slJ a c:=List.lt_trans h1 h2
theorem Xk {a b:Str} (h:a.cps.toList=b.cps.toList):a=b:=by
 obtain⟨a⟩:=a;obtain⟨b⟩:=b
 exact congrArg Str.mk (Array.toList_inj.mp h)
theorem Zz {a b:Str} (h1:¬slJ a b) (h2:¬slJ b a):a=b:=Xk (List.le_antisymm (List.not_lt.mp h2) (List.not_lt.mp h1))
theorem RW {a b:Str} (h:¬slJ b a):a=b\/slJ a b:=by
 by_cases c:slJ a b
 ·exact .inr c
 ·exact .inl (Zz c h)
theorem Ep:∀{us vs:List Str},us.Pairwise slJ->vs.Pairwise slJ->(∀x,x∈us ↔ x∈vs)->us=vs
 |[],[],_,_,_=>rfl
 |[],v::vs,_,_,h=>absurd ((h v).mpr List.mem_cons_self) (by simp)
 | u::us,[],_,_,h=>absurd ((h u).mp List.mem_cons_self) (by simp)
 | u::us,v::vs,hu,hv,h=>by
   have hu':=List.pairwise_cons.mp hu
   have hv':=List.pairwise_cons.mp hv
   have e:u=v:=by
    rcases List.mem_cons.mp ((h u).mp List.mem_cons_self) with z | z
    ·exact z
    ·rcases List.mem_cons.mp ((h v).mpr List.mem_cons_self) with y | y
     ·exact y.symm
     ·exact absurd (MP (hu'.1 v y) (hv'.1 u z)) (NT u)
   subst e
   congr 1
   refine Ep hu'.2 hv'.2 fun x=>⟨fun z=> ?_,fun z=> ?_⟩
   ·rcases List.mem_cons.mp ((h x).mp (List.mem_cons_of_mem _ z)) with y | y
    ·subst y;exact absurd (hu'.1 x z) (NT x)
    ·exact y
   ·rcases List.mem_cons.mp ((h x).mpr (List.mem_cons_of_mem _ z)) with y | y
    ·subst y;exact absurd (hv'.1 x z) (NT x)
    ·exact y
theorem Kf:∀(l:List Str) (p:Str),risingS p l=true->(∀x∈l,¬slJ x p)/\l.Pairwise fun a b=>¬slJ b a
 |[],p,_=>⟨fun x hx=>absurd hx (by simp),List.Pairwise.nil⟩
 | y::l,p,h=>by
   have h':(!ltCps y.cps.toList p.cps.toList&&risingS y l)=true:=h
   rw[Bool.and_eq_true] at h'
   have hy:¬slJ y p:=by
    have:=h'.1
    rw[ltCps_eq] at this
    simpa [slJ] using this
   obtain⟨k1,k2⟩:=Kf l y h'.2
   refine⟨fun x hx=> ?_,List.pairwise_cons.mpr ⟨k1,k2⟩⟩
   rcases List.mem_cons.mp hx with rfl | hx
   ·exact hy
   ·intro z
    rcases RW hy with e | e
    ·rw[e] at z;exact k1 x hx z
    ·exact k1 x hx (MP z e)
theorem Kg {l:List Str} (h:sortedS l=true):l.Pairwise fun a b=>¬slJ b a:=by
 cases l with
 | nil=>exact List.Pairwise.nil
 | cons p l=>
   obtain⟨k1,k2⟩:=Kf l p h
   exact List.pairwise_cons.mpr ⟨k1,k2⟩
theorem Kh {us vs ts ws:List Str} (h1:us.Perm ts) (s1:sortedS us=true) (h2:vs.Perm ws) (s2:sortedS vs=true) (n1:ts.Nodup) (n2:ws.Nodup) (e:∀x,x∈ts ↔ x∈ws):us=vs:=by
 have hn1:us.Nodup:=h1.nodup_iff.mpr n1
 have hn2:vs.Nodup:=h2.nodup_iff.mpr n2
 refine Ep (((Kg s1).and hn1).imp fun h=> ?_) (((Kg s2).and hn2).imp fun h=> ?_) fun x=>(h1.mem_iff.trans (e x)).trans h2.mem_iff.symm
 ·rcases RW h.1 with z | z
  ·exact absurd z h.2
  ·exact z
 ·rcases RW h.1 with z | z
  ·exact absurd z h.2
  ·exact z
def Pap.word:Pap->Str
 | .given=>"given"
 | .new=>"new"
 | .rcp _ _=>"recipe"
 | .rd _ _ _=>"read"
 | .alike=>"alike"
theorem jQ.wd {H:Hp}{b:Addr}{p:Pap} (h:jQ H b p):∃vs,H b=some (.tup (.str p.word::vs)):=by
 cases h with
 | given e=>exact⟨_,e⟩
 | new e=>exact⟨_,e⟩
 | rcp e _ _ _ _ _ _=>exact⟨_,e⟩
 | rd e=>exact⟨_,e⟩
 | alike e=>exact⟨_,e⟩
def Pap.plain:Pap->Bool
 | .given=>true
 | .new=>true
 | .alike=>true
 | _=>false
theorem Xl (p q:Pap) (h:q.plain=true):dN p.dz q.dz=PyData.eqv q.dat p.dat:=by
 cases q with
 | rcp r s=>cases h
 | rd k u m=>cases h
 | given=>cases p<;>first | decide +kernel | simp[Pap.dz,Pap.dat,dN,jK,PyData.eqv,PyData.eqvAll]
 | new=>cases p<;>first | decide +kernel | simp[Pap.dz,Pap.dat,dN,jK,PyData.eqv,PyData.eqvAll]
 | alike=>cases p<;>first | decide +kernel | simp[Pap.dz,Pap.dat,dN,jK,PyData.eqv,PyData.eqvAll]
theorem Xm {n:Nat}{gv:Kn}{rc:Rn}{rm rmN:Rm}{ws:List Str}{kn:Kn}{rkn:Str->Bool} (bt:Built n gv rc rm ws kn rmN rkn) {x:Str} (hx:kn x≠none) {p:Pap} (h:rK gv rc rm kn x p):
 (p= .given/\rmN x=none)\/(p= .alike/\rmN x≠none/\rkn x=false)\/(p≠ .given/\p≠ .alike/\rmN x≠none/\rkn x=true):=by
 cases e:kn x with
 | none=>exact absurd e hx
 | some v=>
   rcases(bt.ok.a _ _ e).2 with g | ⟨g,r,ps,hr,hm⟩
   ·left
    refine⟨h.one (show rK gv rc rm kn x .given by show gv x≠none;rw[g];simp), ?_⟩
    cases z:rmN x with
    | none=>rfl
    | some q=>
      obtain⟨r,ps,u⟩:=q
      have:=(bt.ok.b _ _ _ _ z).2.1
      rw[g] at this;cases this
   ·right
    have md:=bt.md _ _ _ _ hm
    cases hk:rkn x with
    | false=>
      left
      have m3:=md.2.2
      rw[hk,if_neg (by decide)] at m3
      refine⟨h.one (show rK gv rc rm kn x .alike from⟨g,r,ps,v,m3,hr,fun j p hp=>md.2.1.s p (List.mem_of_getElem? hp)⟩),by rw[hm];simp,rfl⟩
    | true=>
      right
      have m3:=md.2.2
      rw[hk,if_pos rfl] at m3
      refine⟨fun z=> ?_,fun z=> ?_,by rw[hm];simp,rfl⟩
      ·subst z
       exact absurd g h
      ·subst z
       obtain⟨_,r',ps',v',h1,h2,h3⟩:=h
       rw[hr] at h2;cases h2
       rcases m3 _ _ _ h1 with z | ⟨p,hp,u,hu,hne⟩
       ·exact z rfl
       ·obtain⟨j,hj⟩:=List.getElem?_of_mem hp
        rw[h3 j p hj] at hu
        exact hne (Option.some.inj hu).symm
theorem Xn {n:Nat}{gv:Kn}{rc:Rn}{kn:Kn}{rmN:Rm} (ok:yz n gv rc kn rmN) {x:Str} (hx:kn x≠none) {p:Pap} (h:rK gv rc rmN kn x p):p= .given\/p= .alike:=by
 cases e:kn x with
 | none=>exact absurd e hx
 | some v=>
   rcases(ok.a _ _ e).2 with g | ⟨g,r,ps,hr,hm⟩
   ·exact .inl (h.one (show rK gv rc rmN kn x .given by show gv x≠none;rw[g];simp))
   ·exact .inr (h.one (show rK gv rc rmN kn x .alike from⟨g,r,ps,v,hm,hr,fun j p hp=>(ok.b _ _ _ _ hm).2.2.2.2.s p (List.mem_of_getElem? hp)⟩))
def abb (pa:Pm) (rm:Rm) (l:Str):Prop:=(∃b,pa l=some (b, .new))\/(∃b r s,pa l=some (b, .rcp r s))\/∃b k u m r ps v y nn b' q,pa l=some (b, .rd k u m)/\rm l=some (r,ps,v)/\ps[k]? =some (y,nn)/\pa y=some (b',q)/\(q= .given\/q= .alike)
theorem Vf {pa:Pm}{rm:Rm}{x:Str}{ys:List Str} (c:Chain pa rm x ys):(ys=[]/\∃b q,pa x=some (b,q)/\(q= .given\/q= .alike))\/((∃b q,pa x=some (b,q)/\q≠ .given/\q≠ .alike)/\∃l,ys.getLast?=some l/\abb pa rm l):=by
 induction c with
 | g h=>exact .inl ⟨rfl,_,_,h, .inl rfl⟩
 | a h=>exact .inl ⟨rfl,_,_,h, .inr rfl⟩
 | n h=>exact .inr ⟨⟨_,_,h,by simp,by simp⟩,_,rfl, .inl ⟨_,h⟩⟩
 | r h=>exact .inr ⟨⟨_,_,h,by simp,by simp⟩,_,rfl, .inr (.inl ⟨_,_,_,h⟩)⟩
 | @s x y b k u m nn r ps v ys h hr hp t ih=>
   refine .inr ⟨⟨_,_,h,by simp,by simp⟩, ?_⟩
   rcases ih with⟨z,b',q,h1,h2⟩ | ⟨_,l,h1,h2⟩
   ·subst z
    exact⟨x,rfl, .inr (.inr ⟨b,k,_,_,r,ps,v,y,_,b',q,h,hr,hp,h1,h2⟩)⟩
   ·refine⟨l, ?_,h2⟩
    cases ys with
    | nil=>cases h1
    | cons a ys=>rw[List.getLast?_cons_cons];exact h1
def Xo:Sp:=fun vs H Q _=>∃(b rb wd:Addr) (k:Nat) (u m:Int) (r:R) (ps:List Rdp) (v:Int) (y:Str) (kw:List (Key×V)) (kn:Kn),vs=[.ref b, .ref rb, .ref wd]/\jQ H b (.rd k u m)/\qm [] H rb (r,ps,v)/\H wd=some (.dK kw)/\(∀x,dH kw (.inr x)=(kn x).map V.int)/\(∀(j:Nat) p,j<k->ps[j]? =some p->kn p.1=some p.2)/\ps[k]? =some (y,u)/\kn y=some m/\m≠u/\ps.length<=100/\∀H',aM H H'->Q (.bl true) H'
def Xp:Sp:=fun vs H Q _=>∃(cl pd rcd:Addr) (as:List Addr) (ys:List Str) (kp kr:List (Key×V)) (pa:Pm) (n:Nat) (rm:Rm) (l:Str),vs=[.ref cl, .ref pd, .ref rcd]/\H cl=some (.lst (as.map V.ref))/\vO H pa as ys/\Ny H pd kp pa/\H rcd=some (.dK kr)/\pF H kr n rm/\ys.getLast?=some l/\abb pa rm l/\∀H',aM H H'->Q (.bl true) H'
end RB
set_option maxHeartbeats 4000000
namespace K34
open PySem L2 PySem.Spec PyProof.Rows RB
local macro_rules | `(tactic| walk_at "ne") => `(tactic| first | assumption | exact Ne.symm (by assumption) | exact aL (by assumption) (by assumption) | exact Ne.symm (aL (by assumption) (by assumption)))
local macro_rules | `(tactic| walk_at "heap") => `(tactic| first | assumption | exact ao | (refine (au (by walk_at "ne")).trans ?_; walk_at "heap"))
local macro_rules | `(tactic| walk_at "side") => `(tactic| first | with_reducible rfl | rfl | assumption | exact SqL.of (by walk_at "heap") | exact SqT.of (by walk_at "heap") | exact Or.inl (SqL.of (by walk_at "heap")) | exact Or.inr (SqT.of (by walk_at "heap")) | exact uN.str _ | exact uN.int _ | exact uN.bl _ | exact uN.tup (by walk_at "heap") | exact Or.inl ⟨rfl, _, SqL.of (by walk_at "heap")⟩ | exact Or.inl ⟨_, SqL.of (by walk_at "heap"), rfl⟩ | exact afZ _ | exact Or.inl (by assumption) | exact Or.inr (by assumption) | walk_at "heap" | omega | (show _ ≤ sizeLine; decide) | (show _ < sizeLine; decide) | exact Or.inr ⟨by decide, by decide⟩ | exact Or.inl ⟨by decide, by decide⟩ | exact Or.inl ⟨by omega, by omega⟩ | exact Or.inr ⟨by omega, by omega⟩ | exact ⟨by omega, by decide⟩ | exact ⟨by omega, by assumption⟩ | exact ⟨by decide, by decide, by decide⟩ | exact ⟨_, SqT.of (by walk_at "heap")⟩ | exact ⟨_, SqL.of (by walk_at "heap")⟩ | (intro z; exact absurd (show (1 : Nat) = 0 from z.1) (by decide)) | (show Nat.log2 _ < 9000; decide +kernel) | ((rw [sizeLine_eq]); (try simp only [len_app]); omega) | exact Nat.le_of_lt (bR (by (simp only [List.length_cons, List.length_nil]); omega)) | decide +kernel)
local macro_rules | `(tactic| walk_at "v") => `(tactic| first
 | ((apply Exists.intro); (repeat apply Exists.intro); (refine And.intro ?_ ?_); walk_at "side")
 | ((refine And.intro ?_ ?_); walk_at "side"))
local macro_rules | `(tactic| walk_at "vs") => `(tactic| repeat walk_at "v")
def top (i:Nat):Stmt:=PySem.Challenge.pw_madeagain_k34_whole_papers_of_builds.main.body.getD i (.Pass ⟨0,0,0,0⟩)
def zj (i j:Nat):Stmt:=match top i with
 | .ClassDef _ _ _ b _ _ _ _ _ _ _=>b.getD j (.Pass ⟨0,0,0,0⟩)
 | _=> .Pass ⟨0,0,0,0⟩
section
local macro_rules | `(tactic| walk_at "side") => `(tactic| first | exact Nr _ _ _ | exact JT _ _ _ | exact JV _ _ _ | exact aaV _ _ _ | exact Ei _ _ _ | exact Nat.le_of_ble_eq_true rfl)
variable {P:Program}{w:World}{K:PySem.W.Frag}{mg:Str->Option Value}{base:Heap}{C:Addr}
abbrev mz:Stmt:=top 5
theorem Vg:bH ["kind","r","s"] ["kind","r","s"] (aa mz):=⟨rfl,rfl,rfl,by decide +kernel,rfl,by decide +kernel,by decide +kernel⟩
theorem tu:aG (aa mz) "kind":=by decide +kernel
theorem uB:aG (aa mz) "r":=by decide +kernel
theorem uC:aG (aa mz) "s":=by decide +kernel
theorem Lf:(aa mz).names.lookup ("max":Str)=some NameKind.globalImplicit:=by decide +kernel
theorem Lg:("max":Str)≠"__name__":=by decide +kernel
theorem Lh:(("max":Str)==("__debug__":Str))=false:=by decide +kernel
theorem Vh {f:Addr}{fd:FuncData} (qL:FnT K mg "joined" mz ["kind","r","s"] f fd) (T:Blt mg):bf P w K mg base CX0 1 f fd ["kind","r","s"] Tz:=by
 refine qL.F.okQ Vg (fun vs H Q E h=> ?_) (fun cdv A outer s H vs Q E hr h=> ?_)
 ·obtain⟨op,u,v,rfl,_⟩:=h
  rfl
 obtain⟨op,u,v,rfl,hm,q⟩:=h
 refine⟨_,(az (cJ (bT dR (aj 0 tu) aZ (aO _)) (aF (aW (cO jR (aj 1 uB) (aj 2 uC)))) bF)
  (az (cJ (bT dR (aj 0 tu) aZ (aO _)) (aF (aW (cO pq (aj 1 uB) (aj 2 uC)))) bF)
  (az (cJ (bT dR (aj 0 tu) aZ (aO _)) (aF (aW (cO rW (aj 1 uB) (aj 2 uC)))) bF)
  (aF (aW (dm (Tu rfl) Lf T.aaR Wi (aH (aj 1 uB) (aH (aj 2 uC) aA)) Lg Lh)))))), ?_⟩
 cases op with
 | plus=>walk_at "vs";exact q
 | minus=>walk_at "vs";exact q
 | times=>
   have hm:=hm rfl
   walk_at "vs";exact q
 | most=>walk_at "vs";exact q
abbrev cN:Stmt:=zj 6 0
theorem yC:bH ["self","r"] ["self","r"] (aa cN):=⟨rfl,rfl,rfl,by decide +kernel,rfl,by decide +kernel,by decide +kernel⟩
theorem je:aG (aa cN) "self":=by decide +kernel
theorem vQ:aG (aa cN) "r":=by decide +kernel
theorem yD {f:Addr}{fd:FuncData} (fU:iw K C "__init__" "Reckoning.__init__" cN ["self","r"] f fd) (rc:RkC K C):bf P w K mg base CX0 1 f fd ["self","r"] (Pn C):=by
 refine fU.F.okQ yC (fun vs H Q E h=> ?_) (fun cdv A outer s H vs Q E hr h=> ?_)
 ·obtain⟨a,dx,b,r,rfl,_⟩:=h
  rfl
 obtain⟨a,dx,b,r,rfl,e,hR,hw,q⟩:=h
 have oO:=rc.cl
 have nT:=rc.nT
 have nF:=rc.nF
 have nR:=rc.nR
 refine⟨_,(az (nC (aj 0 je) (eG (aH (aj 1 vQ) aA)))
  (az (nC (aj 0 je) (eG aA))
  (aF (nC (aj 0 je) nU)))), ?_⟩
 walk_at "vs"
 intro a1 h1
 have e1:upd H a1 (.lst [V.ref b]) a=some (.ins C dx []):=(au (aL e h1)).trans e
 walk_at "vs"
 intro a2 h2
 obtain⟨n2a,h2⟩:=eX h2
 obtain⟨n21,h2⟩:=eX h2
 have e2:upd (upd (upd H a1 (.lst [V.ref b])) a (.ins C dx (bx "todo" (.ref a1) []))) a2 (.lst []) a=some (.ins C dx (bx "todo" (.ref a1) [])):=(au (Ne.symm n2a)).trans ao
 walk_at "vs"
 intro a3 h3
 obtain⟨n3a,h3⟩:=eX h3
 obtain⟨n32,h3⟩:=eX h3
 obtain⟨_,h3⟩:=eX h3
 obtain⟨n31,h3⟩:=eX h3
 have e3:upd (upd (upd (upd (upd H a1 (.lst [V.ref b])) a (.ins C dx (bx "todo" (.ref a1) []))) a2 (.lst [])) a (.ins C dx (bx "found" (.ref a2) (bx "todo" (.ref a1) [])))) a3 (.dK []) a=some (.ins C dx (bx "found" (.ref a2) (bx "todo" (.ref a1) []))):=(au (Ne.symm n3a)).trans ao
 walk_at "vs"
 have n1a:a1≠a:=fun z=>by rw[z,e] at h1;cases h1
 refine q a1 a2 a3 _ (fun p o hp z=> ?_) h1 h2 h3 ⟨ao,⟨[.ref b], ?_, .cons (.r ?_) .nil⟩, ?_, ?_,Ne.symm n21, ?_⟩
 ·have hp:p≠a:=by simpa using hp
  rw[au hp,au (aL z h3),au hp,au (aL z h2),au hp,au (aL z h1)];exact z
 ·rw[au n1a,au (Ne.symm n31),au n1a,au (Ne.symm n21),au n1a];exact ao
 ·refine hR.tups fun p xs z=> ?_
  have hp:p≠a:=fun y=>by rw[y,e] at z;cases z
  rw[au hp,au (aL z h3),au hp,au (aL z h2),au hp,au (aL z h1)];exact z
 ·rw[au n2a,au (Ne.symm n32),au n2a];exact ao
 ·rw[au n3a];exact ao
 ·show 0+0+2 *(wR r+0)<=10000;omega
abbrev aU:Stmt:=zj 6 2
theorem jf:bH ["self","step","kind","names","s","r"] ["self","step"] (aa aU):=⟨rfl,rfl,rfl,by decide +kernel,rfl,by decide +kernel,by decide +kernel⟩
theorem vR:Loc (aa aU) "kind":=by decide +kernel
theorem aV:aG (aa aU) "step":=by decide +kernel
theorem cU:aG (aa aU) "kind":=by decide +kernel
theorem bC:aG (aa aU) "self":=by decide +kernel
theorem uV:Loc (aa aU) "names":=by decide +kernel
theorem nW:aG (aa aU) "names":=by decide +kernel
theorem xr:(aa aU).names.lookup ("len":Str)=some NameKind.globalImplicit:=by decide +kernel
theorem xu:("len":Str)≠"__name__":=by decide +kernel
theorem xx:(("len":Str)==("__debug__":Str))=false:=by decide +kernel
theorem zm:Loc (aa aU) "s":=by decide +kernel
theorem zp:Loc (aa aU) "r":=by decide +kernel
theorem um:(aa aU).names.lookup ("joined":Str)=some NameKind.globalImplicit:=by decide +kernel
theorem zq:aG (aa aU) "s":=by decide +kernel
theorem zu:aG (aa aU) "r":=by decide +kernel
theorem uo:(("joined":Str)==("__debug__":Str))=false:=by decide +kernel
theorem Cm {f g:Addr}{fd gd:FuncData} (gb:iw K C "go_on" "Reckoning.go_on" aU ["self","step"] f fd) (qL:FnT K mg "joined" mz ["kind","r","s"] g gd) (Xq:bf P w K mg base CX0 1 g gd ["kind","r","s"] Tz)
 (T:Blt mg) (rc:RkC K C):bf P w K mg base CX0 2 f fd ["self","step"] (afM C):=by
 refine gb.F.okQ jf (fun vs H Q E h=> ?_) (fun cdv A outer s H vs Q E hr h=> ?_)
 ·obtain⟨a,dx,a1,a2,a3,v,s,t,f,d,kn,c,rfl,_⟩:=h
  rfl
 obtain⟨a,dx,a1,a2,a3,v,st,t,fo,d,kn,c,rfl,rca,hst,hno,h1,hw,q⟩:=h
 have oO:=rc.cl
 have nT:=rc.nT
 have nF:=rc.nF
 have nR:=rc.nR
 have n13:=rca.n13
 have n23:=rca.n23
 obtain⟨e,⟨ws,e1,hws⟩,e2,e3,ne,hw0⟩:=id rca
 have e2:H a2=some (.lst (fo.map V.int)):=e2
 have e3:H a3=some (.dK (rdK d)):=e3
 refine⟨_,(az (bB (i:=2) jf.nd rfl vR (aN aK (aj 1 aV) aB))
  (aF (cJ (bT dR (aj 2 cU) aZ (aO _)) (aF (fY (uz PySem.F.plainAttrs_list PySem.F.slot_list_append PySem.F.type_list_append jb (bW (aj 0 bC)) (jc (aN aK (aj 1 aV) aB) aA)))) (aF (cJ (bT dR (aj 2 cU) aZ (aO _)) (aF (fY (uz PySem.F.plainAttrs_list PySem.F.slot_list_extend PySem.F.type_list_extend Ce (bW (aj 0 bC)) (acN (eG (Lb (gC (dZ aZ (jc (aN aK (aj 1 aV) aB) (jc (aN aK (aj 1 aV) aB) aA)))) (jc (aN aK (aj 1 aV) aB) aA))) aA)))) (aF (cJ (bT dR (aj 2 cU) aZ (aO _)) (aF (fY (uz PySem.F.plainAttrs_list PySem.F.slot_list_extend PySem.F.type_list_extend Ce (bW (aj 0 bC)) (acN (eG (Lb (gC (dZ aZ (jc (aN aK (aj 1 aV) aB) aA))) (jc (aN aK (aj 1 aV) aB) aA))) aA)))) (aF (cJ (bT dR (aj 2 cU) aZ (aO _)) (aF (fY (uz PySem.F.plainAttrs_list PySem.F.slot_list_append PySem.F.type_list_append jb (bW (aj 0 bC)) (ajn (Wk (bT Ru (Gq PySem.F.plainAttrs_list PySem.F.slot_list_pop PySem.F.type_list_pop Am (bW (aj 0 bC))) aB (aO _)) (aN aK (aj 1 aV) aB) (aN aK (aj 1 aV) aB)) aA)))) (aF (cJ (bT dR (aj 2 cU) aZ (aO _)) (az (bB (i:=3) jf.nd rfl uV (aN aK (aj 1 aV) aB))
  (aF (fY (uz PySem.F.plainAttrs_list PySem.F.slot_list_append PySem.F.type_list_append jb (bW (aj 0 bC)) (Lb (gC (dZ aZ (jc (aN aK (aj 3 nW) (cO oM (Gq PySem.F.plainAttrs_list PySem.F.slot_list_pop PySem.F.type_list_pop Am (bW (aj 0 bC))) (dm kZ xr T.ym rA (aH (aj 3 nW) aA) xu xx))) aA))) aA))))) (aF (cJ (bT dR (aj 2 cU) aZ (aO _)) (az (bB (i:=4) jf.nd rfl zm (Gq PySem.F.plainAttrs_list PySem.F.slot_list_pop PySem.F.type_list_pop Am (bW (aj 0 bC))))
  (az (bB (i:=5) jf.nd rfl zp (Gq PySem.F.plainAttrs_list PySem.F.slot_list_pop PySem.F.type_list_pop Am (bW (aj 0 bC))))
  (aF (fY (uz PySem.F.plainAttrs_list PySem.F.slot_list_append PySem.F.type_list_append jb (bW (aj 0 bC)) (uQ (aJ (Xq.mono (by omega)) hr um qL.m qL.F.kp qL.b .nil aY (jc (aN aK (aj 1 aV) aB) (aH (aj 5 zu) (aH (aj 4 zq) aA))) uo) aA)))))) (aF (fY (uz PySem.F.plainAttrs_list PySem.F.slot_list_extend PySem.F.type_list_extend Ce (bW (aj 0 bC)) (acN (eG (Lb (gC (dZ aZ (aH (aj 2 cU) aA))) (jc (aN aK (aj 1 aV) aB) (jc (aN aK (aj 1 aV) aB) aA)))) aA))))))))))))))))), ?_⟩
 have hi:=h1.inv _ _ rfl
 have hlw:ws.length=t.length:=hws.length
 have hlt:=RJ t
 have hw1:d.length+fo.length+2 * wT t<=10000:=hw0
 cases hst with
 | @r b r hr'=>
   cases hr' with
   | @num _ n eb=>
     have hi:c=⟨t,fo++[n],d⟩:=hi
     have hz:(fo.map V.int).length<sizeLine:=by rw[List.length_map,sizeLine_eq];omega
     subst hi
     walk_at "vs"
     have b:But [a1,a2,a3] H (upd H a2 (.lst (fo.map V.int++[V.int n]))):=But.set _ (by simp)
     exact q _ b (rca.next b ((au ne).trans e1) (hws.tups (rca.lists b)) (by rw[ao,List.map_append];rfl) ((au (Ne.symm n23)).trans e3) hw)
   | rd eb=>exact absurd rfl (hno _)
   | @bin _ x y op ra rb eb hx hy=>
     have hi:c=⟨t++[.join op, .r rb, .r ra],fo,d⟩:=hi
     subst hi
     have hz:∀p:Addr,ws.length+[V.ref p,V.ref y,V.ref x].length<=sizeLine:=fun p=>by rw[sizeLine_eq];show ws.length+3<=_;omega
     have amX:atI [V.str op.word,V.ref x,V.ref y] 0=some (.str op.word):=iT (j:=0) rfl
     have amY:atI [V.str op.word,V.ref x,V.ref y] 1=some (.ref x):=iT (j:=1) rfl
     have ajs:atI [V.str op.word,V.ref x,V.ref y] 2=some (.ref y):=iT (j:=2) rfl
     have fin:∀p1 p2,H p1=none->upd H p1 (.tup [V.str "join",V.str op.word]) p2=none->Q .non (upd (upd (upd H p1 (.tup [V.str "join",V.str op.word])) p2 (.lst [V.ref p1,V.ref y,V.ref x])) a1 (.lst (ws++[V.ref p1,V.ref y,V.ref x]))):=fun p1 p2 h1 h2=>by
      have b:But [a1,a2,a3] H (upd (upd (upd H p1 (.tup [V.str "join",V.str op.word])) p2 (.lst [V.ref p1,V.ref y,V.ref x])) a1 (.lst (ws++[V.ref p1,V.ref y,V.ref x]))):=(But.new _ h1).trans ((But.new _ h2).trans (But.set _ (by simp)))
      have tp:=rca.lists b
      have n1:p1≠a1:=fun z=>by rw[z,e1] at h1;cases h1
      have n2:p1≠p2:=fun z=>by rw[<-z,ao] at h2;cases h2
      have h2':=(eX h2).2
      refine q _ b (rca.next b ao ((hws.tups tp).app (.cons (.join ?_) (.cons (.r (hy.tups tp)) (.cons (.r (hx.tups tp)) .nil)))) ?_ ?_ hw)
      ·rw[au n1,au n2];exact ao
      ·rw[au (Ne.symm ne),au (aL e2 h2'),au (aL e2 h1)];exact e2
      ·rw[au (Ne.symm n13),au (aL e3 h2'),au (aL e3 h1)];exact e3
     have ex1:∀p1,H p1=none->upd H p1 (.tup [V.str "join",V.str op.word]) a1=some (.lst ws):=fun p1 h1=>(au (aL e1 h1)).trans e1
     have ex2:∀p1 p2,H p1=none->upd H p1 (.tup [V.str "join",V.str op.word]) p2=none->upd (upd H p1 (.tup [V.str "join",V.str op.word])) p2 (.lst [V.ref p1,V.ref y,V.ref x]) a1=some (.lst ws):=fun p1 p2 h1 h2=>(au (aL (ex1 p1 h1) h2)).trans (ex1 p1 h1)
     have ez:∀p1,H p1=none->upd H p1 (.tup [V.str "join",V.str op.word]) b=some (.tup [V.str op.word,V.ref x,V.ref y]):=fun p1 h1=>(au (aL eb h1)).trans eb
     cases op with
     | plus=>
       walk_at "vs"
       intro p1 h1
       have ez1:=ez p1 h1
       walk_at "vs"
       intro p2 h2
       have ex:=ex2 p1 p2 h1 h2
       have hz1:=hz p1
       walk_at "vs"
       exact fin p1 p2 h1 h2
     | minus=>
       walk_at "vs"
       intro p1 h1
       have ez1:=ez p1 h1
       walk_at "vs"
       intro p2 h2
       have ex:=ex2 p1 p2 h1 h2
       have hz1:=hz p1
       walk_at "vs"
       exact fin p1 p2 h1 h2
     | times=>
       walk_at "vs"
       intro p1 h1
       have ez1:=ez p1 h1
       walk_at "vs"
       intro p2 h2
       have ex:=ex2 p1 p2 h1 h2
       have hz1:=hz p1
       walk_at "vs"
       exact fin p1 p2 h1 h2
     | most=>
       walk_at "vs"
       intro p1 h1
       have ez1:=ez p1 h1
       walk_at "vs"
       intro p2 h2
       have ex:=ex2 p1 p2 h1 h2
       have hz1:=hz p1
       walk_at "vs"
       exact fin p1 p2 h1 h2
   | @pick _ x y z ra rb rc eb hx hy hz0=>
     have hi:c=⟨t++[.branch rb rc, .r ra],fo,d⟩:=hi
     subst hi
     have hz:∀p:Addr,ws.length+[V.ref p,V.ref x].length<=sizeLine:=fun p=>by rw[sizeLine_eq];show ws.length+2<=_;omega
     walk_at "vs"
     intro p1 h1
     have ez1:upd H p1 (.tup [V.str "branch",V.ref y,V.ref z]) b=some (.tup [V.str "pick",V.ref x,V.ref y,V.ref z]):=(au (aL eb h1)).trans eb
     walk_at "vs"
     intro p2 h2
     have ex:upd (upd H p1 (.tup [V.str "branch",V.ref y,V.ref z])) p2 (.lst [V.ref p1,V.ref x]) a1=some (.lst ws):=(au (aL e1 (eX h2).2)).trans ((au (aL e1 h1)).trans e1)
     have hz1:=hz p1
     walk_at "vs"
     have b:But [a1,a2,a3] H (upd (upd (upd H p1 (.tup [V.str "branch",V.ref y,V.ref z])) p2 (.lst [V.ref p1,V.ref x])) a1 (.lst (ws++[V.ref p1,V.ref x]))):=(But.new _ h1).trans ((But.new _ h2).trans (But.set _ (by simp)))
     have tp:=rca.lists b
     have n1:p1≠a1:=fun z=>by rw[z,e1] at h1;cases h1
     have n2:p1≠p2:=fun z=>by rw[<-z,ao] at h2;cases h2
     have h2':=(eX h2).2
     refine q _ b (rca.next b ao ((hws.tups tp).app (.cons (.branch (by rw[au n1,au n2];exact ao) (hy.tups tp) (hz0.tups tp)) (.cons (.r (hx.tups tp)) .nil))) ?_ ?_ hw)
     ·rw[au (Ne.symm ne),au (aL e2 h2'),au (aL e2 h1)];exact e2
     ·rw[au (Ne.symm n13),au (aL e3 h2'),au (aL e3 h1)];exact e3
   | @cho _ x y ra ns eb hx hy=>
     have hi:c=⟨t++[.among ns, .r ra],fo,d⟩:=hi
     subst hi
     have hz:∀p:Addr,ws.length+[V.ref p,V.ref x].length<=sizeLine:=fun p=>by rw[sizeLine_eq];show ws.length+2<=_;omega
     walk_at "vs"
     intro p1 h1
     have ez1:upd H p1 (.tup [V.str "among",V.ref y]) b=some (.tup [V.str "choose",V.ref x,V.ref y]):=(au (aL eb h1)).trans eb
     walk_at "vs"
     intro p2 h2
     have ex:upd (upd H p1 (.tup [V.str "among",V.ref y])) p2 (.lst [V.ref p1,V.ref x]) a1=some (.lst ws):=(au (aL e1 (eX h2).2)).trans ((au (aL e1 h1)).trans e1)
     have hz1:=hz p1
     walk_at "vs"
     have b:But [a1,a2,a3] H (upd (upd (upd H p1 (.tup [V.str "among",V.ref y])) p2 (.lst [V.ref p1,V.ref x])) a1 (.lst (ws++[V.ref p1,V.ref x]))):=(But.new _ h1).trans ((But.new _ h2).trans (But.set _ (by simp)))
     have tp:=rca.lists b
     have n1:p1≠a1:=fun z=>by rw[z,e1] at h1;cases h1
     have n2:p1≠p2:=fun z=>by rw[<-z,ao] at h2;cases h2
     have h2':=(eX h2).2
     refine q _ b (rca.next b ao ((hws.tups tp).app (.cons (.among (by rw[au n1,au n2];exact ao) (tp _ _ hy)) (.cons (.r (hx.tups tp)) .nil))) ?_ ?_ hw)
     ·rw[au (Ne.symm ne),au (aL e2 h2'),au (aL e2 h1)];exact e2
     ·rw[au (Ne.symm n13),au (aL e3 h2'),au (aL e3 h1)];exact e3
 | @branch b x y ra rb eb hx hy=>
   obtain⟨g,v,hf,hi⟩:=hi
   have hf:fo=g++[v]:=hf
   subst hf
   subst hi
   have hl:((g++[v]).map V.int)[((g++[v]).map V.int).length - 1]? =some (.int v):=by rw[List.map_append,List.length_append];exact List.getElem?_concat_length
   have hd:((g++[v]).map V.int).dropLast=g.map V.int:=by rw[List.map_append];exact List.dropLast_concat
   have hz:ws.length<sizeLine:=by rw[sizeLine_eq];omega
   walk_at "vs"
   rw[hd]
   have nb:b≠a2:=fun z=>by rw[z,e2] at eb;cases eb
   have eb1:upd H a2 (.lst (g.map V.int)) b=some (.tup [V.str "branch",V.ref x,V.ref y]):=(au nb).trans eb
   have e11:upd H a2 (.lst (g.map V.int)) a1=some (.lst ws):=(au ne).trans e1
   have fin:∀(z:Addr) (rz:R),IsR H z rz->rz=(if v>0 then ra else rb)->Q .non (upd (upd H a2 (.lst (g.map V.int))) a1 (.lst (ws++[V.ref z]))):=fun z rz hz1 hz2=>by
    subst hz2
    have b:But [a1,a2,a3] H (upd (upd H a2 (.lst (g.map V.int))) a1 (.lst (ws++[V.ref z]))):=(But.set _ (by simp)).trans (But.set _ (by simp))
    have tp:=rca.lists b
    exact q _ b (rca.next b ao ((hws.tups tp).app (.cons (.r (hz1.tups tp)) .nil)) ((au (Ne.symm ne)).trans ao) ((au (Ne.symm n13)).trans ((au (Ne.symm n23)).trans e3)) hw)
   by_cases hv:0<v
   ·refine afD hv ?_
    walk_at "vs"
    exact fin x ra hx (if_pos hv).symm
   ·refine afE hv ?_
    walk_at "vs"
    exact fin y rb hy (if_neg hv).symm
 | @among b x ns eb hx=>
   obtain⟨g,v,y,hf,hy,hi⟩:=hi
   have hf:fo=g++[v]:=hf
   subst hf
   subst hi
   have hl:((g++[v]).map V.int)[((g++[v]).map V.int).length - 1]? =some (.int v):=by rw[List.map_append,List.length_append];exact List.getElem?_concat_length
   have hd:((g++[v]).map V.int).dropLast=g.map V.int:=by rw[List.map_append];exact List.dropLast_concat
   have hz:ws.length<sizeLine:=by rw[sizeLine_eq];omega
   have hln:(ns.map V.str).length=ns.length:=List.length_map _
   have hpos:0<((ns.map V.str).length:Int):=by
    rw[hln]
    cases ns with
    | nil=>simp[yo] at hy
    | cons n ns=>simp only[List.length_cons];omega
   have hat:atI (ns.map V.str) (v % ((ns.map V.str).length:Int))=some (.str y):=by
    rw[hln] at hpos ⊢
    have z0:=Int.emod_nonneg v (show(ns.length:Int)≠0 by omega)
    obtain⟨k,hk⟩:=Int.eq_ofNat_of_zero_le z0
    unfold yo at hy
    rw[hk] at hy ⊢
    exact iT (by rw[List.getElem?_map,show ns[k]? =some y from hy];rfl)
   have nx:x≠a2:=fun z=>by rw[z,e2] at hx;cases hx
   have ex1:upd H a2 (.lst (((g++[v]).map V.int).dropLast)) x=some (.tup (ns.map V.str)):=(au nx).trans hx
   have e11:upd H a2 (.lst (((g++[v]).map V.int).dropLast)) a1=some (.lst ws):=(au ne).trans e1
   walk_at "vs"
   intro p1 h1
   have e12:upd (upd H a2 (.lst (((g++[v]).map V.int).dropLast))) p1 (.tup [V.str "read",V.str y]) a1=some (.lst ws):=(au (aL e11 h1)).trans e11
   walk_at "vs"
   have n1:p1≠a1:=fun z=>by rw[z,e11] at h1;cases h1
   obtain⟨n2,h1'⟩:=eX h1
   have b:But [a1,a2,a3] H (upd (upd (upd H a2 (.lst (((g++[v]).map V.int).dropLast))) p1 (.tup [V.str "read",V.str y])) a1 (.lst (ws++[V.ref p1]))):=(But.set _ (by simp)).trans ((But.new _ h1).trans (But.set _ (by simp)))
   have tp:=rca.lists b
   refine q _ b (rca.next b ao ((hws.tups tp).app (.cons (.r (.rd ((au n1).trans ao))) .nil)) ?_ ?_ hw)
   ·rw[au (Ne.symm ne),au (Ne.symm n2),ao,hd]
   ·rw[au (Ne.symm n13),au (aL e3 h1'),au (Ne.symm n23)];exact e3
 | @join b op eb=>
   obtain⟨g,u,v,hf,hm,hi⟩:=hi
   have hf:fo=g++[u,v]:=hf
   subst hf
   subst hi
   have hl:((g++[u,v]).map V.int)[((g++[u,v]).map V.int).length - 1]? =some (.int v):=by simp
   have hd:((g++[u,v]).map V.int).dropLast=(g++[u]).map V.int:=by simp
   have hl2:((g++[u]).map V.int)[((g++[u]).map V.int).length - 1]? =some (.int u):=by simp
   have hd2:((g++[u]).map V.int).dropLast=g.map V.int:=by simp
   have hz:(g.map V.int).length<sizeLine:=by
    rw[List.length_map,sizeLine_eq]
    have:(g++[u,v]).length=g.length+2:=by rw[List.length_append];rfl
    omega
   have nb:b≠a2:=fun z=>by rw[z,e2] at eb;cases eb
   have na2:a≠a2:=fun z=>rca.ins (by simp[z])
   have hl3:(((g++[u,v]).map V.int).dropLast)[(((g++[u,v]).map V.int).dropLast).length - 1]? =some (.int u):=by rw[hd];exact hl2
   have hd3:(((g++[u,v]).map V.int).dropLast).dropLast=g.map V.int:=by rw[hd];exact hd2
   have hz3:((((g++[u,v]).map V.int).dropLast).dropLast).length<sizeLine:=by rw[hd3];exact hz
   walk_at "vs"
   have b:But [a1,a2,a3] H (upd H a2 (.lst (g.map V.int++[V.int (op.ap u v)]))):=But.set _ (by simp)
   have q1:=q _ b (rca.next b ((au ne).trans e1) (hws.tups (rca.lists b)) (by rw[ao,List.map_append];rfl) ((au (Ne.symm n23)).trans e3) hw)
   have eq:upd (upd (upd H a2 (.lst (((g++[u,v]).map V.int).dropLast))) a2 (.lst ((((g++[u,v]).map V.int).dropLast).dropLast))) a2 (.lst ((((g++[u,v]).map V.int).dropLast).dropLast++[V.int (op.ap u v)]))=upd H a2 (.lst (g.map V.int++[V.int (op.ap u v)])):=by rw[wU,wU,hd3]
   show Q .non (upd (upd (upd H a2 (.lst (((g++[u,v]).map V.int).dropLast))) a2 (.lst ((((g++[u,v]).map V.int).dropLast).dropLast))) a2 (.lst ((((g++[u,v]).map V.int).dropLast).dropLast++[V.int (op.ap u v)])))
   rw[eq]
   exact q1
end
section
local macro_rules | `(tactic| walk_at "side") => `(tactic| first | exact Nr _ _ _ | exact JT _ _ _ | exact JV _ _ _ | exact aaV _ _ _ | exact Ei _ _ _ | exact Nat.le_of_ble_eq_true rfl)
variable {P:Program}{w:World}{K:PySem.W.Frag}{mg:Str->Option Value}{base:Heap}{C:Addr}
abbrev cz:Stmt:=zj 6 1
theorem qM:bH ["self","known","step"] ["self","known"] (aa cz):=⟨rfl,rfl,rfl,by decide +kernel,rfl,by decide +kernel,by decide +kernel⟩
theorem dB:aG (aa cz) "self":=by decide +kernel
theorem uq:Loc (aa cz) "step":=by decide +kernel
theorem cg:aG (aa cz) "step":=by decide +kernel
theorem jg:aG (aa cz) "known":=by decide +kernel
theorem zx {f g:Addr}{fd gd:FuncData} (eY:iw K C "lacking" "Reckoning.lacking" cz ["self","known"] f fd) (gb:iw K C "go_on" "Reckoning.go_on" aU ["self","step"] g gd) (Er:bf P w K mg base CX0 2 g gd ["self","step"] (afM C))
 (T:Blt mg) (rc:RkC K C):bf P w K mg base CX0 3 f fd ["self","known"] (WK C):=by
 refine eY.F.okQ qM (fun vs H Q E h=> ?_) (fun cdv A outer s H vs Q E hr h=> ?_)
 ·obtain⟨a,dx,a1,a2,a3,d,kn,n,c,c',rfl,_⟩:=h
  rfl
 obtain⟨a,dx,a1,a2,a3,dd,kn,n0,c0,c',rfl,ac8,⟨kvs,ed,hkn⟩,nd3,hn0,hhalt,q⟩:=h
 have oO:=rc.cl
 have nT:=rc.nT
 have nF:=rc.nF
 have nR:=rc.nR
 have hdS:dd∉[a1,a2,a3]:=fun z=>by
  obtain⟨ws,e1,_⟩:=ac8.e1
  have z:dd=a1\/dd=a2\/dd=a3:=by simpa using z
  rcases z with z | z | z
  ·rw[z,e1] at ed;cases ed
  ·rw[z,ac8.e2] at ed;cases ed
  ·exact nd3 z
 refine⟨_,(az (Ec PassesOwn.never (Jz (bW (aj 0 dB))) (az (bB (i:=2) qM.nd rfl uq (Gq PySem.F.plainAttrs_list PySem.F.slot_list_pop PySem.F.type_list_pop Am (bW (aj 0 dB))))
  (aF (cJ (bT rB (aN aK (aj 2 cg) aB) aZ (aO _)) (aF (fY (rY (aj 0 dB) oO gb.m (Er.mono (by omega)) hr gb.b .nil aY (aH (aj 2 cg) aA)))) (aF (cJ (uU (bO hr) (aN aK (aj 2 cg) aB) (aj 1 jg)) (az (gQ (bO hr) (bW (aj 0 dB)) (aN aK (aj 2 cg) aB) (cY (bO hr) (aj 1 jg) (aN aK (aj 2 cg) aB)))
  (aF (fY (uz PySem.F.plainAttrs_list PySem.F.slot_list_append PySem.F.type_list_append jb (bW (aj 0 dB)) (jc (cY (bO hr) (aj 1 jg) (aN aK (aj 2 cg) aB)) aA))))) (az (fY (uz PySem.F.plainAttrs_list PySem.F.slot_list_append PySem.F.type_list_append jb (bW (aj 0 dB)) (aH (aj 2 cg) aA)))
  (aF (aW (aN aK (aj 2 cg) aB))))))))))
  (aF (aW Rq))), ?_⟩
 refine⟨fun n σ H'=>∃c t,σ=[some (.ref a),some (.ref dd),t]/\But [a1,a2,a3] H H'/\RcAt H' a C dx a1 a2 a3 c/\StN kn n c c',
  ⟨n0,c0,none,rfl,But.refl _ _,ac8,hn0⟩, ?_⟩
 rintro n σ H1 ⟨c,t0,rfl,b1,rca,hst⟩
 have n13:=rca.n13
 have n23:=rca.n23
 have na:a∉[a1,a2,a3]:=rca.ins
 have na1:a≠a1:=fun z=>na (by simp[z])
 have na2:a≠a2:=fun z=>na (by simp[z])
 have na3:a≠a3:=fun z=>na (by simp[z])
 obtain⟨e,⟨ws,e1,hws⟩,e2,e3,ne,hw0⟩:=id rca
 have ed1:=b1 _ _ hdS ed
 rcases List.eq_nil_or_concat c.todo with hnil | ⟨t,st,hs⟩
 ·rw[hnil] at hws
  cases hws
  have ec:=hst.halt (.inl hnil)
  subst ec
  walk_at "vs"
  exact(q H1 b1 rca).1 hnil
 ·rw[List.concat_eq_append] at hs
  rw[hs] at hws
  obtain⟨us,v,rfl,hus,hv⟩:=hws.snoc
  have hlu:=hus.length
  have hlt:=RJ t
  have hw1:c.rds.length+c.found.length+2 * wT (t++[st])<=10000:=by have:=hw0;unfold Cf.w at this;rw[hs] at this;exact this
  rw[pB] at hw1
  have hl:(us++[v])[(us++[v]).length - 1]? =some v:=by simp
  have hd:(us++[v]).dropLast=us:=List.dropLast_concat
  have hne:(us++[v]).isEmpty=false:=by simp
  have hz:us.length<sizeLine:=by rw[sizeLine_eq];omega
  refine⟨_,rfl,a,C,dx,_, .ref a1,rfl,e,oO,nT,Nr _ _ _,true, .inl ⟨us++[v],SqL.of e1,by simp⟩, ?_⟩
  refine(if_pos (rfl:true=true)).mpr ?_
  cases hst with
  | zero=>
    rcases hhalt with h | ⟨t',x,h,hx⟩
    ·rw[hs] at h;simp at h
    ·rw[hs] at h
     obtain⟨rfl,rfl⟩:=lM h
     refine⟨fun _ _=>False,fun _ _ z=>z.elim, ?_⟩
     cases hv with
     | @r p _ hr'=>
     cases hr' with
     | rd ep=>
     have np:p≠a1:=fun z=>by rw[z,e1] at ep;cases ep
     have nda:dd≠a1:=fun z=>hdS (by simp[z])
     have g1:bK (upd H1 a1 (.lst (us++[V.ref p]).dropLast)) dd (.str x) none:=by
      have:=bK.k (H:=upd H1 a1 (.lst (us++[V.ref p]).dropLast)) (k:= .inr x) ((au nda).trans ed1)
      rw[hkn,hx] at this
      exact this
     have hzd:((us++[V.ref p]).dropLast).length<sizeLine:=by rw[hd];exact hz
     walk_at "vs"
     have hq:=(q H1 b1 rca).2 _ x hs
     have eq:upd (upd H1 a1 (.lst (us++[V.ref p]).dropLast)) a1 (.lst ((us++[V.ref p]).dropLast++[V.ref p]))=H1:=by rw[wU,hd,ac0 e1]
     show Q (.str x) (upd (upd H1 a1 (.lst (us++[V.ref p]).dropLast)) a1 (.lst ((us++[V.ref p]).dropLast++[V.ref p])))
     rw[eq]
     exact hq
  | @succ n _ c1 _ h1 ht=>
    have hi:=h1.inv _ _ hs
    refine⟨fun σ' H'=>Wr (∃c t,σ'=[some (.ref a),some (.ref dd),t]/\But [a1,a2,a3] H H'/\RcAt H' a C dx a1 a2 a3 c/\StN kn n c c'), ?_, ?_⟩
    ·rintro σ' H' ⟨h⟩
     exact⟨n,by omega,h⟩
    by_cases hrd:∃x,st= .r (.rd x)
    ·obtain⟨x,rfl⟩:=hrd
     obtain⟨val,hx,rfl⟩:=hi
     cases hv with
     | @r p _ hr'=>
     cases hr' with
     | rd ep=>
     have np:p≠a1:=fun z=>by rw[z,e1] at ep;cases ep
     have np3:p≠a3:=fun z=>by rw[z,e3] at ep;cases ep
     have nda:dd≠a1:=fun z=>hdS (by simp[z])
     have ajt:dd≠a3:=fun z=>hdS (by simp[z])
     have ne2:a2≠a1:=Ne.symm ne
     have aju:a3≠a1:=Ne.symm n13
     have ajv:a3≠a2:=Ne.symm n23
     have hv0:dH kvs (.inr x)=some (.int val):=by rw[hkn,hx];rfl
     have ed2:upd H1 a1 (.lst (us++[V.ref p]).dropLast) dd=some (.dK kvs):=(au nda).trans ed1
     have e32:upd H1 a1 (.lst (us++[V.ref p]).dropLast) a3=some (.dK (rdK c.rds)):=(au aju).trans e3
     have g1:bK (upd H1 a1 (.lst (us++[V.ref p]).dropLast)) dd (.str x) (some (.int val)):=by
      have:=bK.k (k:= .inr x) ed2
      rw[hv0] at this
      exact this
     have hlr:(rdK c.rds).length<sizeLine:=by rw[show(rdK c.rds).length=c.rds.length from List.length_map _,sizeLine_eq];omega
     have pt:jF (upd H1 a1 (.lst (us++[V.ref p]).dropLast)) a3 (.str x) (.int val) (upd (upd H1 a1 (.lst (us++[V.ref p]).dropLast)) a3 (.dK (rdK (uT c.rds x val)))):=by
      have:=jF.k (k:= .inr x) (v:= .int val) e32 hlr
      rw[Ze] at this
      exact this
     have ed3:upd (upd H1 a1 (.lst (us++[V.ref p]).dropLast)) a3 (.dK (rdK (uT c.rds x val))) dd=some (.dK kvs):=(au ajt).trans ed2
     have g2:bK (upd (upd H1 a1 (.lst (us++[V.ref p]).dropLast)) a3 (.dK (rdK (uT c.rds x val)))) dd (.str x) (some (.int val)):=by
      have:=bK.k (k:= .inr x) ed3
      rw[hv0] at this
      exact this
     have hzf:(c.found.map V.int).length<sizeLine:=by rw[List.length_map,sizeLine_eq];omega
     walk_at "vs"
     have b2:But [a1,a2,a3] H1 (upd (upd (upd H1 a1 (.lst (us++[V.ref p]).dropLast)) a3 (.dK (rdK (uT c.rds x val)))) a2 (.lst (c.found.map V.int++[V.int val]))):=(But.set _ (by simp)).trans ((But.set _ (by simp)).trans (But.set _ (by simp)))
     have tp:=rca.lists b2
     refine⟨⟨⟨t,c.found++[val],uT c.rds x val⟩,_,rfl,b1.trans b2,rca.next b2 (ws:=us) ?_ (hus.tups tp) ?_ ?_ (Nat.le_trans h1.w hw0),ht⟩⟩
     ·rw[au ne,au n13,ao,hd]
     ·rw[ao,List.map_append];rfl
     ·rw[au ajv,ao]
    ·have hno:∀x,st≠ .r (.rd x):=fun x z=>hrd ⟨x,z⟩
     obtain⟨p,k,xs,rfl,ep,hk⟩:=hv.hd hno
     have np:p≠a1:=fun z=>by rw[z,e1] at ep;cases ep
     have at0:atI (V.str k::xs) 0=some (.str k):=iT (j:=0) rfl
     walk_at "vs"
     refine afF (fun z=>hk (V.str.inj z)) ?_
     have b2:But [a1,a2,a3] H1 (upd H1 a1 (.lst (us++[V.ref p]).dropLast)):=But.set _ (by simp)
     have tp:=rca.lists b2
     have rc2:RcAt (upd H1 a1 (.lst (us++[V.ref p]).dropLast)) a C dx a1 a2 a3 ⟨t,c.found,c.rds⟩:=rca.next b2 (ws:=us) (by rw[ao,hd]) (hus.tups tp) ((au (Ne.symm ne)).trans e2) ((au (Ne.symm n13)).trans e3) (by show c.rds.length+c.found.length+2 * wT t<=10000;omega)
     have h1':St1 kn ⟨t++[st],c.found,c.rds⟩ c1:=by rw[<-hs];exact h1
     have hv2:=hv.tups tp
     have hwc:=Nat.le_trans h1.w hw0
     walk_at "vs"
     intro H3 b3 rc3
     exact⟨⟨c1,_,rfl,b1.trans (b2.trans b3),rc3,ht⟩⟩
end
section
variable {P:Program}{w:World}{K:PySem.W.Frag}{mg:Str->Option Value}{base:Heap}
abbrev cC:Stmt:=top 8
theorem Cp:bH ["thing"] ["thing"] (aa cC):=⟨rfl,rfl,rfl,by decide +kernel,rfl,by decide +kernel,by decide +kernel⟩
theorem kI:(aa cC).names.lookup ("isinstance":Str)=some NameKind.globalImplicit:=by decide +kernel
theorem vU:(aa cC).names.lookup ("bool":Str)=some NameKind.globalImplicit:=by decide +kernel
theorem vV:("bool":Str)≠"__name__":=by decide +kernel
theorem vW:(("bool":Str)==("__debug__":Str))=false:=by decide +kernel
theorem nY:aG (aa cC) "thing":=by decide +kernel
theorem kJ:("isinstance":Str)≠"__name__":=by decide +kernel
theorem kO:(("isinstance":Str)==("__debug__":Str))=false:=by decide +kernel
theorem xF:(aa cC).names.lookup ("int":Str)=some NameKind.globalImplicit:=by decide +kernel
theorem xG:("int":Str)≠"__name__":=by decide +kernel
theorem xH:(("int":Str)==("__debug__":Str))=false:=by decide +kernel
theorem Cq {f:Addr}{fd:FuncData} (bI:FnT K mg "is_whole_number" cC ["thing"] f fd) (T:Blt mg) (kd:Kinds K):bf P w K mg base CX0 1 f fd ["thing"] (Nm K):=by
 refine bI.F.okQ Cp (fun vs H Q E h=> ?_) (fun cdv A outer s H vs Q E hr h=> ?_)
 ·obtain⟨v,t,rfl,_⟩:=h
  rfl
 obtain⟨v,t,rfl,ht,q⟩:=h
 refine⟨_,(aF (aW (JC (dm Gr kI T.mY lN (aH (aj 0 nY) (aH (Aj (v:= .ty "int") xF T.Ms Gn rfl xG xH) aA)) kJ kO) (JB (acA (dm Gr kI T.mY lN (aH (aj 0 nY) (aH (Aj (v:= .ty "bool") vU T.acC YW rfl vV vW) aA)) kJ kO)))))), ?_⟩
 have h1:=ht.ty
 have h2:=ht.isi kd (c:="int") (by simp[tys])
 have h3:=ht.isi kd (c:="bool") (by simp[tys])
 walk_at "vs"
 cases ht with
 | bl b=>walk_at "vs";exact q
 | int i=>walk_at "vs";exact q
 | non=>exact q
 | str x=>exact q
 | tup e h=>exact q
 | oth h hT k=>rcases hT with rfl | rfl<;>exact q
abbrev d9:Stmt:=top 9
theorem RX:bH ["told","thing"] ["told","thing"] (aa d9):=⟨rfl,rfl,rfl,by decide +kernel,rfl,by decide +kernel,by decide +kernel⟩
theorem jo:(aa d9).names.lookup ("isinstance":Str)=some NameKind.globalImplicit:=by decide +kernel
theorem vX:(aa d9).names.lookup ("tuple":Str)=some NameKind.globalImplicit:=by decide +kernel
theorem vY:("tuple":Str)≠"__name__":=by decide +kernel
theorem vZ:(("tuple":Str)==("__debug__":Str))=false:=by decide +kernel
theorem iJ:aG (aa d9) "told":=by decide +kernel
theorem jq:("isinstance":Str)≠"__name__":=by decide +kernel
theorem jr:(("isinstance":Str)==("__debug__":Str))=false:=by decide +kernel
theorem zy:(aa d9).names.lookup ("len":Str)=some NameKind.globalImplicit:=by decide +kernel
theorem zA:("len":Str)≠"__name__":=by decide +kernel
theorem zB:(("len":Str)==("__debug__":Str))=false:=by decide +kernel
theorem gK:aG (aa d9) "thing":=by decide +kernel
theorem Kl:(aa d9).names.lookup ("all":Str)=some NameKind.globalImplicit:=by decide +kernel
theorem Km:(aa d9).names.lookup ("zip":Str)=some NameKind.globalImplicit:=by decide +kernel
theorem Cr:(("is_same":Str)==("__debug__":Str))=false:=by decide +kernel
theorem Ko:("all":Str)≠"__name__":=by decide +kernel
theorem Kp:(("all":Str)==("__debug__":Str))=false:=by decide +kernel
theorem mC:(aa d9).names.lookup ("is_whole_number":Str)=some NameKind.globalImplicit:=by decide +kernel
theorem mD:(("is_whole_number":Str)==("__debug__":Str))=false:=by decide +kernel
theorem zE:(aa d9).names.lookup ("str":Str)=some NameKind.globalImplicit:=by decide +kernel
theorem zF:("str":Str)≠"__name__":=by decide +kernel
theorem zG:(("str":Str)==("__debug__":Str))=false:=by decide +kernel
theorem Es {d:Nat}{f g0:Addr}{fd gd0:FuncData} (cM:FnT K mg "is_same" d9 ["told","thing"] f fd) (qp:bf P w K mg base CX0 (d+1) f fd ["told","thing"] (fun vs H Q E=>0<d/\Gy K (d - 1) vs H Q E))
 (bI:FnT K mg "is_whole_number" cC ["thing"] g0 gd0) (iz:bf P w K mg base CX0 1 g0 gd0 ["thing"] (Nm K)) (T:Blt mg) (kd:Kinds K):
 bf P w K mg base CX0 (d+2) f fd ["told","thing"] (Gy K d):=by
 refine cM.F.okQ RX (fun vs H Q E h=> ?_) (fun cdv A outer s H vs Q E hr h=> ?_)
 ·obtain⟨v,t,v',t',rfl,_⟩:=h
  rfl
 obtain⟨v,t,v',t',rfl,ht,hu,hd,q⟩:=h
 refine⟨_,(az (cJ (sX (dm Gr jo T.mY lN (aH (aj 0 iJ) (aH (Aj (v:= .ty "tuple") vX T.Nk Jy rfl vY vZ) aA)) jq jr)) (az (cJ (yX (HS (Gp (sX (dm Gr jo T.mY lN (aH (aj 1 gK) (aH (Aj (v:= .ty "tuple") vX T.Nk Jy rfl vY vZ) aA)) jq jr))) (Cd (bT rB (dm kZ zy T.ym rA (aH (aj 0 iJ) aA) zA zB) (dm kZ zy T.ym rA (aH (aj 1 gK) aA) zA zB) (aO _))))) (aF (aW BK)) bF)
  (aF (aW (dm (Y8 rfl) Kl T.afA acy (afJ (wY rfl (n:=2) (fr:=[]) (N:=["part","other"]) (HR (scX:=aa d9) (NX:=["told","thing"]) rfl rfl (by decide +kernel)) (Zt Km T.afB (aH (aj 0 iJ) (aH (aj 1 gK) aA))) (fun _ _ _ _ _=>(Tv (K:=K) (n:=2) rfl rfl (fu (qgx (i:=0) (show List.Nodup (α:=Str) ["part","other"] by decide) (K9 (by decide +kernel))) (fu (qgx (i:=1) (show List.Nodup (α:=Str) ["part","other"] by decide) (K9 (by decide +kernel))) uA)))) (fun _ _ _ _ _=>Rt) (fun _ _ _ _ _=>(aJ (qp.mono (by omega)) hr (glC (by decide +kernel)) cM.m cM.F.kp cM.b .nil aY (aH (aj 0 (o9.ok (by decide +kernel))) (aH (aj 1 (o9.ok (by decide +kernel))) aA)) Cr))) aA) Ko Kp)))) bF)
  (az (cJ (sX (aJ (iz.mono (by omega)) hr mC bI.m bI.F.kp bI.b .nil aY (aH (aj 0 iJ) aA) mD)) (aF (aW (JC (aJ (iz.mono (by omega)) hr mC bI.m bI.F.kp bI.b .nil aY (aH (aj 1 gK) aA) mD) (JB (lU dR (aj 0 iJ) (aj 1 gK) (aO _)))))) bF)
  (aF (aW (JC (dm Gr jo T.mY lN (aH (aj 0 iJ) (aH (Aj (v:= .ty "str") zE T.aaQ Wj rfl zF zG) aA)) jq jr) (JC (dm Gr jo T.mY lN (aH (aj 1 gK) (aH (Aj (v:= .ty "str") zE T.aaQ Wj rfl zF zG) aA)) jq jr) (JB (lU dR (aj 0 iJ) (aj 1 gK) (aO _))))))))), ?_⟩
 have h1:=ht.ty
 have h2:=ht.isi kd (c:="tuple") (by simp[tys])
 have h3:=ht.isi kd (c:="str") (by simp[tys])
 have g1:=hu.ty
 have g2:=hu.isi kd (c:="tuple") (by simp[tys])
 have g3:=hu.isi kd (c:="str") (by simp[tys])
 walk_at "vs"
 have ht2:=ht
 cases ht2 with
 | @tup a vs ts ea ha=>
   have ct:Wn (Pg (.tup ts)) "tuple"=true:=rfl
   rw[ct]
   walk_at "vs"
   have hu2:=hu
   cases hu2 with
   | @tup b us rs eb hb=>
     have cu:Wn (Pg (.tup rs)) "tuple"=true:=rfl
     rw[cu]
     walk_at "vs"
     have l1:=ha.length
     have l2:=hb.length
     by_cases hl:vs.length=us.length
     ·refine afH (by rw[hl];simp) ?_
      walk_at "vs"
      intro D hD
      have hd0:0<d:=by
       cases d with
       | zero=>exact absurd hd (by simp[DpT])
       | succ d=>omega
      obtain⟨d,rfl⟩:∃e,d=e+1:=⟨d - 1,by omega⟩
      obtain⟨hd1,hd2⟩:ts.length<=1000/\∀t∈ts,DpT d t:=hd
      have nDa:a≠D:=fun z=>by rw[z,hD] at ea;cases ea
      have nDb:b≠D:=fun z=>by rw[z,hD] at eb;cases eb
      refine Va (fun i σ' H'=>(∃t1 t2,σ'=[t1,t2])/\H' D=some (.lst (((List.zipWith dN ts rs).take i).map V.bl))/\aM H H') hl ?_ ?_ ?_ ?_
      ·exact⟨⟨none,none,rfl⟩,ao,aD _ hD⟩
      ·intro i σ' H' hi hP
       exact⟨SqT.of (hP.2.2 _ _ ea),SqT.of (hP.2.2 _ _ eb)⟩
      ·intro i x y T0 σ' H' hx hy hP hT
       obtain⟨⟨t1,t2,rfl⟩,eD,kp⟩:=hP
       obtain⟨hi1,tx⟩:=ha.at hx
       obtain⟨hi2,ty⟩:=hb.at hy
       have S0:=kp.trans (aD (.tup [x,y]) hT)
       have tx0:=tx.same S0
       have ty0:=ty.same S0
       have dx:=hd2 _ (List.getElem_mem hi1)
       have eT:upd H' T0 (.tup [x,y]) T0=some (.tup [x,y]):=ao
       have eD0:=(aD (.tup [x,y]) hT) _ _ eD
       generalize upd H' T0 (.tup [x,y])=H0 at *
       walk_at "vs"
       intro H5 S5
       have eD5:=S5 _ _ eD0
       refine⟨_,eD5, ?_,⟨_,_,rfl⟩, ?_, ?_⟩
       ·rw[List.length_map,List.length_take];exact bR (by omega)
       ·rw[ao,<-Vb dN hi1 hi2,List.map_append];rfl
       ·exact cG _ hD (S0.trans S5)
      ·intro σ' H' hP
       obtain⟨_,eD,kp⟩:=hP
       rw[List.take_of_length_le (by simp;omega)] at eD
       have eq:dN (.tup ts) (.tup rs)=((List.zipWith dN ts rs).all id):=by rw[dN];exact J7 (by omega)
       rw[eq] at q
       walk_at "vs"
       exact q _ kp
     ·refine afG (by simp;omega) ?_
      rw[show dN (.tup ts) (.tup rs)=false from by rw[dN];exact J6 (by omega)] at q
      walk_at "vs"
      exact q _ (aM.refl _)
   | non=>walk_at "vs";exact q _ (aM.refl _)
   | bl b=>walk_at "vs";exact q _ (aM.refl _)
   | int i=>walk_at "vs";exact q _ (aM.refl _)
   | str x=>walk_at "vs";exact q _ (aM.refl _)
   | oth h hT k=>rcases hT with rfl | rfl<;>walk_at "vs"<;>exact q _ (aM.refl _)
 | non=>walk_at "vs";exact q _ (aM.refl _)
 | bl b=>walk_at "vs";exact q _ (aM.refl _)
 | int i=>
   walk_at "vs"
   have hu2:=hu
   cases hu2 with
   | int j=>
     have ej:dN (.int i) (.int j)=decide (V.int i=V.int j):=by simp[dN]
     rw[ej] at q
     walk_at "vs";exact q _ (aM.refl _)
   | non=>walk_at "vs";exact q _ (aM.refl _)
   | bl b=>walk_at "vs";exact q _ (aM.refl _)
   | str x=>walk_at "vs";exact q _ (aM.refl _)
   | tup e h=>walk_at "vs";exact q _ (aM.refl _)
   | oth h hT k=>rcases hT with rfl | rfl<;>walk_at "vs"<;>exact q _ (aM.refl _)
 | str x=>
   walk_at "vs"
   have hu2:=hu
   cases hu2 with
   | str y=>
     have ej:dN (.str x) (.str y)=decide (V.str x=V.str y):=by simp[dN]
     rw[ej] at q
     walk_at "vs";exact q _ (aM.refl _)
   | non=>walk_at "vs";exact q _ (aM.refl _)
   | bl b=>walk_at "vs";exact q _ (aM.refl _)
   | int j=>walk_at "vs";exact q _ (aM.refl _)
   | tup e h=>walk_at "vs";exact q _ (aM.refl _)
   | oth h hT k=>rcases hT with rfl | rfl<;>walk_at "vs"<;>exact q _ (aM.refl _)
 | oth h hT k=>rcases hT with rfl | rfl<;>walk_at "vs"<;>exact q _ (aM.refl _)
theorem Kq {f g0:Addr}{fd gd0:FuncData} (cM:FnT K mg "is_same" d9 ["told","thing"] f fd)
 (bI:FnT K mg "is_whole_number" cC ["thing"] g0 gd0) (iz:bf P w K mg base CX0 1 g0 gd0 ["thing"] (Nm K)) (T:Blt mg) (kd:Kinds K):
 ∀d,bf P w K mg base CX0 (d+2) f fd ["told","thing"] (Gy K d)
 | 0=>Es cM (never fun vs H Q E h=>absurd h.1 (by omega)) bI iz T kd
 | d+1=>Es cM ((Kq cM bI iz T kd d).imp fun vs H Q E h=>h.2) bI iz T kd
end
section
local macro_rules | `(tactic| walk_at "side") => `(tactic| first | exact Ar _ _ _ _ | exact xj _ _ _ _ | exact Av _ _ _ _ | exact su _ _ _ _ | exact (iH _ _ _ _).1 | exact (iH _ _ _ _).2.1 | exact (iH _ _ _ _).2.2.1 | exact (iH _ _ _ _).2.2.2 | exact Nat.le_of_ble_eq_true rfl)
variable {P:Program}{w:World}{K:PySem.W.Frag}{mg:Str->Option Value}{base:Heap}{CN CS CR:Addr}
abbrev bY:Stmt:=zj 11 0
theorem uW:bH ["self","records"] ["self","records"] (aa bY):=⟨rfl,rfl,rfl,by decide +kernel,rfl,by decide +kernel,by decide +kernel⟩
theorem qN:aG (aa bY) "self":=by decide +kernel
theorem pH:aG (aa bY) "records":=by decide +kernel
theorem uX {f:Addr}{fd:FuncData} (eE:iw K CN "__init__" "NamedRecords.__init__" bY ["self","records"] f fd) (nc:NrC K CN):bf P w K mg base CX0 1 f fd ["self","records"] (PB CN):=by
 refine eE.F.okQ uW (fun vs H Q E h=> ?_) (fun cdv A outer s H vs Q E hr h=> ?_)
 ·obtain⟨a,dx,rcd,rfl,_⟩:=h
  rfl
 obtain⟨a,dx,rcd,rfl,e,q⟩:=h
 have nZ:=nc.cl
 have nB:=nc.nB
 refine⟨_,(aF (nC (aj 0 qN) (aj 1 pH))), ?_⟩
 walk_at "vs"
 exact q _ (But.set _ (by simp)) ao
abbrev cV:Stmt:=zj 11 2
theorem uY:bH ["self","record"] ["self","record"] (aa cV):=⟨rfl,rfl,rfl,by decide +kernel,rfl,by decide +kernel,by decide +kernel⟩
theorem uZ {f:Addr}{fd:FuncData} (cW:iw K CN "put_made" "NamedRecords.put_made" cV ["self","record"] f fd):bf P w K mg base CX0 1 f fd ["self","record"] aa8:=by
 refine cW.F.okQ uY (fun vs H Q E h=> ?_) (fun cdv A outer s H vs Q E hr h=> ?_)
 ·obtain⟨⟨v,w,rfl⟩,_⟩:=h
  rfl
 obtain⟨⟨v,w,rfl⟩,q⟩:=h
 refine⟨_,(aF Y4), ?_⟩
 exact q
abbrev aX:Stmt:=zj 11 1
theorem sy:bH ["self","name","r"] ["self","name","r"] (aa aX):=⟨rfl,rfl,rfl,by decide +kernel,rfl,by decide +kernel,by decide +kernel⟩
theorem oA:(aa aX).names.lookup ("is_same":Str)=some NameKind.globalImplicit:=by decide +kernel
theorem gf:aG (aa aX) "self":=by decide +kernel
theorem gh:aG (aa aX) "name":=by decide +kernel
theorem qO:aG (aa aX) "r":=by decide +kernel
theorem oE:(("is_same":Str)==("__debug__":Str))=false:=by decide +kernel
theorem sE {f g0:Addr}{fd gd0:FuncData} (cD:iw K CN "records_for" "NamedRecords.records_for" aX ["self","name","r"] f fd)
 (cM:FnT K mg "is_same" d9 ["told","thing"] g0 gd0) (qp:bf P w K mg base CX0 12 g0 gd0 ["told","thing"] (Gy K 10)) (T:Blt mg) (nc:NrC K CN):bf P w K mg base CX0 13 f fd ["self","name","r"] (W5 CN):=by
 refine cD.F.okQ sy (fun vs H Q E h=> ?_) (fun cdv A outer s H vs Q E hr h=> ?_)
 ·obtain⟨o,dx,rcd,b,kr,n,rm,y,r,rfl,_⟩:=h
  rfl
 obtain⟨o,dx,rcd,b,kr,n,rm,y,r,rfl,eo,er,rD,hR,hg,hdp,q⟩:=h
 have nZ:=nc.cl
 have nB:=nc.nB
 have lkB:List.lookup ("by_name":Str) (nrF rcd)=some (.ref rcd):=rfl
 refine⟨_,(az (cJ (yX (uP (uU (bO hr) (aj 1 gh) (bW (aj 0 gf))) (qy (sX (aJ (qp.mono (by omega)) hr oA cM.m cM.F.kp cM.b .nil aY (aH (aj 2 qO) (jc (aN aK (cY (bO hr) (bW (aj 0 gf)) (aj 1 gh)) aB) aA)) oE))))) (aF (aW (eG (jc (cY (bO hr) (bW (aj 0 gf)) (aj 1 gh)) aA)))) bF)
  (aF (aW (eG aA)))), ?_⟩
 have dr:bK H rcd (.str y) (dH kr (.inr y)):=bK.k (k:= .inr y) er
 cases erm:rm y with
 | none=>
   rw[rD.w y erm] at dr
   walk_at "vs"
   intro fl hfl
   exact q fl _ (aD _ hfl) hfl fun kn=> .inr ⟨ao,fun r' ps v e=>by rw[erm] at e;cases e⟩
 | some qq=>
   obtain⟨r',ps,v'⟩:=qq
   obtain⟨bb,hbb,br,l,as,e1,R1,el,hRs,_⟩:=rD.v y _ erm
   rw[hbb] at dr
   have e1:H bb=some (.tup [.ref br, .ref l, .int v']):=e1
   have R1:IsR H br r':=R1
   have hat:atI [V.ref br, .ref l, .int v'] 0=some (.ref br):=rfl
   have t1:nQ K H (.ref b) r.dz:=hR.JM
   have t2:nQ K H (.ref br) r'.dz:=R1.JM
   have dp:DpT 10 r.dz:=(r.dpT (jL hg)).mono (by omega)
   walk_at "vs"
   intro H1 s1
   have dr1:bK H1 rcd (.str y) (some (.ref bb)):=by rw[<-hbb];exact bK.k (k:= .inr y) (s1 _ _ er)
   have eo1:=s1 _ _ eo
   by_cases hrr:r=r'
   ·rw[Ua hrr]
    subst hrr
    walk_at "vs"
    intro fl hfl
    exact q fl _ (s1.trans (aD _ hfl)) (same_none s1 hfl) fun kn=> .inl ⟨bb,ps,v',ao,hbb,erm,Nat.zero_le _,fun j p hj=>by omega⟩
   ·rw[Ub hrr]
    walk_at "vs"
    intro fl hfl
    exact q fl _ (s1.trans (aD _ hfl)) (same_none s1 hfl) fun kn=> .inr ⟨ao,fun r2 ps2 v2 e=>by
     rw[erm] at e;cases e;exact .inl (Ne.symm hrr)⟩
abbrev cA:Stmt:=zj 12 0
theorem zH:bH ["self","r","records"] ["self","r","records"] (aa cA):=⟨rfl,rfl,rfl,by decide +kernel,rfl,by decide +kernel,by decide +kernel⟩
theorem gD:aG (aa cA) "self":=by decide +kernel
theorem pK:aG (aa cA) "r":=by decide +kernel
theorem rE:aG (aa cA) "records":=by decide +kernel
theorem qt:(aa cA).names.lookup ("Reckoning":Str)=some NameKind.globalImplicit:=by decide +kernel
theorem qu:(("Reckoning":Str)==("__debug__":Str))=false:=by decide +kernel
theorem zJ {f g0:Addr}{fd gd0:FuncData} (gB:iw K CS "__init__" "Settling.__init__" cA ["self","r","records"] f fd)
 (fU:iw K CR "__init__" "Reckoning.__init__" cN ["self","r"] g0 gd0) (zK:bf P w K mg base CX0 1 g0 gd0 ["self","r"] (Pn CR))
 (zL:Mk K CR g0) (zM:mg "Reckoning"=some (.ref CR)) (sc:SeC K CS):bf P w K mg base CX0 3 f fd ["self","r","records"] (PK CS CR):=by
 refine gB.F.okQ zH (fun vs H Q E h=> ?_) (fun cdv A outer s H vs Q E hr h=> ?_)
 ·obtain⟨a,dx,b,fl,r,rfl,_⟩:=h
  rfl
 obtain⟨a,dx,b,fl,r,rfl,e,hR,hw,q⟩:=h
 have jX:=sc.cl
 have nR:=sc.nR
 have nF:=sc.nF
 have nP:=sc.nP
 have nK:=sc.nK
 refine⟨_,(az (nC (aj 0 gD) (aj 1 pK))
  (az (nC (aj 0 gD) (aj 2 rE))
  (az (nC (aj 0 gD) aB)
  (aF (nC (aj 0 gD) (Jk zL (zK.mono (by omega)) hr qt zM fU.b .nil aY (aH (aj 1 pK) aA) qu)))))), ?_⟩
 walk_at "vs"
 have F3:upd (upd (upd H a (.ins CS dx (bx "recipe" (.ref b) []))) a (.ins CS dx (bx "fitting" (.ref fl) (bx "recipe" (.ref b) [])))) a (.ins CS dx (bx "place" (.int 0) (bx "fitting" (.ref fl) (bx "recipe" (.ref b) []))))=upd H a (.ins CS dx (bx "place" (.int 0) (bx "fitting" (.ref fl) (bx "recipe" (.ref b) [])))):=by rw[wU,wU]
 rw[F3]
 have b1:But [a] H (upd H a (.ins CS dx (bx "place" (.int 0) (bx "fitting" (.ref fl) (bx "recipe" (.ref b) []))))):=But.set _ (by simp)
 have t1:jz H (upd H a (.ins CS dx (bx "place" (.int 0) (bx "fitting" (.ref fl) (bx "recipe" (.ref b) []))))):=fun p xs z=>(au (fun y=>by rw[y,e] at z;cases z)).trans z
 have e1:upd H a (.ins CS dx (bx "place" (.int 0) (bx "fitting" (.ref fl) (bx "recipe" (.ref b) [])))) a=some (.ins CS dx (bx "place" (.int 0) (bx "fitting" (.ref fl) (bx "recipe" (.ref b) [])))):=ao
 have n1:∀{z},upd H a (.ins CS dx (bx "place" (.int 0) (bx "fitting" (.ref fl) (bx "recipe" (.ref b) [])))) z=none->H z=none:=fun z=>(eX z).2
 generalize upd H a (.ins CS dx (bx "place" (.int 0) (bx "fitting" (.ref fl) (bx "recipe" (.ref b) []))))=H1 at *
 intro rk dxr hrk hdxr hne
 have ajw:(upd H1 dxr (.own rk)) rk=none:=(au (Ne.symm hne)).trans hrk
 have S1:=(aD (.own rk) hdxr).trans (aD (.ins CR dxr []) ajw)
 refine⟨rk,dxr,b,r,rfl,ao,(hR.tups t1).same S1,hw,fun a1 a2 a3 H2 b2 h1 h2 h3 rc2=>⟨rfl, ?_⟩⟩
 have h1:=same_none S1 h1
 have h2:=same_none S1 h2
 have h3:=same_none S1 h3
 have S2:aM H1 H2:=fB S1 (fun p hp=>by
  have:p=rk:=by simpa using hp
  rw[this];exact hrk) b2
 have e2:=S2 _ _ e1
 have nak:a≠rk:=fun z=>by rw[<-z,e1] at hrk;cases hrk
 have na1:a≠a1:=fun z=>by rw[<-z,e1] at h1;cases h1
 have na2:a≠a2:=fun z=>by rw[<-z,e1] at h2;cases h2
 have na3:a≠a3:=fun z=>by rw[<-z,e1] at h3;cases h3
 walk_at "vs"
 have t3:jz H2 (upd H2 a (.ins CS dx (bx "reckoning" (.ref rk) (bx "place" (.int 0) (bx "fitting" (.ref fl) (bx "recipe" (.ref b) [])))))):=fun p xs z=>(au (fun y=>by rw[y,e2] at z;cases z)).trans z
 refine q ⟨a,dx,b,fl,rk,dxr,a1,a2,a3,0⟩ _ ((b1.trans (But.of_same S2)).trans (But.set _ (by simp))) rfl rfl rfl rfl ao (rc2.move (S:=[a]) (But.set _ (by simp)) t3 ?_) ?_
 ·intro z hz w
  have w:z=a:=by simpa using w
  have hz:z=rk\/z=a1\/z=a2\/z=a3:=by simpa using hz
  rcases hz with y | y | y | y
  ·exact nak (w.symm.trans y)
  ·exact na1 (w.symm.trans y)
  ·exact na2 (w.symm.trans y)
  ·exact na3 (w.symm.trans y)
 ·intro z hz
  have hz:z=rk\/z=a1\/z=a2\/z=a3:=by simpa using hz
  rcases hz with rfl | rfl | rfl | rfl
  ·exact n1 hrk
  ·exact n1 h1
  ·exact n1 h2
  ·exact n1 h3
end
section
local macro_rules | `(tactic| walk_at "side") => `(tactic| first | exact Ar _ _ _ _ | exact xj _ _ _ _ | exact Av _ _ _ _ | exact su _ _ _ _ | exact (iH _ _ _ _).1 | exact (iH _ _ _ _).2.1 | exact (iH _ _ _ _).2.2.1 | exact (iH _ _ _ _).2.2.2 | exact Ei _ _ _ | exact Nat.le_of_ble_eq_true rfl)
variable {P:Program}{w:World}{K:PySem.W.Frag}{mg:Str->Option Value}{base:Heap}{CN CS CR:Addr}
abbrev bN:Stmt:=zj 12 3
theorem u0:bH ["self"] ["self"] (aa bN):=⟨rfl,rfl,rfl,by decide +kernel,rfl,by decide +kernel,by decide +kernel⟩
theorem rF:(aa bN).names.lookup ("len":Str)=some NameKind.globalImplicit:=by decide +kernel
theorem qP:aG (aa bN) "self":=by decide +kernel
theorem rG:("len":Str)≠"__name__":=by decide +kernel
theorem rH:(("len":Str)==("__debug__":Str))=false:=by decide +kernel
def Xr (CS:Addr):Sp:=fun vs H Q _=>∃(s dx b fl rk:Addr) (k:Nat) (xs:List V),vs=[.ref s]/\H s=some (.ins CS dx (seF b fl k rk))/\H fl=some (.lst xs)/\Q (.bl (decide (xs.length=0))) H
theorem u5 {f:Addr}{fd:FuncData} (bD:iw K CS "was_reckoned" "Settling.was_reckoned" bN ["self"] f fd) (T:Blt mg) (sc:SeC K CS):bf P w K mg base CX0 1 f fd ["self"] (Xr CS):=by
 refine bD.F.okQ u0 (fun vs H Q E h=> ?_) (fun cdv A outer s H vs Q E hr h=> ?_)
 ·obtain⟨a,dx,b,fl,rk,k,xs,rfl,_⟩:=h
  rfl
 obtain⟨a,dx,b,fl,rk,k,xs,rfl,e,ef,q⟩:=h
 have jX:=sc.cl
 have nF:=sc.nF
 refine⟨_,(aF (aW (lU dR (dm kZ rF T.ym rA (U6 (bW (aj 0 qP)) aA) rG rH) aB (aO _)))), ?_⟩
 walk_at "vs"
 have:decide (V.int (xs.length:Int)=V.int 0)=decide (xs.length=0):=by
  by_cases z:xs.length=0
  ·rw[decide_eq_true z,z];rfl
  ·rw[decide_eq_false z]
   exact decide_eq_false fun w=>z (by have:=V.int.inj w;omega)
 rw[this]
 exact q
abbrev d7:Stmt:=zj 12 2
theorem Cu:bH ["self","worth"] ["self","worth"] (aa d7):=⟨rfl,rfl,rfl,by decide +kernel,rfl,by decide +kernel,by decide +kernel⟩
theorem iB:aG (aa d7) "self":=by decide +kernel
theorem Cv {f:Addr}{fd:FuncData} (gj:iw K CS "fit_on" "Settling.fit_on" d7 ["self","worth"] f fd) (sc:SeC K CS):bf P w K mg base CX0 1 f fd ["self","worth"] (aa9 CS):=by
 refine gj.F.okQ Cu (fun vs H Q E h=> ?_) (fun cdv A outer s H vs Q E hr h=> ?_)
 ·obtain⟨a,dx,b,fl,rk,rb,br,l,k,as,ps,v,w',u,x,rfl,_⟩:=h
  rfl
 obtain⟨a,dx,b,fl,rk,rb,br,l,k,as,ps,v,w',u,x,rfl,e,ef,erb,el,hRs,hk,q⟩:=h
 have jX:=sc.cl
 have nF:=sc.nF
 have nP:=sc.nP
 refine⟨_,(az (nC (aj 0 iB) (wY rfl (n:=1) (fr:=[1,0]) (N:=["record","worth","self"]) (HR (scX:=aa d7) (NX:=["self","worth"]) rfl rfl (by decide +kernel)) (Eb (bW (aj 0 iB))) (fun _ _ _ _ _=>(qgx (i:=0) (show List.Nodup (α:=Str) ["record","worth","self"] by decide) (K9 (by decide +kernel)))) (fun _ _ _ _ _=>(JD (bT dR (aN (JH (K:=K) rfl) (aN (Gs (K:=K) rfl) (aN (JH (K:=K) rfl) (aj 0 (o9.ok (by decide +kernel))) aB) (NB (K:=K) rfl (aj 2 (o9.ok (by decide +kernel))))) aB) (aj 1 (o9.ok (by decide +kernel))) (aO _)))) (fun _ _ _ _ _=>(aj 0 (o9.ok (by decide +kernel))))))
  (aF (nC (aj 0 iB) (cO jR (bW (aj 0 iB)) aB)))), ?_⟩
 have hkl:k<ps.length:=(List.getElem?_eq_some_iff.mp hk).1
 have hka:k<as.length:=by rw[hRs.length];exact hkl
 have hae:as[k]? =some as[k]:=List.getElem?_eq_getElem hka
 obtain⟨p,hp,ep⟩:=hRs.get k _ hae
 rw[hk] at hp
 cases hp
 have ep:H as[k]=some (.tup [.str x, .int u]):=ep
 have a1:atI [V.ref br, .ref l, .int v] 1=some (.ref l):=rfl
 have a2:atI (as.map V.ref) (k:Int)=some (.ref as[k]):=iT (by rw[List.getElem?_map,hae];rfl)
 have a3:atI [V.str x, .int u] 1=some (.int u):=rfl
 walk_at "vs"
 intro D hD
 have sD:=aD (.lst []) hD
 refine Mq (xs:=[.ref rb]) (fun i σ' H'=>(∃t,σ'=[t,some (.int w'),some (.ref a)])/\aM H H'/\H' D=some (.lst (if i=0 then [] else if u=w' then [.ref rb] else []))) ?_ ?_ ?_ ?_
 ·exact⟨⟨none,rfl⟩,sD,ao⟩
 ·intro i σ' H' _ hP
  exact SqL.of (hP.2.1 _ _ ef)
 ·intro i y σ' H' hy hP
  obtain⟨⟨t,rfl⟩,S1,eD⟩:=hP
  obtain⟨rfl,rfl⟩:i=0/\y= .ref rb:=by
   match i,hy with
   | 0,hy=>exact⟨rfl,(Option.some.inj hy).symm⟩
   | i+1,hy=>simp at hy
  rw[if_pos rfl] at eD
  have e1:=S1 _ _ e
  have amZ:=S1 _ _ erb
  have el1:=S1 _ _ el
  have ep1:=S1 _ _ ep
  have hz:([]:List V).length<sizeLine:=bR (by simp)
  walk_at "vs"
  refine yw (fun c=> ?_) (fun c=> ?_)
  ·have c:u=w':=V.int.inj (of_decide_eq_true c)
   walk_at "vs"
   refine⟨⟨_,rfl⟩,cG _ hD S1, ?_⟩
   rw[if_neg (by decide),if_pos c];exact ao
  ·have c:¬u=w':=fun z=>c (decide_eq_true (by rw[z]))
   refine⟨⟨_,rfl⟩,S1, ?_⟩
   rw[if_neg (by decide),if_neg c];exact eD
 ·intro σ' H1 hP
  obtain⟨_,S1,eD⟩:=hP
  rw[show(if([V.ref rb]:List V).length=0 then([]:List V) else if u=w' then [.ref rb] else [])=if u=w' then [.ref rb] else [] from if_neg (by simp)] at eD
  have e1:=S1 _ _ e
  have naD:a≠D:=fun z=>by rw[z,hD] at e;cases e
  walk_at "vs"
  refine q D _ ((But.of_same S1).trans ((But.set _ (by simp)).trans (But.set _ (by simp)))) hD ao ?_
  rw[au (Ne.symm naD),au (Ne.symm naD)];exact eD
end
section
local macro_rules | `(tactic| walk_at "side") => `(tactic| first | exact Ar _ _ _ _ | exact xj _ _ _ _ | exact Av _ _ _ _ | exact su _ _ _ _ | exact (iH _ _ _ _).1 | exact (iH _ _ _ _).2.1 | exact (iH _ _ _ _).2.2.1 | exact (iH _ _ _ _).2.2.2 | exact Ei _ _ _ | exact Nat.le_of_ble_eq_true rfl)
variable {P:Program}{w:World}{K:PySem.W.Frag}{mg:Str->Option Value}{base:Heap}{CN CS CR:Addr}
abbrev bJ:Stmt:=zj 12 1
theorem nH:bH ["self","known","reads","name"] ["self","known"] (aa bJ):=⟨rfl,rfl,rfl,by decide +kernel,rfl,by decide +kernel,by decide +kernel⟩
theorem dJ:aG (aa bJ) "self":=by decide +kernel
theorem ur:Loc (aa bJ) "reads":=by decide +kernel
theorem v7:(aa bJ).names.lookup ("len":Str)=some NameKind.globalImplicit:=by decide +kernel
theorem nu:aG (aa bJ) "reads":=by decide +kernel
theorem v8:("len":Str)≠"__name__":=by decide +kernel
theorem v9:(("len":Str)==("__debug__":Str))=false:=by decide +kernel
theorem u6:Loc (aa bJ) "name":=by decide +kernel
theorem jM:aG (aa bJ) "name":=by decide +kernel
theorem jA:aG (aa bJ) "known":=by decide +kernel
theorem Ay {f g0 g1:Addr}{fd gd0 gd1:FuncData} (fL:iw K CS "lacking" "Settling.lacking" bJ ["self","known"] f fd)
 (gj:iw K CS "fit_on" "Settling.fit_on" d7 ["self","worth"] g0 gd0) (Et:bf P w K mg base CX0 1 g0 gd0 ["self","worth"] (aa9 CS))
 (eY:iw K CR "lacking" "Reckoning.lacking" cz ["self","known"] g1 gd1) (Az:bf P w K mg base CX0 3 g1 gd1 ["self","known"] (WK CR))
 (T:Blt mg) (sc:SeC K CS) (rcC:RkC K CR):bf P w K mg base CX0 4 f fd ["self","known"] (PL CS CR):=by
 refine fL.F.okQ nH (fun vs H Q E h=> ?_) (fun cdv A0 outer s H vs Q E hr h=> ?_)
 ·obtain⟨A,d,kr,n,rm,y,r,kn,rfl,_⟩:=h
  rfl
 obtain⟨A,d,kr,n,rm,y,r,kn,rfl,se,rD,n17,⟨kvs,ed,hkn⟩,nd3,hT3,q⟩:=h
 have jX:=sc.cl
 have nR:=sc.nR
 have nF:=sc.nF
 have nP:=sc.nP
 have nK:=sc.nK
 have oO:=rcC.cl
 refine⟨_,(az (Ec PassesOwn.never (Jz (bW (aj 0 dJ))) (az (bB (i:=2) nH.nd rfl ur (aN aK (aN cR (bW (aj 0 dJ)) aB) aB))
  (az (cJ (bT dR (bW (aj 0 dJ)) (dm kZ v7 T.ym rA (aH (aj 2 nu) aA) v8 v9) (aO _)) (aF (aW Rq)) bF)
  (az (bB (i:=3) nH.nd rfl u6 (aN aK (aN cR (aj 2 nu) (bW (aj 0 dJ))) aB))
  (az (cJ (lO (bO hr) (aj 3 jM) (aj 1 jA)) (aF (aW (aj 3 jM))) bF)
  (aF (fY (rY (aj 0 dJ) jX gj.m (Et.mono (by omega)) hr gj.b .nil aY (jc (cY (bO hr) (aj 1 jA) (aj 3 jM)) aA)))))))))
  (aF (aW (rY (bW (aj 0 dJ)) oO eY.m (Az.mono (by omega)) hr eY.b .nil aY (aH (aj 1 jA) aA))))), ?_⟩
 have nds:d∉[A.s]:=fun z=>by
  have z:d=A.s:=by simpa using z
  have:=se.e
  rw[<-z,ed] at this;cases this
 refine⟨fun m σ H'=>∃(A1:SeD) (t1 t2:Option V),σ=[some (.ref A.s),some (.ref d),t1,t2]/\But [A.s] H H'/\xm CS CR kr rm y r kn A1 H'/\A1.s=A.s/\A1.b=A.b/\A1.rk=A.rk/\A1.a1=A.a1/\A1.a2=A.a2/\A1.a3=A.a3/\A1.dx=A.dx/\(A1.fl=A.fl\/H A1.fl=none)/\m=1000 - A1.k,
  ⟨_,A,none,none,rfl,But.refl _ _,se,rfl,rfl,rfl,rfl,rfl,rfl,rfl, .inl rfl,rfl⟩, ?_⟩
 rintro m σ H1 ⟨A1,t1,t2,rfl,b1,se1,es,eb,erk,ea1,ea2,ea3,edx,efl,rfl⟩
 have e1:=se1.e
 rw[es] at e1
 have tp1:jz H H1:=fun p xs z=>b1 p _ (fun w=>by
  have w:p=A.s:=by simpa using w
  have:=se.e
  rw[<-w,z] at this;cases this) z
 have ed1:=b1 _ _ nds ed
 have rD1:pF H1 kr n rm:=rD.map fun b' q' z=>z.but b1 tp1 (fun y hy=> .inr fun xs w=>by
  have w':y=A.s:=by simpa using hy
  have:=se.e
  rw[<-w',w] at this;cases this)
 have fin:∀H2,But [A.s] H1 H2->But A.ft H H2:=fun H2 b=>(b1.trans b).mono (by simp[SeD.ft])
 rcases se1.f with⟨rb,ps,v,Li,hval,hrm,hkle,hall⟩ | ⟨Li,nof⟩
 ·obtain⟨bb,hbb,br,l,as,f1,R1,el,hRs,_⟩:=rD1.v y _ hrm
  rw[hval] at hbb
  cases hbb
  have f1:H1 rb=some (.tup [.ref br, .ref l, .int v]):=f1
  have hRs:gW H1 as ps:=hRs
  obtain⟨got,k0,hk0,ek0,rk0⟩:=rD1.ok y r ps v hrm
  have hpl:ps.length<=k0:=T7 got.c rk0.i
  have a0:atI [V.ref rb] 0=some (.ref rb):=rfl
  have a1:atI [V.ref br, .ref l, .int v] 1=some (.ref l):=rfl
  have hlm:(as.map V.ref).length=ps.length:=by rw[List.length_map];exact hRs.length
  walk_at "vs"
  refine⟨fun σ' H'=>∃(A2:SeD) (t1 t2:Option V),σ'=[some (.ref A.s),some (.ref d),t1,t2]/\But [A.s] H H'/\xm CS CR kr rm y r kn A2 H'/\A2.s=A.s/\A2.b=A.b/\A2.rk=A.rk/\A2.a1=A.a1/\A2.a2=A.a2/\A2.a3=A.a3/\A2.dx=A.dx/\(A2.fl=A.fl\/H A2.fl=none)/\A2.k=A1.k+1,fun σ' H' ⟨A2,t1,t2,z1,z2,z3,z4,z5,z6,z7,z8,z9,z10,z11,z12⟩=>⟨1000 - A2.k,by omega,A2,t1,t2,z1,z2,z3,z4,z5,z6,z7,z8,z9,z10,z11,rfl⟩, ?_⟩
  walk_at "vs"
  refine yw (fun c=> ?_) (fun c=> ?_)
  ·have c:A1.k=ps.length:=by have:=V.int.inj (of_decide_eq_true c);omega
   walk_at "vs"
   refine(q A1 H1 (fin H1 (But.refl _ _)) es eb erk ea1 ea2 ea3 efl se1).1 (.inl ⟨rb,ps,v,Li,hval,hrm,fun p hp=> ?_⟩)
   obtain⟨j,hj⟩:=List.getElem?_of_mem hp
   exact hall j p (by rw[c];exact(List.getElem?_eq_some_iff.mp hj).1) hj
  ·have c:A1.k<ps.length:=by
    have:¬A1.k=ps.length:=fun z=>c (decide_eq_true (by rw[hlm,z]))
    omega
   have hka:A1.k<as.length:=by rw[hRs.length];exact c
   have hae:as[A1.k]? =some as[A1.k]:=List.getElem?_eq_getElem hka
   obtain⟨⟨x,u⟩,hp,ep⟩:=hRs.get A1.k _ hae
   have ep:H1 as[A1.k]=some (.tup [.str x, .int u]):=ep
   have a2:atI (as.map V.ref) (A1.k:Int)=some (.ref as[A1.k]):=iT (by rw[List.getElem?_map,hae];rfl)
   have a3:atI [V.str x, .int u] 0=some (.str x):=rfl
   have dw:bK H1 d (.str x) ((kn x).map V.int):=by rw[<-hkn];exact bK.k (k:= .inr x) ed1
   cases ekn:kn x with
   | none=>
     rw[ekn] at dw
     have dw:bK H1 d (.str x) none:=dw
     walk_at "vs"
     exact(q A1 H1 (fin H1 (But.refl _ _)) es eb erk ea1 ea2 ea3 efl se1).2 x ekn (RT got.c hp hall)
   | some w'=>
     rw[ekn] at dw
     have dw:bK H1 d (.str x) (some (.int w')):=dw
     walk_at "vs"
     intro fl' H2 b2 hfl' e2 Vi
     have hs1:∀xs,H1 A.s≠some (.lst xs):=fun xs z=>by rw[e1] at z;cases z
     have tp2:jz H1 H2:=fun p xs z=>b2 p _ (fun w=>by
      have w:p=A.s:=by simpa using w
      rw[w,e1] at z;cases z) z
     obtain⟨cf,rc1,rch⟩:=se1.c
     have hns:∀{z:Addr},z≠A.s->z∉[A.s]:=fun h w=>h (by simpa using w)
     have nrk:A1.rk≠A.s:=fun z=>se1.n1 (by rw[es,z])
     have n1:A1.a1≠A.s:=fun z=>by obtain⟨ws,w1,_⟩:=rc1.e1;rw[z,e1] at w1;cases w1
     have n2:A1.a2≠A.s:=fun z=>by have w1:=rc1.e2;rw[z,e1] at w1;cases w1
     have n3:A1.a3≠A.s:=fun z=>by have w1:=rc1.e3;rw[z,e1] at w1;cases w1
     have f1n:fl'≠A1.a1:=fun z=>by obtain⟨ws,w1,_⟩:=rc1.e1;rw[<-z,hfl'] at w1;cases w1
     have f2n:fl'≠A1.a2:=fun z=>by have w1:=rc1.e2;rw[<-z,hfl'] at w1;cases w1
     refine⟨⟨A.s,A1.dx,A1.b,fl',A1.rk,A1.dxr,A1.a1,A1.a2,A1.a3,A1.k+1⟩,_,_,rfl,b1.trans b2,⟨e2,se1.hr.tups tp2,⟨cf,rc1.move b2 tp2 (fun z hz=> ?_),rch⟩, ?_,fun z=>nrk z.symm,f1n,f2n⟩,rfl,eb,erk,ea1,ea2,ea3,edx, .inr ?_,rfl⟩
     ·have hz:z=A1.rk\/z=A1.a1\/z=A1.a2\/z=A1.a3:=by simpa using hz
      rcases hz with rfl | rfl | rfl | rfl
      ·exact hns nrk
      ·exact hns n1
      ·exact hns n2
      ·exact hns n3
     ·by_cases huw:u=w'
      ·rw[if_pos huw] at Vi
       refine .inl ⟨rb,ps,v,Vi,hval,hrm,c,fun j p hj hpj=> ?_⟩
       have hj:j<A1.k+1:=hj
       by_cases hjk:j=A1.k
       ·rw[hjk,hp] at hpj;cases hpj
        rw[ekn,huw]
       ·exact hall j p (by omega) hpj
      ·rw[if_neg huw] at Vi
       refine .inr ⟨Vi,fun r2 ps2 v2 e=> ?_⟩
       rw[hrm] at e;cases e
       exact .inr ⟨(x,u),List.mem_of_getElem? hp,w',ekn,fun z=>huw z.symm⟩
     ·exact jd b1 hfl' (hns (show fl'≠A.s from fun z=>by rw[z,e1] at hfl';cases hfl'))
 ·obtain⟨cf,rc1,rch⟩:=se1.c
  have am0:=rc1.e
  obtain⟨nn,cf',hst,hhalt,rch',gg⟩:=rch.afV hT3
  have knA:WD H1 d kn:=⟨kvs,ed1,hkn⟩
  have am1:d≠A1.a3:=by rw[ea3];exact nd3
  walk_at "vs"
  intro H2 b2 rc2
  have tp2:=rc1.lists b2
  have nss:A1.s∉[A1.a1,A1.a2,A1.a3]:=fun z=>by
   have e1:=se1.e
   have z:A1.s=A1.a1\/A1.s=A1.a2\/A1.s=A1.a3:=by simpa using z
   rcases z with z | z | z
   ·obtain⟨ws,w1,_⟩:=rc1.e1;rw[z,w1] at e1;cases e1
   ·rw[z,rc1.e2] at e1;cases e1
   ·rw[z,rc1.e3] at e1;cases e1
  have nfl:A1.fl∉[A1.a1,A1.a2,A1.a3]:=fun z=>by
   have z:A1.fl=A1.a1\/A1.fl=A1.a2\/A1.fl=A1.a3:=by simpa using z
   rcases z with z | z | z
   ·exact se1.n2 z
   ·exact se1.n3 z
   ·rw[z,rc1.e3] at Li;cases Li
  have se2:xm CS CR kr rm y r kn A1 H2:=⟨b2 _ _ nss se1.e,se1.hr.tups tp2,⟨cf',rc2,rch'⟩, .inr ⟨b2 _ _ nfl Li,nof⟩,se1.n1,se1.n2,se1.n3⟩
  have bb:But A.ft H H2:=(b1.mono (by simp[SeD.ft])).trans (b2.mono (by rw[ea1,ea2,ea3];simp[SeD.ft]))
  have qq:=q A1 H2 bb es eb erk ea1 ea2 ea3 efl se2
  unfold Goes at gg
  cases eev:ev kn r with
  | inr v=>
    rw[eev] at gg
    obtain⟨g1,g2,g3,g4⟩:=gg
    exact⟨fun _=>qq.1 (.inr ⟨b2 _ _ nfl Li,nof,cf',v,rc2,g2,g3,g4⟩),fun t x z=>by rw[g1] at z;simp at z⟩
  | inl x=>
    rw[eev] at gg
    obtain⟨⟨t,g1⟩,g2,g3⟩:=gg
    refine⟨fun z=>by rw[g1] at z;simp at z,fun t' x' z=> ?_⟩
    rw[g1] at z
    obtain⟨_,z⟩:=lM z
    cases z
    exact qq.2 x g2 g3
end
section
local macro_rules | `(tactic| walk_at "side") => `(tactic| first | exact Ar _ _ _ _ | exact xj _ _ _ _ | exact Av _ _ _ _ | exact su _ _ _ _ | exact (iH _ _ _ _).1 | exact (iH _ _ _ _).2.1 | exact (iH _ _ _ _).2.2.1 | exact (iH _ _ _ _).2.2.2 | exact Ei _ _ _ | exact JT _ _ _ | exact JV _ _ _ | exact Nat.le_of_ble_eq_true rfl)
variable {P:Program}{w:World}{K:PySem.W.Frag}{mg:Str->Option Value}{base:Heap}{CN CS CR:Addr}
abbrev cF:Stmt:=zj 12 4
theorem xJ:bH ["self"] ["self"] (aa cF):=⟨rfl,rfl,rfl,by decide +kernel,rfl,by decide +kernel,by decide +kernel⟩
theorem cB:aG (aa cF) "self":=by decide +kernel
theorem lW:(aa cF).names.lookup ("list":Str)=some NameKind.globalImplicit:=by decide +kernel
theorem sG:("list":Str)≠"__name__":=by decide +kernel
theorem sH:(("list":Str)==("__debug__":Str))=false:=by decide +kernel
theorem xK {f g0:Addr}{fd gd0:FuncData} (dU:iw K CS "new_record" "Settling.new_record" cF ["self"] f fd)
 (bD:iw K CS "was_reckoned" "Settling.was_reckoned" bN ["self"] g0 gd0) (jY:bf P w K mg base CX0 1 g0 gd0 ["self"] (Xr CS))
 (T:Blt mg) (sc:SeC K CS) (rcC:RkC K CR):bf P w K mg base CX0 2 f fd ["self"] (W7 CS CR):=by
 refine dU.F.okQ xJ (fun vs H Q E h=> ?_) (fun cdv A0 outer s H vs Q E hr h=> ?_)
 ·obtain⟨A,kr,n,rm,y,r,kn,rfl,_⟩:=h
  rfl
 obtain⟨A,kr,n,rm,y,r,kn,rfl,e,rD,n17,se,q⟩:=h
 have jX:=sc.cl
 have nR:=sc.nR
 have nF:=sc.nF
 have nP:=sc.nP
 have nK:=sc.nK
 have oO:=rcC.cl
 have nFo:=rcC.nF
 have nRe:=rcC.nR
 refine⟨_,(az (cJ (sX (za (aj 0 cB) jX bD.m (jY.mono (by omega)) hr bD.b .nil aY)) (aF (aW (gC (U6 (bW (aj 0 cB)) (uQ (ac7 rfl (bW (bW (aj 0 cB))) lW T.Nj) (jc (aN cR (bW (bW (aj 0 cB))) aB) aA)))))) bF)
  (aF (aW (gC (U6 (bW (aj 0 cB)) (uQ (jD Rv lW T.Nj Jg (jc (aN aK (aN cR (bW (aj 0 cB)) aB) aB) aA) sG sH) (jc (aN aK (aN cR (bW (aj 0 cB)) aB) aB) aA))))))), ?_⟩
 rcases se with⟨rb,ps,v,efl,hval,hrm,hall⟩ | ⟨efl,nof,c,v,rc1,hfo,got,rows⟩
 ·obtain⟨bb,hbb,br,l,as,f1,R1,el,hRs,_⟩:=rD.v y _ hrm
  rw[hval] at hbb
  cases hbb
  have f1:H rb=some (.tup [.ref br, .ref l, .int v]):=f1
  have hRs:gW H as ps:=hRs
  obtain⟨got,k0,hk0,ek0,rk0⟩:=rD.ok y r ps v hrm
  have hpl:ps.length<=k0:=T7 got.c rk0.i
  have a0:atI [V.ref rb] 0=some (.ref rb):=rfl
  have a1:atI [V.ref br, .ref l, .int v] 1=some (.ref l):=rfl
  have a2:atI [V.ref br, .ref l, .int v] 2=some (.int v):=rfl
  walk_at "vs"
  intro l' hl'
  have s1:=aD (.lst (as.map V.ref)) hl'
  have el1:upd H l' (.lst (as.map V.ref)) l'=some (.lst (as.map V.ref)):=ao
  have e1:=s1 _ _ e
  have Li:=s1 _ _ efl
  have f11:=s1 _ _ f1
  generalize upd H l' (.lst (as.map V.ref))=H1 at *
  walk_at "vs"
  intro rb' hrb'
  have s2:=aD (.tup [.ref A.b, .ref l', .int v]) hrb'
  exact q rb' l' as ps v false _ (s1.trans s2) ao hl' (s2 _ _ el1) (hRs.same (s1.trans s2)) ⟨got,⟨hall,(vN got.c).2⟩,hrm⟩ ⟨_,s2 _ _ Li,rfl⟩
 ·have e1:=rc1.e
  have e2:=rc1.e2
  rw[hfo] at e2
  have e3:=rc1.e3
  have a0:atI [V.int v] 0=some (.int v):=rfl
  walk_at "vs"
  intro l' as H1 s1 hl' el1 hal hit
  have e1':=s1 _ _ e1
  have e2':H1 A.a2=some (.lst [.int v]):=s1 _ _ e2
  have eS:=s1 _ _ e
  have Li:=s1 _ _ efl
  walk_at "vs"
  intro rb' hrb'
  have s2:=aD (.tup [.ref A.b, .ref l', .int v]) hrb'
  have hR:gW H1 as c.rds:=PX (by rw[hal];unfold rdK;rw[List.length_map]) fun j b p h1 h2=>by
   have h3:(rdK c.rds)[j]? =some (.inr p.1, .int p.2):=by unfold rdK;rw[List.getElem?_map,h2];rfl
   exact hit j b _ h1 h3
  exact q rb' l' as c.rds v true _ (s1.trans s2) ao hl' (s2 _ _ el1) (hR.same s2) ⟨got,rows,nof⟩ ⟨_,s2 _ _ Li,rfl⟩
end
section
local macro_rules | `(tactic| walk_at "side") => `(tactic| first | exact zc _ _ _ _ _ _ | exact sY _ _ _ _ _ _ | exact Ka _ _ _ _ _ _ | exact zf _ _ _ _ _ _ | exact sZ _ _ _ _ _ _ | exact qJ _ _ _ _ _ _ | exact (iI _ _ _ _ _ _).1 | exact (iI _ _ _ _ _ _).2.1 | exact (iI _ _ _ _ _ _).2.2.1 | exact (iI _ _ _ _ _ _).2.2.2.1 | exact (iI _ _ _ _ _ _).2.2.2.2 | exact (Gz _).1 | exact (Gz _).2 | exact (iH _ _ _ _).1 | exact (iH _ _ _ _).2.2.1 | exact (iH _ _ _ _).2.2.2 | exact Nat.le_of_ble_eq_true rfl)
variable {P:Program}{w:World}{K:PySem.W.Frag}{mg:Str->Option Value}{base:Heap}{CSe CN CS CR:Addr}
abbrev cZ:Stmt:=zj 13 0
theorem Cw:bH ["self","house","old"] ["self","house","old"] (aa cZ):=⟨rfl,rfl,rfl,by decide +kernel,rfl,by decide +kernel,by decide +kernel⟩
theorem eF:aG (aa cZ) "self":=by decide +kernel
theorem oF:aG (aa cZ) "house":=by decide +kernel
theorem xM:aG (aa cZ) "old":=by decide +kernel
theorem Cy {f:Addr}{fd:FuncData} (iC:iw K CSe "__init__" "Search.__init__" cZ ["self","house","old"] f fd) (sc:SrC K CSe):bf P w K mg base CX0 1 f fd ["self","house","old"] (Qa CSe):=by
 refine iC.F.okQ Cw (fun vs H Q E h=> ?_) (fun cdv A outer s H vs Q E hr h=> ?_)
 ·obtain⟨a,dx,h,g,c,o,rfl,_⟩:=h
  rfl
 obtain⟨a,dx,h,g,c,o,rfl,e,eh,q⟩:=h
 have oN:=sc.cl
 have nG:=sc.nG
 have nR:=sc.nR
 have nO:=sc.nO
 have nK:=sc.nK
 have nS:=sc.nS
 have nM:=sc.nM
 refine⟨_,(az (nC (aj 0 eF) (aN aK (aj 1 oF) aB))
  (az (nC (aj 0 eF) (aN aK (aj 1 oF) aB))
  (az (nC (aj 0 eF) (aj 2 xM))
  (az (nC (aj 0 eF) nU)
  (az (nC (aj 0 eF) nU)
  (aF (nC (aj 0 eF) nU))))))), ?_⟩
 have nha:h≠a:=fun z=>by rw[z,e] at eh;cases eh
 have a0:atI [V.ref g, .ref c] 0=some (.ref g):=rfl
 have a1:atI [V.ref g, .ref c] 1=some (.ref c):=rfl
 walk_at "vs"
 rw[wU,wU]
 have b1:But [a] H (upd H a (.ins CSe dx (bx "old" (.ref o) (bx "recipes" (.ref c) (bx "given" (.ref g) []))))):=But.set _ (by simp)
 have e1:upd H a (.ins CSe dx (bx "old" (.ref o) (bx "recipes" (.ref c) (bx "given" (.ref g) [])))) a=some (.ins CSe dx (bx "old" (.ref o) (bx "recipes" (.ref c) (bx "given" (.ref g) [])))):=ao
 have n1:∀{z},upd H a (.ins CSe dx (bx "old" (.ref o) (bx "recipes" (.ref c) (bx "given" (.ref g) [])))) z=none->H z=none:=fun z=>(eX z).2
 generalize upd H a (.ins CSe dx (bx "old" (.ref o) (bx "recipes" (.ref c) (bx "given" (.ref g) []))))=H1 at *
 walk_at "vs"
 intro kd hkd
 have s2:=aD (.dK []) hkd
 have ek2:upd H1 kd (.dK []) kd=some (.dK []):=ao
 have e2:=s2 _ _ e1
 generalize upd H1 kd (.dK [])=H2 at *
 have nka:kd≠a:=fun z=>by rw[z,e2] at ek2;cases ek2
 walk_at "vs"
 have b3:But [a] H2 (upd H2 a (.ins CSe dx (bx "known" (.ref kd) (bx "old" (.ref o) (bx "recipes" (.ref c) (bx "given" (.ref g) [])))))):=But.set _ (by simp)
 have e3:upd H2 a (.ins CSe dx (bx "known" (.ref kd) (bx "old" (.ref o) (bx "recipes" (.ref c) (bx "given" (.ref g) []))))) a=some (.ins CSe dx (bx "known" (.ref kd) (bx "old" (.ref o) (bx "recipes" (.ref c) (bx "given" (.ref g) []))))):=ao
 have ek3:upd H2 a (.ins CSe dx (bx "known" (.ref kd) (bx "old" (.ref o) (bx "recipes" (.ref c) (bx "given" (.ref g) []))))) kd=some (.dK []):=(au nka).trans ek2
 have n3:∀{z},upd H2 a (.ins CSe dx (bx "known" (.ref kd) (bx "old" (.ref o) (bx "recipes" (.ref c) (bx "given" (.ref g) []))))) z=none->H2 z=none:=fun z=>(eX z).2
 generalize upd H2 a (.ins CSe dx (bx "known" (.ref kd) (bx "old" (.ref o) (bx "recipes" (.ref c) (bx "given" (.ref g) [])))))=H3 at *
 intro sd hsd
 have s4:=aD (.dK []) hsd
 have es4:upd H3 sd (.dK []) sd=some (.dK []):=ao
 have nks:kd≠sd:=fun z=>by rw[<-z,ek3] at hsd;cases hsd
 have ek4:=s4 _ _ ek3
 have e4:=s4 _ _ e3
 generalize upd H3 sd (.dK [])=H4 at *
 have nsa:sd≠a:=fun z=>by rw[z,e4] at es4;cases es4
 walk_at "vs"
 have b5:But [a] H4 (upd H4 a (.ins CSe dx (bx "settled" (.ref sd) (bx "known" (.ref kd) (bx "old" (.ref o) (bx "recipes" (.ref c) (bx "given" (.ref g) []))))))):=But.set _ (by simp)
 have e5:upd H4 a (.ins CSe dx (bx "settled" (.ref sd) (bx "known" (.ref kd) (bx "old" (.ref o) (bx "recipes" (.ref c) (bx "given" (.ref g) [])))))) a=some (.ins CSe dx (bx "settled" (.ref sd) (bx "known" (.ref kd) (bx "old" (.ref o) (bx "recipes" (.ref c) (bx "given" (.ref g) [])))))):=ao
 have ek5:upd H4 a (.ins CSe dx (bx "settled" (.ref sd) (bx "known" (.ref kd) (bx "old" (.ref o) (bx "recipes" (.ref c) (bx "given" (.ref g) [])))))) kd=some (.dK []):=(au nka).trans ek4
 have es5:upd H4 a (.ins CSe dx (bx "settled" (.ref sd) (bx "known" (.ref kd) (bx "old" (.ref o) (bx "recipes" (.ref c) (bx "given" (.ref g) [])))))) sd=some (.dK []):=(au nsa).trans es4
 have n5:∀{z},upd H4 a (.ins CSe dx (bx "settled" (.ref sd) (bx "known" (.ref kd) (bx "old" (.ref o) (bx "recipes" (.ref c) (bx "given" (.ref g) [])))))) z=none->H4 z=none:=fun z=>(eX z).2
 generalize upd H4 a (.ins CSe dx (bx "settled" (.ref sd) (bx "known" (.ref kd) (bx "old" (.ref o) (bx "recipes" (.ref c) (bx "given" (.ref g) []))))))=H5 at *
 intro rd hrd
 have s6:=aD (.dK []) hrd
 have er6:upd H5 rd (.dK []) rd=some (.dK []):=ao
 have nkr:kd≠rd:=fun z=>by rw[<-z,ek5] at hrd;cases hrd
 have nsr:sd≠rd:=fun z=>by rw[<-z,es5] at hrd;cases hrd
 have ek6:=s6 _ _ ek5
 have es6:=s6 _ _ es5
 have e6:=s6 _ _ e5
 generalize upd H5 rd (.dK [])=H6 at *
 have nra:rd≠a:=fun z=>by rw[z,e6] at er6;cases er6
 walk_at "vs"
 have hk0:H kd=none:=n1 hkd
 have hs0:H sd=none:=n1 (same_none s2 (n3 hsd))
 have hr0:H rd=none:=n1 (same_none s2 (n3 (same_none s4 (n5 hrd))))
 exact q kd sd rd _ ((b1.trans (But.of_same s2)).trans (b3.trans ((But.of_same s4).trans (b5.trans ((But.of_same s6).trans (But.set _ (by simp))))))) ao hk0 hs0 hr0 nks nkr nsr ((au nka).trans ek6) ((au nsa).trans es6) ((au nra).trans er6)
abbrev dI:Stmt:=zj 13 1
theorem yp:bH ["self","name","r"] ["self","name"] (aa dI):=⟨rfl,rfl,rfl,by decide +kernel,rfl,by decide +kernel,by decide +kernel⟩
theorem mF:aG (aa dI) "name":=by decide +kernel
theorem mG:aG (aa dI) "self":=by decide +kernel
theorem Eu:Loc (aa dI) "r":=by decide +kernel
theorem u9:(aa dI).names.lookup ("Settling":Str)=some NameKind.globalImplicit:=by decide +kernel
theorem uD:aG (aa dI) "r":=by decide +kernel
theorem vd:(("Settling":Str)==("__debug__":Str))=false:=by decide +kernel
theorem Ip {f g0 g1:Addr}{fd gd0 gd1:FuncData} (jh:iw K CSe "begin" "Search.begin" dI ["self","name"] f fd)
 (cD:iw K CN "records_for" "NamedRecords.records_for" aX ["self","name","r"] g0 gd0) (tD:bf P w K mg base CX0 13 g0 gd0 ["self","name","r"] (W5 CN))
 (gB:iw K CS "__init__" "Settling.__init__" cA ["self","r","records"] g1 gd1) (Ba:bf P w K mg base CX0 3 g1 gd1 ["self","r","records"] (PK CS CR))
 (Cz:Mk K CS g1) (CG:mg "Settling"=some (.ref CS)) (T:Blt mg) (sc:SrC K CSe) (nc:NrC K CN):bf P w K mg base CX0 14 f fd ["self","name"] (Ue CSe CN CS CR):=by
 refine jh.F.okQ yp (fun vs H Q E h=> ?_) (fun cdv A0 outer s H vs Q E hr h=> ?_)
 ·obtain⟨D,n,gv,rc,kg,kc,kr,rm,y,r,rfl,_⟩:=h
  rfl
 obtain⟨D,n,gv,rc,kg,kc,kr,rm,y,r,rfl,sh,hrc,q⟩:=h
 have oN:=sc.cl
 have nR:=sc.nR
 have nO:=sc.nO
 have nZ:=nc.cl
 have e:=sh.e
 have ec:=sh.ec
 have eo:=sh.eo
 have er:=sh.er
 have rD:=sh.rD
 obtain⟨br,hbr,hR⟩:=sh.bd.r y r hrc
 obtain⟨k0,hk0,ek0,rk0⟩:=sh.bd.ok.rk y r hrc
 have hg:=rk0.g
 have hd8:r.depth<=8:=by have:=rk0.d;omega
 have hw:wR r<=4000:=by
  have:=J9 r 4 rk0.d
  have:(3:Nat)^ 4=81:=by decide
  omega
 have dc:bK H D.c (.str y) (some (.ref br)):=by rw[<-hbr];exact bK.k (k:= .inr y) ec
 refine⟨_,(az (cJ (lO (bO hr) (aj 1 mF) (bW (aj 0 mG))) (aF Pj) bF)
  (az (bB (i:=2) yp.nd rfl Eu (cY (bO hr) (bW (aj 0 mG)) (aj 1 mF)))
  (aF (aW (Jk Cz (Ba.mono (by omega)) hr u9 CG gB.b .nil aY (aH (aj 2 uD) (uQ (rY (bW (aj 0 mG)) nZ cD.m (tD.mono (by omega)) hr cD.b .nil aY (aH (aj 1 mF) (aH (aj 2 uD) aA))) aA)) vd))))), ?_⟩
 walk_at "vs"
 intro fl H1 s1 hfl fit
 have hR1:=hR.same s1
 walk_at "vs"
 intro a dx ha hdx hne
 have haH:(upd H1 dx (.own a)) a=none:=(au (Ne.symm hne)).trans ha
 have S1:=(aD (.own a) hdx).trans (aD (.ins CS dx []) haH)
 refine⟨a,dx,br,fl,r,rfl,ao,hR1.same S1,hw,fun A H2 b2 eA eb efl ek e2 rc2 hfr=>⟨rfl, ?_⟩⟩
 have S2:aM H1 H2:=fB S1 (fun p hp=>by
  have:p=a:=by simpa using hp
  rw[this];exact ha) b2
 have Vj:∀z∈[A.rk,A.a1,A.a2,A.a3],H1 z=none:=fun z hz=>same_none S1 (hfr z hz)
 have af0:H1 fl≠none:=fun z=>by
  rcases fit kn0 with⟨rb,ps,v,w1,_⟩ | ⟨w1,_⟩
  ·rw[z] at w1;cases w1
  ·rw[z] at w1;cases w1
 rw[<-eA]
 refine q A H2 (s1.trans S2) (fun z hz=> ?_) (fun kn=>⟨?_, ?_,⟨_,rc2,⟨0, .zero⟩⟩, ?_,fun z=> ?_,fun z=> ?_,fun z=> ?_⟩)
 ·have hz:z=A.s\/z=A.fl\/z=A.rk\/z=A.a1\/z=A.a2\/z=A.a3:=by simpa [SeD.ft] using hz
  rcases hz with w | w | w | w | w | w
  ·rw[w,eA];exact same_none s1 ha
  ·rw[w,efl];exact hfl
  ·exact same_none s1 (Vj z (by simp[w]))
  ·exact same_none s1 (Vj z (by simp[w]))
  ·exact same_none s1 (Vj z (by simp[w]))
  ·exact same_none s1 (Vj z (by simp[w]))
 ·rw[eA,eb,efl,ek];exact e2
 ·rw[eb];exact hR1.same S2
 ·rw[efl,ek];exact(fit kn).at fun o e=>S2 _ _ e
 ·have:=hfr A.rk (by simp)
  rw[<-z,eA,ao] at this;cases this
 ·exact af0 (by rw[<-efl,z];exact Vj _ (by simp))
 ·exact af0 (by rw[<-efl,z];exact Vj _ (by simp))
end
section
local macro_rules | `(tactic| walk_at "side") => `(tactic| first | exact zc _ _ _ _ _ _ | exact sY _ _ _ _ _ _ | exact Ka _ _ _ _ _ _ | exact zf _ _ _ _ _ _ | exact sZ _ _ _ _ _ _ | exact qJ _ _ _ _ _ _ | exact (iI _ _ _ _ _ _).1 | exact (iI _ _ _ _ _ _).2.1 | exact (iI _ _ _ _ _ _).2.2.1 | exact (iI _ _ _ _ _ _).2.2.2.1 | exact (iI _ _ _ _ _ _).2.2.2.2 | exact (Gz _).1 | exact (Gz _).2 | exact (iH _ _ _ _).1 | exact (iH _ _ _ _).2.2.1 | exact (iH _ _ _ _).2.2.2 | exact Nat.le_of_ble_eq_true rfl)
variable {P:Program}{w:World}{K:PySem.W.Frag}{mg:Str->Option Value}{base:Heap}{CSe CN CS CR:Addr}
abbrev fJ:Stmt:=zj 13 2
theorem BP:bH ["self","name","settling","record"] ["self","name","settling"] (aa fJ):=⟨rfl,rfl,rfl,by decide +kernel,rfl,by decide +kernel,by decide +kernel⟩
theorem zN:Loc (aa fJ) "record":=by decide +kernel
theorem pL:aG (aa fJ) "settling":=by decide +kernel
theorem lq:aG (aa fJ) "self":=by decide +kernel
theorem oR:aG (aa fJ) "name":=by decide +kernel
theorem mH:aG (aa fJ) "record":=by decide +kernel
theorem Lj {f g0 g1 g2:Addr}{fd gd0 gd1 gd2:FuncData} (lu:iw K CSe "end" "Search.end" fJ ["self","name","settling"] f fd)
 (dU:iw K CS "new_record" "Settling.new_record" cF ["self"] g0 gd0) (yE:bf P w K mg base CX0 2 g0 gd0 ["self"] (W7 CS CR))
 (bD:iw K CS "was_reckoned" "Settling.was_reckoned" bN ["self"] g1 gd1) (jY:bf P w K mg base CX0 1 g1 gd1 ["self"] (Xr CS))
 (cW:iw K CN "put_made" "NamedRecords.put_made" cV ["self","record"] g2 gd2) (wg:bf P w K mg base CX0 1 g2 gd2 ["self","record"] aa8)
 (T:Blt mg) (sr:SrC K CSe) (sc:SeC K CS) (nc:NrC K CN):bf P w K mg base CX0 3 f fd ["self","name","settling"] (Xa CSe CN CS CR):=by
 refine lu.F.okQ BP (fun vs H Q E h=> ?_) (fun cdv A0 outer s H vs Q E hr h=> ?_)
 ·obtain⟨D,n,gv,rc,kg,kc,kr,rm,kn,rmN,rkn,Hf,A,y,r,rfl,_⟩:=h
  rfl
 obtain⟨D,n,gv,rc,kg,kc,kr,rm,kn,rmN,rkn,Hf,A,y,r,rfl,sh,so,e,hR,se,hkn,hgv,hrc,hy,hft,q⟩:=h
 have oN:=sr.cl
 have nK:=sr.nK
 have nS:=sr.nS
 have nM:=sr.nM
 have nO:=sr.nO
 have jX:=sc.cl
 have nZ:=nc.cl
 obtain⟨e0,_,_,_,eo0,_,rD0,n17,nks,nkr,nsr⟩:=sh.same so.sm
 refine⟨_,(az (bB (i:=3) BP.nd rfl zN (za (aj 2 pL) jX dU.m (yE.mono (by omega)) hr dU.b .nil aY))
  (az (gQ (bO hr) (bW (aj 0 lq)) (aj 1 oR) (aN aK (aj 3 mH) aB))
  (az (gQ (bO hr) (bW (aj 0 lq)) (aj 1 oR) (aj 3 mH))
  (aF (cJ (sX (za (aj 2 pL) jX bD.m (jY.mono (by omega)) hr bD.b .nil aY)) (az (gQ (bO hr) (bW (aj 0 lq)) (aj 1 oR) BK)
  (aF (fY (rY (bW (aj 0 lq)) nZ cW.m (wg.mono (by omega)) hr cW.b .nil aY (aH (aj 3 mH) aA))))) bF))))), ?_⟩
 walk_at "vs"
 intro rb l as ps v made H1 s1 erb hl el hRs rcd ⟨xs,efl,exs⟩
 obtain⟨kw,ws,ek,kk1,hkw⟩:=so.ek
 obtain⟨ks,es,rDs⟩:=so.es
 obtain⟨kk,rs,er,kk3,hkk,hrn⟩:=so.er
 have hkl:kw.length<=n:=so.kl kk1 hkw
 have hsl:ks.length<=n:=rDs.len
 have hrm:rmN y=none:=by
  cases z:rmN y with
  | none=>rfl
  | some q'=>
    obtain⟨r1,ps1,v1⟩:=q'
    have:=(so.ok.b y r1 ps1 v1 z).2.2.1
    rw[hkn] at this;cases this
 have hry:rkn y=false:=by
  cases z:rkn y with
  | false=>rfl
  | true=>exact absurd hrm (hrn y z)
 have hrl:kk.length<=n:=by
  rw[kk3.len,<-jn n]
  refine iy kk3.nd fun x hx=> ?_
  cases z:rmN x with
  | none=>
    have:rkn x=false:=by
     cases w:rkn x with
     | false=>rfl
     | true=>exact absurd z (hrn x w)
    exact absurd hx (kk3.none.mp (by rw[hkk,this];rfl))
  | some q'=>
    obtain⟨r1,ps1,v1⟩:=q'
    exact(so.ok.a x v1 (so.ok.b x r1 ps1 v1 z).2.2.1).1
 have e1:=s1 _ _ e
 have e01:=s1 _ _ e0
 have ek1:=s1 _ _ ek
 have es1:=s1 _ _ es
 have er1:=s1 _ _ er
 have eo1:=s1 _ _ eo0
 have a2:atI [V.ref A.b, .ref l, .int v] 2=some (.int v):=rfl
 obtain⟨H2,eH2⟩:∃H2,H2=upd H1 D.kd (.dK (putK kw (.inr y) (.int v))):=⟨_,rfl⟩
 have dp1:jF H1 D.kd (.str y) (.int v) H2:=by rw[eH2];exact jF.k (k:= .inr y) ek1 (bR (by omega))
 have k2:∀{z:Addr}{o:HO},z≠D.kd->H1 z=some o->H2 z=some o:=fun h h'=>by rw[eH2];exact(au h).trans h'
 have j2:∀{z:Addr}{o:HO},H1 z=some o->(∀ks',o≠ .dK ks')->H2 z=some o:=fun{z o} h1 h2=>k2 (fun w=>by rw[w,ek1] at h1;cases h1;exact h2 _ rfl) h1
 have ek2:H2 D.kd=some (.dK (putK kw (.inr y) (.int v))):=by rw[eH2];exact ao
 have es2:=k2 (Ne.symm nks) es1
 have er2:=k2 (Ne.symm nkr) er1
 have b2:But [D.kd,D.sd,D.rd] H1 H2:=by rw[eH2];exact But.set _ (by simp)
 have e02:=j2 e01 (by simp)
 have e2:=j2 e1 (by simp)
 have eo2:=j2 eo1 (by simp)
 have Vi:=j2 efl (by simp)
 have am2:=j2 erb (by simp)
 clear eH2
 obtain⟨H3,eH3⟩:∃H3,H3=upd H2 D.sd (.dK (putK ks (.inr y) (.ref rb))):=⟨_,rfl⟩
 have dp2:jF H2 D.sd (.str y) (.ref rb) H3:=by rw[eH3];exact jF.k (k:= .inr y) es2 (bR (by omega))
 have k3:∀{z:Addr}{o:HO},z≠D.sd->H2 z=some o->H3 z=some o:=fun h h'=>by rw[eH3];exact(au h).trans h'
 have j3:∀{z:Addr}{o:HO},H2 z=some o->(∀ks',o≠ .dK ks')->H3 z=some o:=fun{z o} h1 h2=>k3 (fun w=>by rw[w,es2] at h1;cases h1;exact h2 _ rfl) h1
 have es3:H3 D.sd=some (.dK (putK ks (.inr y) (.ref rb))):=by rw[eH3];exact ao
 have ek3:=k3 nks ek2
 have er3:=k3 (Ne.symm nsr) er2
 have b3:But [D.kd,D.sd,D.rd] H2 H3:=by rw[eH3];exact But.set _ (by simp)
 have e03:=j3 e02 (by simp)
 have e3:=j3 e2 (by simp)
 have eo3:=j3 eo2 (by simp)
 have am3:=j3 Vi (by simp)
 have B3:But [D.kd,D.sd,D.rd] H H3:=(But.of_same s1).trans (b2.trans b3)
 clear eH3
 have gs:=Zw so.sm s1
 have gi:=Zx so.sm s1
 have gt:jz H1 (grow Hf H H1):=Ve
 have gk:=Jo (Hf:=Hf) s1 ⟨_,ek,by simp⟩ so.fk
 have gss:=Jo (Hf:=Hf) s1 ⟨_,es,by simp⟩ so.fs
 have gr:=Jo (Hf:=Hf) s1 ⟨_,er,by simp⟩ so.fr
 have gl:grow Hf H H1 l=some (.lst (as.map V.ref)):=(W9 hl).trans el
 have ra:qm [] (grow Hf H H1) rb (r,ps,v):=⟨A.b,l,as,gt _ _ erb,(hR.same s1).tups gt,gl,hRs.tups gt,by simp⟩
 have hgot:=rcd.1
 have hrows:=rcd.2.1
 obtain⟨k0,hk0,ek0,rk0⟩:=sh.bd.ok.rk y r hrc
 have rD':=(rDs.map (H':=grow Hf H H1) fun _ _ z=>z.same gs).put hy ra ⟨hgot,k0,hk0,ek0,rk0⟩
 have ok':=so.ok.uT hy hkn hgv hrc hgot hrows
 have lek:Kn.Le kn (kn.put y v):=Kn.qg hkn
 have md':∀x r1 ps1 v1,(rmN.put y (r,ps,v)) x=some (r1,ps1,v1)->Rcd rm x r1 (kn.put y v) ps1 v1 (if x=y then made else rkn x):=fun x r1 ps1 v1 h=>by
  unfold Rm.put at h
  by_cases z:x=y
  ·rw[if_pos z] at h ⊢
   cases h
   rw[z];exact rcd.le lek
  ·rw[if_neg z] at h ⊢
   exact(so.md x r1 ps1 v1 h).le lek
 have hyw:y∉ws:=kk1.none.mp (by rw[hkw,hkn];rfl)
 have hyr:y∉rs:=kk3.none.mp (by rw[hkk,hry];rfl)
 have af1:∀{H'},But [D.kd,D.sd,D.rd] H1 H'->aM (grow Hf H H1) H':=fun b z o h=>b z o (fun w=>by
  have w:z=D.kd\/z=D.sd\/z=D.rd:=by simpa using w
  rcases w with w | w | w
  ·rw[w,gk] at h;cases h
  ·rw[w,gss] at h;cases h
  ·rw[w,gr] at h;cases h) (gi z o h)
 have fin:∀H' kk' rs',But [D.kd,D.sd,D.rd] H1 H'->H' D.kd=some (.dK (putK kw (.inr y) (.int v)))->H' D.sd=some (.dK (putK ks (.inr y) (.ref rb)))->H' D.rd=some (.dK kk')->mZ kk' rs'->(∀x,dH kk' (.inr x)=if(if x=y then made else rkn x)=true then some (.bl true) else none)->Q .non H':=fun H' kk' rs' bb h1 h2 h3 h4 h5=>by
  refine q v ps made (grow Hf H H1) H' ((But.of_same s1).trans bb) gs (fun z m hz=>Jo s1 m hz) ⟨af1 bb,gk,gss,gr,⟨_,_,h1,kk1.ql hyw _,Eo hkw y v⟩,⟨_,h2,rD'⟩,⟨_,_,h3,h4,h5,fun x hx=> ?_⟩,ok',md'⟩
  unfold Rm.put
  by_cases z:x=y
  ·rw[if_pos z];simp
  ·rw[if_neg z] at hx ⊢;exact hrn x hx
 cases hm:made with
 | false=>
   rw[hm] at exs
   have hxs:decide (xs.length=0)=false:=exs
   walk_at "vs"
   rw[hxs]
   walk_at "vs"
   refine fin H3 kk rs (b2.trans b3) ek3 es3 er3 kk3 fun x=> ?_
   rw[hkk,hm]
   by_cases z:x=y
   ·rw[if_pos z,z,hry]
   ·rw[if_neg z]
 | true=>
   rw[hm] at exs
   have hxs:decide (xs.length=0)=true:=exs
   obtain⟨H4,eH4⟩:∃H4,H4=upd H3 D.rd (.dK (putK kk (.inr y) (.bl true))):=⟨_,rfl⟩
   have dp3:jF H3 D.rd (.str y) (.bl true) H4:=by rw[eH4];exact jF.k (k:= .inr y) er3 (bR (by omega))
   have k4:∀{z:Addr}{o:HO},z≠D.rd->H3 z=some o->H4 z=some o:=fun h h'=>by rw[eH4];exact(au h).trans h'
   have j4:∀{z:Addr}{o:HO},H3 z=some o->(∀ks',o≠ .dK ks')->H4 z=some o:=fun{z o} h1 h2=>k4 (fun w=>by rw[w,er3] at h1;cases h1;exact h2 _ rfl) h1
   have er4:H4 D.rd=some (.dK (putK kk (.inr y) (.bl true))):=by rw[eH4];exact ao
   have ek4:=k4 nkr ek3
   have es4:=k4 nsr es3
   have b4:But [D.kd,D.sd,D.rd] H3 H4:=by rw[eH4];exact But.set _ (by simp)
   have e04:=j4 e03 (by simp)
   have eo4:=j4 eo3 (by simp)
   clear eH4
   walk_at "vs"
   rw[hxs]
   walk_at "vs"
   refine⟨⟨_,_,rfl⟩, ?_⟩
   refine fin H4 _ _ (b2.trans (b3.trans b4)) ek4 es4 er4 (kk3.ql hyr _) fun x=> ?_
   rw[iQ,hm]
   by_cases z:x=y
   ·rw[if_pos (by rw[z]),if_pos z];rfl
   ·rw[if_neg (pC z),if_neg z];exact hkk x
end
section
local macro_rules | `(tactic| walk_at "side") => `(tactic| first | exact zc _ _ _ _ _ _ | exact sY _ _ _ _ _ _ | exact Ka _ _ _ _ _ _ | exact zf _ _ _ _ _ _ | exact sZ _ _ _ _ _ _ | exact qJ _ _ _ _ _ _ | exact (iI _ _ _ _ _ _).1 | exact (iI _ _ _ _ _ _).2.1 | exact (iI _ _ _ _ _ _).2.2.1 | exact (iI _ _ _ _ _ _).2.2.2.1 | exact (iI _ _ _ _ _ _).2.2.2.2 | exact (Gz _).1 | exact (Gz _).2 | exact (iH _ _ _ _).1 | exact (iH _ _ _ _).2.2.1 | exact (iH _ _ _ _).2.2.2 | exact Nat.le_of_ble_eq_true rfl)
variable {P:Program}{w:World}{K:PySem.W.Frag}{mg:Str->Option Value}{base:Heap}{CSe CN CS CR:Addr}
abbrev bL:Stmt:=zj 13 5
theorem jZ:bH ["self","name","path","begun","last","other"] ["self","name"] (aa bL):=⟨rfl,rfl,rfl,by decide +kernel,rfl,by decide +kernel,by decide +kernel⟩
theorem yF:Loc (aa bL) "path":=by decide +kernel
theorem yG:aG (aa bL) "name":=by decide +kernel
theorem xN:Loc (aa bL) "begun":=by decide +kernel
theorem gF:aG (aa bL) "path":=by decide +kernel
theorem yH:Loc (aa bL) "last":=by decide +kernel
theorem bZ:aG (aa bL) "last":=by decide +kernel
theorem dW:aG (aa bL) "self":=by decide +kernel
theorem iV:aG (aa bL) "begun":=by decide +kernel
theorem xO:Loc (aa bL) "other":=by decide +kernel
theorem lA:aG (aa bL) "other":=by decide +kernel
theorem GD {f g0 g1 g2:Addr}{fd gd0 gd1 gd2:FuncData} (iK:iw K CSe "settle" "Search.settle" bL ["self","name"] f fd)
 (jh:iw K CSe "begin" "Search.begin" dI ["self","name"] g0 gd0) (Kr:bf P w K mg base CX0 14 g0 gd0 ["self","name"] (Ue CSe CN CS CR))
 (fL:iw K CS "lacking" "Settling.lacking" bJ ["self","known"] g1 gd1) (CJ:bf P w K mg base CX0 4 g1 gd1 ["self","known"] (PL CS CR))
 (lu:iw K CSe "end" "Search.end" fJ ["self","name","settling"] g2 gd2) (NZ:bf P w K mg base CX0 3 g2 gd2 ["self","name","settling"] (Xa CSe CN CS CR))
 (T:Blt mg) (sr:SrC K CSe) (sc:SeC K CS):bf P w K mg base CX0 15 f fd ["self","name"] (Qc CSe CN):=by
 refine iK.F.okQ jZ (fun vs H Q E h=> ?_) (fun cdv A0 outer s H vs Q E hr h=> ?_)
 ·obtain⟨D,n,gv,rc,kg,kc,kr,rm,kn,rmN,rkn,Hf,x,rfl,_⟩:=h
  rfl
 obtain⟨D,n,gv,rc,kg,kc,kr,rm,knI,af2,af3,HfI,x,rfl,shI,soI,hx,q⟩:=h
 obtain⟨k0,hk0,ex⟩:=dD.mp hx
 have oN:=sr.cl
 have nG:=sr.nG
 have nK:=sr.nK
 have jX:=sc.cl
 have n17:=shI.n17
 have e0:=soI.sm _ _ shI.e
 refine⟨_,(az (bB (i:=2) jZ.nd rfl yF (eG (aH (aj 1 yG) aA)))
  (az (bB (i:=3) jZ.nd rfl xN nU)
  (aF (Ec PassesOwn.never (Jz (aj 2 gF)) (az (bB (i:=4) jZ.nd rfl yH (aN cR (aj 2 gF) (Mr Al aB)))
  (az (cJ (uU (bO hr) (aj 4 bZ) (bW (aj 0 dW))) (aF (gQ (bO hr) (bW (aj 0 dW)) (aj 4 bZ) (cY (bO hr) (bW (aj 0 dW)) (aj 4 bZ)))) bF)
  (az (cJ (uU (bO hr) (aj 4 bZ) (bW (aj 0 dW))) (az (fY (Gq PySem.F.plainAttrs_list PySem.F.slot_list_pop PySem.F.type_list_pop Am (aj 2 gF)))
  (aF O7)) bF)
  (az (cJ (lO (bO hr) (aj 4 bZ) (aj 3 iV)) (aF (gQ (bO hr) (aj 3 iV) (aj 4 bZ) (rY (aj 0 dW) oN jh.m (Kr.mono (by omega)) hr jh.b .nil aY (aH (aj 4 bZ) aA)))) bF)
  (az (bB (i:=5) jZ.nd rfl xO (rY (cY (bO hr) (aj 3 iV) (aj 4 bZ)) jX fL.m (CJ.mono (by omega)) hr fL.b .nil aY (U6 (bW (aj 0 dW)) aA)))
  (aF (cJ (bT Y6 (aj 5 lA) Rq (aO _)) (aF (fY (rY (aj 0 dW) oN lu.m (NZ.mono (by omega)) hr lu.b .nil aY (aH (aj 4 bZ) (jc (cY (bO hr) (aj 3 iV) (aj 4 bZ)) aA))))) (aF (cJ (bT mq (aj 5 lA) (aj 2 gF) rfl) (aF Pj) (aF (fY (uz PySem.F.plainAttrs_list PySem.F.slot_list_append PySem.F.type_list_append jb (aj 2 gF) (aH (aj 5 lA) aA))))))))))))))))), ?_⟩
 walk_at "vs"
 intro pth hpth
 have s1:=aD (.lst [.str x]) hpth
 have ep1:upd H pth (.lst [.str x]) pth=some (.lst [.str x]):=ao
 have so1:=soI.same s1
 generalize upd H pth (.lst [.str x])=H1 at *
 walk_at "vs"
 intro bgd hbgd
 have s2:=aD (.dK []) hbgd
 have eb2:upd H1 bgd (.dK []) bgd=some (.dK []):=ao
 have so2:=so1.same s2
 have ep2:=s2 _ _ ep1
 have S2:=s1.trans s2
 have nn:pth≠bgd:=fun z=>by rw[<-z,ep1] at hbgd;cases hbgd
 have fI:∀{z:Addr},H z=none->HfI z=none:=fun{z} h=>by
  cases q':HfI z with
  | none=>rfl
  | some o=>have:=soI.sm _ _ q';rw[h] at this;cases this
 have hb0:=same_none s1 hbgd
 have alI:∀z∈[D.kd,D.sd,D.rd],H z≠none:=fun z hz=>by
  obtain⟨kw,ws,e2,_⟩:=soI.ek
  obtain⟨ks',e3,_⟩:=soI.es
  obtain⟨kk,rs,e4,_⟩:=soI.er
  have hz:z=D.kd\/z=D.sd\/z=D.rd:=by simpa using hz
  rcases hz with rfl | rfl | rfl
  ·rw[e2];simp
  ·rw[e3];simp
  ·rw[e4];simp
 generalize upd H1 bgd (.dK [])=H2 at *
 have lp0:LpI CSe CN CS CR D pth bgd n gv rc kg kc kr rm knI HfI H x k0 [k0] knI af2 af3 (fun _=>none) HfI H2:=
  ⟨But.of_same S2,aM.refl _,fun _ _ z=>z,shI,so2,by rw[ex] at ep2;exact ep2,fI hpth,fI hb0,hpth,hb0,fun z=>alI _ z hpth,fun z=>alI _ z hb0,nn,by simp,by simpa using hk0,by simp,fun i hi=>by
    have:i=k0:=by simpa using hi
    rw[this,<-ex];exact .refl,Kn.Le.refl _,fun y hy=> .inl hy,⟨⟨[],[],eb2,⟨rfl,by simp⟩,fun y=>by rw[yQ];rfl⟩,fun y hy=>absurd rfl hy,fun y A hy=>(nomatch hy),fun y A hy=>(nomatch hy),fun y y' A A' _ hy=>(nomatch hy)⟩, .inl rfl,fun y A hy=>(nomatch hy)⟩
 refine⟨fun m σ H'=>∃(is:List Nat) (kn:Kn) (rmN:Rm) (rkn:Str->Bool) (bg:Str->Option SeD) (Hf:Hp) (t1 t2:Option V),σ=[some (.ref D.so),some (.str x),some (.ref pth),some (.ref bgd),t1,t2]/\LpI CSe CN CS CR D pth bgd n gv rc kg kc kr rm knI HfI H x k0 is kn rmN rkn bg Hf H'/\m=Ia n kn is,
  ⟨_,[k0],knI,af2,af3,fun _=>none,HfI,none,none,rfl,lp0,rfl⟩, ?_⟩
 rintro m σ H3 ⟨is,kn,rmN,rkn,bg,Hf,t1,t2,rfl,lp,rfl⟩
 have ep:=lp.ep
 have e3:=lp.so.sm _ _ lp.sh.e
 have hlen:=lp.len
 rcases List.eq_nil_or_concat is with hnil | ⟨js,i,his⟩
 ·subst hnil
  have ep:H3 pth=some (.lst []):=ep
  walk_at "vs"
  have hkx:kn x≠none:=by
   rcases lp.hd with z | ⟨_,z⟩
   ·cases z
   ·exact z
  exact q kn rmN rkn Hf H3 lp.b lp.sf lp.fm lp.so lp.le hkx lp.new
 ·rw[List.concat_eq_append] at his
  subst his
  have hi:i<n:=lp.lt i (by simp)
  have hne:((js++[i]).map fun i=>V.str (aq i)).isEmpty=false:=by simp
  have hla:atI ((js++[i]).map fun i=>V.str (aq i)) (-1)=some (.str (aq i)):=Za (by rw[List.map_append];rfl)
  have hdl:((js++[i]).map fun i=>V.str (aq i)).dropLast=js.map fun i=>V.str (aq i):=by rw[List.map_append];exact List.dropLast_concat
  have hll:((js++[i]).map fun i=>V.str (aq i))[((js++[i]).map fun i=>V.str (aq i)).length - 1]? =some (.str (aq i)):=by simp
  have hjl:js.length+1<=17:=by rw[List.length_append] at hlen;exact hlen
  have un:=lp.un
  rw[List.dropLast_concat] at un
  refine⟨_,rfl,true, .inl ⟨_,SqL.of ep,by simp⟩, ?_⟩
  refine(if_pos (rfl:true=true)).mpr ?_
  refine⟨fun σ' H'=>Wr (∃(is:List Nat) (kn':Kn) (rmN:Rm) (rkn:Str->Bool) (bg:Str->Option SeD) (Hf:Hp) (t1 t2:Option V),σ'=[some (.ref D.so),some (.str x),some (.ref pth),some (.ref bgd),t1,t2]/\LpI CSe CN CS CR D pth bgd n gv rc kg kc kr rm knI HfI H x k0 is kn' rmN rkn bg Hf H'/\Ia n kn' is<Ia n kn (js++[i])),fun σ' H' ⟨⟨is',kn',Qd,rkn',bg',Hf',t1',t2',z1,z2,z3⟩⟩=>⟨_,z3,is',kn',Qd,rkn',bg',Hf',t1',t2',z1,z2,rfl⟩, ?_⟩
  obtain⟨kw,ws,ek,kkw,hkw⟩:=lp.so.ek
  have hkl:=lp.so.kl kkw hkw
  have eg3:=lp.so.sm _ _ lp.sh.eg
  have hbd:=lp.sh.bd
  have hy:aq i∈nmK n:=dD.mpr ⟨i,hi,rfl⟩
  have dg:bK H3 D.g (.str (aq i)) ((gv (aq i)).map V.int):=by rw[<-hbd.g];exact bK.k (k:= .inr (aq i)) eg3
  have np:=lp.np
  simp only[List.mem_cons,List.not_mem_nil,or_false,not_or] at np
  cases hgv:gv (aq i) with
  | some v=>
    rw[hgv] at dg
    have dg:bK H3 D.g (.str (aq i)) (some (.int v)):=dg
    obtain⟨so4,le4⟩:=lp.so.giv ek kkw hkw hy hgv lp.sh.ne
    have b4:But [D.kd,D.sd,D.rd] H3 (upd H3 D.kd (.dK (putK kw (.inr (aq i)) (.int v)))):=But.set _ (by simp)
    obtain⟨H4,eH4⟩:∃H4,H4=upd H3 D.kd (.dK (putK kw (.inr (aq i)) (.int v))):=⟨_,rfl⟩
    have dp:jF H3 D.kd (.str (aq i)) (.int v) H4:=by rw[eH4];exact jF.k (k:= .inr (aq i)) ek (bR (by omega))
    rw[<-eH4] at so4 b4
    have lp4:=lp.know b4 (aM.refl _) (fun _ _ z=>z) so4 le4 (fun y hy=>by
     unfold Kn.put at hy
     by_cases w:y=aq i
     ·exact .inr w
     ·rw[if_neg w] at hy;exact .inl hy) (fun y hne h=>by unfold Kn.put;rw[if_neg hne];exact h) (by omega)
    have e4:=lp4.so.sm _ _ lp4.sh.e
    have ep4:=lp4.ep
    have dk4:bK H4 D.kd (.str (aq i)) (some (.int v)):=by
     obtain⟨kw4,ws4,ek4,_,hk4⟩:=lp4.so.ek
     have:dH kw4 (.inr (aq i))=some (.int v):=by rw[hk4];unfold Kn.put;rw[if_pos rfl];rfl
     rw[<-this];exact bK.k (k:= .inr (aq i)) ek4
    have hk4:(kn.put (aq i) v) (aq i)≠none:=by unfold Kn.put;rw[if_pos rfl];simp
    have lp5:=lp4.pop hk4 ex
    have un4:=lp4.un
    rw[List.dropLast_concat] at un4
    have hm:=Qf (n:=n) (js:=js) (by omega) un4
    walk_at "vs"
    rw[hdl]
    refine⟨js,_,_,_,_,_,_,_,rfl,lp5, ?_⟩
    cases hkn:kn (aq i) with
    | none=>
      have hu:=Kc (v:=v) hi hkn
      rw[qK hkn]
      omega
    | some u=>
      have e:kn.put (aq i) v=kn:=by
       have:=le4 _ _ hkn
       unfold Kn.put at this
       rw[if_pos rfl] at this
       funext y
       unfold Kn.put
       by_cases w:y=aq i
       ·rw[if_pos w,w,hkn,this]
       ·rw[if_neg w]
      rw[e] at hm ⊢
      rw[Aw (by rw[hkn];simp)]
      omega
  | none=>
    rw[hgv] at dg
    have dg:bK H3 D.g (.str (aq i)) none:=dg
    cases hkn:kn (aq i) with
    | some u=>
      have hk4:kn (aq i)≠none:=by rw[hkn];simp
      have dk4:bK H3 D.kd (.str (aq i)) (some (.int u)):=by
       have:dH kw (.inr (aq i))=some (.int u):=by rw[hkw,hkn];rfl
       rw[<-this];exact bK.k (k:= .inr (aq i)) ek
      have lp5:=lp.pop hk4 ex
      have hm:=Qf (n:=n) (js:=js) (by omega) un
      walk_at "vs"
      rw[hdl]
      refine⟨js,_,_,_,_,_,_,_,rfl,lp5, ?_⟩
      rw[Aw hk4]
      omega
    | none=>
      have dk4:bK H3 D.kd (.str (aq i)) none:=by
       have:dH kw (.inr (aq i))=none:=by rw[hkw,hkn];rfl
       rw[<-this];exact bK.k (k:= .inr (aq i)) ek
      obtain⟨r,hrc⟩:∃r,rc (aq i)=some r:=by
       rcases hbd.ok.dom i hi with z | z
       ·exact absurd hgv z
       ·cases w:rc (aq i) with
        | none=>exact absurd w z
        | some r=>exact⟨r,rfl⟩
      obtain⟨k',hk',ek',rk'⟩:=hbd.ok.rk _ _ hrc
      have hik:i=k':=iZ (by omega) (by omega) ek'
      subst hik
      have rki:=rk'.i
      have hT3:=rk'.t
      obtain⟨kb,ks,eb,kkb,hkb⟩:=lp.bgi.e
      cases hA:bg (aq i) with
      | some A=>
        have db:bK H3 bgd (.str (aq i)) (some (.ref A.s)):=by
         have:dH kb (.inr (aq i))=some (.ref A.s):=by rw[hkb,hA];rfl
         rw[<-this];exact bK.k (k:= .inr (aq i)) eb
        have lp6:=lp
        obtain⟨kb6,ks6,eb6,kk6,ac9⟩:=lp6.bgi.e
        obtain⟨r',hr',_,seo⟩:=lp6.bgi.ok (aq i) A hA hkn
        rw[hrc] at hr'
        cases hr'
        have e6:=lp6.so.sm _ _ lp6.sh.e
        have rD6:=lp6.sh.rD.map fun _ _ z=>z.same lp6.so.sm
        obtain⟨kw6,ws6,ek6,ajx,ada⟩:=lp6.so.ek
        have knA:WD H3 D.kd kn:=⟨kw6,ek6,ada⟩
        have nd3:D.kd≠A.a3:=fun z=>(lp6.bgi.al (aq i) A hA A.a3 (by simp[SeD.ft])).2.2 (by rw[<-z];simp)
        have db6:bK H3 bgd (.str (aq i)) (some (.ref A.s)):=by
         have:dH kb6 (.inr (aq i))=some (.ref A.s):=by rw[ac9,hA];rfl
         rw[<-this];exact bK.k (k:= .inr (aq i)) eb6
        have eA6:=seo.e
        walk_at "vs"
        intro A' H7 b7 es eb' erk e1' e2' e3' efl so7
        have lp7:=lp6.gone hA b7 so7 hrc hgv es erk e1' e2' e3' efl
        have e7:=lp7.so.sm _ _ lp7.sh.e
        have ep7:=lp7.ep
        refine⟨fun hend=> ?_,fun z hzn hsk=> ?_⟩
        ·obtain⟨kb7,ks7,eb7,kk7,adb⟩:=lp7.bgi.e
         have db7:bK H7 bgd (.str (aq i)) (some (.ref A'.s)):=by
          have:dH kb7 (.inr (aq i))=some (.ref A'.s):=by rw[adb];unfold nq;rw[if_pos rfl];rfl
          rw[<-this];exact bK.k (k:= .inr (aq i)) eb7
         have ajy:=lp7.so
         have sh7:=lp7.sh
         have eA7:=so7.e
         have hR7:=so7.hr
         have hy:aq i∈nmK n:=dD.mpr ⟨i,hi,rfl⟩
         have hft:∀z∈A'.ft,z∉[D.kd,D.sd,D.rd]:=fun z hz w=>(lp7.bgi.al (aq i) A' (by unfold nq;rw[if_pos rfl]) z hz).2.2 (by
          simp only[List.mem_cons,List.not_mem_nil,or_false] at w ⊢
          rcases w with q | q | q
          ·exact .inr (.inr (.inl q))
          ·exact .inr (.inr (.inr (.inl q)))
          ·exact .inr (.inr (.inr (.inr q))))
         walk_at "vs"
         intro v ps made Hf' H8 b8 sf8 fm8 so8
         have lp8:=lp7.know b8 sf8 fm8 so8 (Kn.qg hkn) (fun y hy=>by
          unfold Kn.put at hy
          by_cases w:y=aq i
          ·exact .inr w
          ·rw[if_neg w] at hy;exact .inl hy) (fun y hne h=>by unfold Kn.put;rw[if_neg hne];exact h) (by omega)
         walk_at "vs"
         refine⟨_,_,_,_,_,_,_,_,rfl,lp8, ?_⟩
         have hu:=Kc (v:=v) hi hkn
         rw[qK hkn,Aw (by unfold Kn.put;rw[if_pos rfl];simp)]
         omega
        ·obtain⟨j,hj,ez⟩:=dD.mp (hsk.in rki)
         subst ez
         have hin:inV (.str (aq j)) ((js++[i]).map fun i=>V.str (aq i))=false:=by
          unfold inV
          rw[List.any_eq_false]
          intro u hu
          obtain⟨k,hk,rfl⟩:=List.mem_map.mp hu
          have hkn':=lp7.lt k hk
          have hki:i<=k:=by
           rcases List.mem_append.mp hk with z | z
           ·have dec:=lp7.dec
            rw[List.pairwise_append] at dec
            exact Nat.le_of_lt (dec.2.2 k z i (by simp))
           ·have:k=i:=by simpa using z
            omega
          intro z
          have z:(aq k==aq j)=true:=z
          have:=iZ (show k<26 by omega) (show j<26 by omega) (eq_of_beq z)
          omega
         have hfl:((js++[i]).map fun i=>V.str (aq i)).all yO=true:=by
          rw[List.all_eq_true]
          intro u hu
          obtain⟨k,hk,rfl⟩:=List.mem_map.mp hu
          rfl
         have hsz:((js++[i]).map fun i=>V.str (aq i)).length<sizeLine:=by rw[List.length_map];exact bR (by omega)
         walk_at "vs"
         rw[hin]
         walk_at "vs"
         have em:((js++[i]).map fun i=>V.str (aq i))++[V.str (aq j)]=(js++[i]++[j]).map fun i=>V.str (aq i):=by rw[List.map_append (l₁:=js++[i])];rfl
         rw[em]
         refine⟨js++[i]++[j],_,_,_,_,_,_,_,rfl,lp7.push hkn hj hgv hrc hsk, ?_⟩
         rw[qK hkn,qK hzn,List.length_append]
         simp only[List.length_cons,List.length_nil]
         omega
      | none=>
        have db:bK H3 bgd (.str (aq i)) none:=by
         have:dH kb (.inr (aq i))=none:=by rw[hkb,hA];rfl
         rw[<-this];exact bK.k (k:= .inr (aq i)) eb
        have sh3:=lp.sh.same lp.so.sm
        have hkbl:kb.length<=n:=by
         rw[kkb.len,<-jn n]
         refine iy kkb.nd fun y hy=>lp.bgi.nm y fun z=> ?_
         exact kkb.none.mp (by rw[hkb,z];rfl) hy
        walk_at "vs"
        intro A H4 s4 hA4 so4
        have lp6:=lp.begun s4 hA4 (so4 kn) hrc hgv hy hA eb
        have dpb:jF H4 bgd (.str (aq i)) (.ref A.s) (upd H4 bgd (.dK (putK kb (.inr (aq i)) (.ref A.s)))):=jF.k (k:= .inr (aq i)) (s4 _ _ eb) (bR (by omega))
        have hA:nq bg (aq i) A (aq i)=some A:=by unfold nq;rw[if_pos rfl]
        generalize upd H4 bgd (.dK (putK kb (.inr (aq i)) (.ref A.s)))=H5 at *
        obtain⟨kb6,ks6,eb6,kk6,ac9⟩:=lp6.bgi.e
        obtain⟨r',hr',_,seo⟩:=lp6.bgi.ok (aq i) A hA hkn
        rw[hrc] at hr'
        cases hr'
        have e6:=lp6.so.sm _ _ lp6.sh.e
        have rD6:=lp6.sh.rD.map fun _ _ z=>z.same lp6.so.sm
        obtain⟨kw6,ws6,ek6,ajx,ada⟩:=lp6.so.ek
        have knA:WD H5 D.kd kn:=⟨kw6,ek6,ada⟩
        have nd3:D.kd≠A.a3:=fun z=>(lp6.bgi.al (aq i) A hA A.a3 (by simp[SeD.ft])).2.2 (by rw[<-z];simp)
        have db6:bK H5 bgd (.str (aq i)) (some (.ref A.s)):=by
         have:dH kb6 (.inr (aq i))=some (.ref A.s):=by rw[ac9,hA];rfl
         rw[<-this];exact bK.k (k:= .inr (aq i)) eb6
        have eA6:=seo.e
        walk_at "vs"
        intro A' H7 b7 es eb' erk e1' e2' e3' efl so7
        have lp7:=lp6.gone hA b7 so7 hrc hgv es erk e1' e2' e3' efl
        have e7:=lp7.so.sm _ _ lp7.sh.e
        have ep7:=lp7.ep
        refine⟨fun hend=> ?_,fun z hzn hsk=> ?_⟩
        ·obtain⟨kb7,ks7,eb7,kk7,adb⟩:=lp7.bgi.e
         have db7:bK H7 bgd (.str (aq i)) (some (.ref A'.s)):=by
          have:dH kb7 (.inr (aq i))=some (.ref A'.s):=by rw[adb];unfold nq;rw[if_pos rfl];rfl
          rw[<-this];exact bK.k (k:= .inr (aq i)) eb7
         have ajy:=lp7.so
         have sh7:=lp7.sh
         have eA7:=so7.e
         have hR7:=so7.hr
         have hy:aq i∈nmK n:=dD.mpr ⟨i,hi,rfl⟩
         have hft:∀z∈A'.ft,z∉[D.kd,D.sd,D.rd]:=fun z hz w=>(lp7.bgi.al (aq i) A' (by unfold nq;rw[if_pos rfl]) z hz).2.2 (by
          simp only[List.mem_cons,List.not_mem_nil,or_false] at w ⊢
          rcases w with q | q | q
          ·exact .inr (.inr (.inl q))
          ·exact .inr (.inr (.inr (.inl q)))
          ·exact .inr (.inr (.inr (.inr q))))
         walk_at "vs"
         intro v ps made Hf' H8 b8 sf8 fm8 so8
         have lp8:=lp7.know b8 sf8 fm8 so8 (Kn.qg hkn) (fun y hy=>by
          unfold Kn.put at hy
          by_cases w:y=aq i
          ·exact .inr w
          ·rw[if_neg w] at hy;exact .inl hy) (fun y hne h=>by unfold Kn.put;rw[if_neg hne];exact h) (by omega)
         walk_at "vs"
         refine⟨_,_,_,_,_,_,_,_,rfl,lp8, ?_⟩
         have hu:=Kc (v:=v) hi hkn
         rw[qK hkn,Aw (by unfold Kn.put;rw[if_pos rfl];simp)]
         omega
        ·obtain⟨j,hj,ez⟩:=dD.mp (hsk.in rki)
         subst ez
         have hin:inV (.str (aq j)) ((js++[i]).map fun i=>V.str (aq i))=false:=by
          unfold inV
          rw[List.any_eq_false]
          intro u hu
          obtain⟨k,hk,rfl⟩:=List.mem_map.mp hu
          have hkn':=lp7.lt k hk
          have hki:i<=k:=by
           rcases List.mem_append.mp hk with z | z
           ·have dec:=lp7.dec
            rw[List.pairwise_append] at dec
            exact Nat.le_of_lt (dec.2.2 k z i (by simp))
           ·have:k=i:=by simpa using z
            omega
          intro z
          have z:(aq k==aq j)=true:=z
          have:=iZ (show k<26 by omega) (show j<26 by omega) (eq_of_beq z)
          omega
         have hfl:((js++[i]).map fun i=>V.str (aq i)).all yO=true:=by
          rw[List.all_eq_true]
          intro u hu
          obtain⟨k,hk,rfl⟩:=List.mem_map.mp hu
          rfl
         have hsz:((js++[i]).map fun i=>V.str (aq i)).length<sizeLine:=by rw[List.length_map];exact bR (by omega)
         walk_at "vs"
         rw[hin]
         walk_at "vs"
         have em:((js++[i]).map fun i=>V.str (aq i))++[V.str (aq j)]=(js++[i]++[j]).map fun i=>V.str (aq i):=by rw[List.map_append (l₁:=js++[i])];rfl
         rw[em]
         refine⟨js++[i]++[j],_,_,_,_,_,_,_,rfl,lp7.push hkn hj hgv hrc hsk, ?_⟩
         rw[qK hkn,qK hzn,List.length_append]
         simp only[List.length_cons,List.length_nil]
         omega
end
section
local macro_rules | `(tactic| walk_at "side") => `(tactic| first | exact zc _ _ _ _ _ _ | exact sY _ _ _ _ _ _ | exact Ka _ _ _ _ _ _ | exact zf _ _ _ _ _ _ | exact sZ _ _ _ _ _ _ | exact qJ _ _ _ _ _ _ | exact (iI _ _ _ _ _ _).1 | exact (iI _ _ _ _ _ _).2.1 | exact (iI _ _ _ _ _ _).2.2.1 | exact (iI _ _ _ _ _ _).2.2.2.1 | exact (iI _ _ _ _ _ _).2.2.2.2 | exact Nat.le_of_ble_eq_true rfl)
variable {P:Program}{w:World}{K:PySem.W.Frag}{mg:Str->Option Value}{base:Heap}{CSe CN CS CR:Addr}
abbrev gR:Stmt:=zj 13 3
theorem Ks:bH ["self"] ["self"] (aa gR):=⟨rfl,rfl,rfl,by decide +kernel,rfl,by decide +kernel,by decide +kernel⟩
theorem Bb:aG (aa gR) "self":=by decide +kernel
theorem Ku {f:Addr}{fd:FuncData} (jN:iw K CSe "made" "Search.made" gR ["self"] f fd) (T:Blt mg) (sr:SrC K CSe):bf P w K mg base CX0 1 f fd ["self"] (Xe CSe):=by
 refine jN.F.okQ Ks (fun vs H Q E h=> ?_) (fun cdv A outer s H vs Q E hr h=> ?_)
 ·obtain⟨D,ks,kk,ss,rkn,rfl,_⟩:=h
  rfl
 obtain⟨D,ks,kk,ss,rkn,rfl,e,es,hks,hsl,nsr,er,hkk,q⟩:=h
 have oN:=sr.cl
 have nS:=sr.nS
 have nM:=sr.nM
 refine⟨_,(aF (aW (wY rfl (n:=1) (fr:=[0]) (N:=["name","self"]) (HR (scX:=aa gR) (NX:=["self"]) rfl rfl (by decide +kernel)) (Ek (bW (aj 0 Bb))) (fun _ _ _ _ _=>(qgx (i:=0) (show List.Nodup (α:=Str) ["name","self"] by decide) (K9 (by decide +kernel)))) (fun _ _ _ _ _=>(JD (uU (bO hr) (aj 0 (o9.ok (by decide +kernel))) (NB (K:=K) rfl (aj 1 (o9.ok (by decide +kernel))))))) (fun _ _ _ _ _=>(aj 0 (o9.ok (by decide +kernel))))))), ?_⟩
 walk_at "vs"
 intro o
 have b1:But [D.sd] H (upd H D.sd (.frz o (.dK ks))):=But.set _ (by simp)
 have e1:upd H D.sd (.frz o (.dK ks)) D.so=some (.ins CSe D.dx (srF D.g D.c D.o D.kd D.sd D.rd)):=(au (fun z=>by rw[z,es] at e;cases e)).trans e
 have er1:upd H D.sd (.frz o (.dK ks)) D.rd=some (.dK kk):=(au (Ne.symm nsr)).trans er
 have es1:upd H D.sd (.frz o (.dK ks)) D.sd=some (.frz o (.dK ks)):=ao
 have n1:∀{z},upd H D.sd (.frz o (.dK ks)) z=none->H z=none:=fun z=>(eX z).2
 generalize upd H D.sd (.frz o (.dK ks))=H1 at *
 intro L hL
 refine GC (fun i σ' H'=>(∃t,σ'=[t,some (.ref D.so)])/\aM H1 H'/\H' L=some (.lst (((ss.take i).filter rkn).map V.str))) ?_ ?_ ?_ ?_
 ·exact⟨⟨none,rfl⟩,aD _ hL,ao⟩
 ·intro i σ' H' _ hP
  exact hP.2.1 _ _ es1
 ·intro i k v σ' H' hkv hP
  obtain⟨⟨t,rfl⟩,S2,eL⟩:=hP
  obtain⟨x,rfl,hxi⟩:=hks.at hkv
  have hi:i<ss.length:=(List.getElem?_eq_some_iff.mp hxi).1
  have e2:=S2 _ _ e1
  have dg:bK H' D.rd (.str x) (if rkn x=true then some (.bl true) else none):=by rw[<-hkk];exact bK.k (k:= .inr x) (S2 _ _ er1)
  have hz:(((ss.take i).filter rkn).map V.str).length<sizeLine:=by
   rw[List.length_map]
   have h1:=List.length_filter_le (rkn) (ss.take i)
   have h2:=List.length_take_le i ss
   exact bR (by omega)
  have ht:ss.take (i+1)=ss.take i++[x]:=by rw[List.take_add_one,hxi];rfl
  cases hrx:rkn x with
  | true=>
    rw[hrx,if_pos rfl] at dg
    walk_at "vs"
    refine⟨⟨_,rfl⟩,cG _ hL S2, ?_⟩
    rw[ht,List.filter_append,List.map_append,ao]
    simp[List.filter_cons,hrx]
    rfl
  | false=>
    rw[hrx,if_neg (by decide)] at dg
    walk_at "vs"
    refine⟨⟨_,rfl⟩,S2, ?_⟩
    rw[ht,List.filter_append,eL]
    simp[List.filter_cons,hrx]
 ·intro σ' H' hP
  obtain⟨_,S2,eL⟩:=hP
  rw[show ss.take ks.length=ss by rw[hks.len];exact List.take_length] at eL
  exact q L o H' (b1.trans (But.of_same S2)) (S2 _ _ es1) (n1 hL) eL
abbrev gU:Stmt:=zj 13 4
theorem Kv:bH ["self"] ["self"] (aa gU):=⟨rfl,rfl,rfl,by decide +kernel,rfl,by decide +kernel,by decide +kernel⟩
theorem Bc:aG (aa gU) "self":=by decide +kernel
theorem Kw {f:Addr}{fd:FuncData} (jO:iw K CSe "kept" "Search.kept" gU ["self"] f fd) (T:Blt mg) (sr:SrC K CSe):bf P w K mg base CX0 1 f fd ["self"] (Xf CSe):=by
 refine jO.F.okQ Kv (fun vs H Q E h=> ?_) (fun cdv A outer s H vs Q E hr h=> ?_)
 ·obtain⟨D,o,ks,kk,ss,rkn,rfl,_⟩:=h
  rfl
 obtain⟨D,o,ks,kk,ss,rkn,rfl,e,es,hks,hsl,er,hkk,q⟩:=h
 have oN:=sr.cl
 have nS:=sr.nS
 have nM:=sr.nM
 refine⟨_,(aF (aW (wY rfl (n:=1) (fr:=[0]) (N:=["name","self"]) (HR (scX:=aa gU) (NX:=["self"]) rfl rfl (by decide +kernel)) (Xd (bW (aj 0 Bc))) (fun _ _ _ _ _=>(qgx (i:=0) (show List.Nodup (α:=Str) ["name","self"] by decide) (K9 (by decide +kernel)))) (fun _ _ _ _ _=>(JD (lO (bO hr) (aj 0 (o9.ok (by decide +kernel))) (NB (K:=K) rfl (aj 1 (o9.ok (by decide +kernel))))))) (fun _ _ _ _ _=>(aj 0 (o9.ok (by decide +kernel))))))), ?_⟩
 have e1:=e
 have er1:=er
 have es1:=es
 walk_at "vs"
 intro L hL
 refine GC (fun i σ' H'=>(∃t,σ'=[t,some (.ref D.so)])/\aM H H'/\H' L=some (.lst (((ss.take i).filter (fun x=> !rkn x)).map V.str))) ?_ ?_ ?_ ?_
 ·exact⟨⟨none,rfl⟩,aD _ hL,ao⟩
 ·intro i σ' H' _ hP
  exact hP.2.1 _ _ es1
 ·intro i k v σ' H' hkv hP
  obtain⟨⟨t,rfl⟩,S2,eL⟩:=hP
  obtain⟨x,rfl,hxi⟩:=hks.at hkv
  have hi:i<ss.length:=(List.getElem?_eq_some_iff.mp hxi).1
  have e2:=S2 _ _ e1
  have dg:bK H' D.rd (.str x) (if rkn x=true then some (.bl true) else none):=by rw[<-hkk];exact bK.k (k:= .inr x) (S2 _ _ er1)
  have hz:(((ss.take i).filter (fun x=> !rkn x)).map V.str).length<sizeLine:=by
   rw[List.length_map]
   have h1:=List.length_filter_le ((fun x=> !rkn x)) (ss.take i)
   have h2:=List.length_take_le i ss
   exact bR (by omega)
  have ht:ss.take (i+1)=ss.take i++[x]:=by rw[List.take_add_one,hxi];rfl
  cases hrx:rkn x with
  | true=>
    rw[hrx,if_pos rfl] at dg
    walk_at "vs"
    refine⟨⟨_,rfl⟩,S2, ?_⟩
    rw[ht,List.filter_append,eL]
    simp[List.filter_cons,hrx]
  | false=>
    rw[hrx,if_neg (by decide)] at dg
    walk_at "vs"
    refine⟨⟨_,rfl⟩,cG _ hL S2, ?_⟩
    rw[ht,List.filter_append,List.map_append,ao]
    simp[List.filter_cons,hrx]
    rfl
 ·intro σ' H' hP
  obtain⟨_,S2,eL⟩:=hP
  rw[show ss.take ks.length=ss by rw[hks.len];exact List.take_length] at eL
  exact q L H' S2 hL eL
end
section
local macro_rules | `(tactic| walk_at "side") => `(tactic| first | exact zc _ _ _ _ _ _ | exact sY _ _ _ _ _ _ | exact Ka _ _ _ _ _ _ | exact zf _ _ _ _ _ _ | exact sZ _ _ _ _ _ _ | exact qJ _ _ _ _ _ _ | exact (iI _ _ _ _ _ _).1 | exact (iI _ _ _ _ _ _).2.1 | exact (iI _ _ _ _ _ _).2.2.1 | exact (iI _ _ _ _ _ _).2.2.2.1 | exact (iI _ _ _ _ _ _).2.2.2.2 | exact Nat.le_of_ble_eq_true rfl)
variable {P:Program}{w:World}{K:PySem.W.Frag}{mg:Str->Option Value}{base:Heap}{CSe CN CS CR:Addr}
abbrev fM:Stmt:=top 14
theorem zO:bH ["house","old","wishes","search","name"] ["house","old","wishes"] (aa fM):=⟨rfl,rfl,rfl,by decide +kernel,rfl,by decide +kernel,by decide +kernel⟩
theorem CP:Loc (aa fM) "search":=by decide +kernel
theorem CQ:(aa fM).names.lookup ("Search":Str)=some NameKind.globalImplicit:=by decide +kernel
theorem Ir:aG (aa fM) "old":=by decide +kernel
theorem Ew:aG (aa fM) "house":=by decide +kernel
theorem CT:(("Search":Str)==("__debug__":Str))=false:=by decide +kernel
theorem CV:aG (aa fM) "wishes":=by decide +kernel
theorem GF:Loc (aa fM) "name":=by decide +kernel
theorem tE:aG (aa fM) "search":=by decide +kernel
theorem GJ:aG (aa fM) "name":=by decide +kernel
theorem Ql {f g0 g1:Addr}{fd gd0 gd1:FuncData} (mJ:FnT K mg "searched" fM ["house","old","wishes"] f fd)
 (iC:iw K CSe "__init__" "Search.__init__" cZ ["self","house","old"] g0 gd0) (Ex:bf P w K mg base CX0 1 g0 gd0 ["self","house","old"] (Qa CSe))
 (iK:iw K CSe "settle" "Search.settle" bL ["self","name"] g1 gd1) (Iu:bf P w K mg base CX0 15 g1 gd1 ["self","name"] (Qc CSe CN))
 (Ky:Mk K CSe g0) (Kz:mg "Search"=some (.ref CSe)) (T:Blt mg) (sr:SrC K CSe):bf P w K mg base CX0 16 f fd ["house","old","wishes"] (Kd CSe CN):=by
 refine mJ.F.okQ zO (fun vs H Q E h=> ?_) (fun cdv A outer s H vs Q E hr h=> ?_)
 ·obtain⟨h,g,c,o,dxo,rcd,wl,n,gv,rc,kg,kc,kr,rm,ws,rfl,_⟩:=h
  rfl
 obtain⟨h,g,c,o,dxo,rcd,wl,n,gv,rc,kg,kc,kr,rm,ws,rfl,eh,eg,ec,bd,n17,eo,er,rD,ewl,hws,q⟩:=h
 have oN:=sr.cl
 refine⟨_,(az (bB (i:=3) zO.nd rfl CP (Jk Ky (Ex.mono (by omega)) hr CQ Kz iC.b .nil aY (aH (aj 0 Ew) (aH (aj 1 Ir) aA)) CT))
  (az (wZ PassesOwn.never rfl (Eb (aj 2 CV)) (fH (i:=4) zO.nd rfl GF) (aF (fY (rY (aj 3 tE) oN iK.m (Iu.mono (by omega)) hr iK.b .nil aY (aH (aj 4 GJ) aA)))))
  (aF (aW (aj 3 tE))))), ?_⟩
 walk_at "vs"
 intro a dx ha hdx hne
 have haH:(upd H dx (.own a)) a=none:=(au (Ne.symm hne)).trans ha
 have S1:=(aD (.own a) hdx).trans (aD (.ins CSe dx []) haH)
 refine⟨a,dx,h,g,c,o,rfl,ao,S1 _ _ eh,fun kd sd rd H2 b2 e2 hk hs hr' nks nkr nsr ek2 es2 er2=>⟨rfl, ?_⟩⟩
 have hk0:=same_none S1 hk
 have hs0:=same_none S1 hs
 have hr0:=same_none S1 hr'
 have S2:aM H H2:=fB S1 (fun p hp=>by
  have:p=a:=by simpa using hp
  rw[this];exact ha) b2
 have nka:kd≠a:=fun z=>by rw[z,ao] at hk;cases hk
 have nsa:sd≠a:=fun z=>by rw[z,ao] at hs;cases hs
 have nra:rd≠a:=fun z=>by rw[z,ao] at hr';cases hr'
 have sf0:aM H (upd H a (.ins CSe dx (srF g c o kd sd rd))):=aD _ ha
 have sm0:aM (upd H a (.ins CSe dx (srF g c o kd sd rd))) H2:=fun z ob e=>by
  by_cases w:z=a
  ·subst w;rw[ao] at e;cases e;exact e2
  ·rw[au w] at e;exact S2 _ _ e
 have shf:SrH CSe CN ⟨a,dx,g,c,o,dxo,rcd,kd,sd,rd⟩ n gv rc kg kc kr rm (upd H a (.ins CSe dx (srF g c o kd sd rd))):=
  ⟨ao,sf0 _ _ eg,sf0 _ _ ec,bd.tups (aM.tups sf0),sf0 _ _ eo,sf0 _ _ er,rD.map fun _ _ z=>z.same sf0,n17,nks,nkr,nsr⟩
 have so2:vP ⟨a,dx,g,c,o,dxo,rcd,kd,sd,rd⟩ n gv rc rm kn0 (fun _=>none) (fun _=>false) (upd H a (.ins CSe dx (srF g c o kd sd rd))) H2:=
  ⟨sm0,(au nka).trans hk0,(au nsa).trans hs0,(au nra).trans hr0,⟨[],[],ek2,⟨rfl,by simp⟩,fun x=>by rw[yQ];rfl⟩,⟨[],es2,⟨[],⟨rfl,by simp⟩,by simp⟩,fun x q e=>(nomatch e),fun x _=>yQ,fun x r ps v e=>(nomatch e)⟩,⟨[],[],er2,⟨rfl,by simp⟩,fun x=>by rw[yQ];rfl,fun x h=>(nomatch h)⟩,⟨fun x v e=>(nomatch e),fun x r ps v e=>(nomatch e)⟩,fun x r ps v e=>(nomatch e)⟩
 have af4:=S2 _ _ ewl
 walk_at "vs"
 refine Jq (xs:=ws.map V.str) (fun i σ H'=>∃(kn:Kn) (rmN:Rm) (rkn:Str->Bool) (Hf:Hp) (t:Option V),σ=[some (.ref h),some (.ref o),some (.ref wl),some (.ref a),t]/\aM H H'/\aM H Hf/\SrH CSe CN ⟨a,dx,g,c,o,dxo,rcd,kd,sd,rd⟩ n gv rc kg kc kr rm Hf/\vP ⟨a,dx,g,c,o,dxo,rcd,kd,sd,rd⟩ n gv rc rm kn rmN rkn Hf H'/\(∀x∈ws.take i,kn x≠none)/\∀y,kn y≠none->∃x∈ws,Rch gv rc kn x y) ?_ ?_ ?_ ?_
 ·exact⟨_,_,_,_,none,rfl,S2,sf0,shf,so2,by simp,fun y hy=>absurd rfl hy⟩
 ·rintro i σ H' _ ⟨kn,rmN,rkn,Hf,t,_,S3,_⟩
  exact SqL.of (S3 _ _ ewl)
 ·rintro i v σ H3 hv ⟨kn,rmN,rkn,Hf,t,rfl,S3,sf3,sh3,so3,hw3,hr3⟩
  obtain⟨x,hxi,rfl⟩:∃x,ws[i]? =some x/\v=V.str x:=by
   rw[List.getElem?_map] at hv
   cases e:ws[i]? with
   | none=>rw[e] at hv;cases hv
   | some x=>rw[e] at hv;exact⟨x,rfl,(Option.some.inj hv).symm⟩
  have hxm:x∈ws:=List.mem_of_getElem? hxi
  have hxn:=hws x hxm
  have e3:H3 a=some (.ins CSe dx (srF g c o kd sd rd)):=so3.sm _ _ sh3.e
  walk_at "vs"
  refine⟨⟨a,dx,g,c,o,dxo,rcd,kd,sd,rd⟩,n,gv,rc,kg,kc,kr,rm,kn,rmN,rkn,Hf,x,rfl,sh3,so3,hxn,fun kn' Qd rkn' Hf' H4 b4 sf4 fm4 so4 le4 hx4 hr4=> ?_⟩
  refine⟨kn',Qd,rkn',Hf',_,rfl,fB S3 (fun p hp=> ?_) b4,sf3.trans sf4,sh3.same sf4,so4,fun y hy=> ?_,fun y hy=> ?_⟩
  ·have hp:p=kd\/p=sd\/p=rd:=by simpa using hp
   rcases hp with rfl | rfl | rfl
   ·exact hk0
   ·exact hs0
   ·exact hr0
  ·rw[List.take_add_one,hxi] at hy
   rcases List.mem_append.mp hy with z | z
   ·intro w
    cases e:kn y with
    | none=>exact hw3 y z e
    | some u=>rw[le4 y u e] at w;cases w
   ·have:y=x:=by simpa using z
    rw[this];exact hx4
  ·rcases hr4 y hy with z | z
   ·obtain⟨x',hx',r'⟩:=hr3 y z
    exact⟨x',hx',r'.le le4⟩
   ·exact⟨x,hxm,z⟩
 ·rintro σ H3 ⟨kn,rmN,rkn,Hf,t,rfl,S3,sf3,sh3,so3,hw3,hr3⟩
  walk_at "vs"
  rw[show ws.take (ws.map V.str).length=ws by rw[List.length_map];exact List.take_length] at hw3
  exact q ⟨a,dx,g,c,o,dxo,rcd,kd,sd,rd⟩ kn rmN rkn Hf H3 S3 sf3 sh3 so3 hk0 hs0 hr0 hw3 hr3
abbrev cP:Stmt:=top 16
theorem zP:bH ["house","records","wishes","search"] ["house","records","wishes"] (aa cP):=⟨rfl,rfl,rfl,by decide +kernel,rfl,by decide +kernel,by decide +kernel⟩
theorem yI:Loc (aa cP) "search":=by decide +kernel
theorem wj:(aa cP).names.lookup ("searched":Str)=some NameKind.globalImplicit:=by decide +kernel
theorem yJ:aG (aa cP) "wishes":=by decide +kernel
theorem sI:(aa cP).names.lookup ("NamedRecords":Str)=some NameKind.globalImplicit:=by decide +kernel
theorem xP:aG (aa cP) "records":=by decide +kernel
theorem sJ:(("NamedRecords":Str)==("__debug__":Str))=false:=by decide +kernel
theorem zQ:aG (aa cP) "house":=by decide +kernel
theorem wk:(("searched":Str)==("__debug__":Str))=false:=by decide +kernel
theorem jt:aG (aa cP) "search":=by decide +kernel
theorem KC {f g0 g1 g2 g3:Addr}{fd gd0 gd1 gd2 gd3:FuncData} (dM:FnT K mg "build_again" cP ["house","records","wishes"] f fd)
 (mJ:FnT K mg "searched" fM ["house","old","wishes"] g0 gd0) (RZ:bf P w K mg base CX0 16 g0 gd0 ["house","old","wishes"] (Kd CSe CN))
 (eE:iw K CN "__init__" "NamedRecords.__init__" bY ["self","records"] g1 gd1) (wu:bf P w K mg base CX0 1 g1 gd1 ["self","records"] (PB CN))
 (tG:Mk K CN g1) (tH:mg "NamedRecords"=some (.ref CN))
 (jN:iw K CSe "made" "Search.made" gR ["self"] g2 gd2) (Lk:bf P w K mg base CX0 1 g2 gd2 ["self"] (Xe CSe))
 (jO:iw K CSe "kept" "Search.kept" gU ["self"] g3 gd3) (Ln:bf P w K mg base CX0 1 g3 gd3 ["self"] (Xf CSe))
 (T:Blt mg) (sr:SrC K CSe):bf P w K mg base CX0 17 f fd ["house","records","wishes"] NK:=by
 refine dM.F.okQ zP (fun vs H Q E h=> ?_) (fun cdv A outer s H vs Q E hr h=> ?_)
 ·obtain⟨h,g,c,rcd,wl,n,gv,rc,kr,rm,ws,rfl,_⟩:=h
  rfl
 obtain⟨h,g,c,rcd,wl,n,gv,rc,kr,rm,ws,rfl,⟨kg,kc,eh,eg,ec,bd⟩,n17,er,rD,ewl,hws,q⟩:=h
 have oN:=sr.cl
 have nK:=sr.nK
 have nS:=sr.nS
 refine⟨_,(az (bB (i:=3) zP.nd rfl yI (aJ (RZ.mono (by omega)) hr wj mJ.m mJ.F.kp mJ.b .nil aY (aH (aj 0 zQ) (uQ (Jk tG (wu.mono (by omega)) hr sI tH eE.b .nil aY (aH (aj 1 xP) aA) sJ) (aH (aj 2 yJ) aA))) wk))
  (aF (aW (gC (U6 (bW (aj 3 jt)) (U6 (bW (aj 3 jt)) (uQ (za (aj 3 jt) oN jN.m (Lk.mono (by omega)) hr jN.b .nil aY) (uQ (za (aj 3 jt) oN jO.m (Ln.mono (by omega)) hr jO.b .nil aY) aA)))))))), ?_⟩
 walk_at "vs"
 intro o dxo ho hdxo hne
 have hoH:(upd H dxo (.own o)) o=none:=(au (Ne.symm hne)).trans ho
 have S1:=(aD (.own o) hdxo).trans (aD (.ins CN dxo []) hoH)
 refine⟨o,dxo,rcd,rfl,ao,fun H2 b2 e2=>⟨rfl, ?_⟩⟩
 have S2:aM H H2:=fB S1 (fun p hp=>by
  have:p=o:=by simpa using hp
  rw[this];exact ho) b2
 have eh2:=S2 _ _ eh
 have eg2:=S2 _ _ eg
 have ec2:=S2 _ _ ec
 have bd2:=bd.tups (aM.tups S2)
 have er2:=S2 _ _ er
 have rD2:=rD.map fun _ _ z=>z.same S2
 have af4:=S2 _ _ ewl
 walk_at "vs"
 intro D kn rmN rkn Hf H3 s3 sf3 sh3 so3 hk3 hs3 hr3 hw3 hrch
 have S3:=S2.trans s3
 have e3:=so3.sm _ _ sh3.e
 obtain⟨kw,wn,ek,kkw,hkw⟩:=so3.ek
 obtain⟨ks,es,rDs⟩:=so3.es
 obtain⟨sn,kks,hsn⟩:=rDs.k
 obtain⟨kk,rs,er3,kkr,hkk,hrn⟩:=so3.er
 have hsl:sn.length<=100:=by
  have:=rDs.len
  rw[kks.len] at this;omega
 obtain⟨nks,nkr,nsr⟩:=sh3.ne
 have hk0:=same_none S2 hk3
 have hs0:=same_none S2 hs3
 have hr0:=same_none S2 hr3
 walk_at "vs"
 intro lm o' H4 b4 es4 hlm elm
 have k4:∀{z:Addr}{u:HO},z≠D.sd->H3 z=some u->H4 z=some u:=fun h e=>b4 _ _ (by simpa using h) e
 have e4:=k4 (fun z=>by rw[z,es] at e3;cases e3) e3
 have er4:=k4 (Ne.symm nsr) er3
 have ek4:=k4 nks ek
 have sf4:aM Hf H4:=fun z u e=>k4 (fun w=>by rw[w,so3.fs] at e;cases e) (so3.sm _ _ e)
 walk_at "vs"
 intro lk H5 s5 hlk elk
 have ajz:=s5 _ _ elm
 have es5:=s5 _ _ es4
 have ek5:=s5 _ _ ek4
 have hnl:lm≠lk:=fun z=>by rw[<-z,elm] at hlk;cases hlk
 walk_at "vs"
 intro t ht
 have s6:=aD (.tup [.ref D.kd, .ref D.sd, .ref lm, .ref lk]) ht
 have S4:aM H H4:=fB S3 (fun p hp=>by
  have:p=D.sd:=by simpa using hp
  rw[this];exact hs0) b4
 have ajA:=same_none S3 hlm
 have ajB:=same_none S4 hlk
 exact q t D.kd D.sd lm lk kw ks wn sn kn rmN rkn o' _ (S4.trans (s5.trans s6)) ao hk0 hs0 ajA ajB nks hnl (s6 _ _ ek5) kkw hkw (s6 _ _ es5) kks (rDs.map fun _ _ z=>z.same (sf4.trans (s5.trans s6))) (s6 _ _ ajz) (s6 _ _ elk) ⟨so3.ok,so3.md,hw3,hrch,hrn⟩
end
section
variable {P:Program}{w:World}{K:PySem.W.Frag}{mg:Str->Option Value}{base:Heap}
abbrev fW:Stmt:=top 24
theorem KD:bH ["script","k"] ["script","k"] (aa fW):=⟨rfl,rfl,rfl,by decide +kernel,rfl,by decide +kernel,by decide +kernel⟩
theorem wz:aG (aa fW) "k":=by decide +kernel
theorem CW:(aa fW).names.lookup ("len":Str)=some NameKind.globalImplicit:=by decide +kernel
theorem qd:aG (aa fW) "script":=by decide +kernel
theorem CZ:("len":Str)≠"__name__":=by decide +kernel
theorem Dc:(("len":Str)==("__debug__":Str))=false:=by decide +kernel
theorem KH {f:Addr}{fd:FuncData} (fD:FnT K mg "_law_cell_at" fW ["script","k"] f fd) (T:Blt mg):bf P w K mg base CX0 1 f fd ["script","k"] (Wx K):=by
 refine fD.F.okQ KD (fun vs H Q E h=> ?_) (fun cdv A outer s H vs Q E hr h=> ?_)
 ·obtain⟨a,ns,k,rfl,_⟩:=h
  rfl
 obtain⟨a,ns,k,rfl,hS,h0,q⟩:=h
 refine⟨_,(az (cJ (bT Wm (aj 1 wz) (dm kZ CW T.ym rA (aH (aj 0 qd) aA) CZ Dc) (aO _)) (aF (aW (aN cR (aj 0 qd) (aj 1 wz)))) bF)
  (aF (aW aB))), ?_⟩
 walk_at "vs"
 refine yw (fun c1=> ?_) (fun c1=> ?_)
 ·have c1':k<((ns.map V.int).length:Int):=by simpa using c1
  obtain⟨v,j,hv,_⟩:=afC h0 c1'
  walk_at "vs"
  exact q _
 ·walk_at "vs"
  exact q _
abbrev iM:Stmt:=top 25
theorem Qm:bH ["script","k"] ["script","k"] (aa iM):=⟨rfl,rfl,rfl,by decide +kernel,rfl,by decide +kernel,by decide +kernel⟩
theorem BR:aG (aa iM) "k":=by decide +kernel
theorem oG:(aa iM).names.lookup ("_law_cell_at":Str)=some NameKind.globalImplicit:=by decide +kernel
theorem tK:aG (aa iM) "script":=by decide +kernel
theorem oH:(("_law_cell_at":Str)==("__debug__":Str))=false:=by decide +kernel
theorem Qn {f g:Addr}{fd gd:FuncData} (bU:FnT K mg "_law_pool" iM ["script","k"] f fd) (fD:FnT K mg "_law_cell_at" fW ["script","k"] g gd) (BV:bf P w K mg base CX0 1 g gd ["script","k"] (Wx K)) (T:Blt mg):
 bf P w K mg base CX0 2 f fd ["script","k"] (Np K):=by
 refine bU.F.okQ Qm (fun vs H Q E h=> ?_) (fun cdv A outer s H vs Q E hr h=> ?_)
 ·obtain⟨a,ns,k,rfl,_⟩:=h
  rfl
 obtain⟨a,ns,k,rfl,hS,h0,h1,q⟩:=h
 refine⟨_,(aF (aW (Y0 (Nh aZ (aJ (BV.mono (by omega)) hr oG fD.m fD.F.kp fD.b .nil aY (aH (aj 0 tK) (aH (aj 1 BR) aA)) oH) (Nh aZ (lU dR (cO oM (aJ (BV.mono (by omega)) hr oG fD.m fD.F.kp fD.b .nil aY (aH (aj 0 tK) (dZ aB aA)) oH) aB) aB (aO _)) (Nh aZ (cO jR aB (cO rW aB (aj 1 BR))) acB)))))), ?_⟩
 walk_at "vs"
 intro p hp
 have s1:=aD (.dK []) hp
 have hS1:=SqL.same s1 hS
 have e1:upd H p (.dK []) p=some (.dK []):=ao
 generalize upd H p (.dK [])=H1 at *
 walk_at "vs"
 intro n1
 walk_at "vs"
 intro n2
 walk_at "vs"
 refine⟨qI n1 (decide (V.int (n2 % 2)=V.int 1)) (3+5 * k),rfl,by show 3<=15;decide, ?_⟩
 have em:Gm [] (qI n1 (decide (V.int (n2 % 2)=V.int 1)) (3+5 * k))=qI n1 (decide (V.int (n2 % 2)=V.int 1)) (3+5 * k):=rfl
 rw[em]
 exact q p _ (cG _ hp s1) hp ⟨_,_,_,ao,by omega,by omega⟩
abbrev dX:Stmt:=top 26
theorem qQ:bH ["pool","many","rest"] ["pool","many"] (aa dX):=⟨rfl,rfl,rfl,by decide +kernel,rfl,by decide +kernel,by decide +kernel⟩
theorem m5:Loc (aa dX) "rest":=by decide +kernel
theorem gM:aG (aa dX) "pool":=by decide +kernel
theorem eV:aG (aa dX) "rest":=by decide +kernel
theorem qw:aG (aa dX) "many":=by decide +kernel
theorem Qo {f:Addr}{fd:FuncData} (aC:FnT K mg "_law_take" dX ["pool","many"] f fd) (T:Blt mg):bf P w K mg base CX0 1 f fd ["pool","many"] w6:=by
 refine aC.F.okQ qQ (fun vs H Q E h=> ?_) (fun cdv A outer s H vs Q E hr h=> ?_)
 ·obtain⟨p,c,many,rfl,_⟩:=h
  rfl
 obtain⟨p,c,many,rfl,⟨rest,mixed,count,e,h0,h1⟩,hc,hm,hlg,q⟩:=h
 refine⟨_,(az (bB (i:=2) qQ.nd rfl m5 (cY (bO hr) (aj 0 gM) aZ))
  (az (cJ (Gp (sX (cY (bO hr) (aj 0 gM) aZ))) (az (gQ (bO hr) (aj 0 gM) aZ (cO Ed (aj 2 eV) (aj 1 qw)))
  (aF (aW (cO oM (aj 2 eV) (aj 1 qw))))) bF)
  (az (gQ (bO hr) (aj 0 gM) aZ (cO jR (cY (bO hr) (aj 0 gM) aZ) aB))
  (az (bB (i:=2) qQ.nd rfl m5 (cO jR (cO oM (aj 2 eV) aB) (cO rW aB (cY (bO hr) (aj 0 gM) aZ))))
  (az (bB (i:=2) qQ.nd rfl m5 (cO oM (cO rW (aj 2 eV) (cO jR (aj 2 eV) aB)) aB))
  (az (bB (i:=2) qQ.nd rfl m5 (cO oM (cO rW (aj 2 eV) (aj 2 eV)) aB))
  (az (gQ (bO hr) (aj 0 gM) aZ (aj 2 eV))
  (aF (aW (cO oM (cO Ed (aj 2 eV) aB) (aj 1 qw))))))))))), ?_⟩
 have d1:=Gw e
 have d2:=RG e
 have d3:=JR e
 walk_at "vs"
 cases mixed with
 | false=>
   walk_at "vs"
   refine And.intro (uR e _) ?_
   walk_at "vs"
   exact q _ _ (Int.emod_nonneg _ (by omega)) (Int.emod_lt_of_pos _ hm) (But.set _ (by simp)) ⟨_,_,_,ao,h0,by omega⟩
 | true=>
   walk_at "vs"
   refine And.intro (JS e _) ?_
   have e2:upd H p (.dK (qI rest true (count+1))) p=some (.dK (qI rest true (count+1))):=ao
   have b2:But [p] H (upd H p (.dK (qI rest true (count+1)))):=But.set _ (by simp)
   clear d1 d2 d3
   generalize upd H p (.dK (qI rest true (count+1)))=H2 at *
   have d1:=Gw e2
   have d3:=JR e2
   have r0:=Int.emod_nonneg rest (show(1000000000163:Int)≠0 by decide)
   have r1:=Int.emod_lt_of_pos rest (show(0:Int)<1000000000163 by decide)
   have m1:Gi 70001 (count+1):= .inl ⟨by decide,by decide⟩
   have m2:Gi (rest % 1000000000163+70001 *(count+1)) (rest % 1000000000163+70001 *(count+1)+29):= .inl ⟨by omega,by omega⟩
   have z1:=Int.emod_nonneg ((rest % 1000000000163+70001 *(count+1))*(rest % 1000000000163+70001 *(count+1)+29)) (show(1000000000193:Int)≠0 by decide)
   have z2:=Int.emod_lt_of_pos ((rest % 1000000000163+70001 *(count+1))*(rest % 1000000000163+70001 *(count+1)+29)) (show(0:Int)<1000000000193 by decide)
   walk_at "vs"
   refine And.intro (uR e2 _) ?_
   walk_at "vs"
   exact q _ _ (Int.emod_nonneg _ (by omega)) (Int.emod_lt_of_pos _ hm) (b2.trans (But.set _ (by simp))) ⟨_,_,_,ao,by omega,by omega⟩
abbrev ji:Stmt:=top 27
theorem Ib:bH ["k","letters"] ["k"] (aa ji):=⟨rfl,rfl,rfl,by decide +kernel,rfl,by decide +kernel,by decide +kernel⟩
theorem Bd:Loc (aa ji) "letters":=by decide +kernel
theorem rM:aG (aa ji) "letters":=by decide +kernel
theorem vf:aG (aa ji) "k":=by decide +kernel
theorem Qp {f:Addr}{fd:FuncData} (dF:FnT K mg "_law_name" ji ["k"] f fd) (T:Blt mg):bf P w K mg base CX0 1 f fd ["k"] JQ:=by
 refine dF.F.okQ Ib (fun vs H Q E h=> ?_) (fun cdv A outer s H vs Q E hr h=> ?_)
 ·obtain⟨k,rfl,_⟩:=h
  rfl
 obtain⟨k,rfl,hk,q⟩:=h
 refine⟨_,(az (bB (i:=1) Ib.nd rfl Bd aZ)
  (aF (aW (cO O8 (aN Tp (aj 1 rM) (cO oM (aj 0 vf) aB)) (cO Ww (aN Tp (aj 1 rM) (cO oM (cO rW (aj 0 vf) aB) aB)) (cO oM (cO rW (aj 0 vf) aB) aB)))))), ?_⟩
 have l1:=Wy (n:=(k:Int) % 26) (i:=k % 26) (by omega) (by omega)
 have l2:=Wy (n:=(k:Int)* 7 % 26) (i:=k * 7 % 26) (by omega) (by omega)
 have zl:("abcdefghijklmnopqrstuvwxyz":Str).length<=sizeLine:=by decide +kernel
 have m1:Gi (k:Int) 7:= .inr ⟨by decide,by decide⟩
 have m2:Gi (k:Int) 5:= .inr ⟨by decide,by decide⟩
 have n0:0<=(k:Int)* 5 % 8:=by omega
 have n1:(k:Int)* 5 % 8<=1000:=by omega
 have o1:(⟨#[k * 7 % 26+97]⟩:Str).length<=1000:=by show 1<=1000;decide
 have en:((k:Int)* 5 % 8).toNat=k * 5 % 8:=by omega
 have q':Q (.str (ltr (k % 26)++JP (ltr (k * 7 % 26)) ((k:Int)* 5 % 8).toNat)) H:=by rw[en];exact q
 have zz:(⟨#[k % 26+97]⟩:Str).length+(JP (⟨#[k * 7 % 26+97]⟩:Str) ((k:Int)* 5 % 8).toNat).length<=sizeLine:=by
  rw[Zc,en,sizeLine_eq]
  show 1+k * 5 % 8 * 1<=_
  omega
 walk_at "vs"
 exact q'
end
section
variable {P:Program}{w:World}{K:PySem.W.Frag}{mg:Str->Option Value}{base:Heap}
abbrev gO:Stmt:=top 28
theorem Qq:bH ["pool","names"] ["pool","names"] (aa gO):=⟨rfl,rfl,rfl,by decide +kernel,rfl,by decide +kernel,by decide +kernel⟩
theorem gG:(aa gO).names.lookup ("_law_take":Str)=some NameKind.globalImplicit:=by decide +kernel
theorem j0:aG (aa gO) "pool":=by decide +kernel
theorem gH:(("_law_take":Str)==("__debug__":Str))=false:=by decide +kernel
theorem pM:aG (aa gO) "names":=by decide +kernel
theorem Iv:(aa gO).names.lookup ("len":Str)=some NameKind.globalImplicit:=by decide +kernel
theorem Iw:("len":Str)≠"__name__":=by decide +kernel
theorem Iz:(("len":Str)==("__debug__":Str))=false:=by decide +kernel
theorem Qs {f g:Addr}{fd gd:FuncData} (gm:FnT K mg "_law_leaf" gO ["pool","names"] f fd) (aC:FnT K mg "_law_take" dX ["pool","many"] g gd) (bu:bf P w K mg base CX0 1 g gd ["pool","many"] w6) (T:Blt mg):
 bf P w K mg base CX0 2 f fd ["pool","names"] TX:=by
 refine gm.F.okQ Qq (fun vs H Q E h=> ?_) (fun cdv A outer s H vs Q E hr h=> ?_)
 ·obtain⟨p,l,c,ns,rfl,_⟩:=h
  rfl
 obtain⟨p,l,c,ns,rfl,hp,hc,el,hn1,hn9,hg,q⟩:=h
 refine⟨_,(az (cJ (yX (HS (bT (Tn hr.units) (aj 1 pM) (eG aA) (aO _)) (Cd (bT dR (aJ (bu.mono (by omega)) hr gG aC.m aC.F.kp aC.b .nil aY (aH (aj 0 j0) (dZ aB aA)) gH) aB (aO _))))) (aF (aW (gC (dZ aZ (jc (aN cR (eG (Eh (cO pq (aJ (bu.mono (by omega)) hr gG aC.m aC.F.kp aC.b .nil aY (aH (aj 0 j0) (dZ aB aA)) gH) aB) (Eh (cO pq (aJ (bu.mono (by omega)) hr gG aC.m aC.F.kp aC.b .nil aY (aH (aj 0 j0) (Eh (cO Ni aB aB) aA)) gH) (cO Ni aB aB)) aA))) (aJ (bu.mono (by omega)) hr gG aC.m aC.F.kp aC.b .nil aY (aH (aj 0 j0) (dZ aB aA)) gH)) aA))))) bF)
  (aF (aW (gC (dZ aZ (jc (aN cR (aj 1 pM) (aJ (bu.mono (by omega)) hr gG aC.m aC.F.kp aC.b .nil aY (aH (aj 0 j0) (uQ (dm kZ Iv T.ym rA (aH (aj 1 pM) aA) Iw Iz) aA)) gH)) aA)))))), ?_⟩
 have nlp:=hp.nel el
 have cp1:VD 10 20:=⟨by decide,by decide,by decide⟩
 have cp2:VD 10 19:=⟨by decide,by decide,by decide⟩
 have p20:(10:Int)^(20:Int).toNat=100000000000000000000:=by decide +kernel
 have p19:(10:Int)^(19:Int).toNat=10000000000000000000:=by decide +kernel
 have hq0:0<(10:Int)^(20:Int).toNat:=by rw[p20];omega
 have hql:((10:Int)^(20:Int).toNat).natAbs.log2<9000:=by rw[p20];decide +kernel
 walk_at "vs"
 intro pe hpe
 have npe:pe∉[p]:=fun z=>hp.ne hpe (by simpa using z)
 have S1:=aD (.lst []) hpe
 have B1:But [p] H (upd H pe (.lst [])):=But.of_same S1
 have pl1:=hp.same S1
 have el1:=S1 _ _ el
 have e1:upd H pe (.lst []) pe=some (.lst []):=ao
 generalize upd H pe (.lst [])=H1 at *
 refine⟨_,_, .lst (SqL.of el1) (mj _), .lst (SqL.of e1) .nil,xg hg,by decide, ?_⟩
 rw[TF hn1]
 walk_at "vs"
 intro n2 H2 n20 n21 b2 pl2
 have B2:=B1.trans b2
 have el2:=B2 _ _ nlp el
 walk_at "vs"
 refine yw (fun c1=> ?_) (fun c1=> ?_)
 ·walk_at "vs"
  intro n3 H3 n30 n31 b3 pl3
  walk_at "vs"
  intro n4 H4 n40 n41 b4 pl4
  have ajC:n4<(10:Int)^(20:Int).toNat:=n41
  rw[p20] at ajC
  have B4:=B2.trans (b3.trans b4)
  walk_at "vs"
  intro ps hps
  have nps:ps∉[p]:=fun z=>pl4.ne hps (by simpa using z)
  have ajD:=jd B4 hps nps
  have S5:=aD (.lst [V.int (n3 - 4),V.int (n4 - (10:Int)^(19:Int).toNat)]) hps
  have e5:upd H4 ps (.lst [V.int (n3 - 4),V.int (n4 - (10:Int)^(19:Int).toNat)]) ps=some (.lst [V.int (n3 - 4),V.int (n4 - 10000000000000000000)]):=by rw[p19];exact ao
  have B5:But [p] H (upd H4 ps (.lst [V.int (n3 - 4),V.int (n4 - (10:Int)^(19:Int).toNat)])):=B4.upd _ ajD
  have pl5:=pl4.same S5
  generalize upd H4 ps (.lst [V.int (n3 - 4),V.int (n4 - (10:Int)^(19:Int).toNat)])=H5 at *
  walk_at "vs"
  intro n6 H6 n60 n61 b6 pl6
  have B6:=B5.trans b6
  have e6:=b6 _ _ nps e5
  obtain⟨v,hv,hv1⟩:∃v:Int,atI [V.int (n3 - 4),V.int (n4 - 10000000000000000000)] n6=some (.int v)/\v.natAbs<10 ^ 40:=by
   have:n6=0\/n6=1:=by omega
   rcases this with rfl | rfl
   ·exact⟨n3 - 4,rfl,by omega⟩
   ·exact⟨n4 - 10000000000000000000,rfl,by omega⟩
  walk_at "vs"
  intro p8 hp8
  have ajE:=jd B6 hp8 (fun z=>pl6.ne hp8 (by simpa using z))
  exact q p8 (.num v) _ (B6.upd _ ajE) ((pl6.same (aD _ hp8)).mono (by omega)) (.num ao) ⟨hv1,trivial,trivial,Nat.le_refl _⟩
 ·have hlm:(ns.map V.str).length=ns.length:=List.length_map _
  have hl0:0<((ns.map V.str).length:Int):=by rw[hlm];omega
  have hlog:((ns.map V.str).length:Int).natAbs.log2<9000:=by
   rw[hlm]
   exact Nat.lt_of_le_of_lt (Nat.log2_le_self _) (by omega)
  walk_at "vs"
  intro n6 H8 n60 n61 b8 pl8
  have B8:=B2.trans b8
  have el8:=B8 _ _ nlp el
  obtain⟨x,hx,hxm⟩:∃x,atI (ns.map V.str) n6=some (.str x)/\x∈ns:=by
   obtain⟨j,rfl⟩:=Int.eq_ofNat_of_zero_le n60
   have hj:j<ns.length:=by rw[hlm] at n61;omega
   exact⟨ns[j],iT (by rw[List.getElem?_map,List.getElem?_eq_getElem hj];rfl),List.getElem_mem hj⟩
  walk_at "vs"
  intro p9 hp9
  have N5:=jd B8 hp9 (fun z=>pl8.ne hp9 (by simpa using z))
  exact q p9 (.rd x) _ (B8.upd _ N5) ((pl8.same (aD _ hp9)).mono (by omega)) (.rd ao) ⟨hg x hxm,trivial,hxm,Nat.le_refl _⟩
end
section
variable {P:Program}{w:World}{K:PySem.W.Frag}{mg:Str->Option Value}{base:Heap}
abbrev bw:Stmt:=top 29
theorem qC:bH ["pool","names","deep","way","one","other"] ["pool","names","deep"] (aa bw):=⟨rfl,rfl,rfl,by decide +kernel,rfl,by decide +kernel,by decide +kernel⟩
theorem Ey:Loc (aa bw) "way":=by decide +kernel
theorem j6:(aa bw).names.lookup ("_law_take":Str)=some NameKind.globalImplicit:=by decide +kernel
theorem fO:aG (aa bw) "pool":=by decide +kernel
theorem iG:(("_law_take":Str)==("__debug__":Str))=false:=by decide +kernel
theorem jG:aG (aa bw) "way":=by decide +kernel
theorem lB:aG (aa bw) "deep":=by decide +kernel
theorem wA:(aa bw).names.lookup ("_law_leaf":Str)=some NameKind.globalImplicit:=by decide +kernel
theorem iR:aG (aa bw) "names":=by decide +kernel
theorem wB:(("_law_leaf":Str)==("__debug__":Str))=false:=by decide +kernel
theorem Ez:Loc (aa bw) "one":=by decide +kernel
theorem jB:(aa bw).names.lookup ("_law_recipe":Str)=some NameKind.globalImplicit:=by decide +kernel
theorem jC:(("_law_recipe":Str)==("__debug__":Str))=false:=by decide +kernel
theorem lX:aG (aa bw) "one":=by decide +kernel
theorem Be:(aa bw).names.lookup ("tuple":Str)=some NameKind.globalImplicit:=by decide +kernel
theorem Bf:(aa bw).names.lookup ("range":Str)=some NameKind.globalImplicit:=by decide +kernel
theorem EY:("len":Str)≠"__name__":=by decide +kernel
theorem Fb:(("len":Str)==("__debug__":Str))=false:=by decide +kernel
theorem Bg:("tuple":Str)≠"__name__":=by decide +kernel
theorem Bh:(("tuple":Str)==("__debug__":Str))=false:=by decide +kernel
theorem Bj:Loc (aa bw) "other":=by decide +kernel
theorem rN:aG (aa bw) "other":=by decide +kernel
theorem yq {d:Nat}{f g0 g1:Addr}{fd gd0 gd1:FuncData} (aQ:FnT K mg "_law_recipe" bw ["pool","names","deep"] f fd) (aC:FnT K mg "_law_take" dX ["pool","many"] g0 gd0) (bu:bf P w K mg base CX0 1 g0 gd0 ["pool","many"] w6)
 (gm:FnT K mg "_law_leaf" gO ["pool","names"] g1 gd1) (oU:bf P w K mg base CX0 2 g1 gd1 ["pool","names"] TX) (jH:bf P w K mg base CX0 (d+2) f fd ["pool","names","deep"] (ajp d)) (T:Blt mg):
 bf P w K mg base CX0 (d+3) f fd ["pool","names","deep"] (WN d):=by
 refine aQ.F.okQ qC (fun vs H Q E h=> ?_) (fun cdv A outer s H vs Q E hr h=> ?_)
 ·obtain⟨p,l,c,ns,deep,rfl,_⟩:=h
  rfl
 obtain⟨p,l,c,ns,deep,rfl,hdeep,hd3,hp,hc,el,hn1,hn9,hg,q⟩:=h
 refine⟨_,(az (bB (i:=3) qC.nd rfl Ey (aJ (bu.mono (by omega)) hr j6 aC.m aC.F.kp aC.b .nil aY (aH (aj 0 fO) (dZ aB aA)) iG))
  (az (cJ (yX (HS (bT dR (aj 2 lB) aB (aO _)) (Cd (bT dR (aj 3 jG) aB (aO _))))) (aF (aW (aJ (oU.mono (by omega)) hr wA gm.m gm.F.kp gm.b .nil aY (aH (aj 0 fO) (aH (aj 1 iR) aA)) wB))) bF)
  (az (bB (i:=4) qC.nd rfl Ez (aJ (jH.mono (by omega)) hr jB aQ.m aQ.F.kp aQ.b .nil aY (aH (aj 0 fO) (aH (aj 1 iR) (Eh (cO pq (aj 2 lB) aB) aA))) jC))
  (az (cJ (bT dR (aj 3 jG) aB (aO _)) (aF (aW (gC (dZ aZ (aH (aj 4 lX) (Lb (gC (dZ aZ (Eh (cO pq (aJ (bu.mono (by omega)) hr j6 aC.m aC.F.kp aC.b .nil aY (aH (aj 0 fO) (dZ aB aA)) iG) aB) aA))) aA)))))) bF)
  (az (cJ (yX (uP (bT dR (aj 3 jG) aB (aO _)) (qy (bT (Y7 hr.units) (aj 1 iR) (eG aA) (aO _))))) (aF (aW (gC (dZ aZ (aH (aj 4 lX) (uQ (jD O9 Be T.Nk Jy (afJ (wY rfl (n:=1) (fr:=[1,0]) (N:=["k","names","pool"]) (HR (scX:=aa bw) (NX:=["pool","names","deep","way","one","other"]) rfl rfl (by decide +kernel)) (Ak Bf T.Jj (Eh (cO jR aB (aJ (bu.mono (by omega)) hr j6 aC.m aC.F.kp aC.b .nil aY (aH (aj 0 fO) (dZ aB aA)) iG)) aA)) (fun _ _ _ _ _=>(qgx (i:=0) (show List.Nodup (α:=Str) ["k","names","pool"] by decide) (K9 (by decide +kernel)))) (fun _ _ _ _ _=>Rt) (fun _ _ _ _ _=>(aN (Gs (K:=K) rfl) (aj 1 (o9.ok (by decide +kernel))) (aJ (bu.mono (by omega)) hr (glC (by decide +kernel)) aC.m aC.F.kp aC.b .nil aY (aH (aj 2 (o9.ok (by decide +kernel))) (uQ (dm (HW (K:=K) rfl) (glC (by decide +kernel)) T.ym rA (aH (aj 1 (o9.ok (by decide +kernel))) aA) EY Fb) aA)) iG)))) aA) Bg Bh) aA)))))) bF)
  (az (bB (i:=5) qC.nd rfl Bj (aJ (jH.mono (by omega)) hr jB aQ.m aQ.F.kp aQ.b .nil aY (aH (aj 0 fO) (aH (aj 1 iR) (Eh (cO pq (aj 2 lB) aB) aA))) jC))
  (az (cJ (bT Wm (aj 3 jG) aB (aO _)) (aF (aW (gC (dZ aZ (aH (aj 4 lX) (aH (aj 5 rN) (uQ (aJ (jH.mono (by omega)) hr jB aQ.m aQ.F.kp aQ.b .nil aY (aH (aj 0 fO) (aH (aj 1 iR) (Eh (cO pq (aj 2 lB) aB) aA))) jC) aA))))))) bF)
  (aF (aW (gC (jc (aN cR (eG (dZ aZ (dZ aZ (dZ aZ (dZ aZ aA))))) (cO pq (aj 3 jG) aB)) (aH (aj 4 lX) (aH (aj 5 rN) aA))))))))))))), ?_⟩
 have ht:=Zh d
 have nlp:=hp.nel el
 walk_at "vs"
 intro kind H1 k0 k1 b1 pl1
 have el1:=b1 _ _ nlp el
 have leafq:∀a r H',But [p] H1 H'->eU H' p (c+1+6)->IsR H' a r->Rk3 ns 1 r->Q (.ref a) H':=fun a r H' b pl R ok=>
  q a r H' (b1.trans b) (pl.mono (by omega)) R ⟨ok.g,ok.t,ok.i,by have:=ok.d;omega⟩
 cases d with
 | zero=>
   have hdeep:deep=0:=hdeep
   subst hdeep
   walk_at "vs"
   exact leafq
 | succ d=>
   have hdeep:deep=(d:Int)+1:=hdeep
   have hnd:¬(deep=0):=by omega
   walk_at "vs"
   refine yw (fun c0=>absurd (V.int.inj (of_decide_eq_true c0)) hnd) (fun _=> ?_)
   walk_at "vs"
   refine yw (fun c0=> ?_) (fun c0=> ?_)
   ·walk_at "vs"
    exact leafq
   ·have c0':¬(kind=0):=fun z=>c0 (by rw[z];rfl)
    walk_at "vs"
    intro a1 r1 H2 b2 pl2 R1 ok1
    have B2:=b1.trans b2
    have el2:=B2 _ _ nlp el
    have htd:tk3 d<=170:=by
     have:d=0\/d=1\/d=2:=by omega
     rcases this with rfl | rfl | rfl<;>decide
    have et:tk3 (d+1)=3 * tk3 d+20:=rfl
    have od1:=ok1.d
    walk_at "vs"
    refine yw (fun c1=> ?_) (fun c1=> ?_)
    ·walk_at "vs"
     intro n3 H3 n30 n31 b3 pl3
     have B3:=B2.trans b3
     have R13:=R1.tups (pl2.tups b3)
     walk_at "vs"
     intro p4 hp4
     have ajF:=jd B3 hp4 (fun z=>pl3.ne hp4 (by simpa using z))
     have S4:=aD (.tup [V.str "number",V.int (n3 - 3)]) hp4
     have R4:IsR (upd H3 p4 (.tup [V.str "number",V.int (n3 - 3)])) p4 (.num (n3 - 3)):= .num ao
     have B4:But [p] H (upd H3 p4 (.tup [V.str "number",V.int (n3 - 3)])):=B3.upd _ ajF
     have pl4:=pl3.same S4
     have R14:=R13.same S4
     generalize upd H3 p4 (.tup [V.str "number",V.int (n3 - 3)])=H4 at *
     walk_at "vs"
     intro p9 hp9
     have N5:=jd B4 hp9 (fun z=>pl4.ne hp9 (by simpa using z))
     have S:=aD (.tup [V.str "times", .ref a1, .ref p4]) hp9
     exact q p9 (.bin .times r1 (.num (n3 - 3))) _ (B4.upd _ N5) ((pl4.same S).mono (by omega)) (.bin ao (R14.same S) (R4.same S)) ⟨⟨ok1.g,show(n3 - 3).natAbs<10 ^ 40 by omega⟩,⟨ok1.t,trivial,fun _=>⟨_,rfl,by omega,by omega⟩⟩,⟨ok1.i,trivial⟩,by show max r1.depth 1+1<=_;omega⟩
    ·have c1':¬(kind=1):=fun z=>c1 (by rw[z];rfl)
     have rest:∀(a2:Addr) (r2:R) (H3:Hp),But [p] H H3->eU H3 p (c+1+tk3 d+tk3 d)->IsR H3 a1 r1->IsR H3 a2 r2->Rk3 ns (d+1) r2->∀(op:Op),op≠ .times->∀p9,H3 p9=none->Q (.ref p9) (upd H3 p9 (.tup [.str op.word, .ref a1, .ref a2])):=by
      intro a2 r2 H3 b3 pl3 R1 R2 ok2 op hop p9 hp9
      have N5:=jd b3 hp9 (fun z=>pl3.ne hp9 (by simpa using z))
      have S:=aD (.tup [.str op.word, .ref a1, .ref a2]) hp9
      have od2:=ok2.d
      exact q p9 (.bin op r1 r2) _ (b3.upd _ N5) ((pl3.same S).mono (by omega)) (.bin ao (R1.same S) (R2.same S)) ⟨⟨ok1.g,ok2.g⟩,⟨ok1.t,ok2.t,fun z=>absurd z hop⟩,⟨ok1.i,ok2.i⟩,by show max r1.depth r2.depth+1<=_;omega⟩
     walk_at "vs"
     refine yw (fun c2=> ?_) (fun c2=> ?_)
     ·walk_at "vs"
      intro pe hpe
      have npe:pe∉[p]:=fun z=>pl2.ne hpe (by simpa using z)
      have ajG:=jd B2 hpe npe
      have S2:=aD (.lst []) hpe
      have B3:But [p] H (upd H2 pe (.lst [])):=B2.upd _ ajG
      have pl3:=pl2.same S2
      have el3:=S2 _ _ el2
      have R13:=R1.same S2
      have e3:upd H2 pe (.lst []) pe=some (.lst []):=ao
      generalize upd H2 pe (.lst [])=H3 at *
      refine⟨_,_, .lst (SqL.of el3) (mj _), .lst (SqL.of e3) .nil,xg hg,by decide, ?_⟩
      rw[TF hn1]
      walk_at "vs"
      intro n9 H4 n90 n91 b4 pl4
      have B4:=B3.trans b4
      have el4:=B4 _ _ nlp el
      have R14:=R13.tups (pl3.tups b4)
      walk_at "vs"
      have hlm:(ns.map V.str).length=ns.length:=List.length_map _
      have hl0:0<((ns.map V.str).length:Int):=by rw[hlm];omega
      have hlog:((ns.map V.str).length:Int).natAbs.log2<9000:=by
       rw[hlm]
       exact Nat.lt_of_le_of_lt (Nat.log2_le_self _) (by omega)
      intro D hD
      have nD:D∉[p]:=fun z=>pl4.ne hD (by simpa using z)
      have nDp:D≠p:=by simpa using nD
      have hD0:=jd B4 hD nD
      refine Jx (fun i σ' H'=>(∃t,σ'=t::[some (.ref l),some (.ref p)])/\∃ts:List Str,H' D=some (.lst (ts.map V.str))/\ts.length=i/\(∀x∈ts,x∈ns)/\But [p] H H'/\eU H' p (c+1+tk3 d+1+i)/\IsR H' a1 r1) ?_ ?_ ?_
      ·exact⟨⟨none,rfl⟩,[],ao,rfl,by simp,B4.upd _ hD0,pl4.same (aD _ hD),R14.same (aD _ hD)⟩
      ·intro i σ' H' hi hP
       obtain⟨⟨t,rfl⟩,ts,e,et',ho,hb,hpl,hR⟩:=hP
       have elH:=hb _ _ nlp el
       have hi9:(i:Int)<10:=by omega
       walk_at "vs"
       intro n6 H5 n60 n61 b5 pl5
       have hb5:=hb.trans b5
       have el5:=hb5 _ _ nlp el
       have e5:=b5 _ _ nD e
       have R5:=hR.tups (hpl.tups b5)
       obtain⟨x,hx,hxm⟩:∃x,atI (ns.map V.str) n6=some (.str x)/\x∈ns:=by
        obtain⟨j,rfl⟩:=Int.eq_ofNat_of_zero_le n60
        have hj:j<ns.length:=by rw[hlm] at n61;omega
        exact⟨ns[j],iT (by rw[List.getElem?_map,List.getElem?_eq_getElem hj];rfl),List.getElem_mem hj⟩
       have hz:(ts.map V.str).length<sizeLine:=by rw[List.length_map];exact bR (by omega)
       walk_at "vs"
       have ajH:jz H5 (upd H5 D (.lst (ts.map V.str++[.str x]))):=fun q xs e'=>(au (fun z=>by rw[z,e5] at e';cases e')).trans e'
       refine⟨⟨_,rfl⟩,ts++[x], ?_,by rw[List.length_append,et'];rfl, ?_,hb5.upd _ hD0,pl5.keep (But.set _ (by simp)) (S:=[D]) (by simpa using Ne.symm nDp),R5.tups ajH⟩
       ·rw[List.map_append];exact ao
       ·intro y hy
        rcases List.mem_append.mp hy with z | z
        ·exact ho y z
        ·have:y=x:=by simpa using z
         rw[this];exact hxm
      ·intro σ' H' hP
       obtain⟨_,ts,e,et',ho,hb,hpl,hR⟩:=hP
       walk_at "vs"
       intro pt hpt
       have ajI:=jd hb hpt (fun z=>hpl.ne hpt (by simpa using z))
       have S5:=aD (.tup (ts.map V.str)) hpt
       walk_at "vs"
       intro p9 hp9
       have hb5:=hb.upd (.tup (ts.map V.str)) ajI
       have pl5:=hpl.same S5
       have N5:=jd hb5 hp9 (fun z=>pl5.ne hp9 (by simpa using z))
       have S6:=aD (.tup [.str "choose", .ref a1, .ref pt]) hp9
       exact q p9 (.cho r1 ts) _ (hb5.upd _ N5) ((pl5.same S6).mono (by omega)) (.cho ao ((hR.same S5).same S6) (S6 _ _ ao)) ⟨⟨ok1.g,by omega,by omega,fun x hx=>hg x (ho x hx)⟩,⟨ok1.t,by omega⟩,⟨ok1.i,ho⟩,by show r1.depth+1<=_;omega⟩
     ·walk_at "vs"
      intro a2 r2 H3 b3 pl3 R2 ok2
      have B3:=B2.trans b3
      have el3:=B3 _ _ nlp el
      have R13:=R1.tups (pl2.tups b3)
      have od2:=ok2.d
      walk_at "vs"
      refine yw (fun c3=> ?_) (fun c3=> ?_)
      ·walk_at "vs"
       intro a3 r3 H4 b4 pl4 R3 ok3
       have B4:=B3.trans b4
       have R14:=R13.tups (pl3.tups b4)
       have R24:=R2.tups (pl3.tups b4)
       have od3:=ok3.d
       walk_at "vs"
       intro p9 hp9
       have N5:=jd B4 hp9 (fun z=>pl4.ne hp9 (by simpa using z))
       have S:=aD (.tup [.str "pick", .ref a1, .ref a2, .ref a3]) hp9
       exact q p9 (.pick r1 r2 r3) _ (B4.upd _ N5) ((pl4.same S).mono (by omega)) (.pick ao (R14.same S) (R24.same S) (R3.same S)) ⟨⟨ok1.g,ok2.g,ok3.g⟩,⟨ok1.t,ok2.t,ok3.t⟩,⟨ok1.i,ok2.i,ok3.i⟩,by show max r1.depth (max r2.depth r3.depth)+1<=_;omega⟩
      ·have c3':¬kind<5:=by simpa using c3
       obtain⟨op,hop,hat⟩:∃op:Op,op≠ .times/\atI [V.str "plus",V.str "minus",V.str "most",V.str "plus"] (kind - 5)=some (.str op.word):=by
        have hm:kind - 5=0\/kind - 5=1\/kind - 5=2\/kind - 5=3:=by omega
        rcases hm with hm | hm | hm | hm
        ·rw[hm];exact⟨.plus,by decide,rfl⟩
        ·rw[hm];exact⟨.minus,by decide,rfl⟩
        ·rw[hm];exact⟨.most,by decide,rfl⟩
        ·rw[hm];exact⟨.plus,by decide,rfl⟩
       walk_at "vs"
       intro pz hpz
       have npz:pz∉[p]:=fun z=>pl3.ne hpz (by simpa using z)
       have ajJ:=jd B3 hpz npz
       have S3:=aD (.lst [.str "plus", .str "minus", .str "most", .str "plus"]) hpz
       walk_at "vs"
       exact rest a2 r2 _ (B3.upd _ ajJ) (pl3.same S3) (R13.same S3) (R2.same S3) ok2 op hop
theorem BW {f g0 g1:Addr}{fd gd0 gd1:FuncData} (aQ:FnT K mg "_law_recipe" bw ["pool","names","deep"] f fd) (aC:FnT K mg "_law_take" dX ["pool","many"] g0 gd0) (bu:bf P w K mg base CX0 1 g0 gd0 ["pool","many"] w6)
 (gm:FnT K mg "_law_leaf" gO ["pool","names"] g1 gd1) (oU:bf P w K mg base CX0 2 g1 gd1 ["pool","names"] TX) (T:Blt mg):∀d,bf P w K mg base CX0 (d+3) f fd ["pool","names","deep"] (WN d)
 | 0=>yq aQ aC bu gm oU (never fun vs H Q E h=>h) T
 | d+1=>yq aQ aC bu gm oU (BW aQ aC bu gm oU T d) T
theorem KJ {f g0 g1:Addr}{fd gd0 gd1:FuncData} (aQ:FnT K mg "_law_recipe" bw ["pool","names","deep"] f fd) (aC:FnT K mg "_law_take" dX ["pool","many"] g0 gd0) (bu:bf P w K mg base CX0 1 g0 gd0 ["pool","many"] w6)
 (gm:FnT K mg "_law_leaf" gO ["pool","names"] g1 gd1) (oU:bf P w K mg base CX0 2 g1 gd1 ["pool","names"] TX) (T:Blt mg):bf P w K mg base CX0 6 f fd ["pool","names","deep"] WQ:=by
 have ok:=BW aQ aC bu gm oU T
 refine⟨fun vs H Q E h=> ?_,fun A outer s H args us vs Q E hr he hb hv hs=> ?_⟩
 ·obtain⟨p,l,c,ns,deep,rfl,_⟩:=h
  rfl
 ·obtain⟨p,l,c,ns,deep,rfl,h0,h4,hp,hc,el,hn1,hn9,hg,q⟩:=hs
  obtain⟨d,rfl⟩:=Int.eq_ofNat_of_zero_le h0
  have hd:d=0\/d=1\/d=2\/d=3:=by omega
  have ht:tk3 d<=530:=by rcases hd with rfl | rfl | rfl | rfl<;>decide
  exact((ok d).mono (by omega)).run A outer s H args us _ Q E hr he hb hv ⟨p,l,c,ns,_,rfl,rfl,by omega,hp,by omega,el,hn1,hn9,hg,fun a r H' b pl R o=>q a r H' b (pl.mono (by omega)) R ⟨o.g,o.t,o.i,by have:=o.d;omega⟩⟩
end
section
variable {P:Program}{w:World}{K:PySem.W.Frag}{mg:Str->Option Value}{base:Heap}
abbrev bM:Stmt:=top 30
theorem m6:bH ["script","start","many","given","recipes","names","k","pool"] ["script","start","many"] (aa bM):=⟨rfl,rfl,rfl,by decide +kernel,rfl,by decide +kernel,by decide +kernel⟩
theorem Dd:Loc (aa bM) "given":=by decide +kernel
theorem zR:Loc (aa bM) "recipes":=by decide +kernel
theorem De:Loc (aa bM) "names":=by decide +kernel
theorem Df:(aa bM).names.lookup ("range":Str)=some NameKind.globalImplicit:=by decide +kernel
theorem Fd:aG (aa bM) "many":=by decide +kernel
theorem KN:Loc (aa bM) "k":=by decide +kernel
theorem Fe:Loc (aa bM) "pool":=by decide +kernel
theorem xQ:(aa bM).names.lookup ("_law_pool":Str)=some NameKind.globalImplicit:=by decide +kernel
theorem Dg:aG (aa bM) "start":=by decide +kernel
theorem mK:aG (aa bM) "k":=by decide +kernel
theorem Bk:aG (aa bM) "script":=by decide +kernel
theorem xR:(("_law_pool":Str)==("__debug__":Str))=false:=by decide +kernel
theorem lC:(aa bM).names.lookup ("_law_take":Str)=some NameKind.globalImplicit:=by decide +kernel
theorem lY:aG (aa bM) "pool":=by decide +kernel
theorem lD:(("_law_take":Str)==("__debug__":Str))=false:=by decide +kernel
theorem tL:aG (aa bM) "given":=by decide +kernel
theorem lE:(aa bM).names.lookup ("_law_name":Str)=some NameKind.globalImplicit:=by decide +kernel
theorem lF:(("_law_name":Str)==("__debug__":Str))=false:=by decide +kernel
theorem qR:aG (aa bM) "recipes":=by decide +kernel
theorem vm:(aa bM).names.lookup ("_law_recipe":Str)=some NameKind.globalImplicit:=by decide +kernel
theorem tM:aG (aa bM) "names":=by decide +kernel
theorem vo:(("_law_recipe":Str)==("__debug__":Str))=false:=by decide +kernel
theorem N6 {f g0 g1 g2 g3:Addr}{fd gd0 gd1 gd2 gd3:FuncData} (kW:FnT K mg "_law_house" bM ["script","start","many"] f fd) (aC:FnT K mg "_law_take" dX ["pool","many"] g0 gd0) (bu:bf P w K mg base CX0 1 g0 gd0 ["pool","many"] w6)
 (bU:FnT K mg "_law_pool" iM ["script","k"] g1 gd1) (mL:bf P w K mg base CX0 2 g1 gd1 ["script","k"] (Np K)) (dF:FnT K mg "_law_name" ji ["k"] g2 gd2) (tO:bf P w K mg base CX0 1 g2 gd2 ["k"] JQ)
 (aQ:FnT K mg "_law_recipe" bw ["pool","names","deep"] g3 gd3) (jH:bf P w K mg base CX0 6 g3 gd3 ["pool","names","deep"] WQ) (T:Blt mg):bf P w K mg base CX0 7 f fd ["script","start","many"] (aaX K):=by
 refine kW.F.okQ m6 (fun vs H Q E h=> ?_) (fun cdv A outer s H vs Q E hr h=> ?_)
 ·obtain⟨a,zs,start,many,rfl,_⟩:=h
  rfl
 obtain⟨a,zs,start,many,rfl,hS,h0,h50,hm,q⟩:=h
 refine⟨_,(az (bB (i:=3) m6.nd rfl Dd nU)
  (az (bB (i:=4) m6.nd rfl zR nU)
  (az (bB (i:=5) m6.nd rfl De (eG aA))
  (az (wZ PassesOwn.never rfl (Ak Df T.Jj (aH (aj 2 Fd) aA)) (fH (i:=6) m6.nd rfl KN) (az (bB (i:=7) m6.nd rfl Fe (aJ (mL.mono (by omega)) hr xQ bU.m bU.F.kp bU.b .nil aY (aH (aj 0 Bk) (Eh (cO jR (aj 1 Dg) (aj 6 mK)) aA)) xR))
  (az (cJ (yX (HS (bT dR (aj 6 mK) aB (aO _)) (Cd (bT dR (aJ (bu.mono (by omega)) hr lC aC.m aC.F.kp aC.b .nil aY (aH (aj 7 lY) (dZ aB aA)) lD) aB (aO _))))) (aF (gQ (bO hr) (aj 3 tL) (aJ (tO.mono (by omega)) hr lE dF.m dF.F.kp dF.b .nil aY (aH (aj 6 mK) aA) lF) (cO pq (aJ (bu.mono (by omega)) hr lC aC.m aC.F.kp aC.b .nil aY (aH (aj 7 lY) (dZ aB aA)) lD) aB))) (aF (gQ (bO hr) (aj 4 qR) (aJ (tO.mono (by omega)) hr lE dF.m dF.F.kp dF.b .nil aY (aH (aj 6 mK) aA) lF) (aJ (jH.mono (by omega)) hr vm aQ.m aQ.F.kp aQ.b .nil aY (aH (aj 7 lY) (jc (Ea Ef (aj 5 tM) (Ji (Mr Al aB)) Jh) (jc (aN cR (eG (dZ aB (dZ aB (dZ aB aA)))) (aJ (bu.mono (by omega)) hr lC aC.m aC.F.kp aC.b .nil aY (aH (aj 7 lY) (dZ aB aA)) lD)) aA))) vo))))
  (aF (fY (uz PySem.F.plainAttrs_list PySem.F.slot_list_append PySem.F.type_list_append jb (aj 5 tM) (uQ (aJ (tO.mono (by omega)) hr lE dF.m dF.F.kp dF.b .nil aY (aH (aj 6 mK) aA) lF) aA)))))))
  (aF (aW (gC (aH (aj 3 tL) (aH (aj 4 qR) aA))))))))), ?_⟩
 walk_at "vs"
 intro g hg0
 have s1:=aD (.dK []) hg0
 have e1:upd H g (.dK []) g=some (.dK []):=ao
 generalize upd H g (.dK [])=H1 at *
 walk_at "vs"
 intro c hc1
 have s2:=aD (.dK []) hc1
 have e12:=s2 _ _ e1
 have e2:upd H1 c (.dK []) c=some (.dK []):=ao
 have ngc:g≠c:=fun z=>by rw[<-z,e1] at hc1;cases hc1
 have hc0:=same_none s1 hc1
 have S2:=s1.trans s2
 generalize upd H1 c (.dK [])=H2 at *
 walk_at "vs"
 intro l hl2
 have s3:=aD (.lst []) hl2
 have e13:=s3 _ _ e12
 have e23:=s3 _ _ e2
 have e3:upd H2 l (.lst []) l=some (.lst ((nmK 0).map V.str)):=ao
 have hl0:=same_none S2 hl2
 have S3:=S2.trans s3
 generalize upd H2 l (.lst [])=H3 at *
 clear s1 s2 s3 S2 e12 e1 e2 hc1 hl2
 refine⟨_,rfl,_,rfl,by omega,by omega, ?_⟩
 refine LR (fun i σ H'=>(∃t u,σ=[some (.ref a),some (.int start),some (.int many),some (.ref g),some (.ref c),some (.ref l),t,u])/\aM H H'/\∃gv rc kg kc,H' g=some (.dK kg)/\H' c=some (.dK kc)/\H' l=some (.lst ((nmK i).map V.str))/\Bld H' kg kc i gv rc) ?_ ?_ ?_
 ·exact⟨⟨none,none,rfl⟩,S3,kn0,fun _=>none,[],[],e13,e23,e3,⟨fun k hk=>by omega,fun x hx=>absurd rfl hx,fun x r e=>(by cases e),fun x hx=>absurd rfl hx,fun z=>by omega⟩,⟨[],[],⟨rfl,by simp⟩,⟨rfl,by simp⟩,rfl⟩,fun x=>rfl,fun x r e=>(by cases e),fun x _=>rfl⟩
 ·intro i σ H4 hi hP
  obtain⟨⟨t,u,rfl⟩,S4,gv,rc,kg,kc,eg4,ec4,el4,bd⟩:=hP
  have am4:i<17:=by
   have:i<(many:Int).toNat:=hi
   omega
  have hS4:=SqL.same S4 hS
  have ei:(0+(i:Int))=(i:Int):=by omega
  obtain⟨gs,cs,kgk,kck,hlen⟩:=bd.k
  have lg:=kgk.len
  have lc:=kck.len
  rw[ei]
  walk_at "vs"
  intro p H5 s5 hp5 pl5
  have S5:=S4.trans s5
  have hp0:=same_none S4 hp5
  have eg5:=s5 _ _ eg4
  have ec5:=s5 _ _ ec4
  have el5:=s5 _ _ el4
  have bd5:=bd.tups (aM.tups s5)
  have fr:∀y∈[p],H y=none:=fun y hy=>by
   have:y=p:=by simpa using hy
   rw[this];exact hp0
  have ngp:g∉[p]:=fun z=>by
   have:g=p:=by simpa using z
   rw[<-this,eg4] at hp5;cases hp5
  have ncp:c∉[p]:=fun z=>by
   have:c=p:=by simpa using z
   rw[<-this,ec4] at hp5;cases hp5
  have nlp:=pl5.nel el5
  have ngl:g≠l:=fun z=>by rw[z,el5] at eg5;cases eg5
  have ncl:c≠l:=fun z=>by rw[z,el5] at ec5;cases ec5
  have hzl:((nmK i).map V.str).length<sizeLine:=by rw[List.length_map,jn];exact bR (by omega)
  have done:∀(H6:Hp) (σ6:L2.St) gv rc kg kc,(∃t u,σ6=[some (.ref a),some (.int start),some (.int many),some (.ref g),some (.ref c),some (.ref l),t,u])->aM H H6->H6 g=some (.dK kg)->H6 c=some (.dK kc)->H6 l=some (.lst ((nmK i).map V.str))->Bld H6 kg kc (i+1) gv rc->
   (∃t u,σ6=[some (.ref a),some (.int start),some (.int many),some (.ref g),some (.ref c),some (.ref l),t,u])/\aM H (upd H6 l (.lst ((nmK i).map V.str++[.str (aq i)])))/\∃gv rc kg kc,(upd H6 l (.lst ((nmK i).map V.str++[.str (aq i)]))) g=some (.dK kg)/\(upd H6 l (.lst ((nmK i).map V.str++[.str (aq i)]))) c=some (.dK kc)/\(upd H6 l (.lst ((nmK i).map V.str++[.str (aq i)]))) l=some (.lst ((nmK (i+1)).map V.str))/\Bld (upd H6 l (.lst ((nmK i).map V.str++[.str (aq i)]))) kg kc (i+1) gv rc:=by
   intro H6 σ6 gv rc kg kc hσ S6 e1 e2 e3 b
   refine⟨hσ,cG _ hl0 S6,gv,rc,kg,kc,(au ngl).trans e1,(au ncl).trans e2, ?_,b.tups fun y xs z=>(au (fun w=>by rw[w,e3] at z;cases z)).trans z⟩
   rw[ao,El,List.map_append];rfl
  walk_at "vs"
  refine yw (fun c1=> ?_) (fun c1=> ?_)
  ·walk_at "vs"
   intro n7 H7 n70 n71 b7 pl7
   have B7:=b7
   have S7:=fB S5 fr B7
   have eg7:=B7 _ _ ngp eg5
   have ec7:=B7 _ _ ncp ec5
   have el7:=B7 _ _ nlp el5
   have bd7:=bd5.tups (pl5.tups B7)
   have dp:jF H7 g (.str (aq i)) (.int (n7 - 6)) (upd H7 g (.dK (putK kg (.inr (aq i)) (.int (n7 - 6))))):=jF.k (k:= .inr (aq i)) eg7 (bR (by omega))
   walk_at "vs"
   have t8:jz H7 (upd H7 g (.dK (putK kg (.inr (aq i)) (.int (n7 - 6))))):=fun y xs z=>(au (fun w=>by rw[w,eg7] at z;cases z)).trans z
   have el8:upd H7 g (.dK (putK kg (.inr (aq i)) (.int (n7 - 6)))) l=some (.lst ((nmK i).map V.str)):=(au (Ne.symm ngl)).trans el7
   have ec8:upd H7 g (.dK (putK kg (.inr (aq i)) (.int (n7 - 6)))) c=some (.dK kc):=(au (Ne.symm ngc)).trans ec7
   have S8:=cG (.dK (putK kg (.inr (aq i)) (.int (n7 - 6)))) hg0 S7
   have eg8:upd H7 g (.dK (putK kg (.inr (aq i)) (.int (n7 - 6)))) g=some (.dK (putK kg (.inr (aq i)) (.int (n7 - 6)))):=ao
   have bd8:=(bd7.tups t8).Zi (by omega) (n7 - 6)
   exact done _ _ _ _ _ _ ⟨_,_,rfl⟩ S8 eg8 ec8 el8 bd8
  ·have c1':0<i:=by
    rcases Nat.eq_zero_or_pos i with z | z
    ·subst z;exact absurd rfl c1
    ·exact z
   walk_at "vs"
   intro n6 H6 n60 n61 b6 pl6
   walk_at "vs"
   refine yw (fun c2=> ?_) (fun c2=> ?_)
   ·walk_at "vs"
    intro n7 H7 n70 n71 b7 pl7
    have B7:=b6.trans b7
    have S7:=fB S5 fr B7
    have eg7:=B7 _ _ ngp eg5
    have ec7:=B7 _ _ ncp ec5
    have el7:=B7 _ _ nlp el5
    have bd7:=bd5.tups (pl5.tups B7)
    have dp:jF H7 g (.str (aq i)) (.int (n7 - 6)) (upd H7 g (.dK (putK kg (.inr (aq i)) (.int (n7 - 6))))):=jF.k (k:= .inr (aq i)) eg7 (bR (by omega))
    walk_at "vs"
    have t8:jz H7 (upd H7 g (.dK (putK kg (.inr (aq i)) (.int (n7 - 6))))):=fun y xs z=>(au (fun w=>by rw[w,eg7] at z;cases z)).trans z
    have el8:upd H7 g (.dK (putK kg (.inr (aq i)) (.int (n7 - 6)))) l=some (.lst ((nmK i).map V.str)):=(au (Ne.symm ngl)).trans el7
    have ec8:upd H7 g (.dK (putK kg (.inr (aq i)) (.int (n7 - 6)))) c=some (.dK kc):=(au (Ne.symm ngc)).trans ec7
    have S8:=cG (.dK (putK kg (.inr (aq i)) (.int (n7 - 6)))) hg0 S7
    have eg8:upd H7 g (.dK (putK kg (.inr (aq i)) (.int (n7 - 6)))) g=some (.dK (putK kg (.inr (aq i)) (.int (n7 - 6)))):=ao
    have bd8:=(bd7.tups t8).Zi (by omega) (n7 - 6)
    exact done _ _ _ _ _ _ ⟨_,_,rfl⟩ S8 eg8 ec8 el8 bd8
   ·have el6:=b6 _ _ nlp el5
    obtain⟨ns,ecut,hn1,hn9,hns⟩:=ac2 c1'
    have hgn:∀x∈ns,lK x:=fun x hx=>vM (by omega) x (hns x hx)
    walk_at "vs"
    intro pc hpc
    rw[ecut]
    have s7:=aD (.lst (ns.map V.str)) hpc
    have e7:upd H6 pc (.lst (ns.map V.str)) pc=some (.lst (ns.map V.str)):=ao
    have pl7:=pl6.same s7
    have B7:But [p] H5 (upd H6 pc (.lst (ns.map V.str))):=b6.trans (But.of_same s7)
    have npc:pc∉[p]:=fun z=>pl6.ne hpc (by simpa using z)
    generalize upd H6 pc (.lst (ns.map V.str))=H7 at *
    walk_at "vs"
    intro pz hpz
    have npz:pz∉[p]:=fun z=>pl7.ne hpz (by simpa using z)
    have s8:=aD (.lst [V.int 1,V.int 2,V.int 3]) hpz
    have e8:upd H7 pz (.lst [V.int 1,V.int 2,V.int 3]) pz=some (.lst [V.int 1,V.int 2,V.int 3]):=ao
    have e78:=s8 _ _ e7
    have pl8:=pl7.same s8
    have B8:=B7.trans (But.of_same (S:=[p]) s8)
    generalize upd H7 pz (.lst [V.int 1,V.int 2,V.int 3])=H8 at *
    walk_at "vs"
    intro n9 H9 n90 n91 b9 pl9
    have e9:=b9 _ _ npz e8
    have e79:=b9 _ _ npc e78
    obtain⟨dd,hdd,hd0,hd1⟩:∃dd:Int,atI [V.int 1,V.int 2,V.int 3] n9=some (.int dd)/\0<=dd/\dd<4:=by
     have:n9=0\/n9=1\/n9=2:=by omega
     rcases this with rfl | rfl | rfl
     ·exact⟨1,rfl,by omega,by omega⟩
     ·exact⟨2,rfl,by omega,by omega⟩
     ·exact⟨3,rfl,by omega,by omega⟩
    walk_at "vs"
    intro br r H10 b10 ZC R10 Xu
    have B10:=B8.trans (b9.trans b10)
    have S10:=fB S5 fr B10
    have Xv:=B10 _ _ ngp eg5
    have Qt:=B10 _ _ ncp ec5
    have Xw:=B10 _ _ nlp el5
    have Xx:=bd5.tups (pl5.tups B10)
    have dp:jF H10 c (.str (aq i)) (.ref br) (upd H10 c (.dK (putK kc (.inr (aq i)) (.ref br)))):=jF.k (k:= .inr (aq i)) Qt (bR (by omega))
    walk_at "vs"
    have t11:jz H10 (upd H10 c (.dK (putK kc (.inr (aq i)) (.ref br)))):=fun y xs z=>(au (fun w=>by rw[w,Qt] at z;cases z)).trans z
    have Xy:upd H10 c (.dK (putK kc (.inr (aq i)) (.ref br))) l=some (.lst ((nmK i).map V.str)):=(au (Ne.symm ncl)).trans Xw
    have Xz:upd H10 c (.dK (putK kc (.inr (aq i)) (.ref br))) g=some (.dK kg):=(au ngc).trans Xv
    have S11:=cG (.dK (putK kc (.inr (aq i)) (.ref br))) hc0 S10
    have XC:upd H10 c (.dK (putK kc (.inr (aq i)) (.ref br))) c=some (.dK (putK kc (.inr (aq i)) (.ref br))):=ao
    have ajK:=(Xx.tups t11).ac1 (by omega) c1' (Xu.mono hns) (R10.tups t11)
    exact done _ _ _ _ _ _ ⟨_,_,rfl⟩ S11 Xz XC Xy ajK
 ·intro σ H4 hP
  obtain⟨⟨t,u,rfl⟩,S4,gv,rc,kg,kc,eg4,ec4,el4,bd⟩:=hP
  have em:(many:Int).toNat=many:=by omega
  rw[em] at bd
  walk_at "vs"
  intro h hh
  have s5:=aD (.tup [.ref g, .ref c]) hh
  exact q h g c gv rc _ (S4.trans s5) (same_none S4 hh) hg0 hc0 ⟨kg,kc,ao,s5 _ _ eg4,s5 _ _ ec4,bd.tups (aM.tups s5)⟩
end
section
variable {P:Program}{w:World}{K:PySem.W.Frag}{mg:Str->Option Value}{base:Heap}
abbrev aR:Stmt:=top 31
theorem iW:bH ["house","script","start","most","given","recipes","names","many","k","name","pool","way"] ["house","script","start","most"] (aa aR):=⟨rfl,rfl,rfl,by decide +kernel,rfl,by decide +kernel,by decide +kernel⟩
theorem Dh:Loc (aa aR) "given":=by decide +kernel
theorem uE:(aa aR).names.lookup ("dict":Str)=some NameKind.globalImplicit:=by decide +kernel
theorem tQ:aG (aa aR) "house":=by decide +kernel
theorem uF:("dict":Str)≠"__name__":=by decide +kernel
theorem uG:(("dict":Str)==("__debug__":Str))=false:=by decide +kernel
theorem zT:Loc (aa aR) "recipes":=by decide +kernel
theorem Di:Loc (aa aR) "names":=by decide +kernel
theorem Ff:Loc (aa aR) "many":=by decide +kernel
theorem wC:(aa aR).names.lookup ("len":Str)=some NameKind.globalImplicit:=by decide +kernel
theorem fP:aG (aa aR) "given":=by decide +kernel
theorem wD:("len":Str)≠"__name__":=by decide +kernel
theorem wF:(("len":Str)==("__debug__":Str))=false:=by decide +kernel
theorem fV:aG (aa aR) "recipes":=by decide +kernel
theorem Dj:(aa aR).names.lookup ("range":Str)=some NameKind.globalImplicit:=by decide +kernel
theorem Fg:aG (aa aR) "many":=by decide +kernel
theorem KQ:Loc (aa aR) "k":=by decide +kernel
theorem Fi:Loc (aa aR) "name":=by decide +kernel
theorem xT:(aa aR).names.lookup ("_law_name":Str)=some NameKind.globalImplicit:=by decide +kernel
theorem mO:aG (aa aR) "k":=by decide +kernel
theorem xU:(("_law_name":Str)==("__debug__":Str))=false:=by decide +kernel
theorem Fj:Loc (aa aR) "pool":=by decide +kernel
theorem xV:(aa aR).names.lookup ("_law_pool":Str)=some NameKind.globalImplicit:=by decide +kernel
theorem Dk:aG (aa aR) "start":=by decide +kernel
theorem Bl:aG (aa aR) "script":=by decide +kernel
theorem xW:(("_law_pool":Str)==("__debug__":Str))=false:=by decide +kernel
theorem gn:aG (aa aR) "pool":=by decide +kernel
theorem GK:Loc (aa aR) "way":=by decide +kernel
theorem lG:(aa aR).names.lookup ("_law_take":Str)=some NameKind.globalImplicit:=by decide +kernel
theorem Fl:aG (aa aR) "most":=by decide +kernel
theorem lH:(("_law_take":Str)==("__debug__":Str))=false:=by decide +kernel
theorem dh:aG (aa aR) "name":=by decide +kernel
theorem m7:aG (aa aR) "way":=by decide +kernel
theorem oJ:(aa aR).names.lookup ("_law_recipe":Str)=some NameKind.globalImplicit:=by decide +kernel
theorem oV:aG (aa aR) "names":=by decide +kernel
theorem oK:(("_law_recipe":Str)==("__debug__":Str))=false:=by decide +kernel
theorem N7 {f g0 g1 g2 g3:Addr}{fd gd0 gd1 gd2 gd3:FuncData} (gY:FnT K mg "_law_other" aR ["house","script","start","most"] f fd) (aC:FnT K mg "_law_take" dX ["pool","many"] g0 gd0) (bu:bf P w K mg base CX0 1 g0 gd0 ["pool","many"] w6)
 (bU:FnT K mg "_law_pool" iM ["script","k"] g1 gd1) (mL:bf P w K mg base CX0 2 g1 gd1 ["script","k"] (Np K)) (dF:FnT K mg "_law_name" ji ["k"] g2 gd2) (tO:bf P w K mg base CX0 1 g2 gd2 ["k"] JQ)
 (aQ:FnT K mg "_law_recipe" bw ["pool","names","deep"] g3 gd3) (jH:bf P w K mg base CX0 6 g3 gd3 ["pool","names","deep"] WQ) (T:Blt mg):bf P w K mg base CX0 7 f fd ["house","script","start","most"] (aaZ K):=by
 refine gY.F.okQ iW (fun vs H Q E h=> ?_) (fun cdv A outer s H vs Q E hr h=> ?_)
 ·obtain⟨h,g,c,a,zs,start,most,n,gv,rc,rfl,_⟩:=h
  rfl
 obtain⟨h,g1,c1,a,zs,start,most,n,gv0,rc0,rfl,⟨kg0,kc0,eh,eg1,ec1,bd0⟩,am5,hS,h0,h50,hm0,amP,q⟩:=h
 have rg1:Rd H g1 (.dK kg0):= .inl eg1
 refine⟨_,(az (bB (i:=4) iW.nd rfl Dh (jD JX uE T.Rw Nf (jc (aN aK (aj 0 tQ) aB) aA) uF uG))
  (az (bB (i:=5) iW.nd rfl zT (jD JX uE T.Rw Nf (jc (aN aK (aj 0 tQ) aB) aA) uF uG))
  (az (bB (i:=6) iW.nd rfl Di (eG aA))
  (az (bB (i:=7) iW.nd rfl Ff (cO jR (dm Tq wC T.ym rA (aH (aj 4 fP) aA) wD wF) (dm Tq wC T.ym rA (aH (aj 5 fV) aA) wD wF)))
  (az (wZ PassesOwn.never rfl (Ak Dj T.Jj (aH (aj 7 Fg) aA)) (fH (i:=8) iW.nd rfl KQ) (az (bB (i:=9) iW.nd rfl Fi (aJ (tO.mono (by omega)) hr xT dF.m dF.F.kp dF.b .nil aY (aH (aj 8 mO) aA) xU))
  (az (bB (i:=10) iW.nd rfl Fj (aJ (mL.mono (by omega)) hr xV bU.m bU.F.kp bU.b .nil aY (aH (aj 1 Bl) (Eh (cO jR (aj 2 Dk) (cO oM (aj 8 mO) aB)) aA)) xW))
  (az (gQ (bO hr) (aj 10 gn) aZ (cO jR (cO Ed (cY (bO hr) (aj 10 gn) aZ) (cO jR (cO Ed (aj 8 mO) aB) aB)) (cO rW aB (aj 8 mO))))
  (az (bB (i:=11) iW.nd rfl GK (aJ (bu.mono (by omega)) hr lG aC.m aC.F.kp aC.b .nil aY (aH (aj 10 gn) (aH (aj 3 Fl) aA)) lH))
  (az (cJ (yX (uP (bT dR (aj 11 m7) aB (aO _)) (qy (uU (bO hr) (aj 9 dh) (aj 4 fP))))) (aF (gQ (bO hr) (aj 4 fP) (aj 9 dh) (cO jR (cY (bO hr) (aj 4 fP) (aj 9 dh)) (aN cR (eG (dZ aB (ajm (Mr Al aB) (dZ aB (Eh (cO Ni aB aB) aA))))) (aJ (bu.mono (by omega)) hr lG aC.m aC.F.kp aC.b .nil aY (aH (aj 10 gn) (dZ aB aA)) lH))))) (aF (cJ (bT dR (aj 11 m7) aB (aO _)) (aF (gQ (bO hr) (aj 5 fV) (aj 9 dh) (aJ (jH.mono (by omega)) hr oJ aQ.m aQ.F.kp aQ.b .nil aY (aH (aj 10 gn) (jc (Ea Ef (aj 6 oV) (Ji (Mr Al aB)) Jh) (dZ aB aA))) oK))) bF)))
  (az (cJ (yX (uP (bT dR (aj 11 m7) aB (aO _)) (qy (uU (bO hr) (aj 9 dh) (aj 5 fV))))) (az (fY (Pr (aj 5 fV) (aj 9 dh) ⟨rfl,rfl,rfl,rfl⟩))
  (aF (gQ (bO hr) (aj 4 fP) (aj 9 dh) (cO pq (aJ (bu.mono (by omega)) hr lG aC.m aC.F.kp aC.b .nil aY (aH (aj 10 gn) (dZ aB aA)) lH) aB)))) (aF (cJ (yX (uP (bT dR (aj 11 m7) aB (aO _)) (qy (bT Ru (aj 8 mO) aB (aO _))))) (az (fY (Pr (aj 4 fP) (aj 9 dh) ⟨rfl,rfl,rfl,rfl⟩))
  (aF (gQ (bO hr) (aj 5 fV) (aj 9 dh) (aJ (jH.mono (by omega)) hr oJ aQ.m aQ.F.kp aQ.b .nil aY (aH (aj 10 gn) (jc (Ea Ef (aj 6 oV) (Ji (Mr Al aB)) Jh) (dZ aB aA))) oK)))) bF)))
  (aF (fY (uz PySem.F.plainAttrs_list PySem.F.slot_list_append PySem.F.type_list_append jb (aj 6 oV) (aH (aj 9 dh) aA)))))))))))
  (aF (aW (gC (aH (aj 4 fP) (aH (aj 5 fV) aA)))))))))), ?_⟩
 walk_at "vs"
 intro g hg0
 have s1:=aD (.dK kg0) hg0
 have e1:upd H g (.dK kg0) g=some (.dK kg0):=ao
 have eh1:=s1 _ _ eh
 have rc1:Rd (upd H g (.dK kg0)) c1 (.dK kc0):= .inl (s1 _ _ ec1)
 generalize upd H g (.dK kg0)=H1 at *
 walk_at "vs"
 intro c hc1
 have s2:=aD (.dK kc0) hc1
 have e12:=s2 _ _ e1
 have e2:upd H1 c (.dK kc0) c=some (.dK kc0):=ao
 have ngc:g≠c:=fun z=>by rw[<-z,e1] at hc1;cases hc1
 have hc0:=same_none s1 hc1
 have S2:=s1.trans s2
 generalize upd H1 c (.dK kc0)=H2 at *
 walk_at "vs"
 intro l hl2
 have s3:=aD (.lst []) hl2
 have e13:=s3 _ _ e12
 have e23:=s3 _ _ e2
 have e3:upd H2 l (.lst []) l=some (.lst ((nmK 0).map V.str)):=ao
 have hl0:=same_none S2 hl2
 have S3:=S2.trans s3
 have amQ:kg0.length+kc0.length=n:=by
  obtain⟨gs,cs,h1,h2,h3⟩:=bd0.k
  rw[h1.len,h2.len];exact h3
 generalize upd H2 l (.lst [])=H3 at *
 have bd3:=bd0.tups (aM.tups S3)
 clear s1 s2 s3 S2 e12 e1 e2 hc1 hl2 eh1 rc1 rg1
 iterate 8 walk_at "v"
 refine⟨_,rfl,_,rfl,by omega,by omega, ?_⟩
 have en:((kg0.length:Int)+(kc0.length:Int))=(n:Int):=by omega
 have SG:L2.St->Prop:=fun σ=>∃t u v w,σ=[some (.ref h),some (.ref a),some (.int start),some (.int most),some (.ref g),some (.ref c),some (.ref l),some (.int ((kg0.length:Int)+(kc0.length:Int))),t,u,v,w]
 refine LR (fun i σ H'=>(∃t u v w,σ=[some (.ref h),some (.ref a),some (.int start),some (.int most),some (.ref g),some (.ref c),some (.ref l),some (.int ((kg0.length:Int)+(kc0.length:Int))),t,u,v,w])/\aM H H'/\∃gv rc kg kc,H' g=some (.dK kg)/\H' c=some (.dK kc)/\H' l=some (.lst ((nmK i).map V.str))/\Bld H' kg kc n gv rc) ?_ ?_ ?_
 ·exact⟨⟨none,none,none,none,rfl⟩,S3,gv0,rc0,kg0,kc0,e13,e23,e3,bd3⟩
 ·intro i σ H4 hi hP
  obtain⟨⟨t,u,v,w,rfl⟩,S4,gv,rc,kg,kc,eg4,ec4,el4,bd⟩:=hP
  have hin:i<n:=by
   have:i<((kg0.length:Int)+(kc0.length:Int)).toNat:=hi
   omega
  have hS4:=SqL.same S4 hS
  have ei:(0+(i:Int))=(i:Int):=by omega
  obtain⟨gs,cs,kgk,kck,hlen⟩:=bd.k
  have lg:=kgk.len
  have lc:=kck.len
  rw[ei]
  have am6:0<=(i:Int) % 11:=Int.emod_nonneg _ (by decide)
  have am7:(i:Int) % 11<11:=Int.emod_lt_of_pos _ (by decide)
  walk_at "vs"
  intro p H5 s5 hp5 pl5
  have S5:=S4.trans s5
  have hp0:=same_none S4 hp5
  have eg5:=s5 _ _ eg4
  have ec5:=s5 _ _ ec4
  have el5:=s5 _ _ el4
  have bd5:=bd.tups (aM.tups s5)
  have fr:∀y∈[p],H y=none:=fun y hy=>by
   have:y=p:=by simpa using hy
   rw[this];exact hp0
  have ngp:g∉[p]:=fun z=>by
   have:g=p:=by simpa using z
   rw[<-this,eg4] at hp5;cases hp5
  have ncp:c∉[p]:=fun z=>by
   have:c=p:=by simpa using z
   rw[<-this,ec4] at hp5;cases hp5
  have nlp:=pl5.nel el5
  have ngl:g≠l:=fun z=>by rw[z,el5] at eg5;cases eg5
  have ncl:c≠l:=fun z=>by rw[z,el5] at ec5;cases ec5
  have hzl:((nmK i).map V.str).length<sizeLine:=by rw[List.length_map,jn];exact bR (by omega)
  obtain⟨rest,mixed,count,ep5,ajL,ajM⟩:=id pl5
  have dr:=Gw ep5
  have hdv:0<=(i:Int)/ 11:=Int.ediv_nonneg (by omega) (by decide)
  have am8:(i:Int)/ 11<=(i:Int):=Int.ediv_le_self _ (by omega)
  have cm:Gi 31 (i:Int):= .inl ⟨by decide,by decide⟩
  have dpr:=uR ep5 (rest /((i:Int)/ 11+1)+31 *(i:Int))
  have cdv':We rest ((i:Int)/ 11+1):=⟨by omega,Nat.lt_of_le_of_lt (Nat.log2_le_self _) (by omega)⟩
  have hml:most.natAbs.log2<9000:=Nat.lt_of_le_of_lt (Nat.log2_le_self _) (by omega)
  have pl6:eU (upd H5 p (.dK (qI (rest /((i:Int)/ 11+1)+31 *(i:Int)) mixed count))) p 503:=⟨_,_,_,ao,ajL,ajM⟩
  have B6:But [p] H5 (upd H5 p (.dK (qI (rest /((i:Int)/ 11+1)+31 *(i:Int)) mixed count))):=But.set _ (by simp)
  walk_at "vs"
  intro way H7 w0 w1 b7 pl7
  have B7:=B6.trans b7
  have S7:=fB S5 fr B7
  have eg7:=B7 _ _ ngp eg5
  have ec7:=B7 _ _ ncp ec5
  have el7:=B7 _ _ nlp el5
  have bd7:=bd5.tups (pl5.tups B7)
  clear b7 B6 pl6 dpr
  have done:∀(H6:Hp) (σ6:L2.St) gv rc kg kc,(∃t u v w,σ6=[some (.ref h),some (.ref a),some (.int start),some (.int most),some (.ref g),some (.ref c),some (.ref l),some (.int ((kg0.length:Int)+(kc0.length:Int))),t,u,v,w])->aM H H6->H6 g=some (.dK kg)->H6 c=some (.dK kc)->H6 l=some (.lst ((nmK i).map V.str))->Bld H6 kg kc n gv rc->
   (∃t u v w,σ6=[some (.ref h),some (.ref a),some (.int start),some (.int most),some (.ref g),some (.ref c),some (.ref l),some (.int ((kg0.length:Int)+(kc0.length:Int))),t,u,v,w])/\aM H (upd H6 l (.lst ((nmK i).map V.str++[.str (aq i)])))/\∃gv rc kg kc,(upd H6 l (.lst ((nmK i).map V.str++[.str (aq i)]))) g=some (.dK kg)/\(upd H6 l (.lst ((nmK i).map V.str++[.str (aq i)]))) c=some (.dK kc)/\(upd H6 l (.lst ((nmK i).map V.str++[.str (aq i)]))) l=some (.lst ((nmK (i+1)).map V.str))/\Bld (upd H6 l (.lst ((nmK i).map V.str++[.str (aq i)]))) kg kc n gv rc:=by
   intro H6 σ6 gv rc kg kc hσ S6 e1 e2 e3 b
   refine⟨hσ,cG _ hl0 S6,gv,rc,kg,kc,(au ngl).trans e1,(au ncl).trans e2, ?_,b.tups fun y xs z=>(au (fun w=>by rw[w,e3] at z;cases z)).trans z⟩
   rw[ao,El,List.map_append];rfl
  have dgg:bK H7 g (.str (aq i)) ((gv (aq i)).map V.int):=by
   rw[<-bd7.g];exact bK.k (k:= .inr (aq i)) eg7
  have dgc:bK H7 c (.str (aq i)) (dH kc (.inr (aq i))):=bK.k (k:= .inr (aq i)) ec7
  have hkgl:kg.length<sizeLine:=bR (by omega)
  have hkcl:kc.length<sizeLine:=bR (by omega)
  have hway:way=0\/way=1\/(¬way=0/\¬way=1):=by omega
  rcases hway with rfl | rfl | ⟨nw0,nw1⟩
  ·cases egv:gv (aq i) with
   | some v0=>
     rw[egv] at dgg
     have dgg:bK H7 g (.str (aq i)) (some (.int v0)):=dgg
     have cp:VD 10 9:=⟨by decide,by decide,by decide⟩
     walk_at "vs"
     intro pz hpz
     have npz:pz∉[p]:=fun z=>pl7.ne hpz (by simpa using z)
     have s8:=aD (.lst [V.int 1,V.int (-1),V.int 2,V.int ((10:Int)^(9:Int).toNat)]) hpz
     have e8:upd H7 pz (.lst [V.int 1,V.int (-1),V.int 2,V.int ((10:Int)^(9:Int).toNat)]) pz=some (.lst [V.int 1,V.int (-1),V.int 2,V.int ((10:Int)^(9:Int).toNat)]):=ao
     have pl8:=pl7.same s8
     have B8:But [p] H7 (upd H7 pz (.lst [V.int 1,V.int (-1),V.int 2,V.int ((10:Int)^(9:Int).toNat)])):=But.of_same s8
     generalize upd H7 pz (.lst [V.int 1,V.int (-1),V.int 2,V.int ((10:Int)^(9:Int).toNat)])=H8 at *
     walk_at "vs"
     intro n9 H9 n90 n91 b9 pl9
     have B9:=B8.trans b9
     have S9:=fB S7 fr B9
     have e9:=b9 _ _ npz e8
     have eg9:=B9 _ _ ngp eg7
     have ec9:=B9 _ _ ncp ec7
     have el9:=B9 _ _ nlp el7
     have bd9:=bd7.tups (pl7.tups B9)
     obtain⟨dd,hdd⟩:∃dd:Int,atI [V.int 1,V.int (-1),V.int 2,V.int ((10:Int)^(9:Int).toNat)] n9=some (.int dd):=by
      have:n9=0\/n9=1\/n9=2\/n9=3:=by omega
      rcases this with rfl | rfl | rfl | rfl<;>exact⟨_,rfl⟩
     have dp:jF H9 g (.str (aq i)) (.int (v0+dd)) (upd H9 g (.dK (putK kg (.inr (aq i)) (.int (v0+dd))))):=jF.k (k:= .inr (aq i)) eg9 hkgl
     walk_at "vs"
     have t11:jz H9 (upd H9 g (.dK (putK kg (.inr (aq i)) (.int (v0+dd))))):=fun y xs z=>(au (fun w=>by rw[w,eg9] at z;cases z)).trans z
     exact done _ _ _ _ _ _ ⟨_,_,_,_,rfl⟩ (cG _ hg0 S9) ao ((au (Ne.symm ngc)).trans ec9) ((au (Ne.symm ngl)).trans el9) ((bd9.tups t11).afO hin (by rw[egv];simp) _)
   | none=>
     rw[egv] at dgg
     have dgg:bK H7 g (.str (aq i)) none:=dgg
     have hrn:rc (aq i)≠none:=by
      rcases bd7.ok.dom i hin with z | z
      ·exact absurd egv z
      ·exact z
     have i0:0<i:=by
      rcases Nat.eq_zero_or_pos i with z | z
      ·subst z;exact absurd egv (bd7.ok.g0 hin)
      ·exact z
     obtain⟨ns,ecut,hn1,hn9,hns⟩:=ac2 i0
     have hgn:∀x∈ns,lK x:=fun x hx=>vM (by omega) x (hns x hx)
     walk_at "vs"
     intro pc hpc
     rw[ecut]
     have s8:=aD (.lst (ns.map V.str)) hpc
     have e8:upd H7 pc (.lst (ns.map V.str)) pc=some (.lst (ns.map V.str)):=ao
     have pl8:=pl7.same s8
     have B8:But [p] H7 (upd H7 pc (.lst (ns.map V.str))):=But.of_same s8
     have npc:pc∉[p]:=fun z=>pl7.ne hpc (by simpa using z)
     generalize upd H7 pc (.lst (ns.map V.str))=H8 at *
     walk_at "vs"
     intro br r H10 b10 ZC R10 Xu
     have B10:=B8.trans b10
     have S10:=fB S7 fr B10
     have Xv:=B10 _ _ ngp eg7
     have Qt:=B10 _ _ ncp ec7
     have Xw:=B10 _ _ nlp el7
     have Xx:=bd7.tups (pl7.tups B10)
     have dp:jF H10 c (.str (aq i)) (.ref br) (upd H10 c (.dK (putK kc (.inr (aq i)) (.ref br)))):=jF.k (k:= .inr (aq i)) Qt hkcl
     walk_at "vs"
     have t11:jz H10 (upd H10 c (.dK (putK kc (.inr (aq i)) (.ref br)))):=fun y xs z=>(au (fun w=>by rw[w,Qt] at z;cases z)).trans z
     have Xy:upd H10 c (.dK (putK kc (.inr (aq i)) (.ref br))) l=some (.lst ((nmK i).map V.str)):=(au (Ne.symm ncl)).trans Xw
     have S11:=cG (.dK (putK kc (.inr (aq i)) (.ref br))) hc0 S10
     have XC:upd H10 c (.dK (putK kc (.inr (aq i)) (.ref br))) c=some (.dK (putK kc (.inr (aq i)) (.ref br))):=ao
     have Xz:=(au ngc:upd H10 c (.dK (putK kc (.inr (aq i)) (.ref br))) g=H10 g).trans Xv
     exact done _ _ _ _ _ _ ⟨_,_,_,_,rfl⟩ S11 Xz XC Xy ((Xx.tups t11).afQ (by omega) hin i0 hrn (Xu.mono hns) (R10.tups t11))
  ·cases erc:rc (aq i) with
   | some r0=>
     obtain⟨b0,hb0,_⟩:=bd7.r _ _ erc
     rw[hb0] at dgc
     walk_at "vs"
     refine⟨.inl ⟨_, .inl ec7⟩,_,rfl,kc, .inr (aq i),_,ec7,rfl,hb0, ?_⟩
     have ncp':c≠p:=fun z=>ncp (by simp[z])
     have S8:=cG (.dK (jP kc (.inr (aq i)))) hc0 S7
     have t8:jz H7 (upd H7 c (.dK (jP kc (.inr (aq i))))):=fun y xs z=>(au (fun w=>by rw[w,ec7] at z;cases z)).trans z
     have pl8:eU (upd H7 c (.dK (jP kc (.inr (aq i))))) p (503+1):=pl7.keep (But.set (S:=[c]) _ (by simp)) (by simpa using Ne.symm ncp')
     have eg8:upd H7 c (.dK (jP kc (.inr (aq i)))) g=some (.dK kg):=(au ngc).trans eg7
     have el8:upd H7 c (.dK (jP kc (.inr (aq i)))) l=some (.lst ((nmK i).map V.str)):=(au (Ne.symm ncl)).trans el7
     have ec8:upd H7 c (.dK (jP kc (.inr (aq i)))) c=some (.dK (jP kc (.inr (aq i)))):=ao
     have bd8:=bd7.tups t8
     generalize upd H7 c (.dK (jP kc (.inr (aq i))))=H8 at *
     walk_at "vs"
     intro n9 H9 n90 n91 b9 pl9
     have S9:=fB S8 fr b9
     have eg9:=b9 _ _ ngp eg8
     have ec9:=b9 _ _ ncp ec8
     have el9:=b9 _ _ nlp el8
     have bd9:=bd8.tups (pl8.tups b9)
     have dp:jF H9 g (.str (aq i)) (.int (n9 - 4)) (upd H9 g (.dK (putK kg (.inr (aq i)) (.int (n9 - 4))))):=jF.k (k:= .inr (aq i)) eg9 hkgl
     walk_at "vs"
     have t11:jz H9 (upd H9 g (.dK (putK kg (.inr (aq i)) (.int (n9 - 4))))):=fun y xs z=>(au (fun w=>by rw[w,eg9] at z;cases z)).trans z
     exact done _ _ _ _ _ _ ⟨_,_,_,_,rfl⟩ (cG _ hg0 S9) ao ((au (Ne.symm ngc)).trans ec9) ((au (Ne.symm ngl)).trans el9) ((bd9.tups t11).afP hin (by rw[erc];simp) _)
   | none=>
     have hcn:=bd7.rn _ erc
     rw[hcn] at dgc
     have hgs:∃v0,gv (aq i)=some v0:=by
      cases e:gv (aq i) with
      | some v0=>exact⟨v0,rfl⟩
      | none=>
        rcases bd7.ok.dom i hin with z | z
        ·exact absurd e z
        ·exact absurd erc z
     obtain⟨v0,egv⟩:=hgs
     walk_at "vs"
     refine yw (fun ck=> ?_) (fun ck=> ?_)
     ·have i0:0<i:=by
       have:(i:Int)>0:=by simpa using ck
       omega
      walk_at "vs"
      have hv0:dH kg (.inr (aq i))=some (.int v0):=by rw[bd7.g,egv];rfl
      refine⟨.inl ⟨_, .inl eg7⟩,_,rfl,kg, .inr (aq i),_,eg7,rfl,hv0, ?_⟩
      have ngp':g≠p:=fun z=>ngp (by simp[z])
      have S6:=cG (.dK (jP kg (.inr (aq i)))) hg0 S7
      have t6:jz H7 (upd H7 g (.dK (jP kg (.inr (aq i))))):=fun y xs z=>(au (fun w=>by rw[w,eg7] at z;cases z)).trans z
      have pl6:eU (upd H7 g (.dK (jP kg (.inr (aq i))))) p (503+1):=pl7.keep (But.set (S:=[g]) _ (by simp)) (by simpa using Ne.symm ngp')
      have ec6:upd H7 g (.dK (jP kg (.inr (aq i)))) c=some (.dK kc):=(au (Ne.symm ngc)).trans ec7
      have el6:upd H7 g (.dK (jP kg (.inr (aq i)))) l=some (.lst ((nmK i).map V.str)):=(au (Ne.symm ngl)).trans el7
      have eg6:upd H7 g (.dK (jP kg (.inr (aq i)))) g=some (.dK (jP kg (.inr (aq i)))):=ao
      have bd6:=bd7.tups t6
      generalize upd H7 g (.dK (jP kg (.inr (aq i))))=H6 at *
      obtain⟨ns,ecut,hn1,hn9,hns⟩:=ac2 i0
      have hgn:∀x∈ns,lK x:=fun x hx=>vM (by omega) x (hns x hx)
      walk_at "vs"
      intro pc hpc
      rw[ecut]
      have s8:=aD (.lst (ns.map V.str)) hpc
      have e8:upd H6 pc (.lst (ns.map V.str)) pc=some (.lst (ns.map V.str)):=ao
      have pl8:=pl6.same s8
      have B8:But [p] H6 (upd H6 pc (.lst (ns.map V.str))):=But.of_same s8
      have npc:pc∉[p]:=fun z=>pl6.ne hpc (by simpa using z)
      generalize upd H6 pc (.lst (ns.map V.str))=H8 at *
      walk_at "vs"
      intro br r H10 b10 ZC R10 Xu
      have B10:=B8.trans b10
      have S10:=fB S6 fr B10
      have Xv:=B10 _ _ ngp eg6
      have Qt:=B10 _ _ ncp ec6
      have Xw:=B10 _ _ nlp el6
      have Xx:=bd6.tups (pl6.tups B10)
      have dp:jF H10 c (.str (aq i)) (.ref br) (upd H10 c (.dK (putK kc (.inr (aq i)) (.ref br)))):=jF.k (k:= .inr (aq i)) Qt hkcl
      walk_at "vs"
      have t11:jz H10 (upd H10 c (.dK (putK kc (.inr (aq i)) (.ref br)))):=fun y xs z=>(au (fun w=>by rw[w,Qt] at z;cases z)).trans z
      have Xy:upd H10 c (.dK (putK kc (.inr (aq i)) (.ref br))) l=some (.lst ((nmK i).map V.str)):=(au (Ne.symm ncl)).trans Xw
      have S11:=cG (.dK (putK kc (.inr (aq i)) (.ref br))) hc0 S10
      have XC:upd H10 c (.dK (putK kc (.inr (aq i)) (.ref br))) c=some (.dK (putK kc (.inr (aq i)) (.ref br))):=ao
      have Xz:=(au ngc:upd H10 c (.dK (putK kc (.inr (aq i)) (.ref br))) g=H10 g).trans Xv
      exact done _ _ _ _ _ _ ⟨_,_,_,_,rfl⟩ S11 Xz XC Xy ((Xx.tups t11).afR (by omega) hin i0 erc (Xu.mono hns) (R10.tups t11))
     ·walk_at "vs"
      exact done _ _ _ _ _ _ ⟨_,_,_,_,rfl⟩ S7 eg7 ec7 el7 bd7
  ·walk_at "vs"
   refine yw (fun z=>absurd (V.int.inj (of_decide_eq_true z)) nw0) (fun _=> ?_)
   walk_at "vs"
   refine yw (fun z=>absurd (V.int.inj (of_decide_eq_true z)) nw0) (fun _=> ?_)
   walk_at "vs"
   refine yw (fun z=>absurd (V.int.inj (of_decide_eq_true z)) nw1) (fun _=> ?_)
   walk_at "vs"
   refine yw (fun z=>absurd (V.int.inj (of_decide_eq_true z)) nw1) (fun _=> ?_)
   walk_at "vs"
   exact done _ _ _ _ _ _ ⟨_,_,_,_,rfl⟩ S7 eg7 ec7 el7 bd7
 ·intro σ H4 hP
  obtain⟨⟨t,u,v,w,rfl⟩,S4,gv,rc,kg,kc,eg4,ec4,el4,bd⟩:=hP
  walk_at "vs"
  intro h2 hh
  have s5:=aD (.tup [.ref g, .ref c]) hh
  exact q h2 g c gv rc _ (S4.trans s5) (same_none S4 hh) hg0 hc0 ⟨kg,kc,ao,s5 _ _ eg4,s5 _ _ ec4,bd.tups (aM.tups s5)⟩
end
section
variable {P:Program}{w:World}{K:PySem.W.Frag}{mg:Str->Option Value}{base:Heap}
abbrev bG:Stmt:=top 34
theorem mQ:bH ["house","name","state","worths","records","reads","worth"] ["house","name","state"] (aa bG):=⟨rfl,rfl,rfl,by decide +kernel,rfl,by decide +kernel,by decide +kernel⟩
theorem qT:aG (aa bG) "state":=by decide +kernel
theorem xX:Loc (aa bG) "records":=by decide +kernel
theorem yK:Loc (aa bG) "worths":=by decide +kernel
theorem cH:aG (aa bG) "name":=by decide +kernel
theorem gZ:aG (aa bG) "house":=by decide +kernel
theorem gJ:aG (aa bG) "worths":=by decide +kernel
theorem zU:Loc (aa bG) "reads":=by decide +kernel
theorem zV:Loc (aa bG) "worth":=by decide +kernel
theorem uv:(aa bG).names.lookup ("_law_value":Str)=some NameKind.globalImplicit:=by decide +kernel
theorem qU:aG (aa bG) "reads":=by decide +kernel
theorem uw:(("_law_value":Str)==("__debug__":Str))=false:=by decide +kernel
theorem xY:aG (aa bG) "records":=by decide +kernel
theorem qW:aG (aa bG) "worth":=by decide +kernel
abbrev eZ:Stmt:=top 33
theorem Ie:bH ["house","name","state","reads","worth"] ["house","name","state","reads"] (aa eZ):=⟨rfl,rfl,rfl,by decide +kernel,rfl,by decide +kernel,by decide +kernel⟩
theorem Fo:Loc (aa eZ) "worth":=by decide +kernel
theorem vp:(aa eZ).names.lookup ("_law_settled":Str)=some NameKind.globalImplicit:=by decide +kernel
theorem Fp:aG (aa eZ) "state":=by decide +kernel
theorem qx:aG (aa eZ) "name":=by decide +kernel
theorem Fq:aG (aa eZ) "house":=by decide +kernel
theorem vq:(("_law_settled":Str)==("__debug__":Str))=false:=by decide +kernel
theorem pN:aG (aa eZ) "worth":=by decide +kernel
theorem uH:aG (aa eZ) "reads":=by decide +kernel
theorem Qu {k0:Nat}{f g:Addr}{fd gd:FuncData} (eN:FnT K mg "_law_look" eZ ["house","name","state","reads"] f fd) (cI:FnT K mg "_law_settled" bG ["house","name","state"] g gd) (vz:bf P w K mg base CX0 (8 * k0+1) g gd ["house","name","state"] (Nx k0)) (T:Blt mg):
 bf P w K mg base CX0 (8 * k0+2) f fd ["house","name","state","reads"] (WR k0):=by
 refine eN.F.okQ Ie (fun vs H Q E h=> ?_) (fun cdv A outer s H vs Q E hr h=> ?_)
 ·obtain⟨X,h,g,c,st,wd,rd,rl,n,gv,rc,kn,rm,as,ps,k,rfl,_⟩:=h
  rfl
 obtain⟨X,h,hg,hc,st,wd,rd,rl,n,gv,rc,kn,rm,as,ps,k,rfl,cx,hkf,hkn,el,hRs,hrow,hrX,hrs,q⟩:=h
 refine⟨_,(az (bB (i:=4) Ie.nd rfl Fo (aJ (vz.mono (by omega)) hr vp cI.m cI.F.kp cI.b .nil aY (aH (aj 0 Fq) (aH (aj 1 qx) (aH (aj 2 Fp) aA))) vq))
  (az (cJ (bT (RN hr.units) (gC (aH (aj 1 qx) (aH (aj 4 pN) aA))) (aj 3 uH) rfl) (aF (fY (uz PySem.F.plainAttrs_list PySem.F.slot_list_append PySem.F.type_list_append jb (aj 3 uH) (Lb (gC (aH (aj 1 qx) (aH (aj 4 pN) aA))) aA)))) bF)
  (aF (aW (aj 4 pN))))), ?_⟩
 have n17:=cx.n17
 have hlw:rl∉[wd,rd]:=fun z=>by
  obtain⟨kw,ws,e1,_⟩:=cx.sa.ew
  obtain⟨kr,rs,e2,_⟩:=cx.sa.er
  have z:rl=wd\/rl=rd:=by simpa using z
  rcases z with z | z
  ·rw[z,e1] at el;cases el
  ·rw[z,e2] at el;cases el
 walk_at "vs"
 intro kn1 rm1 v H1 b1 cx1 nw1 hv
 have t1:jz H H1:=cx.sa.tups (S:=[wd,rd]) (fun y hy=>by
  have z:y=wd\/y=rd:=by simpa using hy
  exact z.elim .inl fun z=> .inr (.inl z)) b1
 have el1:=b1 _ _ hlw el
 have R0:=hRs.tups t1
 have Ft:=hrow.le nw1.1
 have lk:=Ft.look hv
 have hgn:∀p∈ps,lK p.1:=fun p hp=>vM (by omega) _ (cx1.sa.ok.a _ _ (Ft.s p hp)).1
 walk_at "vs"
 intro pt hpt
 have s2:=aD (.tup [.str (aq k), .int v]) hpt
 have ept:upd H1 pt (.tup [.str (aq k), .int v]) pt=some (.tup (rdV (aq k,v))):=ao
 have el2:=s2 _ _ el1
 have IK:=R0.same s2
 have b2:But [wd,rd,rl] H (upd H1 pt (.tup [.str (aq k), .int v])):=(b1.mono (by simp)).trans (But.of_same s2)
 have cx2:Ctx X (upd H1 pt (.tup [.str (aq k), .int v])) h hg hc st wd rd n gv rc kn1 rm1:=cx1.same s2
 generalize upd H1 pt (.tup [.str (aq k), .int v])=H2 at *
 refine⟨_,rfl,pt,rl,as,ps,(aq k,v),rfl,rfl,ept,SqL.of el2,IK,hgn,J2 (k:=k) (by omega), ?_⟩
 by_cases hm:(aq k,v)∈ps
 ·rw[if_pos hm] at lk
  rw[decide_eq_true hm]
  walk_at "vs"
  exact q kn1 rm1 v [] as H2 b2 cx2 nw1 el2 (by rw[List.append_nil];exact IK) (by rw[List.append_nil];exact Ft) lk
 ·rw[if_neg hm] at lk
  rw[decide_eq_false hm]
  have hz:(as.map V.ref).length<sizeLine:=by
   rw[List.length_map,hRs.length]
   have:=Rows.len cx1.sa Ft
   exact bR (by omega)
  walk_at "vs"
  intro pu hpu
  have s3:=aD (.tup [.str (aq k), .int v]) hpu
  have epu:upd H2 pu (.tup [.str (aq k), .int v]) pu=some (.tup (rdV (aq k,v))):=ao
  have el3:=s3 _ _ el2
  have Lp:=gW.snoc epu (IK.same s3)
  have b3:=b2.trans (But.of_same (S:=[wd,rd,rl]) s3)
  have cx3:=cx2.same s3
  generalize upd H2 pu (.tup [.str (aq k), .int v])=H3 at *
  walk_at "vs"
  have t4:jz H3 (upd H3 rl (.lst (as.map V.ref++[V.ref pu]))):=fun y xs z=>(au (fun w=>by rw[w,el3] at z;cases z)).trans z
  exact q kn1 rm1 v [(aq k,v)] (as++[pu]) _ (b3.trans (But.set _ (by simp))) (cx3.row el3 hrX hrs _) nw1 (by rw[ao,List.map_append];rfl) (Lp.tups t4) lk.2 lk.1
abbrev bQ:Stmt:=top 32
theorem sO:bH ["house","r","state","reads","word","one","other"] ["house","r","state","reads"] (aa bQ):=⟨rfl,rfl,rfl,by decide +kernel,rfl,by decide +kernel,by decide +kernel⟩
theorem Fv:Loc (aa bQ) "word":=by decide +kernel
theorem ie:aG (aa bQ) "r":=by decide +kernel
theorem gq:aG (aa bQ) "word":=by decide +kernel
theorem pO:(aa bQ).names.lookup ("_law_look":Str)=some NameKind.globalImplicit:=by decide +kernel
theorem jj:aG (aa bQ) "reads":=by decide +kernel
theorem jk:aG (aa bQ) "state":=by decide +kernel
theorem jl:aG (aa bQ) "house":=by decide +kernel
theorem pP:(("_law_look":Str)==("__debug__":Str))=false:=by decide +kernel
theorem GP:Loc (aa bQ) "one":=by decide +kernel
theorem j7:(aa bQ).names.lookup ("_law_value":Str)=some NameKind.globalImplicit:=by decide +kernel
theorem j8:(("_law_value":Str)==("__debug__":Str))=false:=by decide +kernel
theorem j9:aG (aa bQ) "one":=by decide +kernel
theorem GQ:(aa bQ).names.lookup ("len":Str)=some NameKind.globalImplicit:=by decide +kernel
theorem GR:("len":Str)≠"__name__":=by decide +kernel
theorem GX:(("len":Str)==("__debug__":Str))=false:=by decide +kernel
theorem wG:(aa bQ).names.lookup ("int":Str)=some NameKind.globalImplicit:=by decide +kernel
theorem wH:("int":Str)≠"__name__":=by decide +kernel
theorem wI:(("int":Str)==("__debug__":Str))=false:=by decide +kernel
theorem Dl:Loc (aa bQ) "other":=by decide +kernel
theorem lJ:aG (aa bQ) "other":=by decide +kernel
theorem GZ:(aa bQ).names.lookup ("max":Str)=some NameKind.globalImplicit:=by decide +kernel
theorem G3:("max":Str)≠"__name__":=by decide +kernel
theorem G4:(("max":Str)==("__debug__":Str))=false:=by decide +kernel
theorem KR {k0 d:Nat}{f g:Addr}{fd gd:FuncData} (bV:FnT K mg "_law_value" bQ ["house","r","state","reads"] f fd) (eN:FnT K mg "_law_look" eZ ["house","name","state","reads"] g gd) (tR:bf P w K mg base CX0 (8 * k0+2) g gd ["house","name","state","reads"] (WR k0))
 (qX:bf P w K mg base CX0 (8 * k0+2+d) f fd ["house","r","state","reads"] (T6 k0 d)) (T:Blt mg):bf P w K mg base CX0 (8 * k0+2+d+1) f fd ["house","r","state","reads"] (T6 k0 (d+1)):=by
 refine bV.F.okQ sO (fun vs H Q E h=> ?_) (fun cdv A outer s H vs Q E hr h=> ?_)
 ·obtain⟨X,h,g,c,st,wd,rd,rl,b,n,gv,rc,kn,rm,as,ps,r,m,rfl,_⟩:=h
  rfl
 obtain⟨X,h,hg,hc,st,wd,rd,rl,b,n,gv,rc,kn,rm,as,ps,r,m,rfl,cx,hR,hrk,hmf,hmn,el,hRs,hrow,hrX,hrs,q⟩:=h
 refine⟨_,(az (bB (i:=4) sO.nd rfl Fv (aN aK (aj 1 ie) aB))
  (az (cJ (bT dR (aj 4 gq) aZ (aO _)) (aF (aW (aN aK (aj 1 ie) aB))) bF)
  (az (cJ (bT dR (aj 4 gq) aZ (aO _)) (aF (aW (aJ (tR.mono (by omega)) hr pO eN.m eN.F.kp eN.b .nil aY (aH (aj 0 jl) (jc (aN aK (aj 1 ie) aB) (aH (aj 2 jk) (aH (aj 3 jj) aA)))) pP))) bF)
  (az (bB (i:=5) sO.nd rfl GP (aJ (qX.mono (by omega)) hr j7 bV.m bV.F.kp bV.b .nil aY (aH (aj 0 jl) (jc (aN aK (aj 1 ie) aB) (aH (aj 2 jk) (aH (aj 3 jj) aA)))) j8))
  (az (cJ (bT dR (aj 4 gq) aZ (aO _)) (aF (aW (aJ (tR.mono (by omega)) hr pO eN.m eN.F.kp eN.b .nil aY (aH (aj 0 jl) (jc (aN aK (aN aK (aj 1 ie) aB) (cO oM (aj 5 j9) (dm kZ GQ T.ym rA (jc (aN aK (aj 1 ie) aB) aA) GR GX))) (aH (aj 2 jk) (aH (aj 3 jj) aA)))) pP))) bF)
  (az (cJ (bT dR (aj 4 gq) aZ (aO _)) (aF (aW (aJ (qX.mono (by omega)) hr j7 bV.m bV.F.kp bV.b .nil aY (aH (aj 0 jl) (jc (aN aK (aj 1 ie) (aN cR (eG (dZ aB (dZ aB aA))) (jD Eg wG T.Ms Gn (Y9 (lU Ru (aj 5 j9) aB (aO _)) aA) wH wI))) (aH (aj 2 jk) (aH (aj 3 jj) aA)))) j8))) bF)
  (az (bB (i:=6) sO.nd rfl Dl (aJ (qX.mono (by omega)) hr j7 bV.m bV.F.kp bV.b .nil aY (aH (aj 0 jl) (jc (aN aK (aj 1 ie) aB) (aH (aj 2 jk) (aH (aj 3 jj) aA)))) j8))
  (az (cJ (bT dR (aj 4 gq) aZ (aO _)) (aF (aW (cO rW (aj 5 j9) (aj 6 lJ)))) bF)
  (az (cJ (bT dR (aj 4 gq) aZ (aO _)) (aF (aW (dm (Tu rfl) GZ T.aaR Wi (aH (aj 5 j9) (aH (aj 6 lJ) aA)) G3 G4))) bF)
  (aF (aW (cO jR (aj 5 j9) (aN cR (eG (aH (aj 6 lJ) (Eh (cO pq aB (aj 6 lJ)) aA))) (jD Eg wG T.Ms Gn (Y9 (lU dR (aj 4 gq) aZ (aO _)) aA) wH wI)))))))))))))), ?_⟩
 have n17:=cx.n17
 have tp:∀{H0 H':Hp}{kn0 rm0}{as0:List Addr},Ctx X H0 h hg hc st wd rd n gv rc kn0 rm0->H0 rl=some (.lst (as0.map V.ref))->But [wd,rd,rl] H0 H'->jz H0 H':=fun cx0 e0 b0=>cx0.sa.tups (S:=[wd,rd,rl]) (fun y hy=>by
  have z:y=wd\/y=rd\/y=rl:=by simpa using hy
  rcases z with z | z | z
  ·exact .inl z
  ·exact .inr (.inl z)
  ·exact .inr (.inr ⟨_,by rw[z];exact e0⟩)) b0
 have new2:∀{a b c:Kn}{i j:Nat},New a b i->New b c j->i<=m->j<=m->New a c m:=fun n1 n2 h1 h2=>⟨n1.1.trans n2.1,fun y hy=>by
  rcases n2.2 y hy with z | z
  ·rcases n1.2 y z with z | z
   ·exact .inl z
   ·obtain⟨k,hk,e⟩:=dD.mp z
    exact .inr (dD.mpr ⟨k,by omega,e⟩)
  ·obtain⟨k,hk,e⟩:=dD.mp z
   exact .inr (dD.mpr ⟨k,by omega,e⟩)⟩
 have newm:∀{a b:Kn}{i:Nat},New a b i->i<=m->New a b m:=fun n1 h1=>⟨n1.1,fun y hy=>by
  rcases n1.2 y hy with z | z
  ·exact .inl z
  ·obtain⟨k,hk,e⟩:=dD.mp z
   exact .inr (dD.mpr ⟨k,by omega,e⟩)⟩
 obtain⟨rg,rt,ri,rdp⟩:=hrk
 cases hR with
 | @num _ nn e=>
   walk_at "vs"
   exact q kn rm nn [] as H (But.refl _ _) cx ⟨Kn.Le.refl _,fun y hy=> .inl hy⟩ el (by rw[List.append_nil];exact hRs) (by rw[List.append_nil];exact hrow) T4
 | @rd _ x e=>
   obtain⟨k,hk,rfl⟩:=dD.mp ri
   walk_at "vs"
   intro kn1 rm1 v us as1 H1 b1 cx1 nw1 el1 R0 Ft got
   exact q kn1 rm1 v us as1 H1 b1 cx1 (newm nw1 (by omega)) el1 R0 Ft got
 | @bin _ x y op r1 r2 e h1 h2=>
   have hd':max r1.depth r2.depth+1<=d+1:=rdp
   have k1:Rk3 (nmK m) d r1:=⟨rg.1,rt.1,ri.1,by omega⟩
   have k2:Rk3 (nmK m) d r2:=⟨rg.2,rt.2.1,ri.2,by omega⟩
   have af5:=rt.2.2
   cases op
   all_goals
    walk_at "vs"
    intro kn1 rm1 u us as1 H1 b1 cx1 nw1 el1 R0 Ft N8
    have t1:=tp cx el b1
    have e1:=t1 _ _ e
    have h21:=h2.tups t1
    walk_at "vs"
    intro kn2 rm2 v vs as2 H2 b2 cx2 nw2 el2 IK KY zW
    rw[Kn.fZ] at zW
    rw[List.append_assoc] at IK KY
    have b12:=b1.trans b2
   ·walk_at "vs"
    intro pz hpz
    have s3:=aD (.lst [V.int v,V.int (0 - v)]) hpz
    have hat:atI [V.int v,V.int (0 - v)] 0=some (.int v):=rfl
    walk_at "vs"
    exact q kn2 rm2 (u+v) (us++vs) as2 _ (b12.trans (But.of_same s3)) (cx2.same s3) (new2 nw1 nw2 (Nat.le_refl _) (Nat.le_refl _)) (s3 _ _ el2) (IK.same s3) KY (Em (op:= .plus) N8 zW)
   ·walk_at "vs"
    intro pz hpz
    have s3:=aD (.lst [V.int v,V.int (0 - v)]) hpz
    have hat:atI [V.int v,V.int (0 - v)] 1=some (.int (0 - v)):=rfl
    walk_at "vs"
    have:=q kn2 rm2 (u - v) (us++vs) as2 _ (b12.trans (But.of_same s3)) (cx2.same s3) (new2 nw1 nw2 (Nat.le_refl _) (Nat.le_refl _)) (s3 _ _ el2) (IK.same s3) KY (Em (op:= .minus) N8 zW)
    rw[show u - v=u+(0 - v) by omega] at this
    exact this
   ·obtain⟨n0,rfl,hn0,hn1⟩:=af5 rfl
    have hv:v=n0:=by have:=zW.e;cases this;rfl
    have cm:Gi u v:= .inr ⟨by omega,by omega⟩
    walk_at "vs"
    exact q kn2 rm2 (u * v) (us++vs) as2 _ b12 cx2 (new2 nw1 nw2 (Nat.le_refl _) (Nat.le_refl _)) el2 IK KY (Em (op:= .times) N8 zW)
   ·walk_at "vs"
    exact q kn2 rm2 (if v>u then v else u) (us++vs) as2 _ b12 cx2 (new2 nw1 nw2 (Nat.le_refl _) (Nat.le_refl _)) el2 IK KY (Em (op:= .most) N8 zW)
 | @pick _ x y z r1 r2 r3 e h1 h2 h3=>
   have hd':max r1.depth (max r2.depth r3.depth)+1<=d+1:=rdp
   have k1:Rk3 (nmK m) d r1:=⟨rg.1,rt.1,ri.1,by omega⟩
   have k2:Rk3 (nmK m) d r2:=⟨rg.2.1,rt.2.1,ri.2.1,by omega⟩
   have k3:Rk3 (nmK m) d r3:=⟨rg.2.2,rt.2.2,ri.2.2,by omega⟩
   walk_at "vs"
   intro kn1 rm1 u us as1 H1 b1 cx1 nw1 el1 R0 Ft N8
   have t1:=tp cx el b1
   have e1:=t1 _ _ e
   walk_at "vs"
   intro pl hpl
   have s2:=aD (.lst [V.int 3,V.int 2]) hpl
   have e2:upd H1 pl (.lst [V.int 3,V.int 2]) pl=some (.lst [V.int 3,V.int 2]):=ao
   have b2:=b1.trans (But.of_same (S:=[wd,rd,rl]) s2)
   have cx2:=cx1.same s2
   have el2:=s2 _ _ el1
   have IK:=R0.same s2
   have e12:=s2 _ _ e1
   have h22:=(h2.tups t1).same s2
   have h32:=(h3.tups t1).same s2
   generalize upd H1 pl (.lst [V.int 3,V.int 2])=H2 at *
   by_cases hu:u>0
   ·have hat:atI [V.int 3,V.int 2] (if decide (u>0)=true then 1 else 0)=some (.int 2):=by rw[if_pos (decide_eq_true hu)];rfl
    walk_at "vs"
    intro kn2 rm2 v vs as2 H3 b3 cx3 nw2 el3 Lp Ig zW
    rw[Kn.fZ] at zW
    rw[List.append_assoc] at Lp Ig
    exact q kn2 rm2 v (us++vs) as2 H3 (b2.trans b3) cx3 (new2 nw1 nw2 (Nat.le_refl _) (Nat.le_refl _)) el3 Lp Ig (J3 N8 (by rw[if_pos hu];exact zW))
   ·have hat:atI [V.int 3,V.int 2] (if decide (u>0)=true then 1 else 0)=some (.int 3):=by rw[if_neg (by rw[decide_eq_false hu];decide)];rfl
    walk_at "vs"
    intro kn2 rm2 v vs as2 H3 b3 cx3 nw2 el3 Lp Ig zW
    rw[Kn.fZ] at zW
    rw[List.append_assoc] at Lp Ig
    exact q kn2 rm2 v (us++vs) as2 H3 (b2.trans b3) cx3 (new2 nw1 nw2 (Nat.le_refl _) (Nat.le_refl _)) el3 Lp Ig (J3 N8 (by rw[if_neg hu];exact zW))
 | @cho _ x y r1 ns e h1 h2=>
   have hd':r1.depth+1<=d+1:=rdp
   have k1:Rk3 (nmK m) d r1:=⟨rg.1,rt.1,ri.1,by omega⟩
   walk_at "vs"
   intro kn1 rm1 u us as1 H1 b1 cx1 nw1 el1 R0 Ft N8
   have t1:=tp cx el b1
   have e1:=t1 _ _ e
   have h21:=t1 _ _ h2
   obtain⟨nm,hnm⟩:=Mt rt.2 u
   have hmem:nm∈ns:=List.mem_of_getElem? hnm
   obtain⟨k,hk,rfl⟩:=dD.mp (ri.2 nm hmem)
   have hlm:(ns.map V.str).length=ns.length:=List.length_map _
   have hn1:=rt.2
   have hl0:0<((ns.map V.str).length:Int):=by rw[hlm];omega
   have hat:atI (ns.map V.str) (u % ((ns.map V.str).length:Int))=some (.str (aq k)):=by
    rw[hlm]
    have hnm':=hnm
    unfold yo at hnm'
    obtain⟨j,ej⟩:=Int.eq_ofNat_of_zero_le (Int.emod_nonneg u (show(ns.length:Int)≠0 by omega))
    rw[ej] at hnm' ⊢
    exact iT (by rw[List.getElem?_map];rw[Int.toNat_natCast] at hnm';rw[hnm'];rfl)
   walk_at "vs"
   intro kn2 rm2 v vs as2 H3 b3 cx3 nw2 el3 Lp Ig zW
   rw[Kn.fZ] at zW
   rw[List.append_assoc] at Lp Ig
   exact q kn2 rm2 v (us++vs) as2 H3 (b1.trans b3) cx3 (new2 nw1 nw2 (Nat.le_refl _) (by omega)) el3 Lp Ig (T5 N8 hnm zW)
theorem Fw {k0:Nat}{f g:Addr}{fd gd:FuncData} (bV:FnT K mg "_law_value" bQ ["house","r","state","reads"] f fd) (eN:FnT K mg "_law_look" eZ ["house","name","state","reads"] g gd) (tR:bf P w K mg base CX0 (8 * k0+2) g gd ["house","name","state","reads"] (WR k0)) (T:Blt mg):∀d,bf P w K mg base CX0 (8 * k0+2+d) f fd ["house","r","state","reads"] (T6 k0 d)
 | 0=>never fun vs H Q E h=>by
   obtain⟨X,h,g,c,st,wd,rd,rl,b,n,gv,rc,kn,rm,as,ps,r,m,_,_,_,hrk,_⟩:=h
   have:=r.An
   have:=hrk.d
   omega
 | d+1=>KR bV eN tR (Fw bV eN tR T d) T
end
section
variable {P:Program}{w:World}{K:PySem.W.Frag}{mg:Str->Option Value}{base:Heap}
theorem G5 {k0:Nat}{f g:Addr}{fd gd:FuncData} (cI:FnT K mg "_law_settled" bG ["house","name","state"] f fd) (bV:FnT K mg "_law_value" bQ ["house","r","state","reads"] g gd) (qX:bf P w K mg base CX0 (8 * k0+6) g gd ["house","r","state","reads"] (T6 k0 4)) (T:Blt mg):
 bf P w K mg base CX0 (8 * k0+8+1) f fd ["house","name","state"] (Nx (k0+1)):=by
 refine cI.F.okQ mQ (fun vs H Q E h=> ?_) (fun cdv A outer s H vs Q E hr h=> ?_)
 ·obtain⟨X,h,g,c,st,wd,rd,n,gv,rc,kn,rm,k,rfl,_⟩:=h
  rfl
 obtain⟨X,h,hg,hc,st,wd,rd,n,gv,rc,kn,rm,k,rfl,cx,hkf,hkn,q⟩:=h
 refine⟨_,(az (JG (aj 2 qT) (Wt rfl (fu (fH (i:=3) mQ.nd rfl yK) (fu (fH (i:=4) mQ.nd rfl xX) uA))))
  (az (cJ (yX (uP (lO (bO hr) (aj 1 cH) (aj 3 gJ)) (qy (uU (bO hr) (aj 1 cH) (aN aK (aj 0 gZ) aB))))) (aF (gQ (bO hr) (aj 3 gJ) (aj 1 cH) (cY (bO hr) (aN aK (aj 0 gZ) aB) (aj 1 cH)))) bF)
  (az (cJ (lO (bO hr) (aj 1 cH) (aj 3 gJ)) (az (bB (i:=5) mQ.nd rfl zU (eG aA))
  (az (bB (i:=6) mQ.nd rfl zV (aJ (qX.mono (by omega)) hr uv bV.m bV.F.kp bV.b .nil aY (aH (aj 0 gZ) (jc (cY (bO hr) (aN aK (aj 0 gZ) aB) (aj 1 cH)) (aH (aj 2 qT) (aH (aj 5 qU) aA)))) uw))
  (az (gQ (bO hr) (aj 4 xY) (aj 1 cH) (gC (jc (cY (bO hr) (aN aK (aj 0 gZ) aB) (aj 1 cH)) (aH (aj 5 qU) (aH (aj 6 qW) aA)))))
  (aF (gQ (bO hr) (aj 3 gJ) (aj 1 cH) (aj 6 qW)))))) bF)
  (aF (aW (cY (bO hr) (aj 3 gJ) (aj 1 cH))))))), ?_⟩
 have n17:=cx.n17
 obtain⟨kg,kc,eh,eg,ec,bd⟩:=cx.ho
 obtain⟨kw,ws,ew,k4,v4⟩:=cx.sa.ew
 have hkl:=cx.sa.kl ew
 have est:=cx.sa.e
 have dw:bK H wd (.str (aq k)) ((kn (aq k)).map V.int):=by rw[<-v4];exact bK.k (k:= .inr (aq k)) ew
 have dg:bK H hg (.str (aq k)) ((gv (aq k)).map V.int):=by rw[<-bd.g];exact bK.k (k:= .inr (aq k)) eg
 have hx:aq k∈nmK n:=dD.mpr ⟨k,hkn,rfl⟩
 cases ek:kn (aq k) with
 | some v=>
   rw[ek] at dw
   have dw:bK H wd (.str (aq k)) (some (.int v)):=dw
   walk_at "vs"
   exact q kn rm v H (But.refl _ _) cx ⟨Kn.Le.refl _,fun y hy=> .inl hy⟩ ek
 | none=>
   rw[ek] at dw
   have dw:bK H wd (.str (aq k)) none:=dw
   cases egv:gv (aq k) with
   | some v=>
     rw[egv] at dg
     have dg:bK H hg (.str (aq k)) (some (.int v)):=dg
     have dp:jF H wd (.str (aq k)) (.int v) (upd H wd (.dK (putK kw (.inr (aq k)) (.int v)))):=jF.k (k:= .inr (aq k)) ew (bR (by omega))
     have dw1:bK (upd H wd (.dK (putK kw (.inr (aq k)) (.int v)))) wd (.str (aq k)) (some (.int v)):=by
      have:=bK.k (H:=upd H wd (.dK (putK kw (.inr (aq k)) (.int v)))) (a:=wd) (k:= .inr (aq k)) ao
      rw[iQ,if_pos rfl] at this
      exact this
     walk_at "vs"
     exact q (kn.put (aq k) v) rm v _ (But.set _ (by simp)) (cx.Zm ew hx ek egv) ⟨Kn.qg ek,fun y hy=>by
      unfold Kn.put at hy
      by_cases z:y=aq k
      ·exact .inr (dD.mpr ⟨k,by omega,z⟩)
      ·rw[if_neg z] at hy;exact .inl hy⟩ (by unfold Kn.put;rw[if_pos rfl])
   | none=>
     rw[egv] at dg
     have dg:bK H hg (.str (aq k)) none:=dg
     have hrc:∃r,rc (aq k)=some r:=by
      cases z:rc (aq k) with
      | some r=>exact⟨r,rfl⟩
      | none=>
        rcases bd.ok.dom k hkn with w | w
        ·exact absurd egv w
        ·exact absurd z w
     obtain⟨r,hr'⟩:=hrc
     obtain⟨br,hbr,hRr⟩:=bd.r _ _ hr'
     obtain⟨k',hk',ek',ok'⟩:=bd.ok.rk _ _ hr'
     have:k=k':=iZ (by omega) (by omega) ek'
     subst this
     have dc:bK H hc (.str (aq k)) (some (.ref br)):=by rw[<-hbr];exact bK.k (k:= .inr (aq k)) ec
     walk_at "vs"
     intro rl hrl
     have cx1:=cx.more hrl []
     have s1:=aD (.lst []) hrl
     have el1:upd H rl (.lst []) rl=some (.lst (([]:List Addr).map V.ref)):=ao
     have eh1:=s1 _ _ eh
     have ec1:=s1 _ _ ec
     have R1:=hRr.same s1
     have dc1:bK (upd H rl (.lst [])) hc (.str (aq k)) (some (.ref br)):=by rw[<-hbr];exact bK.k (k:= .inr (aq k)) ec1
     have hrst:rl≠st:=fun z=>by rw[z,est] at hrl;cases hrl
     have hrX:rl∉X:=fun z=>cx.xs rl z hrl
     have hrw:rl≠wd:=fun z=>by rw[z,ew] at hrl;cases hrl
     have hrr:rl≠rd:=fun z=>by
      obtain⟨kr,rs,er,_⟩:=cx.sa.er
      rw[z,er] at hrl;cases hrl
     have hr0:=hrl
     generalize upd H rl (.lst [])=H1 at *
     have am9:gW H1 [] []:= .nil
     have ana:Rows kn []:=⟨by simp,by simp⟩
     have hin:rl∈rl::X:=by simp
     walk_at "vs"
     intro kn1 rm1 v us as2 H2 b2 cx2 nw2 el2 IK KY zW
     have t2:jz H1 H2:=cx1.sa.tups (S:=[wd,rd,rl]) (fun y hy=>by
      have z:y=wd\/y=rd\/y=rl:=by simpa using hy
      rcases z with z | z | z
      ·exact .inl z
      ·exact .inr (.inl z)
      ·exact .inr (.inr ⟨_,by rw[z];exact el1⟩)) b2
     have ek1:kn1 (aq k)=none:=by
      cases z:kn1 (aq k) with
      | none=>rfl
      | some u=>
        rcases nw2.2 (aq k) (by rw[z];simp) with w | w
        ·exact absurd ek w
        ·obtain⟨j,hj,ej⟩:=dD.mp w
         have:=iZ (by omega) (by omega) ej
         omega
     obtain⟨kg2,kc2,eh2,eg2,ec2,bd2⟩:=cx2.ho
     obtain⟨kw2,ws2,ew2,k42,v42⟩:=cx2.sa.ew
     obtain⟨kr2,rs2,er2,k52,v52,w52⟩:=cx2.sa.er
     have ajN:=cx2.sa.kl ew2
     have anb:=cx2.sa.rl er2
     have ajO:H2 hc=some (.dK kc):=b2 _ _ (by
      simp only[List.mem_cons,List.not_mem_nil,or_false,not_or]
      exact⟨cx.cw,cx.cr,fun z=>by rw[z,el1] at ec1;cases ec1⟩) ec1
     have dc2:bK H2 hc (.str (aq k)) (some (.ref br)):=by rw[<-hbr];exact bK.k (k:= .inr (aq k)) ajO
     walk_at "vs"
     intro pb hpb
     have s3:=aD (.tup [.ref br, .ref rl, .int v]) hpb
     have epb:upd H2 pb (.tup [.ref br, .ref rl, .int v]) pb=some (.tup [.ref br, .ref rl, .int v]):=ao
     have cx3:=(cx2.same s3).less
     have ew3:=s3 _ _ ew2
     have er3:=s3 _ _ er2
     have ra3:qm X (upd H2 pb (.tup [.ref br, .ref rl, .int v])) pb (r,us,v):=⟨br,rl,as2,epb,(R1.tups t2).same s3,s3 _ _ el2,IK.same s3,hrX⟩
     have b3:But [wd,rd,rl] H1 (upd H2 pb (.tup [.ref br, .ref rl, .int v])):=b2.trans (But.of_same s3)
     generalize upd H2 pb (.tup [.ref br, .ref rl, .int v])=H3 at *
     have dp1:jF H3 rd (.str (aq k)) (.ref pb) (upd H3 rd (.dK (putK kr2 (.inr (aq k)) (.ref pb)))):=jF.k (k:= .inr (aq k)) er3 (bR (by omega))
     have ew4:upd H3 rd (.dK (putK kr2 (.inr (aq k)) (.ref pb))) wd=some (.dK kw2):=(au cx3.sa.ne).trans ew3
     have dp2:jF (upd H3 rd (.dK (putK kr2 (.inr (aq k)) (.ref pb)))) wd (.str (aq k)) (.int v) (upd (upd H3 rd (.dK (putK kr2 (.inr (aq k)) (.ref pb)))) wd (.dK (putK kw2 (.inr (aq k)) (.int v)))):=jF.k (k:= .inr (aq k)) ew4 (bR (by omega))
     have dw5:bK (upd (upd H3 rd (.dK (putK kr2 (.inr (aq k)) (.ref pb)))) wd (.dK (putK kw2 (.inr (aq k)) (.int v)))) wd (.str (aq k)) (some (.int v)):=by
      have:=bK.k (H:=upd (upd H3 rd (.dK (putK kr2 (.inr (aq k)) (.ref pb)))) wd (.dK (putK kw2 (.inr (aq k)) (.int v)))) (a:=wd) (k:= .inr (aq k)) ao
      rw[iQ,if_pos rfl] at this
      exact this
     walk_at "vs"
     have cx5:=cx3.uT ew3 er3 hx ek1 egv hr' zW KY ra3
     refine q (kn1.put (aq k) v) (rm1.put (aq k) (r,us,v)) v _ ?_ cx5 ⟨nw2.1.trans (Kn.qg ek1),fun y hy=> ?_⟩ (by unfold Kn.put;rw[if_pos rfl])
     ·intro y o hy e
      have hyw:y≠wd:=fun z=>hy (by simp[z])
      have hyr:y≠rd:=fun z=>hy (by simp[z])
      have hyl:y≠rl:=fun z=>by rw[z,hr0] at e;cases e
      refine(au hyw).trans ((au hyr).trans (b3 _ _ (by simp only[List.mem_cons,List.not_mem_nil,or_false,not_or];exact⟨hyw,hyr,hyl⟩) (s1 _ _ e)))
     ·unfold Kn.put at hy
      by_cases z:y=aq k
      ·exact .inr (dD.mpr ⟨k,by omega,z⟩)
      ·rw[if_neg z] at hy
       rcases nw2.2 y hy with w | w
       ·exact .inl w
       ·obtain⟨j,hj,ej⟩:=dD.mp w
        exact .inr (dD.mpr ⟨j,by omega,ej⟩)
end
section
variable {P:Program}{w:World}{K:PySem.W.Frag}{mg:Str->Option Value}{base:Heap}
theorem zX {f g1 g2:Addr}{fd gd1 gd2:FuncData} (cI:FnT K mg "_law_settled" bG ["house","name","state"] f fd) (bV:FnT K mg "_law_value" bQ ["house","r","state","reads"] g1 gd1) (eN:FnT K mg "_law_look" eZ ["house","name","state","reads"] g2 gd2) (T:Blt mg):
 ∀k0,bf P w K mg base CX0 (8 * k0+1) f fd ["house","name","state"] (Nx k0)
 | 0=>never fun vs H Q E h=>by
   obtain⟨X,h,g,c,st,wd,rd,n,gv,rc,kn,rm,k,_,_,hk,_⟩:=h
   omega
 | k0+1=>G5 cI bV (Fw bV eN (Qu eN cI (zX cI bV eN T k0) T) T 4) T
abbrev fj:Stmt:=top 35
theorem xZ:bH ["house","wishes","state","name"] ["house","wishes"] (aa fj):=⟨rfl,rfl,rfl,by decide +kernel,rfl,by decide +kernel,by decide +kernel⟩
theorem Dm:Loc (aa fj) "state":=by decide +kernel
theorem Bm:aG (aa fj) "wishes":=by decide +kernel
theorem Fx:Loc (aa fj) "name":=by decide +kernel
theorem ux:(aa fj).names.lookup ("_law_settled":Str)=some NameKind.globalImplicit:=by decide +kernel
theorem tU:aG (aa fj) "state":=by decide +kernel
theorem Fy:aG (aa fj) "name":=by decide +kernel
theorem Dn:aG (aa fj) "house":=by decide +kernel
theorem uy:(("_law_settled":Str)==("__debug__":Str))=false:=by decide +kernel
theorem Oa {f g1:Addr}{fd gd1:FuncData} (ig:FnT K mg "_law_fresh" fj ["house","wishes"] f fd) (cI:FnT K mg "_law_settled" bG ["house","name","state"] g1 gd1) (vz:bf P w K mg base CX0 137 g1 gd1 ["house","name","state"] (Nx 17)) (T:Blt mg):
 bf P w K mg base CX0 138 f fd ["house","wishes"] aa0:=by
 refine ig.F.okQ xZ (fun vs H Q E h=> ?_) (fun cdv A outer s H vs Q E hr h=> ?_)
 ·obtain⟨h,g,c,wl,n,gv,rc,ws,rfl,_⟩:=h
  rfl
 obtain⟨h,hg,hc,wl,n,gv,rc,ws,rfl,ho,n17,ewl,hws,q⟩:=h
 refine⟨_,(az (bB (i:=2) xZ.nd rfl Dm (eG (afI nU (afI nU aA))))
  (az (wZ PassesOwn.never rfl (Eb (aj 1 Bm)) (fH (i:=3) xZ.nd rfl Fx) (aF (fY (aJ (vz.mono (by omega)) hr ux cI.m cI.F.kp cI.b .nil aY (aH (aj 0 Dn) (aH (aj 3 Fy) (aH (aj 2 tU) aA))) uy))))
  (aF (aW (aj 2 tU))))), ?_⟩
 obtain⟨kg,kc,eh,eg,ec,bd⟩:=id ho
 walk_at "vs"
 intro wd hwd
 have s1:=aD (.dK []) hwd
 have e1:upd H wd (.dK []) wd=some (.dK []):=ao
 generalize upd H wd (.dK [])=H1 at *
 walk_at "vs"
 intro rd hrd
 have s2:=aD (.dK []) hrd
 have e12:=s2 _ _ e1
 have e2:upd H1 rd (.dK []) rd=some (.dK []):=ao
 have ZD:=same_none s1 hrd
 have nwr:wd≠rd:=fun z=>by rw[<-z,e1] at hrd;cases hrd
 have S2:=s1.trans s2
 generalize upd H1 rd (.dK [])=H2 at *
 walk_at "vs"
 intro st hst
 have s3:=aD (.lst [.ref wd, .ref rd]) hst
 have e13:=s3 _ _ e12
 have e23:=s3 _ _ e2
 have e3:upd H2 st (.lst [.ref wd, .ref rd]) st=some (.lst [.ref wd, .ref rd]):=ao
 have af6:=same_none S2 hst
 have S3:=S2.trans s3
 generalize upd H2 st (.lst [.ref wd, .ref rd])=H3 at *
 have ne0:∀{y o},H y=some o->y≠wd/\y≠rd/\y≠st:=fun e=>⟨fun z=>(by rw[z,hwd] at e;cases e),fun z=>(by rw[z,ZD] at e;cases e),fun z=>(by rw[z,af6] at e;cases e)⟩
 have ade:=S3 _ _ ewl
 have cx3:Ctx [] H3 h hg hc st wd rd n gv rc kn0 (fun _=>none):=⟨⟨kg,kc,S3 _ _ eh,S3 _ _ eg,S3 _ _ ec,bd.tups (aM.tups S3)⟩,⟨e3,⟨[],[],e13,⟨rfl,by simp⟩,fun _=>rfl⟩,⟨[],[],e23,⟨rfl,by simp⟩,fun x q z=>(by cases z),fun _ _=>rfl⟩,nwr,⟨fun x v z=>(by cases z),fun x r ps v z=>(by cases z)⟩⟩,n17,(ne0 eg).1,(ne0 eg).2.1,(ne0 ec).1,(ne0 ec).2.1,by simp,by simp⟩
 walk_at "vs"
 refine Jq (K:=K) (xs:=ws.map V.str) (fun i σ H'=>(∃t,σ=[some (.ref h),some (.ref wl),some (.ref st),t])/\aM H H'/\∃kn rm,Ctx [] H' h hg hc st wd rd n gv rc kn rm/\∀x∈ws.take i,kn x≠none) ?_ ?_ ?_ ?_
 ·exact⟨⟨none,rfl⟩,S3,kn0,_,cx3,by simp⟩
 ·intro i σ H' _ hP
  exact SqL.of (hP.2.1 _ _ ewl)
 ·intro i xv σ H4 hxv hP
  obtain⟨⟨t,rfl⟩,S4,kn,rm,cx,hk⟩:=hP
  have hi:i<(ws.map V.str).length:=(List.getElem?_eq_some_iff.mp hxv).1
  rw[List.length_map] at hi
  have hxe:ws[i]? =some (ws[i]):=List.getElem?_eq_getElem hi
  obtain⟨k,hkn,ek⟩:=dD.mp (hws _ (List.getElem_mem hi))
  have hxv':xv= .str (aq k):=by
   rw[List.getElem?_map,hxe] at hxv
   rw[<-ek];exact(Option.some.inj hxv).symm
  subst hxv'
  walk_at "vs"
  intro kn1 rm1 v H5 b5 cx5 nw5 hv
  refine⟨⟨_,rfl⟩,fun y o e=>b5 _ _ (by simp only[List.mem_cons,List.not_mem_nil,or_false,not_or];exact⟨(ne0 e).1,(ne0 e).2.1⟩) (S4 _ _ e),kn1,rm1,cx5,fun x hx=> ?_⟩
  rw[List.take_add_one,hxe] at hx
  rcases List.mem_append.mp hx with z | z
  ·have:=hk x z
   cases e:kn x with
   | none=>exact absurd e this
   | some u=>rw[nw5.1 _ _ e];simp
  ·have:x=ws[i]:=by simpa using z
   rw[this,ek,hv];simp
 ·intro σ H4 hP
  obtain⟨⟨t,rfl⟩,S4,kn,rm,cx,hk⟩:=hP
  rw[List.length_map,List.take_length] at hk
  walk_at "vs"
  exact q st wd rd kn rm H4 S4 af6 hwd ZD cx.sa hk
end
section
variable {P:Program}{w:World}{K:PySem.W.Frag}{mg:Str->Option Value}{base:Heap}
abbrev dG:Stmt:=top 36
theorem BX:bH ["house","pool","names"] ["house","pool"] (aa dG):=⟨rfl,rfl,rfl,by decide +kernel,rfl,by decide +kernel,by decide +kernel⟩
theorem Bo:Loc (aa dG) "names":=by decide +kernel
theorem zY:(aa dG).names.lookup ("sorted":Str)=some NameKind.globalImplicit:=by decide +kernel
theorem tV:(aa dG).names.lookup ("list":Str)=some NameKind.globalImplicit:=by decide +kernel
theorem rO:aG (aa dG) "house":=by decide +kernel
theorem tW:("list":Str)≠"__name__":=by decide +kernel
theorem tX:(("list":Str)==("__debug__":Str))=false:=by decide +kernel
theorem zZ:("sorted":Str)≠"__name__":=by decide +kernel
theorem Aa:(("sorted":Str)==("__debug__":Str))=false:=by decide +kernel
theorem Bp:(aa dG).names.lookup ("range":Str)=some NameKind.globalImplicit:=by decide +kernel
theorem wJ:(aa dG).names.lookup ("_law_take":Str)=some NameKind.globalImplicit:=by decide +kernel
theorem Dp:aG (aa dG) "pool":=by decide +kernel
theorem oZ:(("_law_take":Str)==("__debug__":Str))=false:=by decide +kernel
theorem Fz:("len":Str)≠"__name__":=by decide +kernel
theorem FJ:(("len":Str)==("__debug__":Str))=false:=by decide +kernel
theorem aeV:("sorted":Str)≠"__name__":=by decide +kernel
theorem Lq {f g1:Addr}{fd gd1:FuncData} (d8:FnT K mg "_law_wishes" dG ["house","pool"] f fd) (aC:FnT K mg "_law_take" dX ["pool","many"] g1 gd1) (bu:bf P w K mg base CX0 1 g1 gd1 ["pool","many"] w6) (T:Blt mg):
 bf P w K mg base CX0 2 f fd ["house","pool"] aa1:=by
 refine d8.F.okQ BX (fun vs H Q E h=> ?_) (fun cdv A outer s H vs Q E hr h=> ?_)
 ·obtain⟨h,g,c,p,n,cc,gv,rc,rfl,_⟩:=h
  rfl
 obtain⟨h,hg,hc,p,n,cc,gv,rc,rfl,ho,n1,n17,pl,hcc,npg,npc,q⟩:=h
 refine⟨_,(az (bB (i:=2) BX.nd rfl Bo (dm RM zY T.yZ vK (Eh (cO Y5 (jD (Pq rfl) tV T.Nj Jg (jc (aN aK (aj 0 rO) aB) aA) tW tX) (jD (Pq rfl) tV T.Nj Jg (jc (aN aK (aj 0 rO) aB) aA) tW tX)) aA) zZ Aa))
  (aF (aW (wY rfl (n:=1) (fr:=[2,1]) (N:=["k","names","pool"]) (HR (scX:=aa dG) (NX:=["house","pool","names"]) rfl rfl (by decide +kernel)) (Ak Bp T.Jj (Eh (cO jR aB (aJ (bu.mono (by omega)) hr wJ aC.m aC.F.kp aC.b .nil aY (aH (aj 1 Dp) (dZ aB aA)) oZ)) aA)) (fun _ _ _ _ _=>(qgx (i:=0) (show List.Nodup (α:=Str) ["k","names","pool"] by decide) (K9 (by decide +kernel)))) (fun _ _ _ _ _=>Rt) (fun _ _ _ _ _=>(aN (Gs (K:=K) rfl) (aj 1 (o9.ok (by decide +kernel))) (aJ (bu.mono (by omega)) hr (glC (by decide +kernel)) aC.m aC.F.kp aC.b .nil aY (aH (aj 2 (o9.ok (by decide +kernel))) (uQ (dm (HW (K:=K) rfl) (glC (by decide +kernel)) T.ym rA (aH (aj 1 (o9.ok (by decide +kernel))) aA) Fz FJ) aA)) oZ))))))), ?_⟩
 obtain⟨kg,kc,eh,eg,ec,bd⟩:=id ho
 obtain⟨gs,cs,kgk,kck,hlen⟩:=bd.k
 walk_at "vs"
 intro l1 hl1
 rw[Mx kgk.k]
 have s1:=aD (.lst (gs.map V.str)) hl1
 have e1:upd H l1 (.lst (gs.map V.str)) l1=some (.lst (gs.map V.str)):=ao
 have eh1:=s1 _ _ eh
 have ec1:=s1 _ _ ec
 have pl1:=pl.same s1
 have hn1:l1≠p:=pl.ne hl1
 generalize upd H l1 (.lst (gs.map V.str))=H1 at *
 walk_at "vs"
 intro l2 hl2
 rw[Mx kck.k]
 have s2:=aD (.lst (cs.map V.str)) hl2
 have e12:=s2 _ _ e1
 have e2:upd H1 l2 (.lst (cs.map V.str)) l2=some (.lst (cs.map V.str)):=ao
 have S2:=s1.trans s2
 have pl2:=pl1.same s2
 generalize upd H1 l2 (.lst (cs.map V.str))=H2 at *
 have hz:(gs.map V.str).length+(cs.map V.str).length<=sizeLine:=by rw[List.length_map,List.length_map];exact Nat.le_of_lt (bR (by omega))
 walk_at "vs"
 intro l3 hl3
 rw[<-List.map_append]
 have s3:=aD (.lst ((gs++cs).map V.str)) hl3
 have e3:upd H2 l3 (.lst ((gs++cs).map V.str)) l3=some (.lst ((gs++cs).map V.str)):=ao
 have S3:=S2.trans s3
 have pl3:=pl2.same s3
 generalize upd H2 l3 (.lst ((gs++cs).map V.str))=H3 at *
 refine⟨l3,gs++cs,rfl,SqL.of e3,by rw[List.length_append];omega,fun l4 us hl4 hperm=> ?_⟩
 have s4:=aD (.lst (us.map V.str)) hl4
 have e4:upd H3 l4 (.lst (us.map V.str)) l4=some (.lst (us.map V.str)):=ao
 have S4:=S3.trans s4
 have pl4:=pl3.same s4
 have n4p:l4∉[p]:=fun z=>pl3.ne hl4 (by simpa using z)
 generalize upd H3 l4 (.lst (us.map V.str))=H4 at *
 have hul:us.length=n:=by rw[hperm.length_eq,List.length_append];exact hlen
 have hus:∀x∈us,x∈nmK n:=fun x hx=>by
  rcases List.mem_append.mp (hperm.mem_iff.mp hx) with z | z
  ·refine bd.ok.gk x fun e=> ?_
   exact kgk.none.mp (by rw[bd.g,e];rfl) z
  ·cases e:rc x with
   | none=>exact absurd z (kck.none.mp (bd.rn x e))
   | some r=>
     obtain⟨k,hk,ek,_⟩:=bd.ok.rk x r e
     exact dD.mpr ⟨k,hk,ek⟩
 walk_at "vs"
 intro n5 H5 n50 n51 b5 pl5
 have B5:But [p] H H5:=(But.of_same S4).trans b5
 have hlm:(us.map V.str).length=us.length:=List.length_map _
 have hl0:0<((us.map V.str).length:Int):=by rw[hlm];omega
 have hlog:((us.map V.str).length:Int).natAbs.log2<9000:=by
  rw[hlm]
  exact Nat.lt_of_le_of_lt (Nat.log2_le_self _) (by omega)
 have e5:=b5 _ _ n4p e4
 walk_at "vs"
 intro D hD
 have nD:D∉[p]:=fun z=>pl5.ne hD (by simpa using z)
 have nDp:D≠p:=by simpa using nD
 have nD4:l4≠D:=fun z=>by rw[z,hD] at e5;cases e5
 have hD0:=jd B5 hD nD
 refine Jx (fun i σ' H'=>(∃t,σ'=t::[some (.ref l4),some (.ref p)])/\∃ts:List Str,H' D=some (.lst (ts.map V.str))/\ts.length=i/\(∀x∈ts,x∈nmK n)/\But [p] H H'/\eU H' p (cc+1+i)/\H' l4=some (.lst (us.map V.str))) ?_ ?_ ?_
 ·exact⟨⟨none,rfl⟩,[],ao,rfl,by simp,B5.upd _ hD0,pl5.same (aD _ hD),(aD _ hD) _ _ e5⟩
 ·intro i σ' H' hi hP
  obtain⟨⟨t,rfl⟩,ts,e,et,hts,hb,hpl,el4⟩:=hP
  have hi9:(i:Int)<10:=by omega
  walk_at "vs"
  intro n6 H6 n60 n61 b6 pl6
  have hb6:=hb.trans b6
  have e6:=b6 _ _ nD e
  have el6:=b6 _ _ n4p el4
  obtain⟨x,hx,hxm⟩:∃x,atI (us.map V.str) n6=some (.str x)/\x∈us:=by
   obtain⟨j,rfl⟩:=Int.eq_ofNat_of_zero_le n60
   have hj:j<us.length:=by rw[hlm] at n61;omega
   exact⟨us[j],iT (by rw[List.getElem?_map,List.getElem?_eq_getElem hj];rfl),List.getElem_mem hj⟩
  have hz:(ts.map V.str).length<sizeLine:=by rw[List.length_map];exact bR (by omega)
  walk_at "vs"
  refine⟨⟨_,rfl⟩,ts++[x], ?_,by rw[List.length_append,et];rfl, ?_,hb6.upd _ hD0,pl6.keep (But.set _ (by simp)) (S:=[D]) (by simpa using Ne.symm nDp),(au nD4).trans el6⟩
  ·rw[List.map_append];exact ao
  ·intro y hy
   rcases List.mem_append.mp hy with z | z
   ·exact hts y z
   ·have:y=x:=by simpa using z
    rw[this];exact hus x hxm
 ·intro σ' H' hP
  obtain⟨_,ts,e,et,hts,hb,hpl,el4⟩:=hP
  walk_at "vs"
  exact q D ts H' hb hD0 e hts
end
section
variable {P:Program}{w:World}{K:PySem.W.Frag}{mg:Str->Option Value}{base:Heap}
abbrev bz:Stmt:=top 37
theorem jJ:bH ["script","pool","many","house","old","older","records","others","name"] ["script"] (aa bz):=⟨rfl,rfl,rfl,by decide +kernel,rfl,by decide +kernel,by decide +kernel⟩
theorem G6:Loc (aa bz) "pool":=by decide +kernel
theorem ju:(aa bz).names.lookup ("_law_pool":Str)=some NameKind.globalImplicit:=by decide +kernel
theorem fQ:aG (aa bz) "script":=by decide +kernel
theorem jw:(("_law_pool":Str)==("__debug__":Str))=false:=by decide +kernel
theorem G7:Loc (aa bz) "many":=by decide +kernel
theorem jx:(aa bz).names.lookup ("_law_take":Str)=some NameKind.globalImplicit:=by decide +kernel
theorem m8:aG (aa bz) "pool":=by decide +kernel
theorem jy:(("_law_take":Str)==("__debug__":Str))=false:=by decide +kernel
theorem FN:Loc (aa bz) "house":=by decide +kernel
theorem yc:(aa bz).names.lookup ("_law_house":Str)=some NameKind.globalImplicit:=by decide +kernel
theorem G8:aG (aa bz) "many":=by decide +kernel
theorem yd:(("_law_house":Str)==("__debug__":Str))=false:=by decide +kernel
theorem IV:Loc (aa bz) "old":=by decide +kernel
theorem pQ:(aa bz).names.lookup ("_law_other":Str)=some NameKind.globalImplicit:=by decide +kernel
theorem lZ:aG (aa bz) "house":=by decide +kernel
theorem pR:(("_law_other":Str)==("__debug__":Str))=false:=by decide +kernel
theorem FP:Loc (aa bz) "older":=by decide +kernel
theorem Bq:Loc (aa bz) "records":=by decide +kernel
theorem G9:(aa bz).names.lookup ("dict":Str)=some NameKind.globalImplicit:=by decide +kernel
theorem pU:(aa bz).names.lookup ("_law_fresh":Str)=some NameKind.globalImplicit:=by decide +kernel
theorem kh:(aa bz).names.lookup ("_law_wishes":Str)=some NameKind.globalImplicit:=by decide +kernel
theorem yr:aG (aa bz) "old":=by decide +kernel
theorem kj:(("_law_wishes":Str)==("__debug__":Str))=false:=by decide +kernel
theorem pW:(("_law_fresh":Str)==("__debug__":Str))=false:=by decide +kernel
theorem Hg:("dict":Str)≠"__name__":=by decide +kernel
theorem Hh:(("dict":Str)==("__debug__":Str))=false:=by decide +kernel
theorem Dq:Loc (aa bz) "others":=by decide +kernel
theorem uI:aG (aa bz) "older":=by decide +kernel
theorem tY:aG (aa bz) "others":=by decide +kernel
theorem Hi:Loc (aa bz) "name":=by decide +kernel
theorem rP:aG (aa bz) "records":=by decide +kernel
theorem wK:aG (aa bz) "name":=by decide +kernel
theorem Qv {f g0 g1 g2 g3 g4 g5:Addr}{fd gd0 gd1 gd2 gd3 gd4 gd5:FuncData} (mR:FnT K mg "_law_case" bz ["script"] f fd) (aC:FnT K mg "_law_take" dX ["pool","many"] g0 gd0) (bu:bf P w K mg base CX0 1 g0 gd0 ["pool","many"] w6)
 (bU:FnT K mg "_law_pool" iM ["script","k"] g1 gd1) (mL:bf P w K mg base CX0 2 g1 gd1 ["script","k"] (Np K)) (kW:FnT K mg "_law_house" bM ["script","start","many"] g2 gd2) (Qw:bf P w K mg base CX0 7 g2 gd2 ["script","start","many"] (aaX K))
 (gY:FnT K mg "_law_other" aR ["house","script","start","most"] g3 gd3) (Ih:bf P w K mg base CX0 7 g3 gd3 ["house","script","start","most"] (aaZ K)) (ig:FnT K mg "_law_fresh" fj ["house","wishes"] g4 gd4) (Ii:bf P w K mg base CX0 138 g4 gd4 ["house","wishes"] aa0)
 (d8:FnT K mg "_law_wishes" dG ["house","pool"] g5 gd5) (ye:bf P w K mg base CX0 2 g5 gd5 ["house","pool"] aa1) (T:Blt mg):bf P w K mg base CX0 139 f fd ["script"] (aa2 K):=by
 refine mR.F.okQ jJ (fun vs H Q E h=> ?_) (fun cdv A outer s H vs Q E hr h=> ?_)
 ·obtain⟨a,zs,rfl,_⟩:=h
  rfl
 obtain⟨a,zs,rfl,hS,q⟩:=h
 refine⟨_,(az (bB (i:=1) jJ.nd rfl G6 (aJ (mL.mono (by omega)) hr ju bU.m bU.F.kp bU.b .nil aY (aH (aj 0 fQ) (dZ aB aA)) jw))
  (az (bB (i:=2) jJ.nd rfl G7 (cO jR aB (aJ (bu.mono (by omega)) hr jx aC.m aC.F.kp aC.b .nil aY (aH (aj 1 m8) (dZ aB aA)) jy)))
  (az (bB (i:=3) jJ.nd rfl FN (aJ (Qw.mono (by omega)) hr yc kW.m kW.F.kp kW.b .nil aY (aH (aj 0 fQ) (dZ aB (aH (aj 2 G8) aA))) yd))
  (az (bB (i:=4) jJ.nd rfl IV (aJ (Ih.mono (by omega)) hr pQ gY.m gY.F.kp gY.b .nil aY (aH (aj 3 lZ) (aH (aj 0 fQ) (dZ aB (jc (aN cR (eG (dZ aB (dZ aB (dZ aB (dZ aB aA))))) (aJ (bu.mono (by omega)) hr jx aC.m aC.F.kp aC.b .nil aY (aH (aj 1 m8) (dZ aB aA)) jy)) aA)))) pR))
  (az (bB (i:=5) jJ.nd rfl FP (aJ (Ih.mono (by omega)) hr pQ gY.m gY.F.kp gY.b .nil aY (aH (aj 3 lZ) (aH (aj 0 fQ) (dZ aB (jc (aN cR (eG (dZ aB (dZ aB aA))) (aJ (bu.mono (by omega)) hr jx aC.m aC.F.kp aC.b .nil aY (aH (aj 1 m8) (dZ aB aA)) jy)) aA)))) pR))
  (az (bB (i:=6) jJ.nd rfl Bq (jD JX G9 T.Rw Nf (jc (aN cR (aJ (Ii.mono (by omega)) hr pU ig.m ig.F.kp ig.b .nil aY (aH (aj 4 yr) (uQ (aJ (ye.mono (by omega)) hr kh d8.m d8.F.kp d8.b .nil aY (aH (aj 4 yr) (uQ (aJ (mL.mono (by omega)) hr ju bU.m bU.F.kp bU.b .nil aY (aH (aj 0 fQ) (dZ aB aA)) jw) aA)) kj) aA)) pW) aB) aA) Hg Hh))
  (az (bB (i:=7) jJ.nd rfl Dq (aN cR (aJ (Ii.mono (by omega)) hr pU ig.m ig.F.kp ig.b .nil aY (aH (aj 5 uI) (uQ (aJ (ye.mono (by omega)) hr kh d8.m d8.F.kp d8.b .nil aY (aH (aj 5 uI) (uQ (aJ (mL.mono (by omega)) hr ju bU.m bU.F.kp bU.b .nil aY (aH (aj 0 fQ) (dZ aB aA)) jw) aA)) kj) aA)) pW) aB))
  (az (wZ PassesOwn.never rfl (Ek (aj 7 tY)) (fH (i:=8) jJ.nd rfl Hi) (aF (cJ (bT dR (aJ (bu.mono (by omega)) hr jx aC.m aC.F.kp aC.b .nil aY (aH (aj 1 m8) (dZ aB aA)) jy) aB (aO _)) (aF (gQ (bO hr) (aj 6 rP) (aj 8 wK) (cY (bO hr) (aj 7 tY) (aj 8 wK)))) bF)))
  (aF (aW (eG (aH (aj 3 lZ) (aH (aj 6 rP) (uQ (aJ (ye.mono (by omega)) hr kh d8.m d8.F.kp d8.b .nil aY (aH (aj 3 lZ) (uQ (aJ (mL.mono (by omega)) hr ju bU.m bU.F.kp bU.b .nil aY (aH (aj 0 fQ) (dZ aB aA)) jw) aA)) kj) aA)))))))))))))), ?_⟩
 walk_at "vs"
 intro p H1 s1 hp0 pl1
 have fr:∀y∈[p],H y=none:=fun y hy=>by
  have:y=p:=by simpa using hy
  rw[this];exact hp0
 walk_at "vs"
 intro n2 H2 n20 n21 b2 pl2
 have S2:=fB s1 fr b2
 have hS2:=SqL.same S2 hS
 obtain⟨m,rfl⟩:=Int.eq_ofNat_of_zero_le n20
 have em:(2+(m:Int))=((2+m:Nat):Int):=by omega
 iterate 2 walk_at "v"
 dsimp only
 rw[em]
 have hm:m<15:=by omega
 generalize hn:2+m=n at *
 have n17:n<=17:=by omega
 have n1:1<=n:=by omega
 walk_at "vs"
 intro h hg hc gv rc H3 s3 hh3 hg3 hc3 ho3
 have pl3:=pl2.same s3
 have S3:=S2.trans s3
 have npg:p≠hg:=fun z=>by
  obtain⟨_,_,_,e,_⟩:=pl2
  rw[z,hg3] at e;cases e
 have npc:p≠hc:=fun z=>by
  obtain⟨_,_,_,e,_⟩:=pl2
  rw[z,hc3] at e;cases e
 have Ui:∀{h hg hc:Addr}{gv rc}{H4 H5:Hp}{cc},eU H4 p cc->But [p] H4 H5->p≠hg->p≠hc->jW H4 h hg hc n gv rc->jW H5 h hg hc n gv rc:=fun pl b h1 h2 ho=>ho.but b (pl.tups b) (by simpa using Ne.symm h1) (by simpa using Ne.symm h2)
 walk_at "vs"
 intro pz hpz
 have s4:=aD (.lst [V.int 3,V.int 6,V.int 20,V.int 60]) hpz
 have e4:upd H3 pz (.lst [V.int 3,V.int 6,V.int 20,V.int 60]) pz=some (.lst [V.int 3,V.int 6,V.int 20,V.int 60]):=ao
 have pl4:=pl3.same s4
 have S4:=S3.trans s4
 have ho4:=ho3.same s4
 have npz:pz∉[p]:=fun z=>pl3.ne hpz (by simpa using z)
 generalize upd H3 pz (.lst [V.int 3,V.int 6,V.int 20,V.int 60])=H4 at *
 walk_at "vs"
 intro n5 H5 n50 n51 b5 pl5
 have S5:=fB S4 fr b5
 have e5:=b5 _ _ npz e4
 have ho5:=Ui pl4 b5 npg npc ho4
 have hS5:=SqL.same S5 hS
 obtain⟨mo,hmo,adf,adg⟩:∃mo:Int,atI [V.int 3,V.int 6,V.int 20,V.int 60] n5=some (.int mo)/\0<mo/\mo<=100:=by
  have:n5=0\/n5=1\/n5=2\/n5=3:=by omega
  rcases this with rfl | rfl | rfl | rfl
  ·exact⟨3,rfl,by omega,by omega⟩
  ·exact⟨6,rfl,by omega,by omega⟩
  ·exact⟨20,rfl,by omega,by omega⟩
  ·exact⟨60,rfl,by omega,by omega⟩
 walk_at "vs"
 intro oh og oc ogv orc H6 s6 ohn ogn ocn oho
 have pl6:=pl5.same s6
 have S6:=S5.trans s6
 have ho6:=ho5.same s6
 have npog:p≠og:=fun z=>by
  obtain⟨_,_,_,e,_⟩:=pl5
  rw[z,ogn] at e;cases e
 have npoc:p≠oc:=fun z=>by
  obtain⟨_,_,_,e,_⟩:=pl5
  rw[z,ocn] at e;cases e
 clear e5 e4 hmo adf adg npz
 walk_at "vs"
 intro pz hpz
 have s7:=aD (.lst [V.int 4,V.int 12]) hpz
 have e7:upd H6 pz (.lst [V.int 4,V.int 12]) pz=some (.lst [V.int 4,V.int 12]):=ao
 have pl7:=pl6.same s7
 have S7:=S6.trans s7
 have ho7:=ho6.same s7
 have ajP:=oho.same s7
 have npz:pz∉[p]:=fun z=>pl6.ne hpz (by simpa using z)
 generalize upd H6 pz (.lst [V.int 4,V.int 12])=H7 at *
 walk_at "vs"
 intro n8 H8 n80 n81 b8 pl8
 have S8:=fB S7 fr b8
 have e8:=b8 _ _ npz e7
 have ho8:=Ui pl7 b8 npg npc ho7
 have ajQ:=Ui pl7 b8 npog npoc ajP
 have hS8:=SqL.same S8 hS
 obtain⟨mo,hmo,adf,adg⟩:∃mo:Int,atI [V.int 4,V.int 12] n8=some (.int mo)/\0<mo/\mo<=100:=by
  have:n8=0\/n8=1:=by omega
  rcases this with rfl | rfl
  ·exact⟨4,rfl,by omega,by omega⟩
  ·exact⟨12,rfl,by omega,by omega⟩
 walk_at "vs"
 intro vh vg vc vgv vrc H9 s9 vhn vgn vcn vho
 have pl9:=pl8.same s9
 have S9:=S8.trans s9
 have ho9:=ho8.same s9
 have adh:=ajQ.same s9
 have npvg:p≠vg:=fun z=>by
  obtain⟨_,_,_,e,_⟩:=pl8
  rw[z,vgn] at e;cases e
 have npvc:p≠vc:=fun z=>by
  obtain⟨_,_,_,e,_⟩:=pl8
  rw[z,vcn] at e;cases e
 have hS9:=SqL.same S9 hS
 clear e8 e7 hmo adf adg npz
 walk_at "vs"
 intro p2 H10 s10 hp2 ZC
 have fr2:∀y∈[p2],H9 y=none:=fun y hy=>by
  have:y=p2:=by simpa using hy
  rw[this];exact hp2
 obtain⟨okg,okc,oeh,oeg,oec,obd⟩:=id adh
 have anc:p2≠og:=fun z=>by rw[z,oeg] at hp2;cases hp2
 have ane:p2≠oc:=fun z=>by rw[z,oec] at hp2;cases hp2
 have af7:=adh.same s10
 walk_at "vs"
 intro wl ws H11 b11 hwl ewl hws
 have s11:=fB s10 fr2 b11
 have af8:=adh.same s11
 walk_at "vs"
 intro st wd rd kn rm H12 s12 hst hwd hrd sa hk
 have S12:=s11.trans s12
 have est:=sa.e
 obtain⟨kr,erd,rD⟩:=sa.afT obd.ok
 have rrd:Rd H12 rd (.dK kr):= .inl erd
 have hat:atI [V.ref wd,V.ref rd] 1=some (.ref rd):=rfl
 walk_at "vs"
 intro rcd hrcd
 have s13:=aD (.dK kr) hrcd
 have ercd:upd H12 rcd (.dK kr) rcd=some (.dK kr):=ao
 have ajR:=rD.map (H':=upd H12 rcd (.dK kr)) fun b q z=>z.same s13
 have S13:aM H9 (upd H12 rcd (.dK kr)):=S12.trans s13
 have Qx:=same_none S12 hrcd
 generalize upd H12 rcd (.dK kr)=H13 at *
 have T13:=S9.trans S13
 have af9:=pl9.same S13
 have aga:=ho9.same S13
 have XD:=vho.same S13
 have anf:=SqL.same T13 hS
 clear rrd hat est sa hk erd rD s13 s12 b11 s10 ZC ewl hws af7 af8
 walk_at "vs"
 intro p3 H14 s14 hp3 ang
 have fr3:∀y∈[p3],H13 y=none:=fun y hy=>by
  have:y=p3:=by simpa using hy
  rw[this];exact hp3
 obtain⟨vkg,vkc,veh,veg,vec,vbd⟩:=id XD
 have anh:p3≠vg:=fun z=>by rw[z,veg] at hp3;cases hp3
 have ani:p3≠vc:=fun z=>by rw[z,vec] at hp3;cases hp3
 have amR:=XD.same s14
 walk_at "vs"
 intro wl2 ws2 H15 b15 anj af4 ank
 have s15:=fB s14 fr3 b15
 have amS:=XD.same s15
 walk_at "vs"
 intro st2 wd2 rd2 kn2 rm2 H16 s16 hst2 anl ZF sa2 hk2
 have S16:=s15.trans s16
 have anm:=sa2.e
 obtain⟨kr2,adi,rD2⟩:=sa2.afT vbd.ok
 have ajs:atI [V.ref wd2,V.ref rd2] 1=some (.ref rd2):=rfl
 have adk:=S16 _ _ ercd
 have ajS:=ajR.map fun b q z=>z.same S16
 have T16:=T13.trans S16
 have ajT:=af9.same S16
 have ajU:=aga.same S16
 have ZD:H rd2=none:=same_none (T13.trans s15) ZF
 have agb:H rcd=none:=same_none S9 Qx
 have nrr:rd2≠rcd:=fun z=>by
  have:=same_none s15 ZF
  rw[z,ercd] at this;cases this
 have nrp:rd2≠p:=fun z=>by
  obtain⟨_,_,_,e,_⟩:=af9
  have:=same_none s15 ZF
  rw[z,e] at this;cases this
 have ncp:rcd≠p:=fun z=>by
  obtain⟨_,_,_,e,_⟩:=pl9
  rw[z,e] at Qx;cases Qx
 have ano:=SqL.same T16 hS
 walk_at "vs"
 intro o
 have abd:=same_none s15 ZF
 obtain⟨kg,kc,anp,agc,agd,anq⟩:=id aga
 have ngr:hg≠rd2:=fun z=>by rw[z,abd] at agc;cases agc
 have ncr:hc≠rd2:=fun z=>by rw[z,abd] at agd;cases agd
 have ngrc:hg≠rcd:=fun z=>by
  obtain⟨_,_,_,eg9,_,_⟩:=ho9
  rw[z,Qx] at eg9;cases eg9
 have ncrc:hc≠rcd:=fun z=>by
  obtain⟨_,_,_,_,ec9,_⟩:=ho9
  rw[z,Qx] at ec9;cases ec9
 have t17:=qz (o:= .frz o (.dK kr2)) adi
 have b17:But [rd2] H16 (upd H16 rd2 (.frz o (.dK kr2))):=But.set _ (by simp)
 have T17:=cG (.frz o (.dK kr2)) ZD T16
 have ajV:=ajT.keep b17 (by simpa using Ne.symm nrp)
 have ajW:=ajU.but b17 t17 (by simpa using ngr) (by simpa using ncr)
 have adl:upd H16 rd2 (.frz o (.dK kr2)) rcd=some (.dK kr):=(au (Ne.symm nrr)).trans adk
 have ajX:=ajS.map (H':=upd H16 rd2 (.frz o (.dK kr2))) fun b q z=>z.dk adi
 have abe:=rD2.map (H':=upd H16 rd2 (.frz o (.dK kr2))) fun b q z=>z.dk adi
 have efr:upd H16 rd2 (.frz o (.dK kr2)) rd2=some (.frz o (.dK kr2)):=ao
 generalize upd H16 rd2 (.frz o (.dK kr2))=H17 at *
 have ajN:=abe.len
 refine JW (fun i σ H'=>(∃t,σ=[some (.ref a),some (.ref p),some (.int (n:Int)),some (.ref h),some (.ref oh),some (.ref vh),some (.ref rcd),some (.ref rd2),t])/\aM H H'/\H' rd2=some (.frz o (.dK kr2))/\eU H' p (503+1+1+1+i)/\jW H' h hg hc n gv rc/\(∃kr rm,H' rcd=some (.dK kr)/\pF H' kr n rm)/\pF H' kr2 n rm2) ?_ ?_ ?_ ?_
 ·exact⟨⟨none,rfl⟩,T17,efr,ajV,ajW,⟨kr,rm,adl,ajX⟩,abe⟩
 ·intro i σ H' _ hP
  exact hP.2.2.1
 ·intro i k v σ H18 hkv hP
  obtain⟨⟨t,rfl⟩,T18,e18,ZG,Vk,⟨kr3,rm3,ZJ,XF⟩,Qy⟩:=hP
  have hi:i<kr2.length:=(List.getElem?_eq_some_iff.mp hkv).1
  obtain⟨rs2,kk2,ajY⟩:=Qy.k
  obtain⟨x,rfl,hxi⟩:=kk2.at hkv
  have hx:=List.mem_of_getElem? hxi
  have hxn:=ajY x hx
  cases erm:rm2 x with
  | none=>exact absurd hx (kk2.none.mp (Qy.w x erm))
  | some qq=>
    obtain⟨b,hb,ra⟩:=Qy.v x qq erm
    have hl3:=XF.len
    have dgo:bK H18 rd2 (.str x) (some (.ref b)):=by
     rw[<-hb];exact .inl ⟨kr2, .inr x, .inr ⟨o,e18⟩,rfl,rfl⟩
    walk_at "vs"
    intro n19 H19 anr n191 b19 adm
    have T19:=fB T18 fr b19
    have t19:=ZG.tups b19
    have e19:=b19 _ _ (by simpa using nrp) e18
    have ZK:=b19 _ _ (by simpa using ncp) ZJ
    have adn:=Ui ZG b19 npg npc Vk
    have ado:∀b q,qm [] H18 b q->qm [] H19 b q:=fun b q z=>z.but b19 t19 (fun y hy=> .inr fun xs w=>by
     obtain⟨_,_,_,e,_⟩:=ZG
     have:y=p:=by simpa using hy
     rw[this,e] at w;cases w)
    have adp:=XF.map ado
    have XH:=Qy.map ado
    have ajZ:=ado _ _ ra
    have amT:bK H19 rd2 (.str x) (some (.ref b)):=by
     rw[<-hb];exact .inl ⟨kr2, .inr x, .inr ⟨o,e19⟩,rfl,rfl⟩
    walk_at "vs"
    refine yw (fun c1=> ?_) (fun c1=> ?_)
    ·have dp:jF H19 rcd (.str x) (.ref b) (upd H19 rcd (.dK (putK kr3 (.inr x) (.ref b)))):=jF.k (k:= .inr x) ZK (bR (by omega))
     walk_at "vs"
     have t20:=qz (o:= .dK (putK kr3 (.inr x) (.ref b))) ZK
     have b20:But [rcd] H19 (upd H19 rcd (.dK (putK kr3 (.inr x) (.ref b)))):=But.set _ (by simp)
     have adq:∀b' q,qm [] H19 b' q->qm [] (upd H19 rcd (.dK (putK kr3 (.inr x) (.ref b)))) b' q:=fun b' q z=>z.dk ZK
     obtain⟨r,ps,v⟩:=qq
     exact⟨⟨_,rfl⟩,cG _ agb T19,(au nrr).trans e19,(adm.keep b20 (by simpa using Ne.symm ncp)),adn.but b20 t20 (by simpa using ngrc) (by simpa using ncrc),⟨_,_,ao,(adp.map adq).put hxn (adq _ _ ajZ) (XH.ok x r ps v erm)⟩,XH.map adq⟩
    ·walk_at "vs"
     exact⟨⟨_,rfl⟩,T19,e19,adm,adn,⟨kr3,rm3,ZK,adp⟩,XH⟩
 ·intro σ H18 hP
  obtain⟨⟨t,rfl⟩,T18,e18,ZG,Vk,⟨kr3,rm3,ZJ,XF⟩,Qy⟩:=hP
  have ant:=SqL.same T18 hS
  walk_at "vs"
  intro p4 H19 s19 hp4 adm
  have fr4:∀y∈[p4],H18 y=none:=fun y hy=>by
   have:y=p4:=by simpa using hy
   rw[this];exact hp4
  obtain⟨kg8,kc8,eh8,eg8,ec8,bd8⟩:=id Vk
  have anu:p4≠hg:=fun z=>by rw[z,eg8] at hp4;cases hp4
  have anv:p4≠hc:=fun z=>by rw[z,ec8] at hp4;cases hp4
  have adn:=Vk.same s19
  walk_at "vs"
  intro wl4 ws4 H20 b20 anw aj0 aj1
  have s20:=fB s19 fr4 b20
  walk_at "vs"
  intro tt htt
  have s21:=aD (.lst [.ref h, .ref rcd, .ref wl4]) htt
  have S21:=s20.trans s21
  exact q tt h hg hc rcd wl4 n gv rc kr3 rm3 ws4 _ (T18.trans S21) ao (Vk.same S21) n17 (S21 _ _ ZJ) (XF.map fun b q z=>z.same S21) (s21 _ _ aj0) aj1
end
section
variable {P:Program}{w:World}{K:PySem.W.Frag}{mg:Str->Option Value}{base:Heap}
abbrev cL:Stmt:=top 19
theorem qY:bH ["house","records","worths","name","record","now","k","read"] ["house","records","worths","name"] (aa cL):=⟨rfl,rfl,rfl,by decide +kernel,rfl,by decide +kernel,by decide +kernel⟩
theorem m9:aG (aa cL) "name":=by decide +kernel
theorem uJ:aG (aa cL) "house":=by decide +kernel
theorem rQ:aG (aa cL) "records":=by decide +kernel
theorem Dr:Loc (aa cL) "record":=by decide +kernel
theorem IW:Loc (aa cL) "now":=by decide +kernel
theorem Br:(aa cL).names.lookup ("is_same":Str)=some NameKind.globalImplicit:=by decide +kernel
theorem oW:aG (aa cL) "record":=by decide +kernel
theorem yt:aG (aa cL) "now":=by decide +kernel
theorem Bs:(("is_same":Str)==("__debug__":Str))=false:=by decide +kernel
theorem yL:(aa cL).names.lookup ("enumerate":Str)=some NameKind.globalImplicit:=by decide +kernel
theorem Hj:Loc (aa cL) "read":=by decide +kernel
theorem Lr:Loc (aa cL) "k":=by decide +kernel
theorem tZ:aG (aa cL) "worths":=by decide +kernel
theorem ni:aG (aa cL) "read":=by decide +kernel
theorem Ls:aG (aa cL) "k":=by decide +kernel
theorem Qz {f g0:Addr}{fd gd0:FuncData} (gP:FnT K mg "paper_of" cL ["house","records","worths","name"] f fd) (cM:FnT K mg "is_same" d9 ["told","thing"] g0 gd0) (qp:bf P w K mg base CX0 12 g0 gd0 ["told","thing"] (Gy K 10)) (T:Blt mg):
 bf P w K mg base CX0 13 f fd ["house","records","worths","name"] WY:=by
 refine gP.F.okQ qY (fun vs H Q E h=> ?_) (fun cdv A outer s H vs Q E hr h=> ?_)
 ·obtain⟨h,g,c,rcd,wd,n,gv,rc,kr,kw,rm,rmN,kn,x,rfl,_⟩:=h
  rfl
 obtain⟨h,hg,hc,rcd,wd,n,gv,rc,kr,kw,rm,rmN,kn,x,rfl,ho,n17,er,rD,rw',hkw,sok,hkx,q⟩:=h
 refine⟨_,(az (cJ (uU (bO hr) (aj 3 m9) (aN aK (aj 0 uJ) aB)) (aF (aW (gC (dZ aZ aA)))) bF)
  (az (cJ (lO (bO hr) (aj 3 m9) (aj 1 rQ)) (aF (aW (gC (dZ aZ aA)))) bF)
  (az (bB (i:=4) qY.nd rfl Dr (cY (bO hr) (aj 1 rQ) (aj 3 m9)))
  (az (bB (i:=5) qY.nd rfl IW (cY (bO hr) (aN aK (aj 0 uJ) aB) (aj 3 m9)))
  (az (cJ (Gp (sX (aJ (qp.mono (by omega)) hr Br cM.m cM.F.kp cM.b .nil aY (aH (aj 5 yt) (jc (aN aK (aj 4 oW) aB) aA)) Bs))) (aF (aW (gC (dZ aZ (jc (aN aK (aj 4 oW) aB) (aH (aj 5 yt) aA)))))) bF)
  (az (wZ PassesOwn.never rfl (Zv yL T.Pa (jc (aN aK (aj 4 oW) aB) aA)) (JF rfl (fu (fH (i:=6) qY.nd rfl Lr) (fu (fH (i:=7) qY.nd rfl Hj) uA))) (aF (cJ (bT rB (Py (bO hr) (aj 2 tZ) (aN aK (aj 7 ni) aB) ⟨rfl,rfl,rfl,rfl⟩) (aN aK (aj 7 ni) aB) (aO _)) (aF (aW (gC (dZ aZ (aH (aj 6 Ls) (jc (aN aK (aj 7 ni) aB) (uQ (Py (bO hr) (aj 2 tZ) (aN aK (aj 7 ni) aB) ⟨rfl,rfl,rfl,rfl⟩) aA))))))) bF)))
  (aF (aW (gC (dZ aZ aA)))))))))), ?_⟩
 obtain⟨kg,kc,eh,eg,ec,bd⟩:=id ho
 have dg:bK H hg (.str x) ((gv x).map V.int):=by rw[<-bd.g];exact bK.k (k:= .inr x) eg
 have dr:bK H rcd (.str x) (dH kr (.inr x)):=bK.k (k:= .inr x) er
 cases egv:gv x with
 | some v=>
   rw[egv] at dg
   have dg:bK H hg (.str x) (some (.int v)):=dg
   walk_at "vs"
   intro b hb
   have s1:=aD (.tup [.str "given"]) hb
   exact q b .given _ s1 (.given ao) (by show gv x≠none;rw[egv];simp)
 | none=>
   rw[egv] at dg
   have dg:bK H hg (.str x) none:=dg
   cases erm:rm x with
   | none=>
     rw[rD.w x erm] at dr
     walk_at "vs"
     intro b hb
     have s1:=aD (.tup [.str "new"]) hb
     exact q b .new _ s1 (.new ao) ⟨egv,erm⟩
   | some qq=>
     obtain⟨r',ps,v'⟩:=qq
     obtain⟨bb,hbb,br,l,as,e1,R1,el,hRs,_⟩:=rD.v x _ erm
     obtain⟨got',k',hk',ek',rk'⟩:=rD.ok x r' ps v' erm
     rw[hbb] at dr
     have R1:IsR H br r':=R1
     have hRs:gW H as ps:=hRs
     have e1:H bb=some (.tup [.ref br, .ref l, .int v']):=e1
     obtain⟨v,ekn⟩:∃v,kn x=some v:=by
      cases z:kn x with
      | none=>exact absurd z hkx
      | some v=>exact⟨v,rfl⟩
     obtain⟨r,qs,hrc,hrm⟩:∃r qs,rc x=some r/\rmN x=some (r,qs,v):=by
      rcases(sok.a x v ekn).2 with z | ⟨_,r,qs,z1,z2⟩
      ·rw[egv] at z;cases z
      ·exact⟨r,qs,z1,z2⟩
     obtain⟨_,_,_,age,aj2⟩:=sok.b x r qs v hrm
     obtain⟨k2,hk2,ek2,rk2⟩:=bd.ok.rk x r hrc
     obtain⟨br2,adt,R2⟩:=bd.r x r hrc
     have dc:bK H hc (.str x) (some (.ref br2)):=by rw[<-adt];exact bK.k (k:= .inr x) ec
     have hd1:=rk'.d
     have hd2:=rk2.d
     have t2:nQ K H (.ref br2) r.dz:=R2.JM
     have t1:nQ K H (.ref br) r'.dz:=R1.JM
     have p2:DpT 10 r.dz:=(r.dpT (jL rk2.g)).mono (show r.depth+1<=10 by omega)
     walk_at "vs"
     intro H1 S1
     have e1':=S1 _ _ e1
     have el':=S1 _ _ el
     have aj3:gW H1 as ps:=hRs.tups (aM.tups S1)
     have R1':=R1.same S1
     have R2':=R2.same S1
     have rw1:Rd H1 wd (.dK kw):=Rd.same rw' S1
     have iD:IsD H1 wd:= .inl ⟨_,rw1⟩
     by_cases hrr:r'=r
     ·subst hrr
      rw[Ua rfl]
      walk_at "vs"
      refine W0 (xs:=as.map V.ref) (fun i σ H'=>(∃t u,σ=[some (.ref h),some (.ref rcd),some (.ref wd),some (.str x),some (.ref bb),some (.ref br2),t,u])/\aM H1 H'/\∀(j:Nat) p,j<i->ps[j]? =some p->kn p.1=some p.2) ?_ ?_ ?_ ?_
      ·exact⟨⟨none,none,rfl⟩,aM.refl _,fun j p hj=>by omega⟩
      ·intro i σ H' hi hP
       exact SqL.of (hP.2.1 _ _ el')
      ·intro i y T0 σ H' hy hT hP
       obtain⟨⟨t,u,rfl⟩,S2,hj⟩:=hP
       obtain⟨ai,hae,ey⟩:=RD hy
       subst ey
       obtain⟨p,hp,ep⟩:=aj3.get i _ hae
       obtain⟨u2,hu2⟩:=again i got'.c age.c age.e aj2.s hj p hp
       have S3:=S2.trans (aD (.tup [.int (i:Int), .ref ai]) hT)
       have eT:upd H' T0 (.tup [.int (i:Int), .ref ai]) T0=some (.tup [.int (i:Int), .ref ai]):=ao
       generalize upd H' T0 (.tup [.int (i:Int), .ref ai])=H3 at *
       have ep3:H3 ai=some (.tup [.str p.1, .int p.2]):=S3 _ _ ep
       have rw3:Rd H3 wd (.dK kw):=Rd.same rw1 S3
       have iD3:IsD H3 wd:= .inl ⟨_,rw3⟩
       have dw:bK H3 wd (.str p.1) (some (.int u2)):=by
        have:dH kw (.inr p.1)=some (.int u2):=by rw[hkw,hu2];rfl
        rw[<-this];exact .inl ⟨kw, .inr p.1,rw3,rfl,rfl⟩
       walk_at "vs"
       refine yw (fun c1=> ?_) (fun c1=> ?_)
       ·walk_at "vs"
        intro b hb
        have s1:=aD (.tup [.str "read", .int (i:Int), .int p.2, .int u2]) hb
        exact q b (.rd i p.2 u2) _ ((S1.trans S3).trans s1) (.rd ao) ⟨egv,r',ps,v',p.1,erm,hrc,hj,hp,hu2,by simpa using c1⟩
       ·have c1':u2=p.2:=by
         by_cases z:u2=p.2
         ·exact z
         ·exact absurd (by simpa using z) c1
        walk_at "vs"
        refine⟨⟨_,_,rfl⟩,S3,fun j p' hj' hp'=> ?_⟩
        by_cases z:j=i
        ·rw[z,hp] at hp';cases hp';rw[hu2,c1']
        ·exact hj j p' (by omega) hp'
      ·intro σ H' hP
       obtain⟨⟨t,u,rfl⟩,S2,hj⟩:=hP
       walk_at "vs"
       intro b hb
       have s1:=aD (.tup [.str "alike"]) hb
       refine q b .alike _ ((S1.trans S2).trans s1) (.alike ao) ⟨egv,r',ps,v',erm,hrc,fun j p hp=>hj j p ?_ hp⟩
       have h1:j<ps.length:=(List.getElem?_eq_some_iff.mp hp).1
       have h2:=hRs.length
       rw[List.length_map];omega
     ·rw[Ub (fun z=>hrr z.symm)]
      walk_at "vs"
      intro b hb
      have s1:=aD (.tup [.str "recipe", .ref br, .ref br2]) hb
      exact q b (.rcp r' r) _ (S1.trans s1) (.rcp ao (R1'.same s1) (R2'.same s1) rk'.g rk2.g (by omega) (by omega)) ⟨egv,hrc,hrr,ps,v',erm⟩
abbrev di:Stmt:=top 21
theorem KZ:bH ["house","records","worths","name","paper"] ["house","records","worths","name","paper"] (aa di):=⟨rfl,rfl,rfl,by decide +kernel,rfl,by decide +kernel,by decide +kernel⟩
theorem jT:aG (aa di) "name":=by decide +kernel
theorem mU:aG (aa di) "house":=by decide +kernel
theorem qe:aG (aa di) "worths":=by decide +kernel
theorem yf:(aa di).names.lookup ("is_same":Str)=some NameKind.globalImplicit:=by decide +kernel
theorem Ab:aG (aa di) "paper":=by decide +kernel
theorem wL:(aa di).names.lookup ("paper_of":Str)=some NameKind.globalImplicit:=by decide +kernel
theorem yg:aG (aa di) "records":=by decide +kernel
theorem wM:(("paper_of":Str)==("__debug__":Str))=false:=by decide +kernel
theorem yh:(("is_same":Str)==("__debug__":Str))=false:=by decide +kernel
theorem K1 {f g0 g1:Addr}{fd gd0 gd1:FuncData} (fG:FnT K mg "paper_shows" di ["house","records","worths","name","paper"] f fd) (cM:FnT K mg "is_same" d9 ["told","thing"] g0 gd0) (qp:bf P w K mg base CX0 12 g0 gd0 ["told","thing"] (Gy K 10))
 (gP:FnT K mg "paper_of" cL ["house","records","worths","name"] g1 gd1) (Ds:bf P w K mg base CX0 13 g1 gd1 ["house","records","worths","name"] WY) (T:Blt mg):
 bf P w K mg base CX0 14 f fd ["house","records","worths","name","paper"] (aa7 K):=by
 refine fG.F.okQ KZ (fun vs H Q E h=> ?_) (fun cdv A outer s H vs Q E hr h=> ?_)
 ·obtain⟨h,g,c,rcd,wd,n,gv,rc,kr,kw,rm,rmN,kn,x,v,t,rfl,_⟩:=h
  rfl
 obtain⟨h,hg,hc,rcd,wd,n,gv,rc,kr,kw,rm,rmN,kn,x,v,t,rfl,ho,n17,er,rD,ew,hkw,sok,ht,q0,q⟩:=h
 refine⟨_,(az (cJ (yX (HS (lO (bO hr) (aj 3 jT) (aj 2 qe)) (Cd (yX (uP (lO (bO hr) (aj 3 jT) (aN aK (aj 0 mU) aB)) (qy (lO (bO hr) (aj 3 jT) (aN aK (aj 0 mU) aB)))))))) (aF (aW BK)) bF)
  (aF (aW (aJ (qp.mono (by omega)) hr yf cM.m cM.F.kp cM.b .nil aY (uQ (aJ (Ds.mono (by omega)) hr wL gP.m gP.F.kp gP.b .nil aY (aH (aj 0 mU) (aH (aj 1 yg) (aH (aj 2 qe) (aH (aj 3 jT) aA)))) wM) (aH (aj 4 Ab) aA)) yh)))), ?_⟩
 have dw:bK H wd (.str x) ((kn x).map V.int):=by rw[<-hkw];exact bK.k (k:= .inr x) ew
 cases ekn:kn x with
 | none=>
   rw[ekn] at dw
   have dw:bK H wd (.str x) none:=dw
   walk_at "vs"
   exact q0 ekn _ (aM.refl _)
 | some u=>
   rw[ekn] at dw
   have dw:bK H wd (.str x) (some (.int u)):=dw
   obtain⟨kg,kc,eh,eg,ec,bd⟩:=id ho
   have dg:bK H hg (.str x) ((gv x).map V.int):=by rw[<-bd.g];exact bK.k (k:= .inr x) eg
   have rw1:Rd H wd (.dK kw):= .inl ew
   have hne:kn x≠none:=by rw[ekn];simp
   cases egv:gv x with
   | some v=>
     rw[egv] at dg
     have dg:bK H hg (.str x) (some (.int v)):=dg
     walk_at "vs"
     intro b p H1 S1 hA hI
     have ta:nQ K H1 (.ref b) p.dz:=hA.JM
     have tb:=ht.same S1
     have dp:=hA.dpT
     walk_at "vs"
     intro H2 S2
     exact q p _ hne hI (S1.trans S2)
   | none=>
     rw[egv] at dg
     have dg:bK H hg (.str x) none:=dg
     obtain⟨r,hrc⟩:∃r,rc x=some r:=by
      rcases(sok.a x u ekn).2 with z | ⟨_,r,qs,z1,z2⟩
      ·rw[egv] at z;cases z
      ·exact⟨r,z1⟩
     obtain⟨br2,adt,R2⟩:=bd.r x r hrc
     have dc:bK H hc (.str x) (some (.ref br2)):=by rw[<-adt];exact bK.k (k:= .inr x) ec
     walk_at "vs"
     intro b p H1 S1 hA hI
     have ta:nQ K H1 (.ref b) p.dz:=hA.JM
     have tb:=ht.same S1
     have dp:=hA.dpT
     walk_at "vs"
     intro H2 S2
     exact q p _ hne hI (S1.trans S2)
abbrev cQ:Stmt:=top 20
theorem sS:bH ["house","records","wishes","worths","papers","name"] ["house","records","wishes"] (aa cQ):=⟨rfl,rfl,rfl,by decide +kernel,rfl,by decide +kernel,by decide +kernel⟩
theorem Bt:Loc (aa cQ) "worths":=by decide +kernel
theorem vA:(aa cQ).names.lookup ("build_again":Str)=some NameKind.globalImplicit:=by decide +kernel
theorem Bu:aG (aa cQ) "wishes":=by decide +kernel
theorem qZ:aG (aa cQ) "records":=by decide +kernel
theorem uc:aG (aa cQ) "house":=by decide +kernel
theorem vB:(("build_again":Str)==("__debug__":Str))=false:=by decide +kernel
theorem Bv:Loc (aa cQ) "papers":=by decide +kernel
theorem rR:aG (aa cQ) "worths":=by decide +kernel
theorem FQ:Loc (aa cQ) "name":=by decide +kernel
theorem rT:aG (aa cQ) "papers":=by decide +kernel
theorem uK:aG (aa cQ) "name":=by decide +kernel
theorem yM:(aa cQ).names.lookup ("paper_of":Str)=some NameKind.globalImplicit:=by decide +kernel
theorem yN:(("paper_of":Str)==("__debug__":Str))=false:=by decide +kernel
theorem Ob {f g0 g1:Addr}{fd gd0 gd1:FuncData} (ir:FnT K mg "papers_of" cQ ["house","records","wishes"] f fd) (dM:FnT K mg "build_again" cP ["house","records","wishes"] g0 gd0) (vC:bf P w K mg base CX0 17 g0 gd0 ["house","records","wishes"] NK)
 (gP:FnT K mg "paper_of" cL ["house","records","worths","name"] g1 gd1) (Ds:bf P w K mg base CX0 13 g1 gd1 ["house","records","worths","name"] WY) (T:Blt mg):bf P w K mg base CX0 18 f fd ["house","records","wishes"] aba:=by
 refine ir.F.okQ sS (fun vs H Q E h=> ?_) (fun cdv A outer s H vs Q E hr h=> ?_)
 ·obtain⟨h,g,c,rcd,wl,n,gv,rc,kr,rm,ws,rfl,_⟩:=h
  rfl
 obtain⟨h,hg,hc,rcd,wl,n,gv,rc,kr,rm,ws,rfl,ho,n17,er,rD,ewl,hws,q⟩:=h
 refine⟨_,(az (bB (i:=3) sS.nd rfl Bt (aN aK (aJ (vC.mono (by omega)) hr vA dM.m dM.F.kp dM.b .nil aY (aH (aj 0 uc) (aH (aj 1 qZ) (aH (aj 2 Bu) aA))) vB) aB))
  (az (bB (i:=4) sS.nd rfl Bv nU)
  (az (wZ PassesOwn.never rfl (Ek (aj 3 rR)) (fH (i:=5) sS.nd rfl FQ) (aF (gQ (bO hr) (aj 4 rT) (aj 5 uK) (aJ (Ds.mono (by omega)) hr yM gP.m gP.F.kp gP.b .nil aY (aH (aj 0 uc) (aH (aj 1 qZ) (aH (aj 3 rR) (aH (aj 5 uK) aA)))) yN))))
  (aF (aW (aj 4 rT)))))), ?_⟩
 obtain⟨kg,kc,eh,eg,ec,bd⟩:=id ho
 walk_at "vs"
 intro t kd sd lm lk kw ks wn sn kn rmN rkn o H1 s1 et hkd hsd hlm hlk nks nll ekd kkw hkw esd kks rDs elm elk bt
 have hkl:kw.length<=n:=by
  rw[kkw.len,<-jn n]
  refine iy kkw.nd fun x hx=> ?_
  have:=(zg kkw hkw x).mp hx
  cases z:kn x with
  | none=>exact absurd z this
  | some u=>exact(bt.ok.a x u z).1
 walk_at "vs"
 intro pd hpd
 have s2:=s1.trans (aD (.dK []) hpd)
 have epd:upd H1 pd (.dK []) pd=some (.dK []):=ao
 have agf:=same_none s1 hpd
 have anx:=(aD (.dK []) hpd) _ _ ekd
 have npk:pd≠kd:=fun z=>by rw[z,ekd] at hpd;cases hpd
 generalize upd H1 pd (.dK [])=H2 at *
 walk_at "vs"
 intro o2
 have s3:aM H (upd H2 kd (.frz o2 (.dK kw))):=cG _ hkd s2
 have Vl:upd H2 kd (.frz o2 (.dK kw)) kd=some (.frz o2 (.dK kw)):=ao
 have aj4:upd H2 kd (.frz o2 (.dK kw)) pd=some (.dK []):=(au npk).trans epd
 generalize upd H2 kd (.frz o2 (.dK kw))=H3 at *
 refine JW (fun i σ H'=>(∃t,σ=[some (.ref h),some (.ref rcd),some (.ref wl),some (.ref kd),some (.ref pd),t])/\aM H H'/\H' kd=some (.frz o2 (.dK kw))/\∃kp,H' pd=some (.dK kp)/\PpJ H' kp gv rc rm kn (wn.take i)) ?_ ?_ ?_ ?_
 ·exact⟨⟨none,rfl⟩,s3,Vl,[],aj4, .nil⟩
 ·intro i σ H' _ hP
  exact hP.2.2.1
 ·intro i k v σ H5 hkv hP
  obtain⟨⟨t,rfl⟩,s5,ek5,kp,ep5,pJ5⟩:=hP
  have hi:i<kw.length:=(List.getElem?_eq_some_iff.mp hkv).1
  obtain⟨x,rfl,hxi⟩:=kkw.at hkv
  have hx:kn x≠none:=(zg kkw hkw x).mp (List.mem_of_getElem? hxi)
  have rw5:Rd H5 kd (.dK kw):= .inr ⟨o2,ek5⟩
  have ho5:=ho.same s5
  have er5:=s5 _ _ er
  have rD5:=rD.map fun b q z=>z.same s5
  have sok:=bt.ok
  walk_at "vs"
  intro b p H6 s6 pA pI
  have ek6:=s6 _ _ ek5
  have ep6:=s6 _ _ ep5
  have hl6:kp.length<=n:=by
   have:=List.length_take_le i wn
   have h2:=kkw.len
   rw[pJ5.k.len];omega
  have dp:jF H6 pd (.str x) (.ref b) (upd H6 pd (.dK (putK kp (.inr x) (.ref b)))):=jF.k (k:= .inr x) ep6 (bR (by omega))
  walk_at "vs"
  have t7:=qz (o:= .dK (putK kp (.inr x) (.ref b))) ep6
  have hxn:x∉wn.take i:=fun z=>by
   obtain⟨j,hj⟩:=List.getElem?_of_mem z
   have hji:j<i:=by
    have:=(List.getElem?_eq_some_iff.mp hj).1
    have h2:=List.length_take_le i wn
    omega
   rw[List.getElem?_take_of_lt hji] at hj
   obtain⟨h1,e1⟩:=List.getElem?_eq_some_iff.mp hj
   obtain⟨h2,e2⟩:=List.getElem?_eq_some_iff.mp hxi
   have:=(List.getElem_inj kkw.nd).mp (e1.trans e2.symm)
   omega
  refine⟨⟨_,rfl⟩,cG _ agf (s5.trans s6),(au (Ne.symm npk)).trans ek6,_,ao, ?_⟩
  rw[show wn.take (i+1)=wn.take i++[x] by rw[List.take_add_one,hxi];rfl]
  exact((pJ5.same s6).tups t7).put hxn (pA.tups t7) pI
 ·intro σ H5 hP
  obtain⟨⟨t,rfl⟩,s5,ek5,kp,ep5,pJ5⟩:=hP
  rw[show wn.take kw.length=wn by rw[kkw.len];exact List.take_length] at pJ5
  walk_at "vs"
  exact q pd kp wn kn rmN rkn H5 s5 agf ep5 pJ5 (zg kkw hkw) bt
abbrev fc:Stmt:=top 22
theorem uL:bH ["papers","records","name","chain","paper"] ["papers","records","name"] (aa fc):=⟨rfl,rfl,rfl,by decide +kernel,rfl,by decide +kernel,by decide +kernel⟩
theorem FT:Loc (aa fc) "chain":=by decide +kernel
theorem oX:aG (aa fc) "papers":=by decide +kernel
theorem kE:aG (aa fc) "name":=by decide +kernel
theorem ud:(aa fc).names.lookup ("PAPERS_OF_MADE":Str)=some NameKind.globalImplicit:=by decide +kernel
theorem ue:(("PAPERS_OF_MADE":Str)==("__debug__":Str))=false:=by decide +kernel
theorem FW:Loc (aa fc) "paper":=by decide +kernel
theorem uM:aG (aa fc) "chain":=by decide +kernel
theorem pX:aG (aa fc) "paper":=by decide +kernel
theorem Hl:Loc (aa fc) "name":=by decide +kernel
theorem Bw:aG (aa fc) "records":=by decide +kernel
theorem QB {f aP:Addr}{fd:FuncData} (mV:FnT K mg "chain_of" fc ["papers","records","name"] f fd) (T:Blt mg) (mP:mg "PAPERS_OF_MADE"=some (.ref aP)) (hPM:∀H,SqT K H aP [.str "new", .str "recipe", .str "read"]):bf P w K mg base CX0 1 f fd ["papers","records","name"] aa4:=by
 refine mV.F.okQ uL (fun vs H Q E h=> ?_) (fun cdv A outer s H vs Q E hr h=> ?_)
 ·obtain⟨pd,rcd,kp,kr,pa,n,rm,x,ys,rfl,_⟩:=h
  rfl
 obtain⟨pd,rcd,kp,kr,pa,n,rm,x0,ys0,rfl,pD,rrd,rD,ch0,amU,q⟩:=h
 refine⟨_,(az (bB (i:=3) uL.nd rfl FT (eG aA))
  (az (Ec PassesOwn.never (yX (uP (uU (bO hr) (aj 2 kE) (aj 0 oX)) (qy (bT mq (aN aK (cY (bO hr) (aj 0 oX) (aj 2 kE)) aB) (YZ (v:= .ref aP) ud mP rfl ue) rfl)))) (az (bB (i:=4) uL.nd rfl FW (cY (bO hr) (aj 0 oX) (aj 2 kE)))
  (az (fY (uz PySem.F.plainAttrs_list PySem.F.slot_list_append PySem.F.type_list_append jb (aj 3 uM) (Lb (gC (aH (aj 2 kE) (aH (aj 4 pX) aA))) aA)))
  (az (cJ (bT rB (aN aK (aj 4 pX) aB) aZ (aO _)) (aF Wl) bF)
  (aF (bB (i:=2) uL.nd rfl Hl (aN aK (aN cR (aN aK (cY (bO hr) (aj 1 Bw) (aj 2 kE)) aB) (aN aK (aj 4 pX) aB)) aB)))))))
  (aF (aW (aj 3 uM))))), ?_⟩
 walk_at "vs"
 intro l hl
 have s1:=aD (.lst []) hl
 have el1:upd H l (.lst []) l=some (.lst (([]:List Addr).map V.ref)):=ao
 generalize upd H l (.lst [])=H1 at *
 refine⟨fun m σ H'=>∃x ys as done tp,σ=[some (.ref pd),some (.ref rcd),some (.str x),some (.ref l),tp]/\aM H H'/\H' l=some (.lst (as.map V.ref))/\vO H' pa as done/\Chain pa rm x ys/\done++ys=ys0/\m=ys.length,⟨_,x0,ys0,[],[],none,rfl,s1,el1, .nil,ch0,rfl,rfl⟩, ?_⟩
 rintro m σ H2 ⟨x,ys,as,done,tp,rfl,S2,el2,en2,ch,hdone,rfl⟩
 have pD2:=pD.same S2
 have rD2:=rD.map fun b q z=>z.same S2
 have XJ:=Rd.same rrd S2
 have hdl:done.length<=100:=by
  have:=congrArg List.length hdone
  rw[List.length_append] at this
  omega
 have hz:(as.map V.ref).length<sizeLine:=by rw[List.length_map,en2.length];exact bR (by omega)
 cases ch with
 | @g _ b hp=>
   have dg:=pD2.get hp
   cases(pD2.v _ _ _ hp).2 with
   | given e=>
     have S3:=S2
     have el3:=el2
     have en3:=en2
     have pD3:=pD2
     have ee3:=e
     have rD3:=rD2
     have R6:=XJ
     have ZL:=hPM H2
     walk_at "vs"
     rw[List.append_nil] at hdone
     subst hdone
     exact q l as H2 S3 hl el3 en3
 | @a _ b hp=>
   have dg:=pD2.get hp
   cases(pD2.v _ _ _ hp).2 with
   | alike e=>
     have S3:=S2
     have el3:=el2
     have en3:=en2
     have pD3:=pD2
     have ee3:=e
     have rD3:=rD2
     have R6:=XJ
     have ZL:=hPM H2
     walk_at "vs"
     rw[List.append_nil] at hdone
     subst hdone
     exact q l as H2 S3 hl el3 en3
 | @n _ b hp=>
   have dg:=pD2.get hp
   cases(pD2.v _ _ _ hp).2 with
   | new e=>
     have S3:=S2
     have el3:=el2
     have en3:=en2
     have pD3:=pD2
     have ee3:=e
     have rD3:=rD2
     have R6:=XJ
     have ZL:=hPM H2
     walk_at "vs"
     refine⟨fun _ _=>False,fun _ _ z=>z.elim, ?_⟩
     walk_at "vs"
     intro pt hpt
     have s4:=aD (.tup [.str x, .ref b]) hpt
     have ent:upd H2 pt (.tup [.str x, .ref b]) pt=some (.tup (Ld pa x)):=by
      unfold Ld;rw[hp];exact ao
     have el4:=s4 _ _ el3
     have en4:=vO.snoc ent (en3.tups (aM.tups s4))
     have S4:=S3.trans s4
     have pD4:=pD3.same s4
     have rD4:=rD3.map (H':=upd H2 pt (.tup [.str x, .ref b])) fun b q z=>z.same s4
     have agg:=Rd.same R6 s4
     generalize upd H2 pt (.tup [.str x, .ref b])=H4 at *
     have t5:jz H4 (upd H4 l (.lst (as.map V.ref++[.ref pt]))):=fun y xs z=>(au (fun w=>by rw[w,el4] at z;cases z)).trans z
     have S5:=cG (.lst (as.map V.ref++[.ref pt])) hl S4
     have el5:upd H4 l (.lst (as.map V.ref++[.ref pt])) l=some (.lst ((as++[pt]).map V.ref)):=by rw[ao,List.map_append];rfl
     have en5:=en4.tups t5
     have pD5:=pD.same S5
     have dg5:=pD5.get hp
     have ee5:upd H4 l (.lst (as.map V.ref++[.ref pt])) b=_:=t5 _ _ (s4 _ _ ee3)
     have rD5:=rD.map (H':=upd H4 l (.lst (as.map V.ref++[.ref pt]))) fun b q z=>z.same S5
     have adu:=Rd.same rrd S5
     walk_at "vs"
     subst hdone
     exact q l (as++[pt]) _ S5 hl el5 en5
 | @r _ b r0 s0 hp=>
   have dg:=pD2.get hp
   cases(pD2.v _ _ _ hp).2 with
   | @rcp _ _ pp qq e _ _ _ _ _ _=>
     have S3:=S2
     have el3:=el2
     have en3:=en2
     have pD3:=pD2
     have ee3:=e
     have rD3:=rD2
     have R6:=XJ
     have ZL:=hPM H2
     walk_at "vs"
     refine⟨fun _ _=>False,fun _ _ z=>z.elim, ?_⟩
     walk_at "vs"
     intro pt hpt
     have s4:=aD (.tup [.str x, .ref b]) hpt
     have ent:upd H2 pt (.tup [.str x, .ref b]) pt=some (.tup (Ld pa x)):=by
      unfold Ld;rw[hp];exact ao
     have el4:=s4 _ _ el3
     have en4:=vO.snoc ent (en3.tups (aM.tups s4))
     have S4:=S3.trans s4
     have pD4:=pD3.same s4
     have rD4:=rD3.map (H':=upd H2 pt (.tup [.str x, .ref b])) fun b q z=>z.same s4
     have agg:=Rd.same R6 s4
     generalize upd H2 pt (.tup [.str x, .ref b])=H4 at *
     have t5:jz H4 (upd H4 l (.lst (as.map V.ref++[.ref pt]))):=fun y xs z=>(au (fun w=>by rw[w,el4] at z;cases z)).trans z
     have S5:=cG (.lst (as.map V.ref++[.ref pt])) hl S4
     have el5:upd H4 l (.lst (as.map V.ref++[.ref pt])) l=some (.lst ((as++[pt]).map V.ref)):=by rw[ao,List.map_append];rfl
     have en5:=en4.tups t5
     have pD5:=pD.same S5
     have dg5:=pD5.get hp
     have ee5:upd H4 l (.lst (as.map V.ref++[.ref pt])) b=_:=t5 _ _ (s4 _ _ ee3)
     have rD5:=rD.map (H':=upd H4 l (.lst (as.map V.ref++[.ref pt]))) fun b q z=>z.same S5
     have adu:=Rd.same rrd S5
     walk_at "vs"
     subst hdone
     exact q l (as++[pt]) _ S5 hl el5 en5
 | @s _ y b k nn m0 n2 r ps v ys hp hr hps t=>
   have dg:=pD2.get hp
   cases(pD2.v _ _ _ hp).2 with
   | rd e=>
     have S3:=S2
     have el3:=el2
     have en3:=en2
     have pD3:=pD2
     have ee3:=e
     have rD3:=rD2
     have R6:=XJ
     have ZL:=hPM H2
     walk_at "vs"
     refine⟨fun σ' H'=>Wr (∃x ys' as done tp,σ'=[some (.ref pd),some (.ref rcd),some (.str x),some (.ref l),tp]/\aM H H'/\H' l=some (.lst (as.map V.ref))/\vO H' pa as done/\Chain pa rm x ys'/\done++ys'=ys0/\ys'.length<(x0::ys).length),fun σ' H' z=>by
      obtain⟨x,ys',as,done,tp,h1,h2,h3,h4,h5,h6,h7⟩:=z
      exact⟨_,h7,x,ys',as,done,tp,h1,h2,h3,h4,h5,h6,rfl⟩, ?_⟩
     walk_at "vs"
     intro pt hpt
     have s4:=aD (.tup [.str x, .ref b]) hpt
     have ent:upd H2 pt (.tup [.str x, .ref b]) pt=some (.tup (Ld pa x)):=by
      unfold Ld;rw[hp];exact ao
     have el4:=s4 _ _ el3
     have en4:=vO.snoc ent (en3.tups (aM.tups s4))
     have S4:=S3.trans s4
     have pD4:=pD3.same s4
     have rD4:=rD3.map (H':=upd H2 pt (.tup [.str x, .ref b])) fun b q z=>z.same s4
     have agg:=Rd.same R6 s4
     generalize upd H2 pt (.tup [.str x, .ref b])=H4 at *
     have t5:jz H4 (upd H4 l (.lst (as.map V.ref++[.ref pt]))):=fun y xs z=>(au (fun w=>by rw[w,el4] at z;cases z)).trans z
     have S5:=cG (.lst (as.map V.ref++[.ref pt])) hl S4
     have el5:upd H4 l (.lst (as.map V.ref++[.ref pt])) l=some (.lst ((as++[pt]).map V.ref)):=by rw[ao,List.map_append];rfl
     have en5:=en4.tups t5
     have pD5:=pD.same S5
     have dg5:=pD5.get hp
     have ee5:upd H4 l (.lst (as.map V.ref++[.ref pt])) b=_:=t5 _ _ (s4 _ _ ee3)
     have rD5:=rD.map (H':=upd H4 l (.lst (as.map V.ref++[.ref pt]))) fun b q z=>z.same S5
     have adu:=Rd.same rrd S5
     obtain⟨bb,hbb,br,ll,as2,e1,R1,ell,hRs,_⟩:=rD5.v _ _ hr
     have dr:bK (upd H4 l (.lst (as.map V.ref++[.ref pt]))) rcd (.str x) (some (.ref bb)):=by
      rw[<-hbb];exact .inl ⟨kr, .inr x,adu,rfl,rfl⟩
     have hk:k<as2.length:=by
      have:=hRs.length
      have h2:=(List.getElem?_eq_some_iff.mp hps).1
      have this:as2.length=ps.length:=this
      omega
     have hae:as2[k]? =some (as2[k]):=List.getElem?_eq_getElem hk
     obtain⟨p',hp',ep'⟩:=hRs.get k _ hae
     have hp':ps[k]? =some p':=hp'
     rw[hps] at hp'
     cases hp'
     have hat:atI (as2.map V.ref) (k:Int)=some (.ref (as2[k])):=iT (by rw[List.getElem?_map,hae];rfl)
     have ep':upd H4 l (.lst (as.map V.ref++[.ref pt])) as2[k]=some (.tup [.str y, .int n2]):=ep'
     generalize as2[k]=ak at *
     walk_at "vs"
     exact⟨y,ys,as++[pt],done++[x],_,rfl,S5,el5,en5,t,by rw[List.append_assoc];exact hdone,by simp⟩
abbrev cX:Stmt:=top 39
theorem o6:bH ["paper","record","worths","word","k","number","now","reads"] ["paper","record","worths"] (aa cX):=⟨rfl,rfl,rfl,by decide +kernel,rfl,by decide +kernel,by decide +kernel⟩
theorem FZ:aG (aa cX) "paper":=by decide +kernel
theorem Ja:Loc (aa cX) "now":=by decide +kernel
theorem Dt:Loc (aa cX) "number":=by decide +kernel
theorem Lw:Loc (aa cX) "k":=by decide +kernel
theorem Ho:Loc (aa cX) "word":=by decide +kernel
theorem Ga:Loc (aa cX) "reads":=by decide +kernel
theorem Du:aG (aa cX) "record":=by decide +kernel
theorem yu:aG (aa cX) "now":=by decide +kernel
theorem uf:aG (aa cX) "number":=by decide +kernel
theorem Dv:aG (aa cX) "worths":=by decide +kernel
theorem pY:aG (aa cX) "reads":=by decide +kernel
theorem vD:aG (aa cX) "k":=by decide +kernel
theorem QC {f:Addr}{fd:FuncData} (mW:FnT K mg "_law_fits" cX ["paper","record","worths"] f fd) (T:Blt mg):bf P w K mg base CX0 1 f fd ["paper","record","worths"] Xo:=by
 refine mW.F.okQ o6 (fun vs H Q E h=> ?_) (fun cdv A outer s H vs Q E hr h=> ?_)
 ·obtain⟨b,rb,wd,k,u,m,r,ps,v,y,kw,kn,rfl,_⟩:=h
  rfl
 obtain⟨b,rb,wd,k,u,m,r,ps,v,y,kw,kn,rfl,pA,ra,ew,hkw,hj,hk,hm,hne,hpl,q⟩:=h
 refine⟨_,(az (JG (aj 0 FZ) (JF rfl (fu (fH (i:=3) o6.nd rfl Ho) (fu (fH (i:=4) o6.nd rfl Lw) (fu (fH (i:=5) o6.nd rfl Dt) (fu (fH (i:=6) o6.nd rfl Ja) uA))))))
  (az (bB (i:=7) o6.nd rfl Ga (aN aK (aj 1 Du) aB))
  (az (cJ (yX (HS (bT rB (aN aK (aN cR (aj 7 pY) (aj 4 vD)) aB) (aj 5 uf) (aO _)) (HS (bT rB (cY (bO hr) (aj 2 Dv) (aN aK (aN cR (aj 7 pY) (aj 4 vD)) aB)) (aj 6 yu) (aO _)) (Cd (bT dR (aj 6 yu) (aj 5 uf) (aO _)))))) (aF (aW BK)) bF)
  (aF (aW (lU (Gu hr.units) (wY rfl (n:=2) (fr:=[2]) (N:=["read","worth","worths"]) (HR (scX:=aa cX) (NX:=["paper","record","worths","word","k","number","now","reads"]) rfl rfl (by decide +kernel)) (Eb (Ea Ef (aj 7 pY) Jh (Ji (aj 4 vD)))) (fun _ _ _ _ _=>(Tv (K:=K) (n:=2) rfl rfl (fu (qgx (i:=0) (show List.Nodup (α:=Str) ["read","worth","worths"] by decide) (K9 (by decide +kernel))) (fu (qgx (i:=1) (show List.Nodup (α:=Str) ["read","worth","worths"] by decide) (K9 (by decide +kernel))) uA)))) (fun _ _ _ _ _=>(JD (bT rB (cY (bO hr) (aj 2 (o9.ok (by decide +kernel))) (aj 0 (o9.ok (by decide +kernel)))) (aj 1 (o9.ok (by decide +kernel))) (aO _)))) (fun _ _ _ _ _=>(aj 0 (o9.ok (by decide +kernel))))) (eG aA) (aO _))))))), ?_⟩
 obtain⟨br,l,as,eb,hR,el,hRs,_⟩:=ra
 obtain⟨ak,hak,eak⟩:=Xj hRs hk
 have hatk:atI (as.map V.ref) (k:Int)=some (.ref ak):=iT (by rw[List.getElem?_map,hak];rfl)
 have dy:bK H wd (.str y) (some (.int m)):=by
  have:dH kw (.inr y)=some (.int m):=by rw[hkw,hm];rfl
  rw[<-this];exact bK.k (k:= .inr y) ew
 have hdec:decide (V.int m=V.int u)=false:=decide_eq_false fun z=>hne (by cases z;rfl)
 cases pA with
 | rd e=>
   walk_at "vs"
   rw[show(!decide (V.int u=V.int u))=false by simp]
   walk_at "vs"
   rw[show(!decide (V.int m=V.int m))=false by simp]
   walk_at "vs"
   rw[hdec]
   walk_at "vs"
   intro ls hls
   rw[acW,<-List.map_take]
   have s1:=aD (.lst ((as.take k).map V.ref)) hls
   have els:upd H ls (.lst ((as.take k).map V.ref)) ls=some (.lst ((as.take k).map V.ref)):=ao
   generalize upd H ls (.lst ((as.take k).map V.ref))=H1 at *
   walk_at "vs"
   intro D hD
   refine Mq (xs:=(as.take k).map V.ref) (fun i σ' H'=>(∃a b,σ'=[a,b,some (.ref wd)])/\H' D=some (.lst [])/\aM H1 H') ?_ ?_ ?_ ?_
   ·exact⟨⟨none,none,rfl⟩,ao,aD _ hD⟩
   ·intro i σ' H' _ hP
    exact SqL.of (hP.2.2 _ _ els)
   ·intro i v σ' H2 hv hP
    obtain⟨⟨a1,a2,rfl⟩,eD,S2⟩:=hP
    obtain⟨ai,hae,ey⟩:=RD hv
    subst ey
    have hik:i<k:=by
     have:=(List.getElem?_eq_some_iff.mp hae).1
     have h2:=List.length_take_le k as
     omega
    rw[List.getElem?_take_of_lt hik] at hae
    obtain⟨pp,hp,ep⟩:=hRs.get i _ hae
    have ep2:H2 ai=some (.tup [.str pp.1, .int pp.2]):=(s1.trans S2) _ _ ep
    have dw:bK H2 wd (.str pp.1) (some (.int pp.2)):=by
     have:dH kw (.inr pp.1)=some (.int pp.2):=by rw[hkw,hj i pp hik hp];rfl
     rw[<-this];exact bK.k (k:= .inr pp.1) ((s1.trans S2) _ _ ew)
    walk_at "vs"
    rw[show(!decide (V.int pp.2=V.int pp.2))=false by simp]
    walk_at "vs"
    exact⟨⟨_,_,rfl⟩,eD,S2⟩
   ·intro σ' H2 hP
    obtain⟨_,eD,S2⟩:=hP
    walk_at "vs"
    intro ll hll
    have s3:=aD (.lst []) hll
    exact⟨D,ll,[],rfl,rfl,SqL.of (s3 _ _ eD),SqL.of ao,q _ (s1.trans (S2.trans s3))⟩
abbrev gA:Stmt:=top 40
theorem Ac:bH ["chain","papers","records","name","paper"] ["chain","papers","records"] (aa gA):=⟨rfl,rfl,rfl,by decide +kernel,rfl,by decide +kernel,by decide +kernel⟩
theorem Gb:aG (aa gA) "chain":=by decide +kernel
theorem Gd:Loc (aa gA) "paper":=by decide +kernel
theorem Hq:Loc (aa gA) "name":=by decide +kernel
theorem pZ:aG (aa gA) "paper":=by decide +kernel
theorem Dw:aG (aa gA) "papers":=by decide +kernel
theorem Bx:aG (aa gA) "records":=by decide +kernel
theorem Hr:aG (aa gA) "name":=by decide +kernel
theorem QD {f:Addr}{fd:FuncData} (mX:FnT K mg "_law_ends" gA ["chain","papers","records"] f fd) (T:Blt mg):bf P w K mg base CX0 1 f fd ["chain","papers","records"] Xp:=by
 refine mX.F.okQ Ac (fun vs H Q E h=> ?_) (fun cdv A outer s H vs Q E hr h=> ?_)
 ·obtain⟨cl,pd,rcd,as,ys,kp,kr,pa,n,rm,l,rfl,_⟩:=h
  rfl
 obtain⟨cl,pd,rcd,as,ys,kp,kr,pa,n,rm,l,rfl,ec,en,pD,er,rD,hl,he,q⟩:=h
 refine⟨_,(az (JG (aN cR (aj 0 Gb) (Mr Al aB)) (JF rfl (fu (fH (i:=3) Ac.nd rfl Hq) (fu (fH (i:=4) Ac.nd rfl Gd) uA))))
  (az (cJ (bT rB (aN aK (aj 4 pZ) aB) aZ (aO _)) (aF (aW (lU mq (aN aK (aj 4 pZ) aB) (eG (dZ aZ (dZ aZ aA))) rfl))) bF)
  (aF (aW (lU mq (aN aK (cY (bO hr) (aj 1 Dw) (aN aK (aN cR (aN aK (cY (bO hr) (aj 2 Bx) (aj 3 Hr)) aB) (aN aK (aj 4 pZ) aB)) aB)) aB) (eG (dZ aZ (dZ aZ aA))) rfl))))), ?_⟩
 have hll:ys[ys.length - 1]? =some l:=by rw[<-List.getLast?_eq_getElem?];exact hl
 obtain⟨al,hal,eal⟩:=en.get _ _ hll
 have hatl:atI (as.map V.ref) (-1)=some (.ref al):=by
  have h1:1<=(as.map V.ref).length:=by
   have:=(List.getElem?_eq_some_iff.mp hal).1
   rw[List.length_map];omega
  rw[acX h1,List.getElem?_map,List.length_map,en.length,hal];rfl
 unfold Ld at eal
 rcases he with⟨b,hp⟩ | ⟨b,r,s,hp⟩ | ⟨b,k,u,m,r,ps,v,y,nn,b',qq,hp,hr',hk,hy,hq⟩
 ·rw[hp] at eal
  have agh:H al=some (.tup [.str l, .ref b]):=eal
  cases(pD.v _ _ _ hp).2 with
  | new e=>
    walk_at "vs"
    intro lz hlz
    have s1:=aD (.lst [.str "new", .str "recipe"]) hlz
    exact⟨lz,_,rfl, .inl (SqL.of ao),rfl,rfl,q _ s1⟩
 ·rw[hp] at eal
  have agh:H al=some (.tup [.str l, .ref b]):=eal
  cases(pD.v _ _ _ hp).2 with
  | rcp e _ _ _ _ _ _=>
    walk_at "vs"
    intro lz hlz
    have s1:=aD (.lst [.str "new", .str "recipe"]) hlz
    exact⟨lz,_,rfl, .inl (SqL.of ao),rfl,rfl,q _ s1⟩
 ·rw[hp] at eal
  have agh:H al=some (.tup [.str l, .ref b]):=eal
  obtain⟨rb,hrb,br,l2,as2,eb,hR,el2,hRs,_⟩:=rD.v l _ hr'
  obtain⟨ak,hak,eak⟩:=Xj hRs hk
  have hatk:atI (as2.map V.ref) (k:Int)=some (.ref ak):=iT (by rw[List.getElem?_map,hak];rfl)
  have dl:bK H rcd (.str l) (some (.ref rb)):=by rw[<-hrb];exact bK.k (k:= .inr l) er
  have dy:=pD.get hy
  obtain⟨vs,ey⟩:=(pD.v _ _ _ hy).2.wd
  have haty:atI (V.str qq.word::vs) 0=some (.str qq.word):=iT (j:=0) rfl
  cases(pD.v _ _ _ hp).2 with
  | rd e=>
    walk_at "vs"
    intro lz hlz
    have s1:=aD (.lst [.str "given", .str "alike"]) hlz
    refine⟨lz,_,rfl, .inl (SqL.of ao),rfl,rfl, ?_⟩
    have:inV (.str qq.word) [.str "given", .str "alike"]=true:=by
     rcases hq with z | z<;>subst z<;>decide +kernel
    rw[this]
    exact q _ s1
end
section
variable {P:Program}{w:World}{K:PySem.W.Frag}{mg:Str->Option Value}{base:Heap}
theorem orB {c c' d:Bool}{F:VK}{H:Hp}{tb:TE}{σ:L2.St} (ec:c=c') (hs:∀G:VK,G (.bl d) H->tb σ H G) (hc:F (.bl (c'||d)) H):if c=true then F (.bl true) H else tb σ H F:=by
 subst ec
 cases c with
 | true=>rw[if_pos rfl];exact hc
 | false=>rw[if_neg (by decide)];exact hs _ hc
abbrev dO:Stmt:=top 41
theorem nJ:bH ["script","house","records","wishes","worths","told","made","kept","papers","name","paper","kind","other","chain","anew","again"] ["script"] (aa dO):=⟨rfl,rfl,rfl,by decide +kernel,rfl,by decide +kernel,by decide +kernel⟩
theorem Hs:(aa dO).names.lookup ("_law_case":Str)=some NameKind.globalImplicit:=by decide +kernel
theorem Lx:aG (aa dO) "script":=by decide +kernel
theorem Ht:(("_law_case":Str)==("__debug__":Str))=false:=by decide +kernel
theorem Ly:Loc (aa dO) "wishes":=by decide +kernel
theorem K3:Loc (aa dO) "records":=by decide +kernel
theorem Oc:Loc (aa dO) "house":=by decide +kernel
theorem Dy:(aa dO).names.lookup ("build_again":Str)=some NameKind.globalImplicit:=by decide +kernel
theorem vG:aG (aa dO) "wishes":=by decide +kernel
theorem jm:aG (aa dO) "records":=by decide +kernel
theorem p6:aG (aa dO) "house":=by decide +kernel
theorem Dz:(("build_again":Str)==("__debug__":Str))=false:=by decide +kernel
theorem QF:Loc (aa dO) "kept":=by decide +kernel
theorem QH:Loc (aa dO) "made":=by decide +kernel
theorem QJ:Loc (aa dO) "told":=by decide +kernel
theorem Lz:Loc (aa dO) "worths":=by decide +kernel
theorem LC:Loc (aa dO) "papers":=by decide +kernel
theorem wN:(aa dO).names.lookup ("papers_of":Str)=some NameKind.globalImplicit:=by decide +kernel
theorem wO:(("papers_of":Str)==("__debug__":Str))=false:=by decide +kernel
theorem qD:(aa dO).names.lookup ("sorted":Str)=some NameKind.globalImplicit:=by decide +kernel
theorem lQ:aG (aa dO) "papers":=by decide +kernel
theorem qF:("sorted":Str)≠"__name__":=by decide +kernel
theorem qG:(("sorted":Str)==("__debug__":Str))=false:=by decide +kernel
theorem qH:aG (aa dO) "worths":=by decide +kernel
theorem QK:Loc (aa dO) "name":=by decide +kernel
theorem Od:Loc (aa dO) "paper":=by decide +kernel
theorem kY:aG (aa dO) "name":=by decide +kernel
theorem QL:Loc (aa dO) "kind":=by decide +kernel
theorem DG:(aa dO).names.lookup ("int":Str)=some NameKind.globalImplicit:=by decide +kernel
theorem Ij:aG (aa dO) "made":=by decide +kernel
theorem DK:("int":Str)≠"__name__":=by decide +kernel
theorem DN:(("int":Str)==("__debug__":Str))=false:=by decide +kernel
theorem QM:aG (aa dO) "kept":=by decide +kernel
theorem nj:aG (aa dO) "paper":=by decide +kernel
theorem Ad:aG (aa dO) "kind":=by decide +kernel
theorem ug:(aa dO).names.lookup ("paper_shows":Str)=some NameKind.globalImplicit:=by decide +kernel
theorem uh:(("paper_shows":Str)==("__debug__":Str))=false:=by decide +kernel
theorem Oe:Loc (aa dO) "other":=by decide +kernel
theorem Ge:aG (aa dO) "other":=by decide +kernel
theorem Hu:(aa dO).names.lookup ("_law_fits":Str)=some NameKind.globalImplicit:=by decide +kernel
theorem Hv:(("_law_fits":Str)==("__debug__":Str))=false:=by decide +kernel
theorem Og:Loc (aa dO) "chain":=by decide +kernel
theorem Jb:(aa dO).names.lookup ("chain_of":Str)=some NameKind.globalImplicit:=by decide +kernel
theorem Jc:(("chain_of":Str)==("__debug__":Str))=false:=by decide +kernel
theorem Hw:(aa dO).names.lookup ("_law_ends":Str)=some NameKind.globalImplicit:=by decide +kernel
theorem Gf:aG (aa dO) "chain":=by decide +kernel
theorem Hx:(("_law_ends":Str)==("__debug__":Str))=false:=by decide +kernel
theorem QV:Loc (aa dO) "anew":=by decide +kernel
theorem QX:aG (aa dO) "told":=by decide +kernel
theorem Oh:Loc (aa dO) "again":=by decide +kernel
theorem Ik:aG (aa dO) "anew":=by decide +kernel
theorem Oi:aG (aa dO) "again":=by decide +kernel
theorem adv {f g1 g2 g3 g4 g5 g6 g7:Addr}{fd gd1 gd2 gd3 gd4 gd5 gd6 gd7:FuncData} (XM:FnT K mg "law" dO ["script"] f fd)
 (mR:FnT K mg "_law_case" bz ["script"] g1 gd1) (R7:bf P w K mg base CX0 139 g1 gd1 ["script"] (aa2 K))
 (dM:FnT K mg "build_again" cP ["house","records","wishes"] g2 gd2) (vC:bf P w K mg base CX0 17 g2 gd2 ["house","records","wishes"] NK)
 (ir:FnT K mg "papers_of" cQ ["house","records","wishes"] g3 gd3) (Il:bf P w K mg base CX0 18 g3 gd3 ["house","records","wishes"] aba)
 (fG:FnT K mg "paper_shows" di ["house","records","worths","name","paper"] g4 gd4) (BZ:bf P w K mg base CX0 14 g4 gd4 ["house","records","worths","name","paper"] (aa7 K))
 (mW:FnT K mg "_law_fits" cX ["paper","record","worths"] g5 gd5) (R8:bf P w K mg base CX0 1 g5 gd5 ["paper","record","worths"] Xo)
 (mV:FnT K mg "chain_of" fc ["papers","records","name"] g6 gd6) (R9:bf P w K mg base CX0 1 g6 gd6 ["papers","records","name"] aa4)
 (mX:FnT K mg "_law_ends" gA ["chain","papers","records"] g7 gd7) (Sd:bf P w K mg base CX0 1 g7 gd7 ["chain","papers","records"] Xp)
 (T:Blt mg):bf P w K mg base CX0 140 f fd ["script"] (Tt K):=by
 refine XM.F.okQ nJ (fun vs H Q E h=> ?_) (fun cdv A outer s H vs Q E hr h=> ?_)
 ·obtain⟨a,ns,rfl,_⟩:=h
  rfl
 obtain⟨a,zs,rfl,hS,h63,q⟩:=h
 refine⟨_,(az (JG (aJ (R7.mono (by omega)) hr Hs mR.m mR.F.kp mR.b .nil aY (aH (aj 0 Lx) aA) Ht) (Wt rfl (fu (fH (i:=1) nJ.nd rfl Oc) (fu (fH (i:=2) nJ.nd rfl K3) (fu (fH (i:=3) nJ.nd rfl Ly) uA)))))
  (az (JG (Zy rfl (aJ (vC.mono (by omega)) hr Dy dM.m dM.F.kp dM.b .nil aY (aH (aj 1 p6) (aH (aj 2 jm) (aH (aj 3 vG) aA))) Dz)) (JF rfl (fu (fH (i:=4) nJ.nd rfl Lz) (fu (fH (i:=5) nJ.nd rfl QJ) (fu (fH (i:=6) nJ.nd rfl QH) (fu (fH (i:=7) nJ.nd rfl QF) uA))))))
  (az (bB (i:=8) nJ.nd rfl LC (aJ (Il.mono (by omega)) hr wN ir.m ir.F.kp ir.b .nil aY (aH (aj 1 p6) (aH (aj 2 jm) (aH (aj 3 vG) aA))) wO))
  (az (cJ (bT (Rz hr.units) (dm (xq rfl) qD T.yZ vK (aH (aj 8 lQ) aA) qF qG) (dm (xq rfl) qD T.yZ vK (aH (aj 4 qH) aA) qF qG) (aO _)) (aF (aW BK)) bF)
  (az (wZ PassesOwn.never rfl (Ek (aj 8 lQ)) (fH (i:=9) nJ.nd rfl QK) (az (bB (i:=10) nJ.nd rfl Od (cY (bO hr) (aj 8 lQ) (aj 9 kY)))
  (az (bB (i:=11) nJ.nd rfl QL (aN cR (eG (dZ aZ (jc (aN cR (eG (dZ aZ (dZ aZ aA))) (jD Eg DG T.Ms Gn (Y9 (lU mq (aj 9 kY) (aj 6 Ij) rfl) aA) DK DN)) aA))) (jD Eg DG T.Ms Gn (ajo (afz (lU mq (aj 9 kY) (aj 6 Ij) rfl) (JB (lU mq (aj 9 kY) (aj 7 QM) rfl))) aA) DK DN)))
  (az (cJ (bT rB (aN cR (eG (jc (aN aK (aj 10 nj) aB) (dZ aZ aA))) (jD Eg DG T.Ms Gn (Y9 (lU mq (aN aK (aj 10 nj) aB) (eG (dZ aZ (dZ aZ (dZ aZ aA)))) rfl) aA) DK DN)) (aj 11 Ad) (aO _)) (aF (aW BK)) bF)
  (az (cJ (Gp (sX (aJ (BZ.mono (by omega)) hr ug fG.m fG.F.kp fG.b .nil aY (aH (aj 1 p6) (aH (aj 2 jm) (aH (aj 4 qH) (aH (aj 9 kY) (aH (aj 10 nj) aA))))) uh))) (aF (aW BK)) bF)
  (az (wZ PassesOwn.never rfl (Eb (eG (Lb (gC (dZ aZ aA)) (Lb (gC (dZ aZ aA)) (Lb (gC (dZ aZ aA)) aA))))) (fH (i:=12) nJ.nd rfl Oe) (aF (cJ (bT rB (aJ (BZ.mono (by omega)) hr ug fG.m fG.F.kp fG.b .nil aY (aH (aj 1 p6) (aH (aj 2 jm) (aH (aj 4 qH) (aH (aj 9 kY) (aH (aj 12 Ge) aA))))) uh) (lU (Tn hr.units) (aj 12 Ge) (aj 10 nj) (aO _)) (aO _)) (aF (aW BK)) bF)))
  (az (cJ (yX (uP (bT dR (aN aK (aj 10 nj) aB) aZ (aO _)) (qy (Gp (sX (aJ (R8.mono (by omega)) hr Hu mW.m mW.F.kp mW.b .nil aY (aH (aj 10 nj) (jc (cY (bO hr) (aj 2 jm) (aj 9 kY)) (aH (aj 4 qH) aA))) Hv)))))) (aF (aW BK)) bF)
  (az (bB (i:=13) nJ.nd rfl Og (aJ (R9.mono (by omega)) hr Jb mV.m mV.F.kp mV.b .nil aY (aH (aj 8 lQ) (aH (aj 2 jm) (aH (aj 9 kY) aA))) Jc))
  (aF (cJ (yX (HS (bT rB (lU (Gu hr.units) (aj 13 Gf) (eG aA) (aO _)) (lU rB (aj 11 Ad) aZ (aO _)) (aO _)) (Cd (yX (uP (bT dR (aj 11 Ad) aZ (aO _)) (qy (Gp (sX (aJ (Sd.mono (by omega)) hr Hw mX.m mX.F.kp mX.b .nil aY (aH (aj 13 Gf) (aH (aj 8 lQ) (aH (aj 2 jm) aA))) Hx))))))))) (aF (aW BK)) bF))))))))))
  (az (bB (i:=14) nJ.nd rfl QV (aJ (Il.mono (by omega)) hr wN ir.m ir.F.kp ir.b .nil aY (aH (aj 1 p6) (aH (aj 5 QX) (aH (aj 3 vG) aA))) wO))
  (az (Rr (i:=15) rfl nJ.nd rfl Oh (n:=1) (fr:=[14]) (N:=["name","anew"]) (HR (scX:=aa dO) (NX:=["script","house","records","wishes","worths","told","made","kept","papers","name","paper","kind","other","chain","anew","again"]) rfl rfl (by decide +kernel)) (Ek (aj 14 Ik)) (fun _ _ _ _ _=>(qgx (i:=0) (show List.Nodup (α:=Str) ["name","anew"] by decide) (K9 (by decide +kernel)))) (fun _ _ _ _ _=>(JD (bT (JK (K:=K) rfl) (aN (JH (K:=K) rfl) (cY (bO hr) (aj 1 (o9.ok (by decide +kernel))) (aj 0 (o9.ok (by decide +kernel)))) aB) (eG (dZ aZ (dZ aZ aA))) rfl))) (fun _ _ _ _ _=>(aj 0 (o9.ok (by decide +kernel)))) rfl)
  (aF (aW (JC (lU (Gu hr.units) (aj 15 Oi) (eG aA) (aO _)) (JB (lU (Ry hr.units) (dm (xq rfl) qD T.yZ vK (aH (aj 14 Ik) aA) qF qG) (dm (xq rfl) qD T.yZ vK (aH (aj 8 lQ) aA) qF qG) (aO _))))))))))))), ?_⟩
 walk_at "vs"
 intro t h hg hc rcd wl n gv rc kr rm ws H1 S1 et ho1 n17 er1 rD1 ewl hws
 walk_at "vs"
 intro t2 kd sd lm lk kw ks wn sn kn rmN rkn o H2 s2 et2 hkd hsd hlm hlk nks nll ekd kkw hkw esd kks rDs elm elk bt
 refine⟨sd,o, .dK ks,esd,same_none S1 hsd, ?_⟩
 have s3:aM H1 (upd H2 sd (.dK ks)):=cG _ hsd s2
 have agi:upd H2 sd (.dK ks) sd=some (.dK ks):=ao
 have agj:pF (upd H2 sd (.dK ks)) ks n rmN:=rDs.map fun b q z=>z.thaw esd
 have et3:upd H2 sd (.dK ks) t2=some (.tup [.ref kd, .ref sd, .ref lm, .ref lk]):=Qk esd _ _ et2
 have Vl:upd H2 sd (.dK ks) kd=some (.dK kw):=(au nks).trans ekd
 have agk:upd H2 sd (.dK ks) lm=some (.lst ((sn.filter rkn).map V.str)):=(au (fun z=>by rw[z,esd] at elm;cases elm)).trans elm
 have agl:upd H2 sd (.dK ks) lk=some (.lst ((sn.filter fun x=> !rkn x).map V.str)):=(au (fun z=>by rw[z,esd] at elk;cases elk)).trans elk
 generalize upd H2 sd (.dK ks)=H3 at *
 have ho3:=ho1.same s3
 have er3:=s3 _ _ er1
 have rD3:=rD1.map fun b q z=>z.same s3
 have ade:=s3 _ _ ewl
 have hknn:∀x,kn x≠none->x∈nmK n:=fun x hx=>by
  cases z:kn x with
  | none=>exact absurd z hx
  | some u=>exact(bt.ok.a x u z).1
 have hkl:kw.length<=n:=by
  rw[kkw.len,<-jn n]
  exact iy kkw.nd fun x hx=>hknn x ((zg kkw hkw x).mp hx)
 clear s2 esd ekd elm elk rDs
 walk_at "vs"
 intro pd kp ksP knP rmP rkP H4 s4 hpd epd pJ hks btP
 obtain⟨kg,kc,eh1,eg1,ec1,bd⟩:=id ho1
 have ekn:kn=knP:=Xh (by omega) bd.ok.rk bt.ok btP.ok bt.w btP.w bt.r btP.r
 subst ekn
 have hmem:∀x,x∈ksP ↔ x∈wn:=fun x=>(hks x).trans (zg kkw hkw x).symm
 have hpl:kp.length<=n:=by
  rw[pJ.k.len,<-jn n]
  exact iy pJ.k.nd fun x hx=>hknn x ((hks x).mp hx)
 have rp4:Rd H4 pd (.dK kp):= .inl epd
 have anz:kp.length<64:=by omega
 have hpk:=pJ.k.k
 have anA:kw.length<64:=by omega
 have hwk:=kkw.k
 walk_at "vs"
 intro l5 us5 hl5 hp5 hs5
 have s5:=aD (.lst (us5.map V.str)) hl5
 have e5:upd H4 l5 (.lst (us5.map V.str)) l5=some (.lst (us5.map V.str)):=ao
 generalize upd H4 l5 (.lst (us5.map V.str))=H5 at *
 have rw5:Rd H5 kd (.dK kw):= .inl ((s4.trans s5) _ _ Vl)
 walk_at "vs"
 intro l6 us6 hl6 hp6 hs6
 have s6:=aD (.lst (us6.map V.str)) hl6
 have e6:upd H5 l6 (.lst (us6.map V.str)) l6=some (.lst (us6.map V.str)):=ao
 have e56:=s6 _ _ e5
 generalize upd H5 l6 (.lst (us6.map V.str))=H6 at *
 have eus:us5=us6:=Kh hp5 hs5 hp6 hs6 pJ.k.nd kkw.nd hmem
 subst eus
 have hug:∀x∈us5,lK x:=fun x hx=>vM (by omega) x (hknn x ((hks x).mp (hp5.mem_iff.mp hx)))
 refine⟨_, .lst (SqL.of e56) (mj us5), .lst (SqL.of e6) (mj us5),xg hug, ?_⟩
 have S6:=s4.trans (s5.trans s6)
 have agm:=s6 _ _ (s5 _ _ epd)
 have pJ6:=pJ.same (s5.trans s6)
 have npk:kd≠pd:=fun z=>by rw[<-z,Vl] at hpd;cases hpd
 walk_at "vs"
 intro o7
 have S7:aM H3 (upd H6 pd (.frz o7 (.dK kp))):=cG _ hpd S6
 have XN:upd H6 pd (.frz o7 (.dK kp)) pd=some (.frz o7 (.dK kp)):=ao
 have pJ7:PpJ (upd H6 pd (.frz o7 (.dK kp))) kp gv rc rm kn ksP:=pJ6.tups (qz agm)
 generalize upd H6 pd (.frz o7 (.dK kp))=H7 at *
 obtain⟨pa,pa1,pa2⟩:=pJ7.pm
 have hpa:∀x b p,pa x=some (b,p)->rK gv rc rm kn x p:=fun x b p e=>(pa2 x b p e).2.2.2
 have hpok:∀x,kn x≠none->∃b p,pa x=some (b,p)/\aa3 rm kn x p:=fun x hx=>by
  obtain⟨b,p,e⟩:=pa1 x ((hks x).mpr hx)
  refine⟨b,p,e, ?_⟩
  have:=hpa x b p e
  cases p with
  | rd k u m=>
    obtain⟨_,r,ps,v,y,h1,_,_,h4,h5,_⟩:=this
    exact⟨r,ps,v,y,u,m,h1,h4,h5⟩
  | _=>trivial
 have ho7:=ho3.same S7
 have er7:=S7 _ _ er3
 have rD7:=rD3.map fun b q z=>z.same S7
 have ZM:=agj.map fun b q z=>z.same S7
 have adw:=S7 _ _ Vl
 have aj5:=S7 _ _ agi
 have agn:=S7 _ _ agk
 have ago:=S7 _ _ agl
 have aj6:=S7 _ _ ade
 have hf1:=MN (sn.filter rkn)
 have hf2:=MN (sn.filter fun x=> !rkn x)
 clear s4 s5 s6 S6 e5 e56 e6 epd agm pJ pJ6 rp4 rw5 hl5 hl6 ho3 er3 rD3 Vl agi agk agl ade agj ho1 er1 rD1 ewl
 refine JW (fun i σ H'=>(∃t1 t2 t3 t4 t5,σ=[some (.ref a),some (.ref h),some (.ref rcd),some (.ref wl),some (.ref kd),some (.ref sd),some (.ref lm),some (.ref lk),some (.ref pd),t1,t2,t3,t4,t5,none,none])/\aM H7 H') ?_ ?_ ?_ ?_
 ·exact⟨⟨_,_,_,_,_,rfl⟩,aM.refl _⟩
 ·intro i σ H' _ hP
  exact hP.2 _ _ XN
 ·intro i k v σ H8 hkv hP
  obtain⟨⟨t1,t2',t3,t4,t5,rfl⟩,S8⟩:=hP
  obtain⟨x,rfl,hxi⟩:=pJ7.k.at hkv
  have hxk:=List.mem_of_getElem? hxi
  have hx:kn x≠none:=(hks x).mp hxk
  have hxn:=hknn x hx
  obtain⟨b,p,hpx⟩:=pa1 x hxk
  obtain⟨_,hb,pA,pI⟩:=pa2 x b p hpx
  have dp8:bK H8 pd (.str x) (some (.ref b)):=by rw[<-hb];exact .inl ⟨kp, .inr x, .inr ⟨o7,S8 _ _ XN⟩,rfl,rfl⟩
  have agp:=S8 _ _ agn
  have aj7:=S8 _ _ ago
  obtain⟨pvs,ewd⟩:=pA.wd
  obtain⟨b1,b2,b3,i1,kd1,hb1,hb2,hA,hB,hC3,hC,hmd⟩:∃(b1 b2 b3:Bool) (i1 kd1:Str),inV (.str x) ((sn.filter rkn).map V.str)=b1/\inV (.str x) ((sn.filter fun x=> !rkn x).map V.str)=b2/\atI [V.str "alike",V.str "made"] (if b1=true then 1 else 0)=some (.str i1)/\atI [V.str "given",V.str i1] (if(b1||b2)=true then 1 else 0)=some (.str kd1)/\inV (.str p.word) [V.str "new",V.str "recipe",V.str "read"]=b3/\atI [V.str p.word,V.str "made"] (if b3=true then 1 else 0)=some (.str kd1)/\(kd1="made" ↔(p≠ .given/\p≠ .alike)):=by
   rcases Xm bt hx pI with⟨rfl,hr⟩ | ⟨rfl,hr,hk⟩ | ⟨h1,h2,hr,hk⟩
   ·have hns:x∉sn:=fun z=>(ZM.mem kks x).mp z hr
    have n1:x∉sn.filter rkn:=fun z=>hns (List.mem_filter.mp z).1
    have n2:x∉sn.filter (fun x=> !rkn x):=fun z=>hns (List.mem_filter.mp z).1
    exact⟨false,false,false,"alike","given",NQ n1,NQ n2,rfl,rfl,by decide +kernel,rfl,fun z=>absurd z (by decide +kernel),fun z=>absurd rfl z.1⟩
   ·have hs:=(ZM.mem kks x).mpr hr
    have n1:x∉sn.filter rkn:=fun z=>by
     have:=(List.mem_filter.mp z).2
     rw[hk] at this;cases this
    have n2:x∈sn.filter (fun x=> !rkn x):=List.mem_filter.mpr ⟨hs,by rw[hk];rfl⟩
    exact⟨false,true,false,"alike","alike",NQ n1,Qj n2,rfl,rfl,by decide +kernel,rfl,fun z=>absurd z (by decide +kernel),fun z=>absurd rfl z.2⟩
   ·have hs:=(ZM.mem kks x).mpr hr
    have n1:x∈sn.filter rkn:=List.mem_filter.mpr ⟨hs,hk⟩
    have n2:x∉sn.filter (fun x=> !rkn x):=fun z=>by
     have:=(List.mem_filter.mp z).2
     rw[hk] at this;cases this
    refine⟨true,false,true,"made","made",Qj n1,NQ n2,rfl,rfl, ?_,rfl,fun _=>⟨h1,h2⟩,fun _=>rfl⟩
    cases p with
    | given=>exact absurd rfl h1
    | alike=>exact absurd rfl h2
    | new=>decide +kernel
    | rcp r s=>show inV (.str "recipe") _=true;decide +kernel
    | rd k u m=>show inV (.str "read") _=true;decide +kernel
  subst hb1 hb2 hC3
  walk_at "vs"
  intro l9 hl9
  have s9:=aD (.lst [.str "alike", .str "made"]) hl9
  have e9:upd H8 l9 (.lst [.str "alike", .str "made"]) l9=some (.lst [.str "alike", .str "made"]):=ao
  have aj8:=s9 _ _ agp
  generalize upd H8 l9 (.lst [.str "alike", .str "made"])=H9 at *
  walk_at "vs"
  intro l10 agq
  have s10:=aD (.lst [.str "given", .str i1]) agq
  have e10:upd H9 l10 (.lst [.str "given", .str i1]) l10=some (.lst [.str "given", .str i1]):=ao
  have S10:=S8.trans (s9.trans s10)
  generalize upd H9 l10 (.lst [.str "given", .str i1])=H10 at *
  have agr:=S10 _ _ agn
  have abf:=S10 _ _ ago
  walk_at "vs"
  refine orB (c':=inV (V.str x) ((sn.filter rkn).map V.str)) (d:=inV (V.str x) ((sn.filter fun x=> !rkn x).map V.str)) rfl (fun G g=>⟨_,rfl,_,rfl,lk,_,rfl, .inl (SqL.of abf),rfl,hf2,g⟩) ?_
  have abg:=S10 _ _ ewd
  have hatw:atI (V.str p.word::pvs) 0=some (.str p.word):=iT (j:=0) rfl
  walk_at "vs"
  intro l11 ags
  have s11:=aD (.lst [.str p.word, .str "made"]) ags
  have e11:upd H10 l11 (.lst [.str p.word, .str "made"]) l11=some (.lst [.str p.word, .str "made"]):=ao
  have agt:=s11 _ _ abg
  generalize upd H10 l11 (.lst [.str p.word, .str "made"])=H11 at *
  walk_at "vs"
  intro l12 Vm
  have s12:=aD (.lst [.str "new", .str "recipe", .str "read"]) Vm
  have e12:upd H11 l12 (.lst [.str "new", .str "recipe", .str "read"]) l12=some (.lst [.str "new", .str "recipe", .str "read"]):=ao
  have agu:=s12 _ _ e11
  have S12:=S10.trans (s11.trans s12)
  generalize upd H11 l12 (.lst [.str "new", .str "recipe", .str "read"])=H12 at *
  have aj9:=ho7.same S12
  have aka:=S12 _ _ er7
  have akb:=rD7.map fun b q z=>z.same S12
  have agv:=S12 _ _ adw
  have sok:=bt.ok
  have akc:nQ K H12 (.ref b) p.dz:=(pA.tups (aM.tups S12)).JM
  walk_at "vs"
  rw[show(!decide (V.str kd1=V.str kd1))=false by simp]
  walk_at "vs"
  refine⟨fun z=>absurd z hx,fun p' H13 _ hp' s13=> ?_⟩
  have epp:=pI.one hp'
  subst epp
  rw[p.plT.refl]
  have S13:=S12.trans s13
  walk_at "vs"
  intro o1 agw
  have s14:=aD (.tup [.str "given"]) agw
  have eo1:upd H13 o1 (.tup [.str "given"]) o1=some (.tup [.str "given"]):=ao
  generalize upd H13 o1 (.tup [.str "given"])=H14 at *
  walk_at "vs"
  intro o2 agx
  have s15:=aD (.tup [.str "new"]) agx
  have eo2:upd H14 o2 (.tup [.str "new"]) o2=some (.tup [.str "new"]):=ao
  generalize upd H14 o2 (.tup [.str "new"])=H15 at *
  walk_at "vs"
  intro o3 agy
  have s16:=aD (.tup [.str "alike"]) agy
  have eo3:upd H15 o3 (.tup [.str "alike"]) o3=some (.tup [.str "alike"]):=ao
  generalize upd H15 o3 (.tup [.str "alike"])=H16 at *
  walk_at "vs"
  intro lo hlo
  have s17:=aD (.lst [.ref o1, .ref o2, .ref o3]) hlo
  have elo:upd H16 lo (.lst [.ref o1, .ref o2, .ref o3]) lo=some (.lst [.ref o1, .ref o2, .ref o3]):=ao
  have agz:=s17 _ _ (s16 _ _ (s15 _ _ eo1))
  have agA:=s17 _ _ (s16 _ _ eo2)
  have agB:=s17 _ _ eo3
  have S17:=S13.trans (s14.trans (s15.trans (s16.trans s17)))
  generalize upd H16 lo (.lst [.ref o1, .ref o2, .ref o3])=H17 at *
  clear s9 s10 s11 s12 s13 s14 s15 s16 s17 e9 aj8 e10 e11 agu e12 abg agt eo1 eo2 eo3 hl9 agq ags Vm agw agx agy hlo aj9 aka akb agv akc S10 S12 S13 agr abf agp aj7 dp8
  walk_at "vs"
  refine Jq (xs:=[V.ref o1, .ref o2, .ref o3]) (fun j σ H'=>(∃u1,σ=[some (.ref a),some (.ref h),some (.ref rcd),some (.ref wl),some (.ref kd),some (.ref sd),some (.ref lm),some (.ref lk),some (.ref pd),some (.str x),some (.ref b),some (.str kd1),u1,t5,none,none])/\aM H17 H') ?_ ?_ ?_ ?_
  ·exact⟨⟨_,rfl⟩,aM.refl _⟩
  ·intro j σ H' _ hP
   exact SqL.of (hP.2 _ _ elo)
  ·intro j v σ H18 hv hP
   obtain⟨⟨u1,rfl⟩,S18⟩:=hP
   obtain⟨oq,qq,rfl,hpl',hpA⟩:∃oq qq,v=V.ref oq/\Pap.plain qq=true/\jQ H17 oq qq:=by
    have:v= .ref o1\/v= .ref o2\/v= .ref o3:=by simpa using List.mem_of_getElem? hv
    rcases this with rfl | rfl | rfl
    ·exact⟨o1, .given,rfl,rfl, .given agz⟩
    ·exact⟨o2, .new,rfl,rfl, .new agA⟩
    ·exact⟨o3, .alike,rfl,rfl, .alike agB⟩
   have Jd:=S17.trans S18
   have Vk:=ho7.same Jd
   have ZJ:=Jd _ _ er7
   have XF:=rD7.map fun b q z=>z.same Jd
   have agC:=Jd _ _ adw
   have adx:=hpA.tups (aM.tups S18)
   have anB:nQ K H18 (.ref oq) qq.dz:=adx.JM
   walk_at "vs"
   refine⟨fun z=>absurd z hx,fun p' H19 _ hp' s19=> ?_⟩
   have epp:=pI.one hp'
   subst epp
   rw[Xl p qq hpl']
   have agD:=adx.tups (aM.tups s19)
   have agE:=pA.tups (aM.tups (Jd.trans s19))
   walk_at "vs"
   refine⟨_,_,agD.dat,agE.dat,Ke agD,Ke agE, ?_⟩
   walk_at "vs"
   rw[show(!decide (V.bl (PyData.eqv qq.dat p.dat)=V.bl (if false=true then !PyData.eqv qq.dat p.dat else PyData.eqv qq.dat p.dat)))=false by simp]
   walk_at "vs"
   exact⟨⟨_,rfl⟩,S18.trans s19⟩
  ·intro σ H18 hP
   obtain⟨⟨u1,rfl⟩,S18⟩:=hP
   have Jd:=S17.trans S18
   have amV:=Jd _ _ ewd
   by_cases hrd:∃k u m,p= .rd k u m
   case' pos=>
    obtain⟨k,u,m,hpe⟩:=hrd
    have pI':=pI
    rw[hpe] at pI'
    obtain⟨_,r,ps,v0,y,h1,h2,hj,hk,hm,hne⟩:=pI'
    obtain⟨rb,hrb,ra⟩:=rD7.v x _ h1
    have anC:=ra.same Jd
    have anD:bK H18 rcd (.str x) (some (.ref rb)):=by rw[<-hrb];exact bK.k (k:= .inr x) (Jd _ _ er7)
    have adx:jQ H18 b (.rd k u m):=by
     have:=pA.tups (aM.tups Jd)
     rwa [hpe] at this
    have agC:=Jd _ _ adw
    have got:=(rD7.ok x r ps v0 h1)
    have hps:ps.length<=100:=by
     obtain⟨g,kx,hkx,_,R⟩:=got
     have:=iy (vN g.c).2 (ns:=nmK kx) fun y hy=>by
      obtain⟨p,hp,rfl⟩:=List.mem_map.mp hy
      exact J5 R.i g.c p hp
     rw[List.length_map,jn] at this
     omega
    walk_at "vs"
    rw[show decide (V.str p.word=V.str "read")=true by rw[hpe];show decide (V.str "read"=V.str "read")=true;simp]
    walk_at "vs"
    intro H19 s19
   case' neg=>
    obtain⟨H19,s19,eH⟩:∃H19,aM H18 H19/\H19=H18:=⟨_,aM.refl _,rfl⟩
    walk_at "vs"
    rw[show decide (V.str p.word=V.str "read")=false by
     cases p with
     | rd k u m=>exact absurd ⟨_,_,_,rfl⟩ hrd
     | given=>decide +kernel
     | new=>decide +kernel
     | alike=>decide +kernel
     | rcp r s=>show decide (V.str "recipe"=V.str "read")=false;decide +kernel]
    rw[<-eH]
   all_goals
    have S19:=Jd.trans s19
    obtain⟨kx,hkx,exk⟩:=dD.mp hxn
    obtain⟨ys,ch,hyl⟩:∃ys,Chain pa rm x ys/\ys.length<=17:=by
     rw[exk]
     exact Pu (kn:=kn) n17 rD7.ok hpok hknn 17 kx (by omega) hkx (by rw[<-exk];exact hx)
    have anE:Ny H19 pd kp pa:=⟨.inr ⟨o7,S19 _ _ XN⟩,fun x b p e=>⟨(pa2 x b p e).2.1,(pa2 x b p e).2.2.1.tups (aM.tups S19)⟩⟩
    have adp:=rD7.map fun b q z=>z.same S19
    have anF:Rd H19 rcd (.dK kr):= .inl (S19 _ _ er7)
    have akd:ys.length<=100:=by omega
    walk_at "vs"
    intro cl2 ac H20 s20 hcl ake en
    have S20:=S19.trans s20
    walk_at "vs"
    intro l21 akf
    have s21:=aD (.lst []) akf
    have S21:=S20.trans s21
    have agF:=s21 _ _ ake
    have agG:=en.tups (aM.tups s21)
    refine⟨cl2,l21,_,rfl,rfl,SqL.of agF,SqL.of ao, ?_⟩
    generalize upd H20 l21 (.lst [])=H21 at *
    walk_at "vs"
    rcases Vf ch with⟨hy0,b',q',hq1,hq2⟩ | ⟨⟨b',q',hq1,hq2,hq3⟩,lst,hlst,hend⟩
    ·rw[hpx] at hq1;cases hq1
     subst hy0
     have hac:(ac.map V.ref).isEmpty=true:=by
      have:=agG.length
      cases ac with
      | nil=>rfl
      | cons _ _=>simp at this
     have hkd:decide (V.str kd1=V.str "made")=false:=decide_eq_false fun z=>by
      have:=hmd.mp (by cases z;rfl)
      rcases hq2 with w | w
      ·exact this.1 w
      ·exact this.2 w
     rw[hac,hkd]
     rw[show(!decide (V.bl true=V.bl (!false)))=false by simp]
     walk_at "vs"
     rw[hkd]
     walk_at "vs"
     exact⟨⟨_,_,_,_,_,rfl⟩,S21⟩
    ·rw[hpx] at hq1;cases hq1
     have hac:(ac.map V.ref).isEmpty=false:=by
      have:=agG.length
      cases ac with
      | nil=>cases ys with
        | nil=>cases hlst
        | cons _ _=>simp at this
      | cons _ _=>rfl
     have hk1:kd1="made":=hmd.mpr ⟨hq2,hq3⟩
     have hkd:decide (V.str kd1=V.str "made")=true:=by rw[hk1];simp
     rw[hac,hkd]
     rw[show(!decide (V.bl false=V.bl (!true)))=false by simp]
     have anG:Ny H21 pd kp pa:=⟨.inr ⟨o7,S21 _ _ XN⟩,fun x b p e=>⟨(pa2 x b p e).2.1,(pa2 x b p e).2.2.1.tups (aM.tups S21)⟩⟩
     have anH:=rD7.map fun b q z=>z.same S21
     have anI:=S21 _ _ er7
     walk_at "vs"
     rw[hkd]
     walk_at "vs"
     intro H22 s22
     walk_at "vs"
     exact⟨⟨_,_,_,_,_,rfl⟩,S21.trans s22⟩
 ·intro σ H8 hP
  obtain⟨⟨t1,t2',t3,t4,t5,rfl⟩,S8⟩:=hP
  have ho8:=ho7.same S8
  have anJ:=S8 _ _ aj5
  have anK:=ZM.map fun b q z=>z.same S8
  have anL:=S8 _ _ aj6
  walk_at "vs"
  intro pd2 kp2 ks2 kn2 rm2 rk2 H9 s9 akg akh pJ2 ZP bt2
  have aki:kn=kn2:=Xh (by omega) bd.ok.rk bt.ok bt2.ok bt.w bt2.w bt.r bt2.r
  subst aki
  have S9:=S8.trans s9
  walk_at "vs"
  intro o10
  have S10:aM H8 (upd H9 pd2 (.frz o10 (.dK kp2))):=cG _ akg s9
  have XQ:upd H9 pd2 (.frz o10 (.dK kp2)) pd2=some (.frz o10 (.dK kp2)):=ao
  have Vn:PpJ (upd H9 pd2 (.frz o10 (.dK kp2))) kp2 gv rc rmN kn ks2:=pJ2.tups (qz akh)
  generalize upd H9 pd2 (.frz o10 (.dK kp2))=H10 at *
  intro D hD
  refine GC (fun i σ' H'=>(∃t,σ'=[t,some (.ref pd2)])/\aM H10 H'/\H' D=some (.lst [])) ?_ ?_ ?_ ?_
  ·exact⟨⟨none,rfl⟩,aD _ hD,ao⟩
  ·intro i σ' H' _ hP
   exact hP.2.1 _ _ XQ
  ·intro i k v σ' H11 hkv hP
   obtain⟨⟨t,rfl⟩,S11,eD⟩:=hP
   obtain⟨x,rfl,hxi⟩:=Vn.k.at hkv
   have hxk:=List.mem_of_getElem? hxi
   obtain⟨b,p,hb,pA,pI⟩:=Vn.v x hxk
   have hgl:=Xn bt.ok ((ZP x).mp hxk) pI
   have dg:bK H11 pd2 (.str x) (some (.ref b)):=by rw[<-hb];exact .inl ⟨kp2, .inr x, .inr ⟨o10,S11 _ _ XQ⟩,rfl,rfl⟩
   obtain⟨pvs,ewd⟩:=(pA.tups (aM.tups S11)).wd
   have hatw:atI (V.str p.word::pvs) 0=some (.str p.word):=iT (j:=0) rfl
   walk_at "vs"
   intro l12 Vm
   have s12:=aD (.lst [.str "given", .str "alike"]) Vm
   refine⟨l12,_,rfl, .inl (SqL.of ao),rfl,rfl, ?_⟩
   have hin:inV (.str p.word) [.str "given", .str "alike"]=true:=by
    rcases hgl with z | z<;>subst z<;>decide +kernel
   rw[hin]
   walk_at "vs"
   exact⟨⟨_,rfl⟩,S11.trans s12,s12 _ _ eD⟩
  ·intro σ' H11 hP
   obtain⟨_,S11,eD⟩:=hP
   walk_at "vs"
   intro l12 Vm
   have s12:=aD (.lst []) Vm
   have akj:=s12 _ _ eD
   refine⟨D,l12,[],rfl,rfl,SqL.of akj,SqL.of ao, ?_⟩
   generalize upd H11 l12 (.lst [])=H12 at *
   have anM:Rd H12 pd2 (.dK kp2):= .inr ⟨o10,s12 _ _ (S11 _ _ XQ)⟩
   have S12:=S8.trans (S10.trans (S11.trans s12))
   have anN:kp2.length<64:=by
    have:kp2.length<=n:=by
     rw[Vn.k.len,<-jn n]
     exact iy Vn.k.nd fun x hx=>hknn x ((ZP x).mp hx)
    omega
   have hk2:=Vn.k.k
   walk_at "vs"
   intro l13 QZ akk agH akl
   have s13:=aD (.lst (QZ.map V.str)) akk
   have e13:upd H12 l13 (.lst (QZ.map V.str)) l13=some (.lst (QZ.map V.str)):=ao
   generalize upd H12 l13 (.lst (QZ.map V.str))=H13 at *
   have anO:Rd H13 pd (.dK kp):= .inr ⟨o7,(S12.trans s13) _ _ XN⟩
   walk_at "vs"
   intro l14 XR akm akn ako
   have s14:=aD (.lst (XR.map V.str)) akm
   have e14:upd H13 l14 (.lst (XR.map V.str)) l14=some (.lst (XR.map V.str)):=ao
   have akp:=s14 _ _ e13
   generalize upd H13 l14 (.lst (XR.map V.str))=H14 at *
   have akq:QZ=XR:=Kh agH akl akn ako Vn.k.nd pJ7.k.nd fun x=>(ZP x).trans (hks x).symm
   subst akq
   have akr:∀x∈QZ,lK x:=fun x hx=>vM (by omega) x (hknn x ((ZP x).mp (agH.mem_iff.mp hx)))
   exact⟨_, .lst (SqL.of akp) (mj QZ), .lst (SqL.of e14) (mj QZ),xg akr,q _⟩
end
theorem iu {K:PySem.W.Frag}{h:Heap}{mg:Str->Option Value} (X:K.In h) (G:h.Ns mainGlobals mg) {x:Str}{st:Stmt}{ps:List Str}{f:Addr}{oc:Value}{od an:Option Addr}{osl:Array (Option Value)}{kV doc pm cdv ct:Value}
 (a:PySem.W.nsIn K mainGlobals x=some (some (.ref f))) (l:K.lookup f=some ⟨oc,od, .func (PySem.W.fnOf x x (bA st) (bh st) (aa st) .none kV doc pm an cdv ct),osl⟩) (c:PySem.W.codeIn K cdv x=true) (k:PySem.W.keepIn K (.ref f)=true)
 (hb:∀us:List Value,us.length=ps.length->bindArgs (PySem.W.fnOf x x (bA st) (bh st) (aa st) .none kV doc pm an cdv ct) ⟨us,[]⟩=pure (ps.zip us)):
 FnT K mg x st ps f (PySem.W.fnOf x x (bA st) (bh st) (aa st) .none kV doc pm an cdv ct):=
 ⟨lR l c k,Binds.all hb,PySem.W.mg_of X G a⟩
theorem len0 {p:List Value->Prop} (h:p []) (us:List Value) (hl:us.length=0):p us:=by
 obtain rfl:=List.eq_nil_of_length_eq_zero hl;exact h
theorem Q0 {p:List Value->Prop} (h:∀x0,p [x0]) (us:List Value) (hl:us.length=1):p us:=by
 match us,hl with |[x0],_=>exact h x0
theorem By {p:List Value->Prop} (h:∀x0 x1,p [x0,x1]) (us:List Value) (hl:us.length=2):p us:=by
 match us,hl with |[x0,x1],_=>exact h x0 x1
theorem Gg {p:List Value->Prop} (h:∀x0 x1 x2,p [x0,x1,x2]) (us:List Value) (hl:us.length=3):p us:=by
 match us,hl with |[x0,x1,x2],_=>exact h x0 x1 x2
theorem ZQ {p:List Value->Prop} (h:∀x0 x1 x2 x3,p [x0,x1,x2,x3]) (us:List Value) (hl:us.length=4):p us:=by
 match us,hl with |[x0,x1,x2,x3],_=>exact h x0 x1 x2 x3
theorem aks {p:List Value->Prop} (h:∀x0 x1 x2 x3 x4,p [x0,x1,x2,x3,x4]) (us:List Value) (hl:us.length=5):p us:=by
 match us,hl with |[x0,x1,x2,x3,x4],_=>exact h x0 x1 x2 x3 x4
theorem anP {p:List Value->Prop} (h:∀x0 x1 x2 x3 x4 x5,p [x0,x1,x2,x3,x4,x5]) (us:List Value) (hl:us.length=6):p us:=by
 match us,hl with |[x0,x1,x2,x3,x4,x5],_=>exact h x0 x1 x2 x3 x4 x5
theorem all_mk {l:PySem.W.OpenLaw}{w:World}{K:PySem.W.Frag}{h:Heap}{mg:Str->Option Value}{fa f1 f2 f3 f4 f5 f6 f7 f8 f9 f10 f11 f12 f13 f14 f15 f16 f17 f18 f19 f20 f21 f22 f23 f24 f25 f26:Addr} (X:K.In h) (G:h.Ns mainGlobals mg) (hfa:mg "law"=some (.ref fa))
 {od1 an1 od2 an2 od3 an3 od4 an4 od5 an5 od6 an6 od7 an7 od8 an8 od9 an9 akt aku akv akx aky akz akA akB akC akD akE akF akG akH akI akJ akK akL akM akN akO akP akQ akR akS akT akU akV akW akX akY akZ ak0 agI:Option Addr}{sl1 sl2 sl3 sl4 sl5 sl6 sl7 sl8 sl9 ak1 ak2 ak3 ak4 ak5 ak6 ak7 ak8 ak9 ala alb alc ald ale alf alg alh:Array (Option Value)}{oc1 kV1 dc1 pm1 cd1 ct1 oc2 kV2 dc2 pm2 cd2 ct2 oc3 kV3 dc3 pm3 cd3 ct3 oc4 kV4 dc4 pm4 cd4 ct4 oc5 kV5 dc5 pm5 cd5 ct5 oc6 kV6 dc6 pm6 cd6 ct6 oc7 kV7 dc7 pm7 cd7 ct7 oc8 kV8 dc8 pm8 cd8 ct8 oc9 kV9 dc9 pm9 cd9 ct9 ali alj alk alm agJ aln alo alp alq alr agK als alu alv alw alx agL aly alz alA alB alC agM alD alE alF alG alH agN alJ alK alL alM alN agO alO alP alQ alR alS agP alT alU alV alW alX agQ alY alZ al0 al2 al3 agR al4 al5 al6 al7 al8 agS al9 ama amb amc amd agT ame amf amg amh ami agU amj amk aml amm amn agV amo amq amr ams amt agW amu amv amw amx amy agX amz amA amB amC amD agY amE amF agZ ag0 ag1 ady ag2:Value}
 (a1:PySem.W.nsIn K mainGlobals "joined"=some (some (.ref f1))) (l1:K.lookup f1=some ⟨oc1,od1, .func (PySem.W.fnOf "joined" "joined" (bA mz) (bh mz) (aa mz) .none kV1 dc1 pm1 an1 cd1 ct1),sl1⟩) (c1:PySem.W.codeIn K cd1 "joined"=true) (k1:PySem.W.keepIn K (.ref f1)=true)
 (a2:PySem.W.nsIn K mainGlobals "is_whole_number"=some (some (.ref f2))) (l2:K.lookup f2=some ⟨oc2,od2, .func (PySem.W.fnOf "is_whole_number" "is_whole_number" (bA cC) (bh cC) (aa cC) .none kV2 dc2 pm2 an2 cd2 ct2),sl2⟩) (c2:PySem.W.codeIn K cd2 "is_whole_number"=true) (k2:PySem.W.keepIn K (.ref f2)=true)
 (a3:PySem.W.nsIn K mainGlobals "is_same"=some (some (.ref f3))) (l3:K.lookup f3=some ⟨oc3,od3, .func (PySem.W.fnOf "is_same" "is_same" (bA d9) (bh d9) (aa d9) .none kV3 dc3 pm3 an3 cd3 ct3),sl3⟩) (c3:PySem.W.codeIn K cd3 "is_same"=true) (k3:PySem.W.keepIn K (.ref f3)=true)
 (a4:PySem.W.nsIn K mainGlobals "searched"=some (some (.ref f4))) (l4:K.lookup f4=some ⟨oc4,od4, .func (PySem.W.fnOf "searched" "searched" (bA fM) (bh fM) (aa fM) .none kV4 dc4 pm4 an4 cd4 ct4),sl4⟩) (c4:PySem.W.codeIn K cd4 "searched"=true) (k4:PySem.W.keepIn K (.ref f4)=true)
 (a5:PySem.W.nsIn K mainGlobals "build_again"=some (some (.ref f5))) (l5:K.lookup f5=some ⟨oc5,od5, .func (PySem.W.fnOf "build_again" "build_again" (bA cP) (bh cP) (aa cP) .none kV5 dc5 pm5 an5 cd5 ct5),sl5⟩) (c5:PySem.W.codeIn K cd5 "build_again"=true) (k5:PySem.W.keepIn K (.ref f5)=true)
 (a6:PySem.W.nsIn K mainGlobals "paper_of"=some (some (.ref f6))) (l6:K.lookup f6=some ⟨oc6,od6, .func (PySem.W.fnOf "paper_of" "paper_of" (bA cL) (bh cL) (aa cL) .none kV6 dc6 pm6 an6 cd6 ct6),sl6⟩) (c6:PySem.W.codeIn K cd6 "paper_of"=true) (k6:PySem.W.keepIn K (.ref f6)=true)
 (a7:PySem.W.nsIn K mainGlobals "paper_shows"=some (some (.ref f7))) (l7:K.lookup f7=some ⟨oc7,od7, .func (PySem.W.fnOf "paper_shows" "paper_shows" (bA di) (bh di) (aa di) .none kV7 dc7 pm7 an7 cd7 ct7),sl7⟩) (c7:PySem.W.codeIn K cd7 "paper_shows"=true) (k7:PySem.W.keepIn K (.ref f7)=true)
 (a8:PySem.W.nsIn K mainGlobals "papers_of"=some (some (.ref f8))) (l8:K.lookup f8=some ⟨oc8,od8, .func (PySem.W.fnOf "papers_of" "papers_of" (bA cQ) (bh cQ) (aa cQ) .none kV8 dc8 pm8 an8 cd8 ct8),sl8⟩) (c8:PySem.W.codeIn K cd8 "papers_of"=true) (k8:PySem.W.keepIn K (.ref f8)=true)
 (a9:PySem.W.nsIn K mainGlobals "chain_of"=some (some (.ref f9))) (l9:K.lookup f9=some ⟨oc9,od9, .func (PySem.W.fnOf "chain_of" "chain_of" (bA fc) (bh fc) (aa fc) .none kV9 dc9 pm9 an9 cd9 ct9),sl9⟩) (c9:PySem.W.codeIn K cd9 "chain_of"=true) (k9:PySem.W.keepIn K (.ref f9)=true)
 (a10:PySem.W.nsIn K mainGlobals "_law_cell_at"=some (some (.ref f10))) (l10:K.lookup f10=some ⟨ali,akt, .func (PySem.W.fnOf "_law_cell_at" "_law_cell_at" (bA fW) (bh fW) (aa fW) .none alj alk alm aku agJ aln),ak1⟩) (c10:PySem.W.codeIn K agJ "_law_cell_at"=true) (k10:PySem.W.keepIn K (.ref f10)=true)
 (a11:PySem.W.nsIn K mainGlobals "_law_pool"=some (some (.ref f11))) (l11:K.lookup f11=some ⟨alo,akv, .func (PySem.W.fnOf "_law_pool" "_law_pool" (bA iM) (bh iM) (aa iM) .none alp alq alr akx agK als),ak2⟩) (c11:PySem.W.codeIn K agK "_law_pool"=true) (k11:PySem.W.keepIn K (.ref f11)=true)
 (a12:PySem.W.nsIn K mainGlobals "_law_take"=some (some (.ref f12))) (l12:K.lookup f12=some ⟨alu,aky, .func (PySem.W.fnOf "_law_take" "_law_take" (bA dX) (bh dX) (aa dX) .none alv alw alx akz agL aly),ak3⟩) (c12:PySem.W.codeIn K agL "_law_take"=true) (k12:PySem.W.keepIn K (.ref f12)=true)
 (a13:PySem.W.nsIn K mainGlobals "_law_name"=some (some (.ref f13))) (l13:K.lookup f13=some ⟨alz,akA, .func (PySem.W.fnOf "_law_name" "_law_name" (bA ji) (bh ji) (aa ji) .none alA alB alC akB agM alD),ak4⟩) (c13:PySem.W.codeIn K agM "_law_name"=true) (k13:PySem.W.keepIn K (.ref f13)=true)
 (a14:PySem.W.nsIn K mainGlobals "_law_leaf"=some (some (.ref f14))) (l14:K.lookup f14=some ⟨alE,akC, .func (PySem.W.fnOf "_law_leaf" "_law_leaf" (bA gO) (bh gO) (aa gO) .none alF alG alH akD agN alJ),ak5⟩) (c14:PySem.W.codeIn K agN "_law_leaf"=true) (k14:PySem.W.keepIn K (.ref f14)=true)
 (a15:PySem.W.nsIn K mainGlobals "_law_recipe"=some (some (.ref f15))) (l15:K.lookup f15=some ⟨alK,akE, .func (PySem.W.fnOf "_law_recipe" "_law_recipe" (bA bw) (bh bw) (aa bw) .none alL alM alN akF agO alO),ak6⟩) (c15:PySem.W.codeIn K agO "_law_recipe"=true) (k15:PySem.W.keepIn K (.ref f15)=true)
 (a16:PySem.W.nsIn K mainGlobals "_law_house"=some (some (.ref f16))) (l16:K.lookup f16=some ⟨alP,akG, .func (PySem.W.fnOf "_law_house" "_law_house" (bA bM) (bh bM) (aa bM) .none alQ alR alS akH agP alT),ak7⟩) (c16:PySem.W.codeIn K agP "_law_house"=true) (k16:PySem.W.keepIn K (.ref f16)=true)
 (a17:PySem.W.nsIn K mainGlobals "_law_other"=some (some (.ref f17))) (l17:K.lookup f17=some ⟨alU,akI, .func (PySem.W.fnOf "_law_other" "_law_other" (bA aR) (bh aR) (aa aR) .none alV alW alX akJ agQ alY),ak8⟩) (c17:PySem.W.codeIn K agQ "_law_other"=true) (k17:PySem.W.keepIn K (.ref f17)=true)
 (a18:PySem.W.nsIn K mainGlobals "_law_value"=some (some (.ref f18))) (l18:K.lookup f18=some ⟨alZ,akK, .func (PySem.W.fnOf "_law_value" "_law_value" (bA bQ) (bh bQ) (aa bQ) .none al0 al2 al3 akL agR al4),ak9⟩) (c18:PySem.W.codeIn K agR "_law_value"=true) (k18:PySem.W.keepIn K (.ref f18)=true)
 (a19:PySem.W.nsIn K mainGlobals "_law_look"=some (some (.ref f19))) (l19:K.lookup f19=some ⟨al5,akM, .func (PySem.W.fnOf "_law_look" "_law_look" (bA eZ) (bh eZ) (aa eZ) .none al6 al7 al8 akN agS al9),ala⟩) (c19:PySem.W.codeIn K agS "_law_look"=true) (k19:PySem.W.keepIn K (.ref f19)=true)
 (a20:PySem.W.nsIn K mainGlobals "_law_settled"=some (some (.ref f20))) (l20:K.lookup f20=some ⟨ama,akO, .func (PySem.W.fnOf "_law_settled" "_law_settled" (bA bG) (bh bG) (aa bG) .none amb amc amd akP agT ame),alb⟩) (c20:PySem.W.codeIn K agT "_law_settled"=true) (k20:PySem.W.keepIn K (.ref f20)=true)
 (a21:PySem.W.nsIn K mainGlobals "_law_fresh"=some (some (.ref f21))) (l21:K.lookup f21=some ⟨amf,akQ, .func (PySem.W.fnOf "_law_fresh" "_law_fresh" (bA fj) (bh fj) (aa fj) .none amg amh ami akR agU amj),alc⟩) (c21:PySem.W.codeIn K agU "_law_fresh"=true) (k21:PySem.W.keepIn K (.ref f21)=true)
 (a22:PySem.W.nsIn K mainGlobals "_law_wishes"=some (some (.ref f22))) (l22:K.lookup f22=some ⟨amk,akS, .func (PySem.W.fnOf "_law_wishes" "_law_wishes" (bA dG) (bh dG) (aa dG) .none aml amm amn akT agV amo),ald⟩) (c22:PySem.W.codeIn K agV "_law_wishes"=true) (k22:PySem.W.keepIn K (.ref f22)=true)
 (a23:PySem.W.nsIn K mainGlobals "_law_case"=some (some (.ref f23))) (l23:K.lookup f23=some ⟨amq,akU, .func (PySem.W.fnOf "_law_case" "_law_case" (bA bz) (bh bz) (aa bz) .none amr ams amt akV agW amu),ale⟩) (c23:PySem.W.codeIn K agW "_law_case"=true) (k23:PySem.W.keepIn K (.ref f23)=true)
 (a24:PySem.W.nsIn K mainGlobals "_law_fits"=some (some (.ref f24))) (l24:K.lookup f24=some ⟨amv,akW, .func (PySem.W.fnOf "_law_fits" "_law_fits" (bA cX) (bh cX) (aa cX) .none amw amx amy akX agX amz),alf⟩) (c24:PySem.W.codeIn K agX "_law_fits"=true) (k24:PySem.W.keepIn K (.ref f24)=true)
 (a25:PySem.W.nsIn K mainGlobals "_law_ends"=some (some (.ref f25))) (l25:K.lookup f25=some ⟨amA,akY, .func (PySem.W.fnOf "_law_ends" "_law_ends" (bA gA) (bh gA) (aa gA) .none amB amC amD akZ agY amE),alg⟩) (c25:PySem.W.codeIn K agY "_law_ends"=true) (k25:PySem.W.keepIn K (.ref f25)=true)
 (a26:PySem.W.nsIn K mainGlobals "law"=some (some (.ref f26))) (l26:K.lookup f26=some ⟨amF,ak0, .func (PySem.W.fnOf "law" "law" (bA dO) (bh dO) (aa dO) .none agZ ag0 ag1 agI ady ag2),alh⟩) (c26:PySem.W.codeIn K ady "law"=true) (k26:PySem.W.keepIn K (.ref f26)=true)
 (kd:Kinds K)
 {CK:Addr} (ACK:PySem.W.nsIn K mainGlobals "Reckoning"=some (some (.ref CK)))
 {ZR:Addr}{ag3 ag4:Option Addr}{ag5:Array (Option Value)}{ag6 ag7 ag8 ag9 abh aha:Value}
 (ZS:PySem.W.findIn K (.ref CK) "__init__"=some (some (.ref ZR))) (ZV:PySem.W.isFn K (.ref ZR)=true) (adz:K.lookup ZR=some ⟨ag6,ag3, .func (PySem.W.fnOf "__init__" "Reckoning.__init__" (bA cN) (bh cN) (aa cN) .none ag7 ag8 ag9 ag4 abh aha),ag5⟩) (adA:PySem.W.codeIn K abh "Reckoning.__init__"=true) (ZW:PySem.W.keepIn K (.ref ZR)=true)
 {ZX:Addr}{ahb ahc:Option Addr}{ahd:Array (Option Value)}{ahe ahf ahg ahh abi ahi:Value}
 (adB:PySem.W.findIn K (.ref CK) "lacking"=some (some (.ref ZX))) (adC:PySem.W.isFn K (.ref ZX)=true) (adD:K.lookup ZX=some ⟨ahe,ahb, .func (PySem.W.fnOf "lacking" "Reckoning.lacking" (bA cz) (bh cz) (aa cz) .none ahf ahg ahh ahc abi ahi),ahd⟩) (adE:PySem.W.codeIn K abi "Reckoning.lacking"=true) (ZZ:PySem.W.keepIn K (.ref ZX)=true)
 {Z0:Addr}{ahj ahk:Option Addr}{ahl:Array (Option Value)}{ahm ahn aho ahp abj ahq:Value}
 (adF:PySem.W.findIn K (.ref CK) "go_on"=some (some (.ref Z0))) (adG:PySem.W.isFn K (.ref Z0)=true) (adH:K.lookup Z0=some ⟨ahm,ahj, .func (PySem.W.fnOf "go_on" "Reckoning.go_on" (bA aU) (bh aU) (aa aU) .none ahn aho ahp ahk abj ahq),ahl⟩) (adI:PySem.W.codeIn K abj "Reckoning.go_on"=true) (Z1:PySem.W.keepIn K (.ref Z0)=true)
 (adJ:PySem.W.plainGet K CK Str.empty=true) (adK:PySem.W.hasDictIn K CK=true) (adL:PySem.W.plainOver K CK=true) (adM:PySem.W.findIn K (.ref CK) "__setattr__"=some (some (.builtin "object.__setattr__"))) (adN:PySem.W.makesIn K CK=true) (adO:PySem.W.keepIn K (.ref CK)=true)
 (K4:PySem.W.findIn K (.ref CK) "todo"=some none)
 (Hy:PySem.W.findIn K (.ref CK) "found"=some none)
 (Hz:PySem.W.findIn K (.ref CK) "reads"=some none)
 {CN:Addr} (ACN:PySem.W.nsIn K mainGlobals "NamedRecords"=some (some (.ref CN)))
 {Z2:Addr}{ahr ahs:Option Addr}{aht:Array (Option Value)}{ahu ahv ahw ahx abk ahy:Value}
 (Z3:PySem.W.findIn K (.ref CN) "__init__"=some (some (.ref Z2))) (Z4:PySem.W.isFn K (.ref Z2)=true) (adP:K.lookup Z2=some ⟨ahu,ahr, .func (PySem.W.fnOf "__init__" "NamedRecords.__init__" (bA bY) (bh bY) (aa bY) .none ahv ahw ahx ahs abk ahy),aht⟩) (adQ:PySem.W.codeIn K abk "NamedRecords.__init__"=true) (Z5:PySem.W.keepIn K (.ref Z2)=true)
 {Z6:Addr}{ahz ahA:Option Addr}{ahB:Array (Option Value)}{ahC ahD ahE ahF abl ahG:Value}
 (adR:PySem.W.findIn K (.ref CN) "records_for"=some (some (.ref Z6))) (adS:PySem.W.isFn K (.ref Z6)=true) (adT:K.lookup Z6=some ⟨ahC,ahz, .func (PySem.W.fnOf "records_for" "NamedRecords.records_for" (bA aX) (bh aX) (aa aX) .none ahD ahE ahF ahA abl ahG),ahB⟩) (adU:PySem.W.codeIn K abl "NamedRecords.records_for"=true) (Z7:PySem.W.keepIn K (.ref Z6)=true)
 {Z8:Addr}{ahH ahI:Option Addr}{ahJ:Array (Option Value)}{ahK ahL ahM ahN abm ahO:Value}
 (adV:PySem.W.findIn K (.ref CN) "put_made"=some (some (.ref Z8))) (adW:PySem.W.isFn K (.ref Z8)=true) (adX:K.lookup Z8=some ⟨ahK,ahH, .func (PySem.W.fnOf "put_made" "NamedRecords.put_made" (bA cV) (bh cV) (aa cV) .none ahL ahM ahN ahI abm ahO),ahJ⟩) (adY:PySem.W.codeIn K abm "NamedRecords.put_made"=true) (Z9:PySem.W.keepIn K (.ref Z8)=true)
 (adZ:PySem.W.plainGet K CN Str.empty=true) (ad0:PySem.W.hasDictIn K CN=true) (ad1:PySem.W.plainOver K CN=true) (ad2:PySem.W.findIn K (.ref CN) "__setattr__"=some (some (.builtin "object.__setattr__"))) (ad3:PySem.W.makesIn K CN=true) (ad4:PySem.W.keepIn K (.ref CN)=true)
 (Ae:PySem.W.findIn K (.ref CN) "by_name"=some none)
 {CS:Addr} (ACS:PySem.W.nsIn K mainGlobals "Settling"=some (some (.ref CS)))
 {aaa:Addr}{ahP ahQ:Option Addr}{ahR:Array (Option Value)}{ahS ahT ahU ahV abn ahW:Value}
 (aab:PySem.W.findIn K (.ref CS) "__init__"=some (some (.ref aaa))) (aac:PySem.W.isFn K (.ref aaa)=true) (ad5:K.lookup aaa=some ⟨ahS,ahP, .func (PySem.W.fnOf "__init__" "Settling.__init__" (bA cA) (bh cA) (aa cA) .none ahT ahU ahV ahQ abn ahW),ahR⟩) (ad6:PySem.W.codeIn K abn "Settling.__init__"=true) (aad:PySem.W.keepIn K (.ref aaa)=true)
 {aae:Addr}{ahX ahY:Option Addr}{ahZ:Array (Option Value)}{ah0 ah1 ah2 ah3 abo ah4:Value}
 (ad7:PySem.W.findIn K (.ref CS) "lacking"=some (some (.ref aae))) (ad8:PySem.W.isFn K (.ref aae)=true) (ad9:K.lookup aae=some ⟨ah0,ahX, .func (PySem.W.fnOf "lacking" "Settling.lacking" (bA bJ) (bh bJ) (aa bJ) .none ah1 ah2 ah3 ahY abo ah4),ahZ⟩) (aea:PySem.W.codeIn K abo "Settling.lacking"=true) (aaf:PySem.W.keepIn K (.ref aae)=true)
 {aag:Addr}{ah5 ah6:Option Addr}{ah7:Array (Option Value)}{ah8 ah9 aia aib abp aic:Value}
 (aeb:PySem.W.findIn K (.ref CS) "fit_on"=some (some (.ref aag))) (aec:PySem.W.isFn K (.ref aag)=true) (aed:K.lookup aag=some ⟨ah8,ah5, .func (PySem.W.fnOf "fit_on" "Settling.fit_on" (bA d7) (bh d7) (aa d7) .none ah9 aia aib ah6 abp aic),ah7⟩) (aee:PySem.W.codeIn K abp "Settling.fit_on"=true) (aah:PySem.W.keepIn K (.ref aag)=true)
 {aai:Addr}{aid aie:Option Addr}{aif:Array (Option Value)}{aih aii aij aik abq ail:Value}
 (aef:PySem.W.findIn K (.ref CS) "was_reckoned"=some (some (.ref aai))) (aeg:PySem.W.isFn K (.ref aai)=true) (aeh:K.lookup aai=some ⟨aih,aid, .func (PySem.W.fnOf "was_reckoned" "Settling.was_reckoned" (bA bN) (bh bN) (aa bN) .none aii aij aik aie abq ail),aif⟩) (aei:PySem.W.codeIn K abq "Settling.was_reckoned"=true) (aaj:PySem.W.keepIn K (.ref aai)=true)
 {aak:Addr}{aim ain:Option Addr}{aio:Array (Option Value)}{aip aiq air ais abr ait:Value}
 (aej:PySem.W.findIn K (.ref CS) "new_record"=some (some (.ref aak))) (aek:PySem.W.isFn K (.ref aak)=true) (ael:K.lookup aak=some ⟨aip,aim, .func (PySem.W.fnOf "new_record" "Settling.new_record" (bA cF) (bh cF) (aa cF) .none aiq air ais ain abr ait),aio⟩) (aem:PySem.W.codeIn K abr "Settling.new_record"=true) (aal:PySem.W.keepIn K (.ref aak)=true)
 (aen:PySem.W.plainGet K CS Str.empty=true) (aeo:PySem.W.hasDictIn K CS=true) (aep:PySem.W.plainOver K CS=true) (aeq:PySem.W.findIn K (.ref CS) "__setattr__"=some (some (.builtin "object.__setattr__"))) (aer:PySem.W.makesIn K CS=true) (aes:PySem.W.keepIn K (.ref CS)=true)
 (DP:PySem.W.findIn K (.ref CS) "recipe"=some none)
 (Af:PySem.W.findIn K (.ref CS) "fitting"=some none)
 (HB:PySem.W.findIn K (.ref CS) "place"=some none)
 (vH:PySem.W.findIn K (.ref CS) "reckoning"=some none)
 {CE:Addr} (ACE:PySem.W.nsIn K mainGlobals "Search"=some (some (.ref CE)))
 {aam:Addr}{aiu aiv:Option Addr}{aiw:Array (Option Value)}{aix aiy aiz aiA abt aiB:Value}
 (aan:PySem.W.findIn K (.ref CE) "__init__"=some (some (.ref aam))) (aao:PySem.W.isFn K (.ref aam)=true) (aet:K.lookup aam=some ⟨aix,aiu, .func (PySem.W.fnOf "__init__" "Search.__init__" (bA cZ) (bh cZ) (aa cZ) .none aiy aiz aiA aiv abt aiB),aiw⟩) (aeu:PySem.W.codeIn K abt "Search.__init__"=true) (aap:PySem.W.keepIn K (.ref aam)=true)
 {aaq:Addr}{aiC aiD:Option Addr}{aiE:Array (Option Value)}{aiF aiG aiH aiI abu aiJ:Value}
 (aev:PySem.W.findIn K (.ref CE) "begin"=some (some (.ref aaq))) (aew:PySem.W.isFn K (.ref aaq)=true) (aex:K.lookup aaq=some ⟨aiF,aiC, .func (PySem.W.fnOf "begin" "Search.begin" (bA dI) (bh dI) (aa dI) .none aiG aiH aiI aiD abu aiJ),aiE⟩) (aey:PySem.W.codeIn K abu "Search.begin"=true) (aar:PySem.W.keepIn K (.ref aaq)=true)
 {aas:Addr}{aiK aiL:Option Addr}{aiM:Array (Option Value)}{aiN aiO aiP aiQ abv aiR:Value}
 (aez:PySem.W.findIn K (.ref CE) "end"=some (some (.ref aas))) (aeA:PySem.W.isFn K (.ref aas)=true) (aeB:K.lookup aas=some ⟨aiN,aiK, .func (PySem.W.fnOf "end" "Search.end" (bA fJ) (bh fJ) (aa fJ) .none aiO aiP aiQ aiL abv aiR),aiM⟩) (aeC:PySem.W.codeIn K abv "Search.end"=true) (aat:PySem.W.keepIn K (.ref aas)=true)
 {aau:Addr}{aiS aiT:Option Addr}{aiU:Array (Option Value)}{aiV aiW aiX aiY abw aiZ:Value}
 (aeD:PySem.W.findIn K (.ref CE) "made"=some (some (.ref aau))) (aeE:PySem.W.isFn K (.ref aau)=true) (aeF:K.lookup aau=some ⟨aiV,aiS, .func (PySem.W.fnOf "made" "Search.made" (bA gR) (bh gR) (aa gR) .none aiW aiX aiY aiT abw aiZ),aiU⟩) (aeG:PySem.W.codeIn K abw "Search.made"=true) (aav:PySem.W.keepIn K (.ref aau)=true)
 {aaw:Addr}{ai0 ai1:Option Addr}{ai2:Array (Option Value)}{ai3 ai4 ai5 ai6 abx ai7:Value}
 (aeH:PySem.W.findIn K (.ref CE) "kept"=some (some (.ref aaw))) (aeI:PySem.W.isFn K (.ref aaw)=true) (aeJ:K.lookup aaw=some ⟨ai3,ai0, .func (PySem.W.fnOf "kept" "Search.kept" (bA gU) (bh gU) (aa gU) .none ai4 ai5 ai6 ai1 abx ai7),ai2⟩) (aeK:PySem.W.codeIn K abx "Search.kept"=true) (aax:PySem.W.keepIn K (.ref aaw)=true)
 {aay:Addr}{ai8 ai9:Option Addr}{aja:Array (Option Value)}{ajb ajc ajd aje aby ajf:Value}
 (aeL:PySem.W.findIn K (.ref CE) "settle"=some (some (.ref aay))) (aeM:PySem.W.isFn K (.ref aay)=true) (aeN:K.lookup aay=some ⟨ajb,ai8, .func (PySem.W.fnOf "settle" "Search.settle" (bA bL) (bh bL) (aa bL) .none ajc ajd aje ai9 aby ajf),aja⟩) (aeO:PySem.W.codeIn K aby "Search.settle"=true) (aaz:PySem.W.keepIn K (.ref aay)=true)
 (aeP:PySem.W.plainGet K CE Str.empty=true) (aeQ:PySem.W.hasDictIn K CE=true) (aeR:PySem.W.plainOver K CE=true) (aeS:PySem.W.findIn K (.ref CE) "__setattr__"=some (some (.builtin "object.__setattr__"))) (aeT:PySem.W.makesIn K CE=true) (aeU:PySem.W.keepIn K (.ref CE)=true)
 (HD:PySem.W.findIn K (.ref CE) "given"=some none)
 (Ag:PySem.W.findIn K (.ref CE) "recipes"=some none)
 (Oj:PySem.W.findIn K (.ref CE) "old"=some none)
 (HF:PySem.W.findIn K (.ref CE) "known"=some none)
 (Ah:PySem.W.findIn K (.ref CE) "settled"=some none)
 (yj:PySem.W.findIn K (.ref CE) "reckoned"=some none)
 {aP:Addr} (aPM:PySem.W.nsIn K mainGlobals "PAPERS_OF_MADE"=some (some (.ref aP)))
 {odP:Option Addr}{slP:Array (Option Value)}{tk1 tk2 tk3:Tok}{nP:Nat} (lP:K.lookup aP=some ⟨.type "tuple",odP, .seq #[.str "new" tk1, .str "recipe" tk2, .str "read" tk3] nP,slP⟩)
 (XS:PySem.W.nsIn K mainGlobals "len"=some none)
 (Ol:PySem.W.nsIn K mainGlobals "range"=some none)
 (XX:PySem.W.nsIn K mainGlobals "str"=some none)
 (X3:PySem.W.nsIn K mainGlobals "int"=some none)
 (Sg:PySem.W.nsIn K mainGlobals "list"=some none)
 (Om:PySem.W.nsIn K mainGlobals "tuple"=some none)
 (yl:PySem.W.nsIn K mainGlobals "isinstance"=some none)
 (Sh:PySem.W.nsIn K mainGlobals "bool"=some none)
 (Sq:PySem.W.nsIn K mainGlobals "dict"=some none)
 (X4:PySem.W.nsIn K mainGlobals "sum"=some none)
 (X5:PySem.W.nsIn K mainGlobals "all"=some none)
 (X6:PySem.W.nsIn K mainGlobals "any"=some none)
 (X7:PySem.W.nsIn K mainGlobals "max"=some none)
 (X8:PySem.W.nsIn K mainGlobals "min"=some none)
 (K5:PySem.W.nsIn K mainGlobals "sorted"=some none)
 (Yb:PySem.W.nsIn K mainGlobals "set"=some none)
 (Ai:PySem.W.nsIn K mainGlobals "enumerate"=some none)
 (Yc:PySem.W.nsIn K mainGlobals "zip"=some none)
 (DQ:PySem.W.nsIn K mainGlobals "reversed"=some none)
 (Yd:PySem.W.nsIn K mainGlobals "abs"=some none)
 :∃fd:FuncData,(∀(s:Shared) (v:Value),BindsTo s fd ⟨[v],[]⟩ [("script",v)])/\∀base:Heap,K.In base->base.Ns mainGlobals mg->bf l.prog w K mg base CX0 140 fa fd ["script"] (Tt K):=by
 have e:=hfa.symm.trans (PySem.W.mg_of X G a26)
 cases e
 have qL:FnT K mg "joined" mz ["kind","r","s"] _ _:=iu X G a1 l1 c1 k1 (Gg (fun _ _ _=>rfl))
 have bI:FnT K mg "is_whole_number" cC ["thing"] _ _:=iu X G a2 l2 c2 k2 (Q0 (fun _=>rfl))
 have cM:FnT K mg "is_same" d9 ["told","thing"] _ _:=iu X G a3 l3 c3 k3 (By (fun _ _=>rfl))
 have mJ:FnT K mg "searched" fM ["house","old","wishes"] _ _:=iu X G a4 l4 c4 k4 (Gg (fun _ _ _=>rfl))
 have dM:FnT K mg "build_again" cP ["house","records","wishes"] _ _:=iu X G a5 l5 c5 k5 (Gg (fun _ _ _=>rfl))
 have gP:FnT K mg "paper_of" cL ["house","records","worths","name"] _ _:=iu X G a6 l6 c6 k6 (ZQ (fun _ _ _ _=>rfl))
 have fG:FnT K mg "paper_shows" di ["house","records","worths","name","paper"] _ _:=iu X G a7 l7 c7 k7 (aks (fun _ _ _ _ _=>rfl))
 have ir:FnT K mg "papers_of" cQ ["house","records","wishes"] _ _:=iu X G a8 l8 c8 k8 (Gg (fun _ _ _=>rfl))
 have mV:FnT K mg "chain_of" fc ["papers","records","name"] _ _:=iu X G a9 l9 c9 k9 (Gg (fun _ _ _=>rfl))
 have fD:FnT K mg "_law_cell_at" fW ["script","k"] _ _:=iu X G a10 l10 c10 k10 (By (fun _ _=>rfl))
 have bU:FnT K mg "_law_pool" iM ["script","k"] _ _:=iu X G a11 l11 c11 k11 (By (fun _ _=>rfl))
 have aC:FnT K mg "_law_take" dX ["pool","many"] _ _:=iu X G a12 l12 c12 k12 (By (fun _ _=>rfl))
 have dF:FnT K mg "_law_name" ji ["k"] _ _:=iu X G a13 l13 c13 k13 (Q0 (fun _=>rfl))
 have gm:FnT K mg "_law_leaf" gO ["pool","names"] _ _:=iu X G a14 l14 c14 k14 (By (fun _ _=>rfl))
 have aQ:FnT K mg "_law_recipe" bw ["pool","names","deep"] _ _:=iu X G a15 l15 c15 k15 (Gg (fun _ _ _=>rfl))
 have kW:FnT K mg "_law_house" bM ["script","start","many"] _ _:=iu X G a16 l16 c16 k16 (Gg (fun _ _ _=>rfl))
 have gY:FnT K mg "_law_other" aR ["house","script","start","most"] _ _:=iu X G a17 l17 c17 k17 (ZQ (fun _ _ _ _=>rfl))
 have bV:FnT K mg "_law_value" bQ ["house","r","state","reads"] _ _:=iu X G a18 l18 c18 k18 (ZQ (fun _ _ _ _=>rfl))
 have eN:FnT K mg "_law_look" eZ ["house","name","state","reads"] _ _:=iu X G a19 l19 c19 k19 (ZQ (fun _ _ _ _=>rfl))
 have cI:FnT K mg "_law_settled" bG ["house","name","state"] _ _:=iu X G a20 l20 c20 k20 (Gg (fun _ _ _=>rfl))
 have ig:FnT K mg "_law_fresh" fj ["house","wishes"] _ _:=iu X G a21 l21 c21 k21 (By (fun _ _=>rfl))
 have d8:FnT K mg "_law_wishes" dG ["house","pool"] _ _:=iu X G a22 l22 c22 k22 (By (fun _ _=>rfl))
 have mR:FnT K mg "_law_case" bz ["script"] _ _:=iu X G a23 l23 c23 k23 (Q0 (fun _=>rfl))
 have mW:FnT K mg "_law_fits" cX ["paper","record","worths"] _ _:=iu X G a24 l24 c24 k24 (Gg (fun _ _ _=>rfl))
 have mX:FnT K mg "_law_ends" gA ["chain","papers","records"] _ _:=iu X G a25 l25 c25 k25 (Gg (fun _ _ _=>rfl))
 have XM:FnT K mg "law" dO ["script"] _ _:=iu X G a26 l26 c26 k26 (Q0 (fun _=>rfl))
 have fU:iw K CK "__init__" "Reckoning.__init__" cN ["self","r"] _ _:=⟨lR adz adA ZW,Binds.all (By (fun _ _=>rfl)),⟨ZS,ZV,ZW⟩⟩
 have eY:iw K CK "lacking" "Reckoning.lacking" cz ["self","known"] _ _:=⟨lR adD adE ZZ,Binds.all (By (fun _ _=>rfl)),⟨adB,adC,ZZ⟩⟩
 have gb:iw K CK "go_on" "Reckoning.go_on" aU ["self","step"] _ _:=⟨lR adH adI Z1,Binds.all (By (fun _ _=>rfl)),⟨adF,adG,Z1⟩⟩
 have amG:Cls K CK:=⟨adJ,adK,adL,adM⟩
 have zL:Mk K CK _:=⟨adN,ZS,ZV,adO⟩
 have zM:=PySem.W.mg_of X G ACK
 have eE:iw K CN "__init__" "NamedRecords.__init__" bY ["self","records"] _ _:=⟨lR adP adQ Z5,Binds.all (By (fun _ _=>rfl)),⟨Z3,Z4,Z5⟩⟩
 have cD:iw K CN "records_for" "NamedRecords.records_for" aX ["self","name","r"] _ _:=⟨lR adT adU Z7,Binds.all (Gg (fun _ _ _=>rfl)),⟨adR,adS,Z7⟩⟩
 have cW:iw K CN "put_made" "NamedRecords.put_made" cV ["self","record"] _ _:=⟨lR adX adY Z9,Binds.all (By (fun _ _=>rfl)),⟨adV,adW,Z9⟩⟩
 have amH:Cls K CN:=⟨adZ,ad0,ad1,ad2⟩
 have tG:Mk K CN _:=⟨ad3,Z3,Z4,ad4⟩
 have tH:=PySem.W.mg_of X G ACN
 have gB:iw K CS "__init__" "Settling.__init__" cA ["self","r","records"] _ _:=⟨lR ad5 ad6 aad,Binds.all (Gg (fun _ _ _=>rfl)),⟨aab,aac,aad⟩⟩
 have fL:iw K CS "lacking" "Settling.lacking" bJ ["self","known"] _ _:=⟨lR ad9 aea aaf,Binds.all (By (fun _ _=>rfl)),⟨ad7,ad8,aaf⟩⟩
 have gj:iw K CS "fit_on" "Settling.fit_on" d7 ["self","worth"] _ _:=⟨lR aed aee aah,Binds.all (By (fun _ _=>rfl)),⟨aeb,aec,aah⟩⟩
 have bD:iw K CS "was_reckoned" "Settling.was_reckoned" bN ["self"] _ _:=⟨lR aeh aei aaj,Binds.all (Q0 (fun _=>rfl)),⟨aef,aeg,aaj⟩⟩
 have dU:iw K CS "new_record" "Settling.new_record" cF ["self"] _ _:=⟨lR ael aem aal,Binds.all (Q0 (fun _=>rfl)),⟨aej,aek,aal⟩⟩
 have amI:Cls K CS:=⟨aen,aeo,aep,aeq⟩
 have Cz:Mk K CS _:=⟨aer,aab,aac,aes⟩
 have CG:=PySem.W.mg_of X G ACS
 have iC:iw K CE "__init__" "Search.__init__" cZ ["self","house","old"] _ _:=⟨lR aet aeu aap,Binds.all (Gg (fun _ _ _=>rfl)),⟨aan,aao,aap⟩⟩
 have jh:iw K CE "begin" "Search.begin" dI ["self","name"] _ _:=⟨lR aex aey aar,Binds.all (By (fun _ _=>rfl)),⟨aev,aew,aar⟩⟩
 have lu:iw K CE "end" "Search.end" fJ ["self","name","settling"] _ _:=⟨lR aeB aeC aat,Binds.all (Gg (fun _ _ _=>rfl)),⟨aez,aeA,aat⟩⟩
 have jN:iw K CE "made" "Search.made" gR ["self"] _ _:=⟨lR aeF aeG aav,Binds.all (Q0 (fun _=>rfl)),⟨aeD,aeE,aav⟩⟩
 have jO:iw K CE "kept" "Search.kept" gU ["self"] _ _:=⟨lR aeJ aeK aax,Binds.all (Q0 (fun _=>rfl)),⟨aeH,aeI,aax⟩⟩
 have iK:iw K CE "settle" "Search.settle" bL ["self","name"] _ _:=⟨lR aeN aeO aaz,Binds.all (By (fun _ _=>rfl)),⟨aeL,aeM,aaz⟩⟩
 have amJ:Cls K CE:=⟨aeP,aeQ,aeR,aeS⟩
 have Ky:Mk K CE _:=⟨aeT,aan,aao,aeU⟩
 have Kz:=PySem.W.mg_of X G ACE
 have T:Blt mg:=⟨PySem.W.mg_none_of X G XS,PySem.W.mg_none_of X G Ol,PySem.W.mg_none_of X G XX,PySem.W.mg_none_of X G X3,PySem.W.mg_none_of X G Sg,PySem.W.mg_none_of X G Om,PySem.W.mg_none_of X G yl,PySem.W.mg_none_of X G Sh,PySem.W.mg_none_of X G Sq,PySem.W.mg_none_of X G X4,PySem.W.mg_none_of X G X5,PySem.W.mg_none_of X G X6,PySem.W.mg_none_of X G X7,PySem.W.mg_none_of X G X8,PySem.W.mg_none_of X G K5,PySem.W.mg_none_of X G Yb,PySem.W.mg_none_of X G Ai,PySem.W.mg_none_of X G Yc,PySem.W.mg_none_of X G DQ,PySem.W.mg_none_of X G Yd⟩
 refine⟨PySem.W.fnOf "law" "law" (bA dO) (bh dO) (aa dO) .none agZ ag0 ag1 agI ady ag2,fun s v=> .of_eq rfl,fun base _ _=> ?_⟩
 have mP:=PySem.W.mg_of X G aPM
 have hPM:∀H,SqT K H aP [.str "new", .str "recipe", .str "read"]:=fun H=> .inr ⟨_,_,_,lP,rfl,rfl,(by show 3<=sizeLine;rw[sizeLine_eq];decide), .cons ⟨tk1,rfl⟩ (.cons ⟨tk2,rfl⟩ (.cons ⟨tk3,rfl⟩ .nil))⟩
 have rkc:RkC K CK:=⟨amG,K4,Hy,Hz⟩
 have nrc:NrC K CN:=⟨amH,Ae⟩
 have sec:SeC K CS:=⟨amI,DP,Af,HB,vH⟩
 have src:SrC K CE:=⟨amJ,HD,Ag,Oj,HF,Ah,yj⟩
 have D1:=Vh (P:=l.prog) (w:=w) (base:=base) qL T
 have D2:=yD (P:=l.prog) (w:=w) (base:=base) (mg:=mg) fU rkc
 have D3:=Cm (P:=l.prog) (w:=w) (base:=base) gb qL D1 T rkc
 have D4:=zx (P:=l.prog) (w:=w) (base:=base) eY gb D3 T rkc
 have D5:=Cq (P:=l.prog) (w:=w) (base:=base) bI T kd
 have D6:=Kq (P:=l.prog) (w:=w) (base:=base) cM bI D5 T kd 10
 have D7:=uX (P:=l.prog) (w:=w) (base:=base) (mg:=mg) eE nrc
 have D8:=uZ (P:=l.prog) (w:=w) (base:=base) (mg:=mg) cW
 have D9:=sE (P:=l.prog) (w:=w) (base:=base) cD cM D6 T nrc
 have C1:=zJ (P:=l.prog) (w:=w) (base:=base) gB fU D2 zL zM sec
 have C2:=u5 (P:=l.prog) (w:=w) (base:=base) bD T sec
 have C3:=Cv (P:=l.prog) (w:=w) (base:=base) (mg:=mg) gj sec
 have C4:=Ay (P:=l.prog) (w:=w) (base:=base) fL gj C3 eY D4 T sec rkc
 have C5:=xK (P:=l.prog) (w:=w) (base:=base) dU bD C2 T sec rkc
 have C6:=Cy (P:=l.prog) (w:=w) (base:=base) (mg:=mg) iC src
 have C7:=Ip (P:=l.prog) (w:=w) (base:=base) jh cD D9 gB C1 Cz CG T src nrc
 have C8:=Lj (P:=l.prog) (w:=w) (base:=base) lu dU C5 bD C2 cW D8 T src sec nrc
 have C9:=GD (P:=l.prog) (w:=w) (base:=base) iK jh C7 fL C4 lu C8 T src sec
 have CA:=Ku (P:=l.prog) (w:=w) (base:=base) jN T src
 have CB:=Kw (P:=l.prog) (w:=w) (base:=base) jO T src
 have CC:=Ql (P:=l.prog) (w:=w) (base:=base) mJ iC C6 iK C9 Ky Kz T src
 have DA:=KC (P:=l.prog) (w:=w) (base:=base) dM mJ CC eE D7 tG tH jN CA jO CB T src
 have F1:=KH (P:=l.prog) (w:=w) (base:=base) fD T
 have F2:=Qn (P:=l.prog) (w:=w) (base:=base) bU fD F1 T
 have F3:=Qo (P:=l.prog) (w:=w) (base:=base) aC T
 have F4:=Qp (P:=l.prog) (w:=w) (base:=base) dF T
 have F5:=Qs (P:=l.prog) (w:=w) (base:=base) gm aC F3 T
 have F6:=KJ (P:=l.prog) (w:=w) (base:=base) aQ aC F3 gm F5 T
 have F7:=N6 (P:=l.prog) (w:=w) (base:=base) kW aC F3 bU F2 dF F4 aQ F6 T
 have F8:=N7 (P:=l.prog) (w:=w) (base:=base) gY aC F3 bU F2 dF F4 aQ F6 T
 have F9:=zX (P:=l.prog) (w:=w) (base:=base) cI bV eN T 17
 have E1:=Oa (P:=l.prog) (w:=w) (base:=base) ig cI F9 T
 have E2:=Lq (P:=l.prog) (w:=w) (base:=base) d8 aC F3 T
 have E3:=Qv (P:=l.prog) (w:=w) (base:=base) mR aC F3 bU F2 kW F7 gY F8 ig E1 d8 E2 T
 have E5:=Qz (P:=l.prog) (w:=w) (base:=base) gP cM D6 T
 have E4:=K1 (P:=l.prog) (w:=w) (base:=base) fG cM D6 gP E5 T
 have E6:=Ob (P:=l.prog) (w:=w) (base:=base) ir dM DA gP E5 T
 have E7:=QB (P:=l.prog) (w:=w) (base:=base) mV T mP hPM
 have E8:=QC (P:=l.prog) (w:=w) (base:=base) mW T
 have E9:=QD (P:=l.prog) (w:=w) (base:=base) mX T
 exact adv XM mR E3 dM DA ir E6 fG E4 mW E8 mV E7 mX E9 T
theorem walk {l:PySem.W.OpenLaw}{q:Program}{loose:List Str}{XP:(Str->Option Value)->Heap->Prop}{YP:World->Heap->Prop}{d:DefRec}{K:Params->PySem.W.Frag} (hn:l.most=some 63) (hdf:d.params.defaults=[])
 (hY:∀(w:World) (h:Heap),YP w h->(K w.params).In h)
 (F:∀(w:World) (mg:Str->Option Value) (fa:Addr) (h:Heap),(K w.params).In h->h.Ns mainGlobals mg->mg d.name=some (.ref fa)->
   ∃fd:FuncData,(∀(s:Shared) (u:Value),BindsTo s fd ⟨[u],[]⟩ [("script",u)])/\∀base:Heap,(K w.params).In base->base.Ns mainGlobals mg->bf l.prog w (K w.params) mg base CX0 140 fa fd ["script"] (Tt (K w.params))):
 PySem.W.WalkO q loose XP YP l.row.toRowW d [] (fun f vs=>PySem.call f vs):=
 L2.Tg (n:=63) (k:=140) (x:="script") (CX:=fun _=>CX0) (sp:=fun w=>Tt (K w.params)) hn (by decide) hdf ⟨rfl,by decide,by decide⟩ hY F (fun _ _ a ns hl _ hS=>⟨a,ns,rfl,hS,hl,fun _=>rfl⟩) fun _ _ _ _ _ z=>z
end K34
open PySem PySem.W PyProof.Rows
namespace PySem.W.Fast
def tw1944053486035198074:Nat:=0
def tw17339162141518551294:Nat:=0
def tw10569647409419237064:Nat:=0
def tw13665057373638072000:Nat:=0
def tw4798292774045473911:Nat:=0
def tw4153099545448880003:Nat:=0
def tw16336606318311130847:Nat:=0
def tw2426254362970920225:Nat:=0
def tw16123344948579121603:Nat:=0
def tw14556671702066668333:Nat:=0
def tw10767352266183888140:Nat:=0
def tw6969474317534250212:Nat:=0
def tw7954533015262389567:Nat:=0
def tw10879640834732577873:Nat:=0
def tw5717017397870639182:Nat:=0
def tw6934013066689083309:Nat:=0
def tw15989320509675244585:Nat:=0
def tw15175282035693205320:Nat:=0
def tw1193802465033242848:Nat:=0
def tw15685797366939075286:Nat:=0
def tw3474407457361328713:Nat:=0
def tw8975587077218586123:Nat:=0
def tw15798069257720408220:Nat:=0
def tw453279660131553089:Nat:=0
def tw7513964663687196965:Nat:=0
def tw1750842295831640742:Nat:=0
def tw5895723648725920789:Nat:=0
def tw3149415823772337407:Nat:=0
def tw16771782831947395328:Nat:=0
def tw8461669570624146515:Nat:=0
def tw9747447989442944152:Nat:=0
def tw3949965110469357640:Nat:=0
def tw839497651115454302:Nat:=0
def tw3787706724382876205:Nat:=0
def tw769342622158743909:Nat:=0
def tw9672779349868494963:Nat:=0
def tw6388047513653701484:Nat:=0
def tw6333934018113178623:Nat:=0
def tw1859403160299294864:Nat:=0
def tw3098258278976730716:Nat:=0
def tw6048718994111891593:Nat:=0
def tw3072395684721615122:Nat:=0
def tw10782545121728658846:Nat:=0
def tw8148539457844689365:Nat:=0
def tw17624992243723256032:Nat:=0
def tw18038746669711019098:Nat:=0
def tw3731225635611638508:Nat:=0
def tw2930200578352935104:Nat:=0
def tw9677688451955066255:Nat:=0
def tw10785264702610713368:Nat:=0
def tw5030126441529668747:Nat:=0
def tw4248198267653226478:Nat:=0
def tw10402665425101524443:Nat:=0
def tw4673485368323744383:Nat:=0
def tw13584832320213110052:Nat:=0
def tw2153444037946182307:Nat:=0
def tw17811366191695825733:Nat:=0
def tw15008406301119600229:Nat:=0
def tw5842321228401415201:Nat:=0
def tw14591474710036629927:Nat:=0
def tw13394168588014746140:Nat:=0
def tw2303203609455783073:Nat:=0
def tw11424280247750389828:Nat:=0
def tw1159627412924281395:Nat:=0
def tw10110604868990209646:Nat:=0
def tw7703328530215395174:Nat:=0
def tw11181168207595722445:Nat:=0
def tw10320107269701406010:Nat:=0
def tw15618090233773883756:Nat:=0
def tw17045794467503462123:Nat:=0
def tw1049017747819741762:Nat:=0
def tw18351562619744875586:Nat:=0
def tw3044766492372726656:Nat:=0
def tw10200425144756923924:Nat:=0
def tw15565272687566743969:Nat:=0
def tw12630785500959084713:Nat:=0
def tw6856346296338749662:Nat:=0
def tw5853439554427843518:Nat:=0
def tw12173279451026903059:Nat:=0
def tw390896844902076177:Nat:=0
def tw11335893799238541950:Nat:=0
def tw9888772715891323043:Nat:=0
def tw1317545926783677290:Nat:=0
def tw16196478815255956682:Nat:=0
def tw17249085321451701908:Nat:=0
def tw5276471420813915290:Nat:=0
def tw5771865303591039615:Nat:=0
def tw5434565901708307348:Nat:=0
def tw7940843303012139252:Nat:=0
def tw9508673037894151245:Nat:=0
def tw11473464082849994835:Nat:=0
def tw13415814528013700685:Nat:=0
def tw1878286484549640229:Nat:=0
def tw534264906884296437:Nat:=0
def tw7717754779038256509:Nat:=0
def tw1660946550764781844:Nat:=0
def tw8900963762912146367:Nat:=0
def tw2444986717198217822:Nat:=0
def tw12293449464458225522:Nat:=0
def tw11677073032981817402:Nat:=0
def tw10581913142317128412:Nat:=0
def tw17336852311823503482:Nat:=0
def tw2800140747817706186:Nat:=0
def tw6380369607379716243:Nat:=0
def tw12491390392232063558:Nat:=0
def tw477033347973039354:Nat:=0
def tw17047373490640121618:Nat:=0
def tw18117577701455548512:Nat:=0
def tw11902489227546671935:Nat:=0
def tw16153408865210501119:Nat:=0
def tw6547622121643749343:Nat:=0
def tw17348555984151342067:Nat:=0
def tw11574732027995284127:Nat:=0
def tw12085172450522790873:Nat:=0
def tw14169210386341331792:Nat:=0
def tw17417902842008290990:Nat:=0
def tw11654299968088273990:Nat:=0
def tw12690711259186434942:Nat:=0
def tw8438199388052195454:Nat:=0
def tw3169672870407471675:Nat:=0
def tw16144129700192892990:Nat:=0
def tw16043614075015802423:Nat:=0
def tw18164053912096049500:Nat:=0
def tw11357057097021704411:Nat:=0
def tw15267504707962825770:Nat:=0
def tw18445562835751684889:Nat:=0
def tw16899370580125541163:Nat:=0
def tw5947347277839492575:Nat:=0
def tw10894129540961225257:Nat:=0
def tw10305250481034811832:Nat:=0
def tw13147516169706887623:Nat:=0
def tw5025937711937517785:Nat:=0
def tw12138670693926759442:Nat:=0
def tw16164625547130641017:Nat:=0
def tw5967923867758237949:Nat:=0
def tw8650295522823089262:Nat:=0
def tw16305470746605017851:Nat:=0
def tw16205658578433419562:Nat:=0
def tw3522851983617091765:Nat:=0
def tw17562108411213825900:Nat:=0
def tw11598127536563037316:Nat:=0
def tw4963368417657545754:Nat:=0
def tw18187055855618891258:Nat:=0
def tw5316606332498385427:Nat:=0
def tw9377783492568863966:Nat:=0
def tw16895039018783395027:Nat:=0
def tw3668195291693296611:Nat:=0
def tw13768458024358206400:Nat:=0
def tw13073705325368874837:Nat:=0
def tw15936205004247722800:Nat:=0
def tw9958525326713678636:Nat:=0
def tw17375546894393948389:Nat:=0
def tw7251898520518075022:Nat:=0
def tw6080912061273003149:Nat:=0
def tw306993227666435739:Nat:=0
def tw10599605736160054536:Nat:=0
def tw679090741521980717:Nat:=0
def tw6509074151816297794:Nat:=0
def tw13269934794405032000:Nat:=0
def tw16440909362732189890:Nat:=0
def tw13862293577755177536:Nat:=0
def tw10167995871540560703:Nat:=0
def tw5600240033911271383:Nat:=0
def tw1622705868933392243:Nat:=0
def tw2495519003806440985:Nat:=0
def tw13089395309611606395:Nat:=0
def tw10253241000019899749:Nat:=0
def tw18323692347878679282:Nat:=0
def tw5035618319899756830:Nat:=0
def tw316183246364766619:Nat:=0
def tw15155487919477774757:Nat:=0
def tw2529534088529846884:Nat:=0
def tw1550896984364195404:Nat:=0
def tw3049652754174404585:Nat:=0
def tw1182275474650730617:Nat:=0
def tw1443819658337157515:Nat:=0
def tw2797491381872151400:Nat:=0
def tw16685319625897022025:Nat:=0
def tw11439563510757037738:Nat:=0
def tw4264822954498369381:Nat:=0
def tw4731383191243525095:Nat:=0
def tw8338414836550391011:Nat:=0
def tw6689151896995851702:Nat:=0
def tw10457528292477432833:Nat:=0
def tw842122587426095837:Nat:=0
def tw2371278378334796451:Nat:=0
def tw9791989321091574692:Nat:=0
def tw7223780643841420195:Nat:=0
def tw7263433916555690769:Nat:=0
def tw3275798393367987418:Nat:=0
def tw13477387200864807178:Nat:=0
def tw6069882986150696736:Nat:=0
def tw10162843315923411574:Nat:=0
def tw7713785116459592484:Nat:=0
def tw6215221379597166669:Nat:=0
def tw14211099840481091552:Nat:=0
def tw10575254039676239384:Nat:=0
def tw13185883916597521163:Nat:=0
def tw4559530328484839571:Nat:=0
def tw17126195580584695567:Nat:=0
def tw5587843814303762034:Nat:=0
def tw12459784610998778879:Nat:=0
def tw7666245325745114873:Nat:=0
def tw3932843238187203729:Nat:=0
def tw77903221251430570:Nat:=0
def tw4159078096035068565:Nat:=0
def tw9791178869680365111:Nat:=0
def tw10871804470977190912:Nat:=0
def tw11351917118461082751:Nat:=0
def tw9576795768975399829:Nat:=0
def tw719488976289467573:Nat:=0
def tw3071777486270549227:Nat:=0
def tw1827144471353097601:Nat:=0
def tw13216291476487864006:Nat:=0
def tw9119841619852480949:Nat:=0
def tw9912245507782900097:Nat:=0
def tw16657874114486384669:Nat:=0
def tw8510447335829201614:Nat:=0
def tw10791544035772650463:Nat:=0
def tw17119151927076126998:Nat:=0
def tw1578265359556441969:Nat:=0
def tw17402736471042370491:Nat:=0
def tw10353052372687506146:Nat:=0
def tw10800286042979057178:Nat:=0
def tw14541977287398874734:Nat:=0
def tw17766034117311003608:Nat:=0
def tw10274048402993663272:Nat:=0
def tw12409324539469243338:Nat:=0
def tw9259101376681882551:Nat:=0
def tw11526116515929240243:Nat:=0
def tw7549307303197478668:Nat:=0
def tw1265339466979114660:Nat:=0
def tw9241785135857535542:Nat:=0
def tw3079936854293812962:Nat:=0
def tw9371979902880530933:Nat:=0
def tw13240413431721362354:Nat:=0
def tw13188725934722568054:Nat:=0
def tw3590825010628045700:Nat:=0
def tw11215564539230888610:Nat:=0
def tw644207309181090682:Nat:=0
def tw13951760213869720360:Nat:=0
def tw13689576721160656019:Nat:=0
def tw5484630350723251019:Nat:=0
def tw97498213531447909:Nat:=0
def tw8162951184835095228:Nat:=0
def tw17837564085214203077:Nat:=0
def tw1918566296876211509:Nat:=0
def tw11444595273407368226:Nat:=0
def tw15266811485928702858:Nat:=0
def tw11103123648912956173:Nat:=0
def tw8971137870084948670:Nat:=0
def tw12647440425880072492:Nat:=0
def tw8370348912628169881:Nat:=0
def tw10081024207900988598:Nat:=0
def tw11508786208481382031:Nat:=0
def tw9792761713291418405:Nat:=0
def tw155783983421989043:Nat:=0
def tw293049432350171586:Nat:=0
def tw12500170108982776741:Nat:=0
def tw11875575158111117054:Nat:=0
def tw4813227560779765556:Nat:=0
def tw15360046028396382366:Nat:=0
def tw17671713532673904828:Nat:=0
def tw15248205680196610317:Nat:=0
def tw13743831075591175287:Nat:=0
def tw414241295130518547:Nat:=0
def tw7432142928509829728:Nat:=0
def tw16928156102833984456:Nat:=0
def tw7836816708139667453:Nat:=0
def tw8640834396858388454:Nat:=0
def tw9292549453478712018:Nat:=0
def tw5844085795313283427:Nat:=0
def tw1562110181981466024:Nat:=0
def tw13135708788169451584:Nat:=0
def tw16078919650712917009:Nat:=0
def tw9492537219253801859:Nat:=0
def tw9230289882201471682:Nat:=0
def tw8803645603584896159:Nat:=0
def tw14132056252321777636:Nat:=0
def tw14799823854110024063:Nat:=0
def tw3051828861877976196:Nat:=0
def tw14228338737254325135:Nat:=0
def tw17499708739222262342:Nat:=0
def tw10425739680607222757:Nat:=0
def tw18018874114326272778:Nat:=0
def tw5686622683967539315:Nat:=0
def tw12267883587433270958:Nat:=0
def tw3961569292348207974:Nat:=0
def tw6745217900152826460:Nat:=0
def tw6834359240115947214:Nat:=0
def tw13701528815918788230:Nat:=0
def tw3040854805365954963:Nat:=0
def tw7089665616413347816:Nat:=0
def tw12130849221335786614:Nat:=0
def tw6515803348389552935:Nat:=0
def tw4251642028203224242:Nat:=0
def tw12990733851958452704:Nat:=0
def tw5982932545377373723:Nat:=0
def tw12669117852848253153:Nat:=0
def tw4844193979570605788:Nat:=0
def tw744055912792161865:Nat:=0
def tw17881795243599950962:Nat:=0
def tw6369588527474331569:Nat:=0
def tw7921315009593960175:Nat:=0
def tw4100233801288220248:Nat:=0
def tw16855396850036571481:Nat:=0
def tw17799889409387541683:Nat:=0
def tw4955290273724407250:Nat:=0
def tw8700577698222835075:Nat:=0
def tw12475388292681061105:Nat:=0
def tw6181639967120616202:Nat:=0
def tw5715379261989649790:Nat:=0
def tw3461059260043686981:Nat:=0
def tw2218997277263646648:Nat:=0
def tw3690445198382991776:Nat:=0
def tw11929160821285149323:Nat:=0
def tw14244615887747527283:Nat:=0
def tw11886277677568146047:Nat:=0
def tw15482235185434494652:Nat:=0
def tw16518472739464921098:Nat:=0
def tw14126750158380986156:Nat:=0
def tw3306185698838349148:Nat:=0
def tw16466104482665883173:Nat:=0
def tw2730628917199334959:Nat:=0
def tw2019737439569572715:Nat:=0
def tw16460455709121843584:Nat:=0
def tw14778237895401270163:Nat:=0
def tw7386585349307318595:Nat:=0
def tw14350468175209472449:Nat:=0
def tw6016185418463858945:Nat:=0
def tw2629330078290701589:Nat:=0
def tw13041595095066759664:Nat:=0
def tw4330565476658184136:Nat:=0
def tw10221256633670098296:Nat:=0
def tw12375239663850169448:Nat:=0
def tw6573647695161328411:Nat:=0
def tw14874783532753527269:Nat:=0
def tw387399871599932498:Nat:=0
def tw8226353469522744807:Nat:=0
def tw482775976127909000:Nat:=0
def tw17549297569115931318:Nat:=0
def tw9061375352221144717:Nat:=0
def tw15713608325641398571:Nat:=0
def tw3869982227049536022:Nat:=0
def tw8937220452766255499:Nat:=0
def tw13160901470571167980:Nat:=0
def tw10910112666217692397:Nat:=0
def tw1893100386050304813:Nat:=0
def tw14713056614521159728:Nat:=0
def tw938049799780432289:Nat:=0
def tw6157470697693122066:Nat:=0
def tw10608950809856902593:Nat:=0
def tw3615875732663151373:Nat:=0
def tw15278185287214407722:Nat:=0
def tw4719796880973102719:Nat:=0
def tw14034051067852086906:Nat:=0
def tw13357643158969650411:Nat:=0
def tw2192441153136172044:Nat:=0
def tw497793000301774165:Nat:=0
def tw16990440335653289779:Nat:=0
def tw17535080187925780272:Nat:=0
def tw4320618137095738711:Nat:=0
def tw3965955435723626786:Nat:=0
def tw5845617399881616557:Nat:=0
def tw10101529584818472274:Nat:=0
def tw9750202061666493656:Nat:=0
def tw14778424806200870761:Nat:=0
def tw10090877549646827916:Nat:=0
def tw13640910285238898635:Nat:=0
def tw799293199946307517:Nat:=0
def tw5593210295145325640:Nat:=0
def tw14235185896551227655:Nat:=0
def tw2052421631684738746:Nat:=0
def tw16006887350538319005:Nat:=0
def tw15780298670520683740:Nat:=0
def tw15131215392148147067:Nat:=0
def tw9533517450669711882:Nat:=0
def tw143088036198318321:Nat:=0
def tw12774623237604113710:Nat:=0
def tw14919716262937170769:Nat:=0
def tw10171226042176822670:Nat:=0
def tw2930371608981675618:Nat:=0
def tw9529053524050910335:Nat:=0
def tw4362887770825834427:Nat:=0
def tw7693472257548565310:Nat:=0
def tw17413201609837844480:Nat:=0
def tw7386181231774857831:Nat:=0
def tw192302866552783289:Nat:=0
def tw10782079390979340239:Nat:=0
end PySem.W.Fast
set_option maxRecDepth 100000 in
set_option maxHeartbeats 0 in
theorem PySem.Challenge.cw_madeagain_k34_whole_papers_of_builds_holds : PySem.Challenge.rw_madeagain_k34_whole_papers_of_builds.Holds := by
 w_on;o_law;k_head;(case hw=>w_witness2)
 k_fill
 refine K34.walk (l:=PySem.Challenge.rw_madeagain_k34_whole_papers_of_builds) rfl rfl (fun w h Y=>PySem.W.kIn_of Y) ?F
 case F=>
  intro w mg fa h KX G hmg
  refine' K34.all_mk KX G hmg ?a1 ?l1 ?c1 ?k1 ?a2 ?l2 ?c2 ?k2 ?a3 ?l3 ?c3 ?k3 ?a4 ?l4 ?c4 ?k4 ?a5 ?l5 ?c5 ?k5 ?a6 ?l6 ?c6 ?k6 ?a7 ?l7 ?c7 ?k7 ?a8 ?l8 ?c8 ?k8 ?a9 ?l9 ?c9 ?k9 ?a10 ?l10 ?c10 ?k10 ?a11 ?l11 ?c11 ?k11 ?a12 ?l12 ?c12 ?k12 ?a13 ?l13 ?c13 ?k13 ?a14 ?l14 ?c14 ?k14 ?a15 ?l15 ?c15 ?k15 ?a16 ?l16 ?c16 ?k16 ?a17 ?l17 ?c17 ?k17 ?a18 ?l18 ?c18 ?k18 ?a19 ?l19 ?c19 ?k19 ?a20 ?l20 ?c20 ?k20 ?a21 ?l21 ?c21 ?k21 ?a22 ?l22 ?c22 ?k22 ?a23 ?l23 ?c23 ?k23 ?a24 ?l24 ?c24 ?k24 ?a25 ?l25 ?c25 ?k25 ?a26 ?l26 ?c26 ?k26 ?kd ?ACK ?ZS ?ZV ?adz ?adA ?ZW ?adB ?adC ?adD ?adE ?ZZ ?adF ?adG ?adH ?adI ?Z1 ?adJ ?adK ?adL ?adM ?adN ?adO ?K4 ?Hy ?Hz ?ACN ?Z3 ?Z4 ?adP ?adQ ?Z5 ?adR ?adS ?adT ?adU ?Z7 ?adV ?adW ?adX ?adY ?Z9 ?adZ ?ad0 ?ad1 ?ad2 ?ad3 ?ad4 ?Ae ?ACS ?aab ?aac ?ad5 ?ad6 ?aad ?ad7 ?ad8 ?ad9 ?aea ?aaf ?aeb ?aec ?aed ?aee ?aah ?aef ?aeg ?aeh ?aei ?aaj ?aej ?aek ?ael ?aem ?aal ?aen ?aeo ?aep ?aeq ?aer ?aes ?DP ?Af ?HB ?vH ?ACE ?aan ?aao ?aet ?aeu ?aap ?aev ?aew ?aex ?aey ?aar ?aez ?aeA ?aeB ?aeC ?aat ?aeD ?aeE ?aeF ?aeG ?aav ?aeH ?aeI ?aeJ ?aeK ?aax ?aeL ?aeM ?aeN ?aeO ?aaz ?aeP ?aeQ ?aeR ?aeS ?aeT ?aeU ?HD ?Ag ?Oj ?HF ?Ah ?yj ?aPM ?lP ?XS ?Ol ?XX ?X3 ?Sg ?Om ?yl ?Sh ?Sq ?X4 ?X5 ?X6 ?X7 ?X8 ?K5 ?Yb ?Ai ?Yc ?DQ ?Yd
  (case a1=>k_is);(case l1=>k_is);(case c1=>k_is);(case k1=>k_is)
  (case a2=>k_is);(case l2=>k_is);(case c2=>k_is);(case k2=>k_is)
  (case a3=>k_is);(case l3=>k_is);(case c3=>k_is);(case k3=>k_is)
  (case a4=>k_is);(case l4=>k_is);(case c4=>k_is);(case k4=>k_is)
  (case a5=>k_is);(case l5=>k_is);(case c5=>k_is);(case k5=>k_is)
  (case a6=>k_is);(case l6=>k_is);(case c6=>k_is);(case k6=>k_is)
  (case a7=>k_is);(case l7=>k_is);(case c7=>k_is);(case k7=>k_is)
  (case a8=>k_is);(case l8=>k_is);(case c8=>k_is);(case k8=>k_is)
  (case a9=>k_is);(case l9=>k_is);(case c9=>k_is);(case k9=>k_is)
  (case a10=>k_is);(case l10=>k_is);(case c10=>k_is);(case k10=>k_is)
  (case a11=>k_is);(case l11=>k_is);(case c11=>k_is);(case k11=>k_is)
  (case a12=>k_is);(case l12=>k_is);(case c12=>k_is);(case k12=>k_is)
  (case a13=>k_is);(case l13=>k_is);(case c13=>k_is);(case k13=>k_is)
  (case a14=>k_is);(case l14=>k_is);(case c14=>k_is);(case k14=>k_is)
  (case a15=>k_is);(case l15=>k_is);(case c15=>k_is);(case k15=>k_is)
  (case a16=>k_is);(case l16=>k_is);(case c16=>k_is);(case k16=>k_is)
  (case a17=>k_is);(case l17=>k_is);(case c17=>k_is);(case k17=>k_is)
  (case a18=>k_is);(case l18=>k_is);(case c18=>k_is);(case k18=>k_is)
  (case a19=>k_is);(case l19=>k_is);(case c19=>k_is);(case k19=>k_is)
  (case a20=>k_is);(case l20=>k_is);(case c20=>k_is);(case k20=>k_is)
  (case a21=>k_is);(case l21=>k_is);(case c21=>k_is);(case k21=>k_is)
  (case a22=>k_is);(case l22=>k_is);(case c22=>k_is);(case k22=>k_is)
  (case a23=>k_is);(case l23=>k_is);(case c23=>k_is);(case k23=>k_is)
  (case a24=>k_is);(case l24=>k_is);(case c24=>k_is);(case k24=>k_is)
  (case a25=>k_is);(case l25=>k_is);(case c25=>k_is);(case k25=>k_is)
  (case a26=>k_is);(case l26=>k_is);(case c26=>k_is);(case k26=>k_is)
  (case kd=>exact RB.Wo (by kernel_rfl))
  (case ACK=>k_is);(case ZS=>k_is);(case ZV=>k_is);(case adz=>k_is);(case adA=>k_is);(case ZW=>k_is);(case adB=>k_is);(case adC=>k_is);(case adD=>k_is);(case adE=>k_is);(case ZZ=>k_is);(case adF=>k_is);(case adG=>k_is);(case adH=>k_is);(case adI=>k_is);(case Z1=>k_is);(case adJ=>k_is);(case adK=>k_is);(case adL=>k_is);(case adM=>k_is);(case adN=>k_is);(case adO=>k_is);(case K4=>k_is);(case Hy=>k_is);(case Hz=>k_is);(case ACN=>k_is);(case Z3=>k_is);(case Z4=>k_is);(case adP=>k_is);(case adQ=>k_is);(case Z5=>k_is);(case adR=>k_is);(case adS=>k_is);(case adT=>k_is);(case adU=>k_is);(case Z7=>k_is);(case adV=>k_is);(case adW=>k_is);(case adX=>k_is);(case adY=>k_is);(case Z9=>k_is);(case adZ=>k_is);(case ad0=>k_is);(case ad1=>k_is);(case ad2=>k_is);(case ad3=>k_is);(case ad4=>k_is);(case Ae=>k_is);(case ACS=>k_is);(case aab=>k_is);(case aac=>k_is);(case ad5=>k_is);(case ad6=>k_is);(case aad=>k_is);(case ad7=>k_is);(case ad8=>k_is);(case ad9=>k_is);(case aea=>k_is);(case aaf=>k_is);(case aeb=>k_is);(case aec=>k_is);(case aed=>k_is);(case aee=>k_is);(case aah=>k_is);(case aef=>k_is);(case aeg=>k_is);(case aeh=>k_is);(case aei=>k_is);(case aaj=>k_is);(case aej=>k_is);(case aek=>k_is);(case ael=>k_is);(case aem=>k_is);(case aal=>k_is);(case aen=>k_is);(case aeo=>k_is);(case aep=>k_is);(case aeq=>k_is);(case aer=>k_is);(case aes=>k_is);(case DP=>k_is);(case Af=>k_is);(case HB=>k_is);(case vH=>k_is);(case ACE=>k_is);(case aan=>k_is);(case aao=>k_is);(case aet=>k_is);(case aeu=>k_is);(case aap=>k_is);(case aev=>k_is);(case aew=>k_is);(case aex=>k_is);(case aey=>k_is);(case aar=>k_is);(case aez=>k_is);(case aeA=>k_is);(case aeB=>k_is);(case aeC=>k_is);(case aat=>k_is);(case aeD=>k_is);(case aeE=>k_is);(case aeF=>k_is);(case aeG=>k_is);(case aav=>k_is);(case aeH=>k_is);(case aeI=>k_is);(case aeJ=>k_is);(case aeK=>k_is);(case aax=>k_is);(case aeL=>k_is);(case aeM=>k_is);(case aeN=>k_is);(case aeO=>k_is);(case aaz=>k_is);(case aeP=>k_is);(case aeQ=>k_is);(case aeR=>k_is);(case aeS=>k_is);(case aeT=>k_is);(case aeU=>k_is);(case HD=>k_is);(case Ag=>k_is);(case Oj=>k_is);(case HF=>k_is);(case Ah=>k_is);(case yj=>k_is)
  (case aPM=>k_is)
  (case lP=>k_is)
  (case XS=>k_is);(case Ol=>k_is);(case XX=>k_is);(case X3=>k_is);(case Sg=>k_is);(case Om=>k_is);(case yl=>k_is);(case Sh=>k_is);(case Sq=>k_is);(case X4=>k_is);(case X5=>k_is);(case X6=>k_is);(case X7=>k_is);(case X8=>k_is);(case K5=>k_is);(case Yb=>k_is);(case Ai=>k_is);(case Yc=>k_is);(case DQ=>k_is);(case Yd=>k_is)
