import PyProof.Rows.All
import Wide.All
import OpenK.AllK
import Wide.FinOn
import Lean
import PyProof.EqAt
import PyProof.EqKinds
import PyProof.TupleCall
import KE.KTops
import KE.KIntText
import KE.KTryMore
import PyProof.ExcBaseAll.ValueError
import PyProof.ZipIter
import KE.KTurns
import PyProof.Rows.SetFrom
import KE.KxText
import PyProof.Rows.SumGenD
import KE.KDictList
import PyProof.DictWalks
import KE.KEqDict
import KE.KDictOf
import PyProof.Rows.SortStr
import PyProof.Rows.SortWalk
import PyProof.WalksEnum
import KE.KItemsList
import PySem.Challenge.RW_madeagain_k31_papers_told
set_option Elab.async false
set_option linter.all false
set_option maxRecDepth 100000
noncomputable section
namespace L2
open PySem PySem.Spec PyProof.Rows
abbrev Key:=Sum Int Str
def Hv:Key->Value->Bool
 | .inl k,v=>Value.isInt k v
 | .inr x,v=>Value.isStrOf x v
def ah1 (w:World):Key->Int
 | .inl k=>hashInt k
 | .inr x=>hashStr w x
theorem iM:∀{k:Key}{v:Value},Hv k v=true->(∃i t,k=Sum.inl i/\v=Value.int i t)\/(∃x t,k=Sum.inr x/\v=Value.str x t)
 | .inl i,v,h=>by
   obtain⟨t,e⟩:=Value.isInt_shape (k:=i) (v:=v) h
   exact .inl ⟨i,t,rfl,e⟩
 | .inr x,v,h=>by
   obtain⟨t,e⟩:=Value.isStrOf_shape (x:=x) (v:=v) h
   exact .inr ⟨x,t,rfl,e⟩
theorem R8 (i:Int) (t:Tok):Hv (.inl i) (.int i t)=true:=by simp[Hv,Value.isInt]
theorem R9 (x:Str) (t:Tok):Hv (.inr x) (.str x t)=true:=by simp[Hv,Value.isStrOf]
theorem aaB (a b:Int):decide ((Sum.inl a:Key)=Sum.inl b)=(a==b):=by
 by_cases e:a=b
 ·subst e;simp
 ·have h:¬(Sum.inl a:Key)=Sum.inl b:=fun q=>e (Sum.inl.inj q)
  rw[decide_eq_false h]
  exact(beq_eq_false_iff_ne.mpr e).symm
theorem aaC (a b:Str):decide ((Sum.inr a:Key)=Sum.inr b)=decide (a=b):=by
 by_cases e:a=b
 ·subst e;simp
 ·have h:¬(Sum.inr a:Key)=Sum.inr b:=fun q=>e (Sum.inr.inj q)
  rw[decide_eq_false h,decide_eq_false e]
theorem aaD (a:Int) (b:Str):decide ((Sum.inl a:Key)=Sum.inr b)=false:=decide_eq_false (fun q=>nomatch q)
theorem aaE (a:Str) (b:Int):decide ((Sum.inr a:Key)=Sum.inl b)=false:=decide_eq_false (fun q=>nomatch q)
def eN (prog:Program) (w:World):PySem.KeyKind prog w Key where
 is:=Hv
 hash:=ah1 w
 inj:=fun v a b ha hb=>by
  rcases iM ha with⟨i,t,rfl,rfl⟩ | ⟨x,t,rfl,rfl⟩
  ·rcases iM hb with⟨j,u,rfl,e⟩ | ⟨y,u,rfl,e⟩
   ·injection e with e1 _;rw[e1]
   ·exact nomatch e
  ·rcases iM hb with⟨j,u,rfl,e⟩ | ⟨y,u,rfl,e⟩
   ·exact nomatch e
   ·injection e with e1 _;rw[e1]
 byValue:=fun k v h=>by
  rcases iM h with⟨i,t,rfl,rfl⟩ | ⟨x,t,rfl,rfl⟩<;>rfl
 pyHash:=fun hv h=>by
  rcases iM hv with⟨i,t,rfl,rfl⟩ | ⟨x,t,rfl,rfl⟩
  ·exact wpAny_pyHash_int h
  ·exact wpAny_pyHash_str h
 eqBool:=fun hu hv h=>by
  rcases iM hu with⟨i,t,rfl,rfl⟩ | ⟨x,t,rfl,rfl⟩
  ·rcases iM hv with⟨j,u,rfl,rfl⟩ | ⟨y,u,rfl,rfl⟩
   ·rw[aaB] at h;exact wpAny_eqBool_int h
   ·rw[aaD] at h;exact SeqAt.EqAt.int_str i t y u _ _ _ _ h
  ·rcases iM hv with⟨j,u,rfl,rfl⟩ | ⟨y,u,rfl,rfl⟩
   ·rw[aaE] at h;exact SeqAt.EqAt.str_int x t j u _ _ _ _ h
   ·rw[aaC] at h;exact wpAny_eqBool_str h
 «strs»:=fun k x t v h=>by
  rcases iM h with⟨i,u,rfl,e⟩ | ⟨y,u,rfl,e⟩
  ·exact nomatch e
  ·injection e with e1 _
   subst e1
   cases v<;>rfl
theorem Mw (prog:Program) (w:World) (i:Int) (t:Tok):(eN prog w).is (.inl i) (.int i t)=true:=R8 i t
theorem Mx (prog:Program) (w:World) (x:Str) (t:Tok):(eN prog w).is (.inr x) (.str x t)=true:=R9 x t
end L2
namespace L2
open PySem PySem.Spec PyProof.Rows
inductive V where
 | non | bl (b:Bool) | int (i:Int) | str (x:Str) | byt (b:Array UInt8) | flt (b:UInt64) | ref (a:Addr) | ty (n:String)
 deriving DecidableEq
def RelV:V->Value->Prop
 | .non,u=>u=Value.none
 | .bl b,u=>u=Value.bool b
 | .int i,u=>∃t,u=Value.int i t
 | .str x,u=>∃t,u=Value.str x t
 | .byt b,u=>∃t,u=Value.bytes b t
 | .flt b,u=>∃t,u=Value.float b t
 | .ref a,u=>u=Value.ref a
 | .ty n,u=>u=Value.type n
abbrev Vals:List V->List Value->Prop:=Paired RelV
theorem Vals.length {xs:List V}{us:List Value} (r:Vals xs us):xs.length=us.length:=Paired.length r
theorem Vals.get:∀{xs:List V}{us:List Value}{i:Nat}{x:V},Vals xs us->xs[i]? =some x->∃u,us[i]? =some u/\RelV x u
 | _,_,_,_, .nil,e=>by simp at e
 | _,_,0,_, .cons r _,e=>by simp at e;subst e;exact⟨_,rfl,r⟩
 | _,_,i+1,x, .cons _ t,e=>by
   obtain⟨u,h1,h2⟩:=Vals.get (i:=i) (x:=x) t (by simpa using e)
   exact⟨u,by simpa using h1,h2⟩
theorem Vals.append:∀{xs ys:List V}{us ws:List Value},Vals xs us->Vals ys ws->Vals (xs++ys) (us++ws)
 | _,_,_,_, .nil,s=>s
 | _,_,_,_, .cons r t,s=> .cons r (Vals.append t s)
theorem Vals.take:∀{xs:List V}{us:List Value} (n:Nat),Vals xs us->Vals (xs.take n) (us.take n)
 | _,_,0,_=> .nil
 | _,_,_+1, .nil=> .nil
 | _,_,n+1, .cons r t=> .cons r (Vals.take n t)
theorem Vals.drop:∀{xs:List V}{us:List Value} (n:Nat),Vals xs us->Vals (xs.drop n) (us.drop n)
 | _,_,0,r=>r
 | _,_,_+1, .nil=> .nil
 | _,_,n+1, .cons _ t=>Vals.drop n t
def uZ:Option V->Option Value->Prop
 | some v,some u=>RelV v u
 | none,none=>True
 | _,_=>False
def KV {κ:Type}:List (κ×V)->List (κ×Value)->Prop:=Paired fun(p:κ×V) (q:κ×Value)=>p.1=q.1/\RelV p.2 q.2
def kV:Key->V
 | .inl i=> .int i
 | .inr x=> .str x
inductive HO where
 | lst (xs:List V)
 | tup (xs:List V)
 | dK (kvs:List (Key×V)) | dT (kvs:List (List Key×V))
 | set (S:Int->Bool) (n:Nat)
 | ins (C dx:Addr) (fs:List (Str×V))
 | own (x:Addr)
 | xd (fs:List (Str×V))
 | met (f x:Addr)
 | rng (lo hi:Int)
 | frz (o:Obj) (u:HO)
 | tbl (ps:Array Value)
 | ext (φ:Heap->Prop)
abbrev Hp:=Addr->Option HO
def upd (H:Hp) (a:Addr) (o:HO):Hp:=fun b=>if b=a then some o else H b
theorem ao {H:Hp}{a:Addr}{o:HO}:upd H a o a=some o:=by unfold upd;rw[if_pos rfl]
theorem aq {H:Hp}{a b:Addr}{o:HO} (h:b≠a):upd H a o b=H b:=by unfold upd;rw[if_neg h]
theorem wk {H:Hp}{a:Addr}{o u:HO}:upd (upd H a o) a u=upd H a u:=by
 funext b;unfold upd;split<;>rfl
theorem ad4 {H:Hp}{a b:Addr}{o u:HO} (h:H a=some o) (h':H b=some u) (d:o≠u):a≠b:=by
 intro e;subst e;rw[h] at h';exact d (Option.some.inj h')
theorem aH {H:Hp}{a b:Addr}{o:HO} (h:H a=some o) (h':H b=none):a≠b:=by
 intro e;subst e;rw[h] at h';cases h'
section
variable (P:Program) (w:World)
def fJ (H:Hp) (h:Heap) (a:Addr):HO->Prop
 | .lst xs=>xs.length<=sizeLine/\∃(its:List Value) (n:Nat),Vals xs its/\h.get? a=some {cls:= .type "list",data:= .seq its.toArray n}
 | .tup xs=>xs.length<=sizeLine/\∃its:List Value,Vals xs its/\IsTup h a its.toArray
 | .dK kvs=>kvs.length<=sizeLine/\(a==sysModules)=false/\∃vs,KV kvs vs/\h.DictOf (eN P w) a vs
 | .dT kvs=>kvs.length<=sizeLine/\(a==sysModules)=false/\∃xs:List (List Key×Addr×Value),
     Paired (fun(p:List Key×V) (q:List Key×Addr×Value)=>p.1=q.1/\H q.2.1=some (.tup (p.1.map kV))/\RelV p.2 q.2.2) kvs xs/\
     ∃o es ep,h.get? a=some o/\o.ExactDict/\o.data= .dict es ep/\es.toList=xs.map (entryOfKey (tupleKind (eN P w)))/\(xs.map (·.1)).Nodup
 | .set S n=>h.SetOf (intKind P w) a S n
 | .ins C dx fs=>H dx=some (.own a)/\fs.length<=1000/\dx≠a/\h.get? a=some (PySem.W.instObj C dx)/\
     ∃mA,h.Ns1 dx mA/\(∀f,uZ (fs.lookup f) (mA f))/\PySem.Within mA (fs.map (·.1))
 | .own _=>∃o,h.get? a=some o
 | .xd fs=>∃mA,h.Ns1 a mA/\∀f,uZ (fs.lookup f) (mA f)
 | .rng lo hi=>∃t u v,h.get? a=some {cls:= .type "range",data:= .fields #[.int lo t, .int hi u, .int 1 v]}
 | .frz o u=>h.get? a=some o/\fJ H h a u
 | .tbl ps=>h.get? a=some {cls:= .none,data:= .fields ps}
 | .met f x=>h.get? a=some (PySem.W.methodObj (.ref f) (.ref x))
 | .ext φ=>φ h/\(∃o,h.get? a=some o)/\∀h1 h2:Heap,φ h1->(∀o,h1.get? a=some o->h2.get? a=some o)->φ h2
def HOk (H:Hp) (h:Heap):Prop:=∀a o,H a=some o->fJ P w H h a o
end
section
variable {P:Program}{w:World}{H H':Hp}{h h':Heap}{a:Addr}{o:HO}
theorem fJ.lt (x:fJ P w H h a o):a<h.objs.size:=by
 cases o with
 | lst xs=>obtain⟨_,_,_,_,e⟩:=x;exact Heap.lt_size e
 | tup xs=>obtain⟨_,_,_,p⟩:=x;exact p.lt
 | dK kvs=>obtain⟨_,_,_,_,o,_,_,e,_⟩:=x;exact Heap.lt_size e
 | dT kvs=>obtain⟨_,_,_,_,o,_,_,e,_⟩:=x;exact Heap.lt_size e
 | set S n=>obtain⟨o,_,_,_,e,_⟩:=x;exact Heap.lt_size e
 | ins C dx fs=>obtain⟨_,_,_,e,_⟩:=x;exact Heap.lt_size e
 | own y=>obtain⟨_,e⟩:=x;exact Heap.lt_size e
 | xd fs=>obtain⟨_,⟨_,_,_,e,_⟩,_⟩:=x;exact Heap.lt_size e
 | rng lo hi=>obtain⟨_,_,_,e⟩:=x;exact Heap.lt_size e
 | frz ob u=>obtain⟨e,_⟩:=x;exact Heap.lt_size e
 | tbl ps=>exact Heap.lt_size (show h.get? a=some _ from x)
 | met f y=>exact Heap.lt_size (show h.get? a=some _ from x)
 | ext φ=>obtain⟨_,⟨_,e⟩,_⟩:=x;exact Heap.lt_size e
theorem Paired.aaF {α β:Type}{F G:α->β->Prop}:∀{l₁:List α}{l₂:List β},Paired F l₁ l₂->(∀a b,F a b->G a b)->Paired G l₁ l₂
 | _,_, .nil,_=> .nil
 | _,_, .cons r t,f=> .cons (f _ _ r) (Paired.aaF t f)
theorem fJ.stay (x:fJ P w H h a o) (k:∀b u,(b=a\/H b=some (.own a))->h.get? b=some u->h'.get? b=some u)
 (ho:∀b,H b=some (.own a)->H' b=some (.own a)) (ht:∀b xs,H b=some (.tup xs)->H' b=some (.tup xs)):fJ P w H' h' a o:=by
 induction o with
 | lst xs=>obtain⟨z,its,n,r,e⟩:=x;exact⟨z,its,n,r,k _ _ (.inl rfl) e⟩
 | tup xs=>obtain⟨z,its,r,ob,e,c⟩:=x;exact⟨z,its,r,ob,k _ _ (.inl rfl) e,c⟩
 | dK kvs=>obtain⟨z,y,vs,r,ob,es,ep,e,c⟩:=x;exact⟨z,y,vs,r,ob,es,ep,k _ _ (.inl rfl) e,c⟩
 | dT kvs=>
   obtain⟨z,y,xs,r,ob,es,ep,e,c⟩:=x
   exact⟨z,y,xs,Paired.aaF r fun p q z=>⟨z.1,ht _ _ z.2.1,z.2.2⟩,ob,es,ep,k _ _ (.inl rfl) e,c⟩
 | set S n=>obtain⟨ob,es,ep,t,e,c⟩:=x;exact⟨ob,es,ep,t,k _ _ (.inl rfl) e,c⟩
 | ins C dx fs=>
   obtain⟨d,z,ne,e,mA,⟨od,es,ep,e2,c⟩,r⟩:=x
   exact⟨ho _ d,z,ne,k _ _ (.inl rfl) e,mA,⟨od,es,ep,k _ _ (.inr d) e2,c⟩,r⟩
 | own y=>obtain⟨ob,e⟩:=x;exact⟨ob,k _ _ (.inl rfl) e⟩
 | xd fs=>obtain⟨mA,⟨od,es,ep,e,c⟩,r⟩:=x;exact⟨mA,⟨od,es,ep,k _ _ (.inl rfl) e,c⟩,r⟩
 | rng lo hi=>obtain⟨t,u,v,e⟩:=x;exact⟨t,u,v,k _ _ (.inl rfl) e⟩
 | frz ob u ih=>obtain⟨e,q⟩:=x;exact⟨k _ _ (.inl rfl) e,ih q⟩
 | tbl ps=>
   have e:h.get? a=some {cls:= .none,data:= .fields ps}:=x
   show h'.get? a=some {cls:= .none,data:= .fields ps}
   exact k a _ (.inl rfl) e
 | met f y=>
   have e:h.get? a=some (PySem.W.methodObj (.ref f) (.ref y)):=x
   show h'.get? a=some (PySem.W.methodObj (.ref f) (.ref y))
   exact k a _ (.inl rfl) e
 | ext φ=>obtain⟨p,⟨o,e⟩,st⟩:=x;exact⟨st _ _ p fun o q=>k _ _ (.inl rfl) q,⟨o,k _ _ (.inl rfl) e⟩,st⟩
theorem HOk.lt (x:HOk P w H h) (e:H a=some o):a<h.objs.size:=(x a o e).lt
theorem HOk.fresh (x:HOk P w H h) (e:h.objs.size<=a):H a=none:=by
 cases q:H a with
 | none=>rfl
 | some u=>exact absurd (Nat.lt_of_lt_of_le (x.lt q) e) (Nat.lt_irrefl _)
theorem HOk.kept (x:HOk P w H h) (k:∀b u,h.get? b=some u->h'.get? b=some u):HOk P w H h':=fun a o e=>
 (x a o e).stay (fun b u _ q=>k b u q) (fun _ q=>q) fun _ _ q=>q
theorem HOk.laid (x:HOk P w H h) (k:∀b u,h.get? b=some u->h'.get? b=some u) (hp:h.objs.size<=a) (new:fJ P w (upd H a o) h' a o):HOk P w (upd H a o) h':=fun b u e=>by
 have hn:=x.fresh hp
 by_cases hb:b=a
 ·subst hb;rw[ao] at e;cases e;exact new
 ·rw[aq hb] at e
  exact(x b u e).stay (fun c v _ q=>k c v q) (fun c q=>by rw[aq (aH q hn)];exact q) fun c xs q=>by rw[aq (aH q hn)];exact q
end
def Rd (H:Hp) (a:Addr) (u:HO):Prop:=H a=some u\/∃o,H a=some (.frz o u)
theorem Rd.ok {P:Program}{w:World}{H:Hp}{h:Heap}{a:Addr}{u:HO} (r:Rd H a u) (x:HOk P w H h):fJ P w H h a u:=by
 rcases r with r | ⟨o,r⟩
 ·exact x a u r
 ·obtain⟨_,q⟩:=x a _ r
  exact q
def Mut:Option HO->Prop
 | some (.lst _)=>True
 | some (.dK _)=>True
 | some (.dT _)=>True
 | some (.set _ _)=>True
 | some (.ins _ _ _)=>True
 | some (.ext _)=>True
 | _=>False
section
variable {P:Program}{w:World}{H:Hp}{h h':Heap}{x e:Addr}{o':HO}
theorem HOk.write (ok:HOk P w H h) (mu:Mut (H x)) (he:e=x\/H e=some (.own x)) (k:∀b u,b≠e->h.get? b=some u->h'.get? b=some u) (heo:∃u,h'.get? e=some u)
 (new:fJ P w (upd H x o') h' x o'):HOk P w (upd H x o') h':=fun b u q=>by
 have nown:∀c y,H c=some (.own y)->c≠x:=fun c y r z=>by subst z;rw[r] at mu;exact mu
 have ntup:∀c xs,H c=some (.tup xs)->c≠x:=fun c xs r z=>by subst z;rw[r] at mu;exact mu
 by_cases hb:b=x
 ·subst hb;rw[ao] at q;cases q;exact new
 ·rw[aq hb] at q
  by_cases hbe:b=e
  ·have q':H b=some (.own x):=by
    rcases he with z | z
    ·exact absurd (hbe.trans z) hb
    ·rw[hbe];exact z
   rw[q] at q';cases q'
   obtain⟨v,hv⟩:=heo
   exact⟨v,by rw[hbe];exact hv⟩
  ·refine(ok b u q).stay (fun c v hc r=>k c v ?_ r) (fun c r=>by rw[aq (nown c b r)];exact r) fun c xs r=>by rw[aq (ntup c xs r)];exact r
   rcases hc with rfl | hc
   ·exact hbe
   ·rintro rfl
    rcases he with z | z
    ·exact nown c b hc z
    ·rw[hc] at z;cases z;exact hb rfl
end
structure Un (fs ex:List Addr) (H H':Hp) (h h':Heap):Prop where
 keep:∀b o,h.get? b=some o->H b=none->b∉fs->b∉ex->h'.get? b=some o
 slot:∀b o,h.get? b=some o->H b=none->b∈fs->b∉ex->∃sl,h'.get? b=some {o with slots:=sl}
 free:∀b o,h.get? b=some o->H b=none->b∉ex->H' b=none
 there:∀b o,h.get? b=some o->b∉ex->∃o',h'.get? b=some o'
 tups:∀b xs,H b=some (.tup xs)->H' b=some (.tup xs)
 frzs:∀b o u,H b=some (.frz o u)->H' b=some (.frz o u)
 tbls:∀b ps,H b=some (.tbl ps)->∃more,H' b=some (.tbl (ps++more))
section
variable {fs fs' ex ex':List Addr}{H H1 H2:Hp}{h h1 h2 h':Heap}{a x e:Addr}{o:HO}
theorem Un.any (u:Un fs ex H H1 h h1) {b:Addr}{ob:Obj} (q:h.get? b=some ob) (n:H b=none) (hx:b∉ex):∃sl,h1.get? b=some {ob with slots:=sl}:=by
 by_cases hb:b∈fs
 ·exact u.slot b ob q n hb hx
 ·exact⟨ob.slots,u.keep b ob q n hb hx⟩
theorem Un.kept (k:∀b u,h.get? b=some u->h'.get? b=some u):Un fs ex H H h h':=
 ⟨fun b ob q _ _ _=>k b ob q,fun b ob q _ _ _=>⟨ob.slots,k b ob q⟩,fun _ _ _ n _=>n,fun b ob q _=>⟨ob,k b ob q⟩,fun _ _ q=>q,fun _ _ _ q=>q,fun _ ps q=>⟨#[],by rw[q];simp⟩⟩
theorem Un.refl:Un fs ex H H h h:=Un.kept fun _ _ q=>q
theorem Un.laid (k:∀b u,h.get? b=some u->h'.get? b=some u) (hp:h.objs.size<=a) (hn:H a=none):Un fs ex H (upd H a o) h h' where
 keep:=fun b u q _ _ _=>k b u q
 slot:=fun b u q _ _ _=>⟨u.slots,k b u q⟩
 free:=fun b u q n _=>by rw[aq (Nat.ne_of_lt (Nat.lt_of_lt_of_le (Heap.lt_size q) hp))];exact n
 there:=fun b u q _=>⟨u,k b u q⟩
 tups:=fun b xs q=>by rw[aq (aH q hn)];exact q
 frzs:=fun b u xs q=>by rw[aq (aH q hn)];exact q
 tbls:=fun b ps q=>⟨#[],by rw[aq (aH q hn),q];simp⟩
theorem Un.write (mu:Mut (H x)) (he:e=x\/H e=some (.own x)) (k:∀b u,b≠e->h.get? b=some u->h'.get? b=some u) (heo:∃u,h'.get? e=some u):Un fs ex H (upd H x o) h h':=by
 have hx:∀b,H b=none->b≠x:=fun b n z=>by subst z;rw[n] at mu;exact mu
 have hb:∀b,H b=none->b≠e:=fun b n z=>by
  subst z
  rcases he with r | r
  ·exact hx b n r
  ·rw[n] at r;cases r
 have hm:∀b u,H b=some u->¬Mut (some u)->b≠x:=fun b u q nm z=>by subst z;rw[q] at mu;exact nm mu
 refine⟨fun b u q n _ _=>k b u (hb b n) q,fun b u q n _ _=>⟨u.slots,k b u (hb b n) q⟩,fun b u q n _=>by rw[aq (hx b n)];exact n,fun b u q _=> ?_,
  fun b xs q=>by rw[aq (hm b _ q fun z=>z)];exact q,fun b u xs q=>by rw[aq (hm b _ q fun z=>z)];exact q,fun b ps q=>⟨#[],by rw[aq (hm b _ q fun z=>z),q];simp⟩⟩
 by_cases hbe:b=e
 ·subst hbe;exact heo
 ·exact⟨u,k b u hbe q⟩
end
def trk (h:Heap) (H:Hp):List Addr:=(List.range h.objs.size).filter fun a=>(H a).isSome
def KQ (h:Heap) (H:Hp):Heap:=PySem.W.hideAll h (trk h H)
theorem Sd (h:Heap) (H:Hp):(KQ h H).objs.size=h.objs.size:=PySem.W.hideAll_size _ _
theorem Ub {h:Heap}{H:Hp}{b:Addr}{o:Obj} (e:h.get? b=some o) (n:H b=none):(KQ h H).get? b=some o:=
 PySem.W.hideAll_get _ e fun hm=>by
  have q:(H b).isSome=true:=(List.mem_filter.mp hm).2
  rw[n] at q;simp at q
theorem W2 {h:Heap}{H:Hp}{b:Addr}{o:Obj} (e:(KQ h H).get? b=some o):h.get? b=some o/\H b=none:=by
 have e':h.get? b=some o:=PySem.W.of_hideAll (trk h H) e
 refine⟨e', ?_⟩
 cases q:H b with
 | none=>rfl
 | some x=>
   have hm:b∈trk h H:=List.mem_filter.mpr ⟨List.mem_range.mpr (Heap.lt_size e'),by simp[q]⟩
   have z:(KQ h H).get? b=none:=PySem.W.hideAll_none (trk h H) hm
   rw[z] at e;cases e
end L2
namespace L2
open PySem PySem.Spec PyProof.Rows
structure Mod (K:PySem.W.Frag) (mg:Str->Option Value) (base:Heap):Prop where
 kin:K.In base
 glob:base.Ns mainGlobals mg
 blt:∃mb,base.Ns builtinsNs mb/\∀x:Str,x≠"__name__"->mb x=bootBuiltins x
 nolimit:base.NoLimit
structure Cx where
 prog:Program
 w:World
 K:PySem.W.Frag
 mg:Str->Option Value
 base:Heap
 A:Around
 N:List Str
 s₀:Shared
 H₀:Hp
 env:Env
 outer:List Env
 stack:List Env
 ex:List Addr
 fn:Str->Bool
 calm:Bool
 pn:List (Addr×Obj)
 xe:Value->Shared->Prop
def frs (l:List Env):List Addr:=l.filterMap (·.frame)
abbrev Cx.fs (X:Cx):List Addr:=frs X.outer
def Vis (sc:Scope) (x:Str):Prop:=sc.names.lookup x=some .local\/sc.names.lookup x=some .cell\/sc.names.lookup x=some .free
def Loc (sc:Scope) (x:Str):Prop:=sc.names.lookup x=some .local\/sc.names.lookup x=some .cell
def Look (env:Env) (h:Heap) (m:Str->Option Value) (x:Str) (u:Value):Prop:=
 (env.kindOf x=some .local/\m x=some u)\/((env.kindOf x=some .cell\/env.kindOf x=some .free)/\∃c,env.cells.lookup x=some c/\h.IsCell c (some u))
structure Cx.Ok (X:Cx):Prop where
 mod:Mod X.K X.mg X.base
 kind:X.env.scope.kind= .function
 glob:X.env.globals=mainGlobals
 blt:X.env.builtins=builtinsNs
 above:X.s₀.heap.objs.size<=X.env.locals
 inj:∀x y c,X.env.cells.lookup x=some c->X.env.cells.lookup y=some c->x=y
 has:∀x,(X.env.kindOf x=some .cell\/X.env.kindOf x=some .free)->∃c,X.env.cells.lookup x=some c
 cab:∀x c,X.fn x=true->X.env.cells.lookup x=some c->X.s₀.heap.objs.size<=c
 hd:X.calm=true->X.A.handled=none
 frames:X.A.frames=some X.stack
 stk:X.stack=X.outer\/(X.stack=X.env::X.outer/\X.env.frame=some X.env.locals)
 exf:∀b∈X.ex,b≠X.env.locals/\∀x c,X.env.cells.lookup x=some c->c≠b
 bs:∀b o,X.base.get? b=some o->X.s₀.heap.get? b=some o/\X.H₀ b=none
 bsz:X.base.objs.size<=X.s₀.heap.objs.size
 noex:∀b o,X.base.get? b=some o->b∉X.ex
 exfs:∀b∈X.ex,b∉X.fs
 funs:X.s₀.heap.FunFrames X.base X.outer
 frf:∀b∈X.fs,X.H₀ b=none
structure Inv (X:Cx) (pins:List (Addr×Obj)) (σ:List (Option V)) (H:Hp) (s:Shared):Prop where
 ok:X.Ok
 os:s.os=X.s₀.os
 bare:AllBare s.gens
 base:Un X.fs X.ex X.H₀ H X.s₀.heap s.heap
 loc:∃m,s.heap.Ns X.env.locals m/\∀(i:Nat) (x:Str) (v:V),X.N[i]? =some x->σ[i]? =some (some v)->Vis X.env.scope x->∃u,RelV v u/\Look X.env s.heap m x u
 cell:∀x c,X.env.cells.lookup x=some c->∃v,s.heap.IsCell c v
 free:H X.env.locals=none
 u0:∀x c,X.env.cells.lookup x=some c->H c=none
 pin:∀p∈X.pn++pins,s.heap.get? p.1=some p.2/\H p.1=none/\p.1≠X.env.locals/\p.1∉X.fs/\∀v,p.2.data≠ .cell v
 hok:HOk X.prog X.w H s.heap
 len:σ.length=X.N.length
section
variable {X:Cx}{pins:List (Addr×Obj)}{σ:List (Option V)}{H H':Hp}{s:Shared}{h':Heap}
theorem Cx.Ok.nofr (ok:X.Ok) {b:Addr}{o:Obj} (e:X.base.get? b=some o):b∉X.fs:=fun hb=>by
 have:=(ok.funs.mem hb).1
 rw[e] at this;cases this
theorem Inv.bs (I:Inv X pins σ H s):∀b o,X.base.get? b=some o->s.heap.get? b=some o/\H b=none:=fun b o e=>
 ⟨I.base.keep b o (I.ok.bs b o e).1 (I.ok.bs b o e).2 (I.ok.nofr e) (I.ok.noex b o e),I.base.free b o (I.ok.bs b o e).1 (I.ok.bs b o e).2 (I.ok.noex b o e)⟩
theorem Inv.bk (I:Inv X pins σ H s):∀b o,X.base.get? b=some o->s.heap.get? b=some o:=fun b o e=>(I.bs b o e).1
theorem Inv.mod (I:Inv X pins σ H s):Mod X.K X.mg X.base:=I.ok.mod
theorem Inv.kIn (I:Inv X pins σ H s):X.K.In s.heap:=I.ok.mod.kin.keeps I.bk
theorem Inv.lt (I:Inv X pins σ H s):X.env.locals<s.heap.objs.size:=let ⟨_,hn,_⟩:=I.loc;hn.lt
theorem Inv.sz (I:Inv X pins σ H s):X.s₀.heap.objs.size<=s.heap.objs.size:=Nat.le_trans I.ok.above (Nat.le_of_lt I.lt)
theorem Inv.nofs (I:Inv X pins σ H s) {a:Addr} (h:s.heap.objs.size<=a):a∉X.fs:=fun hb=>by
 obtain⟨_,o,ho,_⟩:=I.ok.funs.mem hb
 exact absurd (Nat.lt_of_lt_of_le (Heap.lt_size ho) (Nat.le_trans I.sz h)) (Nat.lt_irrefl _)
theorem Inv.cne (I:Inv X pins σ H s):∀x c,X.env.cells.lookup x=some c->c≠X.env.locals:=fun x c e z=>by
 obtain⟨v,o,ho,hd⟩:=I.cell x c e
 obtain⟨m,⟨o',es,ep,ho',hd',_⟩,_⟩:=I.loc
 rw[z,ho'] at ho;cases ho;rw[hd'] at hd;cases hd
theorem Inv.funs (I:Inv X pins σ H s):s.heap.FunFrames X.base X.outer:=by
 have all:∀(l:List Env),(∀b∈frs l,b∈X.fs)->X.s₀.heap.FunFrames X.base l->s.heap.FunFrames X.base l:=by
  intro l
  induction l with
  | nil=>intro _ _;trivial
  | cons env r ih=>
    intro hs hl
    obtain⟨hk,⟨L,o,hf,hn,ho,hd⟩,hr⟩:=hl
    have hL:L∈X.fs:=hs L (by unfold frs;rw[List.filterMap_cons,hf];exact List.mem_cons_self)
    obtain⟨sl,e⟩:=I.base.slot L o ho (I.ok.frf L hL) hL fun z=>I.ok.exfs L z hL
    exact⟨hk,⟨L,_,hf,hn,e,hd⟩,ih (fun b hb=>hs b (by unfold frs;rw[List.filterMap_cons,hf];exact List.mem_cons_of_mem _ hb)) hr⟩
 exact all X.outer (fun _ hb=>hb) I.ok.funs
theorem Inv.stack (I:Inv X pins σ H s):s.heap.FunFrames X.base X.stack:=by
 rcases I.ok.stk with e | ⟨e,hf⟩
 ·rw[e];exact I.funs
 ·rw[e]
  obtain⟨m,hn,_⟩:=I.loc
  refine .cons (by rw[I.ok.kind];decide) hf hn ?_ I.funs
  exact Heap.get?_none_of_le (Nat.le_trans I.ok.bsz I.ok.above)
theorem Inv.KR (I:Inv X pins σ H s):∀b∈frs X.stack,b∈X.env.locals::X.fs:=fun b hb=>by
 rcases I.ok.stk with e | ⟨e,hf⟩
 ·rw[e] at hb;exact List.mem_cons_of_mem _ hb
 ·rw[e] at hb
  unfold frs at hb
  rw[List.filterMap_cons,hf] at hb
  exact hb
theorem Inv.QL (I:Inv X pins σ H s):∀b∈frs X.stack,H b=none:=fun b hb=>by
 rcases List.mem_cons.mp (I.KR b hb) with e | hb
 ·rw[e];exact I.free
 ·obtain⟨_,o,ho,_⟩:=I.ok.funs.mem hb
  exact I.base.free b o ho (I.ok.frf b hb) fun z=>I.ok.exfs b z hb
theorem Inv.step {g':Array GenState}{t':Nat}{d':Drawn}{ch:List Addr} (I:Inv X pins σ H s)
 (hch:∀b∈ch,(b∈X.ex\/X.s₀.heap.objs.size<=b)/\b≠X.env.locals/\(∀x c,X.env.cells.lookup x=some c->c≠b)/\∀p∈X.pn++pins,p.1≠b)
 (keep:∀b o,b≠X.env.locals->b∉X.fs->b∉ch->s.heap.get? b=some o->H b=none->h'.get? b=some o)
 (slot:∀b o,b≠X.env.locals->b∈X.fs->b∉ch->s.heap.get? b=some o->H b=none->∃sl,h'.get? b=some {o with slots:=sl}) (free:∀b o,b∉ch->s.heap.get? b=some o->H b=none->H' b=none)
 (there:∀b o,b∉ch->s.heap.get? b=some o->∃o',h'.get? b=some o')
 (tups:∀b xs,H b=some (.tup xs)->H' b=some (.tup xs)) (frzs:∀b o u,H b=some (.frz o u)->H' b=some (.frz o u)) (tbls:∀b ps,H b=some (.tbl ps)->∃more,H' b=some (.tbl (ps++more)))
 (ns:∀m,s.heap.Ns X.env.locals m->h'.Ns X.env.locals m) (hok:HOk X.prog X.w H' h') (hg:AllBare g'):
 Inv X pins σ H' {s with heap:=h',gens:=g',drawn:=d',toks:=t'}:=by
 have neL:∀b o,X.s₀.heap.get? b=some o->b≠X.env.locals:=fun b o e=>Nat.ne_of_lt (Nat.lt_of_lt_of_le (Heap.lt_size e) I.ok.above)
 have neC:∀b o,X.s₀.heap.get? b=some o->b∉X.ex->b∉ch:=fun b o e hx hb=>by
  rcases(hch b hb).1 with z | z
  ·exact hx z
  ·exact absurd (Nat.lt_of_lt_of_le (Heap.lt_size e) z) (Nat.lt_irrefl _)
 have cellK:∀x c,X.env.cells.lookup x=some c->∀v,s.heap.IsCell c v->h'.IsCell c v:=fun x c e v ⟨o,ho,hd⟩=>by
  have nch:c∉ch:=fun z=>(hch c z).2.2.1 x c e rfl
  by_cases hc:c∈X.fs
  ·obtain⟨sl,q⟩:=slot c o (I.cne x c e) hc nch ho (I.u0 x c e)
   exact⟨_,q,hd⟩
  ·exact⟨o,keep c o (I.cne x c e) hc nch ho (I.u0 x c e),hd⟩
 refine⟨I.ok,I.os,hg,⟨fun b o e n hb hx=> ?_,fun b o e n hb hx=> ?_,fun b o e n hx=> ?_,fun b o e hx=> ?_,fun b xs e=>tups b xs (I.base.tups b xs e),fun b o xs e=>frzs b o xs (I.base.frzs b o xs e),fun b ps e=> ?_⟩, ?_,fun x c e=> ?_, ?_,fun x c e=> ?_,fun p hp=> ?_,hok,I.len⟩
 ·exact keep b o (neL b o e) hb (neC b o e hx) (I.base.keep b o e n hb hx) (I.base.free b o e n hx)
 ·obtain⟨sl,e1⟩:=I.base.slot b o e n hb hx
  obtain⟨sl',e2⟩:=slot b _ (neL b o e) hb (neC b o e hx) e1 (I.base.free b o e n hx)
  exact⟨sl',e2⟩
 ·obtain⟨o',e1⟩:=I.base.there b o e hx
  exact free b o' (neC b o e hx) e1 (I.base.free b o e n hx)
 ·obtain⟨o',e1⟩:=I.base.there b o e hx
  exact there b o' (neC b o e hx) e1
 ·obtain⟨m1,e1⟩:=I.base.tbls b ps e
  obtain⟨m2,e2⟩:=tbls b _ e1
  exact⟨m1++m2,by rw[e2,Array.append_assoc]⟩
 ·obtain⟨m,hn,hl⟩:=I.loc
  refine⟨m,ns m hn,fun i x v e1 e2 e3=> ?_⟩
  obtain⟨u,r,l⟩:=hl i x v e1 e2 e3
  refine⟨u,r, ?_⟩
  rcases l with l | ⟨k,c,e,z⟩
  ·exact .inl l
  ·exact .inr ⟨k,c,e,cellK x c e _ z⟩
 ·obtain⟨v,z⟩:=I.cell x c e
  exact⟨v,cellK x c e v z⟩
 ·obtain⟨m,⟨o,_,_,ho,_⟩,_⟩:=I.loc
  exact free _ o (fun z=>(hch _ z).2.1 rfl) ho I.free
 ·obtain⟨v,o,ho,hd⟩:=I.cell x c e
  exact free c o (fun z=>(hch c z).2.2.1 x c e rfl) ho (I.u0 x c e)
 ·obtain⟨e,n,ne,nf,d⟩:=I.pin p hp
  have nch:p.1∉ch:=fun z=>(hch p.1 z).2.2.2 p hp rfl
  exact⟨keep p.1 p.2 ne nf nch e n,free p.1 p.2 nch e n,ne,nf,d⟩
theorem Inv.un {t':Nat} (I:Inv X pins σ H s) (u:Un X.fs [] H H' s.heap h') (hok:HOk X.prog X.w H' h'):Inv X pins σ H' {s with heap:=h',toks:=t'}:=by
 obtain⟨m,⟨o,es,ep,ho,r⟩,_⟩:=id I.loc
 obtain⟨sl,hL⟩:=u.any ho I.free (by simp)
 exact I.step (g':=s.gens) (d':=s.drawn) (ch:=[]) (fun _ z=>nomatch z) (fun b o _ hb _ e n=>u.keep b o e n hb (by simp)) (fun b o _ hb _ e n=>u.slot b o e n hb (by simp)) (fun b o _ e n=>u.free b o e n (by simp)) (fun b o _ e=>u.there b o e (by simp)) u.tups u.frzs u.tbls (fun m' hm=>by
  obtain⟨o',es',ep',ho',r'⟩:=hm
  rw[ho] at ho';cases ho'
  exact⟨_,es',ep',hL,r'⟩) hok I.bare
theorem Inv.call {g':Array GenState}{t':Nat}{d':Drawn}{ch:List Addr} (I:Inv X pins σ H s) (u:Un (frs X.stack) ch H H' s.heap h') (hok:HOk X.prog X.w H' h') (hg:AllBare g')
 (hch:∀b∈ch,(b∈X.ex\/X.s₀.heap.objs.size<=b)/\b≠X.env.locals/\(∀x c,X.env.cells.lookup x=some c->c≠b)/\∀p∈X.pn++pins,p.1≠b):
 Inv X pins σ H' {s with heap:=h',gens:=g',drawn:=d',toks:=t'}:=by
 obtain⟨m,⟨o,es,ep,ho,r⟩,_⟩:=id I.loc
 obtain⟨sl,hL⟩:=u.any ho I.free fun z=>(hch _ z).2.1 rfl
 exact I.step (ch:=ch) hch (fun b o hL hb hc e n=>u.keep b o e n (fun z=>(List.mem_cons.mp (I.KR b z)).elim hL hb) hc) (fun b o _ _ hc e n=>u.any e n hc) (fun b o hc e n=>u.free b o e n hc) (fun b o hc e=>u.there b o e hc) u.tups u.frzs u.tbls (fun m' hm=>by
  obtain⟨o',es',ep',ho',r'⟩:=hm
  rw[ho] at ho';cases ho'
  exact⟨_,es',ep',hL,r'⟩) hok hg
theorem Inv.turned {t':Nat}{it:Addr} (I:Inv X pins σ H s) (k:∀b o,b≠it->s.heap.get? b=some o->h'.get? b=some o) (hn:H it=none) (hL:it≠X.env.locals)
 (h1:it∈X.ex\/X.s₀.heap.objs.size<=it) (h2:∀x c,X.env.cells.lookup x=some c->c≠it) (h3:∀p∈X.pn++pins,p.1≠it):Inv X pins σ H {s with heap:=h',toks:=t'}:=by
 have nit:∀b u,H b=some u->b≠it:=fun b u e z=>by rw[z,hn] at e;cases e
 refine I.step (g':=s.gens) (d':=s.drawn) (ch:=[it]) (fun b hb=> ?_) (fun b o _ _ hc e _=>k b o (fun z=>hc (by simp[z])) e) (fun b o _ _ hc e _=>⟨o.slots,k b o (fun z=>hc (by simp[z])) e⟩) (fun _ _ _ _ n=>n)
  (fun b o hc e=>⟨o,k b o (fun z=>hc (by simp[z])) e⟩) (fun _ _ e=>e) (fun _ _ _ e=>e) (fun b ps e=>⟨#[],by rw[e];simp⟩) (fun m hm=> ?_) (fun b u e=> ?_) I.bare
 ·have e:b=it:=by simpa using hb
  subst e
  exact⟨h1,hL,h2,h3⟩
 ·obtain⟨o,es,ep,ho,r⟩:=hm
  exact⟨o,es,ep,k _ o (Ne.symm hL) ho,r⟩
 ·refine(I.hok b u e).stay (fun c v hc q=>k c v ?_ q) (fun _ q=>q) fun _ _ q=>q
  rcases hc with z | z
  ·rw[z];exact nit b u e
  ·exact nit c _ z
theorem Inv.tok (I:Inv X pins σ H s) (t:Nat):Inv X pins σ H {s with toks:=t}:=I.un (h':=s.heap) (t':=t) Un.refl I.hok
theorem Inv.kept {t':Nat} (I:Inv X pins σ H s) (k:∀b u,s.heap.get? b=some u->h'.get? b=some u):Inv X pins σ H {s with heap:=h',toks:=t'}:=I.un (Un.kept k) (I.hok.kept k)
theorem Inv.laid {a:Addr}{o:HO}{t':Nat} (I:Inv X pins σ H s) (k:∀b u,s.heap.get? b=some u->h'.get? b=some u) (hp:s.heap.objs.size<=a) (new:fJ X.prog X.w (upd H a o) h' a o):
 Inv X pins σ (upd H a o) {s with heap:=h',toks:=t'}:=I.un (Un.laid k hp (I.hok.fresh hp)) (I.hok.laid k hp new)
theorem Inv.write {x e:Addr}{o:HO}{t':Nat} (I:Inv X pins σ H s) (mu:Mut (H x)) (he:e=x\/H e=some (.own x)) (k:∀b u,b≠e->s.heap.get? b=some u->h'.get? b=some u) (heo:∃u,h'.get? e=some u)
 (new:fJ X.prog X.w (upd H x o) h' x o):Inv X pins σ (upd H x o) {s with heap:=h',toks:=t'}:=I.un (Un.write mu he k heo) (I.hok.write mu he k heo new)
theorem Inv.QM {pins':List (Addr×Obj)} (I:Inv X pins σ H s) (h:∀p∈pins',s.heap.get? p.1=some p.2/\H p.1=none/\p.1≠X.env.locals/\p.1∉X.fs/\∀v,p.2.data≠ .cell v):Inv X pins' σ H s:=
 ⟨I.ok,I.os,I.bare,I.base,I.loc,I.cell,I.free,I.u0,fun p hp=>(List.mem_append.mp hp).elim (fun z=>I.pin p (List.mem_append_left _ z)) (h p),I.hok,I.len⟩
theorem Mz {N:List Str} (hN:N.Nodup) {i j:Nat}{x:Str} (a:N[i]? =some x) (b:N[j]? =some x):i=j:=by
 obtain⟨h1,e1⟩:=List.getElem?_eq_some_iff.mp a
 obtain⟨h2,e2⟩:=List.getElem?_eq_some_iff.mp b
 exact(List.getElem_inj hN).mp (e1.trans e2.symm)
theorem Sg {M:Model}{A:Around}{E:Value->Shared->Prop}{i:Nat}{x:Str}{v:V}{u:Value}{Q:Unit->Shared->Prop} (I:Inv X pins σ H s) (hN:X.N.Nodup) (hi:X.N[i]? =some x) (hx:Loc X.env.scope x) (r:RelV v u)
 (h:∀s',Inv X pins (σ.set i (some v)) H s'->(∃a,Heap.SameBut a s.heap s'.heap/\(a=X.env.locals\/X.env.cells.lookup x=some a))->Q () s') (hf:X.fn x=true\/X.env.scope.names.lookup x=some .local:=by first | exact .inl rfl | exact .inr rfl | assumption):wpAny M A (storeName X.env x u) Q E s:=by
 obtain⟨m,hn,hl⟩:=id I.loc
 have hcls:(X.env.scope.kind== .class||(X.env.scope.kind== .module&&X.env.locals !=X.env.globals))=false:=by rw[I.ok.kind];rfl
 have hiσ:i<σ.length:=by rw[I.len];exact(List.getElem?_eq_some_iff.mp hi).1
 have cne:=I.cne
 have tracked:∀{a:Addr}{h':Heap},(∃o,s.heap.get? a=some o/\H a=none)->Heap.SameBut a s.heap h'->HOk X.prog X.w H h':=fun{a h'} ha hs b ob e=>by
  obtain⟨_,_,hfree⟩:=ha
  refine(I.hok b ob e).stay (fun c w' hc q=>(hs.2 c ?_).trans q) (fun _ q=>q) fun _ _ q=>q
  rintro rfl
  rcases hc with rfl | hc
  ·rw[hfree] at e;cases e
  ·rw[hfree] at hc;cases hc
 rcases hx with hk | hk
 ·refine wpAny_storeName_local hk hn (fun h' hn' hs=> ?_) hcls
  obtain⟨oL,_,_,hoL,_⟩:=id hn
  refine h _ ⟨I.ok,I.os,I.bare,⟨fun b o e n hb hx=> ?_,fun b o e n hb hx=> ?_,I.base.free,fun b o e hx=> ?_,I.base.tups,I.base.frzs,I.base.tbls⟩,⟨_,hn',fun j y v' e1 e2 e3=> ?_⟩,fun y c e=> ?_,I.free,I.u0,fun p hp=> ?_,tracked ⟨oL,hoL,I.free⟩ hs,by simpa using I.len⟩ ⟨_,hs, .inl rfl⟩
  ·exact(hs.2 b (Nat.ne_of_lt (Nat.lt_of_lt_of_le (Heap.lt_size e) I.ok.above))).trans (I.base.keep b o e n hb hx)
  ·obtain⟨sl,e1⟩:=I.base.slot b o e n hb hx
   exact⟨sl,(hs.2 b (Nat.ne_of_lt (Nat.lt_of_lt_of_le (Heap.lt_size e) I.ok.above))).trans e1⟩
  ·obtain⟨o',e1⟩:=I.base.there b o e hx
   exact⟨o',(hs.2 b (Nat.ne_of_lt (Nat.lt_of_lt_of_le (Heap.lt_size e) I.ok.above))).trans e1⟩
  ·by_cases hj:j=i
   ·subst hj
    rw[hi] at e1;cases e1
    rw[List.getElem?_set_self hiσ] at e2
    cases e2
    exact⟨u,r, .inl ⟨hk,by simp⟩⟩
   ·rw[List.getElem?_set_ne (Ne.symm hj)] at e2
    obtain⟨u',r',q⟩:=hl j y v' e1 e2 e3
    refine⟨u',r', ?_⟩
    rcases q with⟨k,e⟩ | ⟨k,c,e,z⟩
    ·refine .inl ⟨k, ?_⟩
     have:y≠x:=fun e=>hj (Mz hN e1 (e▸hi))
     simp[this,e]
    ·exact .inr ⟨k,c,e,z.sameBut hs (cne y c e)⟩
  ·obtain⟨w',z⟩:=I.cell y c e
   exact⟨w',z.sameBut hs (cne y c e)⟩
  ·obtain⟨e,n,ne,nf,d⟩:=I.pin p hp
   exact⟨(hs.2 p.1 ne).trans e,n,ne,nf,d⟩
 ·have hfn:X.fn x=true:=by
   rcases hf with z | z
   ·exact z
   ·rw[z] at hk;cases hk
  obtain⟨c,hc⟩:=I.ok.has x (.inl hk)
  obtain⟨w',z⟩:=I.cell x c hc
  refine wpAny_storeName_cell I.ok.kind hk hc z (fun h' hc' hs=> ?_)
  obtain⟨oc,hoc,hocd⟩:=id z
  refine h {s with heap:=h'} ⟨I.ok,I.os,I.bare,⟨fun b o e n hb hx=> ?_,fun b o e n hb hx=> ?_,I.base.free,fun b o e hx=> ?_,I.base.tups,I.base.frzs,I.base.tbls⟩,⟨m,hn.sameBut hs (Ne.symm (cne x c hc)),fun j y v' e1 e2 e3=> ?_⟩,fun y c' e=> ?_,I.free,I.u0,fun p hp=> ?_,tracked ⟨oc,hoc,I.u0 x c hc⟩ hs,by simpa using I.len⟩ ⟨c,hs, .inr hc⟩
  ·exact(hs.2 b (Nat.ne_of_lt (Nat.lt_of_lt_of_le (Heap.lt_size e) (I.ok.cab x c hfn hc)))).trans (I.base.keep b o e n hb hx)
  ·obtain⟨sl,e1⟩:=I.base.slot b o e n hb hx
   exact⟨sl,(hs.2 b (Nat.ne_of_lt (Nat.lt_of_lt_of_le (Heap.lt_size e) (I.ok.cab x c hfn hc)))).trans e1⟩
  ·obtain⟨o',e1⟩:=I.base.there b o e hx
   exact⟨o',(hs.2 b (Nat.ne_of_lt (Nat.lt_of_lt_of_le (Heap.lt_size e) (I.ok.cab x c hfn hc)))).trans e1⟩
  ·by_cases hj:j=i
   ·subst hj
    rw[hi] at e1;cases e1
    rw[List.getElem?_set_self hiσ] at e2
    cases e2
    exact⟨u,r, .inr ⟨.inl hk,c,hc,hc'⟩⟩
   ·rw[List.getElem?_set_ne (Ne.symm hj)] at e2
    obtain⟨u',r',q⟩:=hl j y v' e1 e2 e3
    refine⟨u',r', ?_⟩
    rcases q with q | ⟨k,c',e,z'⟩
    ·exact .inl q
    ·refine .inr ⟨k,c',e,z'.sameBut hs ?_⟩
     rintro rfl
     exact hj (Mz hN e1 (I.ok.inj _ _ _ e hc▸hi))
  ·by_cases hcc:c'=c
   ·subst hcc;exact⟨_,hc'⟩
   ·obtain⟨w2,z2⟩:=I.cell y c' e
    exact⟨w2,z2.sameBut hs hcc⟩
  ·obtain⟨e,n,ne,nf,d⟩:=I.pin p hp
   refine⟨(hs.2 p.1 ?_).trans e,n,ne,nf,d⟩
   intro q
   rw[q,hoc] at e
   have q':oc=p.2:=Option.some.inj e
   exact d w' (by rw[<-q'];exact hocd)
theorem MF {M:Model}{A:Around}{E:Value->Shared->Prop}{i:Nat}{x:Str}{v:V}{u:Value}{Q:Unit->Shared->Prop} (I:Inv X pins σ H s) (hN:X.N.Nodup) (hi:X.N[i]? =some x) (hx:Loc X.env.scope x) (r:RelV v u)
 (h:∀s',Inv X pins (σ.set i (some v)) H s'->Q () s') (hf:X.fn x=true\/X.env.scope.names.lookup x=some .local:=by first | exact .inl rfl | exact .inr rfl | assumption):wpAny M A (storeName X.env x u) Q E s:=
 Sg I hN hi hx r (fun s' I' _=>h s' I') hf
theorem Inv.call' {s':Shared}{ch:List Addr} (I:Inv X pins σ H s) (ho:s'.os=s.os) (u:Un (frs X.stack) ch H H' s.heap s'.heap) (hok:HOk X.prog X.w H' s'.heap) (hg:AllBare s'.gens)
 (hch:∀b∈ch,(b∈X.ex\/X.s₀.heap.objs.size<=b)/\b≠X.env.locals/\(∀x c,X.env.cells.lookup x=some c->c≠b)/\∀p∈X.pn++pins,p.1≠b):Inv X pins σ H' s':=by
 obtain⟨h',g',d',t',o'⟩:=s'
 have e:o'=s.os:=ho
 subst e
 exact I.call (g':=g') (t':=t') (d':=d') u hok hg hch
end
abbrev XK:=Value->Option Addr->Hp->Prop
abbrev St:=List (Option V)
abbrev VK:=V->Hp->Prop
abbrev TE:=St->Hp->VK->Prop
abbrev TT:=St->Hp->(Bool->Hp->Prop)->Prop
abbrev TA:=St->Hp->(List V->Hp->Prop)->Prop
structure Ends where
 nx:St->Hp->Prop
 rt:VK
 bk:St->Hp->Prop:=fun _ _=>False
 ct:St->Hp->Prop:=fun _ _=>False
abbrev TS:=Ends->St->Hp->Prop
def EP (X:Cx) (pins:List (Addr×Obj)) (σ:St) (Q:VK) (u:Value) (s':Shared):Prop:=∃v H',Inv X pins σ H' s'/\RelV v u/\Q v H'
def TP (X:Cx) (pins:List (Addr×Obj)) (σ:St) (Q:Bool->Hp->Prop) (b:Bool) (s':Shared):Prop:=∃H',Inv X pins σ H' s'/\Q b H'
def AP (X:Cx) (pins:List (Addr×Obj)) (σ:St) (Q:List V->Hp->Prop) (us:List Value) (s':Shared):Prop:=∃vs H',Inv X pins σ H' s'/\Vals vs us/\Q vs H'
def SP (X:Cx) (pins:List (Addr×Obj)) (D:Ends) (f:Flow) (s':Shared):Prop:=
 match f with
 | .next=>∃σ' H',Inv X pins σ' H' s'/\D.nx σ' H'
 | .brk=>∃σ' H',Inv X pins σ' H' s'/\D.bk σ' H'
 | .cont=>∃σ' H',Inv X pins σ' H' s'/\D.ct σ' H'
 | .ret u=>∃v σ' H',Inv X pins σ' H' s'/\RelV v u/\D.rt v H'
def PE (X:Cx) (e:Expr) (t:TE):Prop:=
 ∀(pins:List (Addr×Obj)) (s:Shared) (σ:St) (H:Hp) (Q:VK),Inv X pins σ H s->t σ H Q->wpAny (model X.prog X.w) X.A (eval e X.env) (EP X pins σ Q) X.xe s
def PT (X:Cx) (e:Expr) (t:TT):Prop:=
 ∀(pins:List (Addr×Obj)) (s:Shared) (σ:St) (H:Hp) (Q:Bool->Hp->Prop),Inv X pins σ H s->t σ H Q->wpAny (model X.prog X.w) X.A (isTrue e X.env (eval e X.env)) (TP X pins σ Q) X.xe s
def PW (X:Cx) (e:Expr) (t:TT):Prop:=
 ∀(whole:Sem Value) (pins:List (Addr×Obj)) (s:Shared) (σ:St) (H:Hp) (Q:Bool->Hp->Prop),Inv X pins σ H s->t σ H Q->wpAny (model X.prog X.w) X.A (isTrue e X.env whole) (TP X pins σ Q) X.xe s
theorem PW.pt {X:Cx}{e:Expr}{t:TT} (h:PW X e t):PT X e t:=h _
def PA (X:Cx) (es:List Expr) (t:TA):Prop:=
 ∀(pos:Pos) (pins:List (Addr×Obj)) (s:Shared) (σ:St) (H:Hp) (Q:List V->Hp->Prop),Inv X pins σ H s->t σ H Q->wpAny (model X.prog X.w) X.A (spliced (backTo pos (starEach es X.env))) (AP X pins σ Q) X.xe s
def PS (X:Cx) (st:Stmt) (t:TS):Prop:=
 ∀(pins:List (Addr×Obj)) (s:Shared) (σ:St) (H:Hp) (D:Ends),Inv X pins σ H s->t D σ H->wpAny (model X.prog X.w) X.A (exec st X.env) (SP X pins D) X.xe s
def PSs (X:Cx) (st:List Stmt) (t:TS):Prop:=
 ∀(pins:List (Addr×Obj)) (s:Shared) (σ:St) (H:Hp) (D:Ends),Inv X pins σ H s->t D σ H->wpAny (model X.prog X.w) X.A (execs st X.env) (SP X pins D) X.xe s
theorem thn {α:Type}{t:Sem α}{Q Q':α->Shared->Prop}{M:Model}{A:Around}{E:Value->Shared->Prop}{s:Shared} (h:wpAny M A t Q E s) (hQ:∀a s,Q a s->Q' a s):wpAny M A t Q' E s:=wpAny_mono h hQ fun _ _ x=>x
end L2
namespace L2
open PySem PySem.Spec PyProof.Rows
section
variable {X:Cx}
def aaG (i:Nat):TE:=fun σ H Q=>∃v,σ[i]? =some (some v)/\Q v H
def tC (v:V):TE:=fun _ H Q=>Q v H
theorem aaH {i:Nat}{x:Str}{pos:Pos} (hN:X.N[i]? =some x) (hv:Vis X.env.scope x) (hd:(x==("__debug__":Str))=false:=by decide) (hcd:(x==("__classdict__":Str))=false:=by decide):PE X (.Name x pos) (aaG i):=by
 intro pins s σ H Q I h
 obtain⟨v,e,h⟩:=h
 obtain⟨m,hn,hl⟩:=I.loc
 obtain⟨u,r,l⟩:=hl i x v hN e hv
 have fin:EP X pins σ Q u s:=⟨v,H,I,r,h⟩
 rcases l with⟨hk,hm⟩ | ⟨hk,c,hc,hcell⟩
 ·exact wpAny_Name (wpAny_loadName_local I.ok.kind hk hn hm fin) hd
 ·rcases hk with hk | hk
  ·exact wpAny_Name (wpAny_loadName_cell I.ok.kind hk hc hcell fin) hd
  ·exact wpAny_Name (wpAny_loadName_free I.ok.kind hk hc hcell fin hcd) hd
theorem aaI {i j pos}:PE X (.Constant (.int i) j pos) (tC (.int i)):=fun _ _ _ H _ I h=>wpAny_Constant_int ⟨.int i,H,I.tok _,⟨_,rfl⟩,h⟩
theorem ad5 {b j pos}:PE X (.Constant (.bool b) j pos) (tC (.bl b)):=fun _ _ _ H _ I h=>Constant_bool ⟨.bl b,H,I,rfl,h⟩
theorem aaJ {j pos}:PE X (.Constant .none j pos) (tC .non):=fun _ _ _ H _ I h=>Constant_none ⟨.non,H,I,rfl,h⟩
theorem aaK {x j pos}:PE X (.Constant (.str x) j pos) (tC (.str x)):=fun _ _ _ H _ I h=>Calls.Constant_str ⟨.str x,H,I.tok _,⟨_,rfl⟩,h⟩
def Gl (X:Cx) (x:Str):Prop:=X.env.kindOf x=some .globalImplicit
theorem QV {E:Value->Shared->Prop}{pins:List (Addr×Obj)}{s:Shared}{σ:St}{H:Hp}{x:Str}{u:Value}{pos:Pos}{Q:Value->Shared->Prop} (I:Inv X pins σ H s) (hg:Gl X x) (hm:X.mg x=some u) (h:Q u s)
 (hd:(x==("__debug__":Str))=false:=by decide):wpAny (model X.prog X.w) X.A (eval (.Name x pos) X.env) Q E s:=
 Calls.Name_function_global I.ok.kind hg (Calls.loadGlobal_global (by rw[I.ok.glob];exact I.mod.glob.keeps I.bk) hm h) hd
theorem Be {E:Value->Shared->Prop}{pins:List (Addr×Obj)}{s:Shared}{σ:St}{H:Hp}{x:Str}{u:Value}{pos:Pos}{Q:Value->Shared->Prop} (I:Inv X pins σ H s) (hg:Gl X x) (hm:X.mg x=none) (hv:bootBuiltins x=some u) (h:Q u s)
 (hn:x≠"__name__":=by decide) (hd:(x==("__debug__":Str))=false:=by decide):wpAny (model X.prog X.w) X.A (eval (.Name x pos) X.env) Q E s:=by
 obtain⟨mb,h1,h2⟩:=I.mod.blt
 exact Calls.Name_function_global I.ok.kind hg (Calls.loadGlobal_builtin (by rw[I.ok.glob];exact I.mod.glob.keeps I.bk) hm (by rw[I.ok.blt];exact h1.keeps I.bk) ((h2 x hn).trans hv) h) hd
theorem W3 {x:Str}{v:V}{u:Value}{pos:Pos} (hg:Gl X x) (hm:X.mg x=none) (hv:bootBuiltins x=some u) (r:RelV v u) (hn:x≠"__name__":=by decide) (hd:(x==("__debug__":Str))=false:=by decide):PE X (.Name x pos) (tC v):=
 fun _ _ _ H _ I h=>Be I hg hm hv ⟨v,H,I,r,h⟩ hn hd
variable {a b:Expr}{ta tb:TE}{pos:Pos}
def PC (X:Cx) (op:CmpOp) (a b:Expr) (t:TE):Prop:=
 ∀(pins:List (Addr×Obj)) (s:Shared) (σ:St) (H:Hp) (Q:VK),Inv X pins σ H s->t σ H Q->
  wpAny (model X.prog X.w) X.A (eval a X.env) (fun v s₁=>wpAny (model X.prog X.w) X.A (eval b X.env) (fun u s₂=>wpAny (model X.prog X.w) X.A (compareOp op v u) (EP X pins σ Q) X.xe s₂) X.xe s₁) X.xe s
def tB (t:TE):TT:=fun σ H Q=>t σ H fun x H1=>∃c,x= .bl c/\Q c H1
theorem Uc {op:CmpOp}{t:TE} (h:PC X op a b t) (h1:behindInMarks op b=false:=by first | exact nobehind _ (by decide) (by decide) | rfl):PT X (.Compare a [op] [b] pos) (tB t):=by
 intro pins s σ H Q I hw
 refine wpAny_isTrue_Compare1 (thn (h pins s σ H _ I hw) fun v s1 h1=>thn h1 fun u s2 h2=>thn h2 fun c s3 ⟨x,H1,I1,r1,q1⟩=> ?_) h1
 obtain⟨d,rfl,q⟩:=q1
 cases r1
 exact wpAny_truthy_bool ⟨H1,I1,q⟩
theorem aaL {e:Expr}{t:TE} (h:PE X e t) (he:∀whole,isTrue e X.env whole=(do let v <-whole;standAt e.pos;holding [v] (truthy v)):=by intro _;rfl):PT X e (tB t):=by
 intro pins s σ H Q I hw
 refine isTrue_plain (thn (h pins s σ H _ I hw) fun v s1 ⟨x,H1,I1,r1,q1⟩=> ?_) (he _)
 obtain⟨d,rfl,q⟩:=q1
 cases r1
 exact wpAny_truthy_bool ⟨H1,I1,q⟩
variable {tA tB':TT}{rest:List Expr}
def ad6 (t u:TT):TT:=fun σ H Q=>t σ H fun c H1=>if c=true then u σ H1 Q else Q false H1
def tOr (t u:TT):TT:=fun σ H Q=>t σ H fun c H1=>if c=true then Q true H1 else u σ H1 Q
def ad7 (t:TT):TT:=fun σ H Q=>t σ H fun c H1=>Q (!c) H1
theorem W4 (ha:PT X a tA):PW X (.BoolOp .And [a] pos) tA:=by
 intro wh pins s σ H Q I h
 refine isTrue_and (thn (ha pins s σ H Q I h) fun c s1 e=> ?_)
 cases c with
 | true=>exact isTrue_and_nil e
 | false=>exact e
theorem aaM (ha:PT X a tA):PW X (.BoolOp .Or [a] pos) tA:=by
 intro wh pins s σ H Q I h
 refine isTrue_or (thn (ha pins s σ H Q I h) fun c s1 e=> ?_)
 cases c with
 | false=>exact isTrue_or_nil e
 | true=>exact e
theorem aaN (ha:PT X a tA) (hb:PW X (.BoolOp .And (b::rest) pos) tB'):PW X (.BoolOp .And (a::b::rest) pos) (ad6 tA tB'):=by
 intro wh pins s σ H Q I h
 refine isTrue_and (thn (ha pins s σ H _ I h) fun c s1 ⟨H1,I1,q1⟩=> ?_)
 cases c with
 | true=>exact hb wh pins s1 σ H1 Q I1 q1
 | false=>exact⟨H1,I1,q1⟩
theorem ad8 (ha:PT X a tA) (hb:PW X (.BoolOp .Or (b::rest) pos) tB'):PW X (.BoolOp .Or (a::b::rest) pos) (tOr tA tB'):=by
 intro wh pins s σ H Q I h
 refine isTrue_or (thn (ha pins s σ H _ I h) fun c s1 ⟨H1,I1,q1⟩=> ?_)
 cases c with
 | true=>exact⟨H1,I1,q1⟩
 | false=>exact hb wh pins s1 σ H1 Q I1 q1
theorem aaO (ha:PT X a tA):PT X (.UnaryOp .Not a pos) (ad7 tA):=by
 intro pins s σ H Q I h
 exact isTrue_not (ha pins s σ H (fun c H1=>Q (!c) H1) I h)
def ZC (ta tb:TE):TE:=fun σ H Q=>ta σ H fun x H1=>∃c,x= .bl c/\if c=true then tb σ H1 Q else Q (.bl false) H1
def ZD (ta:TE):TE:=fun σ H Q=>ta σ H fun x H1=>∃c,x= .bl c/\Q (.bl (!c)) H1
theorem aaP {op}{t:TE} (h:PE X a t):PE X (.BoolOp op [a] pos) t:=fun pins s σ H Q I hw=>BoolOp_one (h pins s σ H Q I hw)
theorem aaQ (ha:PE X a ta) (hb:PE X (.BoolOp .And (b::rest) pos) tb):PE X (.BoolOp .And (a::b::rest) pos) (ZC ta tb):=by
 intro pins s σ H Q I h
 refine BoolOp_and (thn (ha pins s σ H _ I h) fun v s1 ⟨x,H1,I1,r1,q1⟩=> ?_)
 obtain⟨c,rfl,q1⟩:=q1
 cases r1
 refine wpAny_truthy_bool ?_
 cases c with
 | true=>exact hb pins s1 σ H1 Q I1 q1
 | false=>exact⟨.bl false,H1,I1,rfl,q1⟩
theorem aaR (ha:PE X a ta):PE X (.UnaryOp .Not a pos) (ZD ta):=by
 intro pins s σ H Q I h
 refine UnaryOp_ (thn (ha pins s σ H _ I h) fun v s1 ⟨x,H1,I1,r1,q1⟩=> ?_)
 obtain⟨c,rfl,q1⟩:=q1
 cases r1
 exact not_of (wpAny_truthy_bool ⟨.bl (!c),H1,I1,rfl,q1⟩)
def tIf (t:TT) (ta tb:TE):TE:=fun σ H Q=>t σ H fun c H1=>if c=true then ta σ H1 Q else tb σ H1 Q
theorem Ud {c:Expr} (hc:PT X c tA) (ha:PE X a ta) (hb:PE X b tb):PE X (.IfExp c a b pos) (tIf tA ta tb):=by
 intro pins s σ H Q I h
 refine wpAny_IfExp (thn (hc pins s σ H _ I h) fun d s1 ⟨H1,I1,q1⟩=> ?_)
 cases d with
 | true=>exact ha pins s1 σ H1 Q I1 q1
 | false=>exact hb pins s1 σ H1 Q I1 q1
end
end L2
namespace L2
open PySem PySem.Spec PyProof.Rows
def SqL (K:PySem.W.Frag) (H:Hp) (a:Addr) (xs:List V):Prop:=
 Rd H a (.lst xs)\/
  ∃(o:Obj) (its:Array Value) (n:Nat),K.lookup a=some o/\o.cls= .type "list"/\o.dict=none/\o.data= .seq its n/\its.size<=sizeLine/\Vals xs its.toList
def SqT (K:PySem.W.Frag) (H:Hp) (a:Addr) (xs:List V):Prop:=
 Rd H a (.tup xs)\/
  ∃(o:Obj) (its:Array Value) (n:Nat),K.lookup a=some o/\o.cls= .type "tuple"/\o.data= .seq its n/\its.size<=sizeLine/\Vals xs its.toList
def ah2:Value->Option V
 | .none=>some .non
 | .bool b=>some (.bl b)
 | .int i _=>some (.int i)
 | .str x _=>some (.str x)
 | .bytes b _=>some (.byt b)
 | .float b _=>some (.flt b)
 | .ref a=>some (.ref a)
 | .type n=>some (.ty n)
 | _=>none
theorem RelV.abs {x:V}{u:Value} (r:RelV x u):ah2 u=some x:=by
 cases x with
 | non=>cases r;rfl
 | bl _=>cases r;rfl
 | int _=>obtain⟨t,rfl⟩:=r;rfl
 | str _=>obtain⟨t,rfl⟩:=r;rfl
 | byt _=>obtain⟨t,rfl⟩:=r;rfl
 | flt _=>obtain⟨t,rfl⟩:=r;rfl
 | ref _=>cases r;rfl
 | ty _=>cases r;rfl
theorem RelV.inj {x y:V}{u:Value} (r:RelV x u) (q:RelV y u):x=y:=Option.some.inj (r.abs.symm.trans q.abs)
theorem Vals.inj:∀{xs ys:List V}{us:List Value},Vals xs us->Vals ys us->xs=ys
 | _,_,_, .nil, .nil=>rfl
 | _,_,_, .cons r t, .cons r' t'=>by rw[r.inj r',Vals.inj t t']
section
variable {X:Cx}{pins:List (Addr×Obj)}{σ:St}{H:Hp}{s:Shared}{a:Addr}{xs ys:List V}
theorem SqL.of {K:PySem.W.Frag} (h:H a=some (.lst xs)):SqL K H a xs:= .inl (.inl h)
theorem SqT.of {K:PySem.W.Frag} (h:H a=some (.tup xs)):SqT K H a xs:= .inl (.inl h)
theorem Inv.list (I:Inv X pins σ H s) (h:SqL X.K H a xs):∃its:List Value,Vals xs its/\PlainL s.heap a its.toArray/\xs.length<=sizeLine:=by
 rcases h with h | ⟨o,its,n,hk,hc,hd,hs,hz,r⟩
 ·obtain⟨z,its,n,r,e⟩:=h.ok I.hok
  exact⟨its,r,⟨_,n,e,rfl,rfl,rfl⟩,z⟩
 ·refine⟨its.toList,r,⟨o,n,I.kIn a o hk,hc,hd,by simpa using hs⟩, ?_⟩
  have e:=r.length
  simp only[Array.length_toList] at e
  omega
theorem Inv.tuple (I:Inv X pins σ H s) (h:SqT X.K H a xs):∃its:List Value,Vals xs its/\IsTup s.heap a its.toArray/\xs.length<=sizeLine:=by
 rcases h with h | ⟨o,its,n,hk,hc,hs,hz,r⟩
 ·obtain⟨z,its,r,p⟩:=h.ok I.hok
  exact⟨its,r,p,z⟩
 ·refine⟨its.toList,r,⟨o,I.kIn a o hk,hc,n,by simpa using hs⟩, ?_⟩
  have e:=r.length
  simp only[Array.length_toList] at e
  omega
theorem Inv.MJ (I:Inv X pins σ H s) (h:SqL X.K H a xs) (h':SqL X.K H a ys):xs=ys:=by
 obtain⟨its,r,⟨o,n,e,_,_,d⟩,_⟩:=I.list h
 obtain⟨its',r',⟨o',n',e',_,_,d'⟩,_⟩:=I.list h'
 rw[e] at e';cases e'
 rw[d] at d'
 injection d' with d1 _
 have:its=its':=by simpa using congrArg Array.toList d1
 subst this
 exact r.inj r'
theorem Inv.Ey (I:Inv X pins σ H s) (h:SqT X.K H a xs) (h':SqT X.K H a ys):xs=ys:=by
 obtain⟨its,r,⟨o,e,_,n,d⟩,_⟩:=I.tuple h
 obtain⟨its',r',⟨o',e',_,n',d'⟩,_⟩:=I.tuple h'
 rw[e] at e';cases e'
 rw[d] at d'
 injection d' with d1 _
 have:its=its':=by simpa using congrArg Array.toList d1
 subst this
 exact r.inj r'
end
abbrev Cx.wish (X:Cx) (E:Value->Shared->Prop):Cx:={X with xe:=E}
abbrev Cx.nox (X:Cx):Cx:=X.wish fun _ _=>False
theorem Cx.Ok.wish {X:Cx} (ok:X.Ok) (E:Value->Shared->Prop):(X.wish E).Ok:=
 ⟨ok.mod,ok.kind,ok.glob,ok.blt,ok.above,ok.inj,ok.has,ok.cab,ok.hd,ok.frames,ok.stk,ok.exf,ok.bs,ok.bsz,ok.noex,ok.exfs,ok.funs,ok.frf⟩
theorem Cx.Ok.unwish {X:Cx}{E:Value->Shared->Prop} (ok:(X.wish E).Ok):X.Ok:=
 ⟨ok.mod,ok.kind,ok.glob,ok.blt,ok.above,ok.inj,ok.has,ok.cab,ok.hd,ok.frames,ok.stk,ok.exf,ok.bs,ok.bsz,ok.noex,ok.exfs,ok.funs,ok.frf⟩
section
variable {X:Cx}{pins:List (Addr×Obj)}{σ:St}{H:Hp}{s:Shared}{E:Value->Shared->Prop}
theorem Inv.wish (I:Inv X pins σ H s) (E:Value->Shared->Prop):Inv (X.wish E) pins σ H s:=⟨I.ok.wish E,I.os,I.bare,I.base,I.loc,I.cell,I.free,I.u0,I.pin,I.hok,I.len⟩
theorem Inv.unwish (I:Inv (X.wish E) pins σ H s):Inv X pins σ H s:=⟨I.ok.unwish,I.os,I.bare,I.base,I.loc,I.cell,I.free,I.u0,I.pin,I.hok,I.len⟩
theorem SP.unwish {D:Ends}{f:Flow}{s':Shared} (h:SP (X.wish E) pins D f s'):SP X pins D f s':=by
 cases f with
 | next=>obtain⟨σ',H',I,q⟩:=h;exact⟨σ',H',I.unwish,q⟩
 | brk=>obtain⟨σ',H',I,q⟩:=h;exact⟨σ',H',I.unwish,q⟩
 | cont=>obtain⟨σ',H',I,q⟩:=h;exact⟨σ',H',I.unwish,q⟩
 | ret u=>obtain⟨v,σ',H',I,r,q⟩:=h;exact⟨v,σ',H',I.unwish,r,q⟩
theorem PSs.nox {st:List Stmt}{t:TS} (h:PSs X.nox st t):PSs X st t:=fun pins s σ H D I hw=>
 wpAny_mono (h pins s σ H D (I.wish _) hw) (fun _ _ q=>q.unwish) fun _ _ z=>False.elim z
end
section
variable {X:Cx}{st:Stmt}{rest:List Stmt}{t u:TS}{e:Expr}{te:TE}{pos:Pos}
def QX:TS:=fun D σ H=>D.nx σ H
def ad9 (t u:TS):TS:=fun D σ H=>t {D with nx:=u D} σ H
theorem W5:PSs X [] QX:=fun _ _ σ H _ I h=>wpAny_execs_nil ⟨σ,H,I,h⟩
theorem Ue (h1:PS X st t) (h2:PSs X rest u):PSs X (st::rest) (ad9 t u):=by
 intro pins s σ H D I h
 refine wpAny_execs_cons (thn (h1 pins s σ H {D with nx:=u D} I h) fun f s1 q=> ?_)
 cases f with
 | next=>
   obtain⟨σ',H',I',q⟩:=q
   exact h2 pins s1 σ' H' D I' q
 | ret v=>exact q
 | brk=>exact q
 | cont=>exact q
theorem W6 (h1:PS X st t):PSs X [st] t:=by
 intro pins s σ H D I h
 refine wpAny_execs_cons (thn (h1 pins s σ H D I h) fun f s1 q=> ?_)
 cases f with
 | next=>exact wpAny_execs_nil q
 | ret v=>exact q
 | brk=>exact q
 | cont=>exact q
def ZF:TS:=fun D σ H=>D.ct σ H
theorem W7:PS X (.Pass pos) QX:=fun _ _ σ H _ I h=>wpAny_Pass ⟨σ,H,I,h⟩
theorem MK:PS X (.Continue pos) ZF:=fun _ _ σ H _ I h=>wpAny_Continue ⟨σ,H,I,h⟩
theorem Inv.quiet {pins:List (Addr×Obj)}{σ:St}{H:Hp}{s:Shared} (I:Inv X pins σ H s):interactive X.env=false:=by simp[interactive,I.ok.kind]
def ZG (te:TE):TS:=fun D σ H=>te σ H fun _ H1=>D.nx σ H1
theorem W8 (he:PE X e te) (hs:swapsWith e none pos.line X.env=pure false:=by rfl):PS X (.Expr e pos) (ZG te):=by
 intro pins s σ H D I h
 exact wpAny_Expr_any (thn (he pins s σ H _ I h) fun v s1 ⟨x,H1,I1,r1,q1⟩=>⟨σ,H1,I1,q1⟩) I.quiet hs
def aea (te:TE):TS:=fun D σ H=>te σ H D.rt
theorem aaS (he:PE X e te):PS X (.Return (some e) pos) (aea te):=by
 intro pins s σ H D I h
 exact wpAny_Return_some (thn (he pins s σ H _ I h) fun v s1 ⟨x,H1,I1,r1,q1⟩=>⟨x,σ,H1,I1,r1,q1⟩)
def aeb (c:TT) (t u:TS):TS:=fun D σ H=>c σ H fun b H1=>if b=true then t D σ H1 else u D σ H1
theorem aec {c:Expr}{a b:List Stmt}{tc:TT} (hc:PT X c tc) (ha:PSs X a t) (hb:PSs X b u):PS X (.If c a b pos) (aeb tc t u):=by
 intro pins s σ H D I h
 refine wpAny_If (thn (hc pins s σ H _ I h) fun d s1 ⟨H1,I1,q1⟩=> ?_)
 cases d with
 | true=>exact ha pins s1 σ H1 D I1 q1
 | false=>exact hb pins s1 σ H1 D I1 q1
def Ug:TS:=fun _ _ _=>False
theorem Uh:PS X st Ug:=fun _ _ _ _ _ _ h=>h.elim
end
abbrev TG:=V->St->Hp->(St->Hp->Prop)->Prop
abbrev TGs:=List V->St->Hp->(St->Hp->Prop)->Prop
def PG (X:Cx) (target:Expr) (t:TG):Prop:=
 ∀(pins:List (Addr×Obj)) (s:Shared) (σ:St) (H:Hp) (v:V) (u:Value) (Q:St->Hp->Prop),Inv X pins σ H s->RelV v u->t v σ H Q->
  wpAny (model X.prog X.w) X.A (assign target X.env u) (fun _ s'=>∃σ' H',Inv X pins σ' H' s'/\Q σ' H') X.xe s
def PGs (X:Cx) (ts:List Expr) (t:TGs):Prop:=
 ∀(pins:List (Addr×Obj)) (s:Shared) (σ:St) (H:Hp) (vs:List V) (us:List Value) (Q:St->Hp->Prop),Inv X pins σ H s->Vals vs us->t vs σ H Q->
  wpAny (model X.prog X.w) X.A (assignInOrder ((assignEach ts X.env).map (·.2)) us) (fun _ s'=>∃σ' H',Inv X pins σ' H' s'/\Q σ' H') X.xe s
section
variable {X:Cx}{pos:Pos}
def Ka (i:Nat):TG:=fun v σ H Q=>Q (σ.set i (some v)) H
theorem QZ {i:Nat}{x:Str} (hN:X.N.Nodup) (hi:X.N[i]? =some x) (hx:Loc X.env.scope x) (hf:X.fn x=true\/X.env.scope.names.lookup x=some .local:=by first | exact .inl rfl | exact .inr rfl | assumption):PG X (.Name x pos) (Ka i):=by
 intro pins s σ H v u Q I r h
 exact wpAny_assign_Name (MF I hN hi hx r (fun s' I'=>⟨_,H,I',h⟩) hf)
def aed:TGs:=fun vs σ H Q=>vs=[]/\Q σ H
def ZJ (t:TG) (u:TGs):TGs:=fun vs σ H Q=>∃v r,vs=v::r/\t v σ H fun σ' H'=>u r σ' H' Q
theorem W9:PGs X [] aed:=by
 intro pins s σ H vs us Q I r h
 obtain⟨e,h⟩:=h
 subst e
 cases r
 exact assignInOrder_nil ⟨σ,H,I,h⟩
theorem Ui {e:Expr}{es:List Expr}{t:TG}{u:TGs} (h1:PG X e t) (h2:PGs X es u)
 (hs:(assignEach (e::es) X.env).map (·.2)=assign e X.env::(assignEach es X.env).map (·.2):=by rfl):PGs X (e::es) (ZJ t u):=by
 intro pins s σ H vs us Q I r h
 obtain⟨v,vr,e1,h⟩:=h
 subst e1
 cases r with
 | cons r rr=>
   rw[hs]
   refine assignInOrder_cons (thn (h1 pins s σ H _ _ _ I r h) fun _ s1 ⟨σ1,H1,I1,q1⟩=> ?_)
   exact h2 pins s1 σ1 H1 _ _ Q I1 rr q1
def aaT (K:PySem.W.Frag) (n:Nat) (t:TGs):TG:=fun v σ H Q=>∃a xs,v= .ref a/\SqT K H a xs/\xs.length=n/\t xs σ H Q
theorem aaU {es:List Expr}{k:Nat}{t:TGs}{n:Nat} (hc:X.calm=true) (h:PGs X es t)
 (hn:(assignEach es X.env).length=n:=by rfl) (hst:(assignEach es X.env).findIdx? (·.1)=none:=by rfl):PG X (.Tuple es k pos) (aaT X.K n t):=by
 intro pins s σ H v u Q I r hw
 obtain⟨a,xs,e1,hq,hl,hw⟩:=hw
 subst e1
 cases r
 obtain⟨its,rv,ht,hz⟩:=I.tuple hq
 refine assign_Tuple_tuple (I.ok.hd hc) ht (by simp[hn,<-hl,rv.length]) hst fun h' hx=> ?_
 have I1:Inv X pins σ H {s with heap:=h'}:=I.kept (t':=s.toks) fun b o e=>hx b o (Nat.ne_of_lt (Heap.lt_size e)) e
 exact h pins _ σ H xs _ Q I1 (by simpa using rv) hw
def Xa (te:TE) (g:TG):TS:=fun D σ H=>te σ H fun x H1=>g x σ H1 D.nx
theorem aaV {tg e:Expr}{te:TE}{g:TG} (he:PE X e te) (hg:PG X tg g) (hs:swapsWithSole [tg] e pos.line X.env=pure false:=by rfl) (hw:swappedStores [tg] e X.env=pure none:=by rfl)
 (h1:(assignEach [tg] X.env).map (·.2)=[assign tg X.env]:=by rfl):PS X (.Assign [tg] e pos) (Xa te g):=by
 intro pins s σ H D I h
 refine wpAny_Assign_stores (thn (he pins s σ H _ I h) fun v s1 ⟨x,H1,I1,r1,q1⟩=> ?_) hs hw
 rw[h1]
 exact thn (hg pins s1 σ H1 x v _ I1 r1 q1) fun _ s2 q=>q
theorem aaW {i:Nat}{x:Str}{e:Expr}{te:TE}{pos':Pos} (hN:X.N.Nodup) (hi:X.N[i]? =some x) (hx:Loc X.env.scope x) (he:PE X e te) (hs:swapsWith e (some (.Name x pos')) pos.line X.env=pure false:=by rfl) (hf:X.fn x=true\/X.env.scope.names.lookup x=some .local:=by first | exact .inl rfl | exact .inr rfl | assumption):
 PS X (.Assign [.Name x pos'] e pos) (Xa te (Ka i)):=by
 intro pins s σ H D I h
 refine wpAny_Assign_Name (thn (he pins s σ H _ I h) fun v s1 ⟨y,H1,I1,r1,q1⟩=> ?_) hs
 exact MF I1 hN hi hx r1 (fun s2 I2=>⟨_,H1,I2,q1⟩) hf
end
section
variable {X:Cx}{pos:Pos}
def Uj (c:TT) (tb:TS):TS:=fun D σ H=>∃W:Nat->St->Hp->Prop,(∃m,W m σ H)/\∀m σ H,W m σ H->
 c σ H fun b H1=>if b=true then∃N:St->Hp->Prop,(∀σ' H',N σ' H'->∃m',m'<m/\W m' σ' H')/\tb {D with nx:=N,ct:=N,bk:=D.nx} σ H1 else D.nx σ H1
theorem Uk {c:Expr}{body:List Stmt}{tc:TT}{tb:TS} (hp:PassesOwn (model X.prog X.w) X.A X.env X.xe) (hc:PT X c tc) (hb:PSs X body tb):PS X (.While c body [] pos) (Uj tc tb):=by
 intro pins s σ H D I h
 obtain⟨W,⟨m0,w0⟩,turn⟩:=h
 refine wpAny_While (codeAny_whileLoop (fun n s'=>∃σ' H',Inv X pins σ' H' s'/\W n σ' H') ?_ m0 ⟨σ,H,I,w0⟩)
 rintro n s1 ⟨σ1,H1,I1,w1⟩
 refine wpAny_passesOwn hp (thn (hc pins s1 σ1 H1 _ I1 (turn n σ1 H1 w1)) fun b s2 ⟨H2,I2,q2⟩=> ?_)
 cases b with
 | true=>
   obtain⟨N,hN,q2⟩:=q2
   rw[if_pos rfl]
   refine wpAny_passesOwn hp (thn (hb pins s2 σ1 H2 _ I2 q2) fun f s3 q3=> ?_)
   cases f with
   | next=>
     obtain⟨σ3,H3,I3,n3⟩:=q3
     obtain⟨m',hm,w3⟩:=hN σ3 H3 n3
     exact⟨m',hm,σ3,H3,I3,w3⟩
   | cont=>
     obtain⟨σ3,H3,I3,n3⟩:=q3
     obtain⟨m',hm,w3⟩:=hN σ3 H3 n3
     exact⟨m',hm,σ3,H3,I3,w3⟩
   | brk=>exact q3
   | ret v=>exact q3
 | false=>
   rw[if_neg Bool.false_ne_true]
   exact wpAny_execs_nil ⟨σ1,H2,I2,q2⟩
end
structure It where
 go:Nat->Hp->Prop
 yld:Nat->Hp->V->Hp->Prop
 stop:Nat->Hp->Prop
def Ez (X:Cx) (pins:List (Addr×Obj)) (H:Hp) (b:Addr):Prop:=
 H b=none/\b≠X.env.locals/\b∉X.fs/\(b∈X.ex\/X.s₀.heap.objs.size<=b)/\(∀x c,X.env.cells.lookup x=some c->c≠b)/\∀p∈X.pn++pins,p.1≠b
theorem Inv.JM {X:Cx}{pins:List (Addr×Obj)}{σ:St}{H H':Hp}{s:Shared}{b:Addr} (I:Inv X pins σ H s) (hb:s.heap.objs.size<=b) (hn:H' b=none):Ez X pins H' b:=by
 refine⟨hn,Nat.ne_of_gt (Nat.lt_of_lt_of_le I.lt hb),I.nofs hb, .inr (Nat.le_trans I.sz hb),fun x c e z=> ?_,fun p hp z=> ?_⟩
 ·obtain⟨v,q⟩:=I.cell x c e
  exact absurd (Nat.lt_of_lt_of_le q.lt (by rw[z];exact hb)) (Nat.lt_irrefl _)
 ·exact absurd (Nat.lt_of_lt_of_le (Heap.lt_size (I.pin p hp).1) (by rw[z];exact hb)) (Nat.lt_irrefl _)
structure Turn (P:Program) (w:World) (K:PySem.W.Frag) (tg:Expr) (J:It) (fp:List Addr) (it:Addr) (tn:Nat->Heap->Prop):Prop where
 mem:it∈fp
 obj:∀i h,tn i h->∀b∈fp,∃o,h.get? b=some o/\∀v,o.data≠ .cell v
 keep:∀i h h',tn i h->(∀b∈fp,∀o,h.get? b=some o->h'.get? b=some o)->tn i h'
 item:∀(X:Cx),X.prog=P->X.w=w->X.K=K->X.calm=true->∀(i:Nat) (pins:List (Addr×Obj)) (s:Shared) (σ:St) (H:Hp) (E:Value->Shared->Prop),Inv X pins σ H s->(∀b∈fp,Ez X pins H b)->tn i s.heap->J.go i H->
  wpAny (model P w) X.A (pyNext (.ref it)) (fun r s1=>∃u,r=some u/\
   wpAny (model P w) X.A (letOwnedTupleGo tg (.ref it) u) (fun _ s2=>∃x H',Inv X pins σ H' s2/\RelV x u/\J.yld i H x H'/\tn (i+1) s2.heap/\∀b∈fp,H' b=none) E s1) E s
 done:∀(X:Cx),X.prog=P->X.w=w->X.K=K->X.calm=true->∀(i:Nat) (pins:List (Addr×Obj)) (s:Shared) (σ:St) (H:Hp) (E:Value->Shared->Prop),Inv X pins σ H s->(∀b∈fp,Ez X pins H b)->tn i s.heap->J.stop i H->
  wpAny (model P w) X.A (pyNext (.ref it)) (fun r s1=>r=none/\Inv X pins σ H s1) E s
 self:∀(A:Around) (i:Nat) (s:Shared) (Q:Value->Shared->Prop) (E:Value->Shared->Prop),tn i s.heap->Q (.ref it) s->wpAny (model P w) A (pyIter (.ref it)) Q E s
abbrev TI:=St->Hp->(It->Hp->Prop)->Prop
def PIE (X:Cx) (pins:List (Addr×Obj)) (σ:St) (tg:Expr) (R:It->Hp->Prop) (itv:Value) (s2:Shared):Prop:=
 ∃(it:Addr) (fp:List Addr) (tn:Nat->Heap->Prop) (J:It) (H':Hp),itv= .ref it/\Inv X pins σ H' s2/\Turn X.prog X.w X.K tg J fp it tn/\tn 0 s2.heap/\(∀b∈fp,Ez X pins H' b)/\R J H'
def PI (X:Cx) (tg iter:Expr) (wi:TI):Prop:=
 ∀(pins:List (Addr×Obj)) (s:Shared) (σ:St) (H:Hp) (R:It->Hp->Prop),Inv X pins σ H s->wi σ H R->
  wpAny (model X.prog X.w) X.A (eval iter X.env) (fun v s1=>wpAny (model X.prog X.w) X.A (pyIter v) (PIE X pins σ tg R) X.xe s1) X.xe s
theorem Q0 {M:Model}{A:Around}{E:Value->Shared->Prop}{s:Shared}{tg:Expr}{it:Addr}{u:Value}{o:Obj}{n:String}{vs:Array Value}{Q:Unit->Shared->Prop} (ho:s.heap.get? it=some o) (hc:o.cls= .type n) (hd:o.data= .fields vs)
 (hn:["enumerate","zip","dict_itemiterator","dict_reverseitemiterator","odict_iterator","itertools.zip_longest","itertools.pairwise"].contains n=false) (hQ:Q () s):wpAny M A (letOwnedTupleGo tg (.ref it) u) Q E s:=by
 unfold letOwnedTupleGo
 cases tg<;>first
  | exact wpAny_pure hQ
  | (cases u<;>first
      | exact wpAny_pure hQ
      | (refine wpAny_bind (wpAny_load ho ?_)
         rw[hc,hd]
         show wpAny M A (if(["enumerate","zip","dict_itemiterator","dict_reverseitemiterator","odict_iterator","itertools.zip_longest","itertools.pairwise"].contains n&&vs[0]? ==some (rawInt _))=true then _ else _) Q E s
         rw[if_neg (by intro h;rw[hn,Bool.false_and] at h;cases h)]
         exact wpAny_pure hQ))
def Itl (K:PySem.W.Frag) (a:Addr):It:=
 ⟨fun i H=>∃xs x,SqL K H a xs/\xs[i]? =some x,fun i H x H'=>H'=H/\∀xs,SqL K H a xs->xs[i]? =some x,fun i H=>∃xs,SqL K H a xs/\xs.length<=i⟩
def Itt (K:PySem.W.Frag) (a:Addr):It:=
 ⟨fun i H=>∃xs x,SqT K H a xs/\xs[i]? =some x,fun i H x H'=>H'=H/\∀xs,SqT K H a xs->xs[i]? =some x,fun i H=>∃xs,SqT K H a xs/\xs.length<=i⟩
def Itr (lo:Int) (n:Nat):It:=⟨fun i _=>i<n,fun i H x H'=>H'=H/\x= .int (lo+i),fun i _=>n<=i⟩
theorem Sh {P:Program}{w:World}{K:PySem.W.Frag}{tg:Expr} (a it:Addr):Turn P w K tg (Itl K a) [it] it (fun i h=>h.IsListIter it a i) where
 mem:=by simp
 obj:=fun i h st b hb=>by
  have e:b=it:=by simpa using hb
  subst e
  obtain⟨o,e,c,d⟩:=st
  exact⟨o,e,fun v z=>by rw[d] at z;cases z⟩
 keep:=fun i h h' st k=>st.at fun o e=>k it (by simp) o e
 item:=by
  intro X hP hw hK hc i pins s σ H E I hf st hg
  subst hP hw hK
  obtain⟨xs,x,hq,hx⟩:=hg
  obtain⟨its,rv,p,hz⟩:=I.list hq
  obtain⟨u,hu,ru⟩:=rv.get hx
  obtain⟨f0,f1,f2,f3,f4,f5⟩:=hf it (by simp)
  refine wpAny_pyNext_list_item st p.isList (x:=u) (by simpa using hu) fun h' st' sb=> ?_
  have I1:Inv X pins σ H {s with heap:=h'}:=I.turned (t':=s.toks) (fun b o hb e=>(sb.2 b hb).trans e) f0 f1 f3 f4 f5
  obtain⟨o,e,c,d⟩:=id st'
  exact⟨u,rfl,Q0 (s:={s with heap:=h'}) e c d (by decide) ⟨x,H,I1,ru,⟨rfl,fun ys hy=>by rw[I.MJ hy hq];exact hx⟩,st',fun b hb=>(hf b hb).1⟩⟩
 done:=by
  intro X hP hw hK hc i pins s σ H E I hf st hg
  subst hP hw hK
  obtain⟨xs,hq,hx⟩:=hg
  obtain⟨its,rv,p,hz⟩:=I.list hq
  obtain⟨f0,f1,f2,f3,f4,f5⟩:=hf it (by simp)
  have hl:=rv.length
  exact wpAny_pyNext_list_end (I.ok.hd hc) st p.isList (by simp;omega) fun h' eb=>⟨rfl,I.turned (t':=s.toks) (fun b o hb e=>eb b o hb e) f0 f1 f3 f4 f5⟩
 self:=fun _ _ _ _ _ st h=>wpAny_pyIter_listiter st h
theorem O6 {P:Program}{w:World}{K:PySem.W.Frag}{tg:Expr} (a it:Addr):Turn P w K tg (Itt K a) [it] it (fun i h=>h.IsTupleIter it a i) where
 mem:=by simp
 obj:=fun i h st b hb=>by
  have e:b=it:=by simpa using hb
  subst e
  obtain⟨o,e,c,d⟩:=st
  exact⟨o,e,fun v z=>by rw[d] at z;cases z⟩
 keep:=fun i h h' st k=>st.at fun o e=>k it (by simp) o e
 item:=by
  intro X hP hw hK hc i pins s σ H E I hf st hg
  subst hP hw hK
  obtain⟨xs,x,hq,hx⟩:=hg
  obtain⟨its,rv,p,hz⟩:=I.tuple hq
  obtain⟨u,hu,ru⟩:=rv.get hx
  obtain⟨f0,f1,f2,f3,f4,f5⟩:=hf it (by simp)
  refine wpAny_pyNext_tuple_item st (show s.heap.IsTuple a its.toArray from p) (x:=u) (by simpa using hu) fun h' st' sb=> ?_
  have I1:Inv X pins σ H {s with heap:=h'}:=I.turned (t':=s.toks) (fun b o hb e=>(sb.2 b hb).trans e) f0 f1 f3 f4 f5
  obtain⟨o,e,c,d⟩:=id st'
  exact⟨u,rfl,Q0 (s:={s with heap:=h'}) e c d (by decide) ⟨x,H,I1,ru,⟨rfl,fun ys hy=>by rw[I.Ey hy hq];exact hx⟩,st',fun b hb=>(hf b hb).1⟩⟩
 done:=by
  intro X hP hw hK hc i pins s σ H E I hf st hg
  subst hP hw hK
  obtain⟨xs,hq,hx⟩:=hg
  obtain⟨its,rv,p,hz⟩:=I.tuple hq
  obtain⟨f0,f1,f2,f3,f4,f5⟩:=hf it (by simp)
  have hl:=rv.length
  exact wpAny_pyNext_tuple_end (I.ok.hd hc) st (show s.heap.IsTuple a its.toArray from p) (by simp;omega) fun h' eb=>⟨rfl,I.turned (t':=s.toks) (fun b o hb e=>eb b o hb e) f0 f1 f3 f4 f5⟩
 self:=fun _ _ _ _ _ st h=>wpAny_pyIter_tupleiter st h
theorem O7 {P:Program}{w:World}{K:PySem.W.Frag}{tg:Expr} (it:Addr) (lo:Int) (n:Nat):Turn P w K tg (Itr lo n) [it] it (fun i h=>IsRangeIter h it (lo+(i:Nat)* 1) ((n:Int) - (i:Nat)) 1) where
 mem:=by simp
 obj:=fun i h st b hb=>by
  have e:b=it:=by simpa using hb
  subst e
  exact⟨_,st,fun v z=>by
   have z':Data.fields _=Data.cell v:=z
   cases z'⟩
 keep:=fun i h h' st k=>k it (by simp) _ st
 item:=by
  intro X hP hw hK hc i pins s σ H E I hf st hg
  subst hP hw hK
  obtain⟨f0,f1,f2,f3,f4,f5⟩:=hf it (by simp)
  have W:=Walks.range (prog:=X.prog) (w:=X.w) (I.ok.hd hc) it lo 1 n
  refine W.item i s _ _ hg st fun v h' tk hv st' kk=> ?_
  obtain⟨t,rfl⟩:=hv
  have I1:Inv X pins σ H {s with heap:=h',toks:=tk}:=I.turned (fun b o hb e=>kk b o (by simpa using hb) e) f0 f1 f3 f4 f5
  refine⟨_,rfl,Q0 (s:={s with heap:=h',toks:=tk}) (n:="range_iterator") st' rfl rfl (by decide) ⟨.int (lo+i),H,I1,⟨t, ?_⟩,⟨rfl,rfl⟩,st',fun b hb=>(hf b hb).1⟩⟩
  rw[Int.mul_one]
 done:=by
  intro X hP hw hK hc i pins s σ H E I hf st hg
  subst hP hw hK
  obtain⟨f0,f1,f2,f3,f4,f5⟩:=hf it (by simp)
  exact wpAny_pyNext_range_end (I.ok.hd hc) st (by have:n<=i:=hg;omega) fun h' eb=>⟨rfl,I.turned (t':=s.toks) (fun b o hb e=>eb b o hb e) f0 f1 f3 f4 f5⟩
 self:=fun _ _ _ _ _ st h=>wpAny_pyIter_rangeiter st h
end L2
namespace L2
open PySem PySem.Spec PyProof.Rows
section
variable {X:Cx}{tg:Expr}
def ZK (K:PySem.W.Frag) (tl:TE):TI:=fun σ H R=>tl σ H fun x H1=>∃a,x= .ref a/\(∃xs,SqL K H1 a xs)/\R (Itl K a) H1
def aee (K:PySem.W.Frag) (tl:TE):TI:=fun σ H R=>tl σ H fun x H1=>∃a,x= .ref a/\(∃xs,SqT K H1 a xs)/\R (Itt K a) H1
theorem Xb {l:Expr}{tl:TE} (hl:PE X l tl):PI X tg l (ZK X.K tl):=by
 intro pins s σ H R I h
 refine thn (hl pins s σ H _ I h) fun v s1 ⟨x,H1,I1,r1,q1⟩=> ?_
 obtain⟨a,e,⟨xs,hq⟩,q⟩:=q1
 subst e
 cases r1
 obtain⟨its,rv,p,hz⟩:=I1.list hq
 refine wpAny_pyIter_list p.isList ?_
 refine⟨s1.heap.objs.size,[s1.heap.objs.size],_,_,H1,rfl,I1.kept (t':=s1.toks) fun b o e=>Heap.get?_push_of_some _ e,Sh a _,⟨_,Heap.get?_push_size _ rfl,rfl,rfl⟩,fun b hb=> ?_,q⟩
 have e:b=s1.heap.objs.size:=by simpa using hb
 subst e
 exact I1.JM (Nat.le_refl _) (I1.hok.fresh (Nat.le_refl _))
theorem aaX {l:Expr}{tl:TE} (hl:PE X l tl):PI X tg l (aee X.K tl):=by
 intro pins s σ H R I h
 refine thn (hl pins s σ H _ I h) fun v s1 ⟨x,H1,I1,r1,q1⟩=> ?_
 obtain⟨a,e,⟨xs,hq⟩,q⟩:=q1
 subst e
 cases r1
 obtain⟨its,rv,p,hz⟩:=I1.tuple hq
 refine wpAny_pyIter_tuple (show s1.heap.IsTuple a its.toArray from p) ?_
 refine⟨s1.heap.objs.size,[s1.heap.objs.size],_,_,H1,rfl,I1.kept (t':=s1.toks) fun b o e=>Heap.get?_push_of_some _ e,O6 a _,⟨_,Heap.get?_push_size _ rfl,rfl,rfl⟩,fun b hb=> ?_,q⟩
 have e:b=s1.heap.objs.size:=by simpa using hb
 subst e
 exact I1.JM (Nat.le_refl _) (I1.hok.fresh (Nat.le_refl _))
theorem Ul {pins:List (Addr×Obj)}{σ:St}{H:Hp}{s:Shared}{R:It->Hp->Prop}{E:Value->Shared->Prop}{lo hi:Int}{t u v:Tok}{tk:Nat} (I:Inv X pins σ H s) (h1: -(2 ^ 62)<=lo) (h2:lo<2 ^ 62) (h3: -(2 ^ 62)<=hi) (h4:hi<2 ^ 62)
 (q:R (Itr lo (hi - lo).toNat) H):wpAny (model X.prog X.w) X.A (pyIter (.ref s.heap.objs.size)) (PIE X pins σ tg R) E {s with heap:=s.heap.push {cls:= .type "range",data:= .fields #[.int lo t, .int hi u, .int 1 v]},toks:=tk}:=by
 refine wpAny_pyIter_range (IsRange.new ..) (small_one h1 h2 h3 h4) ?_
 have I1:Inv X pins σ H {s with heap:=s.heap.push {cls:= .type "range",data:= .fields #[.int lo t, .int hi u, .int 1 v]},toks:=tk}:=I.kept fun b o e=>Heap.get?_push_of_some _ e
 refine⟨(s.heap.push {cls:= .type "range",data:= .fields #[.int lo t, .int hi u, .int 1 v]}).objs.size,[(s.heap.push {cls:= .type "range",data:= .fields #[.int lo t, .int hi u, .int 1 v]}).objs.size],_,_,H,rfl,
  I1.kept (t':=tk) fun b o e=>Heap.get?_push_of_some _ e,O7 _ lo (hi - lo).toNat, ?_,fun b hb=> ?_,q⟩
 ·have e1:lo+((0:Nat):Int)* 1=lo:=by simp
  have e2:(((hi - lo).toNat:Nat):Int) - ((0:Nat):Int)=Builtin.Range.rangeSize lo hi 1:=by rw[rangeSize_one];split<;>omega
  show IsRangeIter _ _ (lo+((0:Nat):Int)* 1) ((((hi - lo).toNat:Nat):Int) - ((0:Nat):Int)) 1
  rw[e1,e2]
  exact Heap.get?_push_size _ rfl
 ·have e:b=(s.heap.push {cls:= .type "range",data:= .fields #[.int lo t, .int hi u, .int 1 v]}).objs.size:=by simpa using hb
  subst e
  exact I1.JM (Nat.le_refl _) (I1.hok.fresh (Nat.le_refl _))
def ZL (ta:TA):TI:=fun σ H R=>ta σ H fun vs H1=>∃j:Int,vs=[.int j]/\ -(2 ^ 62)<=j/\j<2 ^ 62/\R (Itr 0 j.toNat) H1
theorem Sq {a:Expr}{ta:TA}{p pos:Pos} (hg:Gl X "range") (hm:X.mg "range"=none) (ha:PA X [a] ta) (hs:starEach [a] X.env=[(false,eval a X.env)]:=by rfl):PI X tg (.Call (.Name "range" p) [a] [] pos) (ZL ta):=by
 intro pins s σ H R I h
 refine Call_ (Be I hg hm boot_range (PyProof.Rows.callWith_type1 (thn (ha pos pins s σ H _ I h) fun us s1 ⟨vs,H1,I1,r1,q1⟩=> ?_) hs rfl))
 obtain⟨j,e,q1,q2,q⟩:=q1
 subst e
 cases r1 with
 | cons r rr=>
   cases rr
   obtain⟨t,rfl⟩:=r
   exact call_range_1 (Ul I1 (by omega) (by omega) q1 q2 (by simpa using q))
def aef (wi:TI) (g:TG) (tb:TS):TS:=fun D σ H=>wi σ H fun J H1=>∃W:Nat->Nat->St->Hp->Prop,(∃m,W 0 m σ H1)/\∀i m σ H,W i m σ H->
 (J.stop i H/\D.nx σ H)\/(J.go i H/\∃N:St->Hp->Prop,(∀σ' H',N σ' H'->∃m',m'<m/\W (i+1) m' σ' H')/\∀x H',J.yld i H x H'->g x σ H' fun σ2 H2=>tb {D with nx:=N,ct:=N,bk:=D.nx} σ2 H2)
def Hw (fp:List Addr) (h:Heap):List (Addr×Obj):=fp.filterMap fun b=>(h.get? b).map fun o=>(b,o)
theorem wu {fp:List Addr}{h:Heap}{b:Addr}{o:Obj} (hb:b∈fp) (e:h.get? b=some o):(b,o)∈Hw fp h:=List.mem_filterMap.mpr ⟨b,hb,by rw[e];rfl⟩
theorem Ss {fp:List Addr}{h:Heap}{p:Addr×Obj} (hp:p∈Hw fp h):p.1∈fp/\h.get? p.1=some p.2:=by
 obtain⟨b,hb,e⟩:=List.mem_filterMap.mp hp
 cases q:h.get? b with
 | none=>rw[q] at e;cases e
 | some o=>
   rw[q] at e
   have e':(b,o)=p:=Option.some.inj e
   subst e'
   exact⟨hb,q⟩
theorem Inv.pinned {pins:List (Addr×Obj)}{σ:St}{H:Hp}{s:Shared}{fp:List Addr} (I:Inv X pins σ H s) (hf:∀b∈fp,Ez X pins H b) (ho:∀b∈fp,∃o,s.heap.get? b=some o/\∀v,o.data≠ .cell v):Inv X (pins++Hw fp s.heap) σ H s:=
 I.QM fun p hp=>(List.mem_append.mp hp).elim (fun z=>I.pin p (List.mem_append_right _ z)) fun z=>by
   obtain⟨hb,e⟩:=Ss z
   obtain⟨f0,f1,f2,_⟩:=hf p.1 hb
   obtain⟨o,e',d⟩:=ho p.1 hb
   rw[e] at e';cases e'
   exact⟨e,f0,f1,f2,d⟩
theorem Inv.unpinned {pins pl:List (Addr×Obj)}{σ:St}{H:Hp}{s:Shared} (I:Inv X (pins++pl) σ H s):Inv X pins σ H s:=I.QM fun p hp=>I.pin p (List.mem_append_right _ (List.mem_append_left _ hp))
theorem aaY {iter:Expr}{body:List Stmt}{wi:TI}{g:TG}{tb:TS}{pos:Pos} (hp:PassesOwn (model X.prog X.w) X.A X.env X.xe) (hc:X.calm=true) (hi:PI X tg iter wi) (hg:PG X tg g) (hb:PSs X body tb)
 (hs:∀x,foldedSetIterable iter X.env x=pure x:=by intro _;rfl):PS X (.For tg iter body [] pos) (aef wi g tb):=by
 intro pins s σ H D I h
 refine wpAny_For (thn (hi pins s σ H _ I h) fun v s1 h1=>thn h1 fun itv s2 h2=> ?_) hs
 obtain⟨it,fp,tn,J,H2,e,I2,T,st2,f2,W,⟨m0,w0⟩,turn⟩:=h2
 subst e
 have stat:∀{H':Hp},(∀b∈fp,H' b=none)->∀b∈fp,Ez X pins H' b:=fun hn b hb=>⟨hn b hb,(f2 b hb).2⟩
 refine codeAny_forLoop_any (fun n s'=>∃i σ' H',Inv X pins σ' H' s'/\tn i s'.heap/\(∀b∈fp,H' b=none)/\W i n σ' H') ?_ m0 ⟨0,σ,H2,I2,st2,fun b hb=>(f2 b hb).1,w0⟩
 rintro n s3 ⟨i,σ3,H3,I3,st3,fr3,w3⟩
 rcases turn i n σ3 H3 w3 with⟨stop,qn⟩ | ⟨go,N,hN,step⟩
 ·refine wpAny_passesOwn hp (thn (T.done X rfl rfl rfl hc i pins s3 σ3 H3 X.xe I3 (stat fr3) st3 stop) fun r s4 ⟨hr,I4⟩=> ?_)
  subst hr
  exact wpAny_execs_nil ⟨σ3,H3,I4,qn⟩
 ·refine wpAny_passesOwn hp (thn (T.item X rfl rfl rfl hc i pins s3 σ3 H3 X.xe I3 (stat fr3) st3 go) fun r s4 ⟨u,hr,h4⟩=> ?_)
  subst hr
  refine wpAny_passesOwn hp (thn h4 fun _ s5 ⟨x,H5,I5,r5,y5,st5,fr5⟩=> ?_)
  have I5':=I5.pinned (stat fr5) (T.obj _ _ st5)
  refine wpAny_passesOwn hp (thn (hg _ s5 σ3 H5 x u _ I5' r5 (step x H5 y5)) fun _ s6 ⟨σ6,H6,I6,q6⟩=> ?_)
  refine wpAny_passesOwn hp (thn (hb _ s6 σ6 H6 _ I6 q6) fun f s7 q7=> ?_)
  have again:∀{σ7:St}{H7:Hp},Inv X (pins++Hw fp s5.heap) σ7 H7 s7->N σ7 H7->∃m,m<n/\∃i σ' H',Inv X pins σ' H' s7/\tn i s7.heap/\(∀b∈fp,H' b=none)/\W i m σ' H':=fun{σ7 H7} I7 n7=>by
   obtain⟨m',hm,w7⟩:=hN σ7 H7 n7
   refine⟨m',hm,i+1,σ7,H7,I7.unpinned,T.keep _ _ _ st5 fun b hb o e=>(I7.pin (b,o) (List.mem_append_right _ (List.mem_append_right _ (wu hb e)))).1,fun b hb=> ?_,w7⟩
   obtain⟨o,e,d⟩:=T.obj _ _ st5 b hb
   exact(I7.pin (b,o) (List.mem_append_right _ (List.mem_append_right _ (wu hb e)))).2.1
  cases f with
  | next=>obtain⟨σ7,H7,I7,n7⟩:=q7;exact again I7 n7
  | cont=>obtain⟨σ7,H7,I7,n7⟩:=q7;exact again I7 n7
  | brk=>obtain⟨σ7,H7,I7,q7⟩:=q7;exact⟨σ7,H7,I7.unpinned,q7⟩
  | ret v=>obtain⟨x7,σ7,H7,I7,r7,q7⟩:=q7;exact⟨x7,σ7,H7,I7.unpinned,r7,q7⟩
end
theorem MN {K:PySem.W.Frag}{a:Addr}{xs:List V}{g:TG}{tb:TS}{D:Ends}{σ:St}{H:Hp} (Pv:Nat->St->Hp->Prop) (h0:Pv 0 σ H) (hl:∀i σ H,i<=xs.length->Pv i σ H->SqL K H a xs)
 (hs:∀i x σ H,xs[i]? =some x->Pv i σ H->g x σ H fun σ2 H2=>tb {D with nx:=Pv (i+1),ct:=Pv (i+1),bk:=D.nx} σ2 H2) (hd:∀σ H,Pv xs.length σ H->D.nx σ H):
 ∃W:Nat->Nat->St->Hp->Prop,(∃m,W 0 m σ H)/\∀i m σ H,W i m σ H->
  ((Itl K a).stop i H/\D.nx σ H)\/((Itl K a).go i H/\∃N:St->Hp->Prop,(∀σ' H',N σ' H'->∃m',m'<m/\W (i+1) m' σ' H')/\∀x H',(Itl K a).yld i H x H'->g x σ H' fun σ2 H2=>tb {D with nx:=N,ct:=N,bk:=D.nx} σ2 H2):=by
 refine⟨fun i m σ H=>m=xs.length - i/\i<=xs.length/\Pv i σ H,⟨xs.length,by simp,Nat.zero_le _,h0⟩, ?_⟩
 rintro i m σ H ⟨rfl,hi,p⟩
 have q:=hl i σ H hi p
 by_cases hlt:i<xs.length
 ·refine .inr ⟨⟨xs,xs[i],q,by simp[hlt]⟩,Pv (i+1),fun σ' H' p'=>⟨xs.length - (i+1),by omega,rfl,hlt,p'⟩,fun x H' y=> ?_⟩
  obtain⟨e,y⟩:=y
  subst e
  exact hs i x σ _ (y xs q) p
 ·have e:i=xs.length:=by omega
  subst e
  exact .inl ⟨⟨xs,q,Nat.le_refl _⟩,hd σ H p⟩
theorem EY {lo:Int}{n:Nat}{g:TG}{tb:TS}{D:Ends}{σ:St}{H:Hp} (Pv:Nat->St->Hp->Prop) (h0:Pv 0 σ H)
 (hs:∀i σ H,i<n->Pv i σ H->g (.int (lo+i)) σ H fun σ2 H2=>tb {D with nx:=Pv (i+1),ct:=Pv (i+1),bk:=D.nx} σ2 H2) (hd:∀σ H,Pv n σ H->D.nx σ H):
 ∃W:Nat->Nat->St->Hp->Prop,(∃m,W 0 m σ H)/\∀i m σ H,W i m σ H->
  ((Itr lo n).stop i H/\D.nx σ H)\/((Itr lo n).go i H/\∃N:St->Hp->Prop,(∀σ' H',N σ' H'->∃m',m'<m/\W (i+1) m' σ' H')/\∀x H',(Itr lo n).yld i H x H'->g x σ H' fun σ2 H2=>tb {D with nx:=N,ct:=N,bk:=D.nx} σ2 H2):=by
 refine⟨fun i m σ H=>m=n - i/\i<=n/\Pv i σ H,⟨n,by simp,Nat.zero_le _,h0⟩, ?_⟩
 rintro i m σ H ⟨rfl,hi,p⟩
 by_cases hlt:i<n
 ·refine .inr ⟨hlt,Pv (i+1),fun σ' H' p'=>⟨n - (i+1),by omega,rfl,hlt,p'⟩,fun x H' y=> ?_⟩
  obtain⟨e,y⟩:=y
  subst e y
  exact hs i σ _ hlt p
 ·have e:i=n:=by omega
  subst e
  exact .inl ⟨Nat.le_refl _,hd σ H p⟩
end L2
namespace L2
open PySem PySem.Spec PyProof.Rows
abbrev R2:=V->V->Hp->VK->Prop
def OpR (X:Cx) (f:Value->Value->Sem Value) (r:R2):Prop:=
 ∀(pins:List (Addr×Obj)) (s:Shared) (σ:St) (H:Hp) (x y:V) (v u:Value) (Q:VK),Inv X pins σ H s->RelV x v->RelV y u->r x y H Q->
  wpAny (model X.prog X.w) X.A (f v u) (EP X pins σ Q) X.xe s
def UnR (X:Cx) (f:Value->Sem Value) (r:V->Hp->VK->Prop):Prop:=
 ∀(pins:List (Addr×Obj)) (s:Shared) (σ:St) (H:Hp) (x:V) (v:Value) (Q:VK),Inv X pins σ H s->RelV x v->r x H Q->
  wpAny (model X.prog X.w) X.A (f v) (EP X pins σ Q) X.xe s
def rP (X:Cx) (f:Value) (r:List V->Hp->VK->Prop):Prop:=
 ∀(pins:List (Addr×Obj)) (s:Shared) (σ:St) (H:Hp) (xs:List V) (us:List Value) (Q:VK),Inv X pins σ H s->Vals xs us->r xs H Q->
  wpAny (model X.prog X.w) X.A (call f us) (EP X pins σ Q) X.xe s
def ah3 (X:Cx) (r:V->Hp->(Bool->Hp->Prop)->Prop):Prop:=
 ∀(pins:List (Addr×Obj)) (s:Shared) (σ:St) (H:Hp) (x:V) (v:Value) (Q:Bool->Hp->Prop),Inv X pins σ H s->RelV x v->r x H Q->
  wpAny (model X.prog X.w) X.A (truthy v) (TP X pins σ Q) X.xe s
def tOp (r:R2) (ta tb:TE):TE:=fun σ H Q=>ta σ H fun x H1=>tb σ H1 fun y H2=>r x y H2 Q
def tUn (r:V->Hp->VK->Prop) (ta:TE):TE:=fun σ H Q=>ta σ H fun x H1=>r x H1 Q
def rI (C:Int->Int->Prop) (g:Int->Int->V):R2:=fun x y H Q=>∃i j,x= .int i/\y= .int j/\C i j/\Q (g i j) H
def rI0 (g:Int->Int->V):R2:=fun x y H Q=>∃i j,x= .int i/\y= .int j/\Q (g i j) H
def rU (g:Int->V):V->Hp->VK->Prop:=fun x H Q=>∃i,x= .int i/\Q (g i) H
section
variable {X:Cx}{a b c:Expr}{ta tb tc:TE}{pos:Pos}
theorem aaZ (ha:PE X a ta) (hb:PE X b tb) {pins:List (Addr×Obj)}{s:Shared}{σ:St}{H:Hp}{R:V->V->Hp->Prop} (I:Inv X pins σ H s)
 (h:ta σ H fun x H1=>tb σ H1 fun y H2=>R x y H2) {Q:Value->Shared->Prop}{f:Value->Value->Sem Value}
 (hf:∀v u s2 x y H2,Inv X pins σ H2 s2->RelV x v->RelV y u->R x y H2->wpAny (model X.prog X.w) X.A (f v u) Q X.xe s2):
 wpAny (model X.prog X.w) X.A (eval a X.env) (fun v s₁=>wpAny (model X.prog X.w) X.A (eval b X.env) (fun u s₂=>wpAny (model X.prog X.w) X.A (f v u) Q X.xe s₂) X.xe s₁) X.xe s:=by
 refine thn (ha pins s σ H _ I h) fun v s1 ⟨x,H1,I1,r1,q1⟩=> ?_
 refine thn (hb pins s1 σ H1 _ I1 q1) fun u s2 ⟨y,H2,I2,r2,q2⟩=> ?_
 exact hf v u s2 x y H2 I2 r1 r2 q2
theorem aeg {op:Operator}{r:R2} (ho:OpR X (binaryOp op) r) (ha:PE X a ta) (hb:PE X b tb):PE X (.BinOp a op b pos) (tOp r ta tb):=by
 intro pins s σ H Q I h
 exact wpAny_BinOp (aaZ ha hb I h fun v u s2 x y H2 I2 rx ry q=>ho pins s2 σ H2 x y v u Q I2 rx ry q)
theorem aeh {op:UnaryOp}{r:V->Hp->VK->Prop} (ho:UnR X (unaryOp op) r) (ha:PE X a ta):PE X (.UnaryOp op a pos) (tUn r ta):=by
 intro pins s σ H Q I h
 exact UnaryOp_ (thn (ha pins s σ H _ I h) fun v s1 ⟨x,H1,I1,r1,q1⟩=>ho pins s1 σ H1 x v Q I1 r1 q1)
theorem opI {f:Value->Value->Sem Value}{C:Int->Int->Prop}{g:Int->Int->Int}
 (rule:∀(i j:Int) (t u:Tok) (s:Shared) (Q:Value->Shared->Prop) (E:Value->Shared->Prop),C i j->Q (.int (g i j) s.toks) {s with toks:=s.toks+1}->wpAny (model X.prog X.w) X.A (f (.int i t) (.int j u)) Q E s):
 OpR X f (rI C fun i j=> .int (g i j)):=by
 intro pins s σ H x y v u Q I rx ry h
 obtain⟨i,j,rfl,rfl,hc,q⟩:=h
 obtain⟨t,rfl⟩:=rx
 obtain⟨t',rfl⟩:=ry
 exact rule i j t t' s _ _ hc ⟨.int (g i j),H,I.tok _,⟨_,rfl⟩,q⟩
theorem aei {f:Value->Value->Sem Value}{g:Int->Int->Int}
 (rule:∀(i j:Int) (t u:Tok) (s:Shared) (Q:Value->Shared->Prop) (E:Value->Shared->Prop),Q (.int (g i j) s.toks) {s with toks:=s.toks+1}->wpAny (model X.prog X.w) X.A (f (.int i t) (.int j u)) Q E s):
 OpR X f (rI0 fun i j=> .int (g i j)):=by
 intro pins s σ H x y v u Q I rx ry h
 obtain⟨i,j,rfl,rfl,q⟩:=h
 obtain⟨t,rfl⟩:=rx
 obtain⟨t',rfl⟩:=ry
 exact rule i j t t' s _ _ ⟨.int (g i j),H,I.tok _,⟨_,rfl⟩,q⟩
theorem aej {f:Value->Value->Sem Value}{g:Int->Int->Bool}
 (rule:∀(i j:Int) (t u:Tok) (s:Shared) (Q:Value->Shared->Prop) (E:Value->Shared->Prop),Q (.bool (g i j)) s->wpAny (model X.prog X.w) X.A (f (.int i t) (.int j u)) Q E s):
 OpR X f (rI0 fun i j=> .bl (g i j)):=by
 intro pins s σ H x y v u Q I rx ry h
 obtain⟨i,j,rfl,rfl,q⟩:=h
 obtain⟨t,rfl⟩:=rx
 obtain⟨t',rfl⟩:=ry
 exact rule i j t t' s _ _ ⟨.bl (g i j),H,I,rfl,q⟩
def Um (i j:Int):Prop:=0<=j/\j<=1000000/\i.natAbs<2 ^ 64
def Fb (i j:Int):Prop:=(-(2 ^ 64)<i/\i<2 ^ 64)\/(-(2 ^ 64)<j/\j<2 ^ 64)
theorem Fb.ok {i j:Int} (h:Fb i j):IntMulOk i j:=by
 rcases h with⟨h1,h2⟩ | ⟨h1,h2⟩
 ·exact .of_left (intBits_le_64 h1 h2)
 ·exact .of_right (intBits_le_64 h1 h2)
theorem aa0:OpR X (binaryOp .Add) (rI0 fun i j=> .int (i+j)):=aei fun _ _ _ _ _ _ _ q=>add_int q
theorem aa1:OpR X (binaryOp .Sub) (rI0 fun i j=> .int (i - j)):=aei fun _ _ _ _ _ _ _ q=>sub_int q
theorem aa2:OpR X (binaryOp .Mult) (rI Fb fun i j=> .int (i * j)):=opI fun _ _ _ _ _ _ _ hc q=>mul_int q hc.ok
theorem aa3:OpR X (binaryOp .Mod) (rI (fun _ j=>0<j) fun i j=> .int (i % j)):=opI fun i j _ _ _ _ _ hc q=>by
 have h1:(0:Int)<j:=hc
 exact mod_int' (by omega) (by rw[Int.fmod_eq_emod_of_nonneg i (by omega)];exact q)
theorem aa4:OpR X (binaryOp .Pow) (rI Um fun i j=> .int (i ^ j.toNat)):=opI fun _ _ _ _ _ _ _ hc q=>pow_int_small hc.1 hc.2.1 hc.2.2 q
theorem unI {f:Value->Sem Value}{g:Int->Int}
 (rule:∀(i:Int) (t:Tok) (s:Shared) (Q:Value->Shared->Prop) (E:Value->Shared->Prop),Q (.int (g i) s.toks) {s with toks:=s.toks+1}->wpAny (model X.prog X.w) X.A (f (.int i t)) Q E s):
 UnR X f (rU fun i=> .int (g i)):=by
 intro pins s σ H x v Q I rx h
 obtain⟨i,rfl,q⟩:=h
 obtain⟨t,rfl⟩:=rx
 exact rule i t s _ _ ⟨.int (g i),H,I.tok _,⟨_,rfl⟩,q⟩
theorem aa5:UnR X (unaryOp .USub) (rU fun i=> .int (-i)):=unI fun _ _ _ _ _ q=>neg_int q
end
def aek:V->V->Bool
 | .non, .non=>true | .non, .int _=>true | .int _, .non=>true | .non, .bl _=>true | .bl _, .non=>true | .non, .str _=>true | .str _, .non=>true
 | .int _, .int _=>true | .bl _, .bl _=>true | .str _, .str _=>true | .byt _, .byt _=>true
 | .int _, .str _=>true | .str _, .int _=>true | .bl _, .str _=>true | .str _, .bl _=>true
 | _,_=>false
def rEq:R2:=fun x y H Q=>aek x y=true/\Q (.bl (decide (x=y))) H
def rNe:R2:=fun x y H Q=>aek x y=true/\Q (.bl (!decide (x=y))) H
theorem Q3 {i j:Int}:decide (V.int i=V.int j)=(i==j):=by
 rw[Bool.eq_iff_iff]
 simp
theorem Uo {i j:Bool}:decide (V.bl i=V.bl j)=(i==j):=by
 rw[Bool.eq_iff_iff]
 simp
theorem Q4 {i j:Str}:decide (V.str i=V.str j)=(i==j):=by
 rw[Bool.eq_iff_iff]
 simp
theorem Q5 {i j:Array UInt8}:decide (V.byt i=V.byt j)=(i.toList==j.toList):=by
 rw[Bool.eq_iff_iff]
 cases i
 cases j
 simp
section
variable {X:Cx}{a b c:Expr}{ta tb tc:TE}{pos:Pos}
theorem fc {pins:List (Addr×Obj)}{σ:St}{H:Hp}{s:Shared}{Q:VK}{k k':Bool} (I:Inv X pins σ H s) (q:Q (.bl k) H) (e:k=k'):EP X pins σ Q (.bool k') s:=by
 subst e
 exact⟨.bl k,H,I,rfl,q⟩
theorem ael:OpR X (compareOp .Eq) rEq:=by
 intro pins s σ H x y v u Q I rx ry h
 obtain⟨hs,q⟩:=h
 cases x with
 | non=>
   cases rx
   cases y with
   | non=>cases ry;exact PySem.EqNone.eq_none_none (fc I q (by simp))
   | bl j=>cases ry;exact PySem.EqNone.eq_none_bool (fc I q (by simp))
   | int j=>obtain⟨t',rfl⟩:=ry;exact PySem.EqNone.eq_none_int (fc I q (by simp))
   | str j=>obtain⟨t',rfl⟩:=ry;exact PySem.EqNone.eq_none_str (fc I q (by simp))
   | _=>exact absurd (show false=true from hs) Bool.false_ne_true
 | bl i=>
   cases rx
   cases y with
   | non=>cases ry;exact PySem.EqNone.eq_bool_none (fc I q (by simp))
   | bl j=>cases ry;exact eq_bool (fc I q Uo)
   | str j=>obtain⟨t',rfl⟩:=ry;exact PySem.EqMixed.eq_bool_str (fc I q (by simp))
   | _=>exact absurd (show false=true from hs) Bool.false_ne_true
 | int i=>
   obtain⟨t,rfl⟩:=rx
   cases y with
   | non=>cases ry;exact PySem.EqNone.eq_int_none (fc I q (by simp))
   | int j=>obtain⟨t',rfl⟩:=ry;exact eq_int (fc I q Q3)
   | str j=>obtain⟨t',rfl⟩:=ry;exact PySem.EqMixed.eq_int_str (fc I q (by simp))
   | _=>exact absurd (show false=true from hs) Bool.false_ne_true
 | str i=>
   obtain⟨t,rfl⟩:=rx
   cases y with
   | non=>cases ry;exact PySem.EqNone.eq_str_none (fc I q (by simp))
   | bl j=>cases ry;exact PySem.EqMixed.eq_str_bool (fc I q (by simp))
   | int j=>obtain⟨t',rfl⟩:=ry;exact PySem.EqMixed.eq_str_int (fc I q (by simp))
   | str j=>obtain⟨t',rfl⟩:=ry;exact eq_str (fc I q Q4)
   | _=>exact absurd (show false=true from hs) Bool.false_ne_true
 | byt i=>
   obtain⟨t,rfl⟩:=rx
   cases y with
   | byt j=>obtain⟨t',rfl⟩:=ry;exact PySem.W.eq_bytes (fc I q Q5)
   | _=>exact absurd (show false=true from hs) Bool.false_ne_true
 | _=>cases y<;>exact absurd (show false=true from hs) Bool.false_ne_true
theorem aem:OpR X (compareOp .NotEq) rNe:=by
 intro pins s σ H x y v u Q I rx ry h
 obtain⟨hs,q⟩:=h
 cases x with
 | non=>
   cases rx
   cases y with
   | non=>cases ry;exact PySem.EqNone.ne_none_none (fc I q (by simp))
   | bl j=>cases ry;exact PySem.EqNone.ne_none_bool (fc I q (by simp))
   | int j=>obtain⟨t',rfl⟩:=ry;exact PySem.EqNone.ne_none_int (fc I q (by simp))
   | str j=>obtain⟨t',rfl⟩:=ry;exact PySem.EqNone.ne_none_str (fc I q (by simp))
   | _=>exact absurd (show false=true from hs) Bool.false_ne_true
 | bl i=>
   cases rx
   cases y with
   | non=>cases ry;exact PySem.EqNone.ne_bool_none (fc I q (by simp))
   | bl j=>cases ry;exact ne_bool (fc I q (congrArg not Uo))
   | str j=>obtain⟨t',rfl⟩:=ry;exact PySem.EqMixed.ne_bool_str (fc I q (by simp))
   | _=>exact absurd (show false=true from hs) Bool.false_ne_true
 | int i=>
   obtain⟨t,rfl⟩:=rx
   cases y with
   | non=>cases ry;exact PySem.EqNone.ne_int_none (fc I q (by simp))
   | int j=>obtain⟨t',rfl⟩:=ry;exact ne_int (fc I q (congrArg not Q3))
   | str j=>obtain⟨t',rfl⟩:=ry;exact PySem.EqMixed.ne_int_str (fc I q (by simp))
   | _=>exact absurd (show false=true from hs) Bool.false_ne_true
 | str i=>
   obtain⟨t,rfl⟩:=rx
   cases y with
   | non=>cases ry;exact PySem.EqNone.ne_str_none (fc I q (by simp))
   | bl j=>cases ry;exact PySem.EqMixed.ne_str_bool (fc I q (by simp))
   | int j=>obtain⟨t',rfl⟩:=ry;exact PySem.EqMixed.ne_str_int (fc I q (by simp))
   | str j=>obtain⟨t',rfl⟩:=ry;exact ne_str (fc I q (congrArg not Q4))
   | _=>exact absurd (show false=true from hs) Bool.false_ne_true
 | byt i=>
   obtain⟨t,rfl⟩:=rx
   cases y with
   | byt j=>obtain⟨t',rfl⟩:=ry;exact PySem.W.ne_bytes (fc I q (congrArg not Q5))
   | _=>exact absurd (show false=true from hs) Bool.false_ne_true
 | _=>cases y<;>exact absurd (show false=true from hs) Bool.false_ne_true
theorem aen:OpR X (compareOp .Lt) (rI0 fun i j=> .bl (decide (i<j))):=aej fun _ _ _ _ _ _ _ q=>lt_int q
theorem aeo:OpR X (compareOp .Gt) (rI0 fun i j=> .bl (decide (j<i))):=aej fun _ _ _ _ _ _ _ q=>gt_int q
theorem aa6:OpR X (compareOp .Is) (fun x y H Q=>y= .non/\Q (.bl (decide (x= .non))) H):=by
 intro pins s σ H x y v u Q I rx ry h
 obtain⟨rfl,q⟩:=h
 cases ry
 refine is_none_gen (fc I q ?_)
 cases x<;>first
  | (cases rx;rfl)
  | (obtain⟨t,rfl⟩:=rx;rfl)
theorem aa7 (b:Expr) {op:CmpOp} (h:op≠ .In:=by decide) (h2:op≠ .NotIn:=by decide):behindInMarks op b=false:=by
 have e1:(op==CmpOp.In)=false:=by cases op<;>first | rfl | exact absurd rfl h
 have e2:(op==CmpOp.NotIn)=false:=by cases op<;>first | rfl | exact absurd rfl h2
 cases b<;>simp[behindInMarks,e1,e2]
theorem Xc {op:CmpOp}{r:R2} (ho:OpR X (compareOp op) r) (ha:PE X a ta) (hb:PE X b tb) (hm:behindInMarks op b=false):PE X (.Compare a [op] [b] pos) (tOp r ta tb):=by
 intro pins s σ H Q I h
 exact wpAny_Compare1 (aaZ ha hb I h fun v u s2 x y H2 I2 rx ry q=>ho pins s2 σ H2 x y v u Q I2 rx ry q) hm
def ZM (t:TE):TT:=fun σ H Q=>t σ H fun x H'=>∃k,x= .bl k/\Q k H'
theorem Xd {op:CmpOp}{r:R2} (ho:OpR X (compareOp op) r) (ha:PE X a ta) (hb:PE X b tb) (hm:behindInMarks op b=false):PT X (.Compare a [op] [b] pos) (ZM (tOp r ta tb)):=by
 intro pins s σ H Q I h
 refine wpAny_isTrue_Compare1 (thn (ha pins s σ H _ I h) fun v s1 ⟨x,H1,I1,r1,q1⟩=>thn (hb pins s1 σ H1 _ I1 q1) fun u s2 ⟨y,H2,I2,r2,q2⟩=>
  thn (ho pins s2 σ H2 x y v u _ I2 r1 r2 q2) fun c s3 ⟨z,H3,I3,r3,k,e,q3⟩=> ?_) hm
 subst e
 cases r3
 exact wpAny_truthy_bool ⟨H3,I3,q3⟩
def aa8 (K:PySem.W.Frag) (x:V) (H:Hp) (k:Bool):Prop:=
 match x with
 | .non=>k=false
 | .bl b=>k=b
 | .int i=>k=(i !=0)
 | .str y=>y.length<=sizeLine/\k=((y.length:Int) !=0)
 | .byt y=>y.size<=sizeLine/\k=((y.size:Int) !=0)
 | .ref p=>(∃xs,SqL K H p xs/\k= !xs.isEmpty)\/(∃xs,SqT K H p xs/\k= !xs.isEmpty)\/∃kvs,H p=some (.dK kvs)/\k= !kvs.isEmpty
 | _=>False
theorem O8 {κ:Type}{kvs:List (κ×V)}{vs:List (κ×Value)} (r:KV kvs vs):(!vs.isEmpty)= !kvs.isEmpty:=by
 cases r<;>rfl
theorem Hx {xs:List V}{its:List Value} (r:Vals xs its):(!its.toArray.isEmpty)= !xs.isEmpty:=by
 cases r<;>simp
theorem Hy:(sizeLine:Nat)<2 ^ 63:=by rw[sizeLine_eq];decide
theorem aa9:ah3 X (fun x H Q=>∃k,aa8 X.K x H k/\Q k H):=by
 intro pins s σ H x v Q I rx h
 obtain⟨k,e,q⟩:=h
 have hl:=Hy
 have hs:sizeLine=16777216:=sizeLine_eq
 cases x with
 | non=>
   cases rx
   have e':k=false:=e
   subst e'
   exact truthy_none ⟨H,I,q⟩
 | bl b=>
   cases rx
   have e':k=b:=e
   subst e'
   exact wpAny_truthy_bool ⟨H,I,q⟩
 | int i=>
   obtain⟨t,rfl⟩:=rx
   have e':k=(i !=0):=e
   subst e'
   exact PySem.P.truthy_int ⟨H,I,q⟩
 | str y=>
   obtain⟨t,rfl⟩:=rx
   obtain⟨hy,e'⟩:y.length<=sizeLine/\k=((y.length:Int) !=0):=e
   subst e'
   exact PySem.P.truthy_str (by omega) ⟨H,I.tok _,q⟩
 | byt y=>
   obtain⟨t,rfl⟩:=rx
   obtain⟨hy,e'⟩:y.size<=sizeLine/\k=((y.size:Int) !=0):=e
   subst e'
   exact PySem.W.truthy_bytes (by omega) ⟨H,I.tok _,q⟩
 | ref p=>
   cases rx
   have e':(∃xs,SqL X.K H p xs/\k= !xs.isEmpty)\/(∃xs,SqT X.K H p xs/\k= !xs.isEmpty)\/∃kvs,H p=some (.dK kvs)/\k= !kvs.isEmpty:=e
   rcases e' with⟨xs,hx,e'⟩ | ⟨xs,hx,e'⟩ | ⟨kvs,hx,e'⟩
   ·subst e'
    obtain⟨its,r,pl,hz⟩:=I.list hx
    have hlen:=r.length
    exact wpAny_truthy_list pl.isList (by simp only[List.size_toArray];omega) ⟨H,I.tok _,by rw[Hx r];exact q⟩
   ·subst e'
    obtain⟨its,r,pl,hz⟩:=I.tuple hx
    have hlen:=r.length
    exact truthy_tuple pl (by simp only[List.size_toArray];omega) ⟨H,I.tok _,by rw[Hx r];exact q⟩
   ·subst e'
    obtain⟨hz,hS,vs,r,m⟩:kvs.length<=sizeLine/\(p==sysModules)=false/\∃vs,KV kvs vs/\s.heap.DictOf (eN X.prog X.w) p vs:=I.hok p _ hx
    have hlen:kvs.length=vs.length:=Paired.length r
    exact wpAny_truthy_dict hS m (by omega) ⟨H,I.tok _,by rw[O8 r];exact q⟩
 | _=>exact(show False from e).elim
theorem Up (ha:PE X a ta) (he:∀whole,isTrue a X.env whole=(do let v <-whole;standAt a.pos;holding [v] (truthy v))):
 PT X a (fun σ H Q=>ta σ H fun x H'=>∃k,aa8 X.K x H' k/\Q k H'):=by
 intro pins s σ H Q I h
 exact isTrue_plain (thn (ha pins s σ H _ I h) fun v s1 ⟨x,H1,I1,r1,q1⟩=>aa9 pins s1 σ H1 x v Q I1 r1 q1) (he _)
theorem O9:OpR X (binaryOp .Add) (fun x y H Q=>∃i j,x= .str i/\y= .str j/\i.length+j.length<=sizeLine/\Q (.str (i++j)) H):=by
 intro pins s σ H x y v u Q I rx ry h
 obtain⟨i,j,rfl,rfl,hz,q⟩:=h
 obtain⟨t,rfl⟩:=rx
 obtain⟨t',rfl⟩:=ry
 exact add_str (fun t' tk=>⟨.str (i++j),H,I.tok _,⟨_,rfl⟩,q⟩) hz
theorem vals1 {x:V}{us:List Value} (r:Vals [x] us):∃u,us=[u]/\RelV x u:=by
 cases r with
 | cons r1 r2=>cases r2;exact⟨_,rfl,r1⟩
theorem vals2 {x y:V}{us:List Value} (r:Vals [x,y] us):∃u w',us=[u,w']/\RelV x u/\RelV y w':=by
 cases r with
 | cons r1 r2=>
   cases r2 with
   | cons r3 r4=>cases r4;exact⟨_,_,rfl,r1,r3⟩
theorem Su (hc:X.calm=true):rP X (.builtin "max") (fun xs H Q=>∃i j,xs=[.int i, .int j]/\Q (.int (if j>i then j else i)) H):=by
 intro pins s σ H xs us Q I r h
 obtain⟨i,j,rfl,q⟩:=h
 obtain⟨u,w',rfl,⟨t,rfl⟩,⟨t',rfl⟩⟩:=vals2 r
 refine max_two_ints (I.ok.hd hc) fun h' tk k=>⟨_,H,I.kept k, ?_,q⟩
 by_cases hj:j>i
 ·rw[if_pos hj,if_pos hj];exact⟨_,rfl⟩
 ·rw[if_neg hj,if_neg hj];exact⟨_,rfl⟩
theorem Sv:rP X (.type "int") (fun xs H Q=>(∃i,xs=[.int i]/\Q (.int i) H)\/∃k,xs=[.bl k]/\Q (.int (if k then 1 else 0)) H):=by
 intro pins s σ H xs us Q I r h
 rcases h with⟨i,rfl,q⟩ | ⟨k,rfl,q⟩
 ·obtain⟨u,rfl,t,rfl⟩:=vals1 r
  exact call_int_int ⟨.int i,H,I,⟨_,rfl⟩,q⟩
 ·obtain⟨u,rfl,r1⟩:=vals1 r
  cases r1
  exact call_int_bool ⟨.int (if k then 1 else 0),H,I.tok _,⟨_,rfl⟩,q⟩
end
end L2
namespace L2
open PySem PySem.Spec PyProof.Rows
structure Pa (h:Heap) (x dx C:Addr) (mA:Str->Option Value):Prop where
 obj:h.get? x=some (PySem.W.instObj C dx)
 ns:h.Ns1 dx mA
 ne:dx≠x
theorem Sw {h:Heap}{dx:Addr}{mA:Str->Option Value} (n:h.Ns1 dx mA):∃od,h.get? dx=some od/\∀name,PySem.W.lookIn name od=some (mA name):=by
 obtain⟨o,es,ep,ho,hd,hk,_,hm⟩:=n
 refine⟨o,ho,fun name=> ?_⟩
 have e:=hm name
 unfold nsFind findBy at e
 rw[<-Array.find?_toList] at e
 unfold PySem.W.lookIn
 rw[hd]
 dsimp only
 split
 ·rename_i y q
  rw[q] at e
  exact congrArg some e
 ·rename_i q
  rw[q] at e
  have a:es.toList.any (·.refKey)=false:=by
   rw[List.any_eq_false]
   intro y hy
   obtain⟨z,t,hkey⟩:=hk y (Array.mem_toList_iff.mp hy)
   simp[DictEntry.refKey,hkey]
  have a':¬es.toList.any (·.refKey)=true:=by rw[a];exact Bool.false_ne_true
  rw[if_neg a']
  exact congrArg some e
theorem Pa.look {h:Heap}{x dx C:Addr}{mA:Str->Option Value} (I:Pa h x dx C mA):∃od,PySem.W.InstAt h x (PySem.W.instObj C dx) C (some od)/\∀name,PySem.W.lookIn name od=some (mA name):=
 let ⟨od,ho,hl⟩:=Sw I.ns
 ⟨od,⟨I.obj,rfl,rfl,ho⟩,hl⟩
section
variable {prog:Program}{w:World}{A:Around}{E:Value->Shared->Prop}{s:Shared}{K:PySem.W.Frag}{x dx C f:Addr}{mA:Str->Option Value}{name:Str}{v:Value}
theorem get_map {expr:Bool}{Q:Value->Shared->Prop} (X:K.In s.heap) (I:Pa s.heap x dx C mA) (hg:PySem.W.plainGet K C name=true) (hh:PySem.W.hasDictIn K C=true)
 (ha:PySem.W.findIn K (.ref C) name=some none) (hv:mA name=some v) (hv':PySem.W.handedIn v=true) (h:Q v {s with toks:=s.toks+1}):
 wpAny (model prog w) A (getAttr (.ref x) name expr) Q E s:=by
 obtain⟨od,J,hl⟩:=I.look
 exact PySem.W.get_value X J (PySem.W.plainGet_of hg).1 (PySem.W.findObj_own hh ha rfl (by rw[hl,hv])) hv' h
theorem Uq {pl:Sem Bool}{Q:Value×List Value->Shared->Prop} (X:K.In s.heap) (I:Pa s.heap x dx C mA) (hg:PySem.W.plainGet K C name=true)
 (hf:PySem.W.findIn K (.ref C) name=some (some (.ref f))) (ht:PySem.W.isFn K (.ref f)=true) (hv:mA name=none) (h:Q (.ref f,[.ref x]) s):
 wpAny (model prog w) A (getMethod (.ref x) name pl) Q E s:=by
 obtain⟨od,J,hl⟩:=I.look
 exact PySem.W.method_fn X J (PySem.W.plainGet_of hg).1 (PySem.W.plainGet_of hg).2 hf (beq_iff_eq.mp ht) (by show(PySem.W.lookIn name od).map (·.isSome)=some false;rw[hl,hv];rfl) h
theorem Xe {ns:List Str}{Q:Unit->Shared->Prop} (X:K.In s.heap) (I:Pa s.heap x dx C mA)
 (hs:PySem.W.findIn K (.ref C) "__setattr__"=some (some (.builtin "object.__setattr__"))) (hp:PySem.W.plainOver K C=true) (ht:PySem.W.takerIn K C name=some none) (hh:PySem.W.hasDictIn K C=true)
 (hw:PySem.Within mA ns) (hsz:ns.length<=sizeLine)
 (h:∀h',Pa h' x dx C (fun y=>if y=name then some v else mA y)->Heap.SameBut dx s.heap h'->Q () {s with heap:=h',toks:=s.toks+2}):
 wpAny (model prog w) A (setAttr (.ref x) name v) Q E s:=by
 obtain⟨od,J,hl⟩:=I.look
 refine PySem.W.set_plain X J hs (PySem.W.osa_open (s:={s with toks:=s.toks+1}) (r:=none) X J hp ht fun b=> ?_)
 obtain⟨cd,hc,hd'⟩:=PySem.W.any_some hh
 have hx:s.heap.get? x=some ⟨.ref C,some dx, .plain, #[]⟩:=I.obj
 refine wpAny_bind (wpAny_pure (wpAny_bind (wpAny_bind (wpAny_loadPart hx (wpAny_bind (PySem.W.Looks.here (s:={s with toks:=s.toks+1}) (PySem.W.looks_clsIn X hc) ?_))))))
 rw[hd']
 refine wpAny_pure (a:=some dx) (wpAny_bind (wpAny_pure (wpAny_bind ?_)))
 refine wpAny_nsSet1 (s:={s with toks:=s.toks+1}) I.ns fun h' hn2 hs2=> ?_
 obtain⟨oD,esD,epD,hoD,hdD,hcD⟩:=hn2.count (PySem.Within.cons name v hw)
 refine wpAny_bind (wpAny_lookBehind hoD (by rw[hdD];exact pastItsLine_dict (Nat.le_trans hcD (by rw[List.length_cons];omega))) ?_)
 exact wpAny_pure (h _ ⟨(hs2.2 _ (Ne.symm I.ne)).trans I.obj,hn2,I.ne⟩ hs2)
theorem Ur {R:Result->Shared->Prop}{vs:List Value}{kw:List (Str×Value)} (X:K.In s.heap) (hm:PySem.W.makesIn K C=true)
 (hi:PySem.W.findIn K (.ref C) "__init__"=some (some (.ref f))) (hf:PySem.W.typeIn K (.ref f)=some (.type "function"))
 (h:codeAny (model prog w) (A.under (.builtin "type.__call__" ⟨.ref C::vs,kw⟩)) (.call (.ref f) ⟨.ref (s.heap.objs.size+1)::vs,kw⟩) (PySem.W.InitBack (s.heap.objs.size+1) R)
   {s with heap:=(s.heap.push PySem.W.emptyDict).push (PySem.W.instObj C s.heap.objs.size)}):
 codeAny (model prog w) A (.call (.ref C) ⟨vs,kw⟩) R s:=by
 obtain⟨hh,g,d,t,os⟩:=s
 exact PySem.W.make_core (PySem.W.makes_of X hm) (PySem.W.looks_findIn X hi) (fun self=>PySem.W.bind_fn X self hf) (.inl rfl) h
end
def bf (f:Str) (v:V):List (Str×V)->List (Str×V)
 |[]=>[(f,v)]
 | (g,x)::r=>if g=f then(g,v)::r else(g,x)::bf f v r
theorem Gx (f g:Str) (v:V):∀fs:List (Str×V),(bf f v fs).lookup g=if g=f then some v else fs.lookup g
 |[]=>by
  show List.lookup g [(f,v)]=_
  by_cases h:g=f
  ·have hb:(g==f)=true:=beq_iff_eq.mpr h
   simp only[List.lookup,hb,if_pos h]
  ·have hb:(g==f)=false:=beq_eq_false_iff_ne.mpr h
   simp only[List.lookup,hb,if_neg h]
 | (k,x)::r=>by
   have ih:=Gx f g v r
   rw[show bf f v ((k,x)::r)=(if k=f then(k,v)::r else(k,x)::bf f v r) from rfl]
   by_cases hk:k=f
   ·rw[if_pos hk]
    by_cases h:g=k
    ·have hb:(g==k)=true:=beq_iff_eq.mpr h
     simp only[List.lookup,hb,if_pos (h.trans hk)]
    ·have hb:(g==k)=false:=beq_eq_false_iff_ne.mpr h
     simp only[List.lookup,hb,if_neg (fun e:g=f=>h (e.trans hk.symm))]
   ·rw[if_neg hk]
    by_cases h:g=k
    ·have hb:(g==k)=true:=beq_iff_eq.mpr h
     simp only[List.lookup,hb,if_neg (fun e:g=f=>hk (h.symm.trans e))]
    ·have hb:(g==k)=false:=beq_eq_false_iff_ne.mpr h
     simp only[List.lookup,hb]
     exact ih
theorem Fd (f:Str) (v:V):∀fs:List (Str×V),f∈(bf f v fs).map (·.1)/\∀g,g∈fs.map (·.1)->g∈(bf f v fs).map (·.1)
 |[]=>⟨by simp[bf],fun g h=>by simp at h⟩
 | (k,x)::r=>by
   obtain⟨i1,i2⟩:=Fd f v r
   rw[show bf f v ((k,x)::r)=(if k=f then(k,v)::r else(k,x)::bf f v r) from rfl]
   by_cases hk:k=f
   ·rw[if_pos hk]
    subst hk
    exact⟨by simp,fun g h=>by simpa using h⟩
   ·rw[if_neg hk]
    refine⟨?_,fun g h=> ?_⟩
    ·rw[List.map_cons]
     exact List.mem_cons_of_mem _ i1
    ·rw[List.map_cons] at h ⊢
     rcases List.mem_cons.mp h with e | e
     ·exact List.mem_cons.mpr (.inl e)
     ·exact List.mem_cons_of_mem _ (i2 g e)
theorem Gy (f:Str) (v:V):∀fs:List (Str×V),(bf f v fs).length<=fs.length+1
 |[]=>by simp[bf]
 | (k,x)::r=>by
   have ih:=Gy f v r
   rw[show bf f v ((k,x)::r)=(if k=f then(k,v)::r else(k,x)::bf f v r) from rfl]
   by_cases hk:k=f
   ·rw[if_pos hk,List.length_cons,List.length_cons];omega
   ·rw[if_neg hk,List.length_cons,List.length_cons];omega
theorem uZ.some_of {v:V}{o:Option Value} (r:uZ (some v) o):∃u,o=some u/\RelV v u:=by
 cases o with
 | none=>exact(show False from r).elim
 | some u=>exact⟨u,rfl,r⟩
theorem uZ.none_of {o:Option Value} (r:uZ none o):o=none:=by
 cases o with
 | none=>rfl
 | some u=>exact(show False from r).elim
theorem Sx {v:V}{u:Value} (r:RelV v u):PySem.W.handedIn u=true:=by
 cases v with
 | non=>cases(show u=Value.none from r);rfl
 | bl b=>cases(show u=Value.bool b from r);rfl
 | int i=>obtain⟨t,e⟩:=(show∃t,u=Value.int i t from r);cases e;rfl
 | str x=>obtain⟨t,e⟩:=(show∃t,u=Value.str x t from r);cases e;rfl
 | byt b=>obtain⟨t,e⟩:=(show∃t,u=Value.bytes b t from r);cases e;rfl
 | flt b=>obtain⟨t,e⟩:=(show∃t,u=Value.float b t from r);cases e;rfl
 | ref a=>cases(show u=Value.ref a from r);rfl
 | ty n=>cases(show u=Value.type n from r);rfl
section
variable {P:Program}{w:World}{H H':Hp}{h h':Heap}{a C dx:Addr}{fs fs':List (Str×V)}
theorem Hq (hok:HOk P w H h) (e:H a=some (.ins C dx fs)):∃mA,Pa h a dx C mA/\(∀f,uZ (fs.lookup f) (mA f))/\PySem.Within mA (fs.map (·.1))/\fs.length<=1000/\H dx=some (.own a):=by
 obtain⟨d,z,ne,ob,mA,n,r,q⟩:=(show fJ P w H h a (.ins C dx fs) from hok a _ e)
 exact⟨mA,⟨ob,n,ne⟩,r,q,z,d⟩
end
structure Cls (K:PySem.W.Frag) (C:Addr):Prop where
 pg:PySem.W.plainGet K C Str.empty=true
 hd:PySem.W.hasDictIn K C=true
 po:PySem.W.plainOver K C=true
 sa:PySem.W.findIn K (.ref C) "__setattr__"=some (some (.builtin "object.__setattr__"))
theorem Cls.get {K:PySem.W.Frag}{C:Addr} (c:Cls K C) (f:Str):PySem.W.plainGet K C f=true:=c.pg
def jL (K:PySem.W.Frag) (C:Addr) (f:Str):Prop:=PySem.W.findIn K (.ref C) f=some none
theorem jL.taker {K:PySem.W.Frag}{C:Addr}{f:Str} (n:jL K C f):PySem.W.takerIn K C f=some none:=by
 unfold PySem.W.takerIn
 rw[show PySem.W.findIn K (.ref C) f=some none from n]
 rfl
structure Meth (K:PySem.W.Frag) (C:Addr) (m:Str) (f:Addr):Prop where
 at_:PySem.W.findIn K (.ref C) m=some (some (.ref f))
 fn:PySem.W.isFn K (.ref f)=true
 kp:PySem.W.keepIn K (.ref f)=true
section
variable {X:Cx}{pins:List (Addr×Obj)}{σ:St}{H:Hp}{s:Shared}{a C dx:Addr}{fs:List (Str×V)}{f:Str}{v:V}{A:Around}{E:Value->Shared->Prop}
theorem Pb {b:Bool}{Q:Value->Shared->Prop} (I:Inv X pins σ H s) (e:H a=some (.ins C dx fs)) (c:Cls X.K C) (n:jL X.K C f) (l:fs.lookup f=some v)
 (h:∀u s',Inv X pins σ H s'->RelV v u->Q u s'):wpAny (model X.prog X.w) A (getAttr (.ref a) f b) Q E s:=by
 obtain⟨mA,O,r,_,_,_⟩:=Hq I.hok e
 obtain⟨u,hu,ru⟩:=uZ.some_of (v:=v) (o:=mA f) (by rw[<-l];exact r f)
 exact get_map I.kIn O (c.get f) c.hd n hu (Sx ru) (h u _ (I.tok _) ru)
theorem Hz {m:Str}{g:Addr}{pl:Sem Bool}{Q:Value×List Value->Shared->Prop} (I:Inv X pins σ H s) (e:H a=some (.ins C dx fs)) (c:Cls X.K C) (k:Meth X.K C m g) (l:fs.lookup m=none)
 (h:Q (.ref g,[.ref a]) s):wpAny (model X.prog X.w) A (getMethod (.ref a) m pl) Q E s:=by
 obtain⟨mA,O,r,_,_,_⟩:=Hq I.hok e
 have hn:mA m=none:=uZ.none_of (by rw[<-l];exact r m)
 exact Uq I.kIn O (c.get m) k.at_ k.fn hn h
theorem Pg {y:V}{u:Value}{Q:Unit->Shared->Prop} (I:Inv X pins σ H s) (e:H a=some (.ins C dx fs)) (c:Cls X.K C) (n:jL X.K C f) (hl:fs.length<1000) (ry:RelV y u)
 (h:∀s',Inv X pins σ (upd H a (.ins C dx (bf f y fs))) s'->Q () s'):wpAny (model X.prog X.w) A (setAttr (.ref a) f u) Q E s:=by
 obtain⟨mA,O,r,wi,_,ho⟩:=Hq I.hok e
 have hz:(fs.map (·.1)).length<=sizeLine:=by rw[List.length_map,sizeLine_eq];omega
 refine Xe I.kIn O c.sa c.po n.taker c.hd wi hz fun h' O' sb=>h _ ?_
 have hd:∃o,h'.get? dx=some o:=let ⟨o,_,_,e',_⟩:=O'.ns;⟨o,e'⟩
 refine I.write (x:=a) (e:=dx) (by rw[e];exact True.intro) (.inr ho) (fun b q hb z=>(sb.2 b hb).trans z) hd ?_
 refine⟨by rw[aq O.ne];exact ho, ?_,O.ne,O'.obj,_,O'.ns,fun g=> ?_,fun g hg=> ?_⟩
 ·have:=Gy f y fs;omega
 ·show uZ ((bf f y fs).lookup g) (if g=f then some u else mA g)
  rw[Gx]
  by_cases q:g=f
  ·rw[if_pos q,if_pos q];exact ry
  ·rw[if_neg q,if_neg q];exact r g
 ·by_cases q:g=f
  ·rw[q];exact(Fd f y fs).1
  ·refine(Fd f y fs).2 g (wi g fun z=>hg ?_)
   show(if g=f then some u else mA g)=none
   rw[if_neg q];exact z
theorem Inv.made (I:Inv X pins σ H s):Inv X pins σ (upd (upd H s.heap.objs.size (.own (s.heap.objs.size+1))) (s.heap.objs.size+1) (.ins C s.heap.objs.size []))
 {s with heap:=(s.heap.push PySem.W.emptyDict).push (PySem.W.instObj C s.heap.objs.size)}:=by
 have e1:(s.heap.push PySem.W.emptyDict).get? s.heap.objs.size=some PySem.W.emptyDict:=Heap.get?_push_size s.heap rfl
 have e2:((s.heap.push PySem.W.emptyDict).push (PySem.W.instObj C s.heap.objs.size)).get? (s.heap.objs.size+1)=some (PySem.W.instObj C s.heap.objs.size):=by
  have:=Heap.get?_push_size (s.heap.push PySem.W.emptyDict) (o:=PySem.W.instObj C s.heap.objs.size) rfl
  rwa [Heap.size_push] at this
 have e3:(s.heap.push PySem.W.emptyDict).Ns s.heap.objs.size (fun _=>none):=⟨PySem.W.emptyDict, #[],_,e1,rfl,(fun e he=>absurd he (by simp)),fun _=>rfl⟩
 have I1:=I.laid (a:=s.heap.objs.size) (o:= .own (s.heap.objs.size+1)) (h':=s.heap.push PySem.W.emptyDict) (t':=s.toks) (fun b u q=>Heap.get?_push_of_some _ q) (Nat.le_refl _) ⟨_,e1⟩
 refine I1.laid (a:=s.heap.objs.size+1) (o:= .ins C s.heap.objs.size []) (t':=s.toks) (fun b u q=>Heap.get?_push_of_some _ q) (Nat.le_of_eq (Heap.size_push _ _)) ?_
 have ne:s.heap.objs.size≠s.heap.objs.size+1:=Nat.ne_of_lt (Nat.lt_succ_self _)
 refine⟨by rw[aq ne,ao],Nat.zero_le _,ne,e2,fun _=>none,(Heap.Ns1.of_empty e3).at fun o q=>Heap.get?_push_of_some _ q,fun _=>True.intro,fun y hy=>absurd rfl hy⟩
theorem Xf {prog:Program}{w:World}{env:Env}{e:Expr}{f:Str}{pos:Pos}{s:Shared}{Q:Value->Shared->Prop} (hb:attributeBase e f env (eval e env)=eval e env)
 (h:wpAny (model prog w) A (eval e env) (fun o s₁=>wpAny (model prog w) A (getAttr o f true) Q E s₁) E s):wpAny (model prog w) A (eval (.Attribute e f pos) env) Q E s:=
 Attribute_any_ h (by rw[arm_eval_Attribute,hb])
end
def aba (K:PySem.W.Frag) (ta:TE) (f:Str):TE:=fun σ H Q=>ta σ H fun x H1=>∃a C dx fs v,x= .ref a/\H1 a=some (.ins C dx fs)/\Cls K C/\jL K C f/\fs.lookup f=some v/\Q v H1
def aep (K:PySem.W.Frag) (ta tv:TE) (f:Str):TS:=fun D σ H=>tv σ H fun y H1=>ta σ H1 fun x H2=>∃a C dx fs,x= .ref a/\H2 a=some (.ins C dx fs)/\Cls K C/\jL K C f/\fs.length<1000/\
 D.nx σ (upd H2 a (.ins C dx (bf f y fs)))
section
variable {X:Cx}{o e value:Expr}{f:Str}{pos pos' tpos:Pos}{ta tv:TE}
theorem abb (he:PE X e ta) (hb:attributeBase e f X.env (eval e X.env)=eval e X.env):PE X (.Attribute e f pos) (aba X.K ta f):=by
 intro pins s σ H Q I h
 refine Xf hb (thn (he pins s σ H _ I h) fun u s1 ⟨x,H1,I1,rx,a,C,dx,fs,v,ex,ea,c,n,l,q⟩=> ?_)
 subst ex
 obtain rfl:u=Value.ref a:=rx
 exact Pb I1 ea c n l fun u' s2 I2 ru=>⟨v,H1,I2,ru,q⟩
theorem abd (ha:PE X o ta) (hv:PE X value tv) (hs:swapsWith value (some (.Attribute o f pos')) pos.line X.env=pure false):PS X (.Assign [.Attribute o f pos'] value pos) (aep X.K ta tv f):=by
 intro pins s σ H D I h
 refine plainObj_wpAny_Assign_Attribute (thn (hv pins s σ H _ I h) fun u s1 ⟨y,H1,I1,ry,q⟩=>thn (ha pins s1 σ H1 _ I1 q) fun ov s2 ⟨x,H2,I2,rx,a,C,dx,fs,ex,ea,c,n,l,q2⟩=> ?_) hs
 subst ex
 obtain rfl:ov=Value.ref a:=rx
 exact Pg I2 ea c n l ry fun s3 I3=>⟨σ,_,I3,q2⟩
end
section
variable {X:Cx}{pins:List (Addr×Obj)}{σ:St}{H:Hp}{s:Shared}{A:Around}{E:Value->Shared->Prop}{Q:Value->Shared->Prop}{c:Value}{b:Bool}
inductive tL (K:PySem.W.Frag) (H:Hp):V->Value->Prop where
 | non:tL K H .non (.type "NoneType")
 | bl (x:Bool):tL K H (.bl x) (.type "bool")
 | int (i:Int):tL K H (.int i) (.type "int")
 | str (x:Str):tL K H (.str x) (.type "str")
 | flt (x:UInt64):tL K H (.flt x) (.type "float")
 | lst {a:Addr}{xs:List V} (e:H a=some (.lst xs)):tL K H (.ref a) (.type "list")
 | frz {a:Addr}{o:Obj}{xs:List V} (e:H a=some (.frz o (.lst xs))):tL K H (.ref a) (.type "list")
 | tup {a:Addr}{xs:List V} (e:H a=some (.tup xs)):tL K H (.ref a) (.type "tuple")
 | dK {a:Addr}{kvs:List (Key×V)} (e:H a=some (.dK kvs)):tL K H (.ref a) (.type "dict")
 | dT {a:Addr}{kvs:List (List Key×V)} (e:H a=some (.dT kvs)):tL K H (.ref a) (.type "dict")
 | ins {a C dx:Addr}{fs:List (Str×V)} (e:H a=some (.ins C dx fs)) (cl:Cls K C) (ha:PySem.W.findIn K (.ref C) "__class__"=some (some (.builtin "object.__class__")))
    (hn:PySem.W.specialIn K (.builtin "object.__class__") "__get__"=some (some (.builtin "getset_descriptor.__get__"))) (htk:PySem.W.takesIn K (.builtin "object.__class__")=some true)
    (hm:PySem.W.mroIn K C (.type "object")=some true):tL K H (.ref a) (.ref C)
theorem Sy {x:V}{u t:Value} (I:Inv X pins σ H s) (rx:RelV x u) (ty:tL X.K H x t) (e:PySem.W.kitOne X.K t c=some b) (h:∀tk,Q (.bool b) {s with toks:=tk}):
 wpAny (model X.prog X.w) A (call (.builtin "isinstance") [u,c]) Q E s:=by
 cases ty with
 | non=>cases(show u=Value.none from rx);exact PySem.W.kia_one PySem.W.kitx_none I.kIn True.intro e (fun z=>nomatch z) h
 | bl y=>cases(show u=Value.bool y from rx);exact PySem.W.kia_one PySem.W.kitx_bool I.kIn True.intro e (fun z=>nomatch z) h
 | int i=>obtain⟨t,q⟩:=(show∃t,u=Value.int i t from rx);cases q;exact PySem.W.kia_one PySem.W.kitx_int I.kIn True.intro e (fun z=>nomatch z) h
 | str y=>obtain⟨t,q⟩:=(show∃t,u=Value.str y t from rx);cases q;exact PySem.W.kia_one PySem.W.kitx_str I.kIn True.intro e (fun z=>nomatch z) h
 | flt y=>obtain⟨t,q⟩:=(show∃t,u=Value.float y t from rx);cases q;exact PySem.W.kia_one PySem.W.kitx_float I.kIn True.intro e (fun z=>nomatch z) h
 | @lst a xs ea=>
   cases(show u=Value.ref a from rx)
   obtain⟨_,_,n,_,h1⟩:=(show fJ X.prog X.w H s.heap a (.lst xs) from I.hok a _ ea)
   exact PySem.W.kia_one PySem.W.kitx_list I.kIn ⟨_,h1,rfl⟩ e (fun z=>nomatch z) h
 | @frz a ob xs ea=>
   cases(show u=Value.ref a from rx)
   obtain⟨_,_,_,n,_,h1⟩:=(show fJ X.prog X.w H s.heap a (.frz ob (.lst xs)) from I.hok a _ ea)
   exact PySem.W.kia_one PySem.W.kitx_list I.kIn ⟨_,h1,rfl⟩ e (fun z=>nomatch z) h
 | @tup a xs ea=>
   cases(show u=Value.ref a from rx)
   obtain⟨_,_,_,p⟩:=(show fJ X.prog X.w H s.heap a (.tup xs) from I.hok a _ ea)
   obtain⟨o,h1,h2,_⟩:=p
   exact PySem.W.kia_one PySem.W.kitx_tuple I.kIn ⟨o,h1,h2⟩ e (fun z=>nomatch z) h
 | @dK a kvs ea=>
   cases(show u=Value.ref a from rx)
   obtain⟨_,_,vs,_,p⟩:=(show fJ X.prog X.w H s.heap a (.dK kvs) from I.hok a _ ea)
   obtain⟨o,es,ep,h1,h2,_⟩:=p
   exact PySem.W.kia_one PySem.W.kitx_dict I.kIn ⟨o,h1,h2.1⟩ e (fun z=>nomatch z) h
 | @dT a kvs ea=>
   cases(show u=Value.ref a from rx)
   obtain⟨_,_,xs,_,o,es,ep,h1,h2,_⟩:=(show fJ X.prog X.w H s.heap a (.dT kvs) from I.hok a _ ea)
   exact PySem.W.kia_one PySem.W.kitx_dict I.kIn ⟨o,h1,h2.1⟩ e (fun z=>nomatch z) h
 | @ins a C dx fs ea cl ha hn htk hm=>
   cases(show u=Value.ref a from rx)
   obtain⟨mA,O,_⟩:=Hq I.hok ea
   obtain⟨od,J,_⟩:=O.look
   exact PySem.W.kia_one (PySem.W.kitx_own (cl.get _) cl.hd ha hn htk hm) I.kIn J e (fun z=>nomatch z) h
end
end L2
namespace L2
open PySem PySem.Spec PyProof.Rows
structure m5 (k:Nat) (A:Around):Prop where
 hd:A.handled=none
 dp:A.depth+3 * k+5<recursionLimit
 un:A.units+16 * k+200<cLine
theorem m5.mono {j k:Nat}{A:Around} (r:m5 k A) (h:j<=k):m5 j A:=⟨r.hd,by have:=r.dp;omega,by have:=r.un;omega⟩
theorem m5.deeper {k:Nat}{A:Around} (r:m5 (k+1) A) (env:Env):m5 k (A.deeper env):=
 ⟨r.hd,by have:=r.dp;show A.depth+1+3 * k+5<_;omega,by have:=r.un;show A.units+3+16 * k+200<_;omega⟩
theorem Ph {A:Around}{C:Addr}{us:List Value}{kw:List (Str×Value)}:(A.under (.builtin "type.__call__" ⟨.ref C::us,kw⟩)).depth=A.depth+1:=by
 first | rfl | simp[Around.under,Code.weight,Code.isCreation,Code.isGuard,Code.isCaller,Code.frames,Code.isFrame,guardIds]
theorem Pj {A:Around}{C:Addr}{us:List Value}{kw:List (Str×Value)}:(A.under (.builtin "type.__call__" ⟨.ref C::us,kw⟩)).units=A.units+1:=by
 first | rfl | simp[Around.under,Code.cUnits,Code.frames,Code.isFrame]
theorem m5.make {k:Nat}{A:Around} (r:m5 (k+1) A) (C:Addr) (us:List Value) (kw:List (Str×Value)):m5 k (A.under (.builtin "type.__call__" ⟨.ref C::us,kw⟩)):=
 ⟨r.hd,by have:=r.dp;rw[Ph];omega,by have:=r.un;rw[Pj];omega⟩
theorem m5.depth {k:Nat}{A:Around} (r:m5 k A):A.depth<recursionLimit:=by have:=r.dp;omega
theorem m5.units {k:Nat}{A:Around} (r:m5 k A):A.units+64<cLine:=by have:=r.un;omega
def Xg:TA:=fun _ H Q=>Q [] H
def rQ (ta:TE) (tr:TA):TA:=fun σ H Q=>ta σ H fun x H1=>tr σ H1 fun xs H2=>Q (x::xs) H2
section
variable {X:Cx}{e:Expr}{es:List Expr}{te:TE}{t:TA}{pos:Pos}
theorem abe:PA X [] Xg:=fun _ _ _ _ H Q I h=>Calls.spliced_nil ⟨[],H,I, .nil,h⟩
theorem Xh (ha:PE X e te) (hr:PA X es t) (hs:starEach (e::es) X.env=(false,eval e X.env)::starEach es X.env:=by rfl):PA X (e::es) (rQ te t):=by
 intro pos pins s σ H Q I h
 rw[hs]
 show wpAny _ _ (spliced ((false,eval e X.env)::backTo pos (starEach es X.env))) _ _ s
 refine Calls.spliced_cons (thn (ha pins s σ H _ I h) fun u s1 ⟨x,H1,I1,r1,q1⟩=> ?_)
 exact thn (hr pos pins s1 σ H1 _ I1 q1) fun us s2 ⟨xs,H2,I2,r2,q2⟩=>⟨x::xs,H2,I2, .cons r1 r2,q2⟩
def aeq (t:TA):TE:=fun σ H Q=>t σ H fun xs H1=>xs.length<=sizeLine/\∀p,H1 p=none->Q (.ref p) (upd H1 p (.tup xs))
def aer (t:TA):TE:=fun σ H Q=>t σ H fun xs H1=>xs.length<=sizeLine/\∀p,H1 p=none->Q (.ref p) (upd H1 p (.lst xs))
theorem abf {x1} (h:PA X es t):PE X (.Tuple es x1 pos) (aeq t):=by
 intro pins s σ H Q I hq
 refine wpAny_Tuple_spliced (thn (h pos pins s σ H _ I hq) fun us s1 ⟨xs,H1,I1,r,z,q⟩=>⟨by rw[<-r.length];exact z, ?_⟩)
 have hf:H1 s1.heap.objs.size=none:=I1.hok.fresh (Nat.le_refl _)
 refine⟨.ref s1.heap.objs.size,upd H1 s1.heap.objs.size (.tup xs),I1.laid (t':=s1.toks) (fun b u e=>Heap.get?_push_of_some _ e) (Nat.le_refl _) ?_,rfl,q _ hf⟩
 exact⟨z,us,r,⟨_,Heap.get?_push_size _ rfl,rfl,_,rfl⟩⟩
theorem abg (h:PA X es t):PE X (.List es pos) (aer t):=by
 intro pins s σ H Q I hq
 refine wpAny_List_spliced (thn (h pos pins s σ H _ I hq) fun us s1 ⟨xs,H1,I1,r,z,q⟩=>⟨by rw[<-r.length];exact z, ?_⟩)
 have hf:H1 s1.heap.objs.size=none:=I1.hok.fresh (Nat.le_refl _)
 refine⟨.ref s1.heap.objs.size,upd H1 s1.heap.objs.size (.lst xs),I1.laid (t':=s1.toks) (fun b u e=>Heap.get?_push_of_some _ e) (Nat.le_refl _) ?_,rfl,q _ hf⟩
 exact⟨z,us,0,r,Heap.get?_push_size _ rfl⟩
end
abbrev Sp:=List V->Hp->VK->XK->Prop
abbrev CXT:=List Env->Hp->Shared->XK->Value->Shared->Prop
structure Pk (P:Program) (w:World) (K:PySem.W.Frag) (mg:Str->Option Value) (base:Heap) (A:Around) (outer:List Env) (s:Shared) (H:Hp):Prop where
 frames:A.frames=some outer
 mod:Mod K mg base
 bs:∀b o,base.get? b=some o->s.heap.get? b=some o/\H b=none
 bsz:base.objs.size<=s.heap.objs.size
 funs:s.heap.FunFrames base outer
 frf:∀b∈frs outer,H b=none
 hok:HOk P w H s.heap
 bare:AllBare s.gens
def CE (outer:List Env) (P:Program) (w:World) (H:Hp) (s:Shared) (Q:VK) (u:Value) (s':Shared):Prop:=
 ∃v H',s'.os=s.os/\AllBare s'.gens/\Un (frs outer) [] H H' s.heap s'.heap/\HOk P w H' s'.heap/\RelV v u/\Q v H'
def CR (CX:CXT) (outer:List Env) (P:Program) (w:World) (H:Hp) (s:Shared) (Q:VK) (E:XK) (r:Result) (s':Shared):Prop:=
 match r with
 | .ok (.ret u)=>CE outer P w H s Q u s'
 | .ok _=>False
 | .error e=>CX outer H s E e s'
structure aX (P:Program) (w:World) (K:PySem.W.Frag) (mg:Str->Option Value) (base:Heap) (CX:CXT) (k:Nat) (f:Addr) (fd:FuncData) (ps:List Str) (sp:Sp):Prop where
 len:∀vs H Q E,sp vs H Q E->vs.length=ps.length
 run:∀(A:Around) (outer:List Env) (s:Shared) (H:Hp) (args:Args) (us:List Value) (vs:List V) (Q:VK) (E:XK),m5 k A->Pk P w K mg base A outer s H->BindsTo s fd args (ps.zip us)->Vals vs us->sp vs H Q E->
  codeAny (model P w) A (.call (.ref f) args) (CR CX outer P w H s Q E) s
theorem aX.mono {P:Program}{w:World}{K:PySem.W.Frag}{mg:Str->Option Value}{base:Heap}{CX:CXT}{j k:Nat}{f:Addr}{fd:FuncData}{ps:List Str}{sp:Sp} (F:aX P w K mg base CX j f fd ps sp) (h:j<=k):
 aX P w K mg base CX k f fd ps sp:=⟨F.len,fun A outer s H args us vs Q E hr=>F.run A outer s H args us vs Q E (hr.mono h)⟩
theorem aX.imp {P:Program}{w:World}{K:PySem.W.Frag}{mg:Str->Option Value}{base:Heap}{CX:CXT}{k:Nat}{f:Addr}{fd:FuncData}{ps:List Str}{sp sp':Sp} (F:aX P w K mg base CX k f fd ps sp)
 (h:∀vs H Q E,sp' vs H Q E->sp vs H Q E):aX P w K mg base CX k f fd ps sp':=
 ⟨fun vs H Q E q=>F.len vs H Q E (h _ _ _ _ q),fun A outer s H args us vs Q E hr he hb hv hs=>F.run A outer s H args us vs Q E hr he hb hv (h _ _ _ _ hs)⟩
theorem Pk.make {P:Program}{w:World}{K:PySem.W.Frag}{mg:Str->Option Value}{base:Heap}{A:Around}{outer:List Env}{s:Shared}{H:Hp} (e:Pk P w K mg base A outer s H) (C:Addr) (us:List Value) (kw:List (Str×Value)):
 Pk P w K mg base (A.under (.builtin "type.__call__" ⟨.ref C::us,kw⟩)) outer s H:=⟨by first | exact e.frames | (simpa [Around.under,Code.envs,Code.isFrame,pushEnvs] using e.frames),e.mod,e.bs,e.bsz,e.funs,e.frf,e.hok,e.bare⟩
section
variable {X:Cx}{pins:List (Addr×Obj)}{σ:St}{H:Hp}{s s':Shared}
theorem Inv.env0 (I:Inv X pins σ H s):Pk X.prog X.w X.K X.mg X.base X.A X.stack s H:=
 ⟨I.ok.frames,I.ok.mod,I.bs,Nat.le_trans I.ok.bsz I.sz,I.stack,I.QL,I.hok,I.bare⟩
theorem Inv.after {Q:VK}{u:Value} (I:Inv X pins σ H s) (h:CE X.stack X.prog X.w H s Q u s'):EP X pins σ Q u s':=by
 obtain⟨v,H',os,bare,un,hok,r,q⟩:=h
 obtain⟨hh,g,d,t,os'⟩:=s'
 obtain rfl:os'=s.os:=os
 exact⟨v,H',I.call (h':=hh) (g':=g) (d':=d) (t':=t) (ch:=[]) un hok bare (fun b z=>absurd z (by simp)),r,q⟩
end
def ZP (sp:Sp) (dvs:List V) (E:XK) (t:TA):TE:=fun σ H Q=>t σ H fun vs H1=>sp (vs++dvs) H1 Q E
def Q6 (C:Addr) (m:Str) (sp:Sp) (dvs:List V) (E:XK) (ta:TE) (t:TA):TE:=fun σ H Q=>ta σ H fun x H1=>∃a dx fs,x= .ref a/\H1 a=some (.ins C dx fs)/\fs.lookup m=none/\
 t σ H1 fun vs H2=>sp (x::(vs++dvs)) H2 Q E
def ZQ (C:Addr) (sp:Sp) (dvs:List V) (E:XK) (t:TA):TE:=fun σ H Q=>t σ H fun vs H1=>∀x dx,H1 x=none->H1 dx=none->dx≠x->
 sp (.ref x::(vs++dvs)) (upd (upd H1 dx (.own x)) x (.ins C dx [])) (fun v H2=>v= .non/\Q (.ref x) H2) E
def Binds (K:PySem.W.Frag) (fd:FuncData) (ps:List Str) (ds:List Value):Prop:=
 ∀(s:Shared) (us:List Value),K.In s.heap->(us++ds).length=ps.length->BindsTo s fd ⟨us,[]⟩ (ps.zip (us++ds))
theorem Binds.all {K:PySem.W.Frag}{fd:FuncData}{ps:List Str} (h:∀us:List Value,us.length=ps.length->bindArgs fd ⟨us,[]⟩=pure (ps.zip us)):Binds K fd ps []:=fun s us _ hl=>by
 rw[List.append_nil] at hl ⊢
 exact .of_eq (h us hl)
def Passes (CX:CXT) (X:Cx) (E:XK):Prop:=∀(pins:List (Addr×Obj)) (σ:St) (H:Hp) (s:Shared) (e:Value) (s':Shared),Inv X pins σ H s->CX X.stack H s E e s'->X.xe e s'
section
variable {X:Cx}{CX:CXT}{k:Nat}{f C:Addr}{fd:FuncData}{ps:List Str}{sp:Sp}{dvs:List V}{ds:List Value}{E:XK}{x m:Str}{p pos apos:Pos}{e o:Expr}{es:List Expr}{ta:TE}{t:TA}
theorem Pn {pins:List (Addr×Obj)}{σ:St}{H:Hp}{s:Shared}{Q:VK}{us:List Value}{vs:List V} (F:aX X.prog X.w X.K X.mg X.base CX k f fd ps sp) (hr:m5 k X.A) (hb:Binds X.K fd ps ds) (hd:Vals dvs ds) (hx:Passes CX X E)
 (I:Inv X pins σ H s) (r:Vals vs us) (h:sp (vs++dvs) H Q E):wpAny (model X.prog X.w) X.A (call (.ref f) us) (EP X pins σ Q) X.xe s:=by
 have r2:Vals (vs++dvs) (us++ds):=r.append hd
 have hl:(us++ds).length=ps.length:=by rw[<-r2.length];exact F.len _ _ _ _ h
 refine wpAny_call (codeAny_mono (F.run X.A X.stack s H ⟨us,[]⟩ (us++ds) (vs++dvs) Q E hr I.env0 (hb s us I.kIn hl) r2 h) fun r s' hq=> ?_)
 cases r with
 | error e=>exact hx pins σ H s e s' I hq
 | ok fl=>
   cases fl with
   | ret u=>exact I.after hq
   | next=>exact False.elim hq
   | brk=>exact False.elim hq
   | cont=>exact False.elim hq
theorem Xi (F:aX X.prog X.w X.K X.mg X.base CX k f fd ps sp) (hr:m5 k X.A) (hg:Gl X x) (hm:X.mg x=some (.ref f)) (hk:PySem.W.keepIn X.K (.ref f)=true) (hb:Binds X.K fd ps ds) (hd:Vals dvs ds) (hx:Passes CX X E)
 (ha:PA X (e::es) t) (hdb:(x==("__debug__":Str))=false:=by decide) (he:starEach (e::es) X.env=(false,eval e X.env)::starEach es X.env:=by rfl) (hpl:(backTo pos (starEach es X.env)).any (·.1)=false:=by rfl):
 PE X (.Call (.Name x p) (e::es) [] pos) (ZP sp dvs E t):=by
 intro pins s σ H Q I h
 refine wpAny_Call_Name_kw (QV I hg hm ?_ hdb)
 refine PySem.W.callWith_K (h₀:=X.base) I.ok.mod.kin hk (thn (ha pos pins s σ H _ I h) fun us s1 ⟨vs,H1,I1,r,q⟩=>⟨I1.kIn, ?_⟩) he hpl
 exact Pn F hr hb hd hx I1 r q
theorem Xj {pl:Sem Bool} (he:PE X o ta) (c:Cls X.K C) (hm:Meth X.K C m f) (F:aX X.prog X.w X.K X.mg X.base CX k f fd ps sp) (hr:m5 k X.A) (hb:Binds X.K fd ps ds) (hd:Vals dvs ds) (hx:Passes CX X E) (ha:PA X (e::es) t)
 (hst:starEach (e::es) X.env=(false,eval e X.env)::starEach es X.env:=by rfl) (hpl:(backTo pos (starEach es X.env)).any (·.1)=false:=by rfl)
 (ht:eval (.Call (.Attribute o m apos) (e::es) [] pos) X.env=(do
   let ov <-eval o X.env
   standAt apos.atName
   let (f,first) <-holding [ov] (getMethod ov m pl)
   callWith pos f first (backTo pos (starEach (e::es) X.env)) (backToKw pos (keywordEach [] X.env))):=by rfl):
 PE X (.Call (.Attribute o m apos) (e::es) [] pos) (Q6 C m sp dvs E ta t):=by
 intro pins s σ H Q I h
 refine PySem.W.methodCall_KW (pl:=pl) (thn (he pins s σ H _ I h) fun u s1 ⟨x,H1,I1,rx,a,dx,fs,ex,ea,l,q⟩=> ?_) ht
 subst ex
 obtain rfl:u=Value.ref a:=rx
 refine Hz I1 ea c hm l ?_
 refine PySem.W.callWith_K (first:=[.ref a]) (h₀:=X.base) I.ok.mod.kin hm.kp (thn (ha pos pins s1 σ H1 _ I1 q) fun us s2 ⟨vs,H2,I2,r,q2⟩=>⟨I2.kIn, ?_⟩) hst hpl
 exact Pn (us:= .ref a::us) (vs:= .ref a::vs) F hr hb hd hx I2 (.cons rfl r) q2
theorem Us {pl:Sem Bool} (he:PE X o ta) (c:Cls X.K C) (hm:Meth X.K C m f) (F:aX X.prog X.w X.K X.mg X.base CX k f fd ps sp) (hr:m5 k X.A) (hb:Binds X.K fd ps ds) (hd:Vals dvs ds) (hx:Passes CX X E)
 (ht:eval (.Call (.Attribute o m apos) [] [] pos) X.env=(do
   let ov <-eval o X.env
   standAt apos.atName
   let (f,first) <-holding [ov] (getMethod ov m pl)
   callWith pos f first (backTo pos (starEach [] X.env)) (backToKw pos (keywordEach [] X.env))):=by rfl):
 PE X (.Call (.Attribute o m apos) [] [] pos) (Q6 C m sp dvs E ta Xg):=by
 intro pins s σ H Q I h
 refine PySem.W.methodCall_KW (pl:=pl) (thn (he pins s σ H _ I h) fun u s1 ⟨x,H1,I1,rx,a,dx,fs,ex,ea,l,q⟩=> ?_) ht
 subst ex
 obtain rfl:u=Value.ref a:=rx
 refine Hz I1 ea c hm l ?_
 exact PySem.W.callWith_K0 (first:=[.ref a]) I1.kIn hm.kp (Pn (us:=[.ref a]) (vs:=[.ref a]) F hr hb hd hx I1 (.cons rfl .nil) q)
structure Mk (K:PySem.W.Frag) (C f:Addr):Prop where
 makes:PySem.W.makesIn K C=true
 init:PySem.W.findIn K (.ref C) "__init__"=some (some (.ref f))
 fn:PySem.W.isFn K (.ref f)=true
 kp:PySem.W.keepIn K (.ref C)=true
theorem Ut {pins:List (Addr×Obj)}{σ:St}{H:Hp}{s:Shared}{Q:VK}{us:List Value}{vs:List V} (M:Mk X.K C f) (F:aX X.prog X.w X.K X.mg X.base CX k f fd ps sp) (hr:m5 (k+1) X.A) (hb:Binds X.K fd ps ds) (hd:Vals dvs ds)
 (hx:Passes CX X E) (I:Inv X pins σ H s) (r:Vals vs us)
 (h:∀x dx,H x=none->H dx=none->dx≠x->sp (.ref x::(vs++dvs)) (upd (upd H dx (.own x)) x (.ins C dx [])) (fun v H2=>v= .non/\Q (.ref x) H2) E):
 wpAny (model X.prog X.w) X.A (call (.ref C) us) (EP X pins σ Q) X.xe s:=by
 have hq:=h (s.heap.objs.size+1) s.heap.objs.size (I.hok.fresh (Nat.le_succ _)) (I.hok.fresh (Nat.le_refl _)) (Nat.ne_of_lt (Nat.lt_succ_self _))
 have I2:=Inv.made (C:=C) I
 have r2:Vals (V.ref (s.heap.objs.size+1)::(vs++dvs)) (Value.ref (s.heap.objs.size+1)::(us++ds)):= .cons rfl (r.append hd)
 have hl:(Value.ref (s.heap.objs.size+1)::us++ds).length=ps.length:=by
  have e:=r2.length
  rw[F.len _ _ _ _ hq] at e
  exact e.symm
 refine wpAny_call (Ur (f:=f) I.kIn M.makes M.init (beq_iff_eq.mp M.fn) (codeAny_mono (F.run _ X.stack _ _ ⟨Value.ref (s.heap.objs.size+1)::us,[]⟩ (Value.ref (s.heap.objs.size+1)::(us++ds)) _ _ E (hr.make C us [])
  (I2.env0.make C us []) (hb _ (Value.ref (s.heap.objs.size+1)::us) I2.kIn hl) r2 hq) fun r s' hq'=> ?_))
 cases r with
 | error e=>exact hx pins σ _ _ e s' I2 hq'
 | ok fl=>
   cases fl with
   | ret u=>
     obtain⟨v,H',I3,rv,ev,q3⟩:=I2.after hq'
     subst ev
     exact⟨rv,⟨V.ref (s.heap.objs.size+1),H',I3,rfl,q3⟩⟩
   | next=>exact False.elim hq'
   | brk=>exact False.elim hq'
   | cont=>exact False.elim hq'
theorem Xk (M:Mk X.K C f) (F:aX X.prog X.w X.K X.mg X.base CX k f fd ps sp) (hr:m5 (k+1) X.A) (hg:Gl X x) (hm:X.mg x=some (.ref C)) (hb:Binds X.K fd ps ds) (hd:Vals dvs ds) (hx:Passes CX X E)
 (ha:PA X (e::es) t) (hdb:(x==("__debug__":Str))=false:=by decide) (he:starEach (e::es) X.env=(false,eval e X.env)::starEach es X.env:=by rfl) (hpl:(backTo pos (starEach es X.env)).any (·.1)=false:=by rfl):
 PE X (.Call (.Name x p) (e::es) [] pos) (ZQ C sp dvs E t):=by
 intro pins s σ H Q I h
 refine wpAny_Call_Name_kw (QV I hg hm ?_ hdb)
 refine PySem.W.callWith_K (h₀:=X.base) I.ok.mod.kin M.kp (thn (ha pos pins s σ H _ I h) fun us s1 ⟨vs,H1,I1,r,q⟩=>⟨I1.kIn, ?_⟩) he hpl
 exact Ut M F hr hb hd hx I1 r q
end
section
variable {X:Cx}{CX:CXT}{k:Nat}{f C:Addr}{fd:FuncData}{ps ks:List Str}{sp:Sp}{E:XK}{x m:Str}{p pos apos kpos:Pos}{e o:Expr}{es:List Expr}{kws:List Keyword}{te ta:TE}{t tk:TA}{nm:Option Str}
variable {g:List Value->List Value->List Value}{gV:List V->List V->List V}
end
structure bI (N P:List Str) (sc:Scope):Prop where
 kind:sc.kind= .function
 co:sc.isCoroutine=false
 gen:sc.isGenerator=false
 nd:N.Nodup
 pre:N.take P.length=P
 par:∀x∈P,sc.names.lookup x=some .local\/sc.names.lookup x=some .cell
 nofree:∀y∈sc.names,y.2≠ .free
theorem Kc {kindOf:Str->Option NameKind}{x:Str}:∀{binds:List (Str×Value)}{m:Str->Option Value},(∀v,(x,v)∉binds)->bindL kindOf binds m x=m x
 |[],_,_=>rfl
 | (n,v)::r,m,h=>by
   unfold bindL
   rw[Kc fun w hw=>h w (List.mem_cons_of_mem _ hw)]
   split
   ·have:x≠n:=by rintro rfl;exact h v List.mem_cons_self
    simp[this]
   ·rfl
theorem Kd {kindOf:Str->Option NameKind}{x:Str}:∀{binds:List (Str×Value)}{m:Str->Option Value},(∀v,(x,v)∉binds)->bindC kindOf binds m x=m x
 |[],_,_=>rfl
 | (n,v)::r,m,h=>by
   unfold bindC
   rw[Kd fun w hw=>h w (List.mem_cons_of_mem _ hw)]
   split
   ·rfl
   ·have:x≠n:=by rintro rfl;exact h v List.mem_cons_self
    simp[this]
theorem Ke {kindOf:Str->Option NameKind}{x:Str}{v:Value}:∀{P:List Str}{vs:List Value}{i:Nat}{m:Str->Option Value},P.Nodup->P[i]? =some x->vs[i]? =some v->kindOf x=some .local->
 bindL kindOf (P.zip vs) m x=some v
 |[],_,_,_,_,h,_,_=>by simp at h
 | _::_,[],_,_,_,_,h,_=>by simp at h
 | p::P,w::vs,0,m,nd,h1,h2,hk=>by
   simp at h1 h2;subst h1;subst h2
   show bindL kindOf ((p,w)::P.zip vs) m p=_
   unfold bindL
   rw[Kc fun v hv=>(List.nodup_cons.mp nd).1 (List.of_mem_zip hv).1,if_pos hk]
   simp
 | p::P,w::vs,i+1,m,nd,h1,h2,hk=>by
   show bindL kindOf ((p,w)::P.zip vs) m x=_
   unfold bindL
   exact Ke (i:=i) (List.nodup_cons.mp nd).2 (by simpa using h1) (by simpa using h2) hk
theorem Kf {kindOf:Str->Option NameKind}{x:Str}{v:Value}:∀{P:List Str}{vs:List Value}{i:Nat}{m:Str->Option Value},P.Nodup->P[i]? =some x->vs[i]? =some v->kindOf x≠some .local->
 bindC kindOf (P.zip vs) m x=some v
 |[],_,_,_,_,h,_,_=>by simp at h
 | _::_,[],_,_,_,_,h,_=>by simp at h
 | p::P,w::vs,0,m,nd,h1,h2,hk=>by
   simp at h1 h2;subst h1;subst h2
   show bindC kindOf ((p,w)::P.zip vs) m p=_
   unfold bindC
   rw[Kd fun v hv=>(List.nodup_cons.mp nd).1 (List.of_mem_zip hv).1,if_neg hk]
   simp
 | p::P,w::vs,i+1,m,nd,h1,h2,hk=>by
   show bindC kindOf ((p,w)::P.zip vs) m x=_
   unfold bindC
   exact Kf (i:=i) (List.nodup_cons.mp nd).2 (by simpa using h1) (by simpa using h2) hk
def start (N:List Str) (vs:List V):St:=vs.map some++List.replicate (N.length - vs.length) none
def Pq (CX:CXT) (P:Program) (w:World) (K:PySem.W.Frag) (mg:Str->Option Value) (base:Heap) (N:List Str) (qual:Str) (scope:Scope) (f:Addr) (cd:Value) (A:Around) (outer:List Env) (s:Shared) (H:Hp) (E:XK):Cx where
 prog:=P
 w:=w
 K:=K
 mg:=mg
 base:=base
 A:=A.deeper (envOfC qual scope s.heap.objs.size f cd)
 N:=N
 s₀:=s
 H₀:=H
 env:=envOfC qual scope s.heap.objs.size f cd
 outer:=outer
 stack:=envOfC qual scope s.heap.objs.size f cd::outer
 ex:=[]
 calm:=true
 fn:=fun _=>true
 pn:=[]
 xe:=fun e s'=>wpAny (model P w) (A.deeper (envOfC qual scope s.heap.objs.size f cd)) (leaving (envOfC qual scope s.heap.objs.size f cd) e) (fun _ s''=>CX outer H s E e s'') (fun e' s''=>CX outer H s E e' s'') s'
theorem MP {sc:Scope}{n:Nat}{x:Str} (h:sc.names.lookup x=some .cell):∃c,(cellsFrom n sc.names []).lookup x=some c:=by
 have q:=PySem.W.cellsFrom_some sc.names n [] (.inl h)
 exact Option.isSome_iff_exists.mp q
theorem SJ {CX:CXT}{P:Program}{w:World}{K:PySem.W.Frag}{mg:Str->Option Value}{base:Heap}{N ps:List Str}{qual:Str}{scope:Scope}{f:Addr}{cd:Value}{A:Around}{outer:List Env}{s s1:Shared}{H:Hp}{E:XK}{us:List Value}{vs:List V}
 (S:bI N ps scope) (hd:A.handled=none) (e0:Pk P w K mg base A outer s H) (hl:vs.length=ps.length) (r:Vals vs us)
 (x:InCallC s s.heap.objs.size (bindL (envOfC qual scope s.heap.objs.size f cd).kindOf (ps.zip us) fun _=>none) (cellsFrom (s.heap.objs.size+1) scope.names []) (bindC (envOfC qual scope s.heap.objs.size f cd).kindOf (ps.zip us) fun _=>none) s1):
 Inv (Pq CX P w K mg base N qual scope f cd A outer s H E) [] (start N vs) H s1:=by
 have hpl:ps.length<=N.length:=by have:=congrArg List.length S.pre;rw[List.length_take] at this;omega
 obtain⟨h1,tk,rfl,hk⟩:=x.done
 have noA:∀b:Addr,b∉(Pq CX P w K mg base N qual scope f cd A outer s H E).ex:=fun b z=>absurd (show b∈([]:List Addr) from z) (by simp)
 refine⟨⟨e0.mod,S.kind,rfl,rfl,Nat.le_refl _,fun y z c h1 h2=> ?_,fun y hy=> ?_,fun y c _ h=> ?_,fun _=>hd,Around.frames_deeper e0.frames, .inr ⟨rfl,rfl⟩,fun b z=>absurd z (noA b),e0.bs,e0.bsz,fun b _ _=>noA b,fun b z=>absurd z (noA b),e0.funs,e0.frf⟩,
  rfl,e0.bare,Un.kept hk,⟨_,x.toInCall.ns,fun i y v h1 h2 h3=> ?_⟩,fun y c h=>⟨_,x.cell y c h⟩,e0.hok.fresh (Nat.le_refl _),fun y c h=> ?_,fun p hp=>absurd (show p∈([]:List (Addr×Obj)) from hp) (by simp),e0.hok.kept hk, ?_⟩
 ·exact name_of_addr x.apart (PySem.mem_of_lookup h1) (PySem.mem_of_lookup h2)
 ·have hy:scope.names.lookup y=some .cell\/scope.names.lookup y=some .free:=hy
  rcases hy with hy | hy
  ·exact MP hy
  ·exact absurd rfl (S.nofree _ (PySem.mem_of_lookup hy))
 ·exact Nat.le_of_lt (x.above y c (PySem.mem_of_lookup h))
 ·have hi:i<vs.length:=by
   unfold start at h2
   by_cases hi:i<vs.length
   ·exact hi
   ·rw[List.getElem?_append_right (by simpa using hi)] at h2
    rw[List.getElem?_replicate] at h2
    split at h2<;>cases h2
  have ha:vs[i]? =some v:=by
   unfold start at h2
   rw[List.getElem?_append_left (by simpa using hi),List.getElem?_map] at h2
   cases e:vs[i]? with
   | none=>rw[e] at h2;cases h2
   | some a=>rw[e] at h2;cases h2;rfl
  obtain⟨u,hu,rv⟩:=r.get ha
  have hp:ps[i]? =some y:=by
   rw[<-S.pre,List.getElem?_take_of_lt (by omega)];exact h1
  have ndP:ps.Nodup:=by rw[<-S.pre];exact S.nd.sublist (List.take_sublist _ _)
  refine⟨u,rv, ?_⟩
  rcases S.par y (List.mem_of_getElem? hp) with k | k
  ·exact .inl ⟨k,Ke ndP hp hu k⟩
  ·obtain⟨c,e⟩:=MP (n:=s.heap.objs.size+1) k
   refine .inr ⟨.inl k,c,e, ?_⟩
   have q:=x.cell y c e
   rw[Kf ndP hp hu (by show scope.names.lookup y≠_;rw[k];decide)] at q
   exact q
 ·exact e0.hok.fresh (Nat.le_of_lt (x.above y c (PySem.mem_of_lookup h)))
 ·unfold start
  show _=N.length
  rw[List.length_append,List.length_map,List.length_replicate]
  omega
theorem aes {CX:CXT}{P:Program}{w:World}{K:PySem.W.Frag}{mg:Str->Option Value}{base:Heap}{k:Nat}{f:Addr}{name qual:Str}{params:Arguments}{body:List Stmt}{scope:Scope}{dV kV doc pm cdv ct oc:Value}{an od:Option Addr}
 {osl:Array (Option Value)}{N ps:List Str}{sp:Sp} (lk:K.lookup f=some ⟨oc,od, .func (PySem.W.fnOf name qual params body scope dV kV doc pm an cdv ct),osl⟩) (hcd:PySem.W.codeIn K cdv qual=true) (S:bI N ps scope)
 (len:∀vs H Q E,sp vs H Q E->vs.length=ps.length)
 (hbody:∀(A:Around) (outer:List Env) (s:Shared) (H:Hp) (vs:List V) (Q:VK) (E:XK),m5 k (A.deeper (envOfC qual scope s.heap.objs.size f cdv))->sp vs H Q E->
   ∃t,PSs (Pq CX P w K mg base N qual scope f cdv A outer s H E) body t/\t {nx:=fun _ H'=>Q .non H',rt:=Q} (start N vs) H):
 aX P w K mg base CX (k+1) f (PySem.W.fnOf name qual params body scope dV kV doc pm an cdv ct) ps sp:=by
 refine⟨len,fun A outer s H args us vs Q E hr e0 hb r hsp=> ?_⟩
 have hl:=len _ _ _ _ hsp
 have KX:K.In s.heap:=e0.mod.kin.keeps fun b o e=>(e0.bs b o e).1
 have lim:s.heap.NoLimit:=e0.mod.nolimit.keeps fun b o e=>(e0.bs b o e).1
 have hkind:∀y∈ps.zip us,scope.names.lookup y.1=some .local\/(scope.names.lookup y.1=some .cell/\((cellsFrom (s.heap.objs.size+1) scope.names []).lookup y.1).isSome=true):=fun⟨n,v⟩ hy=>by
  rcases S.par n (List.of_mem_zip hy).1 with q | q
  ·exact .inl q
  ·exact .inr ⟨q,PySem.W.cellsFrom_some _ _ _ (.inl q)⟩
 refine codeAny_call_function hr.depth (KX _ _ lk) rfl S.co S.gen rfl (PySem.W.codeRec_of KX hcd) (hb _ _ _ _ ?_)
 refine wpAny_newFunctionEnv_cells S.kind hkind fun env he s1 x=> ?_
 subst he
 refine⟨lim.keeps x.toInCall.keep,codeAny_func ?_⟩
 obtain⟨t,ht,hq⟩:=hbody A outer s H vs Q E (hr.deeper _) hsp
 have I:Inv (Pq CX P w K mg base N qual scope f cdv A outer s H E) [] (start N vs) H s1:=SJ S hr.hd e0 hl r x
 refine wpAny_mono (ht [] s1 (start N vs) H _ I hq) (fun fl s' hs=> ?_) fun e s' hs=>hs
 have fin:∀{σ':St}{H':Hp}{v:V}{u:Value},Inv (Pq CX P w K mg base N qual scope f cdv A outer s H E) [] σ' H' s'->RelV v u->Q v H'->CE outer P w H s Q u s':=
  fun{σ' H' v u} J rv q=>⟨v,H',J.os,J.bare,J.base,J.hok,rv,q⟩
 cases fl with
 | ret u=>
   obtain⟨v,σ',H',J,rv,q⟩:=hs
   exact fin J rv q
 | next=>
   obtain⟨σ',H',J,q⟩:=hs
   exact fin (v:=V.non) (u:=Value.none) J rfl q
 | brk=>
   obtain⟨_,_,_,q⟩:=hs
   exact False.elim q
 | cont=>
   obtain⟨_,_,_,q⟩:=hs
   exact False.elim q
end L2
namespace L2
open PySem PySem.Spec PyProof.Rows
section
variable {X:Cx}{x:Str}{p pos:Pos}{e:Expr}{es:List Expr}{t:TA}{id T:String}{r:List V->Hp->VK->Prop}
def tCB (r:List V->Hp->VK->Prop) (t:TA):TE:=fun σ H Q=>t σ H fun vs H1=>r vs H1 Q
theorem Uu (hc:rP X (.builtin id) r) (hg:Gl X x) (hm:X.mg x=none) (hv:bootBuiltins x=some (.builtin id)) (ha:PA X (e::es) t) (hn:x≠"__name__":=by decide) (hdb:(x==("__debug__":Str))=false:=by decide)
 (he:starEach (e::es) X.env=(false,eval e X.env)::starEach es X.env:=by rfl) (hpl:(backTo pos (starEach es X.env)).any (·.1)=false:=by rfl):PE X (.Call (.Name x p) (e::es) [] pos) (tCB r t):=by
 intro pins s σ H Q I h
 refine wpAny_Call_Name_kw (Be I hg hm hv ?_ hn hdb)
 exact PyProof.Rows.callWith_builtin1 (thn (ha pos pins s σ H _ I h) fun us s1 ⟨vs,H1,I1,r1,q1⟩=>hc pins s1 σ H1 vs us Q I1 r1 q1) he hpl
theorem SM (hc:rP X (.type T) r) (hg:Gl X x) (hm:X.mg x=none) (hv:bootBuiltins x=some (.type T)) (ha:PA X (e::es) t) (hn:x≠"__name__":=by decide) (hdb:(x==("__debug__":Str))=false:=by decide)
 (he:starEach (e::es) X.env=(false,eval e X.env)::starEach es X.env:=by rfl) (hpl:(backTo pos (starEach es X.env)).any (·.1)=false:=by rfl):PE X (.Call (.Name x p) (e::es) [] pos) (tCB r t):=by
 intro pins s σ H Q I h
 refine wpAny_Call_Name_kw (Be I hg hm hv ?_ hn hdb)
 exact PyProof.Rows.callWith_type1 (thn (ha pos pins s σ H _ I h) fun us s1 ⟨vs,H1,I1,r1,q1⟩=>hc pins s1 σ H1 vs us Q I1 r1 q1) he hpl
end
end L2
namespace HT
open PySem PyProof.Rows
section
open PySem.SeqAt
open PySem.AutoSeq1 (wpAny_loadPart')
open PySem.MeetsSeq PySem.MeetsSeq2 PySem.MeetsSeq3
end
section
variable {prog:Program}{w:World}{A:Around}{E:Value->Shared->Prop}{s:Shared}
def sIx (n d:Nat):Option Int->Nat
 | none=>d
 | some v=>if v<0 then(v+(n:Int)).toNat else min v.toNat n
end
end HT
namespace L2
open PySem PySem.Spec PyProof.Rows
abbrev TO:=St->Hp->(Option Int->Hp->Prop)->Prop
def PO (X:Cx) (e:Option Expr) (t:TO):Prop:=
 ∀(pins:List (Addr×Obj)) (s:Shared) (σ:St) (H:Hp) (Q:Option Int->Hp->Prop),Inv X pins σ H s->t σ H Q->
  wpAny (model X.prog X.w) X.A (evalPart e X.env) (fun u s'=>∃o H',Inv X pins σ H' s'/\IsPart u o/\Q o H') X.xe s
def Q7:TO:=fun _ H Q=>Q none H
def ZR (t:TE):TO:=fun σ H Q=>t σ H fun x H1=>∃i,x= .int i/\Q (some i) H1
section
variable {X:Cx}{e:Expr}{te:TE}{lo hi:Option Expr}{tl th:TO}{pos p2:Pos}
theorem Xl:PO X none Q7:=by
 intro pins s σ H Q I h
 rw[evalPart_none]
 exact wpAny_pure ⟨none,H,I, .none,h⟩
theorem Xm (h:PE X e te):PO X (some e) (ZR te):=by
 intro pins s σ H Q I hw
 rw[evalPart_some]
 refine thn (h pins s σ H _ I hw) fun u s1 ⟨x,H1,I1,r1,q1⟩=> ?_
 obtain⟨i,rfl,q⟩:=q1
 obtain⟨t,rfl⟩:=r1
 exact⟨some i,H1,I1, .int i t,q⟩
def SlR (X:Cx) (r:V->Option Int->Option Int->Hp->VK->Prop):Prop:=
 ∀(pins:List (Addr×Obj)) (s:Shared) (σ:St) (H:Hp) (x:V) (v vl vu:Value) (lo hi:Option Int) (sl:Addr) (Q:VK),Inv X pins σ H s->RelV x v->s.heap.IsSliceOf sl vl vu .none->IsPart vl lo->IsPart vu hi->r x lo hi H Q->
  ∃T id,typeLookup (.type T) "__getitem__"=pure (some (.builtin id))/\s.TypeIs v T/\wpAny (model X.prog X.w) X.A (getItem v (.ref sl)) (EP X pins σ Q) X.xe s
def tSl (r:V->Option Int->Option Int->Hp->VK->Prop) (te:TE) (tl th:TO):TE:=fun σ H Q=>te σ H fun x H1=>tl σ H1 fun l H2=>th σ H2 fun u H3=>r x l u H3 Q
theorem Uv {r:V->Option Int->Option Int->Hp->VK->Prop} (hr:SlR X r) (he:PE X e te) (hl:PO X lo tl) (hu:PO X hi th):PE X (.Subscript e (.Slice lo hi none p2) pos) (tSl r te tl th):=by
 intro pins s σ H Q I h
 refine Subscript_ (thn (he pins s σ H _ I h) fun v s1 ⟨x,H1,I1,r1,q1⟩=> ?_)
 refine wpAny_Slice (thn (hl pins s1 σ H1 _ I1 q1) fun vl s2 ⟨l,H2,I2,pl,q2⟩=>thn (hu pins s2 σ H2 _ I2 q2) fun vu s3 ⟨u,H3,I3,pu,q3⟩=> ?_)
 rw[evalPart_none]
 refine wpAny_pure ?_
 have I4:Inv X pins σ H3 {s3 with heap:=s3.heap.push {cls:= .type "slice",data:= .fields #[vl,vu, .none]}}:=I3.kept (t':=s3.toks) fun b ob q=>Heap.get?_push_of_some _ q
 obtain⟨T,id,hT,ht,hg⟩:=hr pins {s3 with heap:=s3.heap.push {cls:= .type "slice",data:= .fields #[vl,vu, .none]}} σ H3 x v vl vu l u s3.heap.objs.size Q I4 r1 (Heap.IsSliceOf.new ..) pl pu q3
 show wpAny (model X.prog X.w) X.A (subscriptTail e (.Slice lo hi none p2) v (.ref s3.heap.objs.size)) (EP X pins σ Q) X.xe {s3 with heap:=s3.heap.push {cls:= .type "slice",data:= .fields #[vl,vu, .none]}}
 exact tail_any (ops:=[.ref s3.heap.objs.size,v]) ht hT hg (by with_unfolding_all rfl)
def SN (xs:List V) (lo hi:Option Int):List V:=(xs.drop (HT.sIx xs.length 0 lo)).take (HT.sIx xs.length xs.length hi - HT.sIx xs.length 0 lo)
theorem MT (xs:List V) (lo hi:Option Int):(SN xs lo hi).length<=xs.length:=by
 unfold SN
 rw[List.length_take,List.length_drop]
 omega
end
end L2
namespace L2
open PySem PySem.Spec PyProof.Rows
def ixN (n:Nat) (i:Int):Option Nat:=if 0<=i then(if i<n then some i.toNat else none) else if -(n:Int)<=i then some (i+n).toNat else none
def atI {α:Type} (xs:List α) (i:Int):Option α:=(ixN xs.length i).bind fun j=>xs[j]?
theorem Xn {n:Nat}{i:Int}{j:Nat} (h:ixN n i=some j):seqIndex? i n=some j/\j<n/\ -(n:Int)<=i/\i<n:=by
 unfold ixN at h
 by_cases h0:0<=i
 ·rw[if_pos h0] at h
  by_cases h1:i<n
  ·rw[if_pos h1] at h
   have e:i.toNat=j:=Option.some.inj h
   exact⟨by rw[seqIndex_of h0 h1,e],by omega,by omega,h1⟩
  ·rw[if_neg h1] at h;cases h
 ·rw[if_neg h0] at h
  by_cases h1: -(n:Int)<=i
  ·rw[if_pos h1] at h
   have e:(i+n).toNat=j:=Option.some.inj h
   exact⟨by rw[seqIndex_neg (by omega) h1,e],by omega,h1,by omega⟩
  ·rw[if_neg h1] at h;cases h
theorem KY {α:Type}{xs:List α}{i:Int}{v:α} (h:atI xs i=some v):∃j,seqIndex? i xs.length=some j/\xs[j]? =some v/\j<xs.length/\ -(xs.length:Int)<=i/\i<xs.length:=by
 unfold atI at h
 cases e:ixN xs.length i with
 | none=>rw[e] at h;cases h
 | some j=>
   rw[e] at h
   obtain⟨h1,h2,h3,h4⟩:=Xn e
   exact⟨j,h1,h,h2,h3,h4⟩
theorem lE {α:Type}{xs:List α}{j:Nat}{v:α} (h:xs[j]? =some v):atI xs (j:Int)=some v:=by
 have hj:j<xs.length:=(List.getElem?_eq_some_iff.mp h).1
 have e:ixN xs.length (j:Int)=some j:=by
  unfold ixN
  rw[if_pos (by omega),if_pos (by omega)];simp
 unfold atI;rw[e];exact h
def Q8 (b:Expr):Prop:=∀o i,subscripted b false o i=operate [o,i] (getItem o i)
def IxR (X:Cx) (r:R2):Prop:=
 ∀(value slice:Expr) (pins:List (Addr×Obj)) (s:Shared) (σ:St) (H:Hp) (x y:V) (v u:Value) (Q:VK),Inv X pins σ H s->RelV x v->RelV y u->r x y H Q->
  subscripted slice false v u=operate [v,u] (getItem v u)->wpAny (model X.prog X.w) X.A (subscriptTail value slice v u) (EP X pins σ Q) X.xe s
def MtR (X:Cx) (id:String) (r:V->List V->Hp->VK->Prop):Prop:=
 ∀(pins:List (Addr×Obj)) (s:Shared) (σ:St) (H:Hp) (x:V) (xs:List V) (v:Value) (us:List Value) (Q:VK),Inv X pins σ H s->RelV x v->Vals xs us->r x xs H Q->
  wpAny (model X.prog X.w) X.A (call (.builtin id) (v::us)) (EP X pins σ Q) X.xe s
section
variable {X:Cx}{a b:Expr}{ta tb:TE}{pos:Pos}
theorem aet {r:R2} (hr:IxR X r) (ha:PE X a ta) (hb:PE X b tb) (hs:Q8 b):PE X (.Subscript a b pos) (tOp r ta tb):=by
 intro pins s σ H Q I h
 exact Subscript_ (aaZ ha hb I h fun v u s2 x y H2 I2 rx ry q=>hr a b pins s2 σ H2 x y v u Q I2 rx ry q (hs _ _))
def abh (K:PySem.W.Frag):R2:=fun x y H Q=>∃p xs i v,x= .ref p/\y= .int i/\SqL K H p xs/\atI xs i=some v/\Q v H
def abi (K:PySem.W.Frag):R2:=fun x y H Q=>∃p xs i v,x= .ref p/\y= .int i/\SqT K H p xs/\atI xs i=some v/\Q v H
def aeu:R2:=fun x y H Q=>∃z i c,x= .str z/\y= .int i/\z.length<=sizeLine/\atI z.cps.toList i=some c/\Q (.str ⟨#[c]⟩) H
theorem Xo:IxR X (abh X.K):=by
 intro value slice pins s σ H x y v u Q I rx ry h hs
 obtain⟨p,xs,i,z,rfl,rfl,hq,he,q⟩:=h
 cases rx
 obtain⟨t,rfl⟩:=ry
 obtain⟨its,r,pl,hz⟩:=I.list hq
 obtain⟨j,h1,h2,h3,h4,h5⟩:=KY he
 obtain⟨w,ew,rw'⟩:=r.get h2
 have hl:=r.length
 have hn:=Hy
 have fin:EP X pins σ Q w s:=⟨z,H,I,rw',q⟩
 by_cases h0:0<=i
 ·have hj:i.toNat=j:=by
   rw[seqIndex_of h0 h5] at h1
   exact Option.some.inj h1
  exact item_listR pl.isList h0 (by omega) (by rw[hj];simpa using ew) fin hs
 ·have hj:(i+(its.toArray.size:Int)).toNat=j:=by
   rw[seqIndex_neg (by omega) h4] at h1
   rw[List.size_toArray,<-hl]
   exact Option.some.inj h1
  exact subscriptTail_builtinR (x:=w) pl.isList.typeIs slot_list_getitem.lookup
   (wpAny_getItem_list_neg (Q:=fun r s'=>r=w/\EP X pins σ Q r s') pl.isList (by omega) (by rw[List.size_toArray]<;>omega) (by omega) (by rw[hj];simpa using ew) ⟨rfl,fin⟩) hs
theorem abj:IxR X (abi X.K):=by
 intro value slice pins s σ H x y v u Q I rx ry h hs
 obtain⟨p,xs,i,z,rfl,rfl,hq,he,q⟩:=h
 cases rx
 obtain⟨t,rfl⟩:=ry
 obtain⟨its,r,pl,hz⟩:=I.tuple hq
 obtain⟨j,h1,h2,h3,h4,h5⟩:=KY he
 obtain⟨w,ew,rw'⟩:=r.get h2
 have hl:=r.length
 have hn:=Hy
 have fin:EP X pins σ Q w s:=⟨z,H,I,rw',q⟩
 exact subscriptTail_builtinR (x:=w) pl.typeIs slot_tuple_getitem.lookup
  (getItem_tuple (j:=j) (Q:=fun r s'=>r=w/\EP X pins σ Q r s') pl (by omega) (by omega) (by rw[List.size_toArray,<-hl];exact h1) (by simpa using ew) ⟨rfl,fin⟩) hs
theorem abk:IxR X aeu:=by
 intro value slice pins s σ H x y v u Q I rx ry h hs
 obtain⟨z,i,c,rfl,rfl,hz,he,q⟩:=h
 obtain⟨t,rfl⟩:=rx
 obtain⟨t',rfl⟩:=ry
 obtain⟨j,h1,h2,h3,h4,h5⟩:=KY he
 have hl:z.cps.toList.length=z.length:=by simp[Str.length]
 rw[hl] at h1 h4 h5
 have hn:=Hy
 exact tail_any (typeIs_str s z t) slot_str_getitem.lookup (getItem_str (c:=c) (by
  have e1:decide (i< -(2 ^ 63:Int))=false:=decide_eq_false (by omega)
  have e2:decide (i >= 2 ^ 63)=false:=decide_eq_false (by omega)
  rw[e1,e2,Bool.or_false]) (by rw[h1];simpa using h2) ⟨.str ⟨#[c]⟩,H,I.tok _,⟨_,rfl⟩,q⟩) hs
theorem KZ (lo hi:Option Int) (n:Nat):(sliceBounds lo hi none n).1=((HT.sIx n 0 lo:Nat):Int)/\(sliceBounds lo hi none n).2.1=((HT.sIx n n hi:Nat):Int)/\(sliceBounds lo hi none n).2.2=1:=by
 refine⟨?_, ?_,rfl⟩
 ·cases lo with
  | none=>simp[sliceBounds,HT.sIx]
  | some i=>
    simp only[sliceBounds,HT.sIx,Option.getD_none,show(1:Int)>0 by decide,if_true]
    by_cases h:i<0
    ·simp only[h,if_true]<;>omega
    ·simp only[h,if_false]<;>omega
 ·cases hi with
  | none=>simp[sliceBounds,HT.sIx]
  | some i=>
    simp only[sliceBounds,HT.sIx,Option.getD_none,show(1:Int)>0 by decide,if_true]
    by_cases h:i<0
    ·simp only[h,if_true]<;>omega
    ·simp only[h,if_false]<;>omega
theorem JN (its:List Value) (lo hi:Option Int):slicePick its.toArray lo hi none=((its.drop (HT.sIx its.length 0 lo)).take (HT.sIx its.length its.length hi - HT.sIx its.length 0 lo)).toArray:=by
 obtain⟨h1,h2,h3⟩:=KZ lo hi its.toArray.size
 unfold slicePick
 rw[h1,h2,h3]
 simp only[sliceRange_one,pick_run,List.size_toArray]<;>rfl
def aev (K:PySem.W.Frag):V->Option Int->Option Int->Hp->VK->Prop:=fun x lo hi H Q=>∃a xs,x= .ref a/\SqL K H a xs/\∀p,H p=none->Q (.ref p) (upd H p (.lst (SN xs lo hi)))
theorem Xp:SlR X (aev X.K):=by
 intro pins s σ H x v vl vu lo hi sl Q I rx hs pl pu h
 obtain⟨a,xs,rfl,hx,q⟩:=h
 cases rx
 obtain⟨its,r,ht,hz⟩:=I.list hx
 have hlen:=r.length
 refine⟨"list",_,slot_list_getitem.lookup,ht.isList.typeIs, ?_⟩
 refine wpAny_getItem_list_slice ht.isList hs pl pu .none (by simp) ?_ (by rw[List.size_toArray]<;>omega)
 rw[JN,<-hlen]
 refine⟨.ref s.heap.objs.size,_,I.laid (t':=s.toks) (o:= .lst (SN xs lo hi)) (fun b ob q=>Heap.get?_push_of_some _ q) (Nat.le_refl _) ?_,rfl,q _ (I.hok.fresh (Nat.le_refl _))⟩
 exact⟨Nat.le_trans (MT xs lo hi) hz,_,0,(r.drop (HT.sIx xs.length 0 lo)).take (HT.sIx xs.length xs.length hi - HT.sIx xs.length 0 lo),Heap.get?_push_size _ rfl⟩
def Ar:V->Bool
 | .non=>true
 | .bl _=>true
 | .int _=>true
 | .str _=>true
 | _=>false
def eqV:V->V->Bool
 | .non, .non=>true
 | .bl a, .bl b=>a==b
 | .bl a, .int b=>(if a then 1 else 0)==b
 | .int a, .bl b=>a==(if b then 1 else 0)
 | .int a, .int b=>a==b
 | .str a, .str b=>a==b
 | _,_=>false
theorem abl {A:Around}{s:Shared}{y x:V}{u v:Value} (ry:RelV y u) (rx:RelV x v) (fy:Ar y=true) (fx:Ar x=true):SeqAt.EqAt A s u v (eqV y x):=by
 cases y with
 | non=>
   cases ry
   cases x with
   | non=>cases rx;exact SeqAt.EqAt.same _
   | bl b=>cases rx;exact SeqAt.EqAt.none_bool b
   | int b=>obtain⟨t,rfl⟩:=rx;exact SeqAt.EqAt.none_int b t
   | str b=>obtain⟨t,rfl⟩:=rx;exact SeqAt.EqAt.none_str b t
   | _=>exact absurd (show false=true from fx) Bool.false_ne_true
 | bl a=>
   cases ry
   cases x with
   | non=>cases rx;exact SeqAt.EqAt.bool_none a
   | bl b=>cases rx;exact SeqAt.EqAt.bool_bool a b
   | int b=>obtain⟨t,rfl⟩:=rx;exact SeqAt.EqAt.bool_int a b t
   | str b=>obtain⟨t,rfl⟩:=rx;exact SeqAt.EqAt.bool_str a b t
   | _=>exact absurd (show false=true from fx) Bool.false_ne_true
 | int a=>
   obtain⟨t',rfl⟩:=ry
   cases x with
   | non=>cases rx;exact SeqAt.EqAt.int_none a t'
   | bl b=>cases rx;exact SeqAt.EqAt.int_bool a t' b
   | int b=>obtain⟨t,rfl⟩:=rx;exact SeqAt.EqAt.int_int a t' b t
   | str b=>obtain⟨t,rfl⟩:=rx;exact SeqAt.EqAt.int_str a t' b t
   | _=>exact absurd (show false=true from fx) Bool.false_ne_true
 | str a=>
   obtain⟨t',rfl⟩:=ry
   cases x with
   | non=>cases rx;exact SeqAt.EqAt.str_none a t'
   | bl b=>cases rx;exact SeqAt.EqAt.str_bool a t' b
   | int b=>obtain⟨t,rfl⟩:=rx;exact SeqAt.EqAt.str_int a t' b t
   | str b=>obtain⟨t,rfl⟩:=rx;exact SeqAt.EqAt.str_str a t' b t
   | _=>exact absurd (show false=true from fx) Bool.false_ne_true
 | _=>exact absurd (show false=true from fy) Bool.false_ne_true
def eqU (x:V) (u:Value):Bool:=match u with
 | .none=>eqV .non x
 | .bool b=>eqV (.bl b) x
 | .int i _=>eqV (.int i) x
 | .str z _=>eqV (.str z) x
 | _=>false
theorem Uw {x y:V}{u:Value} (r:RelV y u) (f:Ar y=true):eqU x u=eqV y x:=by
 cases y with
 | non=>cases r;rfl
 | bl b=>cases r;rfl
 | int i=>obtain⟨t,rfl⟩:=r;rfl
 | str z=>obtain⟨t,rfl⟩:=r;rfl
 | _=>exact absurd (show false=true from f) Bool.false_ne_true
theorem K1 {x:V}:∀{xs:List V}{us:List Value},Vals xs us->xs.all Ar=true->us.any (eqU x)=xs.any fun y=>eqV y x
 | _,_, .nil,_=>rfl
 | y::xs,u::us, .cons r t,f=>by
   rw[List.all_cons,Bool.and_eq_true] at f
   rw[List.any_cons,List.any_cons,Uw r f.1,K1 t f.2]
theorem HB {A:Around}{s:Shared}{x:V}{v:Value} (rx:RelV x v) (fx:Ar x=true):∀{xs:List V}{us:List Value},Vals xs us->xs.all Ar=true->∀u∈us,SeqAt.EqAt A s u v (eqU x u)
 | _,_, .nil,_=>fun u hu=>by cases hu
 | y::xs,u::us, .cons r t,f=>fun u' hu=>by
   rw[List.all_cons,Bool.and_eq_true] at f
   rcases List.mem_cons.mp hu with rfl | hu
   ·rw[Uw r f.1];exact abl r rx f.1 fx
   ·exact HB rx fx t f.2 u' hu
def inV (x:V) (xs:List V):Bool:=xs.any fun y=>eqV y x
def rIn (K:PySem.W.Frag) (neg:Bool):R2:=fun x y H Q=>∃p xs,y= .ref p/\(SqL K H p xs\/SqT K H p xs)/\Ar x=true/\xs.all Ar=true/\Q (.bl (if neg then !inV x xs else inV x xs)) H
theorem SQ:OpR X (compareOp .In) (rIn X.K false):=by
 intro pins s σ H x y v u Q I rx ry h
 obtain⟨p,xs,rfl,hq,fx,fs,q⟩:=h
 cases ry
 rcases hq with hq | hq
 ·obtain⟨its,r,pl,hz⟩:=I.list hq
  refine SeqAt.in_listAt (eqU x) pl.isList (fun w hw=>HB rx fx r fs w (by simpa using hw)) ⟨.bl _,H,I,rfl, ?_⟩
  rw[show its.toArray.any (eqU x)=its.any (eqU x) by simp,K1 r fs]
  exact q
 ·obtain⟨its,r,pl,hz⟩:=I.tuple hq
  refine SeqAt.in_tupleAt (eqU x) pl (fun w hw=>HB rx fx r fs w (by simpa using hw)) ⟨.bl _,H,I,rfl, ?_⟩
  rw[show its.toArray.any (eqU x)=its.any (eqU x) by simp,K1 r fs]
  exact q
theorem K3:rP X (.builtin "len") (fun xs H Q=>∃p ys,xs=[.ref p]/\(SqL X.K H p ys\/SqT X.K H p ys)/\Q (.int ys.length) H):=by
 intro pins s σ H xs us Q I r h
 obtain⟨p,ys,rfl,hq,q⟩:=h
 obtain⟨u,rfl,rx⟩:=vals1 r
 cases rx
 have hn:=Hy
 rcases hq with hq | hq
 ·obtain⟨its,r',pl,hz⟩:=I.list hq
  have hlen:=r'.length
  exact Calls.call_len_list pl.isList (by simp only[List.size_toArray]<;>omega) ⟨.int ys.length,H,I.tok _,⟨s.toks+1,by rw[List.size_toArray,hlen]⟩,q⟩
 ·obtain⟨its,r',pl,hz⟩:=I.tuple hq
  have hlen:=r'.length
  exact len_tuple pl (by simp only[List.size_toArray]<;>omega) ⟨.int ys.length,H,I.tok _,⟨s.toks+1,by rw[List.size_toArray,hlen]⟩,q⟩
theorem K4:rP X (.type "list") (fun xs H Q=>∃p ys,xs=[.ref p]/\(SqL X.K H p ys\/SqT X.K H p ys)/\∀l,H l=none->Q (.ref l) (upd H l (.lst ys))):=by
 intro pins s σ H xs us Q I r h
 obtain⟨p,ys,rfl,hq,q⟩:=h
 obtain⟨u,rfl,rx⟩:=vals1 r
 cases rx
 have fin:∀(its:List Value),Vals ys its->ys.length<=sizeLine->∀(h':Heap) (c':Nat),(∀b o',s.heap.get? b=some o'->h'.get? b=some o')->
  h'.get? s.heap.objs.size=some {cls:= .type "list",dict:=none,data:= .seq its.toArray c',slots:= #[]}->EP X pins σ Q (.ref s.heap.objs.size) {s with heap:=h'}:=fun its r' hz h' c' kp e=>
  ⟨.ref s.heap.objs.size,_,I.laid (t':=s.toks) kp (Nat.le_refl _) (show fJ X.prog X.w _ h' _ (.lst ys) from⟨hz,its,c',r',e⟩),rfl,q _ (I.hok.fresh (Nat.le_refl _))⟩
 rcases hq with hq | hq
 ·obtain⟨its,r',pl,hz⟩:=I.list hq
  have hlen:=r'.length
  obtain⟨o,ho,hc,n,hd⟩:=pl.isList
  exact call_list_seq p (.inl rfl) ho hc hd (fun h' c' kp e=>fin its r' hz h' c' kp e) (by simp only[List.size_toArray]<;>omega)
 ·obtain⟨its,r',pl,hz⟩:=I.tuple hq
  have hlen:=r'.length
  obtain⟨o,ho,hc,n,hd⟩:=pl
  exact call_list_seq p (.inr rfl) ho hc hd (fun h' c' kp e=>fin its r' hz h' c' kp e) (by simp only[List.size_toArray]<;>omega)
theorem JP:rP X (.type "tuple") (fun xs H Q=>∃p ys,xs=[.ref p]/\((SqL X.K H p ys/\∀l,H l=none->Q (.ref l) (upd H l (.tup ys)))\/(SqT X.K H p ys/\Q (.ref p) H))):=by
 intro pins s σ H xs us Q I r h
 obtain⟨p,ys,rfl,h⟩:=h
 obtain⟨u,rfl,rx⟩:=vals1 r
 cases rx
 rcases h with⟨hq,q⟩ | ⟨hq,q⟩
 ·obtain⟨its,r',pl,hz⟩:=I.list hq
  have hlen:=r'.length
  refine call_tuple_list pl.isList (fun h' kp=> ?_) (by simp only[List.size_toArray]<;>omega)
  have I1:Inv X pins σ H {s with heap:=h'}:=I.kept (t':=s.toks) kp
  have I2:Inv X pins σ (upd H h'.objs.size (.tup ys)) {s with heap:=h'.push {cls:= .type "tuple",data:= .seq its.toArray}}:=
   I1.laid (t':=s.toks) (fun b o e=>Heap.get?_push_of_some _ e) (Nat.le_refl _) (show fJ X.prog X.w _ _ _ (.tup ys) from⟨hz,its,r',IsTup.new _ _⟩)
  exact⟨.ref h'.objs.size,_,I2,rfl,q _ (I1.hok.fresh (Nat.le_refl _))⟩
 ·obtain⟨its,r',pl,hz⟩:=I.tuple hq
  exact call_tuple_same pl ⟨.ref p,H,I,rfl,q⟩
def tyV (K:PySem.W.Frag) (T:String) (x:V) (H:Hp):Prop:=match x with
 | .str _=>T="str"
 | .int _=>T="int"
 | .ref p=>(T="list"/\∃xs,SqL K H p xs)\/(T="tuple"/\∃o,K.lookup p=some o/\o.cls= .type "tuple"/\o.dict=none)\/
     (T="dict"/\((∃kvs,H p=some (.dK kvs))\/∃kvs,H p=some (.dT kvs)))\/(T="set"/\∃S n,H p=some (.set S n))
 | _=>False
theorem Ux {pins:List (Addr×Obj)}{σ:St}{H:Hp}{s:Shared}{T:String}{x:V}{v:Value} (I:Inv X pins σ H s) (r:RelV x v) (ty:tyV X.K T x H):
 s.TypeIs v T/\∀a,v= .ref a->∃ob,s.heap.get? a=some ob/\ob.dict=none:=by
 cases x with
 | str z=>
   obtain⟨t,rfl⟩:=r
   cases(show T="str" from ty)
   exact⟨typeIs_str s z t,fun _ e=>nomatch e⟩
 | int i=>
   obtain⟨t,rfl⟩:=r
   cases(show T="int" from ty)
   exact⟨typeIs_int s i t,fun _ e=>nomatch e⟩
 | ref p=>
   cases r
   rcases ty with⟨rfl,xs,hq⟩ | ⟨rfl,o,hk,hc,hd⟩ | ⟨rfl,hk⟩ | ⟨rfl,S,n,hk⟩
   ·obtain⟨its,_,pl,_⟩:=I.list hq
    refine⟨pl.isList.typeIs,fun a e=> ?_⟩
    cases e
    obtain⟨o,n,e,c,hd,_⟩:=pl
    exact⟨o,e,hd⟩
   ·refine⟨⟨o,I.kIn p o hk,hc⟩,fun a e=> ?_⟩
    cases e
    exact⟨o,I.kIn _ o hk,hd⟩
   ·have z:∃o,s.heap.get? p=some o/\o.ExactDict:=by
     rcases hk with⟨kvs,hk⟩ | ⟨kvs,hk⟩
     ·obtain⟨_,_,_,_,o,_,_,e,ex,_⟩:=I.hok p _ hk
      exact⟨o,e,ex⟩
     ·obtain⟨_,_,_,_,o,_,_,e,ex,_⟩:=I.hok p _ hk
      exact⟨o,e,ex⟩
    obtain⟨o,e,ex⟩:=z
    refine⟨⟨o,e,ex.1⟩,fun a e2=> ?_⟩
    cases e2
    exact⟨o,e,ex.2.1⟩
   ·obtain⟨o,_,_,_,e,ex,_⟩:=I.hok p _ hk
    refine⟨⟨o,e,ex.1⟩,fun a e2=> ?_⟩
    cases e2
    exact⟨o,e,ex.2.1⟩
 | _=>exact False.elim ty
def aew (K:PySem.W.Frag) (T:String) (r:V->List V->Hp->VK->Prop) (to:TE):TE:=fun σ H Q=>to σ H fun x H1=>tyV K T x H1/\r x [] H1 Q
def tBM (K:PySem.W.Frag) (T:String) (r:V->List V->Hp->VK->Prop) (to:TE) (t:TA):TE:=fun σ H Q=>to σ H fun x H1=>tyV K T x H1/\t σ H1 fun xs H2=>r x xs H2 Q
variable {o e:Expr}{es:List Expr}{to:TE}{t:TA}{name:Str}{apos cpos:Pos}{T id:String}{r:V->List V->Hp->VK->Prop}
theorem abm (pa:PlainAttrs T) (slot:Slot T name id) (hty:typeOf (.builtin id)=pure (.type "method_descriptor")) (hm:MtR X id r) (ho:PE X o to)
 (hbase:attributeBase o name X.env (eval o X.env)=eval o X.env:=by rfl) (hline:(apos.endLine==cpos.line)=true:=by rfl):PE X (.Call (.Attribute o name apos) [] [] cpos) (aew X.K T r to):=by
 intro pins s σ H Q I h
 refine wpAny_Call_method0_late hbase hline (thn (ho pins s σ H _ I h) fun v s1 ⟨x,H1,I1,r1,ty,q1⟩=> ?_)
 obtain⟨h1,h2⟩:=Ux I1 r1 ty
 exact⟨T,id,pa,slot,hty,h1,h2,Calls.callWith_builtin rfl (PySem.evalArgs_none (hm pins s1 σ H1 x [] v [] Q I1 r1 .nil q1))⟩
theorem aex (pa:PlainAttrs T) (slot:Slot T name id) (hty:typeOf (.builtin id)=pure (.type "method_descriptor")) (hm:MtR X id r) (ho:PE X o to) (ha:PA X (e::es) t)
 (hbase:attributeBase o name X.env (eval o X.env)=eval o X.env:=by rfl)
 (hfew:((backTo cpos (starEach (e::es) X.env)).all (fun x=> !x.1)&&(backToKw cpos (keywordEach [] X.env)).all (fun x=>x.1.isSome)
   &&decide ((e::es).length+([]:List Keyword).length+(if([]:List Keyword).isEmpty then 0 else 1)<30))=true:=by rfl)
 (hline:(apos.endLine==cpos.line)=true:=by rfl) (hs:starEach (e::es) X.env=(false,eval e X.env)::starEach es X.env:=by rfl) (hplain:(backTo cpos (starEach es X.env)).any (·.1)=false:=by rfl):
 PE X (.Call (.Attribute o name apos) (e::es) [] cpos) (tBM X.K T r to t):=by
 intro pins s σ H Q I h
 refine wpAny_Call_method_late hbase hfew hline rfl (thn (ho pins s σ H _ I h) fun v s1 ⟨x,H1,I1,r1,ty,q1⟩=> ?_)
 obtain⟨h1,h2⟩:=Ux I1 r1 ty
 refine⟨T,id,pa,slot,hty,h1,h2, ?_⟩
 have hA:=ha cpos pins s1 σ H1 _ I1 q1
 rw[hs] at hA ⊢
 refine Calls.callWith_builtin (by show(false||(backTo cpos (starEach es X.env)).any (·.1))=false;rw[hplain]<;>rfl) (Calls.evalArgs_plain ?_)
 exact thn hA fun us s2 ⟨vs,H2,I2,r2,q2⟩=>hm pins s2 σ H2 x vs v us Q I2 r1 r2 q2
/- xs.append(e),list.index on a module's tuple .. are MtR facts of 06m -/
end
end L2
namespace L2
open PySem PySem.Spec PyProof.Rows
def MtM (X:Cx) (id:String) (r:V->List V->Hp->VK->Prop):Prop:=
 ∀(pins:List (Addr×Obj)) (s:Shared) (σ:St) (H:Hp) (x:V) (xs:List V) (v:Value) (us:List Value) (Q:VK),Inv X pins σ H s->RelV x v->Vals xs us->r x xs H Q->
  wpAny (model X.prog X.w) X.A (call (.builtin id) (v::us)) (EP X pins σ Q) X.xe s
theorem Vals.one:∀{x:V}{us:List Value},Vals [x] us->∃u,us=[u]/\RelV x u
 | _,_, .cons r .nil=>⟨_,rfl,r⟩
theorem Vals.two:∀{x y:V}{us:List Value},Vals [x,y] us->∃u v,us=[u,v]/\RelV x u/\RelV y v
 | _,_,_, .cons r (.cons q .nil)=>⟨_,_,rfl,r,q⟩
theorem Vals.zero:∀{us:List Value},Vals [] us->us=[]
 | _, .nil=>rfl
theorem Vals.dropLast {xs:List V}{us:List Value} (h:Vals xs us):Vals xs.dropLast us.dropLast:=by
 induction h with
 | nil=>exact .nil
 | cons r t ih=>
   cases t with
   | nil=>exact .nil
   | cons q t'=>exact .cons r ih
theorem Pr {α:Type} (l:List α):l.eraseIdx (l.length - 1)=l.dropLast:=by
 induction l with
 | nil=>rfl
 | cons a r ih=>
   cases r with
   | nil=>rfl
   | cons b r=>
     have e:(a::b::r).length - 1=((b::r).length - 1)+1:=by
      have h1:(a::b::r).length=r.length+2:=rfl
      have h2:(b::r).length=r.length+1:=rfl
      omega
     rw[e,List.eraseIdx_cons_succ,ih]
     all_goals rfl
section
variable {X:Cx}{pins:List (Addr×Obj)}{σ:St}{H:Hp}{s:Shared}{l b:Addr}{xs ys zs:List V}
theorem Inv.lset {its its':List Value}{n:Nat}{f:Array Value->Array Value}{t':Nat} (I:Inv X pins σ H s) (hH:H l=some (.lst xs))
 (e:s.heap.get? l=some {cls:= .type "list",data:= .seq its.toArray n}) (hf:f its.toArray=its'.toArray) (hv:Vals ys its') (hz:ys.length<=sizeLine):
 Inv X pins σ (upd H l (.lst ys)) {s with heap:=s.heap.update l (Obj.mapSeq f),toks:=t'}:=by
 have q:=PySem.IsL.update e f
 rw[hf] at q
 refine I.write (x:=l) (e:=l) (by rw[hH];exact trivial) (.inl rfl) (fun b' u hb hu=>(Heap.get?_update_other s.heap (Obj.mapSeq f) (Ne.symm hb)).trans hu) ⟨_,q⟩ ?_
 exact⟨hz,its',_,hv,q⟩
theorem Inv.lnew {its:List Value}{t':Nat} (I:Inv X pins σ H s) (hv:Vals ys its) (hz:ys.length<=sizeLine):
 Inv X pins σ (upd H s.heap.objs.size (.lst ys)) {s with heap:=s.heap.push {cls:= .type "list",data:= .seq its.toArray},toks:=t'}:=
 I.laid (fun _ _ q=>Heap.get?_push_of_some _ q) (Nat.le_refl _) ⟨hz,its,0,hv,Heap.get?_push_size _ rfl⟩
theorem Inv.fresh (I:Inv X pins σ H s):H s.heap.objs.size=none:=I.hok.fresh (Nat.le_refl _)
theorem Inv.SX (I:Inv X pins σ H s) (hH:H l=some (.lst xs)):xs.length<=sizeLine/\∃(its:List Value) (n:Nat),Vals xs its/\xs.length=its.length/\s.heap.get? l=some {cls:= .type "list",data:= .seq its.toArray n}:=by
 obtain⟨z,its,n,r,e⟩:=I.hok l _ hH
 exact⟨z,its,n,r,r.length,e⟩
theorem Uy {n:Nat} (h:n<=sizeLine):Builtin.List.listTooLong n=false:=by
 unfold Builtin.List.listTooLong
 exact decide_eq_false (by omega)
end
section
variable {X:Cx}
def Q9:V->List V->Hp->VK->Prop:=fun x vs H Q=>∃l xs y,x= .ref l/\vs=[y]/\H l=some (.lst xs)/\xs.length<sizeLine/\Q .non (upd H l (.lst (xs++[y])))
theorem Kg:MtM X "list.append" Q9:=by
 intro pins s σ H x vs v us Q I rx rv h
 obtain⟨l,xs,y,rfl,rfl,hH,hz,q⟩:=h
 cases rx
 obtain⟨u,rfl,ru⟩:=rv.one
 obtain⟨z,its,n,r,hl,e⟩:=I.SX hH
 refine call_meets F.slot_list_append ⟨_,e,rfl⟩ F.entry_list_append (F.args_list_append_2 _ _) (PySem.list_append l its.toArray n u (by rw[List.size_toArray];omega)) ⟨e, ?_⟩
 refine⟨.non,_,I.lset (its':=its++[u]) hH e (by simp) (r.append (.cons ru .nil)) ?_,rfl,q⟩
 rw[List.length_append,List.length_singleton]
 omega
def Ra:V->List V->Hp->VK->Prop:=fun x vs H Q=>∃l b xs zs,x= .ref l/\vs=[.ref b]/\H l=some (.lst xs)/\H b=some (.lst zs)/\xs.length+zs.length<=sizeLine/\Q .non (upd H l (.lst (xs++zs)))
theorem Tc:MtM X "list.extend" Ra:=by
 intro pins s σ H x vs v us Q I rx rv h
 obtain⟨l,b,xs,zs,rfl,rfl,hH,hB,hz,q⟩:=h
 cases rx
 obtain⟨u,rfl,ru⟩:=rv.one
 cases ru
 obtain⟨z,its,n,r,hl,e⟩:=I.SX hH
 obtain⟨z2,its2,n2,r2,hl2,e2⟩:=I.SX hB
 have hsz:its.toArray.size+its2.toArray.size<=sizeLine:=by rw[List.size_toArray,List.size_toArray];omega
 have hlong:¬(!its.toArray.isEmpty&&Builtin.List.listTooLong (its.toArray.size+its2.toArray.size))=true:=by
  rw[Uy hsz,Bool.and_false]
  exact Bool.false_ne_true
 refine call_meets F.slot_list_extend ⟨_,e,rfl⟩ F.entry_list_extend (F.args_list_extend_2 _ _)
  (AutoSeq1.list_extend_list_list_0 l its.toArray n b its2.toArray n2 hlong (by rw[List.size_toArray];omega) (by omega)) ⟨e,e2, ?_⟩
 refine⟨.non,_,I.lset (its':=its++its2) hH e (by simp) (r.append r2) ?_,rfl,q⟩
 rw[List.length_append]
 omega
def aey:V->List V->Hp->VK->Prop:=fun x vs H Q=>∃l xs y,x= .ref l/\vs=[]/\H l=some (.lst xs)/\xs[xs.length - 1]? =some y/\Q y (upd H l (.lst xs.dropLast))
theorem abn:MtM X "list.pop" aey:=by
 intro pins s σ H x vs v us Q I rx rv h
 obtain⟨l,xs,y,rfl,rfl,hH,hy,q⟩:=h
 cases rx
 have hus:=rv.zero
 subst hus
 obtain⟨z,its,n,r,hl,e⟩:=I.SX hH
 obtain⟨u,hu,ru⟩:=r.get hy
 have hy':its.toArray[its.toArray.size - 1]? =some u:=by
  show its.toArray[its.length - 1]? =some u
  rw[<-Array.getElem?_toList,<-hl]
  exact hu
 refine call_meets F.slot_list_pop ⟨_,e,rfl⟩ F.entry_list_pop (F.args_list_pop_1 _) (MeetsSeq.list_pop_last l its.toArray n u hy' (by rw[List.size_toArray];omega)) ⟨e, ?_⟩
 refine⟨y,_,I.lset (its':=its.dropLast) hH e ?_ r.dropLast ?_,ru,q⟩
 ·show its.toArray.eraseIdxIfInBounds (its.toArray.size - 1)=its.dropLast.toArray
  rw[List.size_toArray,List.eraseIdxIfInBounds_toArray,Pr]
 ·rw[List.length_dropLast]
  omega
def aez:R2:=fun x y H Q=>∃l b xs zs,x= .ref l/\y= .ref b/\H l=some (.lst xs)/\H b=some (.lst zs)/\xs.length+zs.length<=sizeLine/\∀p,H p=none->Q (.ref p) (upd H p (.lst (xs++zs)))
theorem abo:OpR X (binaryOp .Add) aez:=by
 intro pins s σ H x y v u Q I rx ry h
 obtain⟨l,b,xs,zs,rfl,rfl,hH,hB,hz,q⟩:=h
 cases rx
 cases ry
 obtain⟨z,its,n,r,hl,e⟩:=I.SX hH
 obtain⟨z2,its2,n2,r2,hl2,e2⟩:=I.SX hB
 refine PySem.P.add_list e e2 ?_ (by rw[List.size_toArray,List.size_toArray];omega)
 have ea:its.toArray++its2.toArray=(its++its2).toArray:=by simp
 rw[ea]
 exact⟨.ref _,_,I.lnew (t':=s.toks) (r.append r2) (by rw[List.length_append];omega),rfl,q _ I.fresh⟩
theorem len_rep {α:Type} (xs:List α) (k:Nat):(List.replicate k xs).flatten.length=k * xs.length:=by
 induction k with
 | zero=>simp
 | succ k ih=>rw[List.replicate_succ,List.flatten_cons,List.length_append,ih,Nat.succ_mul,Nat.add_comm]
end
section
variable {prog:Program}{w:World}{A:Around}{E:Value->Shared->Prop}{s:Shared}
end
section
variable {X:Cx}
end
end L2
namespace L2
open PySem PySem.Spec PyProof.Rows
section
variable {κ:Type} [DecidableEq κ]
def dI (kvs:List (κ×V)) (k:κ):Option V:=(kvs.find? fun kv=>decide (kv.1=k)).map (·.2)
def putK (kvs:List (κ×V)) (k:κ) (v:V):List (κ×V):=
 if(kvs.any fun kv=>decide (kv.1=k))=true then kvs.map (fun kv=>if kv.1=k then(kv.1,v) else kv) else kvs++[(k,v)]
def jJ (kvs:List (κ×V)) (k:κ):List (κ×V):=kvs.filter fun kv=>decide (kv.1≠k)
theorem yj {k:κ}:dI ([]:List (κ×V)) k=none:=rfl
theorem jw {p:κ×V}{r:List (κ×V)}{k:κ} (e:p.1=k):dI (p::r) k=some p.2:=by simp[dI,List.find?_cons,e]
theorem iT {p:κ×V}{r:List (κ×V)}{k:κ} (e:¬p.1=k):dI (p::r) k=dI r k:=by simp[dI,List.find?_cons,e]
theorem yl (k:κ):∀kvs:List (κ×V),(kvs.any fun kv=>decide (kv.1=k))=(dI kvs k).isSome
 |[]=>rfl
 | p::r=>by
   rw[List.any_cons]
   by_cases e:p.1=k
   ·simp only[jw e,decide_eq_true e,Bool.true_or,Option.isSome_some]
   ·rw[iT e,decide_eq_false e,Bool.false_or];exact yl k r
theorem M3 (k j:κ) (y:V):∀kvs:List (κ×V),dI (kvs.map fun kv=>if kv.1=k then(kv.1,y) else kv) j=(dI kvs j).map fun x=>if j=k then y else x
 |[]=>rfl
 | p::r=>by
   have ih:=M3 k j y r
   rw[List.map_cons]
   by_cases h:p.1=k
   ·rw[if_pos h]
    by_cases e:p.1=j
    ·rw[jw (p:=(p.1,y)) e,jw e,Option.map_some,if_pos (e.symm.trans h)]
    ·rw[iT (p:=(p.1,y)) e,iT e,ih]
   ·rw[if_neg h]
    by_cases e:p.1=j
    ·rw[jw (p:=p) e,jw e,Option.map_some,if_neg (fun z=>h (e.trans z))]
    ·rw[iT (p:=p) e,iT e,ih]
theorem Kh (k j:κ) (y:V):∀kvs:List (κ×V),dI kvs k=none->dI (kvs++[(k,y)]) j=if j=k then some y else dI kvs j
 |[],_=>by
  by_cases e:k=j
  ·rw[if_pos e.symm];exact jw (p:=(k,y)) e
  ·rw[if_neg (fun z=>e z.symm)];exact iT (p:=(k,y)) e
 | p::r,hn=>by
   rw[List.cons_append]
   have hk:¬p.1=k:=fun z=>by rw[jw z] at hn;cases hn
   rw[iT hk] at hn
   have ih:=Kh k j y r hn
   by_cases e:p.1=j
   ·rw[jw e,jw e,if_neg (fun z=>hk (e.trans z))]
   ·rw[iT e,iT e,ih]
theorem iC (kvs:List (κ×V)) (k j:κ) (y:V):dI (putK kvs k y) j=if j=k then some y else dI kvs j:=by
 unfold putK
 by_cases a:(kvs.any fun kv=>decide (kv.1=k))=true
 ·rw[if_pos a,M3]
  rw[yl] at a
  by_cases e:j=k
  ·obtain⟨x,hx⟩:=Option.isSome_iff_exists.mp a
   rw[if_pos e,e,hx,Option.map_some,if_pos rfl]
  ·rw[if_neg e]
   cases dI kvs j with
   | none=>rfl
   | some x=>rw[Option.map_some,if_neg e]
 ·rw[if_neg a]
  refine Kh k j y kvs ?_
  rw[yl] at a
  cases q:dI kvs k with
  | none=>rfl
  | some x=>rw[q] at a;exact(a rfl).elim
theorem ym (kvs:List (κ×V)) (k:κ) (v:V):(putK kvs k v).length<=kvs.length+1:=by
 unfold putK
 split
 ·rw[List.length_map];omega
 ·rw[List.length_append,List.length_cons,List.length_nil];omega
theorem uZ.u5 {o:Option V}{u:Option Value} (r:uZ o u):o.isSome=u.isSome:=by
 cases o with
 | none=>cases u with
   | none=>rfl
   | some _=>exact(show False from r).elim
 | some _=>cases u with
   | none=>exact(show False from r).elim
   | some _=>rfl
theorem uZ.getD {o:Option V}{u:Option Value}{d:V}{d':Value} (r:uZ o u) (rd:RelV d d'):RelV (o.getD d) (u.getD d'):=by
 cases o with
 | none=>cases u with
   | none=>exact rd
   | some _=>exact(show False from r).elim
 | some _=>cases u with
   | none=>exact(show False from r).elim
   | some _=>exact r
theorem KV.val {kvs:List (κ×V)}{vs:List (κ×Value)} (r:KV kvs vs) (k:κ):uZ (dI kvs k) (valueAt vs k):=by
 unfold KV at r
 induction r with
 | nil=>exact True.intro
 | @cons p q ps qs h t ih=>
   obtain⟨h1,h2⟩:=h
   by_cases e:p.1=k
   ·have e':q.1=k:=h1.symm.trans e
    have b:valueAt (q::qs) k=some q.2:=by simp[valueAt,List.find?_cons,e']
    rw[jw e,b];exact h2
   ·have e':¬q.1=k:=fun z=>e (h1.trans z)
    have b:valueAt (q::qs) k=valueAt qs k:=by simp[valueAt,List.find?_cons,e']
    rw[iT e,b];exact ih
theorem KV.any {kvs:List (κ×V)}{vs:List (κ×Value)} (r:KV kvs vs) (k:κ):(kvs.any fun kv=>decide (kv.1=k))=vs.any fun kv=>decide (kv.1=k):=by
 unfold KV at r
 induction r with
 | nil=>rfl
 | cons h t ih=>rw[List.any_cons,List.any_cons,ih,h.1]
theorem KV.repl {kvs:List (κ×V)}{vs:List (κ×Value)} (r:KV kvs vs) (k:κ) {y:V}{u:Value} (ry:RelV y u):
 KV (kvs.map fun kv=>if kv.1=k then(kv.1,y) else kv) (vs.map fun kv=>if kv.1=k then(kv.1,u) else kv):=by
 unfold KV at r ⊢
 induction r with
 | nil=>exact .nil
 | @cons p q ps qs h t ih=>
   rw[List.map_cons,List.map_cons]
   refine .cons ?_ ih
   obtain⟨h1,h2⟩:=h
   by_cases e:p.1=k
   ·rw[if_pos e,if_pos (h1.symm.trans e)];exact⟨h1,ry⟩
   ·rw[if_neg e,if_neg (fun z=>e (h1.trans z))];exact⟨h1,h2⟩
theorem KV.put {kvs:List (κ×V)}{vs:List (κ×Value)} (r:KV kvs vs) (k:κ) {y:V}{u:Value} (ry:RelV y u):KV (putK kvs k y) (stored vs k u):=by
 unfold putK stored
 rw[r.any k]
 by_cases e:(vs.any fun kv=>decide (kv.1=k))=true
 ·rw[if_pos e,if_pos e];exact r.repl k ry
 ·rw[if_neg e,if_neg e];exact Paired.snoc r ⟨rfl,ry⟩
theorem KV.drop {kvs:List (κ×V)}{vs:List (κ×Value)} (r:KV kvs vs) (k:κ):KV (jJ kvs k) (without vs k):=by
 unfold KV at r ⊢
 unfold jJ without
 induction r with
 | nil=>exact .nil
 | @cons p q ps qs h t ih=>
   obtain⟨h1,h2⟩:=h
   rw[List.filter_cons,List.filter_cons]
   by_cases e:p.1=k
   ·have a:¬decide (p.1≠k)=true:=by simp[e]
    have b:¬decide (q.1≠k)=true:=by simp[h1.symm.trans e]
    rw[if_neg a,if_neg b];exact ih
   ·have e':¬q.1=k:=fun z=>e (h1.trans z)
    have a:decide (p.1≠k)=true:=by simp[e]
    have b:decide (q.1≠k)=true:=by simp[e']
    rw[if_pos a,if_pos b];exact .cons ⟨h1,h2⟩ ih
theorem KV.length {kvs:List (κ×V)}{vs:List (κ×Value)} (r:KV kvs vs):kvs.length=vs.length:=Paired.length r
theorem Uz (kvs:List (κ×V)) (k:κ):(jJ kvs k).length<=kvs.length:=List.length_filter_le _ _
end
theorem Gz {P:Program}{w:World}{k:Key}{u:Value} (r:RelV (kV k) u):(eN P w).is k u=true:=by
 cases k with
 | inl i=>obtain⟨t,e⟩:=(show∃t,u=Value.int i t from r);subst e;exact Mw P w i t
 | inr x=>obtain⟨t,e⟩:=(show∃t,u=Value.str x t from r);subst e;exact Mx P w x t
theorem Kl {P:Program}{w:World}:∀{ks:List Key}{us:List Value},Vals (ks.map kV) us->ItemsAre (eN P w) ks us
 |[],_,r=>by rw[List.map_nil] at r;cases r;exact .nil
 | k::ks,_,r=>by
   rw[List.map_cons] at r
   cases r with
   | cons h t=>exact .cons (Gz h) (Kl t)
abbrev KT (H:Hp):List (List Key×V)->List (List Key×Addr×Value)->Prop:=Paired fun p q=>p.1=q.1/\H q.2.1=some (.tup (p.1.map kV))/\RelV p.2 q.2.2
theorem KT.val {H:Hp}{kvs:List (List Key×V)}{xs:List (List Key×Addr×Value)} (r:KT H kvs xs) (k:List Key):uZ (dI kvs k) ((atKey xs k).map (·.2)):=by
 induction r with
 | nil=>exact True.intro
 | @cons p q ps qs h t ih=>
   obtain⟨h1,_,h2⟩:=h
   by_cases e:p.1=k
   ·have e':q.1=k:=h1.symm.trans e
    have b:atKey (q::qs) k=some q.2:=by simp[atKey,List.find?_cons,e']
    rw[jw e,b];exact h2
   ·have e':¬q.1=k:=fun z=>e (h1.trans z)
    have b:atKey (q::qs) k=atKey qs k:=by simp[atKey,List.find?_cons,e']
    rw[iT e,b];exact ih
theorem KT.repl {H:Hp}{kvs:List (List Key×V)}{xs:List (List Key×Addr×Value)} (r:KT H kvs xs) (k:List Key) {y:V}{u:Value} (ry:RelV y u):
 KT H (kvs.map fun kv=>if kv.1=k then(kv.1,y) else kv) (xs.map (putAt k u)):=by
 induction r with
 | nil=>exact .nil
 | @cons p q ps qs h t ih=>
   rw[List.map_cons,List.map_cons]
   refine .cons ?_ ih
   obtain⟨h1,h2,h3⟩:=h
   unfold putAt
   by_cases e:p.1=k
   ·rw[if_pos e,if_pos (h1.symm.trans e)];exact⟨h1,h2,ry⟩
   ·rw[if_neg e,if_neg (fun z=>e (h1.trans z))];exact⟨h1,h2,h3⟩
theorem KT.put {H:Hp}{kvs:List (List Key×V)}{xs:List (List Key×Addr×Value)} (r:KT H kvs xs) (k:List Key) {b:Addr}{y:V}{u:Value} (hb:H b=some (.tup (k.map kV))) (ry:RelV y u):
 KT H (putK kvs k y) (storedH xs k b u):=by
 have e:(kvs.any fun kv=>decide (kv.1=k))=(atKey xs k).isSome:=by
  rw[yl,(r.val k).u5,Option.isSome_map]
 unfold putK storedH
 rw[e]
 by_cases q:(atKey xs k).isSome=true
 ·rw[if_pos q,if_pos q];exact r.repl k ry
 ·rw[if_neg q,if_neg q];exact Paired.snoc r ⟨rfl,hb,ry⟩
theorem KT.keeps {H H':Hp}{kvs:List (List Key×V)}{xs:List (List Key×Addr×Value)} (r:KT H kvs xs) (ht:∀b ys,H b=some (.tup ys)->H' b=some (.tup ys)):KT H' kvs xs:=
 Paired.aaF r fun _ _ z=>⟨z.1,ht _ _ z.2.1,z.2.2⟩
section
variable {P:Program}{w:World}{H:Hp}{h:Heap}{a:Addr}
theorem ZS {u:HO} (ok:HOk P w H h) (e:Rd H a u):fJ P w H h a u:=e.ok ok
theorem u6 {kvs:List (Key×V)} (ok:HOk P w H h) (e:Rd H a (.dK kvs)):kvs.length<=sizeLine/\(a==sysModules)=false/\∃vs,KV kvs vs/\h.DictOf (eN P w) a vs:=
 show fJ P w H h a (.dK kvs) from ZS ok e
theorem Km {kvs:List (Key×V)} (ok:HOk P w H h) (e:H a=some (.dK kvs)):kvs.length<=sizeLine/\(a==sysModules)=false/\∃vs,KV kvs vs/\h.DictOf (eN P w) a vs:=u6 ok (.inl e)
theorem Fe {ks:List Key} (ok:HOk P w H h) (e:H a=some (.tup (ks.map kV))):(tupleKind (eN P w)).is h ks a:=by
 obtain⟨_,its,r,o,h1,h2,n,h3⟩:=(show fJ P w H h a (.tup (ks.map kV)) from ok a _ e)
 exact⟨o,its.toArray,n,h1,h2,h3,by simpa using Kl r⟩
theorem HD {kvs:List (List Key×V)} (ok:HOk P w H h) (e:Rd H a (.dT kvs)):kvs.length<=sizeLine/\(a==sysModules)=false/\
 ∃xs,KT H kvs xs/\h.DictOfH (tupleKind (eN P w)) a xs:=by
 obtain⟨z,y,xs,r,o,es,ep,h1,h2,h3,h4,h5⟩:=(show fJ P w H h a (.dT kvs) from ZS ok e)
 refine⟨z,y,xs,r,o,es,ep,h1,h2,h3,h4,fun x hx=> ?_,h5⟩
 have all:∀{l:List (List Key×V)}{m:List (List Key×Addr×Value)},KT H l m->∀x∈m,(tupleKind (eN P w)).is h x.1 x.2.1:=by
  intro l m q
  induction q with
  | nil=>intro x hx;exact nomatch hx
  | @cons p q ps qs hq t ih=>
    intro x hx
    rcases List.mem_cons.mp hx with e | hx
    ·subst e
     exact Fe ok (by rw[<-hq.1];exact hq.2.1)
    ·exact ih x hx
 exact all r x hx
theorem aeA {kvs:List (List Key×V)} (ok:HOk P w H h) (e:H a=some (.dT kvs)):kvs.length<=sizeLine/\(a==sysModules)=false/\
 ∃xs,KT H kvs xs/\h.DictOfH (tupleKind (eN P w)) a xs:=HD ok (.inl e)
end
def bT (H:Hp) (a:Addr) (y:V) (r:Option V):Prop:=
 (∃kvs k,Rd H a (.dK kvs)/\y=kV k/\r=dI kvs k)\/∃kvs k b,Rd H a (.dT kvs)/\y= .ref b/\H b=some (.tup (k.map kV))/\r=dI kvs k
def jn (H:Hp) (a:Addr) (y v:V) (H':Hp):Prop:=
 (∃kvs k,H a=some (.dK kvs)/\y=kV k/\kvs.length<sizeLine/\H'=upd H a (.dK (putK kvs k v)))\/
 ∃kvs k b,H a=some (.dT kvs)/\y= .ref b/\H b=some (.tup (k.map kV))/\kvs.length<sizeLine/\H'=upd H a (.dT (putK kvs k v))
theorem bT.k {H:Hp}{a:Addr}{kvs:List (Key×V)}{k:Key} (e:H a=some (.dK kvs)):bT H a (kV k) (dI kvs k):= .inl ⟨kvs,k, .inl e,rfl,rfl⟩
theorem jn.k {H:Hp}{a:Addr}{kvs:List (Key×V)}{k:Key}{v:V} (e:H a=some (.dK kvs)) (hl:kvs.length<sizeLine):jn H a (kV k) v (upd H a (.dK (putK kvs k v))):= .inl ⟨kvs,k,e,rfl,hl,rfl⟩
section
variable {X:Cx}{pins:List (Addr×Obj)}{σ:St}{H:Hp}{s:Shared}{a:Addr}{y v:V}{u r:Value}{o:Option V}{A:Around}{E:Value->Shared->Prop}
theorem Inv.big (I:Inv X pins σ H s):sysModules<s.heap.objs.size:=by
 have h:mainGlobals<s.heap.objs.size:=(I.mod.glob.keeps I.bk).lt
 exact Nat.lt_trans (by decide) h
theorem Td {Q:Value->Shared->Prop} (hu:A.units+1<cLine) (I:Inv X pins σ H s) (g:bT H a y (some v)) (ry:RelV y u) (h:∀w' s',Inv X pins σ H s'->RelV v w'->Q w' s'):
 wpAny (model X.prog X.w) A (getItem (.ref a) u) Q E s:=by
 rcases g with⟨kvs,k,e,ey,l⟩ | ⟨kvs,k,b,e,ey,eb,l⟩
 ·subst ey
  obtain⟨z,hd,vs,rel,dd⟩:=u6 I.hok e
  obtain⟨w',hw,rw'⟩:=uZ.some_of (v:=v) (o:=valueAt vs k) (by rw[l];exact rel.val k)
  exact wpAny_getItem_of (Gz ry) dd.mapOf hw (h w' _ (I.tok _) rw')
 ·subst ey
  cases(show u=Value.ref b from ry)
  obtain⟨z,hd,xs,rel,dd⟩:=HD I.hok e
  obtain⟨w',hw,rw'⟩:=uZ.some_of (v:=v) (o:=(atKey xs k).map (·.2)) (by rw[l];exact rel.val k)
  obtain⟨p,hp,hp2⟩:=Option.map_eq_some_iff.mp hw
  refine wpAny_getItem_heap (tupleKind_room_in1 hu) (Fe I.hok eb) dd hp ?_
  rw[hp2]
  exact h w' _ (I.tok _) rw'
theorem ah4 {Q:Value->Shared->Prop} (hu:A.units+1<cLine) (I:Inv X pins σ H s) (g:bT H a y o) (ry:RelV y u) (h:∀s',Inv X pins σ H s'->Q (.bool o.isSome) s'):
 wpAny (model X.prog X.w) A (compareOp .In u (.ref a)) Q E s:=by
 rcases g with⟨kvs,k,e,ey,l⟩ | ⟨kvs,k,b,e,ey,eb,l⟩
 ·subst ey
  obtain⟨z,hd,vs,rel,dd⟩:=u6 I.hok e
  refine wpAny_in_of (Gz ry) hd dd.mapOf ?_
  rw[<-(rel.val k).u5,<-l]
  exact h _ (I.tok _)
 ·subst ey
  cases(show u=Value.ref b from ry)
  obtain⟨z,hd,xs,rel,dd⟩:=HD I.hok e
  refine wpAny_in_heap (tupleKind_room_in1 hu) (Fe I.hok eb) hd dd ?_
  have q:=(rel.val k).u5
  rw[Option.isSome_map] at q
  rw[<-q,<-l]
  exact h _ (I.tok _)
theorem Xq {Q:Value->Shared->Prop} (hu:A.units+1<cLine) (I:Inv X pins σ H s) (g:bT H a y o) (ry:RelV y u) (h:∀s',Inv X pins σ H s'->Q (.bool (!o.isSome)) s'):
 wpAny (model X.prog X.w) A (compareOp .NotIn u (.ref a)) Q E s:=by
 rcases g with⟨kvs,k,e,ey,l⟩ | ⟨kvs,k,b,e,ey,eb,l⟩
 ·subst ey
  obtain⟨z,hd,vs,rel,dd⟩:=u6 I.hok e
  refine wpAny_notIn_of (Gz ry) hd dd.mapOf ?_
  rw[<-(rel.val k).u5,<-l]
  exact h _ (I.tok _)
 ·subst ey
  cases(show u=Value.ref b from ry)
  obtain⟨z,hd,xs,rel,dd⟩:=HD I.hok e
  refine wpAny_notIn_heap (tupleKind_room_in1 hu) (Fe I.hok eb) hd dd ?_
  have q:=(rel.val k).u5
  rw[Option.isSome_map] at q
  rw[<-q,<-l]
  exact h _ (I.tok _)
theorem CQ {h':Heap}{t':Nat}{ob:HO} (I:Inv X pins σ H s) (mu:Mut (H a)) (hs:Heap.SameBut a s.heap h') (he:∃q,h'.get? a=some q) (new:fJ X.prog X.w (upd H a ob) h' a ob):
 Inv X pins σ (upd H a ob) {s with heap:=h',toks:=t'}:=
 I.write (x:=a) (e:=a) mu (.inl rfl) (fun b q hb z=>(hs.2 b hb).trans z) he new
theorem K5 {P:Program}{w:World}{H':Hp}{h':Heap}{kvs:List (Key×V)}{vs:List (Key×Value)} (z:kvs.length<=sizeLine) (hd:(a==sysModules)=false) (rel:KV kvs vs) (dd:h'.DictOf (eN P w) a vs):
 fJ P w H' h' a (.dK kvs):=⟨z,hd,vs,rel,dd⟩
theorem Te {H':Hp}{Q:Unit->Shared->Prop} (hu:A.units+1<cLine) (I:Inv X pins σ H s) (g:jn H a y v H') (ry:RelV y u) (rv:RelV v r) (h:∀s',Inv X pins σ H' s'->Q () s'):
 wpAny (model X.prog X.w) A (setItem (.ref a) u r) Q E s:=by
 rcases g with⟨kvs,k,e,ey,l,eH⟩ | ⟨kvs,k,b,e,ey,eb,l,eH⟩
 ·subst ey eH
  obtain⟨z,hd,vs,rel,dd⟩:=Km I.hok e
  have hz:vs.length<=sizeLine:=by rw[<-rel.length];exact z
  have hl:(putK kvs k v).length<=sizeLine:=by have:=ym kvs k v;omega
  refine wpAny_setItem_pairs (hsz:=hz) (Gz ry) dd fun h' dd' hs=>h _ ?_
  have he:∃q,h'.get? a=some q:=let ⟨q,_,_,hq,_⟩:=dd';⟨q,hq⟩
  exact CQ I (by rw[e];exact True.intro) hs he (K5 hl hd (rel.put k rv) dd')
 ·subst ey eH
  cases(show u=Value.ref b from ry)
  obtain⟨z,hd,xs,rel,dd⟩:=aeA I.hok e
  have hz:xs.length<=sizeLine:=by rw[<-Paired.length rel];exact z
  have hl:(putK kvs k v).length<=sizeLine:=by have:=ym kvs k v;omega
  refine wpAny_setItem_heap (hsz:=hz) (tupleKind_room_in1 hu) (Fe I.hok eb) dd fun h' dd' hs=>h _ ?_
  obtain⟨q,es,ep,hq,h2,h3,h4,_,h5⟩:=dd'
  refine CQ I (by rw[e];exact True.intro) hs ⟨q,hq⟩ ⟨hl,hd,_,(rel.put k eb rv).keeps fun c ys ec=> ?_,q,es,ep,hq,h2,h3,h4,h5⟩
  rw[aq (ad4 ec e (fun z=>nomatch z))]
  exact ec
end
section
variable {X:Cx}{pins:List (Addr×Obj)}{σ:St}{H:Hp}{s:Shared}{a:Addr}{kvs:List (Key×V)}{k:Key}{u:Value}{A:Around}{E:Value->Shared->Prop}
theorem aeB {v:V}{more:List Value}{Q:Value->Shared->Prop} (I:Inv X pins σ H s) (e:H a=some (.dK kvs)) (ry:RelV (kV k) u) (l:dI kvs k=some v) (hm:more=[]\/∃x,more=[x])
 (h:∀w' s',Inv X pins σ (upd H a (.dK (jJ kvs k))) s'->RelV v w'->Q w' s'):wpAny (model X.prog X.w) A (call (.builtin "dict.pop") (.ref a::u::more)) Q E s:=by
 obtain⟨z,hd,vs,rel,dd⟩:=Km I.hok e
 obtain⟨w',hw,rw'⟩:=uZ.some_of (v:=v) (o:=valueAt vs k) (by rw[<-l];exact rel.val k)
 have hp:(keyPart u).isSome=true:=by
  cases k with
  | inl i=>obtain⟨t,q⟩:=(show∃t,u=Value.int i t from ry);subst q;rfl
  | inr x=>obtain⟨t,q⟩:=(show∃t,u=Value.str x t from ry);subst q;rfl
 have ha:argsOk "dict.pop" ⟨.ref a::u::more,[]⟩:=by
  rcases hm with q | ⟨x,q⟩
  ·subst q;exact PySem.F.args_dict_pop_2 _ _
  ·subst q;exact PySem.F.args_dict_pop_3 _ _ _
 refine call_meetsIn PySem.F.slot_dict_pop dd.typeIs PySem.F.entry_dict_pop ha (meets_dict_pop_there (eN X.prog X.w) a (Gz ry) more hm hp)
  ⟨vs,w',dd,by rw[<-rel.length];exact z,hw,fun h' dd' hs=>h w' _ ?_ rw'⟩
 have he:∃q,h'.get? a=some q:=let ⟨q,_,_,hq,_⟩:=dd';⟨q,hq⟩
 exact CQ I (by rw[e];exact True.intro) hs he (K5 (Nat.le_trans (Uz kvs k) z) hd (rel.drop k) dd')
theorem Rb {Q:Value->Shared->Prop} (I:Inv X pins σ H s) (e:H a=some (.dK kvs)) (h:∀s',Inv X pins σ (upd H a (.dK [])) s'->Q .none s'):wpAny (model X.prog X.w) A (call (.builtin "dict.clear") [.ref a]) Q E s:=by
 obtain⟨z,hd,vs,rel,dd⟩:=Km I.hok e
 refine call_meetsIn PySem.F.slot_dict_clear dd.typeIs PySem.F.entry_dict_clear (PySem.F.args_dict_clear_1 _) (meets_dict_clear (eN X.prog X.w) a) ⟨vs,dd,by rw[<-rel.length];exact z,fun h' dd' hs=>h _ ?_⟩
 have he:∃q,h'.get? a=some q:=let ⟨q,_,_,hq,_⟩:=dd';⟨q,hq⟩
 exact CQ (t':=s.toks) I (by rw[e];exact True.intro) hs he (K5 (Nat.zero_le _) hd .nil dd')
theorem aeC {Q:Value->Shared->Prop} (I:Inv X pins σ H s) (e:Rd H a (.dK kvs)) (h:∀t s',Inv X pins σ H s'->Q (.int kvs.length t) s'):wpAny (model X.prog X.w) A (call (.builtin "len") [.ref a]) Q E s:=by
 obtain⟨z,hd,vs,rel,dd⟩:=u6 I.hok e
 refine call_len_dict hd dd (by rw[<-rel.length];rw[sizeLine_eq] at z;omega) ?_
 rw[<-rel.length]
 exact h _ _ (I.tok _)
end
def abp (i:Expr):Prop:=∀ov iv,subscripted i false ov iv=operate [ov,iv] (getItem ov iv)
theorem Xr {prog:Program}{w:World}{A:Around}{E:Value->Shared->Prop}{s:Shared}{env:Env}{value slice:Expr}{pos:Pos}{T id:String}{Q:Value->Shared->Prop}
 (hl:typeLookup (.type T) "__getitem__"=pure (some (.builtin id))) (hs:abp slice)
 (h:wpAny (model prog w) A (eval value env) (fun o s₁=>wpAny (model prog w) A (eval slice env) (fun i s₂=>s₂.TypeIs o T/\wpAny (model prog w) A (getItem o i) Q E s₂) E s₁) E s):
 wpAny (model prog w) A (eval (.Subscript value slice pos) env) Q E s:=by
 refine Subscript_ (wpAny_mono h (fun o s₁ h₁=>wpAny_mono h₁ (fun i s₂ h₂=> ?_) fun _ _ x=>x) fun _ _ x=>x)
 obtain⟨hT,h₂⟩:=h₂
 unfold subscriptTail
 refine wpAny_bind ?_
 rw[getitemInPython_of_ne hT.not_modules]
 refine wpAny_bind (wpAny_specialOf hT hl ?_)
 have fin:wpAny (model prog w) A (subscripted slice false o i) (fun r s₃=>wpAny (model prog w) A (letTemporaryGo value o r>>=fun _=>pure r) Q E s₃) E s₂:=by
  rw[hs o i]
  exact wpAny_operating (wpAny_mono h₂ (fun r s₃ h₃=>wpAny_bind (wpAny_letTemporaryGo (wpAny_pure h₃))) fun _ _ x=>x)
 first
  | exact wpAny_pure (wpAny_bind fin)
  | exact wpAny_bind (wpAny_pure (wpAny_bind fin))
  | exact wpAny_bind fin
theorem M4 {X:Cx}{pins:List (Addr×Obj)}{σ:St}{H:Hp}{s:Shared}{a:Addr}{y:V}{o:Option V} (I:Inv X pins σ H s) (g:bT H a y o):s.TypeIs (.ref a) "dict":=by
 rcases g with⟨kvs,k,e,_,_⟩ | ⟨kvs,k,b,e,_,_,_⟩
 ·obtain⟨_,_,vs,_,dd⟩:=u6 I.hok e
  exact dd.typeIs
 ·obtain⟨_,_,xs,_,dd⟩:=HD I.hok e
  exact dd.typeIs
def ZV (td ty:TE):TE:=fun σ H Q=>td σ H fun x H1=>ty σ H1 fun y H2=>∃a v,x= .ref a/\bT H2 a y (some v)/\Q v H2
def aeD (ty td:TE):TE:=fun σ H Q=>ty σ H fun y H1=>td σ H1 fun x H2=>∃a o,x= .ref a/\bT H2 a y o/\Q (.bl o.isSome) H2
def Rc (ty td:TE):TE:=fun σ H Q=>ty σ H fun y H1=>td σ H1 fun x H2=>∃a o,x= .ref a/\bT H2 a y o/\Q (.bl (!o.isSome)) H2
def ZW (td ty tv:TE):TS:=fun D σ H=>tv σ H fun v H1=>td σ H1 fun x H2=>ty σ H2 fun y H3=>∃a H4,x= .ref a/\jn H3 a y v H4/\D.nx σ H4
section
variable {X:Cx}{o i e value:Expr}{pos pos' tpos:Pos}{td ty tv:TE}
theorem Xu (hu:X.A.units+1<cLine) (ho:PE X o td) (hi:PE X i ty) (hs:abp i):PE X (.Subscript o i pos) (ZV td ty):=by
 intro pins s σ H Q I h
 refine Xr PySem.F.slot_dict_getitem.lookup hs (thn (ho pins s σ H _ I h) fun u s1 ⟨x,H1,I1,rx,q1⟩=>thn (hi pins s1 σ H1 _ I1 q1) fun iv s2 ⟨y,H2,I2,ry,a,v,ex,g,q2⟩=> ?_)
 subst ex
 obtain rfl:u=Value.ref a:=rx
 exact⟨M4 I2 g,Td hu I2 g ry fun w' s3 I3 rw'=>⟨v,H2,I3,rw',q2⟩⟩
theorem abq (hu:X.A.units+1<cLine) (hi:PE X i ty) (ho:PE X o td):PC X .In i o (aeD ty td):=by
 intro pins s σ H Q I h
 refine thn (hi pins s σ H _ I h) fun iv s1 ⟨y,H1,I1,ry,q1⟩=>thn (ho pins s1 σ H1 _ I1 q1) fun u s2 ⟨x,H2,I2,rx,a,ov,ex,g,q2⟩=> ?_
 subst ex
 obtain rfl:u=Value.ref a:=rx
 exact ah4 hu I2 g ry fun s3 I3=>⟨.bl ov.isSome,H2,I3,rfl,q2⟩
theorem Tf (hu:X.A.units+1<cLine) (hi:PE X i ty) (ho:PE X o td):PC X .NotIn i o (Rc ty td):=by
 intro pins s σ H Q I h
 refine thn (hi pins s σ H _ I h) fun iv s1 ⟨y,H1,I1,ry,q1⟩=>thn (ho pins s1 σ H1 _ I1 q1) fun u s2 ⟨x,H2,I2,rx,a,ov,ex,g,q2⟩=> ?_
 subst ex
 obtain rfl:u=Value.ref a:=rx
 exact Xq hu I2 g ry fun s3 I3=>⟨.bl (!ov.isSome),H2,I3,rfl,q2⟩
theorem Xv (hu:X.A.units+1<cLine) (ho:PE X o td) (hi:PE X i ty) (hv:PE X value tv) (hs:swapsWith value (some (.Subscript o i pos')) pos.line X.env=pure false):
 PS X (.Assign [.Subscript o i pos'] value pos) (ZW td ty tv):=by
 intro pins s σ H D I h
 refine wpAny_Assign_Subscript (thn (hv pins s σ H _ I h) fun r s1 ⟨v,H1,I1,rv,q1⟩=>thn (ho pins s1 σ H1 _ I1 q1) fun u s2 ⟨x,H2,I2,rx,q2⟩=>thn (hi pins s2 σ H2 _ I2 q2) fun iv s3 ⟨y,H3,I3,ry,a,H4,ex,g,q3⟩=> ?_) hs
 subst ex
 obtain rfl:u=Value.ref a:=rx
 exact Te hu I3 g ry rv fun s4 I4=>⟨σ,H4,I4,q3⟩
end
theorem M5 {P:Program}{w:World}{H:Hp} (h:Heap) (hb:sysModules<h.objs.size):fJ P w H (h.push {cls:= .type "dict",data:= .dict #[]}) h.objs.size (.dK []):=
 ⟨Nat.zero_le _,beq_eq_false_iff_ne.mpr (Ne.symm (Nat.ne_of_lt hb)),[], .nil,Heap.DictOf.new h⟩
def UG:TE:=fun _ H Q=>∀p,H p=none->Q (.ref p) (upd H p (.dK []))
section
variable {X:Cx}{pos:Pos}
theorem UJ:PE X (.Dict [] [] pos) UG:=fun pins s σ H Q I h=>
 wpAny_Dict_empty ⟨.ref s.heap.objs.size,_,I.laid (a:=s.heap.objs.size) (o:= .dK []) (t':=s.toks) (fun _ _ q=>Heap.get?_push_of_some _ q) (Nat.le_refl _) (M5 s.heap I.big),rfl,h _ (I.hok.fresh (Nat.le_refl _))⟩
end
def Pu:List (TE×TE)->St->Hp->(List (V×V)->Hp->Prop)->Prop
 |[],_,H,Q=>Q [] H
 | (tk,tv)::r,σ,H,Q=>tk σ H fun x H1=>tv σ H1 fun y H2=>Pu r σ H2 fun ps H3=>Q ((x,y)::ps) H3
abbrev VV:List (V×V)->List (Value×Value)->Prop:=Paired fun p q=>RelV p.1 q.1/\RelV p.2 q.2
def PPs (X:Cx) (pos:Pos) (keys:List (Option Expr)) (values:List Expr) (trs:List (TE×TE)):Prop:=
 ∀(pins:List (Addr×Obj)) (s:Shared) (σ:St) (H:Hp) (Q:List (V×V)->Hp->Prop),Inv X pins σ H s->Pu trs σ H Q->
  wpAny (model X.prog X.w) X.A (evalPairs (pairTrees keys values X.env pos)) (fun vs s'=>∃ps H',Inv X pins σ H' s'/\VV ps vs/\Q ps H') X.xe s
theorem Xw {X:Cx}{pos:Pos}:PPs X pos [] [] []:=fun pins s σ H Q I h=>pairTrees_nil_walk ⟨[],H,I, .nil,h⟩
theorem UL {X:Cx}{pos:Pos}{k v:Expr}{ks:List (Option Expr)}{vs:List Expr}{tk tv:TE}{trs:List (TE×TE)} (hk:PE X k tk) (hv:PE X v tv) (hr:PPs X pos ks vs trs):
 PPs X pos (some k::ks) (v::vs) ((tk,tv)::trs):=fun pins s σ H Q I h=>
 pairTrees_cons_walk (thn (hk pins s σ H _ I h) fun u s1 ⟨x,H1,I1,rx,q1⟩=>thn (hv pins s1 σ H1 _ I1 q1) fun w2 s2 ⟨y,H2,I2,ry,q2⟩=>
  thn (hr pins s2 σ H2 _ I2 q2) fun ws s3 ⟨ps,H3,I3,rel,q3⟩=>⟨(x,y)::ps,H3,I3, .cons ⟨rx,ry⟩ rel,q3⟩)
def Ff (kvs more:List (Key×V)):List (Key×V):=more.foldl (fun acc kv=>putK acc kv.1 kv.2) kvs
theorem KV.merge:∀{more:List (Key×V)}{rs:List (Key×Value)}{kvs:List (Key×V)}{vs:List (Key×Value)},KV more rs->KV kvs vs->KV (Ff kvs more) (merged vs rs):=by
 intro more rs kvs vs r
 unfold KV at r
 induction r generalizing kvs vs with
 | nil=>intro q;exact q
 | @cons p q ps qs h t ih=>
   intro r0
   have e:KV (putK kvs p.1 p.2) (stored vs q.1 q.2):=by
    have:=r0.put p.1 h.2
    rw[<-h.1];exact this
   exact ih e
theorem Av:∀(more kvs:List (Key×V)),(Ff kvs more).length<=kvs.length+more.length
 |[],kvs=>by show kvs.length<=kvs.length+0;omega
 | p::r,kvs=>by
   have h1:=Av r (putK kvs p.1 p.2)
   have h2:=ym kvs p.1 p.2
   show(Ff (putK kvs p.1 p.2) r).length<=_
   rw[List.length_cons];omega
theorem HF {P:Program}{w:World}:∀{kvs:List (Key×V)}{ws:List (Value×Value)},VV (kvs.map fun kv=>(kV kv.1,kv.2)) ws->∃rs,Carries (eN P w) ws rs/\KV kvs rs
 |[],_,r=>by rw[List.map_nil] at r;cases r;exact⟨[],True.intro, .nil⟩
 | p::kvs,_,r=>by
   rw[List.map_cons] at r
   cases r with
   | @cons a b as bs h t=>
     obtain⟨rs,c,q⟩:=HF (P:=P) (w:=w) t
     obtain⟨b1,b2⟩:=b
     exact⟨(p.1,b2)::rs,⟨Gz h.1,rfl,c⟩, .cons ⟨rfl,h.2⟩ q⟩
def ZX (trs:List (TE×TE)):TE:=fun σ H Q=>∀p,H p=none->Pu trs σ (upd H p (.dK [])) fun ps H2=>H2 p=some (.dK [])/\∃kvs:List (Key×V),ps=kvs.map (fun kv=>(kV kv.1,kv.2))/\kvs.length<=15/\Q (.ref p) (upd H2 p (.dK (Ff [] kvs)))
theorem Xx {X:Cx}{pos:Pos}{keys:List (Option Expr)}{values:List Expr}{trs:List (TE×TE)} (h:PPs X pos keys values trs) (hall:keys.all (·.isSome)=true) (hl:keys.length=values.length) (h0:keys≠[])
 (h15:keys.length<=15):PE X (.Dict keys values pos) (ZX trs):=by
 intro pins s σ H Q I q
 have hn:=I.hok.fresh (Nat.le_refl s.heap.objs.size)
 have I1:=I.laid (a:=s.heap.objs.size) (o:= .dK []) (h':=s.heap.push {cls:= .type "dict",data:= .dict #[]}) (t':=s.toks) (fun _ _ q=>Heap.get?_push_of_some _ q) (Nat.le_refl _) (M5 s.heap I.big)
 refine wpAny_Dict_walk (knd:=eN X.prog X.w) hall hl h0 h15 (thn (h pins _ σ _ _ I1 (q _ hn)) fun ws s2 ⟨ps,H2,I2,rel,e,kvs,ep,lk,q2⟩=> ?_)
 subst ep
 obtain⟨rs,c,rk⟩:=HF (P:=X.prog) (w:=X.w) rel
 obtain⟨z,hd,vs0,r0,dd⟩:=Km I2.hok e
 cases r0
 refine⟨rs,c,dd,fun h' dd' hs=>⟨.ref s.heap.objs.size,_, ?_,rfl,q2⟩⟩
 have hz:(Ff [] kvs).length<=sizeLine:=by
  have h1:=Av kvs []
  rw[List.length_nil] at h1
  rw[sizeLine_eq];omega
 have he:∃q,h'.get? s.heap.objs.size=some q:=let ⟨q,_,_,hq,_⟩:=dd';⟨q,hq⟩
 exact CQ I2 (by rw[e];exact True.intro) hs he (K5 hz hd (rk.merge .nil) dd')
structure M1 (X:Cx) (o:Expr) (m:Str) (apos:Pos) (e:Expr) (cpos:Pos):Prop where
 base:attributeBase o m X.env (eval o X.env)=eval o X.env
 few:((backTo cpos (starEach [e] X.env)).all (fun x=> !x.1)&&(backToKw cpos (keywordEach [] X.env)).all (fun x=>x.1.isSome)
  &&decide (([e]:List Expr).length+([]:List Keyword).length+(if([]:List Keyword).isEmpty then 0 else 1)<30))=true
 line:(apos.endLine==cpos.line)=true
 trees:backTo cpos (starEach [e] X.env)=[(false,eval e X.env)]
def IsD (H:Hp) (a:Addr):Prop:=(∃kvs,Rd H a (.dK kvs))\/∃kvs,Rd H a (.dT kvs)
theorem K6 {X:Cx}{pins:List (Addr×Obj)}{σ:St}{H:Hp}{s:Shared}{a:Addr} (I:Inv X pins σ H s) (d:IsD H a):
 s.TypeIs (.ref a) "dict"/\(∀b,Value.ref a= .ref b->∃ob,s.heap.get? b=some ob/\ob.dict=none)/\(a==sysModules)=false:=by
 rcases d with⟨kvs,e⟩ | ⟨kvs,e⟩
 ·obtain⟨_,hd,vs,_,dd⟩:=u6 I.hok e
  refine⟨dd.typeIs,fun b q=> ?_,hd⟩
  cases q
  obtain⟨ob,_,_,h1,h2,_⟩:=dd
  exact⟨ob,h1,h2.2.1⟩
 ·obtain⟨_,hd,xs,_,dd⟩:=HD I.hok e
  refine⟨dd.typeIs,fun b q=> ?_,hd⟩
  cases q
  obtain⟨ob,_,_,h1,h2,_⟩:=dd
  exact⟨ob,h1,h2.2.1⟩
section
variable {X:Cx}{pins:List (Addr×Obj)}{σ:St}{H:Hp}{s:Shared}{a:Addr}{y d:V}{u r:Value}{o:Option V}{A:Around}{E:Value->Shared->Prop}
theorem abr {Q:Value->Shared->Prop} (hu:A.units+1<cLine) (I:Inv X pins σ H s) (g:bT H a y o) (ry:RelV y u) (h:∀w' s',Inv X pins σ H s'->RelV (o.getD .non) w'->Q w' s'):
 wpAny (model X.prog X.w) A (call (.builtin "dict.get") [.ref a,u]) Q E s:=by
 rcases g with⟨kvs,k,e,ey,l⟩ | ⟨kvs,k,b,e,ey,eb,l⟩
 ·subst ey
  obtain⟨z,hd,vs,rel,dd⟩:=u6 I.hok e
  refine call_meetsIn PySem.F.slot_dict_get dd.typeIs PySem.F.entry_dict_get (PySem.F.args_dict_get_2 _ _) (meets_dict_get (eN X.prog X.w) a (Gz ry) hd) ⟨_,dd.mapOf,h _ _ (I.tok _) ?_⟩
  rw[l]
  exact(rel.val k).getD rfl
 ·subst ey
  cases(show u=Value.ref b from ry)
  obtain⟨z,hd,xs,rel,dd⟩:=HD I.hok e
  refine call_meetsIn PySem.F.slot_dict_get dd.typeIs PySem.F.entry_dict_get (PySem.F.args_dict_get_2 _ _) (meetsH_dict_get (tupleKind (eN X.prog X.w)) a b hd) ⟨tupleKind_room_in1 hu,k,xs,Fe I.hok eb,dd,h _ _ (I.tok _) ?_⟩
  rw[l]
  exact(rel.val k).getD rfl
end
def UT (td ty:TE):TE:=fun σ H Q=>td σ H fun x H1=>∃a,x= .ref a/\IsD H1 a/\ty σ H1 fun y H2=>∃o,bT H2 a y o/\Q (o.getD .non) H2
def UW (td ty:TE):TE:=fun σ H Q=>td σ H fun x H1=>∃a,x= .ref a/\IsD H1 a/\ty σ H1 fun y H2=>∃kvs k v,H2 a=some (.dK kvs)/\y=kV k/\dI kvs k=some v/\Q v (upd H2 a (.dK (jJ kvs k)))
section
variable {X:Cx}{o e f:Expr}{apos cpos:Pos}{td ty tx:TE}
theorem U0 (hu:X.A.units+1<cLine) (ho:PE X o td) (he:PE X e ty) (m:M1 X o "get" apos e cpos):PE X (.Call (.Attribute o "get" apos) [e] [] cpos) (UT td ty):=by
 intro pins s σ H Q I h
 refine wpAny_Call_method m.base m.few m.line PySem.F.plainAttrs_dict PySem.F.slot_dict_get PySem.F.type_dict_get (thn (ho pins s σ H _ I h) fun u s1 ⟨x,H1,I1,rx,a,ex,d,q1⟩=> ?_)
 subst ex
 obtain rfl:u=Value.ref a:=rx
 obtain⟨t1,t2,_⟩:=K6 I1 d
 refine⟨t1,t2, ?_⟩
 rw[m.trees]
 refine Calls.callWith_builtin rfl (Calls.evalArgs_plain (Calls.spliced_cons (thn (he pins s1 σ H1 _ I1 q1) fun iv s2 ⟨y,H2,I2,ry,ov,g,q2⟩=>Calls.spliced_nil ?_)))
 exact abr hu I2 g ry fun w' s3 I3 rw'=>⟨_,H2,I3,rw',q2⟩
theorem U3 (ho:PE X o td) (he:PE X e ty) (m:M1 X o "pop" apos e cpos):PE X (.Call (.Attribute o "pop" apos) [e] [] cpos) (UW td ty):=by
 intro pins s σ H Q I h
 refine wpAny_Call_method m.base m.few m.line PySem.F.plainAttrs_dict PySem.F.slot_dict_pop PySem.F.type_dict_pop (thn (ho pins s σ H _ I h) fun u s1 ⟨x,H1,I1,rx,a,ex,d,q1⟩=> ?_)
 subst ex
 obtain rfl:u=Value.ref a:=rx
 obtain⟨t1,t2,_⟩:=K6 I1 d
 refine⟨t1,t2, ?_⟩
 rw[m.trees]
 refine Calls.callWith_builtin rfl (Calls.evalArgs_plain (Calls.spliced_cons (thn (he pins s1 σ H1 _ I1 q1) fun iv s2 ⟨y,H2,I2,ry,kvs,k,v,ea,ey,l,q2⟩=>Calls.spliced_nil ?_)))
 subst ey
 exact aeB I2 ea ry l (.inl rfl) fun w' s3 I3 rw'=>⟨v,_,I3,rw',q2⟩
end
section
variable {X:Cx}{pins:List (Addr×Obj)}{σ:St}{H:Hp}{s:Shared}{a:Addr}{kvs:List (Key×V)}{A:Around}{E:Value->Shared->Prop}
end
section
variable {X:Cx}{pins:List (Addr×Obj)}{σ:St}{H:Hp}{s:Shared}{a:Addr}{y:V}{u:Value}{A:Around}{E:Value->Shared->Prop}
end
end L2
namespace Att
open PySem PySem.W PySem.Calls PyProof.Rows
theorem G4 {P:Params}{h:Heap}:∀(ns:List Int) (vs:List Value),WellAll P h vs (ns.map WData.int)->IntsAre vs ns:=by
 intro ns
 induction ns with
 | nil=>
   intro vs w
   rw[List.map_nil] at w
   cases w
   exact .nil
 | cons n ns ih=>
   intro vs w
   rw[List.map_cons] at w
   cases w with
   | cons a b=>
     cases a
     exact .cons _ _ (ih _ b)
theorem Tg {l:OpenLaw}{n:Nat} (hn:l.most=some n) {P:Params}{h:Heap}{args:List WData}{vals:List Value}
 (hpre:l.row.toRowW.claim.pre args=true) (hwl:WellAll P h vals args):
 ∃a vs ns,vals=[Value.ref a]/\args=[WData.list (ns.map WData.int)]/\h.get? a=some {cls:= .type "list",data:= .seq vs.toArray}/\IntsAre vs ns/\ns.length<=n:=by
 have hsh:WShape.hasAll [] args [.list .int]=true:=(pre_splitW hpre).1
 have hc:l.pre.holds [] {args:=args}=true:=(pre_splitW hpre).2
 obtain⟨d,r,rfl,h1,h2⟩:=hasAllW_cons hsh
 obtain rfl:=hasAllW_nil h2
 obtain⟨xs,rfl,h3⟩:=hasW_list h1
 obtain⟨ns,rfl⟩:=items_int h3
 have hlen:ns.length<=n:=by
  unfold OpenLaw.pre at hc
  have h4:(WTm.not (.lt (.lit (.int (n:Int))) (.len (.arg 0)))).holds [] {args:=[.list (ns.map .int)]}=true:=by
   have h4:=(holds_andW hc).1
   rw[hn] at h4
   exact h4
  have h5:=condW_of h4 (w_not (w_lt w_lit (w_len_list (w_arg rfl))))
  rw[List.length_map] at h5
  refine Nat.le_of_not_lt fun q=> ?_
  have q':(n:Int)<((ns.length:Nat):Int):=by omega
  first
   | (rw[decide_eq_true q'] at h5;exact absurd h5 (by decide))
   | (simp at h5;omega)
 cases hwl with
 | cons w1 w2=>
   cases w2
   cases w1 with
   | list ho hall=>exact⟨_,_,ns,rfl,rfl,ho,G4 ns _ hall,hlen⟩
theorem Ti (l:OpenLaw) (args:List WData):l.row.toRowW.claim.post args (.bool true) args=true:=
 postW_of (r:=l.row.toRowW) (X:=(true==true))
  (show WShape.has [] (.bool true) .bool=true by first | rfl | decide | simp[WShape.has,WShape.arms,WShape.armsAll])
  (show(WTm.eq .res (.lit (.bool true))).value [] {args:=args,res:=some (.bool true),after:=args}=some (.bool (true==true)) from w_eq_bool (w_res rfl) w_lit) rfl
theorem M6 {l:OpenLaw}{n:Nat}{q:Program}{loose:List Str}{XP:(Str->Option Value)->Heap->Prop}{YP:World->Heap->Prop}{d:DefRec}
 (hn:l.most=some n) (hdf:d.params.defaults=[])
 (call:∀(w:World) (s₀ s₁:Shared) (mg mb:Str->Option Value) (fa:Addr) (o:Obj) (pm cd doc:Value) (a:Addr) (vs:List Value) (ns:List Int),
   Ground q loose [] XP w s₀ mg mb s₁.heap->YP w s₁.heap->
   s₁.heap.get? fa=some o->o.data= .func (docDef d.name d.params d.body d.scope pm cd doc)->s₁.heap.CodeRec cd d.name->mg d.name=some (.ref fa)->
   s₁.heap.get? a=some {cls:= .type "list",data:= .seq vs.toArray}->IntsAre vs ns->ns.length<=n->s₁.gens= #[]->
   codeAny (model l.prog w) callerA (.call (.ref fa) ⟨[.ref a],[]⟩) (fun r s'=>r= .ok (.ret (.bool true))/\OldK s₁.heap s'.heap/\s'.os=s₁.os/\AllBare s'.gens) s₁):
 WalkO q loose XP YP l.row.toRowW d [] (fun f vs=>PySem.call f vs):=by
 intro w s₀ s₁ mg mb G Y fa o pm cd doc dV kV ho hd hcd hD hmg hg args vals as hpre hlay hrd hwl hlo
 obtain rfl:dV= .none:=Dflts.none hD hdf
 obtain rfl:kV= .none:=Dflts.noKw hD
 obtain⟨a,vs,ns,rfl,rfl,hobj,hints,hlen⟩:=Tg hn hpre hwl
 refine enter_call (codeAny_mono (call w s₀ s₁ mg mb fa o pm cd doc a vs ns G Y ho (fd_plain hd) hcd hmg hobj hints hlen hg) fun r s' hq=> ?_)
 obtain⟨rfl,h2,h3,h4⟩:=hq
 exact⟨.inl ⟨.bool true, .bool true,[],rfl,fun _=>rfl, .bool true,Ti l _,fun _=>⟨List.Pairwise.nil,fun _ hm=>(nomatch hm)⟩⟩,h2,h3,h4⟩
section
variable {prog:Program}{w:World}{A:Around}{E:Value->Shared->Prop}{s:Shared}{K:Frag}
end
end Att
namespace L2
open PySem PySem.Spec PyProof.Rows
theorem Ko:∀{vs:List Value}{ns:List Int},IntsAre vs ns->Vals (ns.map V.int) vs
 | _,_, .nil=> .nil
 | _,_, .cons n t h=> .cons ⟨t,rfl⟩ (Ko h)
def Only (H:Hp):Prop:=∀b,H b=none\/∃o xs,H b=some (.frz o (.lst xs))
theorem U6 {P:Program}{w:World}{K:PySem.W.Frag}{mg mb:Str->Option Value}{CX:CXT}{k:Nat}{fa a:Addr}{fd:FuncData}{x:Str}{sp:Sp}{s₁:Shared}{vs:List Value}{ns:List Int}
 (KX:K.In s₁.heap) (hns:s₁.heap.Ns mainGlobals mg) (hb:s₁.heap.Ns builtinsNs mb) (hbb:∀x:Str,x≠"__name__"->mb x=bootBuiltins x) (hlim:s₁.heap.NoLimit) (hg:s₁.gens= #[])
 (ha:s₁.heap.get? a=some {cls:= .type "list",data:= .seq vs.toArray}) (hi:IntsAre vs ns) (hl:ns.length<=sizeLine) (hr:m5 k callerA)
 (F:∀base:Heap,K.In base->base.Ns mainGlobals mg->aX P w K mg base CX k fa fd [x] sp) (hbind:∀(s:Shared) (u:Value),BindsTo s fd ⟨[u],[]⟩ [(x,u)])
 (hsp:∀H:Hp,Only H->SqL K H a (ns.map V.int)->sp [.ref a] H (fun v _=>v= .bl true) fun _ _ _=>False)
 (hCX:∀H e s',CX [] H s₁ (fun _ _ _=>False) e s'->False):
 codeAny (model P w) callerA (.call (.ref fa) ⟨[.ref a],[]⟩) (fun r s'=>r= .ok (.ret (.bool true))/\OldK s₁.heap s'.heap/\s'.os=s₁.os/\AllBare s'.gens) s₁:=by
 have rv:=Ko hi
 have lenV:=hi.length
 have core:∀H:Hp,Only H->SqL K H a (ns.map V.int)->HOk P w H s₁.heap->(∀b,H b≠none->b=a)->(H a≠none->K.lookup a=none)->
  codeAny (model P w) callerA (.call (.ref fa) ⟨[.ref a],[]⟩) (fun r s'=>r= .ok (.ret (.bool true))/\OldK s₁.heap s'.heap/\s'.os=s₁.os/\AllBare s'.gens) s₁:=by
  intro H hO hS hok hA hK
  have Rf:∀{b:Addr}{o:Obj},s₁.heap.get? b=some o->H b=none->(KQ s₁.heap H).get? b=some o:=fun e n=>Ub e n
  have noA:∀{b:Addr}{o:Obj}{es:Array DictEntry}{ep:Nat},s₁.heap.get? b=some o->o.data= .dict es ep->H b=none:=fun{b o es ep} e d=>by
   cases q:H b with
   | none=>rfl
   | some u=>
     have e':b=a:=hA b (by rw[q];simp)
     subst e'
     rw[ha] at e;cases e
     have d':Data.seq vs.toArray _=Data.dict es ep:=d
     cases d'
  have nsK:∀{b:Addr}{m:Str->Option Value},s₁.heap.Ns b m->(KQ s₁.heap H).Ns b m:=fun{b m} ⟨o,es,ep,e,d,r⟩=>⟨o,es,ep,Rf e (noA e d),d,r⟩
  have hKb:K.In (KQ s₁.heap H):=fun b o e=>Rf (KX b o e) (by
   cases q:H b with
   | none=>rfl
   | some u=>
     have e':b=a:=hA b (by rw[q];simp)
     subst e'
     rw[hK (by rw[q];simp)] at e;cases e)
  have hM:Mod K mg (KQ s₁.heap H):=⟨hKb,nsK hns,⟨mb,nsK hb,hbb⟩,let ⟨mc,h1,h2⟩:=hlim;⟨mc,nsK h1,h2⟩⟩
  have e0:Pk P w K mg (KQ s₁.heap H) callerA [] s₁ H:=⟨rfl,hM,fun b o e=>W2 e,Nat.le_of_eq (Sd _ _),trivial,fun b hb=>absurd (show b∈([]:List Addr) from hb) (by simp),hok, .of_eq hg⟩
  refine codeAny_mono ((F _ hKb (nsK hns)).run callerA [] s₁ H ⟨[.ref a],[]⟩ [.ref a] [.ref a] _ _ hr e0 (hbind s₁ (.ref a)) (.cons rfl .nil) (hsp H hO hS)) fun r s' h=> ?_
  cases r with
  | error e=>exact(hCX H e s' h).elim
  | ok fl=>
    cases fl with
    | next=>exact False.elim h
    | brk=>exact False.elim h
    | cont=>exact False.elim h
    | ret u=>
      obtain⟨v,H',os,bare,un,hok',r',q⟩:=h
      have q':v= .bl true:=q
      subst q'
      obtain rfl:u=Value.bool true:=r'
      refine⟨rfl,OldK.of_keep fun b o e=> ?_,os,bare⟩
      cases q:H b with
      | none=>exact un.keep b o e q (by intro z;exact absurd (show b∈([]:List Addr) from z) (by simp)) (by simp)
      | some u=>
        rcases hO b with z | ⟨ob,xs,z⟩
        ·rw[q] at z;cases z
        ·have z2:=un.frzs b ob _ z
         obtain⟨e1,_⟩:=hok b _ z
         obtain⟨e2,_⟩:=hok' b _ z2
         rw[e] at e1;cases e1
         exact e2
 cases hk:K.lookup a with
 | some o=>
   have e:=KX a o hk
   rw[ha] at e
   cases e
   refine core (fun _=>none) (fun _=> .inl rfl) (.inr ⟨_,vs.toArray,_,hk,rfl,rfl,rfl,by rw[List.size_toArray,lenV];exact hl,by simpa using rv⟩) (fun b u z=>by have z':(none:Option HO)=some u:=z;cases z') (fun b z=>absurd rfl z) fun z=>absurd rfl z
 | none=>
   refine core (fun b=>if b=a then some (.frz {cls:= .type "list",data:= .seq vs.toArray} (.lst (ns.map V.int))) else none) (fun b=> ?_) (.inl (.inr ⟨{cls:= .type "list",data:= .seq vs.toArray},if_pos rfl⟩)) (fun b u z=> ?_) (fun b z=> ?_) fun _=>hk
   ·by_cases hb:b=a
    ·exact .inr ⟨_,_,if_pos hb⟩
    ·exact .inl (if_neg hb)
   ·by_cases hb:b=a
    ·have z':=(if_pos hb).symm.trans z
     cases z'
     subst hb
     exact⟨ha,by rw[List.length_map];exact hl,vs,_,rv,ha⟩
    ·have z':=(if_neg hb).symm.trans z
     cases z'
   ·by_cases hb:b=a
    ·exact hb
    ·exact absurd (if_neg hb) z
end L2
namespace L2
open PySem PySem.Spec PyProof.Rows
theorem Rg {l:PySem.W.OpenLaw}{n k:Nat}{q:Program}{loose:List Str}{XP:(Str->Option Value)->Heap->Prop}{YP:World->Heap->Prop}{d:DefRec}{K:Params->PySem.W.Frag}{CX:World->CXT}{sp:World->Sp}{x:Str}
 (hn:l.most=some n) (hn2:n<=sizeLine) (hdf:d.params.defaults=[]) (hr:m5 k callerA)
 (hY:∀(w:World) (h:Heap),YP w h->(K w.params).In h)
 (F:∀(w:World) (mg:Str->Option Value) (fa:Addr) (h:Heap),(K w.params).In h->h.Ns mainGlobals mg->mg d.name=some (.ref fa)->
   ∃fd:FuncData,(∀(s:Shared) (u:Value),BindsTo s fd ⟨[u],[]⟩ [(x,u)])/\
    ∀base:Heap,(K w.params).In base->base.Ns mainGlobals mg->aX l.prog w (K w.params) mg base (CX w) k fa fd [x] (sp w))
 (hsp:∀(w:World) (H:Hp) (a:Addr) (ns:List Int),ns.length<=n->Only H->SqL (K w.params) H a (ns.map V.int)->sp w [.ref a] H (fun v _=>v= .bl true) fun _ _ _=>False)
 (hCX:∀(w:World) (H:Hp) (s:Shared) (e:Value) (s':Shared),CX w [] H s (fun _ _ _=>False) e s'->False):
 PySem.W.WalkO q loose XP YP l.row.toRowW d [] (fun f vs=>PySem.call f vs):=by
 refine Att.M6 hn hdf fun w s₀ s₁ mg mb fa o pm cd doc a vs ns G Y ho hd hcd hmg hobj hints hlen hg=> ?_
 have KX:=hY w _ Y
 obtain⟨fd,hb,hF⟩:=F w mg fa _ KX G.T.g hmg
 exact U6 KX G.T.g G.T.b G.T.builtins G.T.nolimit hg hobj hints (Nat.le_trans hlen hn2) hr hF hb (fun H hO hS=>hsp w H a ns hlen hO hS) fun H e s'=>hCX w H s₁ e s'
end L2
/- THE LAST THEOREM (shape;LID,My.* are yours):
   My.Adr:a structure of the addresses that your layer names (classes,functions);My.Txt K t:a structure (Prop) of the equations over K;
   My.abt:{K}{implicit addresses ..} (e1:nsIn K mainGlobals "law"=some (some (.ref f))) (e2:K.lookup f=some ⟨oc,od, .func (fnOf "law" "law" params body scope dV kV doc pm an cdv ct),sl⟩) (e3:codeIn K cdv "law"=true) .. :∃t,My.Txt K t
theorem PySem.Challenge.cw_LID_holds : PySem.Challenge.rw_LID.Holds := by
 w_on;o_law;k_head;(case hw=>w_witness2)
 k_fill
 refine L2.Rg (l:=PySem.Challenge.abu) (n:=63) (k:=40) (x:="script") (CX:=fun w=> ..) (sp:=fun _=>My.ah5) rfl (by decide) rfl ⟨rfl,by decide,by decide⟩ (fun w h Y=>PySem.W.kIn_of Y) ?F ?S ?C
 case F=>
  intro w mg fa h KX G hmg
  have T:∃t,My.Txt (L2.KOf KX) t:=by
   dsimp only[L2.KOf] -- K must stand as «<heap const> w.params» for k_is
   refine' My.abt ?e1 ?e2 ?e3 ..
   (case e1=>PySem.W.k_is) -- in the order:a name->its address->its object->its parts
   (case e2=>PySem.W.k_is)
   ..
  obtain⟨t,T⟩:=T
  have e0:=hmg.symm.trans (PySem.W.mg_of KX G T.law)
  cases e0 -- fa is the law's own address
  exact⟨_,fun s u=> .of_eq rfl,fun base kb nb=>My.abv T kb nb⟩ -- if «.of_eq rfl» comes too early:refine' ⟨_, ?b,fun base kb nb=>My.abv T kb nb⟩;exact fun s u=> .of_eq rfl
 case S=>exact fun w H a ns hl hO hS=> ..
 case C=>exact ..
(the tactic k_is has no namespace:write k_is) -/
namespace L2
open PySem PySem.Spec PyProof.Rows
def bz (s:Stmt):Arguments:=match s with
 | .FunctionDef _ a _ _ _ _ _ _ _ _=>a
 | _=>{posonlyargs:=[],args:=[],vararg:=none,kwonlyargs:=[],kw_defaults:=[],kwarg:=none,defaults:=[]}
def bu (s:Stmt):List Stmt:=match s with
 | .FunctionDef _ _ b _ _ _ _ _ _ _=>b
 | _=>[]
def aa (s:Stmt):Scope:=match s with
 | .FunctionDef _ _ _ _ _ _ sc _ _ _=>sc
 | _=>{kind:= .function,names:=[],isGenerator:=false,isCoroutine:=false}
abbrev CX0:CXT:=fun _ _ _ _ _ _=>False
abbrev E0:XK:=fun _ _ _=>False
theorem aU {X:Cx}:Passes CX0 X E0:=fun _ _ _ _ _ _ _ h=>h.elim
structure Fun (K:PySem.W.Frag) (x qual:Str) (st:Stmt) (f:Addr) (fd:FuncData):Prop where
 ex:∃(oc:Value) (od:Option Addr) (kV doc pm:Value) (an:Option Addr) (cdv ct:Value) (osl:Array (Option Value)),
  fd=PySem.W.fnOf x qual (bz st) (bu st) (aa st) .none kV doc pm an cdv ct/\K.lookup f=some ⟨oc,od, .func fd,osl⟩/\PySem.W.codeIn K cdv qual=true
 kp:PySem.W.keepIn K (.ref f)=true
section
variable {P:Program}{w:World}{K:PySem.W.Frag}{mg:Str->Option Value}{base:Heap}
theorem Fun.ok {x qual:Str}{st:Stmt}{f:Addr}{fd:FuncData}{N ps:List Str}{k:Nat}{sp:Sp} (F:Fun K x qual st f fd) (S:bI N ps (aa st)) (len:∀vs H Q E,sp vs H Q E->vs.length=ps.length)
 (hbody:∀(cdv:Value) (A:Around) (outer:List Env) (s:Shared) (H:Hp) (vs:List V) (Q:VK) (E:XK),m5 k (A.deeper (envOfC qual (aa st) s.heap.objs.size f cdv))->sp vs H Q E->
   ∃t,PSs (Pq CX0 P w K mg base N qual (aa st) f cdv A outer s H E).nox (bu st) t/\t {nx:=fun _ H'=>Q .non H',rt:=Q} (start N vs) H):aX P w K mg base CX0 (k+1) f fd ps sp:=by
 obtain⟨oc,od,kV,doc,pm,an,cdv,ct,osl,rfl,lk,hcd⟩:=F.ex
 refine aes lk hcd S len fun A outer s H vs Q E hr hsp=> ?_
 obtain⟨t,h,q⟩:=hbody cdv A outer s H vs Q E hr hsp
 exact⟨t,h.nox,q⟩
theorem lB {x qual:Str}{st:Stmt}{f:Addr}{oc:Value}{od an:Option Addr}{osl:Array (Option Value)}{kV doc pm cdv ct:Value} (l:K.lookup f=some ⟨oc,od, .func (PySem.W.fnOf x qual (bz st) (bu st) (aa st) .none kV doc pm an cdv ct),osl⟩)
 (c:PySem.W.codeIn K cdv qual=true) (k:PySem.W.keepIn K (.ref f)=true):Fun K x qual st f (PySem.W.fnOf x qual (bz st) (bu st) (aa st) .none kV doc pm an cdv ct):=⟨⟨oc,od,kV,doc,pm,an,cdv,ct,osl,rfl,l,c⟩,k⟩
end
theorem bN {A:Around}{k:Nat} (hr:m5 k A):A.units+1<cLine:=Nat.lt_of_le_of_lt (Nat.add_le_add_left (by decide:1<=64) _) hr.units
theorem bL {n:Nat} (h:n<=1000):n<sizeLine:=Nat.lt_of_le_of_lt h (by decide)
section
variable {X:Cx}
theorem Tj:rP X (.builtin "len") (fun xs H Q=>∃a kvs,xs=[V.ref a]/\H a=some (.dK kvs)/\Q (.int kvs.length) H):=by
 intro pins s σ H xs us Q I r h
 obtain⟨a,kvs,rfl,ha,q⟩:=h
 obtain⟨u,rfl,ru⟩:=vals1 r
 cases ru
 exact aeC I (.inl ha) fun t s' I'=>⟨.int kvs.length,H,I',⟨t,rfl⟩,q⟩
end
theorem wz {c A B:Prop} [Decidable c] (h1:c->A) (h2:¬c->B):if c then A else B:=by
 by_cases h:c
 ·rw[if_pos h]
  exact h1 h
 ·rw[if_neg h]
  exact h2 h
def aQ (H H':Hp):Prop:=∀b o,H b=some o->H' b=some o
theorem aQ.refl (H:Hp):aQ H H:=fun _ _ h=>h
theorem aQ.trans {H H1 H2:Hp} (a:aQ H H1) (b:aQ H1 H2):aQ H H2:=fun c o h=>b c o (a c o h)
section
variable {κ:Type} [DecidableEq κ]
end
end L2
set_option maxRecDepth 100000
namespace L2
open PySem PySem.Spec PyProof.Rows
def ccl (sc:Scope) (env:Env):List (Str×Addr):=(sc.names.filterMap fun p=>if p.2== .free then(env.cells.lookup p.1).map fun c=>(p.1,c) else none).reverse
theorem yo {env:Env}:∀(l:List (Str×NameKind)) (acc:List (Str×Addr)),(∀p∈l,p.2= .free->∃c,env.cells.lookup p.1=some c)->
 (forIn l acc fun(x:Str×NameKind) r=>match x with | (name,kind)=>(if(kind==NameKind.free)=true then do let a <-cellOf env name;pure (ForInStep.yield ((name,a)::r)) else pure (ForInStep.yield r):Sem _))=
   pure ((l.filterMap fun p=>if p.2== .free then(env.cells.lookup p.1).map fun c=>(p.1,c) else none).reverse++acc)
 |[],acc,_=>rfl
 | (n,k)::r,acc,h=>by
   rw[List.forIn_cons]
   have hr:∀p∈r,p.2= .free->∃c,env.cells.lookup p.1=some c:=fun p hp=>h p (List.mem_cons_of_mem _ hp)
   by_cases hk:k= .free
   ·subst hk
    obtain⟨c,hc⟩:=h (n, .free) List.mem_cons_self rfl
    have e1:cellOf env n=pure c:=by unfold cellOf;rw[hc]
    simp only[beq_self_eq_true,if_true,e1,pure_bind]
    rw[yo r _ hr]
    simp[List.filterMap_cons,hc]
   ·have hb:(k==NameKind.free)=false:=by simpa using hk
    simp only[hb,Bool.false_eq_true,if_false,pure_bind]
    rw[yo r _ hr]
    simp[List.filterMap_cons,hk]
theorem M7 {sc:Scope}{env:Env} (h:∀p∈sc.names,p.2= .free->∃c,env.cells.lookup p.1=some c):closureFor sc env=pure (ccl sc env):=by
 unfold closureFor
 have q:=yo (env:=env) sc.names [] h
 rw[List.append_nil] at q
 unfold ccl
 rw[<-q,bind_pure]
theorem JQ {f:Str->Option Addr}:∀(l:List (Str×NameKind)) (x:Str) (c:Addr),
 (l.filterMap fun p=>if p.2== .free then(f p.1).map fun c=>(p.1,c) else none).reverse.lookup x=some c->f x=some c:=by
 intro l x c h
 have hm:=PySem.mem_of_lookup h
 rw[List.mem_reverse,List.mem_filterMap] at hm
 obtain⟨p,_,e⟩:=hm
 split at e
 ·cases q:f p.1 with
  | none=>rw[q] at e;cases e
  | some d=>
    rw[q] at e
    simp only[Option.map_some,Option.some.injEq,Prod.mk.injEq] at e
    obtain⟨e1,e2⟩:=e
    rw[<-e1,q,e2]
 ·cases e
theorem rR {β:Type}:∀{l:List (Str×β)}{x:Str}{c:β},(x,c)∈l->∃d,l.lookup x=some d
 |[],_,_,h=>nomatch h
 | (n,d)::r,x,c,h=>by
   by_cases e:x=n
   ·subst e;exact⟨d,by simp[List.lookup_cons]⟩
   ·have hb:(x==n)=false:=by simpa using e
    rcases List.mem_cons.mp h with q | q
    ·cases q;exact absurd rfl e
    ·obtain⟨d',hd⟩:=rR q
     exact⟨d',by simp[List.lookup_cons,hb,hd]⟩
theorem wA {sc:Scope}{env:Env}{x:Str}{c:Addr} (h:(ccl sc env).lookup x=some c):env.cells.lookup x=some c:=JQ (f:=fun n=>env.cells.lookup n) sc.names x c h
theorem Rh {sc:Scope}{env:Env}{x:Str}{c:Addr} (hx:(x,NameKind.free)∈sc.names) (hc:env.cells.lookup x=some c):(ccl sc env).lookup x=some c:=by
 have hm:(x,c)∈ccl sc env:=by
  unfold ccl
  rw[List.mem_reverse,List.mem_filterMap]
  exact⟨(x, .free),hx,by simp[hc]⟩
 obtain⟨d,hd⟩:=rR hm
 have:=wA hd
 rw[hc] at this
 rw[hd,this]
theorem uz {env:Env}:∀{names:List (Str×NameKind)}{x:Str}{k:NameKind},
 (names.map fun(n,k)=>if(k==NameKind.free&&env.scope.kind== .function&&env.kindOf n==some .cell) then(n,NameKind.cell) else(n,k)).lookup x=some k->
 names.lookup x=some k\/(k= .cell/\names.lookup x=some .free)
 |[],_,_,h=>by simp at h
 | (n,q)::r,x,k,h=>by
   have ih:=@uz env r x k
   rw[List.map_cons] at h
   cases hx:x==n with
   | true=>
     by_cases hc:(q==NameKind.free&&env.scope.kind== .function&&env.kindOf n==some .cell)=true
     ·simp only[hc,if_true,List.lookup_cons,hx,Option.some.injEq] at h
      have hq:q= .free:=by
       have:=(Bool.and_eq_true _ _▸(Bool.and_eq_true _ _▸hc).1).1
       simpa using this
      subst hq
      exact .inr ⟨h.symm,by simp[List.lookup_cons,hx]⟩
     ·simp only[hc,if_false,List.lookup_cons,hx,Option.some.injEq,Bool.false_eq_true] at h
      subst h
      exact .inl (by simp[List.lookup_cons,hx])
   | false=>
     have h':(r.map fun(n,k)=>if(k==NameKind.free&&env.scope.kind== .function&&env.kindOf n==some .cell) then(n,NameKind.cell) else(n,k)).lookup x=some k:=by
      by_cases hc:(q==NameKind.free&&env.scope.kind== .function&&env.kindOf n==some .cell)=true
      ·simpa only[hc,if_true,List.lookup_cons,hx] using h
      ·simpa only[hc,if_false,List.lookup_cons,hx,Bool.false_eq_true] using h
     rcases ih h' with z | ⟨z1,z2⟩
     ·exact .inl (by simp[List.lookup_cons,hx,z])
     ·exact .inr ⟨z1,by simp[List.lookup_cons,hx,z2]⟩
theorem wB {env:Env}:∀{names:List (Str×NameKind)}{x:Str},names.lookup x=some .free->
 (names.map fun(n,k)=>if(k==NameKind.free&&env.scope.kind== .function&&env.kindOf n==some .cell) then(n,NameKind.cell) else(n,k)).lookup x=some .cell\/
 (names.map fun(n,k)=>if(k==NameKind.free&&env.scope.kind== .function&&env.kindOf n==some .cell) then(n,NameKind.cell) else(n,k)).lookup x=some .free
 |[],_,h=>by simp at h
 | (n,q)::r,x,h=>by
   have ih:=@wB env r x
   rw[List.map_cons]
   cases hx:x==n with
   | true=>
     simp only[List.lookup_cons,hx,Option.some.injEq] at h
     subst h
     by_cases hc:(NameKind.free==NameKind.free&&env.scope.kind== .function&&env.kindOf n==some .cell)=true
     ·exact .inl (by simp only[hc,if_true,List.lookup_cons,hx])
     ·exact .inr (by simp only[hc,if_false,List.lookup_cons,hx,Bool.false_eq_true])
   | false=>
     simp only[List.lookup_cons,hx] at h
     by_cases hc:(q==NameKind.free&&env.scope.kind== .function&&env.kindOf n==some .cell)=true
     ·simpa only[hc,if_true,List.lookup_cons,hx] using ih h
     ·simpa only[hc,if_false,List.lookup_cons,hx,Bool.false_eq_true] using ih h
def lC (X:Cx) (N:List Str) (sc:Scope) (pins:List (Addr×Obj)) (C:Addr) (s₀:Shared) (H₀:Hp) (fp:List Addr):Cx:=
 {X with N:=N,s₀:=s₀,H₀:=H₀,env:=compEnvC sc (ccl sc X.env) C X.env,outer:=X.stack,ex:=fp,fn:=fun _=>false,pn:=X.pn++pins,xe:=fun _ _=>False}
structure Fg (X:Cx) (n:Nat) (fr:List Nat) (N:List Str) (sc:Scope):Prop where
 kind:sc.kind= .function
 nocell:∀p∈sc.names,p.2≠ .cell
 own:∀p∈sc.names,p.2= .local->sc.names.lookup p.1=some .local
 out:∀p∈sc.names,p.2= .free->X.env.kindOf p.1=some .cell\/X.env.kindOf p.1=some .free
 len:N.length=n+fr.length
 free:∀i x,N[n+i]? =some x->(x,NameKind.free)∈sc.names/\sc.names.lookup x=some .free/\∃j,fr[i]? =some j/\X.N[j]? =some x
def CS0 (scX:Scope) (NX:List Str) (n:Nat) (fr:List Nat) (N:List Str) (sc:Scope):Prop:=
 sc.kind= .function/\(∀p∈sc.names,p.2≠ .cell)/\(∀p∈sc.names,p.2= .local->sc.names.lookup p.1=some .local)/\
 (∀p∈sc.names,p.2= .free->scX.names.lookup p.1=some .cell\/scX.names.lookup p.1=some .free)/\N.length=n+fr.length/\
 (∀x∈N.drop n,(x,NameKind.free)∈sc.names/\sc.names.lookup x=some .free)/\(N.drop n).map some=fr.map fun j=>NX[j]?
instance {scX:Scope}{NX:List Str}{n:Nat}{fr:List Nat}{N:List Str}{sc:Scope}:Decidable (CS0 scX NX n fr N sc):=by unfold CS0;exact inferInstance
theorem GC {X:Cx}{scX:Scope}{NX:List Str}{n:Nat}{fr:List Nat}{N:List Str}{sc:Scope} (h1:X.env.scope=scX) (h2:X.N=NX) (h:CS0 scX NX n fr N sc):Fg X n fr N sc:=by
 obtain⟨a,b,c,d,e,f,g⟩:=h
 refine⟨a,b,c,fun p hp z=> ?_,e,fun i x hx=> ?_⟩
 ·have q:=d p hp z
  rw[<-h1] at q
  exact q
 ·have hd:(N.drop n)[i]? =some x:=by rw[List.getElem?_drop];exact hx
  obtain⟨f1,f2⟩:=f x (List.mem_of_getElem? hd)
  refine⟨f1,f2, ?_⟩
  have q:((N.drop n).map some)[i]? =some (some x):=by rw[List.getElem?_map,hd];rfl
  rw[g,List.getElem?_map] at q
  cases z:fr[i]? with
  | none=>rw[z] at q;cases q
  | some j=>
    rw[z] at q
    refine⟨j,rfl, ?_⟩
    rw[h2]
    exact Option.some.inj q
def cst (n:Nat) (fr:List Nat) (σ:St):St:=List.replicate n none++fr.map fun j=>(σ[j]?).getD none
theorem Px {X:Cx}{n:Nat}{fr:List Nat}{N:List Str}{sc:Scope} (S:Fg X n fr N sc) (ok:X.Ok):closureFor sc X.env=pure (ccl sc X.env):=
 M7 fun p hp e=>ok.has p.1 (S.out p hp e)
section
variable {X:Cx}{n:Nat}{fr:List Nat}{N:List Str}{sc:Scope}{pins:List (Addr×Obj)}{σ:St}{H:Hp}{s:Shared}{fp:List Addr}{h₁:Heap}{tk:Nat}
theorem Py (S:Fg X n fr N sc) (I:Inv X pins σ H s) (hf:∀b∈fp,Ez X pins H b) (hlt:∀b∈fp,b<s.heap.objs.size)
 (hn:h₁.Ns s.heap.objs.size (fun _=>none)) (hk:∀b o,s.heap.get? b=some o->h₁.get? b=some o):
 Inv (lC X N sc pins s.heap.objs.size s H fp) [] (cst n fr σ) H {s with heap:=h₁,toks:=tk}:=by
 have hsub:∀b∈frs X.stack,b∈X.env.locals::X.fs:=I.KR
 refine⟨⟨I.ok.mod, ?_,I.ok.glob,I.ok.blt,Nat.le_refl _,fun x y c h1 h2=> ?_,fun x hx=> ?_,fun x c z=>(by cases z),I.ok.hd,I.ok.frames, .inl rfl,fun b hb=>⟨?_,fun x c e=> ?_⟩,fun b o e=>I.bs b o e,Nat.le_trans I.ok.bsz I.sz,fun b o e hb=> ?_,fun b hb hz=> ?_,I.stack,I.QL⟩,
  rfl,I.bare,Un.kept hk,⟨_,hn,fun i x v e1 e2 e3=> ?_⟩,fun x c e=> ?_,I.hok.fresh (Nat.le_refl _),fun x c e=> ?_,fun p hp=> ?_,I.hok.kept hk, ?_⟩
 ·exact S.kind
 ·exact I.ok.inj x y c (wA h1) (wA h2)
 ·have hx':(relabel sc X.env).names.lookup x=some .cell\/(relabel sc X.env).names.lookup x=some .free:=hx
  have fr':sc.names.lookup x=some .free:=by
   rcases hx' with z | z
   ·rcases uz z with q | ⟨_,q⟩
    ·exact absurd rfl (S.nocell _ (PySem.mem_of_lookup q))
    ·exact q
   ·rcases uz z with q | ⟨q,_⟩
    ·exact q
    ·cases q
  obtain⟨c,hc⟩:=I.ok.has x (S.out _ (PySem.mem_of_lookup fr') rfl)
  exact⟨c,Rh (PySem.mem_of_lookup fr') hc⟩
 ·exact Nat.ne_of_lt (hlt b hb)
 ·exact(hf b hb).2.2.2.2.1 x c (wA e)
 ·rcases(hf b hb).2.2.2.1 with z | z
  ·exact I.ok.noex b o e z
  ·exact absurd (Nat.lt_of_lt_of_le (Heap.lt_size e) (Nat.le_trans I.ok.bsz z)) (Nat.lt_irrefl _)
 ·rcases List.mem_cons.mp (hsub b hz) with z | z
  ·exact(hf b hb).2.1 z
  ·exact(hf b hb).2.2.1 z
 ·have e1':N[i]? =some x:=e1
  have hi:n<=i:=by
   apply Nat.le_of_not_lt
   intro hlt
   unfold cst at e2
   rw[List.getElem?_append_left (by simpa using hlt),List.getElem?_replicate] at e2
   split at e2<;>cases e2
  obtain⟨j,rfl⟩:∃j,i=n+j:=⟨i - n,by omega⟩
  obtain⟨hm,hl,q,hq,hX⟩:=S.free j x e1'
  have e2':(σ[q]?).getD none=some v:=by
   unfold cst at e2
   rw[List.getElem?_append_right (by simp)] at e2
   simp only[List.length_replicate,Nat.add_sub_cancel_left,List.getElem?_map,hq,Option.map_some,Option.some.injEq] at e2
   exact e2
  have hσ:σ[q]? =some (some v):=by
   cases z:σ[q]? with
   | none=>rw[z] at e2';cases e2'
   | some w=>rw[z] at e2';simp only[Option.getD_some] at e2';rw[e2']
  have ko:=S.out _ hm rfl
  have hv:Vis X.env.scope x:=by
   rcases ko with z | z
   ·exact .inr (.inl z)
   ·exact .inr (.inr z)
  obtain⟨m,_,hloc⟩:=I.loc
  obtain⟨u,r,l⟩:=hloc q x v hX hσ hv
  refine⟨u,r, .inr ⟨?_, ?_⟩⟩
  ·exact wB hl
  ·rcases l with⟨k,_⟩ | ⟨_,c,hc,hcell⟩
   ·rcases ko with z | z<;>(rw[k] at z;cases z)
   ·refine⟨c,Rh hm hc, ?_⟩
    obtain⟨o,ho,hd⟩:=hcell
    exact⟨o,hk c o ho,hd⟩
 ·obtain⟨v,o,ho,hd⟩:=I.cell x c (wA e)
  exact⟨v,o,hk c o ho,hd⟩
 ·exact I.u0 x c (wA e)
 ·have hp':p∈X.pn++pins:=by
   have z:p∈(X.pn++pins)++[]:=hp
   rwa [List.append_nil] at z
  obtain⟨e,hn',ne,nf,d⟩:=I.pin p hp'
  refine⟨hk p.1 p.2 e,hn',Nat.ne_of_lt (Heap.lt_size e),fun hz=> ?_,d⟩
  rcases List.mem_cons.mp (hsub p.1 hz) with z | z
  ·exact ne z
  ·exact nf z
 ·show(cst n fr σ).length=N.length
  unfold cst
  rw[List.length_append,List.length_replicate,List.length_map,S.len]
theorem comp_back {C:Addr}{σ':St}{H':Hp}{s':Shared}{pins':List (Addr×Obj)} (I:Inv X pins σ H s) (hf:∀b∈fp,Ez X pins H b) (J:Inv (lC X N sc pins C s H fp) pins' σ' H' s'):Inv X pins σ H' s':=
 I.call' (ch:=fp) J.os J.base J.hok J.bare fun b hb=>⟨(hf b hb).2.2.2.1,(hf b hb).2.1,(hf b hb).2.2.2.2.1,(hf b hb).2.2.2.2.2⟩
end
def U7 (X:Cx) (ifs:List Expr) (t:TT):Prop:=
 ∀(pins:List (Addr×Obj)) (s:Shared) (σ:St) (H:Hp) (Q:Bool->Hp->Prop),Inv X pins σ H s->t σ H Q->
  wpAny (model X.prog X.w) X.A (forIn ifs true fun c r=>if r=true then do let ok <-isTrue c X.env (eval c X.env);pure (ForInStep.yield ok) else pure (ForInStep.yield r)) (TP X pins σ Q) X.xe s
def ZZ:TT:=fun _ H Q=>Q true H
theorem U8 {X:Cx}:U7 X [] ZZ:=fun _ _ _ H _ I h=>wpAny_pure ⟨H,I,h⟩
theorem U9 {X:Cx}{c:Expr}{t:TT} (hc:PT X c t):U7 X [c] t:=by
 intro pins s σ H Q I h
 rw[List.forIn_cons]
 refine wpAny_bind ?_
 rw[if_pos rfl]
 refine wpAny_bind (thn (hc pins s σ H Q I h) fun b s1 q=>wpAny_pure ?_)
 exact wpAny_pure q
def HH (J:It) (g:TG) (tc:TT) (te:TE) (D:Addr) (σ:St) (H:Hp) (Q:VK):Prop:=
 ∃W:Nat->Nat->St->Hp->Prop,(∃m,W 0 m σ H)/\∀i m σ' H',W i m σ' H'->
  (J.stop i H'/\Q (.ref D) H')\/(J.go i H'/\∃N:St->Hp->Prop,(∀σ3 H3,N σ3 H3->∃m',m'<m/\W (i+1) m' σ3 H3)/\∀x H2,J.yld i H' x H2->g x σ' H2 fun σ3 H3=>tc σ3 H3 fun b H4=>
    if b=true then te σ3 H4 fun y H5=>∃ys,H5 D=some (.lst ys)/\ys.length<sizeLine/\N σ3 (upd H5 D (.lst (ys++[y])))
    else N σ3 H4)
def Z0 (wi:TI) (n:Nat) (fr:List Nat) (g:TG) (tc:TT) (te:TE):TE:=fun σ H Q=>wi σ H fun J H1=>∀D,H1 D=none->HH J g tc te D (cst n fr σ) (upd H1 D (.lst [])) Q
section
variable {X:Cx}{n:Nat}{fr:List Nat}{N:List Str}{sc:Scope}{elt tg iter:Expr}{ifs:List Expr}{pos:Pos}{wi:TI}{g:TG}{tc:TT}{te:TE}
theorem Va {pins:List (Addr×Obj)}{σ:St}{H:Hp}{s:Shared}{fp:List Addr}{it:Addr}{tn:Nat->Heap->Prop}{J:It}{Q:VK}{E:Value->Shared->Prop}{RR:Value->Addr->Result->Shared->Prop}
 (hc:X.calm=true) (S:Fg X n fr N sc)
 (hg:∀C s₀ H₀ fp,PG (lC X N sc pins C s₀ H₀ fp) tg g) (hi:∀C s₀ H₀ fp,U7 (lC X N sc pins C s₀ H₀ fp) ifs tc) (he:∀C s₀ H₀ fp,PE (lC X N sc pins C s₀ H₀ fp) elt te)
 (I:Inv X pins σ H s) (T:Turn X.prog X.w X.K tg J fp it tn) (st:tn 0 s.heap) (hf:∀b∈fp,Ez X pins H b)
 (h:∀D,H D=none->HH J g tc te D (cst n fr σ) (upd H D (.lst [])) Q)
 (hR:∀D C H' s',Inv X pins σ H' s'->Ez X pins H' C->(∃m,s'.heap.Ns C m)->Q (.ref D) H'->RR (.ref D) C (.ok .next) s'):
 wpAny (model X.prog X.w) X.A (newList []) (fun acc s₃=>wpAny (model X.prog X.w) X.A (newFunctionEnv sc X.env.globals (ccl sc X.env) [] X.env.qual none .none (some X.env)) (fun cenv s₄=>
  codeAny (model X.prog X.w) X.A (.compStart (.ListComp elt [⟨tg,iter,ifs,0⟩] sc pos) 0 (.ref it) acc {cenv with scope:=relabel sc X.env}) (RR acc cenv.locals) s₄) E s₃) E s:=by
 have hfree:H s.heap.objs.size=none:=I.hok.fresh (Nat.le_refl _)
 have hltf:∀b∈fp,b<s.heap.objs.size:=fun b hb=>by
  obtain⟨o,e,_⟩:=T.obj 0 s.heap st b hb
  exact Heap.lt_size e
 obtain⟨W,⟨m0,w0⟩,turn⟩:=h s.heap.objs.size hfree
 refine wpAny_newObj_type (wpAny_newFunctionEnv S.nocell (by intro y hy;simp at hy) (fun h₁ hns₁ hsb₁=> ?_) S.kind)
 dsimp only at hns₁ hsb₁ ⊢
 have I3:Inv X pins σ (upd H s.heap.objs.size (.lst [])) {s with heap:=s.heap.push {cls:= .type "list",dict:=none,data:= .seq ([]:List Value).toArray}}:=
  I.laid (t':=s.toks) (fun b u e=>Heap.get?_push_of_some _ e) (Nat.le_refl _) ⟨Nat.zero_le _,[],0, .nil,Heap.get?_push_size _ rfl⟩
 have hf3:∀b∈fp,Ez X pins (upd H s.heap.objs.size (.lst [])) b:=fun b hb=>⟨by rw[aq (Nat.ne_of_lt (hltf b hb))];exact(hf b hb).1,(hf b hb).2⟩
 generalize hs3:({s with heap:=s.heap.push {cls:= .type "list",dict:=none,data:= .seq ([]:List Value).toArray}}:Shared)=s3 at *
 have e3:s3.heap=s.heap.push {cls:= .type "list",dict:=none,data:= .seq ([]:List Value).toArray}:=by rw[<-hs3]
 have et:s3.toks=s.toks:=by rw[<-hs3]
 have aeE:∀b∈fp,b<s3.heap.objs.size:=fun b hb=>by rw[e3,Heap.size_push];exact Nat.lt_succ_of_lt (hltf b hb)
 have hk3:∀b o,s3.heap.get? b=some o->h₁.get? b=some o:=fun b o e=>hsb₁.extBut b o (by rw[<-e3];exact Nat.ne_of_lt (Heap.lt_size e)) (by rw[<-e3];exact Heap.get?_push_of_some _ e)
 have ah6:h₁.Ns s3.heap.objs.size (fun _=>none):=by rw[e3];exact hns₁
 have I4:=Py (tk:=s.toks+([]:List (Str×Value)).length) S I3 hf3 aeE ah6 hk3
 have hDk:∀b o,s.heap.get? b=some o->h₁.get? b=some o:=fun b o e=>hk3 b o (by rw[e3];exact Heap.get?_push_of_some _ e)
 have st4:tn 0 h₁:=T.keep 0 s.heap h₁ st fun b hb o e=>hDk b o e
 have hfX:∀{H':Hp},(∀b∈fp,H' b=none)->∀b∈fp,Ez (lC X N sc pins s3.heap.objs.size s3 (upd H s.heap.objs.size (.lst [])) fp) [] H' b:=fun{H'} hn b hb=>by
  refine⟨hn b hb,Nat.ne_of_lt (aeE b hb),fun z=> ?_, .inl hb,fun x c e=>(hf3 b hb).2.2.2.2.1 x c (wA e),fun p hp=> ?_⟩
  ·rcases List.mem_cons.mp (I3.KR b z) with q | q
   ·exact(hf3 b hb).2.1 q
   ·exact(hf3 b hb).2.2.1 q
  ·have hp':p∈(X.pn++pins)++[]:=hp
   rw[List.append_nil] at hp'
   exact(hf3 b hb).2.2.2.2.2 p hp'
 have loop:∀s₄:Shared,s₄={s3 with heap:=h₁,toks:=s.toks+([]:List (Str×Value)).length}->
  codeAny (model X.prog X.w) X.A (.compLoop (.ListComp elt [⟨tg,iter,ifs,0⟩] sc pos) 0 (.ref it) (.ref s.heap.objs.size) (compEnvC sc (ccl sc X.env) s3.heap.objs.size X.env)) (RR (.ref s.heap.objs.size) s3.heap.objs.size) s₄:=by
  rintro s₄ rfl
  refine codeAny_loop rfl (fun k s'=>∃i σ' H',Inv (lC X N sc pins s3.heap.objs.size s3 (upd H s.heap.objs.size (.lst [])) fp) [] σ' H' s'/\tn i s'.heap/\(∀b∈fp,H' b=none)/\W i k σ' H') ?_ m0
   ⟨0,_,_,I4,st4,fun b hb=>(hf3 b hb).1,w0⟩
  rintro k s5 ⟨i,σ5,H5,I5,st5,fr5,w5⟩
  show wpAny _ X.A ((compTurn (.ListComp elt [⟨tg,iter,ifs,0⟩] sc pos) 0 (.ref it) (.ref s.heap.objs.size) (compEnvC sc (ccl sc X.env) s3.heap.objs.size X.env)).onRaise (fun x=>do noteFrame x (compEnvC sc (ccl sc X.env) s3.heap.objs.size X.env);theTreesLotGoes x)) _ _ s5
  refine wpAny_noted ?_
  rw[compTurn_list]
  refine wpAny_bind (wpAny_standAt (wpAny_bind ?_))
  have nev:∀{α:Type}{t:Sem α}{Q₁:α->Shared->Prop}{E₁:Value->Shared->Prop}{s₁:Shared},wpAny (model X.prog X.w) X.A t Q₁ (fun _ _=>False) s₁->wpAny (model X.prog X.w) X.A t Q₁ E₁ s₁:=fun h=>wpAny_noRaise h
  rcases turn i k σ5 H5 w5 with⟨stop,qn⟩ | ⟨go,Nn,hN,step⟩
  ·refine nev (thn (T.done (lC X N sc pins s3.heap.objs.size s3 (upd H s.heap.objs.size (.lst [])) fp) rfl rfl rfl hc i [] s5 σ5 H5 (fun _ _=>False) I5 (hfX fr5) st5 stop) fun r s6 ⟨hr,I6⟩=> ?_)
   subst hr
   have B:Inv X pins σ H5 s6:=comp_back I3 hf3 I6
   refine wpAny_pure (hR _ _ H5 s6 B (I3.JM (Nat.le_refl _) I6.free) ?_ qn)
   obtain⟨m,hm,_⟩:=I6.loc
   exact⟨m,hm⟩
  ·refine nev (thn (T.item (lC X N sc pins s3.heap.objs.size s3 (upd H s.heap.objs.size (.lst [])) fp) rfl rfl rfl hc i [] s5 σ5 H5 (fun _ _=>False) I5 (hfX fr5) st5 go) fun r s6 ⟨u,hr,h6⟩=> ?_)
   subst hr
   refine wpAny_bind (nev (thn h6 fun _ s7 ⟨x,H7,I7,r7,y7,st7,fr7⟩=> ?_))
   have I7':=I7.pinned (hfX fr7) (T.obj _ _ st7)
   refine wpAny_bind (nev (thn (hg _ _ _ _ _ s7 σ5 H7 x u _ I7' r7 (step x H7 y7)) fun _ s8 ⟨σ8,H8,I8,q8⟩=> ?_))
   refine wpAny_bind (nev (thn (hi _ _ _ _ _ s8 σ8 H8 _ I8 q8) fun b s9 ⟨H9,I9,q9⟩=> ?_))
   have fin:∀{s10:Shared}{H10:Hp}{m':Nat},m'<k->Inv (lC X N sc pins s3.heap.objs.size s3 (upd H s.heap.objs.size (.lst [])) fp) ([]++Hw fp s7.heap) σ8 H10 s10->W (i+1) m' σ8 H10->
    ∃m,m<k/\∃i σ' H',Inv (lC X N sc pins s3.heap.objs.size s3 (upd H s.heap.objs.size (.lst [])) fp) [] σ' H' s10/\tn i s10.heap/\(∀b∈fp,H' b=none)/\W i m σ' H':=fun{s10 H10 m'} hm I10 w10=>by
    refine⟨m',hm,i+1,σ8,H10,I10.unpinned,T.keep _ _ _ st7 fun b hb o e=>(I10.pin (b,o) (List.mem_append_right _ (List.mem_append_right _ (wu hb e)))).1,fun b hb=> ?_,w10⟩
    obtain⟨o,e,d⟩:=T.obj _ _ st7 b hb
    exact(I10.pin (b,o) (List.mem_append_right _ (List.mem_append_right _ (wu hb e)))).2.1
   cases b with
   | false=>
     rw[if_neg Bool.false_ne_true] at q9
     obtain⟨m',hm,w9⟩:=hN _ _ q9
     exact wpAny_pure ⟨rfl,fin hm I9 w9⟩
   | true=>
     rw[if_pos rfl] at q9
     refine wpAny_bind (wpAny_bind (nev (thn (he _ _ _ _ _ s9 σ8 H9 _ I9 q9) fun v s10 ⟨y,H10,I10,r10,q10⟩=> ?_)))
     obtain⟨ys,hy,hz,n10⟩:=q10
     obtain⟨m',hm,w10⟩:=hN _ _ n10
     refine wpAny_bind (nev (thn (Kg _ s10 σ8 H10 (.ref s.heap.objs.size) [y] (.ref s.heap.objs.size) [v] (fun z H'=>H'=upd H10 s.heap.objs.size (.lst (ys++[y]))) I10 rfl (.cons r10 .nil) ⟨_,ys,y,rfl,rfl,hy,hz,rfl⟩) fun z s11 ⟨_,H11,I11,_,e11⟩=> ?_))
     subst e11
     exact wpAny_pure (wpAny_pure ⟨rfl,fin hm I11 w10⟩)
 subst hs3
 exact codeAny_compStart_list (loop _ rfl) (T.self _ 0 _ _ _ st4 (loop _ rfl))
theorem Xz (hc:X.calm=true) (S:Fg X n fr N sc) (hit:PI X tg iter wi)
 (hg:∀pins C s₀ H₀ fp,PG (lC X N sc pins C s₀ H₀ fp) tg g) (hi:∀pins C s₀ H₀ fp,U7 (lC X N sc pins C s₀ H₀ fp) ifs tc) (he:∀pins C s₀ H₀ fp,PE (lC X N sc pins C s₀ H₀ fp) elt te)
 (hs:∀x,foldedSetIterable iter X.env x=pure x:=by intro _;rfl):PE X (.ListComp elt [⟨tg,iter,ifs,0⟩] sc pos) (Z0 wi n fr g tc te):=by
 intro pins s σ H Q I h
 rw[eval_ListComp]
 refine wpAny_comprehension_free (use:=none) rfl hs (Px S I.ok) S.kind S.own ?_
 refine thn (hit pins s σ H _ I h) fun v s1 h1=>thn h1 fun itv s2 h2=> ?_
 obtain⟨it,fp,tn,J,H2,e,I2,T,st2,f2,q2⟩:=h2
 subst e
 refine Va (RR:=fun acc C=>compPost (model X.prog X.w) X.A X.xe none (EP X pins σ Q) acc C) hc S (hg pins) (hi pins) (he pins) I2 T st2 f2 q2 fun D C H' s' I' fC hm q=> ?_
 obtain⟨m,hm⟩:=hm
 refine⟨m,hm,fun h' hs'=>⟨.ref D,H',I'.turned (t':=s'.toks) (fun b o hb e=>(hs'.2 b hb).trans e) fC.1 fC.2.1 fC.2.2.2.1 fC.2.2.2.2.1 fC.2.2.2.2.2,rfl,q⟩⟩
end
theorem HJ {lo:Int}{n:Nat}{g:TG}{tc:TT}{te:TE}{σ:St}{H:Hp}{D:Addr}{Q:VK} (Pv:Nat->St->Hp->Prop) (h0:Pv 0 σ (upd H D (.lst [])))
 (hs:∀i σ' H',i<n->Pv i σ' H'->g (.int (lo+i)) σ' H' fun σ3 H3=>tc σ3 H3 fun b H4=>
   if b=true then te σ3 H4 fun y H5=>∃ys,H5 D=some (.lst ys)/\ys.length<sizeLine/\Pv (i+1) σ3 (upd H5 D (.lst (ys++[y]))) else Pv (i+1) σ3 H4) (hd:∀σ' H',Pv n σ' H'->Q (.ref D) H'):
 HH (Itr lo n) g tc te D σ (upd H D (.lst [])) Q:=by
 refine⟨fun i m σ H=>m=n - i/\i<=n/\Pv i σ H,⟨n,by simp,Nat.zero_le _,h0⟩, ?_⟩
 rintro i m σ H ⟨rfl,hi,p⟩
 by_cases hlt:i<n
 ·refine .inr ⟨hlt,Pv (i+1),fun σ' H' p'=>⟨n - (i+1),by omega,rfl,hlt,p'⟩,fun x H' y=> ?_⟩
  obtain⟨e,y⟩:=y
  subst e y
  exact hs i σ _ hlt p
 ·have e:i=n:=by omega
  subst e
  exact .inl ⟨Nat.le_refl _,hd σ H p⟩
theorem Vb {K:PySem.W.Frag}{a:Addr}{xs:List V}{g:TG}{tc:TT}{te:TE}{σ:St}{H:Hp}{D:Addr}{Q:VK} (Pv:Nat->St->Hp->Prop) (h0:Pv 0 σ (upd H D (.lst []))) (hl:∀i σ H,i<=xs.length->Pv i σ H->SqT K H a xs)
 (hs:∀i x σ' H',xs[i]? =some x->Pv i σ' H'->g x σ' H' fun σ3 H3=>tc σ3 H3 fun b H4=>
   if b=true then te σ3 H4 fun y H5=>∃ys,H5 D=some (.lst ys)/\ys.length<sizeLine/\Pv (i+1) σ3 (upd H5 D (.lst (ys++[y]))) else Pv (i+1) σ3 H4) (hd:∀σ' H',Pv xs.length σ' H'->Q (.ref D) H'):
 HH (Itt K a) g tc te D σ (upd H D (.lst [])) Q:=by
 refine⟨fun i m σ H=>m=xs.length - i/\i<=xs.length/\Pv i σ H,⟨xs.length,by simp,Nat.zero_le _,h0⟩, ?_⟩
 rintro i m σ H ⟨rfl,hi,p⟩
 have q:=hl i σ H hi p
 by_cases hlt:i<xs.length
 ·refine .inr ⟨⟨xs,xs[i],q,by simp[hlt]⟩,Pv (i+1),fun σ' H' p'=>⟨xs.length - (i+1),by omega,rfl,hlt,p'⟩,fun x H' y=> ?_⟩
  obtain⟨e,y⟩:=y
  subst e
  exact hs i x σ _ (y xs q) p
 ·have e:i=xs.length:=by omega
  subst e
  exact .inl ⟨⟨xs,q,Nat.le_refl _⟩,hd σ H p⟩
theorem Tn {K:PySem.W.Frag}{a:Addr}{xs:List V}{g:TG}{tc:TT}{te:TE}{σ:St}{H:Hp}{D:Addr}{Q:VK} (Pv:Nat->St->Hp->Prop) (h0:Pv 0 σ (upd H D (.lst []))) (hl:∀i σ H,i<=xs.length->Pv i σ H->SqL K H a xs)
 (hs:∀i x σ' H',xs[i]? =some x->Pv i σ' H'->g x σ' H' fun σ3 H3=>tc σ3 H3 fun b H4=>
   if b=true then te σ3 H4 fun y H5=>∃ys,H5 D=some (.lst ys)/\ys.length<sizeLine/\Pv (i+1) σ3 (upd H5 D (.lst (ys++[y]))) else Pv (i+1) σ3 H4) (hd:∀σ' H',Pv xs.length σ' H'->Q (.ref D) H'):
 HH (Itl K a) g tc te D σ (upd H D (.lst [])) Q:=by
 refine⟨fun i m σ H=>m=xs.length - i/\i<=xs.length/\Pv i σ H,⟨xs.length,by simp,Nat.zero_le _,h0⟩, ?_⟩
 rintro i m σ H ⟨rfl,hi,p⟩
 have q:=hl i σ H hi p
 by_cases hlt:i<xs.length
 ·refine .inr ⟨⟨xs,xs[i],q,by simp[hlt]⟩,Pv (i+1),fun σ' H' p'=>⟨xs.length - (i+1),by omega,rfl,hlt,p'⟩,fun x H' y=> ?_⟩
  obtain⟨e,y⟩:=y
  subst e
  exact hs i x σ _ (y xs q) p
 ·have e:i=xs.length:=by omega
  subst e
  exact .inl ⟨⟨xs,q,Nat.le_refl _⟩,hd σ H p⟩
end L2
namespace L2
open PySem PySem.Spec PyProof.Rows
def aF (sc:Scope) (x:Str):Prop:=Vis sc x/\(x==("__debug__":Str))=false/\(x==("__classdict__":Str))=false
instance {sc:Scope}{x:Str}:Decidable (aF sc x):=by unfold aF Vis;exact inferInstance
instance {sc:Scope}{x:Str}:Decidable (Loc sc x):=by unfold Loc;exact inferInstance
theorem pvx {X:Cx} (i:Nat) {x:Str}{pos:Pos} (v:aF X.env.scope x) (hN:X.N[i]? =some x:=by rfl):PE X (.Name x pos) (aaG i):=aaH hN v.1 v.2.1 v.2.2
def pL (sc:Scope) (x:Str):Prop:=(sc.names.lookup x=some .local\/sc.names.lookup x=some .free)/\(x==("__debug__":Str))=false/\(x==("__classdict__":Str))=false
instance {sc:Scope}{x:Str}:Decidable (pL sc x):=by unfold pL;exact inferInstance
theorem pL.ok {sc:Scope}{env:Env}{x:Str} (h:pL sc x):aF (relabel sc env) x:=by
 obtain⟨h1,h2⟩:=h
 refine⟨?_,h2⟩
 rcases h1 with h1 | h1
 ·exact .inl (lookup_relabel_local h1)
 ·rcases wB (env:=env) h1 with z | z
  ·exact .inr (.inl z)
  ·exact .inr (.inr z)
theorem CT {env:Env}:∀{names:List (Str×NameKind)}{x:Str},names.lookup x=some .globalImplicit->
 (names.map fun(n,k)=>if(k==NameKind.free&&env.scope.kind== .function&&env.kindOf n==some .cell) then(n,NameKind.cell) else(n,k)).lookup x=some .globalImplicit
 |[],_,h=>by simp at h
 | (n,q)::r,x,h=>by
   have ih:=@CT env r x
   rw[List.map_cons]
   cases hx:x==n with
   | true=>
     simp only[List.lookup_cons,hx,Option.some.injEq] at h
     subst h
     simp[List.lookup_cons,hx]
   | false=>
     simp only[List.lookup_cons,hx] at h
     by_cases hc:(q==NameKind.free&&env.scope.kind== .function&&env.kindOf n==some .cell)=true
     ·simpa only[hc,if_true,List.lookup_cons,hx] using ih h
     ·simpa only[hc,if_false,List.lookup_cons,hx,Bool.false_eq_true] using ih h
theorem glC {X:Cx}{N:List Str}{sc:Scope}{pins:List (Addr×Obj)}{C:Addr}{s₀:Shared}{H₀:Hp}{fp:List Addr}{x:Str} (h:sc.names.lookup x=some .globalImplicit):Gl (lC X N sc pins C s₀ H₀ fp) x:=CT h
theorem pgx {X:Cx}{i:Nat}{x:Str}{pos:Pos} (hN:X.N.Nodup) (hx:X.env.scope.names.lookup x=some .local) (hi:X.N[i]? =some x:=by rfl):PG X (.Name x pos) (Ka i):=QZ hN hi (.inl hx) (.inr hx)
theorem K7 {sc:Scope}{env:Env}{x:Str} (h:sc.names.lookup x=some .local):(relabel sc env).names.lookup x=some .local:=lookup_relabel_local h
end L2
set_option maxRecDepth 100000
namespace L2
open PySem PySem.Spec PyProof.Rows
def Vc (_ j:Int):Prop:=0<j/\j.natAbs.log2<9000
theorem Vd {X:Cx}:OpR X (binaryOp .FloorDiv) (rI Vc fun i j=> .int (i / j)):=opI fun i j _ _ _ _ _ hc q=>by
 have h1:(0:Int)<j:=hc.1
 exact floordiv_int (by omega) (by rw[Int.fdiv_eq_ediv_of_nonneg i (by omega)];exact q) (.inl (PyProof.noPylong_of_log2 hc.2))
mutual
inductive qW (K:PySem.W.Frag) (H:Hp):V->PyData->Prop where
 | non:qW K H .non .none
 | bl (b:Bool):qW K H (.bl b) (.bool b)
 | int (i:Int):qW K H (.int i) (.int i)
 | str (x:Str):qW K H (.str x) (.str x)
 | lst {a:Addr}{xs:List V}{ds:List PyData} (h:SqL K H a xs) (r:yp K H xs ds):qW K H (.ref a) (.list ds)
 | tup {a:Addr}{xs:List V}{ds:List PyData} (h:SqT K H a xs) (r:yp K H xs ds):qW K H (.ref a) (.tuple ds)
inductive yp (K:PySem.W.Frag) (H:Hp):List V->List PyData->Prop where
 | nil:yp K H [] []
 | cons {x:V}{d:PyData}{xs:List V}{ds:List PyData} (h:qW K H x d) (r:yp K H xs ds):yp K H (x::xs) (d::ds)
end
theorem pM {K:PySem.W.Frag}{H:Hp}:∀ns:List Str,yp K H (ns.map V.str) (ns.map PyData.str)
 |[]=> .nil
 | n::r=> .cons (.str n) (pM r)
section
variable {X:Cx}{pins:List (Addr×Obj)}{σ:St}{H:Hp}{s:Shared}
mutual
theorem qW.reads (I:Inv X pins σ H s):∀{x:V}{d:PyData}{u:Value},qW X.K H x d->RelV x u->∃as,Reads s.heap u d as
 | _,_,_, .non,r=>by cases(show _=Value.none from r);exact⟨_, .none⟩
 | _,_,_, .bl b,r=>by cases(show _=Value.bool b from r);exact⟨_, .bool b⟩
 | _,_,_, .int i,r=>by obtain⟨t,rfl⟩:=r;exact⟨_, .int i t⟩
 | _,_,_, .str x,r=>by obtain⟨t,rfl⟩:=r;exact⟨_, .str x t⟩
 | _,_,_, .lst h q,r=>by
   cases(show _=Value.ref _ from r)
   obtain⟨its,rv,⟨o,n,e,c,_,d⟩,_⟩:=I.list h
   obtain⟨as,hr⟩:=yp.reads I q rv
   exact⟨_, .list e c d (by simpa using hr)⟩
 | _,_,_, .tup h q,r=>by
   cases(show _=Value.ref _ from r)
   obtain⟨its,rv,⟨o,e,c,n,d⟩,_⟩:=I.tuple h
   obtain⟨as,hr⟩:=yp.reads I q rv
   exact⟨_, .tuple e c d (by simpa using hr)⟩
theorem yp.reads (I:Inv X pins σ H s):∀{xs:List V}{ds:List PyData}{us:List Value},yp X.K H xs ds->Vals xs us->∃as,ReadsAll s.heap us ds as
 | _,_,_, .nil, .nil=>⟨_, .nil⟩
 | _,_,_, .cons h r, .cons q t=>by
   obtain⟨as,h1⟩:=qW.reads I h q
   obtain⟨bs,h2⟩:=yp.reads I r t
   exact⟨_, .cons h1 h2⟩
end
end
def XC (K:PySem.W.Frag) (neg:Bool):R2:=fun x y H Q=>∃d e,qW K H x d/\qW K H y e/\SeqAt.shaped d=true/\SeqAt.shaped e=true/\Q (.bl (if neg then !PyData.eqv d e else PyData.eqv d e)) H
theorem Ve {X:Cx} (hu:X.A.units+64<cLine):OpR X (compareOp .Eq) (XC X.K false):=by
 intro pins s σ H x y v u Q I rx ry h
 obtain⟨d,e,hd,he,sd,se,q⟩:=h
 obtain⟨as,h1⟩:=hd.reads I rx
 obtain⟨bs,h2⟩:=he.reads I ry
 exact eq_dataH h1 h2 sd se hu ⟨.bl _,H,I,rfl,q⟩
theorem Vf {X:Cx} (hu:X.A.units+64<cLine):OpR X (compareOp .NotEq) (XC X.K true):=by
 intro pins s σ H x y v u Q I rx ry h
 obtain⟨d,e,hd,he,sd,se,q⟩:=h
 obtain⟨as,h1⟩:=hd.reads I rx
 obtain⟨bs,h2⟩:=he.reads I ry
 exact ne_dataH h1 h2 sd se hu ⟨.bl _,H,I,rfl,q⟩
theorem Vg {X:Cx}:rP X (.builtin "isinstance") (fun xs H Q=>∃x T t b,xs=[x, .ty T]/\tL X.K H x t/\PySem.W.kitOne X.K t (.type T)=some b/\Q (.bl b) H):=by
 intro pins s σ H xs us Q I r h
 obtain⟨x,T,t,b,rfl,ty,e,q⟩:=h
 obtain⟨u,v,rfl,r1,r2⟩:=Vals.two r
 cases(show v=Value.type T from r2)
 exact Sy I r1 ty e fun tk=>⟨.bl b,H,I.tok tk,rfl,q⟩
theorem pN:bootBuiltins "len"=some (.builtin "len"):=by decide +kernel
theorem gH:bootBuiltins "isinstance"=some (.builtin "isinstance"):=by decide +kernel
theorem Vh:bootBuiltins "max"=some (.builtin "max"):=by decide +kernel
theorem Tp:bootBuiltins "sorted"=some (.builtin "sorted"):=by decide +kernel
theorem abw:bootBuiltins "all"=some (.builtin "all"):=by decide +kernel
theorem Pz:bootBuiltins "int"=some (.type "int"):=by decide +kernel
theorem Vi:bootBuiltins "str"=some (.type "str"):=by decide +kernel
theorem Ri:bootBuiltins "bool"=some (.type "bool"):=by decide +kernel
theorem CV:bootBuiltins "list"=some (.type "list"):=by decide +kernel
theorem CW:bootBuiltins "tuple"=some (.type "tuple"):=by decide +kernel
theorem wC:bootBuiltins "dict"=some (.type "dict"):=by decide +kernel
theorem K8:bootBuiltins "enumerate"=some (.type "enumerate"):=by decide +kernel
theorem abx:bootBuiltins "zip"=some (.type "zip"):=by decide +kernel
end L2
set_option maxRecDepth 100000
namespace L2
open PySem PySem.Spec PyProof.Rows
structure QE (X:Cx) (e:Expr) (t:TE):Prop where
 h:PE X e t
structure QT (X:Cx) (e:Expr) (t:TT):Prop where
 h:PT X e t
structure QW (X:Cx) (e:Expr) (t:TT):Prop where
 h:PW X e t
structure QA (X:Cx) (es:List Expr) (t:TA):Prop where
 h:PA X es t
structure QS (X:Cx) (s:Stmt) (t:TS):Prop where
 h:PS X s t
structure QSs (X:Cx) (s:List Stmt) (t:TS):Prop where
 h:PSs X s t
structure QG (X:Cx) (e:Expr) (t:TG):Prop where
 h:PG X e t
structure QGs (X:Cx) (es:List Expr) (t:TGs):Prop where
 h:PGs X es t
structure QI (X:Cx) (tg e:Expr) (t:TI):Prop where
 h:PI X tg e t
structure QO (X:Cx) (e:Option Expr) (t:TO):Prop where
 h:PO X e t
structure aby (X:Cx) (es:List Expr) (t:TT):Prop where
 h:U7 X es t
structure QPs (X:Cx) (pos:Pos) (ks:List (Option Expr)) (vs:List Expr) (t:List (TE×TE)):Prop where
 h:PPs X pos ks vs t
structure QOp (X:Cx) (f:Value->Value->Sem Value) (r:R2):Prop where
 h:OpR X f r
structure QUn (X:Cx) (f:Value->Sem Value) (r:V->Hp->VK->Prop):Prop where
 h:UnR X f r
structure QIx (X:Cx) (r:R2):Prop where
 h:IxR X r
structure QSl (X:Cx) (r:V->Option Int->Option Int->Hp->VK->Prop):Prop where
 h:SlR X r
structure QMt (X:Cx) (id:String) (r:V->List V->Hp->VK->Prop):Prop where
 h:MtR X id r
structure qK (X:Cx) (f:Value) (r:List V->Hp->VK->Prop):Prop where
 h:rP X f r
section
variable {X:Cx}{a b c e:Expr}{es:List Expr}{ta tb te:TE}{tA tB':TT}{pos p:Pos}{x:Str}
theorem aj (i:Nat) (v:aF X.env.scope x) (hN:X.N[i]? =some x:=by rfl):QE X (.Name x pos) (aaG i):=⟨pvx i v hN⟩
theorem aA {i j pos}:QE X (.Constant (.int i) j pos) (tC (.int i)):=⟨aaI⟩
theorem Rj {b j pos}:QE X (.Constant (.bool b) j pos) (tC (.bl b)):=⟨ad5⟩
theorem PB {j pos}:QE X (.Constant .none j pos) (tC .non):=⟨aaJ⟩
theorem bO {x j pos}:QE X (.Constant (.str x) j pos) (tC (.str x)):=⟨aaK⟩
theorem qX {v:V}{u:Value} (hg:Gl X x) (hm:X.mg x=none) (hv:bootBuiltins x=some u) (r:RelV v u) (hn:x≠"__name__") (hd:(x==("__debug__":Str))=false):QE X (.Name x pos) (tC v):=⟨W3 hg hm hv r hn hd⟩
theorem cI {op:Operator}{r:R2} (ho:QOp X (binaryOp op) r) (ha:QE X a ta) (hb:QE X b tb):QE X (.BinOp a op b pos) (tOp r ta tb):=⟨aeg ho.h ha.h hb.h⟩
theorem M8 {op:UnaryOp}{r:V->Hp->VK->Prop} (ho:QUn X (unaryOp op) r) (ha:QE X a ta):QE X (.UnaryOp op a pos) (tUn r ta):=⟨aeh ho.h ha.h⟩
theorem wD {op:CmpOp}{r:R2} (ho:QOp X (compareOp op) r) (ha:QE X a ta) (hb:QE X b tb) (hm:behindInMarks op b=false):QE X (.Compare a [op] [b] pos) (tOp r ta tb):=⟨Xc ho.h ha.h hb.h hm⟩
theorem cC {op:CmpOp}{r:R2} (ho:QOp X (compareOp op) r) (ha:QE X a ta) (hb:QE X b tb) (hm:behindInMarks op b=false):QT X (.Compare a [op] [b] pos) (ZM (tOp r ta tb)):=⟨Xd ho.h ha.h hb.h hm⟩
theorem rT (h:QE X e te) (he:∀whole,isTrue e X.env whole=(do let v <-whole;standAt e.pos;holding [v] (truthy v)):=by intro _;rfl):QT X e (tB te):=⟨aaL h.h he⟩
theorem HN (ha:QE X a ta) (he:∀whole,isTrue a X.env whole=(do let v <-whole;standAt a.pos;holding [v] (truthy v)):=by intro _;rfl):QT X a (fun σ H Q=>ta σ H fun x H1=>∃k,aa8 X.K x H1 k/\Q k H1):=⟨Up ha.h he⟩
theorem HQ (ha:QT X a tA):QT X (.UnaryOp .Not a pos) (ad7 tA):=⟨aaO ha.h⟩
theorem abz (ha:QE X a ta):QE X (.UnaryOp .Not a pos) (ZD ta):=⟨aaR ha.h⟩
theorem zE (ha:QT X a tA):QW X (.BoolOp .And [a] pos) tA:=⟨W4 ha.h⟩
theorem HR (ha:QT X a tA):QW X (.BoolOp .Or [a] pos) tA:=⟨aaM ha.h⟩
theorem Fi {rest:List Expr} (ha:QT X a tA) (hb:QW X (.BoolOp .And (b::rest) pos) tB'):QW X (.BoolOp .And (a::b::rest) pos) (ad6 tA tB'):=⟨aaN ha.h hb.h⟩
theorem Kp {rest:List Expr} (ha:QT X a tA) (hb:QW X (.BoolOp .Or (b::rest) pos) tB'):QW X (.BoolOp .Or (a::b::rest) pos) (tOr tA tB'):=⟨ad8 ha.h hb.h⟩
theorem HS (h:QW X e tA):QT X e tA:=⟨h.h.pt⟩
theorem HW {op} (h:QE X a ta):QE X (.BoolOp op [a] pos) ta:=⟨aaP h.h⟩
theorem Fj {rest:List Expr} (ha:QE X a ta) (hb:QE X (.BoolOp .And (b::rest) pos) tb):QE X (.BoolOp .And (a::b::rest) pos) (ZC ta tb):=⟨aaQ ha.h hb.h⟩
theorem Vj (hc:QT X c tA) (ha:QE X a ta) (hb:QE X b tb):QE X (.IfExp c a b pos) (tIf tA ta tb):=⟨Ud hc.h ha.h hb.h⟩
theorem az:QA X [] Xg:=⟨abe⟩
theorem mG {t:TA} (ha:QE X e te) (hr:QA X es t) (hs:starEach (e::es) X.env=(false,eval e X.env)::starEach es X.env:=by rfl):QA X (e::es) (rQ te t):=⟨Xh ha.h hr.h hs⟩
theorem fM {x1}{t:TA} (h:QA X es t):QE X (.Tuple es x1 pos) (aeq t):=⟨abf h.h⟩
theorem gh {t:TA} (h:QA X es t):QE X (.List es pos) (aer t):=⟨abg h.h⟩
theorem aO {r:R2} (hr:QIx X r) (ha:QE X a ta) (hb:QE X b tb) (hs:Q8 b:=by intro _ _;rfl):QE X (.Subscript a b pos) (tOp r ta tb):=⟨aet hr.h ha.h hb.h hs⟩
theorem K9:QO X none Q7:=⟨Xl⟩
theorem La (h:QE X e te):QO X (some e) (ZR te):=⟨Xm h.h⟩
theorem HX {r:V->Option Int->Option Int->Hp->VK->Prop}{lo hi:Option Expr}{tl th:TO}{p2:Pos} (hr:QSl X r) (he:QE X e te) (hl:QO X lo tl) (hu:QO X hi th):QE X (.Subscript e (.Slice lo hi none p2) pos) (tSl r te tl th):=⟨Uv hr.h he.h hl.h hu.h⟩
theorem cZ (hu:X.A.units+1<cLine) (ho:QE X a ta) (hi:QE X b tb) (hs:abp b:=by intro _ _;rfl):QE X (.Subscript a b pos) (ZV ta tb):=⟨Xu hu ho.h hi.h hs⟩
theorem abA:QPs X pos [] [] []:=⟨Xw⟩
theorem Lb {k v:Expr}{ks:List (Option Expr)}{vs:List Expr}{tk tv:TE}{trs:List (TE×TE)} (hk:QE X k tk) (hv:QE X v tv) (hr:QPs X pos ks vs trs):QPs X pos (some k::ks) (v::vs) ((tk,tv)::trs):=⟨UL hk.h hv.h hr.h⟩
theorem XD {keys:List (Option Expr)}{values:List Expr}{trs:List (TE×TE)} (h:QPs X pos keys values trs) (hall:keys.all (·.isSome)=true:=by rfl) (hl:keys.length=values.length:=by rfl) (h1:keys≠[]:=by intro z;cases z) (h2:keys.length<=15:=by decide):QE X (.Dict keys values pos) (ZX trs):=⟨Xx h.h hall hl h1 h2⟩
theorem aJ {CX:CXT}{k:Nat}{f:Addr}{fd:FuncData}{ps:List Str}{sp:Sp}{dvs:List V}{ds:List Value}{E:XK}{t:TA} (F:aX X.prog X.w X.K X.mg X.base CX k f fd ps sp) (hr:m5 k X.A) (hg:Gl X x) (hm:X.mg x=some (.ref f)) (hk:PySem.W.keepIn X.K (.ref f)=true) (hb:Binds X.K fd ps ds) (hd:Vals dvs ds) (hx:Passes CX X E)
 (ha:QA X (e::es) t) (hdb:(x==("__debug__":Str))=false) (he:starEach (e::es) X.env=(false,eval e X.env)::starEach es X.env:=by rfl) (hpl:(backTo pos (starEach es X.env)).any (·.1)=false:=by rfl):
 QE X (.Call (.Name x p) (e::es) [] pos) (ZP sp dvs E t):=⟨Xi F hr hg hm hk hb hd hx ha.h hdb he hpl⟩
theorem cX {id:String}{r:List V->Hp->VK->Prop}{t:TA} (hc:qK X (.builtin id) r) (hg:Gl X x) (hm:X.mg x=none) (hv:bootBuiltins x=some (.builtin id)) (ha:QA X (e::es) t) (hn:x≠"__name__") (hdb:(x==("__debug__":Str))=false)
 (he:starEach (e::es) X.env=(false,eval e X.env)::starEach es X.env:=by rfl) (hpl:(backTo pos (starEach es X.env)).any (·.1)=false:=by rfl):QE X (.Call (.Name x p) (e::es) [] pos) (tCB r t):=⟨Uu hc.h hg hm hv ha.h hn hdb he hpl⟩
theorem iR {T:String}{r:List V->Hp->VK->Prop}{t:TA} (hc:qK X (.type T) r) (hg:Gl X x) (hm:X.mg x=none) (hv:bootBuiltins x=some (.type T)) (ha:QA X (e::es) t) (hn:x≠"__name__") (hdb:(x==("__debug__":Str))=false)
 (he:starEach (e::es) X.env=(false,eval e X.env)::starEach es X.env:=by rfl) (hpl:(backTo pos (starEach es X.env)).any (·.1)=false:=by rfl):QE X (.Call (.Name x p) (e::es) [] pos) (tCB r t):=⟨SM hc.h hg hm hv ha.h hn hdb he hpl⟩
theorem Fl {o:Expr}{to:TE}{name:Str}{apos cpos:Pos}{T id:String}{r:V->List V->Hp->VK->Prop} (pa:PlainAttrs T) (slot:Slot T name id) (hty:typeOf (.builtin id)=pure (.type "method_descriptor")) (hm:QMt X id r) (ho:QE X o to)
 (hbase:attributeBase o name X.env (eval o X.env)=eval o X.env:=by rfl) (hline:(apos.endLine==cpos.line)=true:=by rfl):QE X (.Call (.Attribute o name apos) [] [] cpos) (aew X.K T r to):=⟨abm pa slot hty hm.h ho.h hbase hline⟩
theorem u9 {o:Expr}{to:TE}{name:Str}{apos cpos:Pos}{T id:String}{r:V->List V->Hp->VK->Prop}{t:TA} (pa:PlainAttrs T) (slot:Slot T name id) (hty:typeOf (.builtin id)=pure (.type "method_descriptor")) (hm:QMt X id r) (ho:QE X o to) (ha:QA X (e::es) t)
 (hbase:attributeBase o name X.env (eval o X.env)=eval o X.env:=by rfl)
 (hfew:((backTo cpos (starEach (e::es) X.env)).all (fun x=> !x.1)&&(backToKw cpos (keywordEach [] X.env)).all (fun x=>x.1.isSome)
   &&decide ((e::es).length+([]:List Keyword).length+(if([]:List Keyword).isEmpty then 0 else 1)<30))=true:=by rfl)
 (hline:(apos.endLine==cpos.line)=true:=by rfl) (hs:starEach (e::es) X.env=(false,eval e X.env)::starEach es X.env:=by rfl) (hplain:(backTo cpos (starEach es X.env)).any (·.1)=false:=by rfl):
 QE X (.Call (.Attribute o name apos) (e::es) [] cpos) (tBM X.K T r to t):=⟨aex pa slot hty hm.h ho.h ha.h hbase hfew hline hs hplain⟩
theorem tY {n:Nat}{fr:List Nat}{N:List Str}{sc:Scope}{elt tg iter:Expr}{ifs:List Expr}{wi:TI}{g:TG}{tc:TT} (hc:X.calm=true) (S:Fg X n fr N sc) (hit:QI X tg iter wi)
 (hg:∀pins C s₀ H₀ fp,QG (lC X N sc pins C s₀ H₀ fp) tg g) (hi:∀pins C s₀ H₀ fp,aby (lC X N sc pins C s₀ H₀ fp) ifs tc) (he:∀pins C s₀ H₀ fp,QE (lC X N sc pins C s₀ H₀ fp) elt te)
 (hs:∀x,foldedSetIterable iter X.env x=pure x:=by intro _;rfl):QE X (.ListComp elt [⟨tg,iter,ifs,0⟩] sc pos) (Z0 wi n fr g tc te):=
 ⟨Xz hc S hit.h (fun a b c d e=>(hg a b c d e).h) (fun a b c d e=>(hi a b c d e).h) (fun a b c d e'=>(he a b c d e').h) hs⟩
theorem PJ:aby X [] ZZ:=⟨U8⟩
theorem HY {t:TT} (h:QT X c t):aby X [c] t:=⟨U9 h.h⟩
theorem Ld {tg l:Expr}{tl:TE} (hl:QE X l tl):QI X tg l (ZK X.K tl):=⟨Xb hl.h⟩
theorem abB {tg l:Expr}{tl:TE} (hl:QE X l tl):QI X tg l (aee X.K tl):=⟨aaX hl.h⟩
theorem vd {tg:Expr}{t:TA} (hg:Gl X "range") (hm:X.mg "range"=none) (ha:QA X [a] t) (hs:starEach [a] X.env=[(false,eval a X.env)]:=by rfl):QI X tg (.Call (.Name "range" p) [a] [] pos) (ZL t):=⟨Sq hg hm ha.h hs⟩
theorem jx {i:Nat} (hN:X.N.Nodup) (hi:X.N[i]? =some x) (hx:Loc X.env.scope x) (hf:X.fn x=true\/X.env.scope.names.lookup x=some .local:=by first | exact .inl rfl | exact .inr rfl | assumption):QG X (.Name x pos) (Ka i):=⟨QZ hN hi hx hf⟩
theorem qgx {i:Nat} (hN:X.N.Nodup) (hx:X.env.scope.names.lookup x=some .local) (hi:X.N[i]? =some x:=by rfl):QG X (.Name x pos) (Ka i):=⟨pgx hN hx hi⟩
theorem CZ:QGs X [] aed:=⟨W9⟩
theorem lO {t:TG}{u:TGs} (h1:QG X e t) (h2:QGs X es u) (hs:(assignEach (e::es) X.env).map (·.2)=assign e X.env::(assignEach es X.env).map (·.2):=by rfl):QGs X (e::es) (ZJ t u):=⟨Ui h1.h h2.h hs⟩
theorem PK {k n:Nat}{t:TGs} (hc:X.calm=true) (h:QGs X es t) (hn:(assignEach es X.env).length=n:=by rfl) (hst:(assignEach es X.env).findIdx? (·.1)=none:=by rfl):QG X (.Tuple es k pos) (aaT X.K n t):=⟨aaU hc h.h hn hst⟩
theorem PL {tg:Expr}{g:TG} (he:QE X e te) (hg:QG X tg g) (hs:swapsWithSole [tg] e pos.line X.env=pure false:=by rfl) (hw:swappedStores [tg] e X.env=pure none:=by rfl)
 (h1:(assignEach [tg] X.env).map (·.2)=[assign tg X.env]:=by rfl):QS X (.Assign [tg] e pos) (Xa te g):=⟨aaV he.h hg.h hs hw h1⟩
theorem bG {i:Nat}{pos':Pos} (hN:X.N.Nodup) (hi:X.N[i]? =some x) (hx:Loc X.env.scope x) (he:QE X e te) (hs:swapsWith e (some (.Name x pos')) pos.line X.env=pure false:=by rfl) (hf:X.fn x=true\/X.env.scope.names.lookup x=some .local:=by first | exact .inl rfl | exact .inr rfl | assumption):
 QS X (.Assign [.Name x pos'] e pos) (Xa te (Ka i)):=⟨aaW hN hi hx he.h hs hf⟩
theorem gm {o i v:Expr}{td ty tv:TE}{pos':Pos} (hu:X.A.units+1<cLine) (ho:QE X o td) (hi:QE X i ty) (hv:QE X v tv) (hs:swapsWith v (some (.Subscript o i pos')) pos.line X.env=pure false:=by rfl):QS X (.Assign [.Subscript o i pos'] v pos) (ZW td ty tv):=⟨Xv hu ho.h hi.h hv.h hs⟩
theorem fP (he:QE X e te) (hs:swapsWith e none pos.line X.env=pure false:=by rfl):QS X (.Expr e pos) (ZG te):=⟨W8 he.h hs⟩
theorem aW (he:QE X e te):QS X (.Return (some e) pos) (aea te):=⟨aaS he.h⟩
theorem XF:QS X (.Pass pos) QX:=⟨W7⟩
theorem M9:QS X (.Continue pos) ZF:=⟨MK⟩
theorem cM {s1 s2:List Stmt}{t u:TS} (hc:QT X c tA) (ha:QSs X s1 t) (hb:QSs X s2 u):QS X (.If c s1 s2 pos) (aeb tA t u):=⟨aec hc.h ha.h hb.h⟩
theorem Ia {body:List Stmt}{tb:TS} (hp:PassesOwn (model X.prog X.w) X.A X.env X.xe) (hc:QT X c tA) (hb:QSs X body tb):QS X (.While c body [] pos) (Uj tA tb):=⟨Uk hp hc.h hb.h⟩
theorem wF {tg iter:Expr}{body:List Stmt}{wi:TI}{g:TG}{tb:TS} (hp:PassesOwn (model X.prog X.w) X.A X.env X.xe) (hc:X.calm=true) (hi:QI X tg iter wi) (hg:QG X tg g) (hb:QSs X body tb)
 (hs:∀x,foldedSetIterable iter X.env x=pure x:=by intro _;rfl):QS X (.For tg iter body [] pos) (aef wi g tb):=⟨aaY hp hc hi.h hg.h hb.h hs⟩
theorem bJ:QSs X [] QX:=⟨W5⟩
theorem au {s:Stmt}{rest:List Stmt}{t u:TS} (h1:QS X s t) (h2:QSs X rest u):QSs X (s::rest) (ad9 t u):=⟨Ue h1.h h2.h⟩
theorem aD {s:Stmt}{t:TS} (h1:QS X s t):QSs X [s] t:=⟨W6 h1.h⟩
theorem jK:QOp X (binaryOp .Add) (rI0 fun i j=> .int (i+j)):=⟨aa0⟩
theorem oO:QOp X (binaryOp .Sub) (rI0 fun i j=> .int (i - j)):=⟨aa1⟩
theorem qY:QOp X (binaryOp .Mult) (rI Fb fun i j=> .int (i * j)):=⟨aa2⟩
theorem nQ:QOp X (binaryOp .Mod) (rI (fun _ j=>0<j) fun i j=> .int (i % j)):=⟨aa3⟩
theorem Dc:QOp X (binaryOp .FloorDiv) (rI Vc fun i j=> .int (i / j)):=⟨Vd⟩
theorem Lf:QOp X (binaryOp .Pow) (rI Um fun i j=> .int (i ^ j.toNat)):=⟨aa4⟩
theorem Nb:QOp X (binaryOp .Add) (fun x y H Q=>∃i j,x= .str i/\y= .str j/\i.length+j.length<=sizeLine/\Q (.str (i++j)) H):=⟨O9⟩
theorem XH:QOp X (binaryOp .Add) aez:=⟨abo⟩
theorem Dd:QUn X (unaryOp .USub) (rU fun i=> .int (-i)):=⟨aa5⟩
theorem dY:QOp X (compareOp .Eq) rEq:=⟨ael⟩
theorem Lg:QOp X (compareOp .NotEq) rNe:=⟨aem⟩
theorem Vk:QOp X (compareOp .Lt) (rI0 fun i j=> .bl (decide (i<j))):=⟨aen⟩
theorem PN:QOp X (compareOp .Gt) (rI0 fun i j=> .bl (decide (j<i))):=⟨aeo⟩
theorem XJ:QOp X (compareOp .Is) (fun x y H Q=>y= .non/\Q (.bl (decide (x= .non))) H):=⟨aa6⟩
theorem XM (hu:X.A.units+64<cLine):QOp X (compareOp .Eq) (XC X.K false):=⟨Ve hu⟩
theorem Rk (hu:X.A.units+64<cLine):QOp X (compareOp .NotEq) (XC X.K true):=⟨Vf hu⟩
theorem PX:QOp X (compareOp .In) (rIn X.K false):=⟨SQ⟩
theorem cO:QIx X (abh X.K):=⟨Xo⟩
theorem aK:QIx X (abi X.K):=⟨abj⟩
theorem Ro:QIx X aeu:=⟨abk⟩
theorem Ib:QSl X (aev X.K):=⟨Xp⟩
theorem jB:QMt X "list.append" Q9:=⟨Kg⟩
theorem Bf:QMt X "list.extend" Ra:=⟨Tc⟩
theorem zF:QMt X "list.pop" aey:=⟨abn⟩
theorem jC:qK X (.builtin "len") (fun xs H Q=>∃p ys,xs=[.ref p]/\(SqL X.K H p ys\/SqT X.K H p ys)/\Q (.int ys.length) H):=⟨K3⟩
theorem Rp:qK X (.builtin "len") (fun xs H Q=>∃a kvs,xs=[V.ref a]/\H a=some (.dK kvs)/\Q (.int kvs.length) H):=⟨Tj⟩
theorem yq:qK X (.builtin "isinstance") (fun xs H Q=>∃x T t b,xs=[x, .ty T]/\tL X.K H x t/\PySem.W.kitOne X.K t (.type T)=some b/\Q (.bl b) H):=⟨Vg⟩
theorem Rq:qK X (.type "int") (fun xs H Q=>∃k,xs=[.bl k]/\Q (.int (if k then 1 else 0)) H):=⟨fun pins s σ H xs us Q I r h=>Sv pins s σ H xs us Q I r (.inr h)⟩
theorem Ie:qK X (.type "list") (fun xs H Q=>∃p ys,xs=[.ref p]/\(SqL X.K H p ys\/SqT X.K H p ys)/\∀l,H l=none->Q (.ref l) (upd H l (.lst ys))):=⟨K4⟩
theorem Nf:qK X (.type "tuple") (fun xs H Q=>∃p ys,xs=[.ref p]/\SqL X.K H p ys/\∀l,H l=none->Q (.ref l) (upd H l (.tup ys))):=⟨fun pins s σ H xs us Q I r h=>JP pins s σ H xs us Q I r (let ⟨p,ys,e,hs,q⟩:=h;⟨p,ys,e, .inl ⟨hs,q⟩⟩)⟩
theorem aV (b:Expr) {op:CmpOp} (h:op≠ .In:=by decide) (h2:op≠ .NotIn:=by decide):behindInMarks op b=false:=aa7 b h h2
theorem Fo {K:PySem.W.Frag} (e:X.K=K):QIx X (abh K):=e▸cO
theorem Ng {K:PySem.W.Frag} (e:X.K=K):QIx X (abi K):=e▸aK
theorem GD {K:PySem.W.Frag} (e:X.K=K):qK X (.builtin "len") (fun xs H Q=>∃p ys,xs=[.ref p]/\(SqL K H p ys\/SqT K H p ys)/\Q (.int ys.length) H):=e▸jC
theorem XN {K:PySem.W.Frag} (e:X.K=K):qK X (.builtin "isinstance") (fun xs H Q=>∃x T t b,xs=[x, .ty T]/\tL K H x t/\PySem.W.kitOne K t (.type T)=some b/\Q (.bl b) H):=e▸yq
end
end L2
set_option maxRecDepth 100000
namespace L2
open PySem PySem.Spec PyProof.Rows
theorem Tq {X:Cx} (hc:X.calm=true):rP X (.builtin "all") (fun xs H Q=>∃(p:Addr) (bs:List Bool),xs=[V.ref p]/\SqL X.K H p (bs.map V.bl)/\Q (.bl (bs.all id)) H):=by
 intro pins s σ H xs us Q I r h
 obtain⟨p,bs,rfl,hp,q⟩:=h
 obtain⟨u,rfl,ru⟩:=Vals.one r
 cases(show u=Value.ref p from ru)
 obtain⟨its,rv,pl,hz⟩:=I.list hp
 have hlt:p<s.heap.objs.size:=by obtain⟨o,n,e,_⟩:=pl;exact Heap.lt_size e
 have hlen:its.length=bs.length:=by rw[<-rv.length,List.length_map]
 refine call_all_walk (wpAny_pyIter_list pl.isList ?_)
 refine⟨s.heap.objs.size,_,_,its.toArray.size,(fun i v=>its.toArray[i]? =some v),_,(fun i=>bs.getD i false),rfl,Walks.list (A:=X.A.in1) (I.ok.hd hc) s.heap.objs.size p (Nat.ne_of_lt hlt) its.toArray,⟨⟨_,Heap.get?_push_size _ rfl,rfl,rfl⟩,pl.isList.push _⟩, ?_, ?_⟩
 ·intro i v s' Q' E' hv hq
  have hi:i<bs.length:=by
   rw[<-hlen]
   have:=(Array.getElem?_eq_some_iff.mp hv).1
   simpa using this
  obtain⟨u,hu,ru⟩:=rv.get (i:=i) (x:=V.bl bs[i]) (by rw[List.getElem?_map,List.getElem?_eq_getElem hi];rfl)
  have hv':its[i]? =some v:=by simpa using hv
  rw[hu] at hv'
  cases hv'
  cases(show v=Value.bool _ from ru)
  refine wpAny_truthy_bool ?_
  have e:bs.getD i false=bs[i]:=by rw[List.getD_eq_getElem?_getD,List.getElem?_eq_getElem hi];rfl
  have hq':Q' (bs.getD i false) s':=hq
  rw[e] at hq'
  exact hq'
 ·intro h' tk hk
  have e:(List.range its.toArray.size).all (fun i=>bs.getD i false)=bs.all id:=by
   rw[List.size_toArray,hlen]
   rw[Bool.eq_iff_iff,List.all_eq_true,List.all_eq_true]
   constructor
   ·intro h b hb
    obtain⟨i,hi,rfl⟩:=List.mem_iff_getElem.mp hb
    have:=h i (List.mem_range.mpr hi)
    rw[List.getD_eq_getElem?_getD,List.getElem?_eq_getElem hi] at this
    exact this
   ·intro h i hi
    have hi':=List.mem_range.mp hi
    rw[List.getD_eq_getElem?_getD,List.getElem?_eq_getElem hi']
    exact h _ (List.getElem_mem hi')
  rw[e]
  refine⟨.bl _,H,I.kept (t':=tk) fun b o eb=>hk b o ?_ (Heap.get?_push_of_some _ eb),rfl,q⟩
  intro z
  have:b=s.heap.objs.size:=by simpa using z
  exact absurd (Heap.lt_size eb) (by rw[this];exact Nat.lt_irrefl _)
section
variable {X:Cx}{a b c e:Expr}{ta tb tc te:TE}{pos:Pos}
theorem XQ (hc:X.calm=true):qK X (.builtin "all") (fun xs H Q=>∃(p:Addr) (bs:List Bool),xs=[V.ref p]/\SqL X.K H p (bs.map V.bl)/\Q (.bl (bs.all id)) H):=⟨Tq hc⟩
end
end L2
set_option maxRecDepth 100000
namespace RB
open PySem L2 PySem.Spec PyProof.Rows
def But (S:List Addr) (H H':Hp):Prop:=∀b o,b∉S->H b=some o->H' b=some o
theorem But.refl (S:List Addr) (H:Hp):But S H H:=fun _ _ _ h=>h
theorem But.trans {S:List Addr}{H H1 H2:Hp} (a:But S H H1) (b:But S H1 H2):But S H H2:=fun c o n h=>b c o n (a c o n h)
theorem But.mono {S S':List Addr}{H H':Hp} (a:But S H H') (h:∀b∈S,b∈S'):But S' H H':=fun c o n q=>a c o (fun z=>n (h c z)) q
theorem But.new {S:List Addr}{H:Hp}{p:Addr} (o:HO) (h:H p=none):But S H (upd H p o):=fun b u _ q=>by rw[aq (aH q h)];exact q
theorem But.set {S:List Addr}{H:Hp}{p:Addr} (o:HO) (h:p∈S):But S H (upd H p o):=fun b u n q=>by rw[aq (show b≠p from fun e=>n (by rw[e];exact h))];exact q
theorem But.of_same {S:List Addr}{H H':Hp} (h:aQ H H'):But S H H':=fun b o _ q=>h b o q
theorem aC {H:Hp}{p:Addr} (o:HO) (h:H p=none):aQ H (upd H p o):=fun b u q=>by rw[aq (aH q h)];exact q
def jX (H H':Hp):Prop:=∀b xs,H b=some (.tup xs)->H' b=some (.tup xs)
theorem aQ.tups {H H':Hp} (h:aQ H H'):jX H H':=fun b xs q=>h b _ q
inductive Op where | plus | minus | times | most
 deriving DecidableEq
def Op.word:Op->Str
 | .plus=>"plus" | .minus=>"minus" | .times=>"times" | .most=>"most"
inductive R where
 | num (n:Int) | rd (x:Str) | bin (op:Op) (a b:R) | pick (a b c:R) | cho (a:R) (ns:List Str)
def R.depth:R->Nat
 | .num _=>1
 | .rd _=>1
 | .bin _ a b=>max a.depth b.depth+1
 | .pick a b c=>max a.depth (max b.depth c.depth)+1
 | .cho a _=>a.depth+1
def Rr (c:Nat):Prop:=97<=c/\c<=122
def lF (x:Str):Prop:=1<=x.length/\x.length<=8/\∀c∈x.cps.toList,Rr c
def R.Good:R->Prop
 | .num n=>n.natAbs<10 ^ 40
 | .rd x=>lF x
 | .bin _ a b=>a.Good/\b.Good
 | .pick a b c=>a.Good/\b.Good/\c.Good
 | .cho a ns=>a.Good/\1<=ns.length/\ns.length<=9/\∀x∈ns,lF x
inductive IsR (H:Hp):Addr->R->Prop where
 | num {a:Addr}{n:Int} (e:H a=some (.tup [.str "number", .int n])):IsR H a (.num n)
 | rd {a:Addr}{x:Str} (e:H a=some (.tup [.str "read", .str x])):IsR H a (.rd x)
 | bin {a b c:Addr}{op:Op}{r s:R} (e:H a=some (.tup [.str op.word, .ref b, .ref c])) (h1:IsR H b r) (h2:IsR H c s):IsR H a (.bin op r s)
 | pick {a b c d:Addr}{r s t:R} (e:H a=some (.tup [.str "pick", .ref b, .ref c, .ref d])) (h1:IsR H b r) (h2:IsR H c s) (h3:IsR H d t):IsR H a (.pick r s t)
 | cho {a b c:Addr}{r:R}{ns:List Str} (e:H a=some (.tup [.str "choose", .ref b, .ref c])) (h1:IsR H b r) (h2:H c=some (.tup (ns.map V.str))):IsR H a (.cho r ns)
theorem IsR.tups {H H':Hp} (t:jX H H') {a:Addr}{r:R} (h:IsR H a r):IsR H' a r:=by
 induction h with
 | num e=>exact .num (t _ _ e)
 | rd e=>exact .rd (t _ _ e)
 | bin e _ _ i1 i2=>exact .bin (t _ _ e) i1 i2
 | pick e _ _ _ i1 i2 i3=>exact .pick (t _ _ e) i1 i2 i3
 | cho e _ h2 i1=>exact .cho (t _ _ e) i1 (t _ _ h2)
theorem IsR.same {H H':Hp} (t:aQ H H') {a:Addr}{r:R} (h:IsR H a r):IsR H' a r:=h.tups (aQ.tups t)
theorem R.zG (r:R):1<=r.depth:=by cases r<;>simp[R.depth]
def Rt (K:PySem.W.Frag):Sp:=fun vs H Q _=>∃(a:Addr) (ns:List Int),vs=[.ref a]/\SqL K H a (ns.map V.int)/\ns.length<=63/\∀H',Q (.bl true) H'
structure FnT (K:PySem.W.Frag) (mg:Str->Option Value) (x:Str) (st:Stmt) (ps:List Str) (f:Addr) (fd:FuncData):Prop where
 F:Fun K x x st f fd
 b:Binds K fd ps []
 m:mg x=some (.ref f)
structure Blt (mg:Str->Option Value):Prop where
 vf:mg "len"=none
 De:mg "range"=none
 Z1:mg "str"=none
 Vl:mg "int"=none
 Ig:mg "list"=none
 Hr:mg "tuple"=none
 iH:mg "isinstance"=none
 Vm:mg "bool"=none
 Bg:mg "dict"=none
 akW:mg "sum"=none
 aeF:mg "all"=none
 akX:mg "any"=none
 Z2:mg "max"=none
 akY:mg "min"=none
 Vn:mg "sorted"=none
 akZ:mg "set"=none
 Nh:mg "enumerate"=none
 aeG:mg "zip"=none
 abC:mg "reversed"=none
 ak0:mg "abs"=none
end RB
namespace RB
open PySem L2 PySem.Spec PyProof.Rows
theorem aeH {xs:List Int}{i:Int} (h0:0<=i) (h1:i<((xs.map V.int).length:Int)):∃v j,atI (xs.map V.int) i=some (.int v)/\ixN (xs.map V.int).length i=some j/\j<xs.length/\∀u:Int,(xs.map V.int).set j (.int u)=(xs.set j u).map V.int:=by
 have hl:(xs.map V.int).length=xs.length:=List.length_map _
 obtain⟨j,rfl⟩:=Int.eq_ofNat_of_zero_le h0
 have hj:j<xs.length:=by omega
 refine⟨xs[j],j,lE (by rw[List.getElem?_map,List.getElem?_eq_getElem hj];rfl), ?_,hj,fun u=> ?_⟩
 ·unfold ixN
  rw[if_pos h0,if_pos (by omega)]
  simp
 ·rw[List.map_set]
end RB
namespace RB
open PySem L2 PySem.Spec PyProof.Rows
theorem But.upd {S:List Addr}{H H':Hp}{p:Addr} (b:But S H H') (o:HO) (h:H p=none):But S H (upd H' p o):=fun c u n q=>by
 rw[aq (aH q h)];exact b c u n q
instance (x:Str):Decidable (lF x):=by unfold lF Rr;exact inferInstance
theorem Ni:(Str.ofString "abcdefghijklmnopqrstuvwxyz").cps.toList=(List.range 26).map (· +97):=by decide +kernel
theorem aeI {c A B:Prop} [Decidable c] (hc:c) (h:A):if decide c=true then A else B:=by rw[if_pos (decide_eq_true hc)];exact h
theorem aeJ {c A B:Prop} [Decidable c] (hc:¬c) (h:B):if decide c=true then A else B:=by rw[if_neg (by simpa using hc)];exact h
theorem aeK {c A B:Prop} [Decidable c] (hc:¬c) (h:A):if(!decide c)=true then A else B:=by rw[if_pos (by simpa using hc)];exact h
end RB
namespace RB
open PySem L2 PySem.Spec PyProof.Rows
theorem never {P:Program}{w:World}{K:PySem.W.Frag}{mg:Str->Option Value}{base:Heap}{k:Nat}{f:Addr}{fd:FuncData}{ps:List Str}{sp:Sp} (no:∀vs H Q E,¬sp vs H Q E):aX P w K mg base CX0 k f fd ps sp:=
 ⟨fun vs H Q E h=>absurd h (no vs H Q E),fun A outer s H args us vs Q E _ _ _ _ h=>absurd h (no vs H Q E)⟩
end RB
namespace RB
open PySem L2 PySem.Spec PyProof.Rows
end RB
namespace RB
open PySem L2 PySem.Spec PyProof.Rows
theorem shaped_ints (ns:List Int):SeqAt.shaped (.list (ns.map PyData.int))=true:=by
 simp[SeqAt.shaped,PyData.canLay0,PyData.canLayAll0,PyData.depth,PyData.depthAll,PySem.W.ke_canLayAll0,PySem.W.ke_depthAll]
end RB
namespace RB
open PySem L2 PySem.Spec PyProof.Rows
end RB
namespace RB
open PySem L2 PySem.Spec PyProof.Rows
theorem cL {H H':Hp}{p:Addr} (o:HO) (h:H p=none) (s:aQ H H'):aQ H (upd H' p o):=fun b u q=>by
 rw[aq (aH q h)];exact s b u q
end RB
namespace RB
open PySem L2 PySem.Spec PyProof.Rows
theorem Nj {K:PySem.W.Frag} (t:Value):PySem.W.kitOne K t t=some true:=by unfold PySem.W.kitOne;rw[if_pos (beq_self_eq_true t)]
end RB
set_option maxRecDepth 100000
namespace RB
open PySem L2 PySem.Spec PyProof.Rows
inductive Th where
 | non | bl (b:Bool) | int (i:Int) | str (x:Str) | tup (xs:List Th) | oth (T:String)
mutual
inductive pG (K:PySem.W.Frag) (H:Hp):V->Th->Prop where
 | non:pG K H .non .non
 | bl (b:Bool):pG K H (.bl b) (.bl b)
 | int (i:Int):pG K H (.int i) (.int i)
 | str (x:Str):pG K H (.str x) (.str x)
 | tup {a:Addr}{vs:List V}{ts:List Th} (e:H a=some (.tup vs)) (h:pH K H vs ts):pG K H (.ref a) (.tup ts)
 | oth {a:Addr}{T:String} (h:tL K H (.ref a) (.type T)) (hT:T="list"\/T="dict") (keep:∀H',aQ H H'->tL K H' (.ref a) (.type T)):pG K H (.ref a) (.oth T)
inductive pH (K:PySem.W.Frag) (H:Hp):List V->List Th->Prop where
 | nil:pH K H [] []
 | cons {v:V}{t:Th}{vs:List V}{ts:List Th} (h:pG K H v t) (r:pH K H vs ts):pH K H (v::vs) (t::ts)
end
mutual
theorem pG.same {K:PySem.W.Frag}{H H':Hp} (s:aQ H H'):∀{v:V}{t:Th},pG K H v t->pG K H' v t
 | _,_, .non=> .non
 | _,_, .bl b=> .bl b
 | _,_, .int i=> .int i
 | _,_, .str x=> .str x
 | _,_, .tup e h=> .tup (s _ _ e) (pH.same s h)
 | _,_, .oth h hT k=> .oth (k _ s) hT fun H2 s2=>k _ (s.trans s2)
theorem pH.same {K:PySem.W.Frag}{H H':Hp} (s:aQ H H'):∀{vs:List V}{ts:List Th},pH K H vs ts->pH K H' vs ts
 | _,_, .nil=> .nil
 | _,_, .cons h r=> .cons (pG.same s h) (pH.same s r)
end
theorem pH.length {K:PySem.W.Frag}{H:Hp}:∀{vs:List V}{ts:List Th},pH K H vs ts->vs.length=ts.length
 | _,_, .nil=>rfl
 | _,_, .cons _ r=>congrArg (· +1) (pH.length r)
theorem pH.get {K:PySem.W.Frag}{H:Hp}:∀{vs:List V}{ts:List Th}{i:Nat}{v:V},pH K H vs ts->vs[i]? =some v->∃t,ts[i]? =some t/\pG K H v t
 | _,_,_,_, .nil,e=>by simp at e
 | _,_,0,_, .cons h _,e=>by simp at e;subst e;exact⟨_,rfl,h⟩
 | _,_,i+1,v, .cons _ r,e=>by
   obtain⟨t,h1,h2⟩:=pH.get (i:=i) (v:=v) r (by simpa using e)
   exact⟨t,by simpa using h1,h2⟩
def JR:Th->String
 | .non=>"NoneType" | .bl _=>"bool" | .int _=>"int" | .str _=>"str" | .tup _=>"tuple" | .oth T=>T
theorem pG.ty {K:PySem.W.Frag}{H:Hp}{v:V}{t:Th} (h:pG K H v t):tL K H v (.type (JR t)):=by
 cases h with
 | non=>exact .non
 | bl b=>exact .bl b
 | int i=>exact .int i
 | str x=>exact .str x
 | tup e _=>exact .tup e
 | oth h _ _=>exact h
def tys:List String:=["NoneType","bool","int","str","tuple","list","dict"]
def P0 (t c:String):Bool:=t==c||(t=="bool"&&c=="int")
def Kinds (K:PySem.W.Frag):Prop:=∀t∈tys,∀c∈tys,PySem.W.kitOne K (.type t) (.type c)=some (P0 t c)
theorem Vo {K:PySem.W.Frag} (h:(tys.all fun t=>tys.all fun c=>PySem.W.kitOne K (.type t) (.type c)==some (P0 t c))=true):Kinds K:=fun t ht c hc=>by
 have h1:=List.all_eq_true.mp h t ht
 have h2:=List.all_eq_true.mp h1 c hc
 exact eq_of_beq h2
theorem abD {K:PySem.W.Frag}{H:Hp}{v:V}{t:Th} (h:pG K H v t):JR t∈tys:=by
 cases h with
 | oth _ hT _=>rcases hT with rfl | rfl<;>simp[JR,tys]
 | _=>simp[JR,tys]
theorem pG.isi {K:PySem.W.Frag}{H:Hp}{v:V}{t:Th} (h:pG K H v t) (k:Kinds K) {c:String} (hc:c∈tys):PySem.W.kitOne K (.type (JR t)) (.type c)=some (P0 (JR t) c):=k _ (abD h) _ hc
def abE:Th->Bool
 | .int _=>true
 | _=>false
def Lh (K:PySem.W.Frag):Sp:=fun vs H Q _=>∃v t,vs=[v]/\pG K H v t/\Q (.bl (abE t)) H
theorem aeL {b:Bool}{A B:Prop} (h:b=true) (hA:A):if b=true then A else B:=by rw[if_pos h];exact hA
theorem aeM {b:Bool}{A B:Prop} (h:b=false) (hB:B):if b=true then A else B:=by rw[if_neg (by rw[h];exact Bool.false_ne_true)];exact hB
structure Wr (p:Prop):Prop where
 h:p
end RB
set_option maxRecDepth 100000
namespace RB
open PySem L2 PySem.Spec PyProof.Rows
def R.dh:R->Th
 | .num n=> .tup [.str "number", .int n]
 | .rd x=> .tup [.str "read", .str x]
 | .bin op a b=> .tup [.str op.word,a.dh,b.dh]
 | .pick a b c=> .tup [.str "pick",a.dh,b.dh,c.dh]
 | .cho a ns=> .tup [.str "choose",a.dh, .tup (ns.map Th.str)]
def R.Nk:R->Prop
 | .num _=>True
 | .rd x=>x.length<=8/\∀c∈x.cps.toList,c<128
 | .bin _ a b=>a.Nk/\b.Nk
 | .pick a b c=>a.Nk/\b.Nk/\c.Nk
 | .cho a ns=>a.Nk/\1<=ns.length/\ns.length<=9/\∀x∈ns,lF x
theorem Ih {K:PySem.W.Frag}{H:Hp}:∀ns:List Str,pH K H (ns.map V.str) (ns.map Th.str)
 |[]=> .nil
 | x::r=> .cons (.str x) (Ih r)
theorem IsR.Nm {K:PySem.W.Frag}{H:Hp}{a:Addr}{r:R} (h:IsR H a r):pG K H (.ref a) r.dh:=by
 induction h with
 | num e=>exact .tup e (.cons (.str _) (.cons (.int _) .nil))
 | rd e=>exact .tup e (.cons (.str _) (.cons (.str _) .nil))
 | bin e _ _ i1 i2=>exact .tup e (.cons (.str _) (.cons i1 (.cons i2 .nil)))
 | pick e _ _ _ i1 i2 i3=>exact .tup e (.cons (.str _) (.cons i1 (.cons i2 (.cons i3 .nil))))
 | cho e _ h2 i1=>exact .tup e (.cons (.str _) (.cons i1 (.cons (.tup h2 (Ih _)) .nil)))
theorem Bh:∀l:List Str,PyData.depthAll (l.map PyData.str)<=1
 |[]=>by simp[PyData.depthAll]
 | c::r=>by
   have:=Bh r
   simp[PyData.depthAll,PyData.depth]
   omega
end RB
set_option maxRecDepth 100000
namespace L2
open PySem PySem.Spec PyProof.Rows
theorem Fun.okQ {P:Program}{w:World}{K:PySem.W.Frag}{mg:Str->Option Value}{base:Heap}{x qual:Str}{st:Stmt}{f:Addr}{fd:FuncData}{N ps:List Str}{k:Nat}{sp:Sp} (F:Fun K x qual st f fd) (S:bI N ps (aa st)) (len:∀vs H Q E,sp vs H Q E->vs.length=ps.length)
 (hbody:∀(cdv:Value) (A:Around) (outer:List Env) (s:Shared) (H:Hp) (vs:List V) (Q:VK) (E:XK),m5 k (A.deeper (envOfC qual (aa st) s.heap.objs.size f cdv))->sp vs H Q E->
   ∃t,QSs (Pq CX0 P w K mg base N qual (aa st) f cdv A outer s H E).nox (bu st) t/\t {nx:=fun _ H'=>Q .non H',rt:=Q} (start N vs) H):aX P w K mg base CX0 (k+1) f fd ps sp:=
 F.ok S len fun cdv A outer s H vs Q E hr hsp=>let ⟨t,a,b⟩:=hbody cdv A outer s H vs Q E hr hsp;⟨t,a.h,b⟩
end L2
namespace RB
open PySem L2 PySem.Spec PyProof.Rows
theorem abF (value:Const) (k:Nat) (p:Pos) (es:List Expr) (env:Env):starEach (.Constant value k p::es) env=(false,eval (.Constant value k p) env)::starEach es env:=rfl
theorem fj {X:Cx}{value:Const}{k:Nat}{p:Pos}{es:List Expr}{te:TE}{t:TA} (ha:QE X (.Constant value k p) te) (hr:QA X es t):QA X (.Constant value k p::es) (rQ te t):=mG ha hr (abF value k p _ _)
theorem abG (x:Str) (p:Pos) (es:List Expr) (env:Env):starEach (.Name x p::es) env=(false,eval (.Name x p) env)::starEach es env:=rfl
theorem aG {X:Cx}{x:Str}{p:Pos}{es:List Expr}{te:TE}{t:TA} (ha:QE X (.Name x p) te) (hr:QA X es t):QA X (.Name x p::es) (rQ te t):=mG ha hr (abG x p _ _)
theorem abH (a:Expr) (op:Operator) (b:Expr) (p:Pos) (es:List Expr) (env:Env):starEach (.BinOp a op b p::es) env=(false,eval (.BinOp a op b p) env)::starEach es env:=rfl
theorem Df {X:Cx}{a:Expr}{op:Operator}{b:Expr}{p:Pos}{es:List Expr}{te:TE}{t:TA} (ha:QE X (.BinOp a op b p) te) (hr:QA X es t):QA X (.BinOp a op b p::es) (rQ te t):=mG ha hr (abH a op b p _ _)
theorem abI (op:UnaryOp) (a:Expr) (p:Pos) (es:List Expr) (env:Env):starEach (.UnaryOp op a p::es) env=(false,eval (.UnaryOp op a p) env)::starEach es env:=rfl
theorem ah7 {X:Cx}{op:UnaryOp}{a:Expr}{p:Pos}{es:List Expr}{te:TE}{t:TA} (ha:QE X (.UnaryOp op a p) te) (hr:QA X es t):QA X (.UnaryOp op a p::es) (rQ te t):=mG ha hr (abI op a p _ _)
theorem abJ (a:Expr) (ops:List CmpOp) (cs:List Expr) (p:Pos) (es:List Expr) (env:Env):starEach (.Compare a ops cs p::es) env=(false,eval (.Compare a ops cs p) env)::starEach es env:=rfl
theorem aeN {X:Cx}{a:Expr}{ops:List CmpOp}{cs:List Expr}{p:Pos}{es:List Expr}{te:TE}{t:TA} (ha:QE X (.Compare a ops cs p) te) (hr:QA X es t):QA X (.Compare a ops cs p::es) (rQ te t):=mG ha hr (abJ a ops cs p _ _)
theorem abK (xs:List Expr) (k:Nat) (p:Pos) (es:List Expr) (env:Env):starEach (.Tuple xs k p::es) env=(false,eval (.Tuple xs k p) env)::starEach es env:=rfl
theorem Qa {X:Cx}{xs:List Expr}{k:Nat}{p:Pos}{es:List Expr}{te:TE}{t:TA} (ha:QE X (.Tuple xs k p) te) (hr:QA X es t):QA X (.Tuple xs k p::es) (rQ te t):=mG ha hr (abK xs k p _ _)
theorem abL (xs:List Expr) (p:Pos) (es:List Expr) (env:Env):starEach (.List xs p::es) env=(false,eval (.List xs p) env)::starEach es env:=rfl
theorem XR {X:Cx}{xs:List Expr}{p:Pos}{es:List Expr}{te:TE}{t:TA} (ha:QE X (.List xs p) te) (hr:QA X es t):QA X (.List xs p::es) (rQ te t):=mG ha hr (abL xs p _ _)
theorem abM (ks:List (Option Expr)) (xs:List Expr) (p:Pos) (es:List Expr) (env:Env):starEach (.Dict ks xs p::es) env=(false,eval (.Dict ks xs p) env)::starEach es env:=rfl
theorem aeO {X:Cx}{ks:List (Option Expr)}{xs:List Expr}{p:Pos}{es:List Expr}{te:TE}{t:TA} (ha:QE X (.Dict ks xs p) te) (hr:QA X es t):QA X (.Dict ks xs p::es) (rQ te t):=mG ha hr (abM ks xs p _ _)
theorem abN (a b:Expr) (p:Pos) (es:List Expr) (env:Env):starEach (.Subscript a b p::es) env=(false,eval (.Subscript a b p) env)::starEach es env:=rfl
theorem gj {X:Cx}{a b:Expr}{p:Pos}{es:List Expr}{te:TE}{t:TA} (ha:QE X (.Subscript a b p) te) (hr:QA X es t):QA X (.Subscript a b p::es) (rQ te t):=mG ha hr (abN a b p _ _)
theorem abO (f:Expr) (xs:List Expr) (ks:List Keyword) (p:Pos) (es:List Expr) (env:Env):starEach (.Call f xs ks p::es) env=(false,eval (.Call f xs ks p) env)::starEach es env:=rfl
theorem qD {X:Cx}{f:Expr}{xs:List Expr}{ks:List Keyword}{p:Pos}{es:List Expr}{te:TE}{t:TA} (ha:QE X (.Call f xs ks p) te) (hr:QA X es t):QA X (.Call f xs ks p::es) (rQ te t):=mG ha hr (abO f xs ks p _ _)
theorem abP (a b c:Expr) (p:Pos) (es:List Expr) (env:Env):starEach (.IfExp a b c p::es) env=(false,eval (.IfExp a b c p) env)::starEach es env:=rfl
theorem ah8 {X:Cx}{a b c:Expr}{p:Pos}{es:List Expr}{te:TE}{t:TA} (ha:QE X (.IfExp a b c p) te) (hr:QA X es t):QA X (.IfExp a b c p::es) (rQ te t):=mG ha hr (abP a b c p _ _)
theorem abQ (e:Expr) (gs:List Comprehension) (sc:Scope) (p:Pos) (es:List Expr) (env:Env):starEach (.ListComp e gs sc p::es) env=(false,eval (.ListComp e gs sc p) env)::starEach es env:=rfl
theorem aeP {X:Cx}{e:Expr}{gs:List Comprehension}{sc:Scope}{p:Pos}{es:List Expr}{te:TE}{t:TA} (ha:QE X (.ListComp e gs sc p) te) (hr:QA X es t):QA X (.ListComp e gs sc p::es) (rQ te t):=mG ha hr (abQ e gs sc p _ _)
theorem abR (e:Expr) (x:Str) (p:Pos) (es:List Expr) (env:Env):starEach (.Attribute e x p::es) env=(false,eval (.Attribute e x p) env)::starEach es env:=rfl
theorem Tr {X:Cx}{e:Expr}{x:Str}{p:Pos}{es:List Expr}{te:TE}{t:TA} (ha:QE X (.Attribute e x p) te) (hr:QA X es t):QA X (.Attribute e x p::es) (rQ te t):=mG ha hr (abR e x p _ _)
end RB
set_option maxRecDepth 100000
namespace L2
open PySem PySem.Spec PyProof.Rows
section
variable {X:Cx}{pins:List (Addr×Obj)}{σ:L2.St}{H:Hp}{s:Shared}
end
section
variable {X:Cx}{o e value:Expr}{es:List Expr}{f m:Str}{pos pos' apos:Pos}{ta tv:TE}{t:TA}{C fa:Addr}{CX:CXT}{k:Nat}{fd:FuncData}{ps:List Str}{sp:Sp}{dvs:List V}{ds:List Value}{E:XK}
theorem bR (he:QE X e ta) (hb:attributeBase e f X.env (eval e X.env)=eval e X.env:=by rfl):QE X (.Attribute e f pos) (aba X.K ta f):=⟨abb he.h hb⟩
theorem mY (ha:QE X o ta) (hv:QE X value tv) (hs:swapsWith value (some (.Attribute o f pos')) pos.line X.env=pure false:=by rfl):QS X (.Assign [.Attribute o f pos'] value pos) (aep X.K ta tv f):=⟨abd ha.h hv.h hs⟩
theorem qZ {pl:Sem Bool} (he:QE X o ta) (c:Cls X.K C) (hm:Meth X.K C m fa) (F:aX X.prog X.w X.K X.mg X.base CX k fa fd ps sp) (hr:m5 k X.A) (hb:Binds X.K fd ps ds) (hd:Vals dvs ds) (hx:Passes CX X E) (ha:QA X (e::es) t)
 (hst:starEach (e::es) X.env=(false,eval e X.env)::starEach es X.env:=by rfl) (hpl:(backTo pos (starEach es X.env)).any (·.1)=false:=by rfl)
 (ht:eval (.Call (.Attribute o m apos) (e::es) [] pos) X.env=(do
   let ov <-eval o X.env
   standAt apos.atName
   let (f,first) <-holding [ov] (getMethod ov m pl)
   callWith pos f first (backTo pos (starEach (e::es) X.env)) (backToKw pos (keywordEach [] X.env))):=by rfl):
 QE X (.Call (.Attribute o m apos) (e::es) [] pos) (Q6 C m sp dvs E ta t):=⟨Xj he.h c hm F hr hb hd hx ha.h hst hpl ht⟩
theorem yr {pl:Sem Bool} (he:QE X o ta) (c:Cls X.K C) (hm:Meth X.K C m fa) (F:aX X.prog X.w X.K X.mg X.base CX k fa fd ps sp) (hr:m5 k X.A) (hb:Binds X.K fd ps ds) (hd:Vals dvs ds) (hx:Passes CX X E)
 (ht:eval (.Call (.Attribute o m apos) [] [] pos) X.env=(do
   let ov <-eval o X.env
   standAt apos.atName
   let (f,first) <-holding [ov] (getMethod ov m pl)
   callWith pos f first (backTo pos (starEach [] X.env)) (backToKw pos (keywordEach [] X.env))):=by rfl):
 QE X (.Call (.Attribute o m apos) [] [] pos) (Q6 C m sp dvs E ta Xg):=⟨Us he.h c hm F hr hb hd hx ht⟩
theorem Np {st:Stmt}:QS X st Ug:=⟨Uh⟩
theorem Hs {x:Str}{p:Pos} (M:Mk X.K C fa) (F:aX X.prog X.w X.K X.mg X.base CX k fa fd ps sp) (hr:m5 (k+1) X.A) (hg:Gl X x) (hm:X.mg x=some (.ref C)) (hb:Binds X.K fd ps ds) (hd:Vals dvs ds) (hx:Passes CX X E)
 (ha:QA X (e::es) t) (hdb:(x==("__debug__":Str))=false:=by decide) (he:starEach (e::es) X.env=(false,eval e X.env)::starEach es X.env:=by rfl) (hpl:(backTo pos (starEach es X.env)).any (·.1)=false:=by rfl):
 QE X (.Call (.Name x p) (e::es) [] pos) (ZQ C sp dvs E t):=⟨Xk M F hr hg hm hb hd hx ha.h hdb he hpl⟩
end
end L2
set_option maxRecDepth 100000
namespace L2
open PySem PySem.Spec PyProof.Rows
section
variable {X:Cx}{pins:List (Addr×Obj)}{σ:St}{H H':Hp}{s s':Shared}{a:Addr}{cls:Value}
end
section
variable {P:Program}{w:World}{K:PySem.W.Frag}{mg:Str->Option Value}{base:Heap}{N:List Str}{qual:Str}{scope:Scope}{f:Addr}{cd:Value}{A:Around}{outer:List Env}{s₀:Shared}{H₀:Hp}{E:XK}
end
end L2
set_option maxRecDepth 100000
namespace L2
open PySem PySem.Spec PyProof.Rows
section
variable {X:Cx}{pins:List (Addr×Obj)}{σ:St}{H H':Hp}{s s':Shared}{a:Addr}{cls:Value}
theorem Inv.track {o:HO} (I:Inv X pins σ H s) (hn:H a=none) (h0:X.s₀.heap.get? a=none) (hL:a≠X.env.locals) (hC:∀x c,X.env.cells.lookup x=some c->c≠a) (hp:∀p∈X.pn++pins,p.1≠a)
 (new:fJ X.prog X.w (upd H a o) s.heap a o):Inv X pins σ (upd H a o) s:=by
 refine⟨I.ok,I.os,I.bare,⟨fun b u q n hb hx=>I.base.keep b u q n hb hx,fun b u q n hb hx=>I.base.slot b u q n hb hx,fun b u q n hx=> ?_,I.base.there,fun b xs q=> ?_,fun b u v q=> ?_,fun b ps q=> ?_⟩,I.loc,I.cell, ?_,fun x c e=> ?_,fun p q=> ?_,fun b u q=> ?_,I.len⟩
 ·rw[aq (fun z=>by rw[z,h0] at q;cases q)];exact I.base.free b u q n hx
 ·have e:=I.base.tups b xs q
  rw[aq (aH e hn)];exact e
 ·have e:=I.base.frzs b u v q
  rw[aq (aH e hn)];exact e
 ·obtain⟨m,e⟩:=I.base.tbls b ps q
  exact⟨m,by rw[aq (aH e hn)];exact e⟩
 ·rw[aq (Ne.symm hL)];exact I.free
 ·rw[aq (hC x c e)];exact I.u0 x c e
 ·obtain⟨e,n,r⟩:=I.pin p q
  exact⟨e,by rw[aq (hp p q)];exact n,r⟩
 ·by_cases hb:b=a
  ·subst hb;rw[ao] at q;cases q;exact new
  ·rw[aq hb] at q
   exact(I.hok b u q).stay (fun c v _ r=>r) (fun c r=>by rw[aq (aH r hn)];exact r) fun c xs r=>by rw[aq (aH r hn)];exact r
end
section
variable {X:Cx}{x n:Str}{i:Nat}{C:Addr}{np hpos pos:Pos}{body suite:List Stmt}{b₀:Stmt}{tb:(St->XK)->TS}{th:TS}
end
end L2
set_option maxRecDepth 100000
namespace L2
open PySem PySem.Spec PyProof.Rows PySem.W
section
variable {prog:Program}{w:World}{A:Around}{E:Value->Shared->Prop}{h:Heap}{g:Array GenState}{d:Drawn}{t:Nat}{os:OsState}{K:PySem.W.Frag}{a C:Addr}{o:Obj}
end
end L2
set_option maxRecDepth 100000
namespace L2
open PySem PySem.Spec PyProof.Rows
section
variable {X:Cx}{pins:List (Addr×Obj)}{σ:St}{H H':Hp}{s s':Shared}
end
section
variable {P:Program}{w:World}{K:PySem.W.Frag}{mg:Str->Option Value}{base:Heap}{N:List Str}{qual:Str}{scope:Scope}{f:Addr}{cd:Value}{A:Around}{outer:List Env}{s₀:Shared}{H₀:Hp}{E:XK}
end
section
variable {X:Cx}{CX:CXT}{k:Nat}{f:Addr}{fd:FuncData}{ps:List Str}{sp:Sp}{dvs:List V}{ds:List Value}{E:St->XK}{x:Str}{p pos:Pos}{e:Expr}{es:List Expr}{t:TA}
end
end L2
namespace RB
open PySem L2 PySem.Spec PyProof.Rows
end RB
set_option maxRecDepth 100000
namespace L2
open PySem PySem.Spec PyProof.Rows
section
variable {X:Cx}{x:Str}{C:Addr}{np hpos pos:Pos}{body suite:List Stmt}{b₀:Stmt}{tb:(St->XK)->TS}{th:TS}
end
end L2
set_option maxRecDepth 100000
namespace L2
open PySem PySem.Spec PyProof.Rows
section
variable {X:Cx}{pins:List (Addr×Obj)}{σ:List (Option V)}{H:Hp}{s:Shared}{h':Heap}
theorem Inv.Ht {t':Nat}{ch:List Addr} (I:Inv X pins σ H s) (hf:∀b∈ch,Ez X pins H b) (k:∀b o,b∉ch->s.heap.get? b=some o->h'.get? b=some o):Inv X pins σ H {s with heap:=h',toks:=t'}:=by
 have nit:∀b u,H b=some u->b∉ch:=fun b u e z=>by rw[(hf b z).1] at e;cases e
 refine I.step (g':=s.gens) (d':=s.drawn) (ch:=ch) (fun b hb=> ?_) (fun b o _ _ hc e _=>k b o hc e) (fun b o _ _ hc e _=>⟨o.slots,k b o hc e⟩) (fun _ _ _ _ n=>n)
  (fun b o hc e=>⟨o,k b o hc e⟩) (fun _ _ e=>e) (fun _ _ _ e=>e) (fun b ps e=>⟨#[],by rw[e];simp⟩) (fun m hm=> ?_) (fun b u e=> ?_) I.bare
 ·obtain⟨_,f1,_,f3,f4,f5⟩:=hf b hb
  exact⟨f3,f1,f4,f5⟩
 ·obtain⟨o,es,ep,ho,r⟩:=hm
  exact⟨o,es,ep,k _ o (fun z=>(hf _ z).2.1 rfl) ho,r⟩
 ·refine(I.hok b u e).stay (fun c v hc q=>k c v ?_ q) (fun _ q=>q) fun _ _ q=>q
  rcases hc with z | z
  ·rw[z];exact nit b u e
  ·exact nit c _ z
end
end L2
set_option maxRecDepth 100000
namespace RB
open PySem L2 PySem.Spec PyProof.Rows
section
variable {prog:Program}{w:World}{A:Around}{R:Result->Shared->Prop}{I:Addr}{fp wr:List Addr}{G:Array GenState->Array GenState->Prop}{n:Nat}{P:Nat->Value->Prop}{St:Nat->Shared->Prop}
end
end RB
set_option maxRecDepth 100000
namespace RB
open PySem L2 PySem.Spec PyProof.Rows
section
variable {prog:Program}{w:World}{A:Around}{E:Value->Shared->Prop}{s:Shared}
end
end RB
set_option maxRecDepth 100000
namespace L2
open PySem PySem.Spec PyProof.Rows RB
section
variable {X:Cx}
end
end L2
set_option maxRecDepth 100000
namespace RB
open PySem L2 PySem.Spec PyProof.Rows
structure gW (K:PySem.W.Frag) (C:Addr) (x qual:Str) (st:Stmt) (ps:List Str) (f:Addr) (fd:FuncData):Prop where
 F:Fun K x qual st f fd
 b:Binds K fd ps []
 m:Meth K C x f
end RB
set_option maxRecDepth 100000
namespace RB
open PySem L2 PySem.Spec PyProof.Rows
theorem aeQ (x:Str):x.cps.toList.length=x.length:=by simp[Str.length]
end RB
set_option maxRecDepth 100000
namespace RB
open PySem L2 PySem.Spec PyProof.Rows
end RB
set_option maxRecDepth 100000
namespace RB
open PySem L2 PySem.Spec PyProof.Rows
end RB
set_option maxRecDepth 100000
namespace RB
open PySem L2 PySem.Spec PyProof.Rows
def Vp (K:PySem.W.Frag):R2:=fun x y H Q=>∃a b xs,x= .ref a/\y= .ref b/\SqL K H a xs/\SqL K H b []/\Q (.bl xs.isEmpty) H
theorem Vq {X:Cx} (hu:X.A.units+64<cLine):OpR X (compareOp .Eq) (Vp X.K):=by
 intro pins s σ H x y v u Q I rx ry h
 obtain⟨a,b,xs,rfl,rfl,ha,hb,q⟩:=h
 cases xs with
 | nil=>exact Ve hu pins s σ H _ _ v u Q I rx ry ⟨.list [], .list [], .lst ha .nil, .lst hb .nil,shaped_ints [],shaped_ints [],q⟩
 | cons x r=>
   cases rx
   cases ry
   obtain⟨its,rv,pl,_⟩:=I.list ha
   obtain⟨its',rv',pl',_⟩:=I.list hb
   cases rv
   cases rv'
   exact PySem.SeqAt.eq_list_lengthsAt pl.isList pl'.isList rfl (by omega) ⟨.bl false,H,I,rfl,q⟩
theorem Tt {X:Cx} (hu:X.A.units+64<cLine):QOp X (compareOp .Eq) (Vp X.K):=⟨Vq hu⟩
theorem lu {X:Cx}{pos:Pos}:QE X (.Dict [] [] pos) UG:=⟨UJ⟩
end RB
set_option maxRecDepth 100000
namespace RB
open PySem L2 PySem.Spec PyProof.Rows
end RB
set_option maxRecDepth 100000
namespace RB
open PySem L2 PySem.Spec PyProof.Rows
end RB
set_option maxRecDepth 100000
namespace RB
open PySem L2 PySem.Spec PyProof.Rows
def R.dat:R->PyData
 | .num n=> .tuple [.str "number", .int n]
 | .rd x=> .tuple [.str "read", .str x]
 | .bin op a b=> .tuple [.str op.word,a.dat,b.dat]
 | .pick a b c=> .tuple [.str "pick",a.dat,b.dat,c.dat]
 | .cho a ns=> .tuple [.str "choose",a.dat, .tuple (ns.map PyData.str)]
theorem IsR.dat {K:PySem.W.Frag}{H:Hp}{a:Addr}{r:R} (h:IsR H a r):qW K H (.ref a) r.dat:=by
 induction h with
 | num e=>exact .tup (SqT.of e) (.cons (.str _) (.cons (.int _) .nil))
 | rd e=>exact .tup (SqT.of e) (.cons (.str _) (.cons (.str _) .nil))
 | bin e _ _ i1 i2=>exact .tup (SqT.of e) (.cons (.str _) (.cons i1 (.cons i2 .nil)))
 | pick e _ _ _ i1 i2 i3=>exact .tup (SqT.of e) (.cons (.str _) (.cons i1 (.cons i2 (.cons i3 .nil))))
 | cho e _ h2 i1=>exact .tup (SqT.of e) (.cons (.str _) (.cons i1 (.cons (.tup (SqT.of h2) (pM _)) .nil)))
theorem Tu {x:Str} (h:∀c∈x.cps.toList,c<128):PyData.strOk x=true:=by
 show x.cps.all (· <0x110000)=true
 rw[<-Array.all_toList,List.all_eq_true]
 intro c hc
 exact decide_eq_true (by have:=h c hc;omega)
theorem rW {x:Str} (h:lF x):PyData.strOk x=true:=Tu fun c hc=>by have:=h.2.2 c hc;unfold Rr at this;omega
theorem Qc (op:Op):PyData.strOk op.word=true:=by cases op<;>decide +kernel
theorem Fp:∀ns:List Str,(∀x∈ns,lF x)->PyData.canLayAll0 (ns.map PyData.str)=true
 |[],_=>rfl
 | x::r,h=>by
   show(PyData.canLay0 (.str x)&&PyData.canLayAll0 (r.map PyData.str))=true
   rw[Fp r fun y hy=>h y (List.mem_cons_of_mem _ hy)]
   show(PyData.strOk x&&true)=true
   rw[rW (h x List.mem_cons_self)];rfl
theorem R.lay:∀r:R,r.Good->r.dat.canLay0=true
 | .num n,_=>by show(PyData.strOk "number"&&(true&&true))=true;decide +kernel
 | .rd x,h=>by
   show(PyData.strOk "read"&&(PyData.strOk x&&true))=true
   rw[rW h];decide +kernel
 | .bin op a b,h=>by
   show(PyData.strOk op.word&&(a.dat.canLay0&&(b.dat.canLay0&&true)))=true
   rw[Qc,R.lay a h.1,R.lay b h.2];rfl
 | .pick a b c,h=>by
   show(PyData.strOk "pick"&&(a.dat.canLay0&&(b.dat.canLay0&&(c.dat.canLay0&&true))))=true
   rw[R.lay a h.1,R.lay b h.2.1,R.lay c h.2.2];decide +kernel
 | .cho a ns,h=>by
   show(PyData.strOk "choose"&&(a.dat.canLay0&&(PyData.canLayAll0 (ns.map PyData.str)&&true)))=true
   rw[R.lay a h.1,Fp ns h.2.2.2];decide +kernel
theorem R.mH:∀r:R,r.dat.depth<=r.depth+2
 | .num n=>by simp[R.dat,R.depth,PyData.depth,PyData.depthAll]
 | .rd x=>by simp[R.dat,R.depth,PyData.depth,PyData.depthAll]
 | .bin op a b=>by
   have:=R.mH a
   have:=R.mH b
   simp only[R.dat,R.depth,PyData.depth,PyData.depthAll];omega
 | .pick a b c=>by
   have:=R.mH a
   have:=R.mH b
   have:=R.mH c
   simp only[R.dat,R.depth,PyData.depth,PyData.depthAll];omega
 | .cho a ns=>by
   have:=R.mH a
   have:=Bh ns
   have:=a.zG
   simp only[R.dat,R.depth,PyData.depth,PyData.depthAll];omega
theorem R.shaped {r:R} (h:r.Good) (hd:r.depth<=8):SeqAt.shaped r.dat=true:=by
 show(r.dat.canLay0&&decide (r.dat.depth<=64))=true
 have:=r.mH
 rw[r.lay h,decide_eq_true (by omega)];rfl
def aeR (K:PySem.W.Frag) (neg:Bool):R2:=fun x y H Q=>∃d,qW K H x d/\qW K H y d/\SeqAt.shaped d=true/\Q (.bl (!neg)) H
theorem Ii {d:PyData} (h:SeqAt.shaped d=true):d.canLay0=true:=by
 have h':(d.canLay0&&decide (d.depth<=64))=true:=h
 rw[Bool.and_eq_true] at h'
 exact h'.1
theorem Qd {X:Cx} (hu:X.A.units+64<cLine):QOp X (compareOp .NotEq) (aeR X.K true):=⟨fun pins s σ H x y v u Q I rx ry h=>by
 obtain⟨d,h1,h2,h3,q⟩:=h
 have e:=PySem.SeqAt.eqv_refl d (Ii h3)
 exact Vf hu pins s σ H x y v u Q I rx ry ⟨d,d,h1,h2,h3,h3,by rw[e];exact q⟩⟩
end RB
set_option maxRecDepth 100000
namespace RB
open PySem L2 PySem.Spec PyProof.Rows
end RB
set_option maxRecDepth 100000
namespace RB
open PySem L2 PySem.Spec PyProof.Rows
end RB
set_option maxRecDepth 100000
namespace RB
open PySem L2 PySem.Spec PyProof.Rows
end RB
set_option maxRecDepth 100000
namespace RB
open PySem L2 PySem.Spec PyProof.Rows
end RB
set_option maxRecDepth 100000
namespace RB
open PySem L2 PySem.Spec PyProof.Rows PySem.NumText
end RB
set_option maxRecDepth 100000
namespace RB
open PySem L2 PySem.Spec PyProof.Rows PySem.NumText
end RB
set_option maxRecDepth 100000
namespace L2
open PySem PySem.Spec PyProof.Rows
section
variable {prog:Program}{w:World}{A:Around}{E:Value->Shared->Prop}
theorem Nq {it l:Addr}{its:Array Value} (ne:l≠it):∀(n i:Nat) (s:Shared) (Q:List Value->Shared->Prop),i+n<=its.size->s.heap.IsListIter it l i->s.heap.IsList l its->
 (∀h',h'.IsListIter it l (i+n)->h'.IsList l its->(∀b o,b≠it->s.heap.get? b=some o->h'.get? b=some o)->Q ((its.toList.drop i).take n) {s with heap:=h'})->wpAny (model prog w) A (draw (.ref it) n) Q E s
 | 0,i,s,Q,_,st,hl,fin=>wpAny_pure (by simpa using fin s.heap st hl fun _ _ _ e=>e)
 | n+1,i,s,Q,le,st,hl,fin=>by
   have lt:i<its.size:=by omega
   show wpAny _ _ (pyNext (.ref it)>>=_) Q E s
   refine wpAny_bind (wpAny_pyNext_list_item st hl (x:=its[i]) (Array.getElem?_eq_getElem lt) fun h1 st1 sb=> ?_)
   have hl1:h1.IsList l its:=hl.at fun o e=>(sb.2 l ne).trans e
   refine wpAny_bind (wpAny_holding (Nq ne n (i+1) _ _ (by omega) st1 hl1 fun h2 st2 hl2 k2=>wpAny_pure ?_))
   have e1:its.toList.drop i=its[i]::its.toList.drop (i+1):=by simp[List.drop_eq_getElem_cons,lt]
   have q:=fin h2 (by rw[show i+(n+1)=i+1+n by omega];exact st2) hl2 fun b o hb e=>k2 b o hb ((sb.2 b hb).trans e)
   rw[e1,List.take_succ_cons] at q
   exact q
theorem Qe {l:Addr}{its:Array Value}{s:Shared}{targets:List (Bool×(Value->Sem Unit))}{Q:Unit->Shared->Prop} (calm:A.handled=none) (hl:s.heap.IsList l its) (hn:targets.length=its.size) (hs:targets.findIdx? (·.1)=none)
 (fin:∀h',(∀b o,s.heap.get? b=some o->h'.get? b=some o)->wpAny (model prog w) A (assignInOrder (targets.map (·.2)) its.toList) Q E {s with heap:=h'}):wpAny (model prog w) A (unpack (.ref l) targets) Q E s:=by
 have ne:l≠s.heap.objs.size:=by obtain⟨o,ho,_⟩:=hl;exact Nat.ne_of_lt (Heap.lt_size ho)
 unfold unpack
 rw[hn,hs]
 refine wpAny_bind (wpAny_holding ?_)
 unfold unpackItems
 refine wpAny_bind ?_
 unfold notIterableAtAll
 refine wpAny_bind (wpAny_specialOf hl.typeIs slot_list_iter.lookup (wpAny_pure ?_))
 rw[if_neg (by decide)]
 refine wpAny_bind (wpAny_holding (wpAny_pyIter_list hl ?_))
 refine wpAny_bind (wpAny_holding (Nq ne its.size 0 _ _ (by omega) ⟨_,Heap.get?_push_size _ rfl,rfl,rfl⟩ (hl.push _) fun h1 st1 hl1 k1=> ?_))
 have all:(its.toList.drop 0).take its.size=its.toList:=by simp[List.take_of_length_le]
 rw[all,if_neg (by simp)]
 refine wpAny_bind (wpAny_holding (wpAny_pyNext_list_end calm st1 hl1 (by simp) fun h2 k2=> ?_))
 rw[if_neg (by simp)]
 refine wpAny_pure (fin h2 fun b o e=> ?_)
 have nb:b≠s.heap.objs.size:=Nat.ne_of_lt (Heap.lt_size e)
 exact k2 b o nb (k1 b o nb (Heap.get?_push_of_some _ e))
end
section
variable {X:Cx}{pos:Pos}
def aeS (K:PySem.W.Frag) (n:Nat) (t:TGs):TG:=fun v σ H Q=>∃a xs,v= .ref a/\SqL K H a xs/\xs.length=n/\t xs σ H Q
theorem abS {es:List Expr}{k:Nat}{t:TGs}{n:Nat} (hc:X.calm=true) (h:PGs X es t) (hn:(assignEach es X.env).length=n:=by rfl) (hst:(assignEach es X.env).findIdx? (·.1)=none:=by rfl):PG X (.Tuple es k pos) (aeS X.K n t):=by
 intro pins s σ H v u Q I r hw
 obtain⟨a,xs,rfl,hq,hl,hw⟩:=hw
 cases r
 obtain⟨its,rv,pl,hz⟩:=I.list hq
 rw[assign_Tuple]
 refine wpAny_bind (wpAny_standAt (Qe (I.ok.hd hc) pl.isList (by simp[hn,<-hl,rv.length]) hst fun h' k=> ?_))
 exact h pins _ σ H xs _ Q (I.kept (t':=s.toks) k) (by simpa using rv) hw
theorem Vr {es:List Expr}{k:Nat}{t:TGs}{n:Nat} (hc:X.calm=true) (h:QGs X es t) (hn:(assignEach es X.env).length=n:=by rfl) (hst:(assignEach es X.env).findIdx? (·.1)=none:=by rfl):QG X (.Tuple es k pos) (aeS X.K n t):=⟨abS hc h.h hn hst⟩
theorem Ru (hc:X.calm=true):qK X (.builtin "max") (fun xs H Q=>∃i j,xs=[.int i, .int j]/\Q (.int (if j>i then j else i)) H):=⟨Su hc⟩
end
end L2
namespace RB
open PySem L2 PySem.Spec PyProof.Rows
theorem Kq:∀xs ys:List Str,PyData.eqvAll (xs.map PyData.str) (ys.map PyData.str)=true->xs=ys
 |[],[],_=>rfl
 |[],_::_,h=>by simp[PyData.eqvAll] at h
 | _::_,[],h=>by simp[PyData.eqvAll] at h
 | x::xs,y::ys,h=>by
   simp only[List.map_cons,PyData.eqvAll,PyData.eqv,Bool.and_eq_true,beq_iff_eq] at h
   rw[h.1,Kq xs ys h.2]
theorem Vs {a b:Op} (h:a.word=b.word):a=b:=by
 revert h
 cases a<;>cases b<;>decide +kernel
theorem oH (op:Op):op.word≠"pick"/\op.word≠"choose"/\op.word≠"number"/\op.word≠"read":=by cases op<;>decide +kernel
theorem Ij {x y:Str}{xs ys:List PyData} (h:PyData.eqv (.tuple (.str x::xs)) (.tuple (.str y::ys))=true):x=y/\PyData.eqvAll xs ys=true:=by
 simp only[PyData.eqv,PyData.eqvAll,Bool.and_eq_true,beq_iff_eq] at h
 exact h
theorem oR {x y:PyData}{xs ys:List PyData} (h:PyData.eqvAll (x::xs) (y::ys)=true):PyData.eqv x y=true/\PyData.eqvAll xs ys=true:=by
 rw[PyData.eqvAll,Bool.and_eq_true] at h
 exact h
theorem abT {n m:Int} (h:PyData.eqv (.int n) (.int m)=true):n=m:=by simpa [PyData.eqv] using h
theorem abU {n m:Str} (h:PyData.eqv (.str n) (.str m)=true):n=m:=by simpa [PyData.eqv] using h
theorem abV {n m:List PyData} (h:PyData.eqv (.tuple n) (.tuple m)=true):PyData.eqvAll n m=true:=by simpa [PyData.eqv] using h
def R.wd:R->Str
 | .num _=>"number" | .rd _=>"read" | .bin op _ _=>op.word | .pick _ _ _=>"pick" | .cho _ _=>"choose"
def R.tlD:R->List PyData
 | .num n=>[.int n] | .rd x=>[.str x] | .bin _ a b=>[a.dat,b.dat] | .pick a b c=>[a.dat,b.dat,c.dat] | .cho a ns=>[a.dat, .tuple (ns.map PyData.str)]
theorem R.uA (r:R):r.dat= .tuple (.str r.wd::r.tlD):=by cases r<;>rfl
theorem G5:("number":Str)≠"read"/\("number":Str)≠"pick"/\("number":Str)≠"choose"/\("read":Str)≠"pick"/\("read":Str)≠"choose"/\("pick":Str)≠"choose":=by decide +kernel
theorem R.abW (r:R):∀s:R,PyData.eqv r.dat s.dat=true->r=s:=by
 induction r with
 | num n=>
   intro s h
   rw[R.uA,R.uA s] at h
   obtain⟨h1,h2⟩:=Ij h
   cases s with
   | num m=>rw[abT (oR h2).1]
   | rd y=>exact absurd h1 G5.1
   | bin p c d=>exact absurd h1.symm (oH p).2.2.1
   | pick d e f=>exact absurd h1 G5.2.1
   | cho b ms=>exact absurd h1 G5.2.2.1
 | rd x=>
   intro s h
   rw[R.uA,R.uA s] at h
   obtain⟨h1,h2⟩:=Ij h
   cases s with
   | num m=>exact absurd h1.symm G5.1
   | rd y=>rw[abU (oR h2).1]
   | bin p c d=>exact absurd h1.symm (oH p).2.2.2
   | pick d e f=>exact absurd h1 G5.2.2.2.1
   | cho b ms=>exact absurd h1 G5.2.2.2.2.1
 | bin o a b i1 i2=>
   intro s h
   rw[R.uA,R.uA s] at h
   obtain⟨h1,h2⟩:=Ij h
   cases s with
   | num m=>exact absurd h1 (oH o).2.2.1
   | rd y=>exact absurd h1 (oH o).2.2.2
   | bin p c d=>rw[Vs h1,i1 c (oR h2).1,i2 d (oR (oR h2).2).1]
   | pick d e f=>exact absurd h1 (oH o).1
   | cho b ms=>exact absurd h1 (oH o).2.1
 | pick a b c i1 i2 i3=>
   intro s h
   rw[R.uA,R.uA s] at h
   obtain⟨h1,h2⟩:=Ij h
   cases s with
   | num m=>exact absurd h1.symm G5.2.1
   | rd y=>exact absurd h1.symm G5.2.2.2.1
   | bin p c d=>exact absurd h1.symm (oH p).1
   | pick d e f=>rw[i1 d (oR h2).1,i2 e (oR (oR h2).2).1,i3 f (oR (oR (oR h2).2).2).1]
   | cho b ms=>exact absurd h1 G5.2.2.2.2.2
 | cho a ns i1=>
   intro s h
   rw[R.uA,R.uA s] at h
   obtain⟨h1,h2⟩:=Ij h
   cases s with
   | num m=>exact absurd h1.symm G5.2.2.1
   | rd y=>exact absurd h1.symm G5.2.2.2.2.1
   | bin p c d=>exact absurd h1.symm (oH p).2.1
   | pick d e f=>exact absurd h1.symm G5.2.2.2.2.2
   | cho b ms=>rw[i1 b (oR h2).1,Kq ns ms (abV (oR (oR h2).2).1)]
end RB
set_option maxRecDepth 100000
namespace L2
open PySem PySem.Spec PyProof.Rows
end L2
namespace RB
open PySem L2 PySem.Spec PyProof.Rows
end RB
set_option maxRecDepth 100000
namespace RB
open PySem L2 PySem.Spec PyProof.Rows
theorem XS {α:Type}{l m:List α}{y:α} (h:l=m++[y]):atI l (-1)=some y:=by
 subst h
 unfold atI ixN
 have hl:(m++[y]).length=m.length+1:=by simp
 rw[hl,if_neg (by omega),if_pos (by omega)]
 show(m++[y])[((m.length+1:Nat)+(-1:Int)).toNat]? =some y
 rw[show(((m.length+1:Nat):Int)+(-1)).toNat=m.length by omega]
 simp
end RB
set_option maxRecDepth 100000
namespace RB
open PySem L2 PySem.Spec PyProof.Rows
end RB
set_option maxRecDepth 100000
namespace RB
open PySem L2 PySem.Spec PyProof.Rows
abbrev Rdp:=Str×Int
def rdV (p:Rdp):List V:=[.str p.1, .int p.2]
inductive gM (H:Hp):List Addr->List Rdp->Prop where
 | nil:gM H [] []
 | cons {a:Addr}{p:Rdp}{as:List Addr}{ps:List Rdp} (h:H a=some (.tup (rdV p))) (t:gM H as ps):gM H (a::as) (p::ps)
theorem gM.tups {H H':Hp} (t:jX H H') {as:List Addr}{ps:List Rdp} (h:gM H as ps):gM H' as ps:=by
 induction h with
 | nil=>exact .nil
 | cons h _ ih=>exact .cons (t _ _ h) ih
theorem gM.same {H H':Hp} (s:aQ H H') {as:List Addr}{ps:List Rdp} (h:gM H as ps):gM H' as ps:=h.tups (aQ.tups s)
theorem gM.length {H:Hp}{as:List Addr}{ps:List Rdp} (h:gM H as ps):as.length=ps.length:=by
 induction h with
 | nil=>rfl
 | cons _ _ ih=>simp[ih]
theorem gM.snoc {H:Hp}{a:Addr}{p:Rdp} (h:H a=some (.tup (rdV p))):∀{as:List Addr}{ps:List Rdp},gM H as ps->gM H (as++[a]) (ps++[p])
 | _,_, .nil=> .cons h .nil
 | _,_, .cons h' t=> .cons h' (t.snoc h)
theorem gM.get {H:Hp}{as:List Addr}{ps:List Rdp} (h:gM H as ps):∀(i:Nat) (a:Addr),as[i]? =some a->∃p,ps[i]? =some p/\H a=some (.tup (rdV p)):=by
 induction h with
 | nil=>intro i a e;simp at e
 | @cons b p as ps h t ih=>
   intro i a e
   cases i with
   | zero=>have:b=a:=by simpa using e
           subst this;exact⟨_,rfl,h⟩
   | succ i=>exact ih i a (by simpa using e)
theorem Vt {as:List Addr}{i:Nat}{x:V} (h:(as.map V.ref)[i]? =some x):∃a,as[i]? =some a/\x= .ref a:=by
 rw[List.getElem?_map] at h
 cases e:as[i]? with
 | none=>rw[e] at h;cases h
 | some a=>rw[e] at h;cases h;exact⟨a,rfl,rfl⟩
end RB
namespace RB
open PySem L2 PySem.Spec PyProof.Rows
end RB
set_option maxRecDepth 100000
namespace L2
open PySem PySem.Spec PyProof.Rows
def Ik (t:Str) (k:Nat):Str:=⟨((List.replicate k t.cps.toList).flatten).toArray⟩
theorem Z3 (t:Array Nat):∀(k:Nat) (acc:Array Nat),((List.replicate k t).foldl (· ++ ·) acc).toList=acc.toList++(List.replicate k t.toList).flatten
 | 0,acc=>by simp
 | k+1,acc=>by
   rw[List.replicate_succ,List.foldl_cons,Z3 t k,Array.toList_append,List.replicate_succ,List.flatten_cons,List.append_assoc]
theorem XX {t:Str}{n:Int} (h:1<=n):Txt.mul t n=Ik t n.toNat:=by
 unfold Txt.mul
 rw[if_neg (by omega)]
 split
 ·rename_i hc
  unfold Ik
  rcases Bool.or_eq_true_iff.mp hc with z | z
  ·have:n=1:=by simpa using z
   subst this
   cases t;simp
  ·have z':t.length=0:=by simpa using z
   have e:t.cps.toList=[]:=by
    have:=z'
    unfold Str.length at this
    simpa using this
   rw[e]
   cases t with
   | mk c=>
     have e':c= #[]:=by simpa using e
     subst e'
     simp
 ·unfold Ik
  have e:=Z3 t.cps n.toNat #[]
  generalize (List.replicate n.toNat t.cps).foldl (· ++ ·) #[]=A at e
  have:A=((List.replicate n.toNat t.cps.toList).flatten).toArray:=by
   have e2:=congrArg List.toArray e
   simpa using e2
  rw[this]
end L2
namespace RB
open PySem L2 PySem.Spec PyProof.Rows
theorem Vu (t:Str) (k:Nat):(Ik t k).cps.toList=(List.replicate k t.cps.toList).flatten:=by unfold Ik;simp
theorem X3 (t:Str) (k:Nat):(Ik t k).length=k * t.length:=by
 rw[<-aeQ,Vu,len_rep,aeQ]
end RB
set_option maxRecDepth 100000
namespace L2
open PySem PySem.Spec PyProof.Rows
theorem Vv {t:Str}{n:Int} (h:0<=n):Txt.mul t n=Ik t n.toNat:=by
 by_cases h1:1<=n
 ·exact XX h1
 ·have e:n=0:=by omega
  subst e
  unfold Txt.mul
  rw[if_pos (by omega)]
  rfl
def Z4:R2:=fun x y H Q=>∃t n,x= .str t/\y= .int n/\0<=n/\n<=1000/\t.length<=1000/\Q (.str (Ik t n.toNat)) H
theorem X4 {X:Cx}:OpR X (binaryOp .Mult) Z4:=by
 intro pins s σ H x y v u Q I rx ry h
 obtain⟨t,n,rfl,rfl,h1,h2,h3,q⟩:=h
 obtain⟨k,rfl⟩:=rx
 obtain⟨k',rfl⟩:=ry
 have e63:(2:Int)^ 63=9223372036854775808:=by decide
 refine SB.mul ⟨?_,fun hn _=> ?_,fun hn _=> ?_⟩ fun t' kk=>⟨.str _,H,I.tok kk,⟨t',rfl⟩,by rw[Vv h1];exact q⟩
 ·rw[e63]
  simp
  omega
 ·intro hgt
  have hle:(1000:Int)<=((2:Int)^ 63 - 1)/ n:=by
   rw[e63]
   exact Int.le_ediv_of_mul_le (by omega) (by omega)
  omega
 ·have:t.length * n.toNat<=1000 * 1000:=Nat.mul_le_mul h3 (by omega)
  exact decide_eq_false (by rw[sizeLine_eq];omega)
theorem X5 {X:Cx}{es:List Expr}{pos:Pos}{K:PySem.W.Frag}{k n:Nat}{t:TGs} (eK:X.K=K) (hc:X.calm=true) (h:QGs X es t) (hn:(assignEach es X.env).length=n:=by rfl) (hst:(assignEach es X.env).findIdx? (·.1)=none:=by rfl):QG X (.Tuple es k pos) (aaT K n t):=eK▸PK hc h hn hst
theorem Vw {X:Cx}:QOp X (binaryOp .Mult) Z4:=⟨X4⟩
end L2
namespace RB
open PySem L2 PySem.Spec PyProof.Rows
theorem SqL.same {K:PySem.W.Frag}{H H':Hp}{a:Addr}{xs:List V} (s:aQ H H') (h:SqL K H a xs):SqL K H' a xs:=by
 rcases h with(e | ⟨o,e⟩) | h
 ·exact .inl (.inl (s _ _ e))
 ·exact .inl (.inr ⟨o,s _ _ e⟩)
 ·exact .inr h
theorem eX {S:List Addr}{H0 H H':Hp} (s:aQ H0 H) (hS:∀p∈S,H0 p=none) (b:But S H H'):aQ H0 H':=fun a o e=>b a o (fun z=>by rw[hS a z] at e;cases e) (s a o e)
def Vx (K:PySem.W.Frag):Sp:=fun vs H Q _=>∃(a:Addr) (ns:List Int) (k:Int),vs=[.ref a, .int k]/\SqL K H a (ns.map V.int)/\0<=k/\∀n,Q (.int n) H
def pZ (rest:Int) (mixed:Bool) (count:Int):List (Key×V):=[(.inr "rest", .int rest),(.inr "mixed", .bl mixed),(.inr "count", .int count)]
def dZ (H:Hp) (p:Addr) (c:Nat):Prop:=∃(rest:Int) (mixed:Bool) (count:Int),H p=some (.dK (pZ rest mixed count))/\0<=count/\count<=(c:Int)
theorem dZ.keep {S:List Addr}{H H':Hp}{p:Addr}{c:Nat} (h:dZ H p c) (b:But S H H') (hp:p∉S):dZ H' p c:=by
 obtain⟨r,m,k,e,h⟩:=h
 exact⟨r,m,k,b _ _ hp e,h⟩
theorem dZ.same {H H':Hp}{p:Addr}{c:Nat} (h:dZ H p c) (b:aQ H H'):dZ H' p c:=h.keep (S:=[]) (But.of_same b) (by simp)
theorem dZ.tups {H H':Hp}{p:Addr}{c:Nat} (h:dZ H p c) (b:But [p] H H'):jX H H':=fun q xs e=>b q _ (fun z=>by
 obtain⟨r,m,k,e',_⟩:=h
 have:q=p:=by simpa using z
 rw[this,e'] at e;cases e) e
def Li (K:PySem.W.Frag):Sp:=fun vs H Q _=>∃(a:Addr) (ns:List Int) (k:Int),vs=[.ref a, .int k]/\SqL K H a (ns.map V.int)/\0<=k/\k<=100/\∀p H',aQ H H'->H p=none->dZ H' p 503->Q (.ref p) H'
def wG:Sp:=fun vs H Q _=>∃(p:Addr) (c:Nat) (many:Int),vs=[.ref p, .int many]/\dZ H p c/\c<=100000/\0<many/\many.natAbs.log2<9000/\∀n H',0<=n->n<many->But [p] H H'->dZ H' p (c+1)->Q (.int n) H'
def ltr (i:Nat):Str:=⟨#[i+97]⟩
def ak (k:Nat):Str:=ltr (k % 26)++Ik (ltr (k * 7 % 26)) (k * 5 % 8)
def Il:Sp:=fun vs H Q _=>∃k:Nat,vs=[.int (k:Int)]/\k<=1000/\Q (.str (ak k)) H
theorem Vy {n:Int}{i:Nat} (h:n=(i:Int)) (hi:i<26):atI (Str.ofString "abcdefghijklmnopqrstuvwxyz").cps.toList n=some (i+97):=by
 subst h
 exact lE (by rw[Ni,List.getElem?_map,List.getElem?_range hi];rfl)
def names26:List Str:=(List.range 26).map ak
theorem Lj:∀x∈names26++[("qz":Str),"xz","jz"],lF x:=by decide +kernel
theorem Fq {H:Hp}{p:Addr}{a c:Int}{b:Bool} (e:H p=some (.dK (pZ a b c))):bT H p (.str "rest") (some (.int a)):=bT.k (k:= .inr "rest") e
theorem Qf {H:Hp}{p:Addr}{a c:Int}{b:Bool} (e:H p=some (.dK (pZ a b c))):bT H p (.str "mixed") (some (.bl b)):=bT.k (k:= .inr "mixed") e
theorem Im {H:Hp}{p:Addr}{a c:Int}{b:Bool} (e:H p=some (.dK (pZ a b c))):bT H p (.str "count") (some (.int c)):=bT.k (k:= .inr "count") e
theorem uB {H:Hp}{p:Addr}{a c:Int}{b:Bool} (e:H p=some (.dK (pZ a b c))) (x:Int):jn H p (.str "rest") (.int x) (upd H p (.dK (pZ x b c))):=jn.k (k:= .inr "rest") e (bL (by show 3<=1000;decide))
theorem Io {H:Hp}{p:Addr}{a c:Int}{b:Bool} (e:H p=some (.dK (pZ a b c))) (x:Int):jn H p (.str "count") (.int x) (upd H p (.dK (pZ a b x))):=jn.k (k:= .inr "count") e (bL (by show 3<=1000;decide))
end RB
set_option maxRecDepth 100000
namespace RB
open PySem L2 PySem.Spec PyProof.Rows
abbrev Kn:=Str->Option Int
def Kn.put (kn:Kn) (x:Str) (v:Int):Kn:=fun y=>if y=x then some v else kn y
def Kn.puts:Kn->List Rdp->Kn
 | kn,[]=>kn
 | kn,p::ps=>(kn.put p.1 p.2).puts ps
def Kn.Le (kn kn':Kn):Prop:=∀x v,kn x=some v->kn' x=some v
theorem Kn.Le.refl (kn:Kn):Kn.Le kn kn:=fun _ _ h=>h
theorem Kn.Le.trans {a b c:Kn} (h:Kn.Le a b) (g:Kn.Le b c):Kn.Le a c:=fun x v z=>g x v (h x v z)
theorem Kn.nW {kn:Kn}{x:Str}{v:Int} (h:kn x=none):Kn.Le kn (kn.put x v):=fun y u z=>by
 unfold Kn.put
 rw[if_neg (fun e=>by rw[e,h] at z;cases z)];exact z
def Op.ap:Op->Int->Int->Int
 | .plus,u,v=>u+v
 | .minus,u,v=>u - v
 | .times,u,v=>u * v
 | .most,u,v=>if v>u then v else u
def xN (ns:List Str) (u:Int):Option Str:=ns[(u % (ns.length:Int)).toNat]?
def look (kn:Kn) (x:Str):Str ⊕ Int:=match kn x with
 | some v=> .inr v
 | none=> .inl x
def ev (kn:Kn):R->Str ⊕ Int
 | .num n=> .inr n
 | .rd x=>look kn x
 | .bin op a b=>match ev kn a with
   | .inl x=> .inl x
   | .inr u=>match ev kn b with
     | .inl x=> .inl x
     | .inr v=> .inr (op.ap u v)
 | .pick a b c=>match ev kn a with
   | .inl x=> .inl x
   | .inr u=>if u>0 then ev kn b else ev kn c
 | .cho a ns=>match ev kn a with
   | .inl x=> .inl x
   | .inr u=>match xN ns u with
     | none=> .inr 0
     | some x=>look kn x
theorem Rv {kn kn':Kn} (h:Kn.Le kn kn') {x:Str}{v:Int} (e:look kn x= .inr v):look kn' x= .inr v:=by
 unfold look at e ⊢
 cases z:kn x with
 | none=>rw[z] at e;cases e
 | some u=>rw[z] at e;rw[h x u z];exact e
theorem zH {kn:Kn}{x y:Str} (e:look kn x= .inl y):y=x/\kn x=none:=by
 unfold look at e
 cases z:kn x with
 | none=>rw[z] at e;cases e;exact⟨rfl,rfl⟩
 | some u=>rw[z] at e;cases e
theorem rA {kn:Kn}:∀{r:R}{x:Str},ev kn r= .inl x->kn x=none
 | .num n,x,h=>by cases h
 | .rd y,x,h=>by obtain⟨rfl,h⟩:=zH h;exact h
 | .bin op a b,x,h=>by
   simp only[ev] at h
   cases ea:ev kn a with
   | inl y=>rw[ea] at h;cases h;exact rA ea
   | inr u=>
     rw[ea] at h
     cases eb:ev kn b with
     | inl y=>rw[eb] at h;cases h;exact rA eb
     | inr v=>rw[eb] at h;cases h
 | .pick a b c,x,h=>by
   simp only[ev] at h
   cases ea:ev kn a with
   | inl y=>rw[ea] at h;cases h;exact rA ea
   | inr u=>
     rw[ea] at h
     simp only at h
     split at h
     ·exact rA h
     ·exact rA h
 | .cho a ns,x,h=>by
   simp only[ev] at h
   cases ea:ev kn a with
   | inl y=>rw[ea] at h;cases h;exact rA ea
   | inr u=>
     rw[ea] at h
     simp only at h
     cases ep:xN ns u with
     | none=>rw[ep] at h;cases h
     | some y=>rw[ep] at h;obtain⟨rfl,h⟩:=zH h;exact h
theorem vm {kn kn':Kn} (hk:Kn.Le kn kn'):∀{r:R}{v:Int},ev kn r= .inr v->ev kn' r= .inr v
 | .num n,v,h=>h
 | .rd y,v,h=>Rv hk h
 | .bin op a b,v,h=>by
   simp only[ev] at h ⊢
   cases ea:ev kn a with
   | inl y=>rw[ea] at h;cases h
   | inr u=>
     rw[ea] at h;rw[vm hk ea]
     cases eb:ev kn b with
     | inl y=>rw[eb] at h;cases h
     | inr w=>rw[eb] at h;rw[vm hk eb];exact h
 | .pick a b c,v,h=>by
   simp only[ev] at h ⊢
   cases ea:ev kn a with
   | inl y=>rw[ea] at h;cases h
   | inr u=>
     rw[ea] at h;rw[vm hk ea]
     simp only at h ⊢
     split at h
     ·rw[if_pos (by assumption)];exact vm hk h
     ·rw[if_neg (by assumption)];exact vm hk h
 | .cho a ns,v,h=>by
   simp only[ev] at h ⊢
   cases ea:ev kn a with
   | inl y=>rw[ea] at h;cases h
   | inr u=>
     rw[ea] at h;rw[vm hk ea]
     simp only at h ⊢
     cases ep:xN ns u with
     | none=>rw[ep] at h;exact h
     | some y=>rw[ep] at h;exact Rv hk h
inductive Stp where
 | r (r:R) | branch (s t:R) | among (ns:List Str) | join (op:Op)
structure Cf where
 todo:List Stp
 found:List Int
 rds:List Rdp
def uC (ps:List Rdp) (x:Str) (v:Int):List Rdp:=
 if(ps.any fun p=>decide (p.1=x))=true then ps.map (fun p=>if p.1=x then(p.1,v) else p) else ps++[(x,v)]
inductive St1 (kn:Kn):Cf->Cf->Prop where
 | num {t f d n}:St1 kn ⟨t++[.r (.num n)],f,d⟩ ⟨t,f++[n],d⟩
 | rd {t f d x v} (h:kn x=some v):St1 kn ⟨t++[.r (.rd x)],f,d⟩ ⟨t,f++[v],uC d x v⟩
 | bin {t f d op a b}:St1 kn ⟨t++[.r (.bin op a b)],f,d⟩ ⟨t++[.join op, .r b, .r a],f,d⟩
 | pick {t f d a b c}:St1 kn ⟨t++[.r (.pick a b c)],f,d⟩ ⟨t++[.branch b c, .r a],f,d⟩
 | cho {t f d a ns}:St1 kn ⟨t++[.r (.cho a ns)],f,d⟩ ⟨t++[.among ns, .r a],f,d⟩
 | branch {t f d b c v}:St1 kn ⟨t++[.branch b c],f++[v],d⟩ ⟨t++[.r (if v>0 then b else c)],f,d⟩
 | among {t f d ns v x} (h:xN ns v=some x):St1 kn ⟨t++[.among ns],f++[v],d⟩ ⟨t++[.r (.rd x)],f,d⟩
 | join {t f d op u v} (h:op= .times->Fb u v):St1 kn ⟨t++[.join op],f++[u,v],d⟩ ⟨t,f++[op.ap u v],d⟩
inductive StN (kn:Kn):Nat->Cf->Cf->Prop where
 | zero {c}:StN kn 0 c c
 | succ {n c c1 c2} (h:St1 kn c c1) (t:StN kn n c1 c2):StN kn (n+1) c c2
theorem StN.add {kn:Kn}{n m:Nat}{a b c:Cf} (h:StN kn n a b) (g:StN kn m b c):StN kn (n+m) a c:=by
 induction h with
 | zero=>rw[Nat.zero_add];exact g
 | succ h _ ih=>rw[Nat.succ_add];exact .succ h (ih g)
theorem St1.le {kn kn':Kn} (hk:Kn.Le kn kn') {a b:Cf} (h:St1 kn a b):St1 kn' a b:=by
 cases h with
 | num=>exact .num
 | rd h=>exact .rd (hk _ _ h)
 | bin=>exact .bin
 | pick=>exact .pick
 | cho=>exact .cho
 | branch=>exact .branch
 | among h=>exact .among h
 | join h=>exact .join h
theorem StN.le {kn kn':Kn} (hk:Kn.Le kn kn') {n:Nat}{a b:Cf} (h:StN kn n a b):StN kn' n a b:=by
 induction h with
 | zero=>exact .zero
 | succ h _ ih=>exact .succ (h.le hk) ih
theorem lA {α:Type}{s t:List α}{x y:α} (h:s++[x]=t++[y]):s=t/\x=y:=by
 have:=List.append_inj' h rfl
 exact⟨this.1,by simpa using this.2⟩
theorem Tv {α:Type}{s t:List α}{x y u v:α} (h:s++[x,y]=t++[u,v]):s=t/\x=u/\y=v:=by
 have:=List.append_inj' h rfl
 exact⟨this.1,by simpa using this.2⟩
def St1.Inv (kn:Kn) (f:List Int) (d:List Rdp) (t:List Stp) (c':Cf):Stp->Prop
 | .r (.num n)=>c'=⟨t,f++[n],d⟩
 | .r (.rd x)=>∃v,kn x=some v/\c'=⟨t,f++[v],uC d x v⟩
 | .r (.bin op a b)=>c'=⟨t++[.join op, .r b, .r a],f,d⟩
 | .r (.pick a b c)=>c'=⟨t++[.branch b c, .r a],f,d⟩
 | .r (.cho a ns)=>c'=⟨t++[.among ns, .r a],f,d⟩
 | .branch b c=>∃g v,f=g++[v]/\c'=⟨t++[.r (if v>0 then b else c)],g,d⟩
 | .among ns=>∃g v x,f=g++[v]/\xN ns v=some x/\c'=⟨t++[.r (.rd x)],g,d⟩
 | .join op=>∃g u v,f=g++[u,v]/\(op= .times->Fb u v)/\c'=⟨t,g++[op.ap u v],d⟩
theorem St1.inv {kn:Kn}{c c':Cf} (h:St1 kn c c'):∀t s,c.todo=t++[s]->St1.Inv kn c.found c.rds t c' s:=by
 cases h with
 | num=>intro t s e;obtain⟨rfl,rfl⟩:=lA e;exact rfl
 | rd h=>intro t s e;obtain⟨rfl,rfl⟩:=lA e;exact⟨_,h,rfl⟩
 | bin=>intro t s e;obtain⟨rfl,rfl⟩:=lA e;exact rfl
 | pick=>intro t s e;obtain⟨rfl,rfl⟩:=lA e;exact rfl
 | cho=>intro t s e;obtain⟨rfl,rfl⟩:=lA e;exact rfl
 | branch=>intro t s e;obtain⟨rfl,rfl⟩:=lA e;exact⟨_,_,rfl,rfl⟩
 | among h=>intro t s e;obtain⟨rfl,rfl⟩:=lA e;exact⟨_,_,_,rfl,h,rfl⟩
 | join h=>intro t s e;obtain⟨rfl,rfl⟩:=lA e;exact⟨_,_,_,rfl,h,rfl⟩
theorem St1.det {kn:Kn}{a b c:Cf} (h:St1 kn a b) (g:St1 kn a c):b=c:=by
 cases h with
 | num=>exact(g.inv _ _ rfl).symm
 | rd h=>
   obtain⟨v,e,z⟩:=g.inv _ _ rfl
   rw[h] at e;cases e;exact z.symm
 | bin=>exact(g.inv _ _ rfl).symm
 | pick=>exact(g.inv _ _ rfl).symm
 | cho=>exact(g.inv _ _ rfl).symm
 | branch=>
   obtain⟨f,v,e,z⟩:=g.inv _ _ rfl
   obtain⟨rfl,rfl⟩:=lA e
   exact z.symm
 | among h=>
   obtain⟨f,v,x,e,hx,z⟩:=g.inv _ _ rfl
   obtain⟨rfl,rfl⟩:=lA e
   rw[h] at hx;cases hx;exact z.symm
 | join h=>
   obtain⟨f,u,v,e,_,z⟩:=g.inv _ _ rfl
   obtain⟨rfl,rfl,rfl⟩:=Tv e
   exact z.symm
def Halt (kn:Kn) (c:Cf):Prop:=c.todo=[]\/∃t x,c.todo=t++[.r (.rd x)]/\kn x=none
theorem Halt.no {kn:Kn}{c c':Cf} (h:Halt kn c) (g:St1 kn c c'):False:=by
 rcases h with h | ⟨t,x,h,hx⟩
 ·cases g<;>simp at h
 ·obtain⟨v,e,_⟩:=g.inv _ _ h
  rw[hx] at e;cases e
theorem StN.rest {kn:Kn}{n m:Nat}{a b c:Cf} (h:StN kn n a b) (g:StN kn m a c) (hc:Halt kn c):∃k,StN kn k b c:=by
 induction h generalizing m with
 | zero=>exact⟨m,g⟩
 | succ h _ ih=>
   cases g with
   | zero=>exact(hc.no h).elim
   | succ h' g'=>rw[<-h.det h'] at g';exact ih g'
theorem Kr {ns:List Str} (h:1<=ns.length) (u:Int):∃x,xN ns u=some x:=by
 unfold xN
 have h1:(u % (ns.length:Int)).toNat<ns.length:=by
  have:=Int.emod_nonneg u (show(ns.length:Int)≠0 by omega)
  have:=Int.emod_lt_of_pos u (show(0:Int)<ns.length by omega)
  omega
 exact⟨_,List.getElem?_eq_getElem h1⟩
end RB
namespace RB
open PySem L2 PySem.Spec PyProof.Rows
def Reach (kn:Kn) (r:R) (c:Cf):Prop:=∃n,StN kn n ⟨[.r r],[],[]⟩ c
theorem Reach.le {kn kn':Kn} (h:Kn.Le kn kn') {r:R}{c:Cf} (g:Reach kn r c):Reach kn' r c:=by
 obtain⟨n,g⟩:=g
 exact⟨n,g.le h⟩
def kn0:Kn:=fun _=>none
end RB
set_option maxRecDepth 100000
namespace L2
open PySem PySem.Spec PyProof.Rows
section
variable {X:Cx}{i o:Expr}{ty td:TE}{pos:Pos}
theorem uD (hu:X.A.units+1<cLine) (hi:QE X i ty) (ho:QE X o td) (h1:behindInMarks .In o=false:=by rfl):QT X (.Compare i [.In] [o] pos) (tB (aeD ty td)):=⟨Uc (abq hu hi.h ho.h) h1⟩
theorem oJ (hu:X.A.units+1<cLine) (hi:QE X i ty) (ho:QE X o td) (h1:behindInMarks .NotIn o=false:=by rfl):QT X (.Compare i [.NotIn] [o] pos) (tB (Rc ty td)):=⟨Uc (Tf hu hi.h ho.h) h1⟩
end
end L2
namespace RB
open PySem L2 PySem.Spec PyProof.Rows
inductive G6 (H:Hp):V->Stp->Prop where
 | r {a:Addr}{r:R} (h:IsR H a r):G6 H (.ref a) (.r r)
 | branch {a b c:Addr}{s t:R} (e:H a=some (.tup [.str "branch", .ref b, .ref c])) (h1:IsR H b s) (h2:IsR H c t):G6 H (.ref a) (.branch s t)
 | among {a b:Addr}{ns:List Str} (e:H a=some (.tup [.str "among", .ref b])) (h:H b=some (.tup (ns.map V.str))):G6 H (.ref a) (.among ns)
 | join {a:Addr}{op:Op} (e:H a=some (.tup [.str "join", .str op.word])):G6 H (.ref a) (.join op)
theorem G6.tups {H H':Hp} (t:jX H H') {v:V}{s:Stp} (h:G6 H v s):G6 H' v s:=by
 cases h with
 | r h=>exact .r (h.tups t)
 | branch e h1 h2=>exact .branch (t _ _ e) (h1.tups t) (h2.tups t)
 | among e h=>exact .among (t _ _ e) (t _ _ h)
 | join e=>exact .join (t _ _ e)
inductive pJ (H:Hp):List V->List Stp->Prop where
 | nil:pJ H [] []
 | cons {v:V}{s:Stp}{vs:List V}{ss:List Stp} (h:G6 H v s) (t:pJ H vs ss):pJ H (v::vs) (s::ss)
theorem pJ.tups {H H':Hp} (t:jX H H') {vs:List V}{ss:List Stp} (h:pJ H vs ss):pJ H' vs ss:=by
 induction h with
 | nil=>exact .nil
 | cons h _ ih=>exact .cons (h.tups t) ih
theorem pJ.app {H:Hp}:∀{vs ws:List V}{ss ts:List Stp},pJ H vs ss->pJ H ws ts->pJ H (vs++ws) (ss++ts)
 | _,_,_,_, .nil,h=>h
 | _,_,_,_, .cons h' t,h=> .cons h' (t.app h)
theorem pJ.snoc {H:Hp}{s:Stp}:∀{ss:List Stp}{vs:List V},pJ H vs (ss++[s])->∃us v,vs=us++[v]/\pJ H us ss/\G6 H v s
 |[],_,h=>by
  cases h with
  | cons h t=>cases t;exact⟨[],_,rfl, .nil,h⟩
 | s0::ss,_,h=>by
   cases h with
   | cons h t=>
     obtain⟨us,v,rfl,h1,h2⟩:=pJ.snoc (ss:=ss) t
     exact⟨_::us,v,rfl, .cons h h1,h2⟩
theorem pJ.length {H:Hp}{vs:List V}{ss:List Stp} (h:pJ H vs ss):vs.length=ss.length:=by
 induction h with
 | nil=>rfl
 | cons _ _ ih=>simp[ih]
def wR:R->Nat
 | .num _=>1
 | .rd _=>1
 | .bin _ a b=>wR a+wR b+2
 | .pick a b c=>wR a+wR b+wR c+2
 | .cho a _=>wR a+3
def wS:Stp->Nat
 | .r r=>wR r
 | .branch s t=>wR s+wR t+1
 | .among _=>2
 | .join _=>1
def wT (t:List Stp):Nat:=(t.map wS).sum
def Cf.w (c:Cf):Nat:=c.rds.length+c.found.length+2 * wT c.todo
theorem oU (s t:List Stp):wT (s++t)=wT s+wT t:=by unfold wT;rw[List.map_append,List.sum_append]
theorem abX:∀r:R,1<=wR r
 | .num _=>Nat.le_refl _
 | .rd _=>Nat.le_refl _
 | .bin _ a b=>by show 1<=wR a+wR b+2;omega
 | .pick a b c=>by show 1<=wR a+wR b+wR c+2;omega
 | .cho a _=>by show 1<=wR a+3;omega
theorem abY (s:Stp):1<=wS s:=by
 cases s with
 | r r=>exact abX r
 | branch s t=>show 1<=wR s+wR t+1;omega
 | among ns=>exact(by decide:1<=2)
 | join op=>exact Nat.le_refl _
theorem Qg:∀t:List Stp,t.length<=wT t
 |[]=>Nat.le_refl _
 | s::t=>by
   have:=Qg t
   have:=abY s
   show t.length+1<=wS s+wT t
   omega
theorem Vz (d:List Rdp) (x:Str) (v:Int):(uC d x v).length<=d.length+1:=by
 unfold uC
 split
 ·rw[List.length_map];omega
 ·rw[List.length_append];exact Nat.le_refl _
theorem St1.w {kn:Kn}{a b:Cf} (h:St1 kn a b):b.w<=a.w:=by
 cases h with
 | @num t f d n=>
   show d.length+(f++[n]).length+2 * wT t<=d.length+f.length+2 * wT (t++[.r (.num n)])
   rw[oU,List.length_append];show _<=_+2 *(_+1);simp;omega
 | @rd t f d x v h=>
   have:=Vz d x v
   show(uC d x v).length+(f++[v]).length+2 * wT t<=d.length+f.length+2 * wT (t++[.r (.rd x)])
   rw[oU,List.length_append];show _<=_+2 *(_+1);simp;omega
 | @bin t f d op a b=>
   show d.length+f.length+2 * wT (t++[.join op, .r b, .r a])<=d.length+f.length+2 * wT (t++[.r (.bin op a b)])
   rw[oU,oU];show _+2 *(_+(1+(wR b+(wR a+0))))<=_+2 *(_+(wR a+wR b+2+0));omega
 | @pick t f d a b c=>
   show d.length+f.length+2 * wT (t++[.branch b c, .r a])<=d.length+f.length+2 * wT (t++[.r (.pick a b c)])
   rw[oU,oU];show _+2 *(_+(wR b+wR c+1+(wR a+0)))<=_+2 *(_+(wR a+wR b+wR c+2+0));omega
 | @cho t f d a ns=>
   show d.length+f.length+2 * wT (t++[.among ns, .r a])<=d.length+f.length+2 * wT (t++[.r (.cho a ns)])
   rw[oU,oU];show _+2 *(_+(2+(wR a+0)))<=_+2 *(_+(wR a+3+0));omega
 | @branch t f d b c v=>
   show d.length+f.length+2 * wT (t++[.r (if v>0 then b else c)])<=d.length+(f++[v]).length+2 * wT (t++[.branch b c])
   rw[oU,oU,List.length_append]
   have:wR (if v>0 then b else c)<=wR b+wR c:=by split<;>omega
   show _+2 *(_+(wR (if v>0 then b else c)+0))<=_+2 *(_+(wR b+wR c+1+0));omega
 | @among t f d ns v x h=>
   show d.length+f.length+2 * wT (t++[.r (.rd x)])<=d.length+(f++[v]).length+2 * wT (t++[.among ns])
   rw[oU,oU,List.length_append];show _+2 *(_+1)<=_+2 *(_+2);omega
 | @join t f d op u v h=>
   show d.length+(f++[op.ap u v]).length+2 * wT t<=d.length+(f++[u,v]).length+2 * wT (t++[.join op])
   rw[oU,List.length_append,List.length_append];show _+(_+1)+_<=_+(_+2)+2 *(_+1);omega
def rdK (d:List Rdp):List (Key×V):=d.map fun p=>(.inr p.1, .int p.2)
theorem X6 (d:List Rdp) (x:Str) (v:Int):putK (rdK d) (.inr x) (.int v)=rdK (uC d x v):=by
 unfold putK uC rdK
 rw[List.any_map]
 have e:((fun kv:Key×V=>decide (kv.1=(.inr x:Key)))∘fun p:Rdp=>((.inr p.1:Key),V.int p.2))=fun p:Rdp=>decide (p.1=x):=by
  funext p
  show decide ((Sum.inr p.1:Key)=Sum.inr x)=_
  by_cases h:p.1=x
  ·rw[decide_eq_true h,decide_eq_true (by rw[h])]
  ·rw[decide_eq_false h,decide_eq_false (fun z=>h (Sum.inr.inj z))]
 rw[e]
 by_cases hc:(d.any fun p=>decide (p.1=x))=true
 ·rw[if_pos hc,if_pos hc,List.map_map,List.map_map]
  apply List.map_congr_left
  intro p _
  show(if(Sum.inr p.1:Key)=Sum.inr x then((Sum.inr p.1:Key),V.int v) else((Sum.inr p.1:Key),V.int p.2))=_
  by_cases h:p.1=x
  ·rw[if_pos (by rw[h])]
   show _=((Sum.inr (if p.1=x then(p.1,v) else p).1:Key),V.int (if p.1=x then(p.1,v) else p).2)
   rw[if_pos h]
  ·rw[if_neg (fun z=>h (Sum.inr.inj z))]
   show _=((Sum.inr (if p.1=x then(p.1,v) else p).1:Key),V.int (if p.1=x then(p.1,v) else p).2)
   rw[if_neg h]
 ·rw[if_neg hc,if_neg hc,List.map_append];rfl
def rkF (a1 a2 a3:Addr):List (Str×V):=[("todo", .ref a1),("found", .ref a2),("reads", .ref a3)]
structure RcAt (H:Hp) (a C dx a1 a2 a3:Addr) (c:Cf):Prop where
 e:H a=some (.ins C dx (rkF a1 a2 a3))
 e1:∃ws,H a1=some (.lst ws)/\pJ H ws c.todo
 e2:H a2=some (.lst (c.found.map V.int))
 e3:H a3=some (.dK (rdK c.rds))
 ne:a1≠a2
 hw:c.w<=10000
structure RkC (K:PySem.W.Frag) (C:Addr):Prop where
 cl:Cls K C
 nT:jL K C "todo"
 nF:jL K C "found"
 nR:jL K C "reads"
def VB (H:Hp) (d:Addr) (kn:Kn):Prop:=∃kvs,H d=some (.dK kvs)/\∀x,dI kvs (.inr x)=(kn x).map V.int
theorem Lk (a1 a2 a3:Addr):List.lookup ("todo":Str) (rkF a1 a2 a3)=some (.ref a1):=rfl
theorem Ip (a1 a2 a3:Addr):List.lookup ("found":Str) (rkF a1 a2 a3)=some (.ref a2):=rfl
theorem Ir (a1 a2 a3:Addr):List.lookup ("reads":Str) (rkF a1 a2 a3)=some (.ref a3):=rfl
theorem Z5 (a1 a2 a3:Addr):List.lookup ("go_on":Str) (rkF a1 a2 a3)=none:=rfl
theorem Dg (a1 a2 a3:Addr):List.lookup ("lacking":Str) (rkF a1 a2 a3)=none:=rfl
def Rw:Sp:=fun vs H Q _=>∃(op:Op) (u v:Int),vs=[.str op.word, .int u, .int v]/\(op= .times->Fb u v)/\Q (.int (op.ap u v)) H
def Nr (C:Addr):Sp:=fun vs H Q _=>∃(a dx b:Addr) (r:R),vs=[.ref a, .ref b]/\H a=some (.ins C dx [])/\IsR H b r/\wR r<=4000/\
 ∀a1 a2 a3 H',But [a] H H'->H a1=none->H a2=none->H a3=none->RcAt H' a C dx a1 a2 a3 ⟨[.r r],[],[]⟩->Q .non H'
def aeT (C:Addr):Sp:=fun vs H Q _=>∃(a dx a1 a2 a3:Addr) (v:V) (s:Stp) (t:List Stp) (f:List Int) (d:List Rdp) (kn:Kn) (c:Cf),vs=[.ref a,v]/\RcAt H a C dx a1 a2 a3 ⟨t,f,d⟩/\G6 H v s/\(∀x,s≠ .r (.rd x))/\
 St1 kn ⟨t++[s],f,d⟩ c/\c.w<=10000/\∀H',But [a1,a2,a3] H H'->RcAt H' a C dx a1 a2 a3 c->Q .non H'
def VD (C:Addr):Sp:=fun vs H Q _=>∃(a dx a1 a2 a3 d:Addr) (kn:Kn) (n:Nat) (c c':Cf),vs=[.ref a, .ref d]/\RcAt H a C dx a1 a2 a3 c/\VB H d kn/\d≠a3/\StN kn n c c'/\Halt kn c'/\
 ∀H',But [a1,a2,a3] H H'->RcAt H' a C dx a1 a2 a3 c'->(c'.todo=[]->Q .non H')/\∀t x,c'.todo=t++[.r (.rd x)]->Q (.str x) H'
theorem RcAt.lists {H:Hp}{a C dx a1 a2 a3:Addr}{c:Cf} (h:RcAt H a C dx a1 a2 a3 c) {H':Hp} (b:But [a1,a2,a3] H H'):jX H H':=fun p xs q=>b p _ (fun z=>by
 obtain⟨ws,e1,_⟩:=h.e1
 have:p=a1\/p=a2\/p=a3:=by simpa using z
 rcases this with rfl | rfl | rfl
 ·rw[e1] at q;cases q
 ·rw[h.e2] at q;cases q
 ·rw[h.e3] at q;cases q) q
end RB
namespace RB
open PySem L2 PySem.Spec PyProof.Rows
theorem d9 {H:Hp}{p q:Addr}{o:HO} (h:upd H p o q=none):q≠p/\H q=none:=by
 by_cases e:q=p
 ·subst e;rw[ao] at h;cases h
 ·rw[aq e] at h;exact⟨e,h⟩
theorem RcAt.ins {H:Hp}{a C dx a1 a2 a3:Addr}{c:Cf} (h:RcAt H a C dx a1 a2 a3 c):a∉[a1,a2,a3]:=fun z=>by
 obtain⟨ws,e1,_⟩:=h.e1
 have z:a=a1\/a=a2\/a=a3:=by simpa using z
 have e:=h.e
 rcases z with z | z | z
 ·rw[z,e1] at e;cases e
 ·rw[z,h.e2] at e;cases e
 ·rw[z,h.e3] at e;cases e
theorem RcAt.n13 {H:Hp}{a C dx a1 a2 a3:Addr}{c:Cf} (h:RcAt H a C dx a1 a2 a3 c):a1≠a3:=fun z=>by
 obtain⟨ws,e1,_⟩:=h.e1
 have e:=h.e3
 rw[<-z,e1] at e;cases e
theorem RcAt.n23 {H:Hp}{a C dx a1 a2 a3:Addr}{c:Cf} (h:RcAt H a C dx a1 a2 a3 c):a2≠a3:=fun z=>by
 have e:=h.e3
 rw[<-z,h.e2] at e;cases e
theorem RcAt.next {H H':Hp}{a C dx a1 a2 a3:Addr}{c c':Cf}{ws:List V} (h:RcAt H a C dx a1 a2 a3 c) (b:But [a1,a2,a3] H H') (g1:H' a1=some (.lst ws)) (s:pJ H' ws c'.todo) (g2:H' a2=some (.lst (c'.found.map V.int))) (g3:H' a3=some (.dK (rdK c'.rds))) (hw:c'.w<=10000):RcAt H' a C dx a1 a2 a3 c':=
 ⟨b _ _ h.ins h.e,⟨ws,g1,s⟩,g2,g3,h.ne,hw⟩
theorem G6.hd {H:Hp}{v:V}{s:Stp} (h:G6 H v s) (hno:∀x,s≠ .r (.rd x)):∃p k xs,v= .ref p/\H p=some (.tup (.str k::xs))/\k≠"read":=by
 cases h with
 | r h=>
   cases h with
   | num e=>exact⟨_,_,_,rfl,e,by decide +kernel⟩
   | rd e=>exact absurd rfl (hno _)
   | @bin _ _ _ op _ _ e _ _=>exact⟨_,_,_,rfl,e,by cases op<;>decide +kernel⟩
   | pick e _ _ _=>exact⟨_,_,_,rfl,e,by decide +kernel⟩
   | cho e _ _=>exact⟨_,_,_,rfl,e,by decide +kernel⟩
 | branch e _ _=>exact⟨_,_,_,rfl,e,by decide +kernel⟩
 | among e _=>exact⟨_,_,_,rfl,e,by decide +kernel⟩
 | join e=>exact⟨_,_,_,rfl,e,by decide +kernel⟩
theorem StN.halt {kn:Kn}{n:Nat}{c c':Cf} (h:StN kn n c c') (hc:Halt kn c):c=c':=by
 cases h with
 | zero=>rfl
 | succ h _=>exact(hc.no h).elim
theorem abZ {H:Hp}{a:Addr}{o:HO} (h:H a=some o):upd H a o=H:=by
 funext b
 by_cases e:b=a
 ·subst e;rw[ao,h]
 ·rw[aq e]
end RB
namespace RB
open PySem L2 PySem.Spec PyProof.Rows
end RB
namespace RB
open PySem L2 PySem.Spec PyProof.Rows
theorem same_none {H H':Hp}{p:Addr} (s:aQ H H') (h:H' p=none):H p=none:=by
 cases z:H p with
 | none=>rfl
 | some o=>rw[s _ _ z] at h;cases h
end RB
set_option maxRecDepth 100000
namespace L2
open PySem PySem.Spec PyProof.Rows
theorem Ln {k:Key}{v:Value} (h:Hv k v=true):RelV (kV k) v:=by
 rcases iM h with⟨i,t,rfl,rfl⟩ | ⟨x,t,rfl,rfl⟩
 ·exact⟨t,rfl⟩
 ·exact⟨t,rfl⟩
theorem Iu:∀{ys:List V}{its:List Value},its.length=ys.length->(∀(i:Nat) (v:Value),its[i]? =some v->∃y,ys[i]? =some y/\RelV y v)->Vals ys its
 |[],[],_,_=> .nil
 | y::ys,v::its,hl,h=>by
   obtain⟨y',e,r⟩:=h 0 v rfl
   cases e
   exact .cons r (Iu (by simpa using hl) fun i u hu=>h (i+1) u (by simpa using hu))
 |[],_::_,hl,_=>by simp at hl
 | _::_,[],hl,_=>by simp at hl
theorem Aw {κ:Type}:∀{kvs:List (κ×V)}{vs:List (κ×Value)},KV kvs vs->kvs.length=vs.length/\∀(i:Nat) (k:κ) (x:Value),vs[i]? =some (k,x)->∃y,kvs[i]? =some (k,y)
 | _,_, .nil=>⟨rfl,fun i k x h=>by simp at h⟩
 | _,_, .cons (a:=p) (b:=q) h t=>by
   obtain⟨h1,h2⟩:=Aw t
   refine⟨by simp[h1],fun i k x e=> ?_⟩
   cases i with
   | zero=>cases e;exact⟨p.2,by rw[List.getElem?_cons_zero];cases p;simp only at h ⊢;rw[h.1]⟩
   | succ i=>exact h2 i k x (by simpa using e)
section
variable {X:Cx}
theorem Qh (hc:X.calm=true):rP X (.type "list") (fun xs H Q=>∃a kvs,xs=[.ref a]/\H a=some (.dK kvs)/\∀l,H l=none->Q (.ref l) (upd H l (.lst (kvs.map fun kv=>kV kv.1)))):=by
 intro pins s σ H xs us Q I r h
 obtain⟨a,kvs,rfl,ha,q⟩:=h
 obtain⟨u,rfl,rx⟩:=vals1 r
 cases rx
 obtain⟨hz,lo,vs,hkv,hd⟩:=(show fJ X.prog X.w H s.heap a (.dK kvs) from I.hok a _ ha)
 obtain⟨ep,hat⟩:=hd.dictAt
 obtain⟨hl,hk⟩:=Aw hkv
 refine PySem.W.kdl_call (PySem.W.kdl_dict lo) (I.ok.hd hc) hat (by rw[<-hl];exact hz) fun h' tk acc c kp e hacc=> ?_
 have hv:Vals (kvs.map fun kv=>kV kv.1) acc.toList:=Iu (by rw[List.length_map,Array.length_toList,hacc.1,hl]) fun i v hv=>by
  obtain⟨k,x,e1,e2⟩:=hacc.2 i v (by rw[<-Array.getElem?_toList];exact hv)
  obtain⟨y,hy⟩:=hk i k x e1
  exact⟨kV k,by rw[List.getElem?_map,hy];rfl,Ln e2⟩
 exact⟨.ref s.heap.objs.size,_,I.laid (t':=tk) kp (Nat.le_refl _) (show fJ X.prog X.w _ h' _ (.lst (kvs.map fun kv=>kV kv.1)) from⟨by rw[List.length_map];exact hz,acc.toList,c,hv,by simpa using e⟩),rfl,q _ (I.hok.fresh (Nat.le_refl _))⟩
theorem Nt (hc:X.calm=true):qK X (.type "list") (fun xs H Q=>∃a kvs,xs=[.ref a]/\H a=some (.dK kvs)/\∀l,H l=none->Q (.ref l) (upd H l (.lst (kvs.map fun kv=>kV kv.1)))):=⟨Qh hc⟩
end
end L2
set_option maxRecDepth 100000
namespace RB
open PySem L2 PySem.Spec PyProof.Rows
def R.In (ns:List Str):R->Prop
 | .num _=>True
 | .rd x=>x∈ns
 | .bin _ a b=>a.In ns/\b.In ns
 | .pick a b c=>a.In ns/\b.In ns/\c.In ns
 | .cho a ms=>a.In ns/\∀x∈ms,x∈ns
end RB
namespace RB
open PySem L2 PySem.Spec PyProof.Rows
theorem iU {S:List Addr}{H H':Hp}{q:Addr} (b:But S H H') (h:H' q=none) (hS:q∉S):H q=none:=by
 cases z:H q with
 | none=>rfl
 | some o=>rw[b _ _ hS z] at h;cases h
theorem Bj {ns:List Str} (h:∀x∈ns,lF x):SeqAt.shaped (.list (ns.map PyData.str))=true:=by
 have:=Bh ns
 have h4:(PyData.list (ns.map PyData.str)).depth<=64:=by simp only[PyData.depth];omega
 have h5:(PyData.list (ns.map PyData.str)).canLay0=true:=by simp only[PyData.canLay0];exact Fp ns h
 show(_&&decide _)=true
 rw[h5,decide_eq_true h4];rfl
theorem Rx {ns:List Str} (h:1<=ns.length):PyData.eqv (.list (ns.map PyData.str)) (.list [])=false:=by
 cases ns with
 | nil=>simp at h
 | cons n ns=>simp[PyData.eqv,PyData.eqvAll]
end RB
set_option maxRecDepth 100000
namespace L2
open PySem PySem.Spec PyProof.Rows
section
variable {X:Cx}{e st:Expr}{te ts:TE}{pos p2:Pos}
end
end L2
set_option maxRecDepth 100000
namespace RB
open PySem L2 PySem.Spec PyProof.Rows
def Chn (r:R):Kn->List Rdp->Prop
 | _,[]=>True
 | kn,p::us=>ev kn r= .inl p.1/\Chn r (kn.put p.1 p.2) us
theorem Chn.le {r:R}:∀{us:List Rdp}{kn:Kn},Chn r kn us->Kn.Le kn (kn.puts us)
 |[],kn,_=>Kn.Le.refl _
 | p::us,kn,h=>(Kn.nW (rA h.1)).trans (Chn.le (us:=us) h.2)
theorem Chn.up {a r:R}:∀{us:List Rdp}{kn:Kn},(∀kn' x,Kn.Le kn kn'->ev kn' a= .inl x->ev kn' r= .inl x)->Chn a kn us->Chn r kn us
 |[],_,_,_=>trivial
 | p::us,kn,h,g=>⟨h kn p.1 (Kn.Le.refl _) g.1,Chn.up (us:=us) (fun kn' x l e=>h kn' x ((Kn.nW (rA g.1)).trans l) e) g.2⟩
theorem Kn.fQ (kn:Kn) (us vs:List Rdp):kn.puts (us++vs)=(kn.puts us).puts vs:=by
 induction us generalizing kn with
 | nil=>rfl
 | cons u us ih=>exact ih _
theorem Chn.app {r:R}:∀{us vs:List Rdp}{kn:Kn},Chn r kn us->Chn r (kn.puts us) vs->Chn r kn (us++vs)
 |[],_,_,_,h=>h
 | p::us,vs,kn,g,h=>⟨g.1,Chn.app (us:=us) g.2 h⟩
end RB
set_option maxRecDepth 100000
namespace L2
open PySem PySem.Spec PyProof.Rows
def Itd (a:Addr) (o:Obj) (kvs:List (Key×V)):It where
 go:=fun i H=>i<kvs.length/\H a=some (.frz o (.dK kvs))
 yld:=fun i H x H'=>H'=H/\∃k v,kvs[i]? =some (k,v)/\x=kV k
 stop:=fun i H=>kvs.length<=i/\H a=some (.frz o (.dK kvs))
theorem Ks {P:Program}{w:World}{K:PySem.W.Frag}{tg:Expr}{a it:Addr}{o:Obj}{kvs:List (Key×V)}{vs:List (Key×Value)}{es:Array DictEntry}{ep:Nat} (hne:a≠it) (hkv:KV kvs vs) (hx:o.ExactDict) (hdat:o.data= .dict es ep) (hk:PySem.KeysOf (eN P w) es) (hp:Pairs (eN P w) es.toList vs) (hn:(vs.map (·.1)).Nodup):
 Turn P w K tg (Itd a o kvs) [it] it (fun i h=>h.IsKeyIter it a i kvs.length ep) where
 mem:=by simp
 obj:=fun i h st b hb=>by
  have e:b=it:=by simpa using hb
  subst e
  obtain⟨o,e,c,d⟩:=st
  exact⟨o,e,fun v z=>by rw[d] at z;cases z⟩
 keep:=fun i h h' st k=>st.at fun o e=>k it (by simp) o e
 item:=by
  intro X hP hw hK hc i pins s σ H E I hf st hg
  subst hP hw hK
  obtain⟨hi,hH⟩:=hg
  obtain⟨ho,_⟩:=(show fJ X.prog X.w H s.heap a (.frz o (.dK kvs)) from I.hok a _ hH)
  have hm:s.heap.DictAt (eN X.prog X.w) a vs ep:=⟨o,es,ho,hx,hdat,hk,hp,hn⟩
  obtain⟨hl,hat⟩:=Aw hkv
  have hi':i<vs.length:=by rw[<-hl];exact hi
  obtain⟨⟨k,x⟩,hxk⟩:∃p,vs[i]? =some p:=⟨vs[i],by simp[hi']⟩
  obtain⟨y,hy⟩:=hat i k x hxk
  obtain⟨f0,f1,f2,f3,f4,f5⟩:=hf it (by simp)
  rw[hl] at st
  refine wpAny_pyNext_dict_item st hm hxk fun key h' hkey hit' hs'=> ?_
  have I1:Inv X pins σ H {s with heap:=h'}:=I.turned (t':=s.toks) (fun b o hb e=>hs'.extBut b o hb e) f0 f1 f3 f4 f5
  obtain⟨o',e',c',d'⟩:=id hit'
  exact⟨key,rfl,Q0 (s:={s with heap:=h'}) e' c' d' (by decide) ⟨kV k,H,I1,Ln hkey,⟨rfl,k,y,hy,rfl⟩,by rw[hl];exact hit',fun b hb=>(hf b hb).1⟩⟩
 done:=by
  intro X hP hw hK hc i pins s σ H E I hf st hg
  subst hP hw hK
  obtain⟨hi,hH⟩:=hg
  obtain⟨ho,_⟩:=(show fJ X.prog X.w H s.heap a (.frz o (.dK kvs)) from I.hok a _ hH)
  have hm:s.heap.DictAt (eN X.prog X.w) a vs ep:=⟨o,es,ho,hx,hdat,hk,hp,hn⟩
  obtain⟨hl,hat⟩:=Aw hkv
  obtain⟨f0,f1,f2,f3,f4,f5⟩:=hf it (by simp)
  rw[hl] at st
  exact wpAny_pyNext_dict_end (I.ok.hd hc) st hm (by rw[List.getElem?_eq_none_iff];omega) fun h' eb=>⟨rfl,I.turned (t':=s.toks) (fun b o hb e=>eb b o hb e) f0 f1 f3 f4 f5⟩
 self:=fun _ _ _ _ _ st h=>wpAny_pyIter_keyiter st h
section
variable {X:Cx}{tg:Expr}
def Z6 (tl:TE):TI:=fun σ H R=>tl σ H fun x H1=>∃a kvs,x= .ref a/\H1 a=some (.dK kvs)/\∀o,R (Itd a o kvs) (upd H1 a (.frz o (.dK kvs)))
theorem X7 {l:Expr}{tl:TE} (hl:PE X l tl):PI X tg l (Z6 tl):=by
 intro pins s σ H R I h
 refine thn (hl pins s σ H _ I h) fun v s1 ⟨x,H1,I1,r1,q1⟩=> ?_
 obtain⟨a,kvs,e,hq,q⟩:=q1
 subst e
 cases r1
 obtain⟨hz,lo,vs,hkv,hd⟩:=(show fJ X.prog X.w H1 s1.heap a (.dK kvs) from I1.hok a _ hq)
 obtain⟨o,es,ep,ho,hx,hdat,hk,hp,hn⟩:=id hd
 have hl:=(Aw hkv).1
 have I2:Inv X pins σ (upd H1 a (.frz o (.dK kvs))) {s1 with heap:=s1.heap,toks:=s1.toks}:=I1.write (x:=a) (e:=a) (h':=s1.heap) (by rw[hq];exact trivial) (.inl rfl) (fun b u _ e=>e) ⟨o,ho⟩ ⟨ho,hz,lo,vs,hkv,hd⟩
 refine wpAny_pyIter_dict lo ⟨o,es,ho,hx,hdat,hk,hp,hn⟩ ?_
 have hlt:a<s1.heap.objs.size:=Heap.lt_size ho
 rw[<-hl]
 refine⟨s1.heap.objs.size,[s1.heap.objs.size],_,_,_,rfl,I2.kept (t':=s1.toks) fun b o e=>Heap.get?_push_of_some _ e,Ks (Nat.ne_of_lt hlt) hkv hx hdat hk hp hn,⟨_,Heap.get?_push_size _ rfl,rfl,rfl⟩,fun b hb=> ?_,q o⟩
 have e:b=s1.heap.objs.size:=by simpa using hb
 subst e
 exact I2.JM (Nat.le_refl _) (I2.hok.fresh (Nat.le_refl _))
theorem Dh {l:Expr}{tl:TE} (hl:QE X l tl):QI X tg l (Z6 tl):=⟨X7 hl.h⟩
end
theorem Iv {a:Addr}{o:Obj}{kvs:List (Key×V)}{g:TG}{tb:TS}{D:Ends}{σ:St}{H:Hp} (Pv:Nat->St->Hp->Prop) (h0:Pv 0 σ H) (hl:∀i σ H,i<=kvs.length->Pv i σ H->H a=some (.frz o (.dK kvs)))
 (hs:∀i k v σ H,kvs[i]? =some (k,v)->Pv i σ H->g (kV k) σ H fun σ2 H2=>tb {D with nx:=Pv (i+1),ct:=Pv (i+1),bk:=D.nx} σ2 H2) (hd:∀σ H,Pv kvs.length σ H->D.nx σ H):
 ∃W:Nat->Nat->St->Hp->Prop,(∃m,W 0 m σ H)/\∀i m σ H,W i m σ H->
  ((Itd a o kvs).stop i H/\D.nx σ H)\/((Itd a o kvs).go i H/\∃N:St->Hp->Prop,(∀σ' H',N σ' H'->∃m',m'<m/\W (i+1) m' σ' H')/\∀x H',(Itd a o kvs).yld i H x H'->g x σ H' fun σ2 H2=>tb {D with nx:=N,ct:=N,bk:=D.nx} σ2 H2):=by
 refine⟨fun i m σ H=>m=kvs.length - i/\i<=kvs.length/\Pv i σ H,⟨kvs.length,by simp,Nat.zero_le _,h0⟩, ?_⟩
 rintro i m σ H ⟨rfl,hi,p⟩
 have q:=hl i σ H hi p
 by_cases hlt:i<kvs.length
 ·refine .inr ⟨⟨hlt,q⟩,Pv (i+1),fun σ' H' p'=>⟨kvs.length - (i+1),by omega,rfl,hlt,p'⟩,fun x H' y=> ?_⟩
  obtain⟨e,k,v,hk,ex⟩:=y
  subst e ex
  exact hs i k v σ _ hk p
 ·have e:i=kvs.length:=by omega
  subst e
  exact .inl ⟨⟨Nat.le_refl _,q⟩,hd σ H p⟩
section
variable {X:Cx}
theorem Qi:rP X (.type "dict") (fun xs H Q=>∃a kvs,xs=[.ref a]/\Rd H a (.dK kvs)/\∀p,H p=none->Q (.ref p) (upd H p (.dK kvs))):=by
 intro pins s σ H xs us Q I r h
 obtain⟨a,kvs,rfl,ha,q⟩:=h
 obtain⟨u,rfl,rx⟩:=vals1 r
 cases rx
 obtain⟨hz,lo,vs,hkv,hd⟩:=(show fJ X.prog X.w H s.heap a (.dK kvs) from ha.ok I.hok)
 have hl:=(Aw hkv).1
 refine kt_call_dict lo hd (Nat.le_trans (Nat.le_of_eq hl.symm) hz) fun h' hd' hs'=> ?_
 have keep:∀b u,s.heap.get? b=some u->h'.get? b=some u:=fun b u e=>by
  have hb:b≠s.heap.objs.size:=Nat.ne_of_lt (Heap.lt_size e)
  rw[hs'.2 b hb];exact Heap.get?_push_of_some _ e
 refine⟨.ref s.heap.objs.size,_,I.laid (t':=s.toks) keep (Nat.le_refl _) (show fJ X.prog X.w _ h' _ (.dK kvs) from⟨hz, ?_,vs,hkv,hd'⟩),rfl,q _ (I.hok.fresh (Nat.le_refl _))⟩
 exact beq_eq_false_iff_ne.mpr (Nat.ne_of_gt I.big)
theorem vo:qK X (.type "dict") (fun xs H Q=>∃a kvs,xs=[.ref a]/\Rd H a (.dK kvs)/\∀p,H p=none->Q (.ref p) (upd H p (.dK kvs))):=⟨Qi⟩
end
theorem VF {κ:Type} [DecidableEq κ]:∀{vs:List (κ×Value)}{i:Nat}{k:κ}{u:Value},(vs.map (·.1)).Nodup->vs[i]? =some (k,u)->valueAt vs k=some u
 |[],i,k,u,_,h=>by simp at h
 | p::vs,i,k,u,hn,h=>by
   rw[List.map_cons,List.nodup_cons] at hn
   unfold valueAt
   cases i with
   | zero=>
     have:p=(k,u):=by simpa using h
     subst this
     simp
   | succ i=>
     have h':vs[i]? =some (k,u):=by simpa using h
     have hk:k∈vs.map (·.1):=List.mem_map.mpr ⟨(k,u),List.mem_of_getElem? h',rfl⟩
     have hne:¬p.1=k:=fun z=>hn.1 (z▸hk)
     have ih:=VF hn.2 h'
     unfold valueAt at ih
     simp[hne] at ih ⊢
     exact ih
def Bk:V->Bool
 | .byt _=>false
 | .flt _=>false
 | _=>true
theorem Iw {A:Around}{s:Shared}{x:V}{u v:Value} (hx:Bk x=true) (r:RelV x u) (r':RelV x v):SeqAt.EqAt A s u v true:=by
 cases x with
 | int i=>obtain⟨t,rfl⟩:=r;obtain⟨t',rfl⟩:=r';have:=SeqAt.EqAt.int_int (A:=A) (s:=s) i t i t';simpa using this
 | str i=>obtain⟨t,rfl⟩:=r;obtain⟨t',rfl⟩:=r';have:=SeqAt.EqAt.str_str (A:=A) (s:=s) i t i t';simpa using this
 | non=>cases r;cases r';exact SeqAt.EqAt.same _
 | bl b=>cases r;cases r';exact SeqAt.EqAt.same _
 | ref a=>cases r;cases r';exact SeqAt.EqAt.same _
 | ty a=>cases r;cases r';exact SeqAt.EqAt.same _
 | byt a=>exact absurd (show false=true from hx) Bool.false_ne_true
 | flt a=>exact absurd (show false=true from hx) Bool.false_ne_true
theorem Lp {κ:Type}:∀{kvs:List (κ×V)}{vs:List (κ×Value)},KV kvs vs->∀(i:Nat) (k:κ) (x:Value),vs[i]? =some (k,x)->∃y,kvs[i]? =some (k,y)/\RelV y x
 | _,_, .nil=>fun i k x h=>by simp at h
 | _,_, .cons (a:=p) (b:=q) h t=>fun i k x e=>by
   cases i with
   | zero=>cases e;exact⟨p.2,by rw[List.getElem?_cons_zero];cases p;simp only at h ⊢;rw[h.1],h.2⟩
   | succ i=>exact Lp t i k x (by simpa using e)
theorem VG {κ:Type}:∀{kvs:List (κ×V)}{vs:List (κ×Value)},KV kvs vs->∀(i:Nat) (k:κ) (y:V),kvs[i]? =some (k,y)->∃x,vs[i]? =some (k,x)/\RelV y x
 | _,_, .nil=>fun i k x h=>by simp at h
 | _,_, .cons (a:=p) (b:=q) h t=>fun i k x e=>by
   cases i with
   | zero=>cases e;exact⟨q.2,by rw[List.getElem?_cons_zero];cases q;simp only at h ⊢;rw[h.1],h.2⟩
   | succ i=>exact VG t i k x (by simpa using e)
theorem Lq {κ:Type} [DecidableEq κ] {A:Around}{s:Shared}{kb:List (κ×Value)}:∀{ka:List (κ×Value)},(∀k u,(k,u)∈ka->∃y,valueAt kb k=some y/\SeqAt.EqAt A s u y true)->PySem.W.KeqHits A s kb ka true
 |[],_=> .nil
 | (k,u)::r,h=>by
   obtain⟨y,h1,h2⟩:=h k u (by simp)
   exact PySem.W.KeqHits.hit (e:=true) (b:=true) h1 h2 (Lq fun k u m=>h k u (by simp[m]))
def zP (P:Program) (w:World) (A:Around) (s:Shared) (y x:Value):Prop:=∀(E:Value->Shared->Prop) (Q:Bool->Shared->Prop),Q true s->wpAny (model P w) A (eqBool y x) Q E s
theorem zP.of {P:Program}{w:World}{A:Around}{s:Shared}{y x:Value} (h:SeqAt.EqAt A s y x true):zP P w A s y x:=fun E Q q=>h P w E Q q
theorem Qj {A:Around}{s:Shared}{P:Program}{w:World}{a b:Addr}{kvs:List (Key×V)}{va vb:List (Key×Value)} (la:(a==sysModules)=false) (lb:(b==sysModules)=false) (ka:KV kvs va) (kb:KV kvs vb) (da:s.heap.DictOf (eN P w) a va) (db:s.heap.DictOf (eN P w) b vb) (hpl:∀p∈kvs,Bk p.2=true) (hu:A.units<cLine):zP P w A s (.ref a) (.ref b):=fun E Q q=>by
 by_cases hab:a=b
 ·subst hab;exact SeqAt.EqAt.same (.ref a) P w E Q q
 have hn:(vb.map (·.1)).Nodup:=let ⟨_,_,_,_,_,_,_,_,hn⟩:=db;hn
 have hl:va.length=vb.length:=by rw[<-(Aw ka).1,<-(Aw kb).1]
 unfold eqBool
 refine wpAny_holding (wpAny_ite_split (fun z=>absurd (by have:=eq_of_beq z;injection this) hab) fun _=>wpAny_bind ?_)
 refine PySem.W.keq_eq (r:=true) la lb da db hu (fun _=>Lq fun k u m=> ?_) (wpAny_truthy_bool ?_)
 ·obtain⟨i,hi⟩:=List.getElem?_of_mem m
  obtain⟨y,hy,ry⟩:=Lp ka i k u hi
  obtain⟨x,hx,rx⟩:=VG kb i k y hy
  exact⟨x,VF hn hx,Iw (hpl (k,y) (List.mem_of_getElem? hy)) ry rx⟩
 ·rw[hl];simpa using q
def EqV (H:Hp) (x y:V):Prop:=(x=y/\Bk x=true)\/∃a b kvs,x= .ref a/\y= .ref b/\Rd H a (.dK kvs)/\Rd H b (.dK kvs)/\∀p∈kvs,Bk p.2=true
section
variable {X:Cx}
theorem Qk {ts:List Str}:∀{us:List Value},Vals (ts.map V.str) us->StrsAre us ts:=by
 induction ts with
 | nil=>intro us r;cases r;exact .nil
 | cons n ns ih=>
   intro us r
   rw[List.map_cons] at r
   cases r with
   | cons r1 r2=>
     obtain⟨t,e⟩:=r1
     subst e
     exact .cons n t (ih r2)
theorem Ku:∀{us:List Value}{ts:List Str},StrsAre us ts->Vals (ts.map V.str) us
 | _,_, .nil=> .nil
 | _,_, .cons y t h=> .cons ⟨t,rfl⟩ (Ku h)
theorem Lr:rP X (.builtin "sorted") (fun xs H Q=>∃(a:Addr) (ts:List Str),xs=[.ref a]/\SqL X.K H a (ts.map V.str)/\ts.length<64/\∀(p:Addr) (us:List Str),H p=none->us.Perm ts->Q (.ref p) (upd H p (.lst (us.map V.str)))):=by
 intro pins s σ H xs us Q I r h
 obtain⟨a,ts,rfl,ha,hl,q⟩:=h
 obtain⟨u,rfl,rx⟩:=vals1 r
 cases rx
 obtain⟨its,rv,pl,_⟩:=I.list ha
 have hli:its.length=ts.length:=by have:=rv.length;rw[List.length_map] at this;exact this.symm
 refine sorted_strs pl.isList (Qk rv) (by omega) fun out ss h1 h2 h3=> ?_
 obtain⟨e,he⟩:=sortedAll_at s.heap its out
 have hfr:H (s.heap.objs.size+1)=none:=I.hok.fresh (Nat.le_succ _)
 have hsl:=h2.length_eq
 have hz:(ss.map V.str).length<=sizeLine:=by rw[List.length_map,hsl,sizeLine_eq];omega
 exact⟨.ref (s.heap.objs.size+1),_,I.laid (t':=s.toks) (o:= .lst (ss.map V.str)) (fun b u e=>sortedAll_old e) (Nat.le_succ _) ⟨hz,out.toList,e,Ku h1,by simpa [seqObj] using he⟩,rfl,q _ ss hfr h2⟩
theorem Ql:qK X (.builtin "sorted") (fun xs H Q=>∃(a:Addr) (ts:List Str),xs=[.ref a]/\SqL X.K H a (ts.map V.str)/\ts.length<64/\∀(p:Addr) (us:List Str),H p=none->us.Perm ts->Q (.ref p) (upd H p (.lst (us.map V.str)))):=⟨Lr⟩
end
end L2
namespace RB
open PySem L2 PySem.Spec PyProof.Rows
def rdT (p:Rdp):PyData:= .tuple [.str p.1, .int p.2]
theorem X8 (p t:Rdp):PyData.eqv (rdT p) (rdT t)=decide (p=t):=by
 obtain⟨a,i⟩:=p
 obtain⟨b,j⟩:=t
 simp only[rdT,PyData.eqv,PyData.eqvAll]
 by_cases h1:a=b
 ·by_cases h2:i=j
  ·simp[h1,h2]
  ·simp[h1,h2]
 ·simp[h1]
theorem Iz {p:Rdp} (h:lF p.1):SeqAt.shaped (rdT p)=true:=by
 have hs:=rW h
 have h5:(rdT p).canLay0=true:=by
  show(PyData.strOk p.1&&(true&&true))=true
  rw[hs];rfl
 have h4:(rdT p).depth<=64:=by simp only[rdT,PyData.depth,PyData.depthAll];omega
 show(_&&decide _)=true
 rw[h5,decide_eq_true h4];rfl
open Classical in
def isT (H:Hp) (t:Rdp):Value->Bool
 | .ref a=>decide (H a=some (.tup (rdV t)))
 | _=>false
open Classical in
theorem Ry {H:Hp}{t:Rdp}{a:Addr} (h:H a=some (.tup (rdV t))):isT H t (.ref a)=true:=by
 unfold isT
 exact decide_eq_true h
open Classical in
theorem VH {H:Hp}{t:Rdp}{a:Addr} (h:¬H a=some (.tup (rdV t))):isT H t (.ref a)=false:=by
 unfold isT
 exact decide_eq_false h
theorem Rz {p t:Rdp} (h:rdV p=rdV t):p=t:=by
 obtain⟨a,i⟩:=p
 obtain⟨b,j⟩:=t
 unfold rdV at h
 simp only[List.cons.injEq,V.str.injEq,V.int.injEq,and_true] at h
 rw[h.1,h.2]
theorem RC {H:Hp}{t:Rdp}:∀{as:List Addr}{ps:List Rdp}{its:List Value},gM H as ps->Vals (as.map V.ref) its->its.any (isT H t)=decide (t∈ps)
 | _,_,_, .nil,r=>by cases r;simp
 | _,_,_, .cons (a:=a) (p:=p) (as:=as) (ps:=ps) h g,r=>by
   cases r with
   | cons r1 r2=>
     cases r1
     rw[List.any_cons,RC g r2]
     have e:isT H t (.ref a)=decide (t=p):=by
      by_cases z:t=p
      ·rw[decide_eq_true z,Ry (by rw[z];exact h)]
      ·rw[decide_eq_false z,VH (fun w=>z (Rz (by rw[h] at w;exact(HO.tup.inj (Option.some.inj w)).symm)))]
     rw[e]
     by_cases z:t=p
     ·simp[z]
     ·simp[z]
theorem Tw {X:Cx} (hu:X.A.units+64<cLine):OpR X (compareOp .NotIn) (fun x y H Q=>∃(a l:Addr) (as:List Addr) (ps:List Rdp) (t:Rdp),x= .ref a/\y= .ref l/\H a=some (.tup (rdV t))/\SqL X.K H l (as.map V.ref)/\gM H as ps/\(∀p∈ps,lF p.1)/\lF t.1/\Q (.bl (!decide (t∈ps))) H):=by
 intro pins s σ H x y v u Q I rx ry h
 obtain⟨a,l,as,ps,t,rfl,rfl,ha,hl,hR,hg,ht,q⟩:=h
 cases rx
 cases ry
 obtain⟨its,r,pl,_⟩:=I.list hl
 have dt:qW X.K H (.ref a) (rdT t):= .tup (SqT.of ha) (.cons (.str _) (.cons (.int _) .nil))
 obtain⟨bs,rt⟩:=dt.reads I (show RelV (.ref a) (.ref a) from rfl)
 refine SeqAt.notIn_listAt (isT H t) pl.isList (fun y hy=> ?_) ⟨.bl _,H,I,rfl, ?_⟩
 ·have hy:y∈its:=by simpa using hy
  obtain⟨i,hi⟩:=List.getElem?_of_mem hy
  have hli:i<(as.map V.ref).length:=by
   have:=(List.getElem?_eq_some_iff.mp hi).1
   rw[r.length];exact this
  have hx:(as.map V.ref)[i]? =some ((as.map V.ref)[i]):=List.getElem?_eq_getElem hli
  obtain⟨c,hc,ec⟩:=Vt hx
  obtain⟨p,hp,ep⟩:=hR.get i c hc
  obtain⟨z,hz,rz⟩:=r.get hx
  rw[hi] at hz
  cases hz
  rw[ec] at rz
  cases rz
  have dp:qW X.K H (.ref c) (rdT p):= .tup (SqT.of ep) (.cons (.str _) (.cons (.int _) .nil))
  obtain⟨cs,rp⟩:=dp.reads I (show RelV (.ref c) (.ref c) from rfl)
  have k:SeqAt.EqAt X.A.in1 s (.ref c) (.ref a) (PyData.eqv (rdT p) (rdT t)):=SeqAt.eqAt_reads _ _ _ _ _ _ _ _ rp rt (SeqAt.canLay_of_shaped (Iz (hg p (List.mem_of_getElem? hp)))) (SeqAt.canLay_of_shaped (Iz ht)) (by
   have h1:(rdT p).depth<=4:=by simp only[rdT,PyData.depth,PyData.depthAll];omega
   have h2:min (rdT p).depth (rdT t).depth<=(rdT p).depth:=Nat.min_le_left _ _
   have h3:X.A.in1.units=X.A.units+1:=rfl
   omega)
  rw[X8] at k
  have e:isT H t (.ref c)=decide (p=t):=by
   by_cases z:p=t
   ·rw[decide_eq_true z,Ry (by rw[<-z];exact ep)]
   ·rw[decide_eq_false z,VH (fun w=>z (Rz (by rw[ep] at w;exact HO.tup.inj (Option.some.inj w))))]
  rw[e];exact k
 ·rw[show its.toArray.any (isT H t)=its.any (isT H t) by simp,RC hR r]
  exact q
theorem Qm {X:Cx} (hu:X.A.units+64<cLine):QOp X (compareOp .NotIn) (fun x y H Q=>∃(a l:Addr) (as:List Addr) (ps:List Rdp) (t:Rdp),x= .ref a/\y= .ref l/\H a=some (.tup (rdV t))/\SqL X.K H l (as.map V.ref)/\gM H as ps/\(∀p∈ps,lF p.1)/\lF t.1/\Q (.bl (!decide (t∈ps))) H):=⟨Tw hu⟩
end RB
namespace L2
open PySem PySem.Spec PyProof.Rows
section
variable {X:Cx}{o e:Expr}{td ty:TE}{apos cpos:Pos}
theorem Nu (ho:QE X o td) (he:QE X e ty) (m:M1 X o "pop" apos e cpos):QE X (.Call (.Attribute o "pop" apos) [e] [] cpos) (UW td ty):=⟨U3 ho.h he.h m⟩
end
end L2
set_option maxRecDepth 100000
namespace RB
open PySem L2 PySem.Spec PyProof.Rows
def R.T3:R->Prop
 | .num _=>True
 | .rd _=>True
 | .bin op a b=>a.T3/\b.T3/\(op= .times->∃n,b= .num n/\ -100<=n/\n<=100)
 | .pick a b c=>a.T3/\b.T3/\c.T3
 | .cho a ns=>a.T3/\1<=ns.length
structure Rk3 (ns:List Str) (d:Nat) (r:R):Prop where
 g:r.Good
 t:r.T3
 i:r.In ns
 d:r.depth<=d
def RD:Sp:=fun vs H Q _=>∃(p l:Addr) (c:Nat) (ns:List Str),vs=[.ref p, .ref l]/\dZ H p c/\c<=50000/\H l=some (.lst (ns.map V.str))/\1<=ns.length/\ns.length<=9/\(∀x∈ns,lF x)/\
 ∀a r H',But [p] H H'->dZ H' p (c+6)->IsR H' a r->Rk3 ns 1 r->Q (.ref a) H'
def tk3:Nat->Nat
 | 0=>10
 | d+1=>3 * tk3 d+20
theorem Yb (d:Nat):10<=tk3 d:=by
 induction d with
 | zero=>exact Nat.le_refl _
 | succ d ih=>show 10<=3 * tk3 d+20;omega
def VJ (d:Nat):Sp:=fun vs H Q _=>∃(p l:Addr) (c:Nat) (ns:List Str) (deep:Int),vs=[.ref p, .ref l, .int deep]/\deep=(d:Int)/\d<=3/\dZ H p c/\c<=10000+1000 *(4 - d)/\H l=some (.lst (ns.map V.str))/\1<=ns.length/\ns.length<=9/\(∀x∈ns,lF x)/\
 ∀a r H',But [p] H H'->dZ H' p (c+tk3 d)->IsR H' a r->Rk3 ns (d+1) r->Q (.ref a) H'
theorem dZ.ne {H:Hp}{p q:Addr}{c:Nat} (h:dZ H p c) (hq:H q=none):q≠p:=fun z=>by
 obtain⟨r,m,k,e',_⟩:=h
 rw[<-z,hq] at e';cases e'
theorem dZ.nel {H:Hp}{p l:Addr}{c:Nat}{xs:List V} (h:dZ H p c) (hl:H l=some (.lst xs)):l∉[p]:=fun z=>by
 obtain⟨r,m,k,e',_⟩:=h
 have:l=p:=by simpa using z
 rw[this,e'] at hl;cases hl
theorem dZ.mono {H:Hp}{p:Addr}{c c':Nat} (h:dZ H p c) (hc:c<=c'):dZ H p c':=by
 obtain⟨r,m,k,e,h0,h1⟩:=h
 exact⟨r,m,k,e,h0,by omega⟩
def ah9:Nat->Sp
 | 0=>fun _ _ _ _=>False
 | d+1=>VJ d
def VL:Sp:=fun vs H Q _=>∃(p l:Addr) (c:Nat) (ns:List Str) (deep:Int),vs=[.ref p, .ref l, .int deep]/\0<=deep/\deep<4/\dZ H p c/\c<=6000/\H l=some (.lst (ns.map V.str))/\1<=ns.length/\ns.length<=9/\(∀x∈ns,lF x)/\
 ∀a r H',But [p] H H'->dZ H' p (c+530)->IsR H' a r->Rk3 ns 4 r->Q (.ref a) H'
end RB
set_option maxRecDepth 100000
namespace RB
open PySem L2 PySem.Spec PyProof.Rows
theorem Kv {κ:Type} [DecidableEq κ] (kvs:List (κ×V)) (k:κ) (v:V):(putK kvs k v).map (·.1)=if(kvs.any fun kv=>decide (kv.1=k))=true then kvs.map (·.1) else kvs.map (·.1)++[k]:=by
 unfold putK
 split
 ·rw[List.map_map]
  apply List.map_congr_left
  intro p _
  show(if p.1=k then(p.1,v) else p).1=p.1
  split<;>rfl
 ·rw[List.map_append];rfl
theorem Kw {kvs:List (Key×V)}{ns:List Str} (h:kvs.map (·.1)=ns.map Sum.inr):kvs.map (fun kv=>kV kv.1)=ns.map V.str:=by
 have:kvs.map (fun kv=>kV kv.1)=(kvs.map (·.1)).map kV:=by rw[List.map_map];rfl
 rw[this,h,List.map_map];rfl
end RB
set_option maxRecDepth 100000
namespace RB
open PySem L2 PySem.Spec PyProof.Rows
structure mJ (kvs:List (Key×V)) (ks:List Str):Prop where
 k:kvs.map (·.1)=ks.map Sum.inr
 nd:ks.Nodup
theorem mJ.len {kvs:List (Key×V)}{ks:List Str} (h:mJ kvs ks):kvs.length=ks.length:=by
 have:=congrArg List.length h.k
 rwa [List.length_map,List.length_map] at this
theorem Ls {kvs:List (Key×V)}{ks:List Str} (h:mJ kvs ks) (x:Str):(kvs.any fun kv=>decide (kv.1=(.inr x:Key)))=decide (x∈ks):=by
 have e:(kvs.any fun kv=>decide (kv.1=(.inr x:Key)))=(kvs.map (·.1)).any (fun k=>decide (k=(.inr x:Key))):=by rw[List.any_map];rfl
 rw[e,h.k,List.any_map]
 clear e h
 induction ks with
 | nil=>rfl
 | cons y ks ih=>
   rw[List.any_cons,ih]
   by_cases hy:x=y
   ·subst hy;simp
   ·have:¬(y=x):=fun z=>hy z.symm
    simp[hy,this]
theorem mJ.none {kvs:List (Key×V)}{ks:List Str} (h:mJ kvs ks) {x:Str}:dI kvs (.inr x)=none ↔ x∉ks:=by
 have e:=Ls h x
 rw[yl] at e
 constructor
 ·intro z m
  rw[z] at e
  simp[m] at e
 ·intro m
  cases z:dI kvs (.inr x) with
  | none=>rfl
  | some v=>rw[z] at e;simp[m] at e
theorem mJ.pO {kvs:List (Key×V)}{ks:List Str} (h:mJ kvs ks) {x:Str} (hx:x∉ks) (v:V):mJ (putK kvs (.inr x) v) (ks++[x]):=by
 refine⟨?_, ?_⟩
 ·rw[Kv,Ls h x,decide_eq_false hx,if_neg (by decide),h.k,List.map_append];rfl
 ·rw[List.nodup_append]
  exact⟨h.nd,by simp,fun a ha b hb=>by
   have:b=x:=by simpa using hb
   rw[this];exact fun z=>hx (z▸ha)⟩
theorem mJ.Lw {kvs:List (Key×V)}{ks:List Str} (h:mJ kvs ks) {x:Str} (hx:x∈ks) (v:V):mJ (putK kvs (.inr x) v) ks:=by
 refine⟨?_,h.nd⟩
 rw[Kv,Ls h x,decide_eq_true hx,if_pos rfl,h.k]
theorem mJ.drop {kvs:List (Key×V)}{ks:List Str} (h:mJ kvs ks) (x:Str):mJ (jJ kvs (.inr x)) (ks.filter fun y=>decide (y≠x)):=by
 refine⟨?_,h.nd.sublist List.filter_sublist⟩
 unfold jJ
 have e:(kvs.filter fun kv=>decide (kv.1≠(.inr x:Key))).map (·.1)=(kvs.map (·.1)).filter fun k=>decide (k≠(.inr x:Key)):=by rw[List.filter_map];rfl
 rw[e,h.k,List.filter_map]
 congr 1
 apply List.filter_congr
 intro y _
 show decide ((Sum.inr y:Key)≠Sum.inr x)=decide (y≠x)
 by_cases hy:y=x
 ·simp[hy]
 ·simp[hy]
theorem IK {ks:List Str} (nd:ks.Nodup) {x:Str} (hx:x∈ks):(ks.filter fun y=>decide (y≠x)).length+1=ks.length:=by
 induction ks with
 | nil=>cases hx
 | cons y ks ih=>
   rw[List.nodup_cons] at nd
   by_cases hy:y=x
   ·subst hy
    have:(ks.filter fun z=>decide (z≠y))=ks:=List.filter_eq_self.mpr fun z hz=>by simp;exact fun e=>nd.1 (e▸hz)
    rw[List.filter_cons]
    simp only[ne_eq,not_true_eq_false,decide_false,if_false]
    simp
    exact fun a ha e=>nd.1 (e▸ha)
   ·have hm:x∈ks:=by
     rcases List.mem_cons.mp hx with z | z
     ·exact absurd z.symm hy
     ·exact z
    have:=ih nd.2 hm
    rw[List.filter_cons]
    simp only[ne_eq] at this ⊢
    simp[hy];simpa using this
def nmK (n:Nat):List Str:=(List.range n).map ak
theorem IV {k:Nat} (h:k<26):lF (ak k):=Lj _ (List.mem_append_left _ (List.mem_map.mpr ⟨k,List.mem_range.mpr h,rfl⟩))
theorem Qn:∀i j:Fin 26,ak i.1=ak j.1->i=j:=by decide +kernel
theorem jt {i j:Nat} (hi:i<26) (hj:j<26) (h:ak i=ak j):i=j:=by
 have:=Qn ⟨i,hi⟩ ⟨j,hj⟩ h
 exact Fin.mk.inj this
theorem zJ {κ:Type} [DecidableEq κ] (k j:κ):∀kvs:List (κ×V),dI (jJ kvs k) j=if j=k then none else dI kvs j
 |[]=>by unfold jJ;rw[List.filter_nil,yj];split<;>rfl
 | p::r=>by
   have ih:=zJ k j r
   unfold jJ at ih ⊢
   rw[List.filter_cons]
   by_cases e:p.1=k
   ·rw[if_neg (by simp[e]),ih]
    by_cases z:j=k
    ·rw[if_pos z,if_pos z]
    ·rw[if_neg z,if_neg z,iT (fun w=>z (w.symm.trans e))]
   ·rw[if_pos (by simp[e])]
    by_cases z:p.1=j
    ·rw[jw z,jw z,if_neg (fun w=>e (z.trans w))]
    ·rw[iT z,iT z,ih]
theorem dJ {n:Nat}{x:Str}:x∈nmK n ↔∃k,k<n/\x=ak k:=by
 unfold nmK
 rw[List.mem_map]
 constructor
 ·rintro⟨k,hk,rfl⟩;exact⟨k,List.mem_range.mp hk,rfl⟩
 ·rintro⟨k,hk,rfl⟩;exact⟨k,List.mem_range.mpr hk,rfl⟩
theorem Di (n:Nat):nmK (n+1)=nmK n++[ak n]:=by unfold nmK;rw[List.range_succ,List.map_append];rfl
theorem lG (n:Nat):(nmK n).length=n:=by unfold nmK;rw[List.length_map,List.length_range]
theorem yt {n:Nat} (h:n<=26):∀x∈nmK n,lF x:=fun x hx=>by
 obtain⟨k,hk,rfl⟩:=dJ.mp hx
 exact IV (by omega)
theorem R.In.mono {ns ms:List Str} (h:∀x∈ns,x∈ms):∀{r:R},r.In ns->r.In ms
 | .num _,_=>trivial
 | .rd _,i=>h _ i
 | .bin _ _ _,i=>⟨i.1.mono h,i.2.mono h⟩
 | .pick _ _ _,i=>⟨i.1.mono h,i.2.1.mono h,i.2.2.mono h⟩
 | .cho _ _,i=>⟨i.1.mono h,fun x hx=>h x (i.2 x hx)⟩
theorem Rk3.mono {ns ms:List Str}{d:Nat}{r:R} (k:Rk3 ns d r) (h:∀x∈ns,x∈ms):Rk3 ms d r:=⟨k.g,k.t,k.i.mono h,k.d⟩
abbrev Rn:=Str->Option R
def Rn.put (rc:Rn) (x:Str) (r:R):Rn:=fun y=>if y=x then some r else rc y
def Rn.del (rc:Rn) (x:Str):Rn:=fun y=>if y=x then none else rc y
def Kn.del (kn:Kn) (x:Str):Kn:=fun y=>if y=x then none else kn y
structure zQ (n:Nat) (gv:Kn) (rc:Rn):Prop where
 dom:∀k,k<n->gv (ak k)≠none\/rc (ak k)≠none
 gk:∀x,gv x≠none->x∈nmK n
 rk:∀x r,rc x=some r->∃k,k<n/\x=ak k/\Rk3 (nmK k) 4 r
 dj:∀x,gv x≠none->rc x=none
 g0:0<n->gv (ak 0)≠none
theorem zQ.fresh {n:Nat}{gv:Kn}{rc:Rn} (h:zQ n gv rc) (hn:n<26):gv (ak n)=none/\rc (ak n)=none:=by
 constructor
 ·cases e:gv (ak n) with
  | none=>rfl
  | some v=>
    obtain⟨k,hk,ek⟩:=dJ.mp (h.gk (ak n) (by rw[e];simp))
    have:=jt hn (by omega) ek
    omega
 ·cases e:rc (ak n) with
  | none=>rfl
  | some r=>
    obtain⟨k,hk,ek,_⟩:=h.rk _ _ e
    have:=jt hn (by omega) ek
    omega
theorem zQ.Yc {n:Nat}{gv:Kn}{rc:Rn} (h:zQ n gv rc) (hn:n<26) (v:Int):zQ (n+1) (gv.put (ak n) v) rc:=by
 obtain⟨f1,f2⟩:=h.fresh hn
 refine⟨fun k hk=> ?_,fun x hx=> ?_,fun x r e=> ?_,fun x hx=> ?_,fun _=> ?_⟩
 ·unfold Kn.put
  by_cases e:k=n
  ·subst e;left;rw[if_pos rfl];simp
  ·rcases h.dom k (by omega) with z | z
   ·left;rw[if_neg (fun w=>e (jt (by omega) hn w))];exact z
   ·exact .inr z
 ·rw[Di]
  unfold Kn.put at hx
  by_cases e:x=ak n
  ·rw[e];simp
  ·rw[if_neg e] at hx;exact List.mem_append_left _ (h.gk x hx)
 ·obtain⟨k,hk,ek,o⟩:=h.rk x r e
  exact⟨k,by omega,ek,o⟩
 ·unfold Kn.put at hx
  by_cases e:x=ak n
  ·rw[e];exact f2
  ·rw[if_neg e] at hx;exact h.dj x hx
 ·unfold Kn.put
  by_cases e:ak 0=ak n
  ·rw[if_pos e];simp
  ·rw[if_neg e]
   by_cases z:n=0
   ·subst z;exact absurd rfl e
   ·exact h.g0 (by omega)
theorem zQ.ab0 {n:Nat}{gv:Kn}{rc:Rn} (h:zQ n gv rc) (hn:n<26) (h0:0<n) {r:R} (o:Rk3 (nmK n) 4 r):zQ (n+1) gv (rc.put (ak n) r):=by
 obtain⟨f1,f2⟩:=h.fresh hn
 refine⟨fun k hk=> ?_,fun x hx=> ?_,fun x r' e=> ?_,fun x hx=> ?_,fun _=>h.g0 h0⟩
 ·unfold Rn.put
  by_cases e:k=n
  ·subst e;right;rw[if_pos rfl];simp
  ·rcases h.dom k (by omega) with z | z
   ·exact .inl z
   ·right;rw[if_neg (fun w=>e (jt (by omega) hn w))];exact z
 ·rw[Di];exact List.mem_append_left _ (h.gk x hx)
 ·unfold Rn.put at e
  by_cases z:x=ak n
  ·rw[if_pos z] at e;cases e;exact⟨n,by omega,z,o⟩
  ·rw[if_neg z] at e
   obtain⟨k,hk,ek,o⟩:=h.rk x r' e
   exact⟨k,by omega,ek,o⟩
 ·unfold Rn.put
  rw[if_neg (fun z=>by rw[z,f1] at hx;exact hx rfl)];exact h.dj x hx
theorem zQ.setG {n:Nat}{gv:Kn}{rc:Rn} (h:zQ n gv rc) {k:Nat} (hk:k<n) (v:Int):zQ n (gv.put (ak k) v) (rc.del (ak k)):=by
 refine⟨fun j hj=> ?_,fun x hx=> ?_,fun x r e=> ?_,fun x hx=> ?_,fun z=> ?_⟩
 ·unfold Kn.put Rn.del
  by_cases e:ak j=ak k
  ·left;rw[if_pos e];simp
  ·rw[if_neg e,if_neg e];exact h.dom j hj
 ·unfold Kn.put at hx
  by_cases e:x=ak k
  ·rw[e];exact dJ.mpr ⟨k,hk,rfl⟩
  ·rw[if_neg e] at hx;exact h.gk x hx
 ·unfold Rn.del at e
  by_cases z:x=ak k
  ·rw[if_pos z] at e;cases e
  ·rw[if_neg z] at e;exact h.rk x r e
 ·unfold Rn.del
  unfold Kn.put at hx
  by_cases z:x=ak k
  ·rw[if_pos z]
  ·rw[if_neg z] at hx ⊢;exact h.dj x hx
 ·unfold Kn.put
  split
  ·simp
  ·exact h.g0 z
theorem zQ.aeU {n:Nat}{gv:Kn}{rc:Rn} (h:zQ n gv rc) {k:Nat} (hn:n<=26) (hk:k<n) (h0:0<k) {r:R} (o:Rk3 (nmK k) 4 r):zQ n (gv.del (ak k)) (rc.put (ak k) r):=by
 refine⟨fun j hj=> ?_,fun x hx=> ?_,fun x r' e=> ?_,fun x hx=> ?_,fun z=> ?_⟩
 ·unfold Kn.del Rn.put
  by_cases e:ak j=ak k
  ·right;rw[if_pos e];simp
  ·rw[if_neg e,if_neg e];exact h.dom j hj
 ·unfold Kn.del at hx
  by_cases e:x=ak k
  ·rw[e];exact dJ.mpr ⟨k,hk,rfl⟩
  ·rw[if_neg e] at hx;exact h.gk x hx
 ·unfold Rn.put at e
  by_cases z:x=ak k
  ·rw[if_pos z] at e;cases e;exact⟨k,hk,z,o⟩
  ·rw[if_neg z] at e;exact h.rk x r' e
 ·unfold Rn.put
  unfold Kn.del at hx
  by_cases z:x=ak k
  ·rw[if_pos z] at hx;exact absurd rfl hx
  ·rw[if_neg z] at hx ⊢;exact h.dj x hx
 ·unfold Kn.del
  rw[if_neg (fun w=>by have:=jt (by omega) (by omega) w;omega)];exact h.g0 z
end RB
namespace RB
open PySem L2 PySem.Spec PyProof.Rows
structure Bld (H:Hp) (kg kc:List (Key×V)) (n:Nat) (gv:Kn) (rc:Rn):Prop where
 ok:zQ n gv rc
 k:∃gs cs,mJ kg gs/\mJ kc cs/\gs.length+cs.length=n
 g:∀x,dI kg (.inr x)=(gv x).map V.int
 r:∀x r,rc x=some r->∃b,dI kc (.inr x)=some (.ref b)/\IsR H b r
 rn:∀x,rc x=none->dI kc (.inr x)=none
theorem Bld.tups {H H':Hp}{kg kc:List (Key×V)}{n:Nat}{gv:Kn}{rc:Rn} (h:Bld H kg kc n gv rc) (t:jX H H'):Bld H' kg kc n gv rc:=
 ⟨h.ok,h.k,h.g,fun x r e=>let ⟨b,h1,h2⟩:=h.r x r e;⟨b,h1,h2.tups t⟩,h.rn⟩
def jD (H:Hp) (h g c:Addr) (n:Nat) (gv:Kn) (rc:Rn):Prop:=∃kg kc,H h=some (.tup [.ref g, .ref c])/\H g=some (.dK kg)/\H c=some (.dK kc)/\Bld H kg kc n gv rc
theorem jD.same {H H':Hp}{h g c:Addr}{n:Nat}{gv:Kn}{rc:Rn} (a:jD H h g c n gv rc) (s:aQ H H'):jD H' h g c n gv rc:=by
 obtain⟨kg,kc,e,e1,e2,b⟩:=a
 exact⟨kg,kc,s _ _ e,s _ _ e1,s _ _ e2,b.tups (aQ.tups s)⟩
theorem Bld.Yc {H:Hp}{kg kc:List (Key×V)}{n:Nat}{gv:Kn}{rc:Rn} (h:Bld H kg kc n gv rc) (hn:n<26) (v:Int):Bld H (putK kg (.inr (ak n)) (.int v)) kc (n+1) (gv.put (ak n) v) rc:=by
 obtain⟨gs,cs,h1,h2,h3⟩:=h.k
 have hx:ak n∉gs:=h1.none.mp (by rw[h.g,(h.ok.fresh hn).1];rfl)
 refine⟨h.ok.Yc hn v,⟨_,cs,h1.pO hx _,h2,by rw[List.length_append];simp;omega⟩,fun x=> ?_,h.r,h.rn⟩
 rw[iC]
 unfold Kn.put
 by_cases z:x=ak n
 ·rw[if_pos (by rw[z]),if_pos z];rfl
 ·rw[if_neg (fun w=>z (Sum.inr.inj w)),if_neg z];exact h.g x
theorem Bld.ab0 {H:Hp}{kg kc:List (Key×V)}{n:Nat}{gv:Kn}{rc:Rn} (h:Bld H kg kc n gv rc) (hn:n<26) (h0:0<n) {b:Addr}{r:R} (o:Rk3 (nmK n) 4 r) (hb:IsR H b r):Bld H kg (putK kc (.inr (ak n)) (.ref b)) (n+1) gv (rc.put (ak n) r):=by
 obtain⟨gs,cs,h1,h2,h3⟩:=h.k
 have hx:ak n∉cs:=h2.none.mp (h.rn _ (h.ok.fresh hn).2)
 refine⟨h.ok.ab0 hn h0 o,⟨gs,_,h1,h2.pO hx _,by rw[List.length_append];simp;omega⟩,h.g,fun x r' e=> ?_,fun x e=> ?_⟩
 ·rw[iC]
  unfold Rn.put at e
  by_cases z:x=ak n
  ·rw[if_pos z] at e;cases e
   exact⟨b,by rw[if_pos (by rw[z])],hb⟩
  ·rw[if_neg z] at e
   rw[if_neg (fun w=>z (Sum.inr.inj w))];exact h.r x r' e
 ·rw[iC]
  unfold Rn.put at e
  by_cases z:x=ak n
  ·rw[if_pos z] at e;cases e
  ·rw[if_neg z] at e
   rw[if_neg (fun w=>z (Sum.inr.inj w))];exact h.rn x e
def Z7 (K:PySem.W.Frag):Sp:=fun vs H Q _=>∃(a:Addr) (zs:List Int) (start:Int) (many:Nat),vs=[.ref a, .int start, .int many]/\SqL K H a (zs.map V.int)/\0<=start/\start<=50/\many<=17/\
 ∀h g c gv rc H',aQ H H'->H h=none->H g=none->H c=none->jD H' h g c many gv rc->Q (.ref h) H'
theorem ab1 {n:Nat} (h:1<=n):∃ns:List Str,SN ((nmK n).map V.str) (some (-9)) none=ns.map V.str/\1<=ns.length/\ns.length<=9/\∀x∈ns,x∈nmK n:=by
 unfold SN
 have hl:((nmK n).map V.str).length=n:=by rw[List.length_map,lG]
 rw[hl]
 have e1:HT.sIx n 0 (some (-9))=n - 9:=by
  show(if(-9:Int)<0 then((-9:Int)+(n:Int)).toNat else min (-9:Int).toNat n)=_
  rw[if_pos (by decide)];omega
 have e2:HT.sIx n n none=n:=rfl
 rw[e1,e2,<-List.map_drop,<-List.map_take]
 refine⟨_,rfl, ?_, ?_,fun x hx=>List.mem_of_mem_drop (List.mem_of_mem_take hx)⟩
 ·rw[List.length_take,List.length_drop,lG];omega
 ·rw[List.length_take,List.length_drop,lG];omega
end RB
namespace RB
open PySem L2 PySem.Spec PyProof.Rows
section
variable {H:Hp}{kg kc:List (Key×V)}{n:Nat}{gv:Kn}{rc:Rn}
theorem oV {x y:Str} (h:¬x=y):¬(Sum.inr x:Key)=Sum.inr y:=fun z=>h (Sum.inr.inj z)
theorem Bld.Z8 (h:Bld H kg kc n gv rc) (y:Str) (v:Int):∀x,dI (putK kg (.inr y) (.int v)) (.inr x)=((gv.put y v) x).map V.int:=fun x=>by
 rw[iC]
 unfold Kn.put
 by_cases z:x=y
 ·rw[if_pos (by rw[z]),if_pos z];rfl
 ·rw[if_neg (oV z),if_neg z];exact h.g x
theorem Bld.aeV (h:Bld H kg kc n gv rc) {k:Nat} (hk:k<n) (hg:gv (ak k)≠none) (v:Int):Bld H (putK kg (.inr (ak k)) (.int v)) kc n (gv.put (ak k) v) (rc.del (ak k)):=by
 obtain⟨gs,cs,h1,h2,h3⟩:=h.k
 have hr:=h.ok.dj _ hg
 have hx:ak k∈gs:=by
  refine Decidable.byContradiction fun z=>hg ?_
  have:=h1.none.mpr z
  rw[h.g] at this
  cases e:gv (ak k) with
  | none=>rfl
  | some u=>rw[e] at this;cases this
 refine⟨h.ok.setG hk v,⟨gs,cs,h1.Lw hx _,h2,h3⟩,h.Z8 _ _,fun x r e=> ?_,fun x e=> ?_⟩
 ·unfold Rn.del at e
  by_cases z:x=ak k
  ·rw[if_pos z] at e;cases e
  ·rw[if_neg z] at e;exact h.r x r e
 ·unfold Rn.del at e
  by_cases z:x=ak k
  ·rw[z];exact h.rn _ hr
  ·rw[if_neg z] at e;exact h.rn x e
theorem Bld.aeW (h:Bld H kg kc n gv rc) {k:Nat} (hk:k<n) (hr:rc (ak k)≠none) (v:Int):Bld H (putK kg (.inr (ak k)) (.int v)) (jJ kc (.inr (ak k))) n (gv.put (ak k) v) (rc.del (ak k)):=by
 obtain⟨gs,cs,h1,h2,h3⟩:=h.k
 have hg:gv (ak k)=none:=by
  cases e:gv (ak k) with
  | none=>rfl
  | some u=>exact absurd (h.ok.dj _ (by rw[e];simp)) hr
 have hx:ak k∉gs:=h1.none.mp (by rw[h.g,hg];rfl)
 have hy:ak k∈cs:=by
  refine Decidable.byContradiction fun z=>hr ?_
  cases e:rc (ak k) with
  | none=>rfl
  | some r=>
    obtain⟨b,hb,_⟩:=h.r _ r e
    rw[h2.none.mpr z] at hb;cases hb
 have hl:=IK h2.nd hy
 refine⟨h.ok.setG hk v,⟨_,_,h1.pO hx _,h2.drop _,by rw[List.length_append];simp only[List.length_cons,List.length_nil];omega⟩,h.Z8 _ _,fun x r e=> ?_,fun x e=> ?_⟩
 ·unfold Rn.del at e
  rw[zJ]
  by_cases z:x=ak k
  ·rw[if_pos z] at e;cases e
  ·rw[if_neg z] at e;rw[if_neg (oV z)];exact h.r x r e
 ·unfold Rn.del at e
  rw[zJ]
  by_cases z:x=ak k
  ·rw[if_pos (by rw[z])]
  ·rw[if_neg z] at e;rw[if_neg (oV z)];exact h.rn x e
theorem Bld.RG (h:Bld H kg kc n gv rc) (y:Str) {b:Addr}{r:R} (hb:IsR H b r):(∀x r',(rc.put y r) x=some r'->∃b',dI (putK kc (.inr y) (.ref b)) (.inr x)=some (.ref b')/\IsR H b' r')/\∀x,(rc.put y r) x=none->dI (putK kc (.inr y) (.ref b)) (.inr x)=none:=by
 refine⟨fun x r' e=> ?_,fun x e=> ?_⟩
 ·rw[iC]
  unfold Rn.put at e
  by_cases z:x=y
  ·rw[if_pos z] at e;cases e
   exact⟨b,by rw[if_pos (by rw[z])],hb⟩
  ·rw[if_neg z] at e
   rw[if_neg (oV z)];exact h.r x r' e
 ·rw[iC]
  unfold Rn.put at e
  by_cases z:x=y
  ·rw[if_pos z] at e;cases e
  ·rw[if_neg z] at e
   rw[if_neg (oV z)];exact h.rn x e
theorem Bld.aeX (h:Bld H kg kc n gv rc) {k:Nat} (hn:n<=26) (hk:k<n) (h0:0<k) (hr:rc (ak k)≠none) {b:Addr}{r:R} (o:Rk3 (nmK k) 4 r) (hb:IsR H b r):Bld H kg (putK kc (.inr (ak k)) (.ref b)) n (gv.del (ak k)) (rc.put (ak k) r):=by
 obtain⟨gs,cs,h1,h2,h3⟩:=h.k
 have hg:gv (ak k)=none:=by
  cases e:gv (ak k) with
  | none=>rfl
  | some u=>exact absurd (h.ok.dj _ (by rw[e];simp)) hr
 have hy:ak k∈cs:=by
  refine Decidable.byContradiction fun z=>hr ?_
  cases e:rc (ak k) with
  | none=>rfl
  | some r=>
    obtain⟨b,hb,_⟩:=h.r _ r e
    rw[h2.none.mpr z] at hb;cases hb
 refine⟨h.ok.aeU hn hk h0 o,⟨gs,cs,h1,h2.Lw hy _,h3⟩,fun x=> ?_,(h.RG _ hb).1,(h.RG _ hb).2⟩
 unfold Kn.del
 by_cases z:x=ak k
 ·rw[if_pos z,z,h.g,hg]
 ·rw[if_neg z];exact h.g x
theorem Bld.aeY (h:Bld H kg kc n gv rc) {k:Nat} (hn:n<=26) (hk:k<n) (h0:0<k) (hr:rc (ak k)=none) {b:Addr}{r:R} (o:Rk3 (nmK k) 4 r) (hb:IsR H b r):Bld H (jJ kg (.inr (ak k))) (putK kc (.inr (ak k)) (.ref b)) n (gv.del (ak k)) (rc.put (ak k) r):=by
 obtain⟨gs,cs,h1,h2,h3⟩:=h.k
 have hg:gv (ak k)≠none:=by
  rcases h.ok.dom k hk with z | z
  ·exact z
  ·exact absurd hr z
 have hx:ak k∈gs:=by
  refine Decidable.byContradiction fun z=>hg ?_
  have:=h1.none.mpr z
  rw[h.g] at this
  cases e:gv (ak k) with
  | none=>rfl
  | some u=>rw[e] at this;cases this
 have hy:ak k∉cs:=h2.none.mp (h.rn _ hr)
 have hl:=IK h1.nd hx
 refine⟨h.ok.aeU hn hk h0 o,⟨_,_,h1.drop _,h2.pO hy _,by rw[List.length_append];simp only[List.length_cons,List.length_nil];omega⟩,fun x=> ?_,(h.RG _ hb).1,(h.RG _ hb).2⟩
 unfold Kn.del
 rw[zJ]
 by_cases z:x=ak k
 ·rw[if_pos (by rw[z]),if_pos z];rfl
 ·rw[if_neg (oV z),if_neg z];exact h.g x
end
def Z9 (K:PySem.W.Frag):Sp:=fun vs H Q _=>∃(h g c a:Addr) (zs:List Int) (start most:Int) (n:Nat) (gv:Kn) (rc:Rn),vs=[.ref h, .ref a, .int start, .int most]/\jD H h g c n gv rc/\n<=17/\SqL K H a (zs.map V.int)/\0<=start/\start<=50/\0<most/\most<=100/\
 ∀h2 g2 c2 gv2 rc2 H',aQ H H'->H h2=none->H g2=none->H c2=none->jD H' h2 g2 c2 n gv2 rc2->Q (.ref h2) H'
end RB
set_option maxRecDepth 100000
namespace RB
open PySem L2 PySem.Spec PyProof.Rows
structure qF (r:R) (kn:Kn) (us:List Rdp) (v:Int):Prop where
 c:Chn r kn us
 e:ev (kn.puts us) r= .inr v
theorem RJ {n:Int}{kn:Kn}:qF (.num n) kn [] n:=⟨trivial,rfl⟩
theorem Yd {kn:Kn}{x:Str}{v:Int} (h:kn x=some v):qF (.rd x) kn [] v:=⟨trivial,by show look kn x=_;unfold look;rw[h]⟩
theorem Ye {kn:Kn}{x:Str}{v:Int} (h:kn x=none):qF (.rd x) kn [(x,v)] v:=by
 refine⟨⟨by show look kn x=_;unfold look;rw[h],trivial⟩, ?_⟩
 show look (kn.put x v) x=_
 unfold look Kn.put
 rw[if_pos rfl]
theorem Dj {op:Op}{a b:R}{kn:Kn}{us vs:List Rdp}{u v:Int} (ha:qF a kn us u) (hb:qF b (kn.puts us) vs v):qF (.bin op a b) kn (us++vs) (op.ap u v):=by
 have ua:∀kn' x,ev kn' a= .inl x->ev kn' (.bin op a b)= .inl x:=fun kn' x e=>by simp only[ev];rw[e]
 have ub:∀kn' x,Kn.Le (kn.puts us) kn'->ev kn' b= .inl x->ev kn' (.bin op a b)= .inl x:=fun kn' x l e=>by simp only[ev];rw[vm l ha.e];simp only;rw[e]
 exact⟨(ha.c.up fun kn' x _ e=>ua kn' x e).app (hb.c.up ub),by rw[Kn.fQ];simp only[ev];rw[vm hb.c.le ha.e];simp only;rw[hb.e]⟩
theorem IW {a b c:R}{kn:Kn}{us vs:List Rdp}{u v:Int} (ha:qF a kn us u) (hb:qF (if u>0 then b else c) (kn.puts us) vs v):qF (.pick a b c) kn (us++vs) v:=by
 have ua:∀kn' x,ev kn' a= .inl x->ev kn' (.pick a b c)= .inl x:=fun kn' x e=>by simp only[ev];rw[e]
 have e:∀kn':Kn,Kn.Le (kn.puts us) kn'->ev kn' (.pick a b c)=ev kn' (if u>0 then b else c):=fun kn' l=>by
  simp only[ev];rw[vm l ha.e];simp only;split<;>rfl
 exact⟨(ha.c.up fun kn' x _ e=>ua kn' x e).app (hb.c.up fun kn' x l z=>by rw[e kn' l];exact z),by rw[Kn.fQ,e _ hb.c.le];exact hb.e⟩
theorem RK {a:R}{ns:List Str}{x:Str}{kn:Kn}{us vs:List Rdp}{u v:Int} (ha:qF a kn us u) (hx:xN ns u=some x) (hb:qF (.rd x) (kn.puts us) vs v):qF (.cho a ns) kn (us++vs) v:=by
 have ua:∀kn' x,ev kn' a= .inl x->ev kn' (.cho a ns)= .inl x:=fun kn' x e=>by simp only[ev];rw[e]
 have e:∀kn':Kn,Kn.Le (kn.puts us) kn'->ev kn' (.cho a ns)=ev kn' (.rd x):=fun kn' l=>by
  simp only[ev];rw[vm l ha.e];simp only;rw[hx]
 exact⟨(ha.c.up fun kn' x _ e=>ua kn' x e).app (hb.c.up fun kn' x l z=>by rw[e kn' l];exact z),by rw[Kn.fQ,e _ hb.c.le];exact hb.e⟩
theorem Dk {x:Str}{u:Int}:∀{ps:List Rdp}{kn:Kn},kn.puts ps x=some u->(x,u)∈ps\/kn x=some u
 |[],kn,h=> .inr h
 | p::ps,kn,h=>by
   rcases Dk (ps:=ps) h with z | z
   ·exact .inl (List.mem_cons_of_mem _ z)
   ·unfold Kn.put at z
    by_cases e:x=p.1
    ·rw[if_pos e] at z
     left
     have:p=(x,u):=by rw[e];exact Prod.ext rfl (Option.some.inj z)
     rw[this];simp
    ·rw[if_neg e] at z;exact .inr z
theorem Ja {x:Str}:∀{ps:List Rdp}{kn:Kn},kn.puts ps x=none->x∉ps.map (·.1)/\kn x=none
 |[],kn,h=>⟨by simp,h⟩
 | p::ps,kn,h=>by
   obtain⟨z1,z2⟩:=Ja (ps:=ps) h
   unfold Kn.put at z2
   by_cases e:x=p.1
   ·rw[if_pos e] at z2;cases z2
   ·rw[if_neg e] at z2
    exact⟨by rw[List.map_cons,List.mem_cons];exact fun w=>w.elim e z1,z2⟩
structure Rows (kn:Kn) (ps:List Rdp):Prop where
 s:∀p∈ps,kn p.1=some p.2
 nd:(ps.map (·.1)).Nodup
theorem Rows.le {kn kn':Kn}{ps:List Rdp} (h:Rows kn ps) (l:Kn.Le kn kn'):Rows kn' ps:=⟨fun p hp=>l _ _ (h.s p hp),h.nd⟩
theorem ju:∀{ws ns:List Str},ws.Nodup->(∀x∈ws,x∈ns)->ws.length<=ns.length
 |[],_,_,_=>Nat.zero_le _
 | w::ws,ns,nd,h=>by
   rw[List.nodup_cons] at nd
   have hw:=h w (by simp)
   have ih:=ju (ws:=ws) (ns:=ns.erase w) nd.2 fun x hx=>by
    have hne:x≠w:=fun e=>nd.1 (by rw[<-e];exact hx)
    exact(List.mem_erase_of_ne hne).mpr (h x (by simp[hx]))
   rw[List.length_erase_of_mem hw] at ih
   have:=List.length_pos_of_mem hw
   simp only[List.length_cons]
   omega
theorem Rows.look {kn:Kn}{ps:List Rdp}{x:Str}{v:Int} (h:Rows kn ps) (hx:kn x=some v):if(x,v)∈ps then qF (.rd x) (kn0.puts ps) [] v else qF (.rd x) (kn0.puts ps) [(x,v)] v/\Rows kn (ps++[(x,v)]):=by
 by_cases hm:(x,v)∈ps
 ·rw[if_pos hm]
  cases e:kn0.puts ps x with
  | none=>exact absurd (List.mem_map.mpr ⟨_,hm,rfl⟩) (Ja e).1
  | some u=>
    rcases Dk e with z | z
    ·have:=h.s _ z
     rw[hx] at this
     cases this
     exact Yd e
    ·cases z
 ·rw[if_neg hm]
  have hn:kn0.puts ps x=none:=by
   cases e:kn0.puts ps x with
   | none=>rfl
   | some u=>
     rcases Dk e with z | z
     ·have:=h.s _ z
      rw[hx] at this
      cases this
      exact absurd z hm
     ·cases z
  refine⟨Ye hn,fun p hp=> ?_, ?_⟩
  ·rcases List.mem_append.mp hp with z | z
   ·exact h.s p z
   ·have:p=(x,v):=by simpa using z
    rw[this];exact hx
  ·rw[List.map_append,List.nodup_append]
   exact⟨h.nd,by simp,fun a ha b hb=>by
    have:b=x:=by simpa using hb
    rw[this];exact fun z=>(Ja hn).1 (z▸ha)⟩
abbrev Rm:=Str->Option (R×List Rdp×Int)
def Rm.put (rm:Rm) (x:Str) (q:R×List Rdp×Int):Rm:=fun y=>if y=x then some q else rm y
def rY (X:List Addr) (H:Hp) (b:Addr) (q:R×List Rdp×Int):Prop:=∃br l as,H b=some (.tup [.ref br, .ref l, .int q.2.2])/\IsR H br q.1/\H l=some (.lst (as.map V.ref))/\gM H as q.2.1/\l∉X
structure zR (n:Nat) (gv:Kn) (rc:Rn) (kn:Kn) (rm:Rm):Prop where
 a:∀x v,kn x=some v->x∈nmK n/\(gv x=some v\/(gv x=none/\∃r ps,rc x=some r/\rm x=some (r,ps,v)))
 b:∀x r ps v,rm x=some (r,ps,v)->rc x=some r/\gv x=none/\kn x=some v/\qF r kn0 ps v/\Rows kn ps
structure StA (X:List Addr) (H:Hp) (st wd rd:Addr) (n:Nat) (gv:Kn) (rc:Rn) (kn:Kn) (rm:Rm):Prop where
 e:H st=some (.lst [.ref wd, .ref rd])
 ew:∃kw ws,H wd=some (.dK kw)/\mJ kw ws/\∀x,dI kw (.inr x)=(kn x).map V.int
 er:∃kr rs,H rd=some (.dK kr)/\mJ kr rs/\(∀x q,rm x=some q->∃b,dI kr (.inr x)=some (.ref b)/\rY X H b q)/\∀x,rm x=none->dI kr (.inr x)=none
 ne:wd≠rd
 ok:zR n gv rc kn rm
section
variable {X:List Addr}{H H':Hp}{st wd rd:Addr}{n:Nat}{gv:Kn}{rc:Rn}{kn:Kn}{rm:Rm}
theorem rY.but {S:List Addr}{b:Addr}{q:R×List Rdp×Int} (h:rY X H b q) (bt:But S H H') (tp:jX H H') (hs:∀y∈S,y∈X\/∀xs,H y≠some (.lst xs)):rY X H' b q:=by
 obtain⟨br,l,as,e,r,el,rs,hx⟩:=h
 exact⟨br,l,as,tp _ _ e,r.tups tp,bt _ _ (fun z=>(hs l z).elim hx fun w=>w _ el) el,rs.tups tp,hx⟩
theorem StA.kl (h:StA X H st wd rd n gv rc kn rm) {kw:List (Key×V)} (e:H wd=some (.dK kw)):kw.length<=n:=by
 obtain⟨kw',ws,e',k,v⟩:=h.ew
 rw[e] at e';cases e'
 rw[k.len,<-lG n]
 refine ju k.nd fun x hx=> ?_
 cases z:kn x with
 | none=>exact absurd hx (k.none.mp (by rw[v,z];rfl))
 | some u=>exact(h.ok.a x u z).1
theorem StA.rl (h:StA X H st wd rd n gv rc kn rm) {kr:List (Key×V)} (e:H rd=some (.dK kr)):kr.length<=n:=by
 obtain⟨kr',rs,e',k,v,w⟩:=h.er
 rw[e] at e';cases e'
 rw[k.len,<-lG n]
 refine ju k.nd fun x hx=> ?_
 cases z:rm x with
 | none=>exact absurd hx (k.none.mp (w x z))
 | some q=>
   obtain⟨r,ps,v⟩:=q
   exact(h.ok.a x v (h.ok.b x r ps v z).2.2.1).1
theorem StA.tups (h:StA X H st wd rd n gv rc kn rm) {S:List Addr} (hS:∀y∈S,y=wd\/y=rd\/∃xs,H y=some (.lst xs)) (b:But S H H'):jX H H':=fun p xs e=>b p _ (fun z=>by
 obtain⟨kw,ws,e1,_⟩:=h.ew
 obtain⟨kr,rs,e2,_⟩:=h.er
 rcases hS p z with z | z | ⟨ys,z⟩
 ·rw[z,e1] at e;cases e
 ·rw[z,e2] at e;cases e
 ·rw[z] at e;cases e) e
theorem Rows.len {ps:List Rdp} (h:StA X H st wd rd n gv rc kn rm) (r:Rows kn ps):ps.length<=n:=by
 have:=ju r.nd (ns:=nmK n) fun x hx=>by
  obtain⟨p,hp,rfl⟩:=List.mem_map.mp hx
  exact(h.ok.a _ _ (r.s p hp)).1
 rw[List.length_map,lG] at this
 exact this
end
theorem jD.but {S:List Addr}{H H':Hp}{h g c:Addr}{n:Nat}{gv:Kn}{rc:Rn} (a:jD H h g c n gv rc) (b:But S H H') (t:jX H H') (hg:g∉S) (hc:c∉S):jD H' h g c n gv rc:=by
 obtain⟨kg,kc,e,e1,e2,bd⟩:=a
 exact⟨kg,kc,t _ _ e,b _ _ hg e1,b _ _ hc e2,bd.tups t⟩
structure Ctx (X:List Addr) (H:Hp) (h g c st wd rd:Addr) (n:Nat) (gv:Kn) (rc:Rn) (kn:Kn) (rm:Rm):Prop where
 ho:jD H h g c n gv rc
 sa:StA X H st wd rd n gv rc kn rm
 n17:n<=17
 gw:g≠wd
 gr:g≠rd
 cw:c≠wd
 cr:c≠rd
 xs:∀y∈X,H y≠none
 st:st∉X
def New (kn kn':Kn) (m:Nat):Prop:=Kn.Le kn kn'/\∀y,kn' y≠none->kn y≠none\/y∈nmK m
end RB
namespace RB
open PySem L2 PySem.Spec PyProof.Rows
theorem Ctx.same {X:List Addr}{H H':Hp}{h g c st wd rd:Addr}{n:Nat}{gv:Kn}{rc:Rn}{kn:Kn}{rm:Rm} (a:Ctx X H h g c st wd rd n gv rc kn rm) (s:aQ H H'):Ctx X H' h g c st wd rd n gv rc kn rm:=by
 obtain⟨⟨kg,kc,e,e1,e2,bd⟩,⟨e3,⟨kw,ws,e4,k4,v4⟩,⟨kr,rs,e5,k5,v5,w5⟩,ne,ok⟩,n17,gw,gr,cw,cr,xs,st'⟩:=a
 exact⟨⟨kg,kc,s _ _ e,s _ _ e1,s _ _ e2,bd.tups (aQ.tups s)⟩,⟨s _ _ e3,⟨kw,ws,s _ _ e4,k4,v4⟩,⟨kr,rs,s _ _ e5,k5,fun x q z=>let ⟨b,hb,ra⟩:=v5 x q z;⟨b,hb,ra.but (S:=[]) (But.of_same s) (aQ.tups s) (by simp)⟩,w5⟩,ne,ok⟩,n17,gw,gr,cw,cr,fun y hy z=>xs y hy (same_none s z),st'⟩
theorem Ctx.row {X:List Addr}{H:Hp}{h g c st wd rd rl:Addr}{n:Nat}{gv:Kn}{rc:Rn}{kn:Kn}{rm:Rm} (a:Ctx X H h g c st wd rd n gv rc kn rm) {xs:List V} (el:H rl=some (.lst xs)) (hX:rl∈X) (hst:rl≠st) (ys:List V):Ctx X (upd H rl (.lst ys)) h g c st wd rd n gv rc kn rm:=by
 have t:jX H (upd H rl (.lst ys)):=fun y xs z=>(aq (fun w=>by rw[w,el] at z;cases z)).trans z
 have hS:∀y∈[rl],y∈X\/∀xs,H y≠some (.lst xs):=fun y hy=> .inl (by
  have:y=rl:=by simpa using hy
  rw[this];exact hX)
 have nd:∀d kvs,H d=some (.dK kvs)->d≠rl:=fun d kvs e z=>by rw[z,el] at e;cases e
 obtain⟨⟨kg,kc,e,e1,e2,bd⟩,⟨e3,⟨kw,ws,e4,k4,v4⟩,⟨kr,rs,e5,k5,v5,w5⟩,ne,ok⟩,n17,gw,gr,cw,cr,xs',st'⟩:=a
 exact⟨⟨kg,kc,t _ _ e,(aq (nd _ _ e1)).trans e1,(aq (nd _ _ e2)).trans e2,bd.tups t⟩,⟨(aq (Ne.symm hst)).trans e3,⟨kw,ws,(aq (nd _ _ e4)).trans e4,k4,v4⟩,⟨kr,rs,(aq (nd _ _ e5)).trans e5,k5,fun x q z=>let ⟨b,hb,ra⟩:=v5 x q z;⟨b,hb,ra.but (S:=[rl]) (But.set _ (by simp)) t hS⟩,w5⟩,ne,ok⟩,n17,gw,gr,cw,cr,fun y hy z=>xs' y hy (d9 z).2,st'⟩
end RB
set_option maxRecDepth 100000
namespace RB
open PySem L2 PySem.Spec PyProof.Rows
section
variable {H:Hp}{s l h:Addr}{du wr:V}
end
section
variable {H H':Hp}{s l h:Addr}{kn:Kn}{ps:List Rdp}
end
end RB
namespace RB
open PySem L2 PySem.Spec PyProof.Rows
end RB
namespace RB
open PySem L2 PySem.Spec PyProof.Rows
end RB
set_option maxRecDepth 100000
namespace RB
open PySem L2 PySem.Spec PyProof.Rows
theorem GF {ns:List Str}:∀{r:R}{kn:Kn}{x:Str},r.In ns->ev kn r= .inl x->x∈ns
 | .num n,kn,x,i,h=>by cases h
 | .rd y,kn,x,i,h=>by obtain⟨rfl,_⟩:=zH h;exact i
 | .bin op a b,kn,x,i,h=>by
   simp only[ev] at h
   cases ea:ev kn a with
   | inl y=>rw[ea] at h;cases h;exact GF i.1 ea
   | inr u=>
     rw[ea] at h
     cases eb:ev kn b with
     | inl y=>rw[eb] at h;cases h;exact GF i.2 eb
     | inr v=>rw[eb] at h;cases h
 | .pick a b c,kn,x,i,h=>by
   simp only[ev] at h
   cases ea:ev kn a with
   | inl y=>rw[ea] at h;cases h;exact GF i.1 ea
   | inr u=>
     rw[ea] at h
     simp only at h
     split at h
     ·exact GF i.2.1 h
     ·exact GF i.2.2 h
 | .cho a ms,kn,x,i,h=>by
   simp only[ev] at h
   cases ea:ev kn a with
   | inl y=>rw[ea] at h;cases h;exact GF i.1 ea
   | inr u=>
     rw[ea] at h
     simp only at h
     cases ep:xN ms u with
     | none=>rw[ep] at h;cases h
     | some y=>
       rw[ep] at h
       obtain⟨rfl,_⟩:=zH h
       exact i.2 _ (List.mem_of_getElem? ep)
end RB
set_option maxRecDepth 100000
namespace RB
open PySem L2 PySem.Spec PyProof.Rows
section
variable {X:List Addr}{H:Hp}{h g c st wd rd:Addr}{n:Nat}{gv:Kn}{rc:Rn}{kn:Kn}{rm:Rm}
theorem Ctx.less {rl:Addr} (a:Ctx (rl::X) H h g c st wd rd n gv rc kn rm):Ctx X H h g c st wd rd n gv rc kn rm:=by
 obtain⟨ho,⟨e3,ew,⟨kr,rs,e5,k5,v5,w5⟩,ne,ok⟩,n17,gw,gr,cw,cr,xs,st'⟩:=a
 exact⟨ho,⟨e3,ew,⟨kr,rs,e5,k5,fun x q z=>let ⟨b,hb,br,l,as,h1,h2,h3,h4,h5⟩:=v5 x q z;⟨b,hb,br,l,as,h1,h2,h3,h4,fun m=>h5 (List.mem_cons_of_mem _ m)⟩,w5⟩,ne,ok⟩,n17,gw,gr,cw,cr,fun y hy=>xs y (List.mem_cons_of_mem _ hy),fun m=>st' (List.mem_cons_of_mem _ m)⟩
theorem Ctx.more {rl:Addr} (a:Ctx X H h g c st wd rd n gv rc kn rm) (hn:H rl=none) (xs0:List V):Ctx (rl::X) (upd H rl (.lst xs0)) h g c st wd rd n gv rc kn rm:=by
 have s:=aC (.lst xs0) hn
 have nf:∀{l xs},H l=some xs->l≠rl:=fun e z=>by rw[z,hn] at e;cases e
 obtain⟨⟨kg,kc,e,e1,e2,bd⟩,⟨e3,⟨kw,ws,e4,k4,v4⟩,⟨kr,rs,e5,k5,v5,w5⟩,ne,ok⟩,n17,gw,gr,cw,cr,xs,st'⟩:=a
 refine⟨⟨kg,kc,s _ _ e,s _ _ e1,s _ _ e2,bd.tups (aQ.tups s)⟩,⟨s _ _ e3,⟨kw,ws,s _ _ e4,k4,v4⟩,⟨kr,rs,s _ _ e5,k5,fun x q z=> ?_,w5⟩,ne,ok⟩,n17,gw,gr,cw,cr,fun y hy z=> ?_,fun m=> ?_⟩
 ·obtain⟨b,hb,br,l,as,h1,h2,h3,h4,h5⟩:=v5 x q z
  refine⟨b,hb,br,l,as,s _ _ h1,h2.same s,s _ _ h3,h4.same s,fun m=> ?_⟩
  rcases List.mem_cons.mp m with m | m
  ·exact nf h3 m
  ·exact h5 m
 ·rcases List.mem_cons.mp hy with m | m
  ·rw[m,ao] at z;cases z
  ·exact xs y m (d9 z).2
 ·rcases List.mem_cons.mp m with m | m
  ·exact nf e3 m
  ·exact st' m
theorem zR.Yg {x:Str}{v:Int} (h:zR n gv rc kn rm) (hx:x∈nmK n) (hk:kn x=none) (hg:gv x=some v):zR n gv rc (kn.put x v) rm:=by
 refine⟨fun y u e=> ?_,fun y r ps u e=> ?_⟩
 ·unfold Kn.put at e
  by_cases z:y=x
  ·rw[if_pos z] at e;cases e;rw[z];exact⟨hx, .inl hg⟩
  ·rw[if_neg z] at e;exact h.a y u e
 ·obtain⟨h1,h2,h3,h4,h5⟩:=h.b y r ps u e
  exact⟨h1,h2,Kn.nW hk _ _ h3,h4,h5.le (Kn.nW hk)⟩
theorem zR.uC {x:Str}{r:R}{ps:List Rdp}{v:Int} (h:zR n gv rc kn rm) (hx:x∈nmK n) (hk:kn x=none) (hg:gv x=none) (hr:rc x=some r) (got:qF r kn0 ps v) (row:Rows kn ps):zR n gv rc (kn.put x v) (rm.put x (r,ps,v)):=by
 refine⟨fun y u e=> ?_,fun y r' ps' u e=> ?_⟩
 ·unfold Kn.put at e
  by_cases z:y=x
  ·rw[if_pos z] at e;cases e
   refine⟨by rw[z];exact hx, .inr ⟨by rw[z];exact hg,r,ps,by rw[z];exact hr, ?_⟩⟩
   unfold Rm.put;rw[if_pos z]
  ·rw[if_neg z] at e
   obtain⟨h1,h2⟩:=h.a y u e
   refine⟨h1,h2.elim .inl fun⟨w0,r1,ps1,w1,w2⟩=> .inr ⟨w0,r1,ps1,w1, ?_⟩⟩
   unfold Rm.put;rw[if_neg z];exact w2
 ·unfold Rm.put at e
  by_cases z:y=x
  ·rw[if_pos z] at e;cases e
   refine⟨by rw[z];exact hr,by rw[z];exact hg, ?_,got,row.le (Kn.nW hk)⟩
   unfold Kn.put;rw[if_pos z]
  ·rw[if_neg z] at e
   obtain⟨h1,h2,h3,h4,h5⟩:=h.b y r' ps' u e
   exact⟨h1,h2,Kn.nW hk _ _ h3,h4,h5.le (Kn.nW hk)⟩
theorem oW {d:Addr}{kvs:List (Key×V)}{o:HO} (e:H d=some (.dK kvs)):jX H (upd H d o):=fun y xs z=>(aq (fun w=>by rw[w,e] at z;cases z)).trans z
theorem Dl {kw:List (Key×V)} (v4:∀y,dI kw (.inr y)=(kn y).map V.int) (x:Str) (v:Int):∀y,dI (putK kw (.inr x) (.int v)) (.inr y)=((kn.put x v) y).map V.int:=fun y=>by
 rw[iC]
 unfold Kn.put
 by_cases z:y=x
 ·rw[if_pos (by rw[z]),if_pos z];rfl
 ·rw[if_neg (oV z),if_neg z];exact v4 y
theorem rY.dk {b:Addr}{q:R×List Rdp×Int} (r:rY X H b q) {d:Addr}{kvs:List (Key×V)}{o:HO} (e:H d=some (.dK kvs)):rY X (upd H d o) b q:=r.but (S:=[d]) (But.set _ (by simp)) (oW e) (fun y hy=> .inr fun xs w=>by
 have:y=d:=by simpa using hy
 rw[this,e] at w;cases w)
theorem Ctx.Yg {x:Str}{v:Int}{kw:List (Key×V)} (a:Ctx X H h g c st wd rd n gv rc kn rm) (ew:H wd=some (.dK kw)) (hx:x∈nmK n) (hk:kn x=none) (hg:gv x=some v):Ctx X (upd H wd (.dK (putK kw (.inr x) (.int v)))) h g c st wd rd n gv rc (kn.put x v) rm:=by
 have t:=oW (o:= .dK (putK kw (.inr x) (.int v))) ew
 obtain⟨⟨kg,kc,e,e1,e2,bd⟩,⟨e3,⟨kw',ws,e4,k4,v4⟩,⟨kr,rs,e5,k5,v5,w5⟩,ne,ok⟩,n17,gw,gr,cw,cr,xs,st'⟩:=a
 rw[ew] at e4;cases e4
 have hst:st≠wd:=fun z=>by rw[z,ew] at e3;cases e3
 have hx':x∉ws:=k4.none.mp (by rw[v4,hk];rfl)
 exact⟨⟨kg,kc,t _ _ e,(aq gw).trans e1,(aq cw).trans e2,bd.tups t⟩,⟨(aq hst).trans e3,⟨_,_,ao,k4.pO hx' _,Dl v4 x v⟩,⟨kr,rs,(aq (Ne.symm ne)).trans e5,k5,fun y q z=>let ⟨b,hb,ra⟩:=v5 y q z;⟨b,hb,ra.dk ew⟩,w5⟩,ne,ok.Yg hx hk hg⟩,n17,gw,gr,cw,cr,fun y hy z=>xs y hy (d9 z).2,st'⟩
theorem Ctx.uC {x:Str}{r:R}{ps:List Rdp}{v:Int}{kw kr:List (Key×V)}{b:Addr} (a:Ctx X H h g c st wd rd n gv rc kn rm) (ew:H wd=some (.dK kw)) (er:H rd=some (.dK kr)) (hx:x∈nmK n) (hk:kn x=none) (hg:gv x=none) (hr:rc x=some r) (got:qF r kn0 ps v) (row:Rows kn ps) (ra:rY X H b (r,ps,v)):
 Ctx X (upd (upd H rd (.dK (putK kr (.inr x) (.ref b)))) wd (.dK (putK kw (.inr x) (.int v)))) h g c st wd rd n gv rc (kn.put x v) (rm.put x (r,ps,v)):=by
 have t1:=oW (o:= .dK (putK kr (.inr x) (.ref b))) er
 obtain⟨⟨kg,kc,e,e1,e2,bd⟩,⟨e3,⟨kw',ws,e4,k4,v4⟩,⟨kr',rs,e5,k5,v5,w5⟩,ne,ok⟩,n17,gw,gr,cw,cr,xs,st'⟩:=a
 rw[ew] at e4;cases e4
 rw[er] at e5;cases e5
 have ew1:upd H rd (.dK (putK kr (.inr x) (.ref b))) wd=some (.dK kw):=(aq ne).trans ew
 have t2:=oW (o:= .dK (putK kw (.inr x) (.int v))) ew1
 have hsw:st≠wd:=fun z=>by rw[z,ew] at e3;cases e3
 have hsr:st≠rd:=fun z=>by rw[z,er] at e3;cases e3
 have hx':x∉ws:=k4.none.mp (by rw[v4,hk];rfl)
 have hrm:rm x=none:=by
  cases z:rm x with
  | none=>rfl
  | some q=>
    obtain⟨r1,ps1,v1⟩:=q
    have:=(ok.b x r1 ps1 v1 z).2.2.1
    rw[hk] at this;cases this
 have hxr:x∉rs:=k5.none.mp (w5 x hrm)
 have up:∀{b q},rY X H b q->rY X (upd (upd H rd (.dK (putK kr (.inr x) (.ref b)))) wd (.dK (putK kw (.inr x) (.int v)))) b q:=fun z=>(z.dk er).dk ((aq ne).trans ew)
 refine⟨⟨kg,kc,t2 _ _ (t1 _ _ e),(aq gw).trans ((aq gr).trans e1),(aq cw).trans ((aq cr).trans e2),(bd.tups t1).tups t2⟩,⟨(aq hsw).trans ((aq hsr).trans e3),⟨_,_,ao,k4.pO hx' _,Dl v4 x v⟩,⟨_,_,(aq (Ne.symm ne)).trans ao,k5.pO hxr _,fun y q z=> ?_,fun y z=> ?_⟩,ne,ok.uC hx hk hg hr got row⟩,n17,gw,gr,cw,cr,fun y hy z=>xs y hy (d9 (d9 z).2).2,st'⟩
 ·rw[iC]
  unfold Rm.put at z
  by_cases w:y=x
  ·rw[if_pos w] at z;cases z
   exact⟨b,by rw[if_pos (by rw[w])],(ra.dk er).dk ew1⟩
  ·rw[if_neg w] at z
   obtain⟨b',hb,ra'⟩:=v5 y q z
   exact⟨b',by rw[if_neg (oV w)];exact hb,(ra'.dk er).dk ew1⟩
 ·rw[iC]
  unfold Rm.put at z
  by_cases w:y=x
  ·rw[if_pos w] at z;cases z
  ·rw[if_neg w] at z
   rw[if_neg (oV w)];exact w5 y z
end
end RB
namespace RB
open PySem L2 PySem.Spec PyProof.Rows
def aaa:Sp:=fun vs H Q _=>∃(h g c p:Addr) (n cc:Nat) (gv:Kn) (rc:Rn),vs=[.ref h, .ref p]/\jD H h g c n gv rc/\1<=n/\n<=17/\dZ H p cc/\cc<=50000/\p≠g/\p≠c/\
 ∀(wl:Addr) (ws:List Str) (H':Hp),But [p] H H'->H wl=none->H' wl=some (.lst (ws.map V.str))->(∀x∈ws,x∈nmK n)->Q (.ref wl) H'
end RB
namespace RB
open PySem L2 PySem.Spec PyProof.Rows
theorem Qo {r:R}{ns:List Str} (hi:r.In ns):∀{ps:List Rdp}{kn:Kn},Chn r kn ps->∀p∈ps,p.1∈ns
 |[],_,_,p,hp=>by cases hp
 | q::ps,kn,c,p,hp=>by
   rcases List.mem_cons.mp hp with z | z
   ·rw[z];exact GF hi c.1
   ·exact Qo hi (ps:=ps) c.2 p z
def aia (n:Nat) (rm:Rm):Prop:=∀x r ps v,rm x=some (r,ps,v)->qF r kn0 ps v/\∃k,k<n/\x=ak k/\Rk3 (nmK k) 4 r
structure p6 (H:Hp) (kr:List (Key×V)) (n:Nat) (rm:Rm):Prop where
 k:∃rs,mJ kr rs/\∀x∈rs,x∈nmK n
 v:∀x q,rm x=some q->∃b,dI kr (.inr x)=some (.ref b)/\rY [] H b q
 w:∀x,rm x=none->dI kr (.inr x)=none
 ok:aia n rm
theorem rY.same {X:List Addr}{H H':Hp}{b:Addr}{q:R×List Rdp×Int} (r:rY X H b q) (s:aQ H H'):rY X H' b q:=r.but (S:=[]) (But.of_same s) (aQ.tups s) (by simp)
theorem p6.map {H H':Hp}{kr:List (Key×V)}{n:Nat}{rm:Rm} (h:p6 H kr n rm) (f:∀b q,rY [] H b q->rY [] H' b q):p6 H' kr n rm:=⟨h.k,fun x q e=>let ⟨b,h1,h2⟩:=h.v x q e;⟨b,h1,f b q h2⟩,h.w,h.ok⟩
theorem p6.len {H:Hp}{kr:List (Key×V)}{n:Nat}{rm:Rm} (h:p6 H kr n rm):kr.length<=n:=by
 obtain⟨rs,k,hr⟩:=h.k
 rw[k.len,<-lG n]
 exact ju k.nd hr
theorem p6.put {H:Hp}{kr:List (Key×V)}{n:Nat}{rm:Rm} (h:p6 H kr n rm) {x:Str}{q:R×List Rdp×Int}{b:Addr} (hx:x∈nmK n) (ra:rY [] H b q) (hq:qF q.1 kn0 q.2.1 q.2.2/\∃k,k<n/\x=ak k/\Rk3 (nmK k) 4 q.1):p6 H (putK kr (.inr x) (.ref b)) n (rm.put x q):=by
 obtain⟨rs,k,hr⟩:=h.k
 refine⟨?_,fun y q' e=> ?_,fun y e=> ?_,fun y r ps v e=> ?_⟩
 ·by_cases hm:x∈rs
  ·exact⟨rs,k.Lw hm _,hr⟩
  ·exact⟨_,k.pO hm _,fun y hy=>by
    rcases List.mem_append.mp hy with z | z
    ·exact hr y z
    ·have:y=x:=by simpa using z
     rw[this];exact hx⟩
 ·rw[iC]
  unfold Rm.put at e
  by_cases z:y=x
  ·rw[if_pos z] at e;cases e
   exact⟨b,by rw[if_pos (by rw[z])],ra⟩
  ·rw[if_neg z] at e;rw[if_neg (oV z)];exact h.v y q' e
 ·rw[iC]
  unfold Rm.put at e
  by_cases z:y=x
  ·rw[if_pos z] at e;cases e
  ·rw[if_neg z] at e;rw[if_neg (oV z)];exact h.w y e
 ·unfold Rm.put at e
  by_cases z:y=x
  ·rw[if_pos z] at e;cases e
   rw[z];exact hq
  ·rw[if_neg z] at e;exact h.ok y r ps v e
theorem StA.aeZ {X:List Addr}{H:Hp}{st wd rd:Addr}{n:Nat}{gv:Kn}{rc:Rn}{kn:Kn}{rm:Rm} (h:StA X H st wd rd n gv rc kn rm) (ho:zQ n gv rc):∃kr,H rd=some (.dK kr)/\p6 H kr n rm:=by
 obtain⟨kr,rs,e,k,v,w⟩:=h.er
 refine⟨kr,e,⟨rs,k,fun x hx=> ?_⟩,fun x q z=>let ⟨b,hb,br,l,as,h1,h2,h3,h4,_⟩:=v x q z;⟨b,hb,br,l,as,h1,h2,h3,h4,by simp⟩,w,fun x r ps v z=> ?_⟩
 ·cases z:rm x with
  | none=>exact absurd hx (k.none.mp (w x z))
  | some q=>
    obtain⟨r,ps,v⟩:=q
    exact(h.ok.a x v (h.ok.b x r ps v z).2.2.1).1
 ·obtain⟨h1,h2,h3,h4,h5⟩:=h.ok.b x r ps v z
  exact⟨h4,ho.rk x r h1⟩
def aab (K:PySem.W.Frag):Sp:=fun vs H Q _=>∃(a:Addr) (zs:List Int),vs=[.ref a]/\SqL K H a (zs.map V.int)/\
 ∀(t h g c rcd wl:Addr) (n:Nat) (gv:Kn) (rc:Rn) (kr:List (Key×V)) (rm:Rm) (ws:List Str) (H':Hp),aQ H H'->H' t=some (.lst [.ref h, .ref rcd, .ref wl])->jD H' h g c n gv rc->n<=17->H' rcd=some (.dK kr)->p6 H' kr n rm->H' wl=some (.lst (ws.map V.str))->(∀x∈ws,x∈nmK n)->Q (.ref t) H'
end RB
namespace RB
open PySem L2 PySem.Spec PyProof.Rows
theorem mJ.at {kvs:List (Key×V)}{ks:List Str} (h:mJ kvs ks) {i:Nat}{k:Key}{v:V} (e:kvs[i]? =some (k,v)):∃x,k= .inr x/\ks[i]? =some x:=by
 have h1:(kvs.map (·.1))[i]? =some k:=by rw[List.getElem?_map,e];rfl
 rw[h.k,List.getElem?_map] at h1
 cases z:ks[i]? with
 | none=>rw[z] at h1;cases h1
 | some x=>rw[z] at h1;exact⟨x,(Option.some.inj h1).symm,rfl⟩
end RB
set_option maxRecDepth 100000
namespace RB
open PySem L2 PySem.Spec PyProof.Rows
theorem again {r:R}{kn:Kn}{v:Int}:∀(k:Nat) {ps qs:List Rdp}{kn1:Kn},Chn r kn1 ps->Chn r kn1 qs->ev (kn1.puts qs) r= .inr v->(∀q∈qs,kn q.1=some q.2)->(∀(j:Nat) p,j<k->ps[j]? =some p->kn p.1=some p.2)->∀p,ps[k]? =some p->∃u,kn p.1=some u
 | k,[],qs,kn1,cp,cq,e,hq,hj,p,hp=>by simp at hp
 | k,q0::ps,[],kn1,cp,cq,e,hq,hj,p,hp=>by
   have h1:=cp.1
   have e:ev kn1 r= .inr v:=e
   rw[e] at h1;cases h1
 | 0,q0::ps,q::qs,kn1,cp,cq,e,hq,hj,p,hp=>by
   have:q0=p:=by simpa using hp
   subst this
   have h1:=cp.1
   rw[cq.1] at h1
   have:q.1=q0.1:=Sum.inl.inj h1
   exact⟨q.2,by rw[<-this];exact hq q (by simp)⟩
 | k+1,q0::ps,q::qs,kn1,cp,cq,e,hq,hj,p,hp=>by
   have h1:=cp.1
   rw[cq.1] at h1
   have e1:q.1=q0.1:=Sum.inl.inj h1
   have h2:=hj 0 q0 (by omega) rfl
   have h3:=hq q (by simp)
   rw[e1,h2] at h3
   have e2:q0.2=q.2:=Option.some.inj h3
   have cq2:=cq.2
   have ee:ev ((kn1.put q.1 q.2).puts qs) r= .inr v:=e
   rw[e1,<-e2] at cq2 ee
   exact again k cp.2 cq2 ee (fun y hy=>hq y (by simp[hy])) (fun j p' hj' hp'=>hj (j+1) p' (by omega) (by simpa using hp')) p (by simpa using hp)
inductive Pap where
 | given | new | rcp (r s:R) | rd (k:Nat) (n m:Int) | alike
inductive m6 (H:Hp) (b:Addr):Pap->Prop where
 | given (e:H b=some (.tup [.str "given"])):m6 H b .given
 | new (e:H b=some (.tup [.str "new"])):m6 H b .new
 | rcp {r s:R}{p q:Addr} (e:H b=some (.tup [.str "recipe", .ref p, .ref q])) (hp:IsR H p r) (hq:IsR H q s) (gr:r.Good) (gs:s.Good) (dr:r.depth<=8) (ds:s.depth<=8):m6 H b (.rcp r s)
 | rd {k:Nat}{n m:Int} (e:H b=some (.tup [.str "read", .int k, .int n, .int m])):m6 H b (.rd k n m)
 | alike (e:H b=some (.tup [.str "alike"])):m6 H b .alike
theorem m6.tups {H H':Hp}{b:Addr}{p:Pap} (h:m6 H b p) (t:jX H H'):m6 H' b p:=by
 cases h with
 | given e=>exact .given (t _ _ e)
 | new e=>exact .new (t _ _ e)
 | rcp e hp hq a b c d=>exact .rcp (t _ _ e) (hp.tups t) (hq.tups t) a b c d
 | rd e=>exact .rd (t _ _ e)
 | alike e=>exact .alike (t _ _ e)
end RB
namespace RB
open PySem L2 PySem.Spec PyProof.Rows
theorem zK {r:R}:∀{ps:List Rdp}{kn:Kn},Chn r kn ps->(∀p∈ps,kn p.1=none)/\(ps.map (·.1)).Nodup
 |[],_,_=>⟨by simp,by simp⟩
 | q::ps,kn,c=>by
   obtain⟨h1,h2⟩:=zK (ps:=ps) c.2
   have h0:=rA c.1
   have h3:∀p∈ps,p.1≠q.1/\kn p.1=none:=fun p hp=>by
    have:=h1 p hp
    unfold Kn.put at this
    by_cases z:p.1=q.1
    ·rw[if_pos z] at this;cases this
    ·rw[if_neg z] at this;exact⟨z,this⟩
   refine⟨fun p hp=> ?_, ?_⟩
   ·rcases List.mem_cons.mp hp with z | z
    ·rw[z];exact h0
    ·exact(h3 p z).2
   ·rw[List.map_cons,List.nodup_cons]
    refine⟨fun hm=> ?_,h2⟩
    obtain⟨p,hp,e⟩:=List.mem_map.mp hm
    exact(h3 p hp).1 e
theorem Lx {r:R}{ps:List Rdp}{kn:Kn}{k:Nat} (c:Chn r kn ps) (hi:r.In (nmK k)):ps.length<=k:=by
 have:=ju (zK c).2 (ns:=nmK k) fun x hx=>by
  obtain⟨p,hp,rfl⟩:=List.mem_map.mp hx
  exact Qo hi c p hp
 rwa [List.length_map,lG] at this
end RB
set_option maxRecDepth 100000
namespace RB
open PySem L2 PySem.Spec PyProof.Rows
theorem Rd.same {H H':Hp}{a:Addr}{u:HO} (r:Rd H a u) (s:aQ H H'):Rd H' a u:=by
 rcases r with r | ⟨o,r⟩
 ·exact .inl (s _ _ r)
 ·exact .inr ⟨o,s _ _ r⟩
end RB
set_option maxRecDepth 100000
namespace RB
open PySem L2 PySem.Spec PyProof.Rows
def Pap.dat:Pap->PyData
 | .given=> .tuple [.str "given"]
 | .new=> .tuple [.str "new"]
 | .rcp r s=> .tuple [.str "recipe",r.dat,s.dat]
 | .rd k n m=> .tuple [.str "read", .int k, .int n, .int m]
 | .alike=> .tuple [.str "alike"]
theorem m6.dat {K:PySem.W.Frag}{H:Hp}{b:Addr}{p:Pap} (h:m6 H b p):qW K H (.ref b) p.dat:=by
 cases h with
 | given e=>exact .tup (SqT.of e) (.cons (.str _) .nil)
 | new e=>exact .tup (SqT.of e) (.cons (.str _) .nil)
 | rcp e hp hq _ _ _ _=>exact .tup (SqT.of e) (.cons (.str _) (.cons hp.dat (.cons hq.dat .nil)))
 | rd e=>exact .tup (SqT.of e) (.cons (.str _) (.cons (.int _) (.cons (.int _) (.cons (.int _) .nil))))
 | alike e=>exact .tup (SqT.of e) (.cons (.str _) .nil)
theorem m6.lay {H:Hp}{b:Addr}{p:Pap} (h:m6 H b p):p.dat.canLay0=true/\p.dat.depth<=12:=by
 cases h with
 | given e=>exact⟨by decide +kernel,by decide +kernel⟩
 | new e=>exact⟨by decide +kernel,by decide +kernel⟩
 | @rcp r s _ _ e hp hq gr gs dr ds=>
   have h1:=r.mH
   have h2:=s.mH
   refine⟨?_, ?_⟩
   ·show(PyData.strOk "recipe"&&(r.dat.canLay0&&(s.dat.canLay0&&true)))=true
    rw[r.lay gr,s.lay gs];decide +kernel
   ·simp only[Pap.dat,PyData.depth,PyData.depthAll];omega
 | rd e=>
   refine⟨?_, ?_⟩
   ·show(PyData.strOk "read"&&(true&&(true&&(true&&true))))=true
    decide +kernel
   ·simp only[Pap.dat,PyData.depth,PyData.depthAll];omega
 | alike e=>exact⟨by decide +kernel,by decide +kernel⟩
theorem Dm {kvs:List (Key×V)}{ks:List Str} (h:mJ kvs ks) {k:Key}{v:V} (m:(k,v)∈kvs):dI kvs k=some v:=by
 obtain⟨i,hi⟩:=List.getElem?_of_mem m
 have nd:(kvs.map (·.1)).Nodup:=by
  rw[h.k]
  exact List.Pairwise.map _ (fun a b (e:a≠b) (z:(Sum.inr a:Key)=Sum.inr b)=>e (Sum.inr.inj z)) h.nd
 clear h
 induction kvs generalizing i with
 | nil=>cases m
 | cons q r ih=>
   rw[List.map_cons,List.nodup_cons] at nd
   rcases List.mem_cons.mp m with z | z
   ·rw[<-z];exact jw rfl
   ·have hne:¬q.1=k:=fun w=>nd.1 (by rw[w];exact List.mem_map.mpr ⟨_,z,rfl⟩)
    rw[iT hne]
    obtain⟨j,hj⟩:=List.getElem?_of_mem z
    exact ih z j hj nd.2
theorem p6.plain {H:Hp}{kr:List (Key×V)}{n:Nat}{rm:Rm} (h:p6 H kr n rm):∀q∈kr,Bk q.2=true:=fun q hq=>by
 obtain⟨ks,k,hk⟩:=h.k
 obtain⟨i,hi⟩:=List.getElem?_of_mem hq
 obtain⟨x,ex,_⟩:=k.at (k:=q.1) (v:=q.2) hi
 have hv:=Dm k (k:=q.1) (v:=q.2) hq
 rw[ex] at hv
 cases e:rm x with
 | none=>rw[h.w x e] at hv;cases hv
 | some bp=>
   obtain⟨b,hb,_⟩:=h.v x bp e
   rw[hb] at hv
   rw[<-Option.some.inj hv];rfl
end RB
set_option maxRecDepth 100000
namespace L2
open PySem PySem.Spec PyProof.Rows
section
variable {prog:Program}{w:World}{A:Around}{E:Value->Shared->Prop}{s:Shared}
theorem Ly {j t:Addr}{k:Nat}{vs:Array Value}{v:Value}{Q:Value->Shared->Prop} (hj:IsTupIter s.heap j t k) (ht:IsTup s.heap t vs) (hv:vs[k]? =some v)
 (q:∀g,IsTupIter g j t (k+1)->Heap.SameBut j s.heap g->Q v {s with heap:=g}):wpAny (model prog w) A (Builtin.SmallTypes.nextOf (.ref j)) Q E s:=by
 have ty:=hj.typeIs
 obtain⟨oj,ej,cj,dj⟩:=hj
 obtain⟨ot,et,_,nt,dt⟩:=ht
 unfold Builtin.SmallTypes.nextOf
 refine wpAny_bind (wpAny_callSpecial?_slot (name:=Str.ofString "__next__") ty slot_tupleiter_next (wpAny_call_entry slot_tupleiter_next ty entry_tupleiter_next ?_ (args_tupleiter_next _)))
 show wpAny _ _ (field (.ref j) 0>>=_) _ _ s
 refine wpAny_bind (wpAny_field ej dj (x:= .ref t) rfl ?_)
 show wpAny _ _ (if(Value.ref t==Value.none)=true then _ else _) _ _ _
 rw[if_neg (by intro z;cases z)]
 show wpAny _ _ (field (.ref j) 1>>=_) _ _ s
 refine wpAny_bind (wpAny_field ej dj (x:= .int k 0) rfl ?_)
 show wpAny _ _ (seqItems? (.ref t)>>=_) _ _ _
 refine wpAny_bind (wpAny_seqItems et dt ?_)
 simp only[hv,Int.toNat_natCast]
 refine wpAny_bind (wpAny_setField ej dj (by simp) (wpAny_pure ⟨v,rfl,wpAny_pure (q _ ?_ (Heap.SameBut.update ..))⟩))
 refine⟨_,Heap.get?_update_self _ ej (Obj.isFreed_of_fields (Obj.data_mapFields dj _)),(Obj.cls_mapFields ..).trans cj, ?_⟩
 rw[Obj.data_mapFields dj];simp[rawInt]
theorem RL {j t:Addr}{k:Nat}{vs:Array Value}{Q:Value->Shared->Prop} (hA:A.handled=none) (hj:IsTupIter s.heap j t k) (ht:IsTup s.heap t vs) (hv:vs[k]? =none)
 (q:∀g b,Heap.ExtBut j s.heap g->(∃ob,g.get? b=some ob/\ob.cls= .type "StopIteration")->E (.ref b) {s with heap:=g}):wpAny (model prog w) A (Builtin.SmallTypes.nextOf (.ref j)) Q E s:=by
 have ty:=hj.typeIs
 obtain⟨oj,ej,cj,dj⟩:=hj
 obtain⟨ot,et,_,nt,dt⟩:=ht
 unfold Builtin.SmallTypes.nextOf
 refine wpAny_bind (wpAny_callSpecial?_slot (name:=Str.ofString "__next__") ty slot_tupleiter_next (wpAny_call_entry slot_tupleiter_next ty entry_tupleiter_next ?_ (args_tupleiter_next _)))
 show wpAny _ _ (field (.ref j) 0>>=_) _ _ s
 refine wpAny_bind (wpAny_field ej dj (x:= .ref t) rfl ?_)
 show wpAny _ _ (if(Value.ref t==Value.none)=true then _ else _) _ _ _
 rw[if_neg (by intro z;cases z)]
 show wpAny _ _ (field (.ref j) 1>>=_) _ _ s
 refine wpAny_bind (wpAny_field ej dj (x:= .int k 0) rfl ?_)
 show wpAny _ _ (seqItems? (.ref t)>>=_) _ _ _
 refine wpAny_bind (wpAny_seqItems et dt ?_)
 simp only[hv,Int.toNat_natCast]
 refine wpAny_bind (wpAny_rule (wpAny_bind (wpAny_setField ej dj (by simp) ?_)))
 show wpAny _ _ (newExc (.type "StopIteration") []>>=_) _ _ _
 refine wpAny_bind ?_
 simp only[newTuple,newExc]
 refine wpAny_bind (wpAny_newObj_type ?_ (by size_fits))
 refine wpAny_bind (m:=firstArgMember _ _) (wpAny_of_eq (a:=Value.none) (by first | rfl | (unfold firstArgMember;rfl)) ?_)
 refine wpAny_newObj_type ?_ (by size_fits)
 simp only[raiseNew]
 refine wpAny_bind (wpAny_handled ?_)
 first | rw[hA] | rw[show A.in1.handled=none from hA]
 exact wpAny_bind (wpAny_pure (wpAny_throw (q _ _ (((Heap.SameBut.update ..).extBut.push _).push _) ⟨_,Heap.get?_push_size _ rfl,rfl⟩)))
theorem VM {z TI TO i j a b:Addr}{k:Nat}{xs ys:Array Value}{x y p q:Value}{Q:Value->Shared->Prop} (D:ZipApart z TI TO i j a b)
 (ez:IsZip s.heap z TI TO .none) (eI:IsPair s.heap TI (.ref i) (.ref j)) (eO:IsPair s.heap TO p q) (ei:IsTupIter s.heap i a k) (ej:IsTupIter s.heap j b k) (ea:IsTup s.heap a xs) (eb:IsTup s.heap b ys)
 (hx:xs[k]? =some x) (hy:ys[k]? =some y)
 (r:∀g,IsZip g z TI TO (rawInt s.heap.objs.size)->IsPair g TO x y->IsTupIter g i a (k+1)->IsTupIter g j b (k+1)->IsPair g s.heap.objs.size x y->g.objs.size=s.heap.objs.size+1->
   (∀c o,c∉[z,TO,i,j]->s.heap.get? c=some o->g.get? c=some o)->Q (.ref s.heap.objs.size) {s with heap:=g}):
 wpAny (model prog w) A (Builtin.«zip.__next__» ⟨[.ref z],[]⟩) (fun f s'=>∃v,f= .done (.ret v)/\Q v s') E s:=by
 show wpAny _ _ (field (.ref z) 2>>=_) _ _ s
 refine wpAny_bind (wpAny_field ez rfl (x:= .bool false) rfl ?_)
 show wpAny _ _ (field (.ref z) 3>>=_) _ _ s
 refine wpAny_bind (wpAny_field ez rfl (x:= .ref TI) rfl (wpAny_bind (wpAny_seqItems eI rfl ?_)))
 show wpAny _ _ (Builtin.SmallTypes.ownedTupleIsFree (.ref z)>>=_) _ _ s
 refine wpAny_bind ?_
 unfold Builtin.SmallTypes.ownedTupleIsFree;refine wpAny_bind (wpAny_field ez rfl (x:= .none) rfl (wpAny_pure ?_))
 simp only[if_true]
 refine wpAny_bind (wpAny_rule (wpAny_bind (wpAny_field ez rfl (x:= .ref TO) rfl (wpAny_bind (wpAny_setField_rec ez (by simp) fun g1 z1 b1=> ?_)))))
 have z1':IsZip g1 z TI TO .ellipsis:=z1
 refine wpAny_bind ?_
 simp only[List.forIn_cons,List.forIn_nil,List.zipIdx_cons,List.zipIdx_nil]
 refine wpAny_bind (wpAny_bind (wpAny_onRaise ?_))
 show wpAny _ _ (Builtin.SmallTypes.nextOf (.ref i)>>=_) _ _ _
 refine wpAny_bind (Ly (ei.extBut b1.extBut D.i1z) (ea.extBut b1.extBut D.l1z) hx fun g2 i2 b2=>wpAny_pure ?_)
 have o2:IsPair g2 TO p q:=b2.extBut _ _ D.TOi1 (b1.extBut _ _ D.TOz eO)
 refine wpAny_bind (wpAny_seqItems o2 rfl (wpAny_bind (wpAny_updateSeq_pair o2 fun g3 o3 b3=> ?_)))
 have o3':IsPair g3 TO x q:=o3
 refine wpAny_bind (wpAny_letGo (wpAny_pure (wpAny_bind (wpAny_bind (wpAny_onRaise ?_)))))
 show wpAny _ _ (Builtin.SmallTypes.nextOf (.ref j)>>=_) _ _ _
 refine wpAny_bind (Ly (((ej.extBut b1.extBut D.i2z).extBut b2.extBut D.i12.symm).extBut b3.extBut D.TOi2.symm) (((eb.extBut b1.extBut D.l2z).extBut b2.extBut D.l2i1).extBut b3.extBut D.l2TO) hy fun g4 j4 b4=>wpAny_pure ?_)
 have o4:IsPair g4 TO x q:=b4.extBut _ _ D.TOi2 o3'
 refine wpAny_bind (wpAny_seqItems o4 rfl (wpAny_bind (wpAny_updateSeq_pair o4 fun g5 o5 b5=> ?_)))
 have o5':IsPair g5 TO x y:=o5
 refine wpAny_bind (wpAny_letGo (wpAny_pure (wpAny_pure (wpAny_bind (wpAny_seqItems o5' rfl (wpAny_bind (wpAny_newTuple ?_)))))))
 have sz:g5.objs.size=s.heap.objs.size:=by rw[b5.1,b4.1,b3.1,b2.1,b1.1]
 have z5:IsZip g5 z TI TO .ellipsis:=b5.extBut _ _ D.TOz.symm (b4.extBut _ _ D.i2z.symm (b3.extBut _ _ D.TOz.symm (b2.extBut _ _ D.i1z.symm z1')))
 have k5:∀c o,c∉[z,TO,i,j]->s.heap.get? c=some o->g5.get? c=some o:=fun c o hc e=>by
  simp only[List.mem_cons,List.not_mem_nil,or_false,not_or] at hc
  exact b5.extBut _ _ hc.2.1 (b4.extBut _ _ hc.2.2.2 (b3.extBut _ _ hc.2.1 (b2.extBut _ _ hc.2.2.1 (b1.extBut _ _ hc.1 e))))
 have i5:IsTupIter g5 i a (k+1):=((i2.extBut b3.extBut D.TOi1.symm).extBut b4.extBut D.i12).extBut b5.extBut D.TOi1.symm
 have j5:IsTupIter g5 j b (k+1):=j4.extBut b5.extBut D.TOi2.symm
 have lz:g5.objs.size≠z:=Nat.ne_of_gt (Heap.lt_size z5)
 show wpAny _ _ (Builtin.SmallTypes.ownedTupleHandOut (.ref z) (.ref g5.objs.size)>>=_) _ _ _
 refine wpAny_bind ?_
 unfold Builtin.SmallTypes.ownedTupleHandOut;refine wpAny_bind (wpAny_setField_rec (Heap.get?_push_of_some _ z5) (by simp) fun g7 z7 b7=> ?_)
 have z7':IsZip g7 z TI TO (rawInt g5.objs.size):=z7
 refine wpAny_setField_rec z7' (by simp) fun g8 z8 b8=> ?_
 have z8':IsZip g8 z TI TO (rawInt g5.objs.size):=z8
 have up:∀c o,c≠z->g5.get? c=some o->g8.get? c=some o:=fun c o hc e=>b8.extBut _ _ hc (b7.extBut _ _ hc (Heap.get?_push_of_some _ e))
 have t8:IsPair g8 g5.objs.size x y:=b8.extBut _ _ lz (b7.extBut _ _ lz (Heap.get?_push_size _ rfl))
 have s8:g8.objs.size=g5.objs.size+1:=by rw[b8.1,b7.1,Heap.size_push]
 rw[sz] at z8' t8 s8
 refine wpAny_pure ⟨_,rfl, ?_⟩
 show Q (.ref g5.objs.size) _
 rw[sz]
 obtain⟨oi,qi,ri⟩:=i5
 obtain⟨oj,qj,rj⟩:=j5
 exact r g8 z8' (up _ _ D.TOz o5') ⟨oi,up _ _ D.i1z qi,ri⟩ ⟨oj,up _ _ D.i2z qj,rj⟩ t8 s8 fun c o hc e=>up c o (fun h=>hc (by simp[h])) (k5 c o hc e)
theorem VN {z TI TO i j a b:Addr}{k:Nat}{xs ys:Array Value}{p q:Value}{Q:Fin->Shared->Prop} (hA:A.handled=none) (D:ZipApart z TI TO i j a b)
 (ez:IsZip s.heap z TI TO .none) (eI:IsPair s.heap TI (.ref i) (.ref j)) (eO:IsPair s.heap TO p q) (ei:IsTupIter s.heap i a k) (ej:IsTupIter s.heap j b k) (ea:IsTup s.heap a xs) (eb:IsTup s.heap b ys)
 (hend:xs[k]? =none\/ys[k]? =none)
 (r:∀g u,(∀c o,c∉[z,TO,i,j]->s.heap.get? c=some o->g.get? c=some o)->(∃o,g.get? u=some o/\o.cls= .type "StopIteration")->E (.ref u) {s with heap:=g}):
 wpAny (model prog w) A (Builtin.«zip.__next__» ⟨[.ref z],[]⟩) Q E s:=by
 show wpAny _ _ (field (.ref z) 2>>=_) _ _ s
 refine wpAny_bind (wpAny_field ez rfl (x:= .bool false) rfl ?_)
 show wpAny _ _ (field (.ref z) 3>>=_) _ _ s
 refine wpAny_bind (wpAny_field ez rfl (x:= .ref TI) rfl (wpAny_bind (wpAny_seqItems eI rfl ?_)))
 show wpAny _ _ (Builtin.SmallTypes.ownedTupleIsFree (.ref z)>>=_) _ _ s
 refine wpAny_bind ?_
 unfold Builtin.SmallTypes.ownedTupleIsFree;refine wpAny_bind (wpAny_field ez rfl (x:= .none) rfl (wpAny_pure ?_))
 simp only[if_true]
 refine wpAny_bind (wpAny_rule (wpAny_bind (wpAny_field ez rfl (x:= .ref TO) rfl (wpAny_bind (wpAny_setField_rec ez (by simp) fun g1 z1 b1=> ?_)))))
 have z1':IsZip g1 z TI TO .ellipsis:=z1
 refine wpAny_bind ?_
 simp only[List.forIn_cons,List.forIn_nil,List.zipIdx_cons,List.zipIdx_nil]
 refine wpAny_bind (wpAny_bind (wpAny_onRaise ?_))
 show wpAny _ _ (Builtin.SmallTypes.nextOf (.ref i)>>=_) _ _ _
 have nz:∀{g:Heap}{u o},IsZip g z TI TO .ellipsis->g.get? u=some o->o.cls= .type "StopIteration"->u≠z:=fun hz hu hc h=>by subst h;rw[hz] at hu;cases hu;simp at hc
 cases hx:xs[k]? with
 | none=>
   refine wpAny_bind (RL hA (ei.extBut b1.extBut D.i1z) (ea.extBut b1.extBut D.l1z) hx fun g2 u b2 ⟨ou,hou,hcu⟩=> ?_)
   have z2:IsZip g2 z TI TO .ellipsis:=b2 _ _ D.i1z.symm z1'
   refine wpAny_setField_rec z2 (by simp) fun g3 _ b3=>r g3 u (fun c o hc e=> ?_) ⟨ou,b3.extBut _ _ (nz z2 hou hcu) hou,hcu⟩
   simp only[List.mem_cons,List.not_mem_nil,or_false,not_or] at hc
   exact b3.extBut _ _ hc.1 (b2 _ _ hc.2.2.1 (b1.extBut _ _ hc.1 e))
 | some x=>
   have hy:ys[k]? =none:=by rcases hend with h | h;exact absurd (hx.symm.trans h) (by simp);exact h
   refine wpAny_bind (Ly (ei.extBut b1.extBut D.i1z) (ea.extBut b1.extBut D.l1z) hx fun g2 i2 b2=>wpAny_pure ?_)
   have o2:IsPair g2 TO p q:=b2.extBut _ _ D.TOi1 (b1.extBut _ _ D.TOz eO)
   refine wpAny_bind (wpAny_seqItems o2 rfl (wpAny_bind (wpAny_updateSeq_pair o2 fun g3 o3 b3=> ?_)))
   refine wpAny_bind (wpAny_letGo (wpAny_pure (wpAny_bind (wpAny_bind (wpAny_onRaise ?_)))))
   show wpAny _ _ (Builtin.SmallTypes.nextOf (.ref j)>>=_) _ _ _
   refine wpAny_bind (RL hA (((ej.extBut b1.extBut D.i2z).extBut b2.extBut D.i12.symm).extBut b3.extBut D.TOi2.symm) (((eb.extBut b1.extBut D.l2z).extBut b2.extBut D.l2i1).extBut b3.extBut D.l2TO) hy fun g4 u b4 ⟨ou,hou,hcu⟩=> ?_)
   have z4:IsZip g4 z TI TO .ellipsis:=b4 _ _ D.i2z.symm (b3.extBut _ _ D.TOz.symm (b2.extBut _ _ D.i1z.symm z1'))
   refine wpAny_setField_rec z4 (by simp) fun g5 _ b5=>r g5 u (fun c o hc e=> ?_) ⟨ou,b5.extBut _ _ (nz z4 hou hcu) hou,hcu⟩
   simp only[List.mem_cons,List.not_mem_nil,or_false,not_or] at hc
   exact b5.extBut _ _ hc.1 (b4 _ _ hc.2.2.2 (b3.extBut _ _ hc.2.1 (b2.extBut _ _ hc.2.2.1 (b1.extBut _ _ hc.1 e))))
end
end L2
set_option maxRecDepth 100000
namespace L2
open PySem PySem.Spec PyProof.Rows
abbrev tzA (g:Heap) (a:Addr):Heap:=g.push {cls:= .type "tuple_iterator",data:= .fields #[.ref a, .int 0 0]}
abbrev tzB (g:Heap) (a b:Addr):Heap:=(tzA g a).push {cls:= .type "tuple_iterator",data:= .fields #[.ref b, .int 0 0]}
abbrev tzC (g:Heap) (a b:Addr):Heap:=(tzB g a b).push {cls:= .type "tuple",data:= .seq #[.ref g.objs.size, .ref (tzA g a).objs.size]}
abbrev tzD (g:Heap) (a b:Addr):Heap:=(tzC g a b).push {cls:= .type "tuple",data:= .seq #[.none, .none]}
abbrev tzE (g:Heap) (a b:Addr):Heap:=(tzD g a b).push {cls:= .type "zip",data:= .fields #[.none, .bool false, .bool false, .ref (tzB g a b).objs.size, .ref (tzC g a b).objs.size]}
theorem VP (a b:Addr) (xs ys:Array Value):
 Meets (Builtin.«zip.__new__» ⟨[.type "zip", .ref a, .ref b],[]⟩) (fun _ R s=>IsTup s.heap a xs/\IsTup s.heap b ys/\
  R (.ok (.ret (.ref (tzD s.heap a b).objs.size))) {s with heap:=tzE s.heap a b}):=
 .of_wp fun prog w A R s h=>by
   obtain⟨hp,g,d,tk,os⟩:=s;obtain⟨ha,hb,h⟩:=h
   have hsub:=sub_zip
   have h1:IsTup (Shared.heap ⟨hp,g,d,tk,os⟩) a xs:=ha
   have h2:IsTup (Shared.heap ⟨hp.push {cls:= .type "tuple_iterator",data:= .fields #[.ref a, .int 0 0]},g,d,tk,os⟩) b ys:=hb.push _
   wp_walk using iter_tuple h1,iter_tuple h2
   exact⟨_,rfl,h⟩
section
variable {prog:Program}{w:World}{A:Around}{E:Value->Shared->Prop}{s:Shared}
theorem Yh {a b:Addr}{xs ys:Array Value}{Q:Value->Shared->Prop} (ha:IsTup s.heap a xs) (hb:IsTup s.heap b ys)
 (q:∀g n,n=s.heap.objs.size->IsZip g (n+4) (n+2) (n+3) .none->IsPair g (n+2) (.ref n) (.ref (n+1))->
   IsPair g (n+3) .none .none->IsTupIter g n a 0->IsTupIter g (n+1) b 0->
   (∀c o,s.heap.get? c=some o->g.get? c=some o)->Q (.ref (n+4)) {s with heap:=g}):
 wpAny (model prog w) A (call (.type "zip") [.ref a, .ref b]) Q E s:=by
 refine callType_new F.called_zip (by decide) (F.typeCall_zip_2 _ _) (F.newCall_zip_2 _ _) (fun obj=>F.args_object_init_3 obj _ _) F.entry_zip_new
  (VP a b xs ys) ⟨ha,hb, ?_⟩
 have n1:(tzA s.heap a).objs.size=s.heap.objs.size+1:=Heap.size_push ..
 have n2:(tzB s.heap a b).objs.size=s.heap.objs.size+2:=by rw[Heap.size_push,n1]
 have n3:(tzC s.heap a b).objs.size=s.heap.objs.size+3:=by rw[Heap.size_push,n2]
 have n4:(tzD s.heap a b).objs.size=s.heap.objs.size+4:=by rw[Heap.size_push,n3]
 have e5:(tzE s.heap a b).get? (tzD s.heap a b).objs.size=some _:=Heap.get?_push_size _ rfl
 have e4:(tzE s.heap a b).get? (tzC s.heap a b).objs.size=some _:=Heap.get?_push_of_some _ (Heap.get?_push_size _ rfl)
 have e3:(tzE s.heap a b).get? (tzB s.heap a b).objs.size=some _:=Heap.get?_push_of_some _ (Heap.get?_push_of_some _ (Heap.get?_push_size _ rfl))
 have e2:(tzE s.heap a b).get? (tzA s.heap a).objs.size=some _:=Heap.get?_push_of_some _ (Heap.get?_push_of_some _ (Heap.get?_push_of_some _ (Heap.get?_push_size _ rfl)))
 have e1:(tzE s.heap a b).get? s.heap.objs.size=some _:=Heap.get?_push_of_some _ (Heap.get?_push_of_some _ (Heap.get?_push_of_some _ (Heap.get?_push_of_some _ (Heap.get?_push_size _ rfl))))
 show _/\_
 rw[n2,n3,n4] at e5
 rw[n3] at e4
 rw[n1,n2] at e3
 rw[n1] at e2
 rw[n4]
 exact⟨⟨_,e5,rfl⟩,q _ _ rfl e5 e3 e4 ⟨_,e1,rfl,rfl⟩ ⟨_,e2,rfl,rfl⟩ fun c o x=>
  Heap.get?_push_of_some _ (Heap.get?_push_of_some _ (Heap.get?_push_of_some _ (Heap.get?_push_of_some _ (Heap.get?_push_of_some _ x))))⟩
theorem Yi {z TI TO i j a b:Addr}{k:Nat}{xs ys:Array Value}{x y p q:Value}{Q:Option Value->Shared->Prop} (D:ZipApart z TI TO i j a b)
 (ez:IsZip s.heap z TI TO .none) (eI:IsPair s.heap TI (.ref i) (.ref j)) (eO:IsPair s.heap TO p q) (ei:IsTupIter s.heap i a k) (ej:IsTupIter s.heap j b k) (ea:IsTup s.heap a xs) (eb:IsTup s.heap b ys)
 (hx:xs[k]? =some x) (hy:ys[k]? =some y)
 (r:∀g,IsZip g z TI TO (rawInt s.heap.objs.size)->IsPair g TO x y->IsTupIter g i a (k+1)->IsTupIter g j b (k+1)->IsPair g s.heap.objs.size x y->g.objs.size=s.heap.objs.size+1->
   (∀c o,c∉[z,TO,i,j]->s.heap.get? c=some o->g.get? c=some o)->Q (some (.ref s.heap.objs.size)) {s with heap:=g}):
 wpAny (model prog w) A (pyNext (.ref z)) Q E s:=by
 have ty:s.TypeIs (.ref z) "zip":=⟨_,ez,rfl⟩
 unfold pyNext
 exact wpAny_bind (wpAny_attempt (wpAny_callSpecial?_slot (name:=Str.ofString "__next__") ty F.slot_zip_next (wpAny_call_entry F.slot_zip_next ty F.entry_zip_next
  (VM D ez eI eO ei ej ea eb hx hy fun g a1 a2 a3 a4 a5 a6 a7=>wpAny_pure (r g a1 a2 a3 a4 a5 a6 a7)) (F.args_zip_next_1 _))))
theorem ab2 {z TI TO i j a b:Addr}{k:Nat}{xs ys:Array Value}{p q:Value}{Q:Option Value->Shared->Prop} (hA:A.handled=none) (D:ZipApart z TI TO i j a b)
 (ez:IsZip s.heap z TI TO .none) (eI:IsPair s.heap TI (.ref i) (.ref j)) (eO:IsPair s.heap TO p q) (ei:IsTupIter s.heap i a k) (ej:IsTupIter s.heap j b k) (ea:IsTup s.heap a xs) (eb:IsTup s.heap b ys)
 (hend:xs[k]? =none\/ys[k]? =none)
 (r:∀g,(∀c o,c∉[z,TO,i,j]->s.heap.get? c=some o->g.get? c=some o)->Q none {s with heap:=g}):
 wpAny (model prog w) A (pyNext (.ref z)) Q E s:=by
 have ty:s.TypeIs (.ref z) "zip":=⟨_,ez,rfl⟩
 unfold pyNext
 refine wpAny_bind (wpAny_attempt (wpAny_callSpecial?_slot (name:=Str.ofString "__next__") ty F.slot_zip_next (wpAny_call_entry F.slot_zip_next ty F.entry_zip_next
  (VN hA D ez eI eO ei ej ea eb hend fun g u hk ⟨o,ho,hc⟩=> ?_) (F.args_zip_next_1 _))))
 exact wpAny_bind (wpAny_isInstance (T:="StopIteration") (b:=true) ⟨o,ho,hc⟩ isSubtype_stop (wpAny_pure (r _ hk)))
end
def ab3 (K:PySem.W.Frag) (l1 l2:Addr):It:=
 ⟨fun i H=>∃xs ys x y,SqT K H l1 xs/\SqT K H l2 ys/\xs[i]? =some x/\ys[i]? =some y,
  fun i H v H'=>∃T x y,v= .ref T/\H T=none/\H'=upd H T (.tup [x,y])/\(∀xs,SqT K H l1 xs->xs[i]? =some x)/\∀ys,SqT K H l2 ys->ys[i]? =some y,
  fun i H=>∃xs ys,SqT K H l1 xs/\SqT K H l2 ys/\min xs.length ys.length=i⟩
theorem Yj {P:Program}{w:World}{K:PySem.W.Frag}{elts:List Expr}{k:Nat}{pos:Pos} (z TI TO i1 i2 l1 l2:Addr) (D:ZipApart z TI TO i1 i2 l1 l2):
 Turn P w K (.Tuple elts k pos) (ab3 K l1 l2) [z,TI,TO,i1,i2] z (fun i h=>IsZip h z TI TO .none/\IsPair h TI (.ref i1) (.ref i2)/\(∃a b,IsPair h TO a b)/\IsTupIter h i1 l1 i/\IsTupIter h i2 l2 i) where
 mem:=by simp
 obj:=fun i h st b hb=>by
  obtain⟨h1,h2,⟨a,c,h3⟩,⟨o4,e4,_,d4⟩,⟨o5,e5,_,d5⟩⟩:=st
  have hb':b=z\/b=TI\/b=TO\/b=i1\/b=i2:=by simpa using hb
  rcases hb' with rfl | rfl | rfl | rfl | rfl
  ·exact⟨_,h1,fun v e=>by cases e⟩
  ·exact⟨_,h2,fun v e=>by cases e⟩
  ·exact⟨_,h3,fun v e=>by cases e⟩
  ·exact⟨o4,e4,fun v e=>by rw[d4] at e;cases e⟩
  ·exact⟨o5,e5,fun v e=>by rw[d5] at e;cases e⟩
 keep:=fun i h h' st kp=>by
  obtain⟨h1,h2,⟨a,c,h3⟩,⟨o4,e4,r4⟩,⟨o5,e5,r5⟩⟩:=st
  exact⟨kp z (by simp) _ h1,kp TI (by simp) _ h2,⟨a,c,kp TO (by simp) _ h3⟩,⟨o4,kp i1 (by simp) _ e4,r4⟩,⟨o5,kp i2 (by simp) _ e5,r5⟩⟩
 item:=by
  intro X hP hw hK hc i pins s σ H E I hf st hg
  subst hP hw hK
  obtain⟨xs,ys,x,y,hq1,hq2,hx,hy⟩:=hg
  obtain⟨ae0,rv1,p1,hz1⟩:=I.tuple hq1
  obtain⟨its2,rv2,p2,hz2⟩:=I.tuple hq2
  obtain⟨u1,hu1,ru1⟩:=rv1.get hx
  obtain⟨u2,hu2,ru2⟩:=rv2.get hy
  obtain⟨s1,s2,⟨a3,b3,s3⟩,s4,s5⟩:=st
  refine Yi D s1 s2 s3 s4 s5 p1 p2 (x:=u1) (y:=u2) (by simpa using hu1) (by simpa using hu2) fun g t1 t3 t4 t5 isT sz kp=> ?_
  have sub:∀c∈[z,TO,i1,i2],c∈[z,TI,TO,i1,i2]:=fun c hc=>by
   have:c=z\/c=TO\/c=i1\/c=i2:=by simpa using hc
   rcases this with rfl | rfl | rfl | rfl<;>simp
  have tI:IsPair g TI (.ref i1) (.ref i2):=kp TI _ (by simp[D.TIz,D.TITO,D.TIi1,D.TIi2]) s2
  refine⟨.ref s.heap.objs.size,rfl,wpAny_letOwnedTupleGo_zip t1 fun h3 t1' b3'=> ?_⟩
  have kp3:∀c o,c∉[z,TO,i1,i2]->s.heap.get? c=some o->h3.get? c=some o:=fun c o hc e=>b3'.extBut _ _ (fun h=>hc (by simp[h])) (kp c o hc e)
  have J:Inv X pins σ H {s with heap:=h3,toks:=s.toks}:=I.Ht (ch:=[z,TO,i1,i2]) (fun b hb=>hf b (sub b hb)) kp3
  have hT0:H s.heap.objs.size=none:=I.hok.fresh (Nat.le_refl _)
  have nT:s.heap.objs.size∉[z,TI,TO,i1,i2]:=fun hm=>by
   obtain⟨o,e⟩:∃o,s.heap.get? s.heap.objs.size=some o:=by
    have:s.heap.objs.size=z\/s.heap.objs.size=TI\/s.heap.objs.size=TO\/s.heap.objs.size=i1\/s.heap.objs.size=i2:=by simpa using hm
    obtain⟨o4,e4,_⟩:=s4
    obtain⟨o5,e5,_⟩:=s5
    rcases this with h | h | h | h | h
    ·exact⟨_,h▸s1⟩
    ·exact⟨_,h▸s2⟩
    ·exact⟨_,h▸s3⟩
    ·exact⟨_,h▸e4⟩
    ·exact⟨_,h▸e5⟩
   exact absurd (Heap.lt_size e) (Nat.lt_irrefl _)
  have ab4:IsTup h3 s.heap.objs.size #[u1,u2]:=⟨_,b3'.extBut _ _ (fun h=>nT (by simp[h])) isT,rfl,_,rfl⟩
  have fp:=I.JM (H':=H) (Nat.le_refl _) hT0
  refine⟨.ref s.heap.objs.size,upd H s.heap.objs.size (.tup [x,y]),J.track hT0 ?_ fp.2.1 fp.2.2.2.2.1 fp.2.2.2.2.2 ?_,rfl,⟨_,x,y,rfl,hT0,rfl,fun zs hs=>by rw[I.Ey hs hq1];exact hx,fun zs hs=>by rw[I.Ey hs hq2];exact hy⟩,
   ⟨t1',b3'.extBut _ _ D.TIz tI,⟨_,_,b3'.extBut _ _ D.TOz t3⟩,t4.extBut b3'.extBut D.i1z,t5.extBut b3'.extBut D.i2z⟩,fun b hb=> ?_⟩
  ·cases e:X.s₀.heap.get? s.heap.objs.size with
   | none=>rfl
   | some o=>exact absurd (Heap.lt_size e) (Nat.not_lt.mpr I.sz)
  ·exact⟨by show 2<=sizeLine;rw[sizeLine_eq];decide,[u1,u2], .cons ru1 (.cons ru2 .nil),ab4⟩
  ·have nb:b≠s.heap.objs.size:=fun e=>nT (by rw[<-e];exact hb)
   rw[aq nb];exact(hf b hb).1
 done:=by
  intro X hP hw hK hc i pins s σ H E I hf st hg
  subst hP hw hK
  obtain⟨xs,ys,hq1,hq2,hi⟩:=hg
  obtain⟨ae0,rv1,p1,hz1⟩:=I.tuple hq1
  obtain⟨its2,rv2,p2,hz2⟩:=I.tuple hq2
  obtain⟨s1,s2,⟨a3,b3,s3⟩,s4,s5⟩:=st
  have e1:=rv1.length
  have e2:=rv2.length
  refine ab2 (I.ok.hd hc) D s1 s2 s3 s4 s5 p1 p2 ?_ fun g kp=>⟨rfl,I.Ht (t':=s.toks) (ch:=[z,TO,i1,i2]) (fun b hb=>hf b ?_) kp⟩
  ·rcases Nat.le_total xs.length ys.length with h | h
   ·exact .inl (by simp;omega)
   ·exact .inr (by simp;omega)
  ·have:b=z\/b=TO\/b=i1\/b=i2:=by simpa using hb
   rcases this with rfl | rfl | rfl | rfl<;>simp
 self:=fun _ _ _ _ _ st h=>wpAny_pyIter_zip st.1 h
def aac (K:PySem.W.Frag) (ta:TA):TI:=fun σ H R=>ta σ H fun vs H1=>∃l1 l2,vs=[.ref l1, .ref l2]/\(∃xs,SqT K H1 l1 xs)/\(∃ys,SqT K H1 l2 ys)/\R (ab3 K l1 l2) H1
theorem Yk {X:Cx}{elts:List Expr}{k:Nat}{tp:Pos}{a b:Expr}{ta:TA}{p pos:Pos} (hg:Gl X "zip") (hm:X.mg "zip"=none) (ha:PA X [a,b] ta) (hs:starEach [a,b] X.env=[(false,eval a X.env),(false,eval b X.env)]:=by rfl) (hs2:starEach [b] X.env=[(false,eval b X.env)]:=by rfl):
 PI X (.Tuple elts k tp) (.Call (.Name "zip" p) [a,b] [] pos) (aac X.K ta):=by
 intro pins s σ H R I h
 refine Call_ (Be I hg hm abx (PyProof.Rows.callWith_type1 (thn (ha pos pins s σ H _ I h) fun us s1 ⟨vs,H1,I1,r1,q1⟩=> ?_) (by rw[hs,hs2]) (by rw[hs2];rfl)))
 obtain⟨l1,l2,rfl,⟨xs,hq1⟩,⟨ys,hq2⟩,q⟩:=q1
 obtain⟨u,v,rfl,ru,rv⟩:=vals2 r1
 cases ru
 cases rv
 obtain⟨ae0,_,p1,_⟩:=I1.tuple hq1
 obtain⟨its2,_,p2,_⟩:=I1.tuple hq2
 have D:=PySem.W.ktu_apart s1.heap.objs.size l1 l2 p1.lt p2.lt
 refine Yh p1 p2 fun h5 n en hz hTI hTO hi1 hi2 kp=> ?_
 subst en
 refine wpAny_pyIter_zip hz ?_
 have I2:Inv X pins σ H1 {s1 with heap:=h5}:=I1.kept (t':=s1.toks) kp
 refine⟨s1.heap.objs.size+4,[s1.heap.objs.size+4,s1.heap.objs.size+2,s1.heap.objs.size+3,s1.heap.objs.size,s1.heap.objs.size+1],_,_,H1,rfl,I2,Yj _ _ _ _ _ l1 l2 D,⟨hz,hTI,⟨_,_,hTO⟩,hi1,hi2⟩,fun b hb=> ?_,q⟩
 have hle:s1.heap.objs.size<=b:=by
  have:b=s1.heap.objs.size+4\/b=s1.heap.objs.size+2\/b=s1.heap.objs.size+3\/b=s1.heap.objs.size\/b=s1.heap.objs.size+1:=by simpa using hb
  rcases this with rfl | rfl | rfl | rfl | rfl<;>first | exact Nat.le_refl _ | exact Nat.le_add_right _ _
 exact I1.JM hle (I1.hok.fresh hle)
theorem Yl {X:Cx}{elts:List Expr}{k:Nat}{tp:Pos}{a b:Expr}{ta:TA}{p pos:Pos} (hg:Gl X "zip") (hm:X.mg "zip"=none) (ha:QA X [a,b] ta) (hs:starEach [a,b] X.env=[(false,eval a X.env),(false,eval b X.env)]:=by rfl) (hs2:starEach [b] X.env=[(false,eval b X.env)]:=by rfl):
 QI X (.Tuple elts k tp) (.Call (.Name "zip" p) [a,b] [] pos) (aac X.K ta):=⟨Yk hg hm ha.h hs hs2⟩
theorem Tz {K:PySem.W.Frag}{a b:Addr}{xs ys:List V}{g:TG}{tc:TT}{te:TE}{σ:St}{H:Hp}{D:Addr}{Q:VK} (Pv:Nat->St->Hp->Prop) (hxy:xs.length=ys.length) (h0:Pv 0 σ (upd H D (.lst [])))
 (hl:∀i σ H,i<=xs.length->Pv i σ H->SqT K H a xs/\SqT K H b ys)
 (hs:∀i x y T σ' H',xs[i]? =some x->ys[i]? =some y->Pv i σ' H'->H' T=none->g (.ref T) σ' (upd H' T (.tup [x,y])) fun σ3 H3=>tc σ3 H3 fun b H4=>
   if b=true then te σ3 H4 fun y H5=>∃ys,H5 D=some (.lst ys)/\ys.length<sizeLine/\Pv (i+1) σ3 (upd H5 D (.lst (ys++[y]))) else Pv (i+1) σ3 H4) (hd:∀σ' H',Pv xs.length σ' H'->Q (.ref D) H'):
 HH (ab3 K a b) g tc te D σ (upd H D (.lst [])) Q:=by
 refine⟨fun i m σ H=>m=xs.length - i/\i<=xs.length/\Pv i σ H,⟨xs.length,by simp,Nat.zero_le _,h0⟩, ?_⟩
 rintro i m σ H ⟨rfl,hi,p⟩
 have q:=hl i σ H hi p
 by_cases hlt:i<xs.length
 ·refine .inr ⟨⟨xs,ys,xs[i],ys[i]'(hxy▸hlt),q.1,q.2,by simp[hlt],by simp[hxy▸hlt]⟩,Pv (i+1),fun σ' H' p'=>⟨xs.length - (i+1),by omega,rfl,hlt,p'⟩,fun v H' y=> ?_⟩
  obtain⟨T,x,y',rfl,hT,rfl,y1,y2⟩:=y
  exact hs i x y' T σ _ (y1 xs q.1) (y2 ys q.2) p hT
 ·have e:i=xs.length:=by omega
  subst e
  exact .inl ⟨⟨xs,ys,q.1,q.2,by omega⟩,hd σ H p⟩
end L2
set_option maxRecDepth 100000
namespace RB
open PySem PySem.Spec PyProof.Rows L2
mutual
def eE:Th->Th->Bool
 | .tup xs, .tup ys=>lD xs ys
 | .int i, .int j=>decide (i=j)
 | .str x, .str y=>decide (x=y)
 | _,_=>false
def lD:List Th->List Th->Bool
 |[],[]=>true
 | x::xs,y::ys=>eE x y&&lD xs ys
 | _,_=>false
end
def DpT:Nat->Th->Prop
 | 0, .tup _=>False
 | d+1, .tup ts=>ts.length<=1000/\∀t∈ts,DpT d t
 | _,_=>True
theorem Jb:∀{xs ys:List Th},xs.length≠ys.length->lD xs ys=false
 |[],[],h=>absurd rfl h
 |[],_::_,_=>by simp[lD]
 | _::_,[],_=>by simp[lD]
 | x::xs,y::ys,h=>by
   have:lD xs ys=false:=Jb (by simpa using h)
   simp[lD,this]
theorem Jc:∀{xs ys:List Th},xs.length=ys.length->lD xs ys=((List.zipWith eE xs ys).all id)
 |[],[],_=>by simp[lD]
 | x::xs,y::ys,h=>by
   have:lD xs ys=((List.zipWith eE xs ys).all id):=Jc (by simpa using h)
   simp[lD,this]
def Jd (K:PySem.W.Frag) (d:Nat):Sp:=fun vs H Q _=>∃v t v' t',vs=[v,v']/\pG K H v t/\pG K H v' t'/\DpT d t/\∀H',aQ H H'->Q (.bl (eE t t')) H'
theorem pH.at {K:PySem.W.Frag}{H:Hp}{vs:List V}{ts:List Th}{i:Nat}{v:V} (h:pH K H vs ts) (e:vs[i]? =some v):∃(hi:i<ts.length),pG K H v ts[i]:=by
 obtain⟨t,et,r⟩:=h.get e
 obtain⟨hi,rfl⟩:=List.getElem?_eq_some_iff.mp et
 exact⟨hi,r⟩
theorem TF {α β γ:Type} (f:α->β->γ) {xs:List α}{ys:List β}{i:Nat} (h1:i<xs.length) (h2:i<ys.length):(List.zipWith f xs ys).take i++[f xs[i] ys[i]]=(List.zipWith f xs ys).take (i+1):=by
 rw[List.take_add_one,List.getElem?_eq_getElem (by simp;omega),List.getElem_zipWith];rfl
end RB
set_option maxRecDepth 100000
namespace RB
open PySem L2 PySem.Spec PyProof.Rows
def Ky (gv:Kn) (rc:Rn) (rm:Rm) (kn:Kn) (x:Str):Pap->Prop
 | .given=>gv x≠none
 | .new=>gv x=none/\rm x=none
 | .rcp r s=>gv x=none/\rc x=some s/\r≠s/\∃ps v,rm x=some (r,ps,v)
 | .rd k n m=>gv x=none/\∃r ps v y,rm x=some (r,ps,v)/\rc x=some r/\(∀(j:Nat) p,j<k->ps[j]? =some p->kn p.1=some p.2)/\ps[k]? =some (y,n)/\kn y=some m/\m≠n
 | .alike=>gv x=none/\∃r ps v,rm x=some (r,ps,v)/\rc x=some r/\∀(j:Nat) p,ps[j]? =some p->kn p.1=some p.2
theorem Ky.one {gv:Kn}{rc:Rn}{rm:Rm}{kn:Kn}{x:Str}:∀{p q:Pap},Ky gv rc rm kn x p->Ky gv rc rm kn x q->p=q
 | .given, .given,_,_=>rfl
 | .given, .new,h,g=>absurd g.1 h
 | .given, .rcp _ _,h,g=>absurd g.1 h
 | .given, .rd _ _ _,h,g=>absurd g.1 h
 | .given, .alike,h,g=>absurd g.1 h
 | .new, .given,h,g=>absurd h.1 g
 | .rcp _ _, .given,h,g=>absurd h.1 g
 | .rd _ _ _, .given,h,g=>absurd h.1 g
 | .alike, .given,h,g=>absurd h.1 g
 | .new, .new,_,_=>rfl
 | .new, .rcp _ _,h,g=>by obtain⟨_,_,_,ps,v,e⟩:=g;rw[h.2] at e;cases e
 | .new, .rd _ _ _,h,g=>by obtain⟨_,r,ps,v,y,e,_⟩:=g;rw[h.2] at e;cases e
 | .new, .alike,h,g=>by obtain⟨_,r,ps,v,e,_⟩:=g;rw[h.2] at e;cases e
 | .rcp _ _, .new,g,h=>by obtain⟨_,_,_,ps,v,e⟩:=g;rw[h.2] at e;cases e
 | .rd _ _ _, .new,g,h=>by obtain⟨_,r,ps,v,y,e,_⟩:=g;rw[h.2] at e;cases e
 | .alike, .new,g,h=>by obtain⟨_,r,ps,v,e,_⟩:=g;rw[h.2] at e;cases e
 | .rcp _ _, .rcp _ _,h,g=>by
   obtain⟨_,h1,_,ps,v,e⟩:=h
   obtain⟨_,g1,_,ps',v',e'⟩:=g
   rw[e] at e';rw[h1] at g1
   cases e';cases g1;rfl
 | .rcp _ _, .rd _ _ _,h,g=>by
   obtain⟨_,h1,h2,ps,v,e⟩:=h
   obtain⟨_,r,ps',v',y,e',g1,_⟩:=g
   rw[e] at e';rw[h1] at g1
   cases e';cases g1;exact absurd rfl h2
 | .rcp _ _, .alike,h,g=>by
   obtain⟨_,h1,h2,ps,v,e⟩:=h
   obtain⟨_,r,ps',v',e',g1,_⟩:=g
   rw[e] at e';rw[h1] at g1
   cases e';cases g1;exact absurd rfl h2
 | .rd _ _ _, .rcp _ _,g,h=>by
   obtain⟨_,h1,h2,ps,v,e⟩:=h
   obtain⟨_,r,ps',v',y,e',g1,_⟩:=g
   rw[e] at e';rw[h1] at g1
   cases e';cases g1;exact absurd rfl h2
 | .alike, .rcp _ _,g,h=>by
   obtain⟨_,h1,h2,ps,v,e⟩:=h
   obtain⟨_,r,ps',v',e',g1,_⟩:=g
   rw[e] at e';rw[h1] at g1
   cases e';cases g1;exact absurd rfl h2
 | .rd k n m, .rd k' n' m',h,g=>by
   obtain⟨_,r,ps,v,y,e,_,h1,h2,h3,h4⟩:=h
   obtain⟨_,r',ps',v',y',e',_,g1,g2,g3,g4⟩:=g
   rw[e] at e';cases e'
   have hk:k=k':=by
    rcases Nat.lt_trichotomy k k' with z | z | z
    ·have:=g1 k _ z h2
     rw[h3] at this;exact absurd (Option.some.inj this) h4
    ·exact z
    ·have:=h1 k' _ z g2
     rw[g3] at this;exact absurd (Option.some.inj this) g4
   subst hk
   rw[h2] at g2;cases g2
   rw[h3] at g3;cases g3
   rfl
 | .rd k n m, .alike,h,g=>by
   obtain⟨_,r,ps,v,y,e,_,h1,h2,h3,h4⟩:=h
   obtain⟨_,r',ps',v',e',_,g1⟩:=g
   rw[e] at e';cases e'
   have:=g1 k _ h2
   rw[h3] at this;exact absurd (Option.some.inj this) h4
 | .alike, .rd k n m,g,h=>by
   obtain⟨_,r,ps,v,y,e,_,h1,h2,h3,h4⟩:=h
   obtain⟨_,r',ps',v',e',_,g1⟩:=g
   rw[e] at e';cases e'
   have:=g1 k _ h2
   rw[h3] at this;exact absurd (Option.some.inj this) h4
 | .alike, .alike,_,_=>rfl
def RM:Sp:=fun vs H Q _=>∃(h g c rcd wd:Addr) (n:Nat) (gv:Kn) (rc:Rn) (kr kw:List (Key×V)) (rm rmN:Rm) (kn:Kn) (x:Str),vs=[.ref h, .ref rcd, .ref wd, .str x]/\jD H h g c n gv rc/\n<=17/\H rcd=some (.dK kr)/\p6 H kr n rm/\Rd H wd (.dK kw)/\(∀x,dI kw (.inr x)=(kn x).map V.int)/\zR n gv rc kn rmN/\kn x≠none/\
 ∀b p H',aQ H H'->m6 H' b p->Ky gv rc rm kn x p->Q (.ref b) H'
def Pap.dh:Pap->Th
 | .given=> .tup [.str "given"]
 | .new=> .tup [.str "new"]
 | .rcp r s=> .tup [.str "recipe",r.dh,s.dh]
 | .rd k n m=> .tup [.str "read", .int k, .int n, .int m]
 | .alike=> .tup [.str "alike"]
theorem m6.Nm {K:PySem.W.Frag}{H:Hp}{b:Addr}{p:Pap} (h:m6 H b p):pG K H (.ref b) p.dh:=by
 cases h with
 | given e=>exact .tup e (.cons (.str _) .nil)
 | new e=>exact .tup e (.cons (.str _) .nil)
 | rcp e hp hq _ _ _ _=>exact .tup e (.cons (.str _) (.cons hp.Nm (.cons hq.Nm .nil)))
 | rd e=>exact .tup e (.cons (.str _) (.cons (.int _) (.cons (.int _) (.cons (.int _) .nil))))
 | alike e=>exact .tup e (.cons (.str _) .nil)
theorem DpT.mono:∀{d e:Nat}{t:Th},d<=e->DpT d t->DpT e t
 | 0,0,_,_,h=>h
 | 0,e+1,t,_,h=>by cases t<;>first | trivial | exact h.elim
 | d+1,0,_,hl,_=>absurd hl (by omega)
 | d+1,e+1,t,hl,h=>by
   cases t with
   | tup ts=>exact⟨h.1,fun t ht=>DpT.mono (by omega) (h.2 t ht)⟩
   | _=>trivial
theorem zL {d:Nat}{x:Str}:DpT d (.str x):=by cases d<;>trivial
theorem Ym {d:Nat}{i:Int}:DpT d (.int i):=by cases d<;>trivial
theorem R.dpT:∀(r:R),r.Nk->DpT (r.depth+1) r.dh
 | .num n,_=>⟨by simp,fun t ht=>by
   have:t= .str "number"\/t= .int n:=by simpa using ht
   rcases this with rfl | rfl<;>first | exact zL | exact Ym⟩
 | .rd x,_=>⟨by simp,fun t ht=>by
   have:t= .str "read"\/t= .str x:=by simpa using ht
   rcases this with rfl | rfl<;>exact zL⟩
 | .bin op a b,h=>⟨by simp,fun t ht=>by
   have:t= .str op.word\/t=a.dh\/t=b.dh:=by simpa using ht
   have hd:(R.bin op a b).depth=max a.depth b.depth+1:=rfl
   rcases this with rfl | rfl | rfl
   ·exact zL
   ·exact(R.dpT a h.1).mono (by omega)
   ·exact(R.dpT b h.2).mono (by omega)⟩
 | .pick a b c,h=>⟨by simp,fun t ht=>by
   have:t= .str "pick"\/t=a.dh\/t=b.dh\/t=c.dh:=by simpa using ht
   have hd:(R.pick a b c).depth=max a.depth (max b.depth c.depth)+1:=rfl
   rcases this with rfl | rfl | rfl | rfl
   ·exact zL
   ·exact(R.dpT a h.1).mono (by omega)
   ·exact(R.dpT b h.2.1).mono (by omega)
   ·exact(R.dpT c h.2.2).mono (by omega)⟩
 | .cho a ns,h=>⟨by simp,fun t ht=>by
   have:t= .str "choose"\/t=a.dh\/t= .tup (ns.map Th.str):=by simpa using ht
   have hd:(R.cho a ns).depth=a.depth+1:=rfl
   rcases this with rfl | rfl | rfl
   ·exact zL
   ·exact(R.dpT a h.1).mono (by omega)
   ·refine⟨by have:=h.2;simp at *;omega,fun t ht=> ?_⟩
    obtain⟨x,_,rfl⟩:=List.mem_map.mp ht
    exact zL⟩
end RB
set_option maxRecDepth 100000
namespace RB
open PySem L2 PySem.Spec PyProof.Rows
mutual
theorem Nv:∀{t u:Th},eE t u=true->t=u
 | .tup xs, .tup ys,h=>by rw[eE] at h;rw[Kz h]
 | .int i, .int j,h=>by rw[eE] at h;rw[of_decide_eq_true h]
 | .str x, .str y,h=>by rw[eE] at h;rw[of_decide_eq_true h]
 | .tup _, .non,h=>by simp[eE] at h
 | .tup _, .bl _,h=>by simp[eE] at h
 | .tup _, .int _,h=>by simp[eE] at h
 | .tup _, .str _,h=>by simp[eE] at h
 | .tup _, .oth _,h=>by simp[eE] at h
 | .int _, .non,h=>by simp[eE] at h
 | .int _, .bl _,h=>by simp[eE] at h
 | .int _, .tup _,h=>by simp[eE] at h
 | .int _, .str _,h=>by simp[eE] at h
 | .int _, .oth _,h=>by simp[eE] at h
 | .str _, .non,h=>by simp[eE] at h
 | .str _, .bl _,h=>by simp[eE] at h
 | .str _, .tup _,h=>by simp[eE] at h
 | .str _, .int _,h=>by simp[eE] at h
 | .str _, .oth _,h=>by simp[eE] at h
 | .non,u,h=>by simp[eE] at h
 | .bl _,u,h=>by simp[eE] at h
 | .oth _,u,h=>by simp[eE] at h
theorem Kz:∀{ts us:List Th},lD ts us=true->ts=us
 |[],[],_=>rfl
 | x::xs,y::ys,h=>by
   rw[lD,Bool.and_eq_true] at h
   rw[Nv h.1,Kz h.2]
 |[],_::_,h=>by simp[lD] at h
 | _::_,[],h=>by simp[lD] at h
end
inductive PlT:Th->Prop where
 | int (i:Int):PlT (.int i)
 | str (x:Str):PlT (.str x)
 | tup {ts:List Th} (h:∀t∈ts,PlT t):PlT (.tup ts)
theorem GJ:∀{ts:List Th},(∀t∈ts,eE t t=true)->lD ts ts=true
 |[],_=>by simp[lD]
 | x::xs,h=>by
   rw[lD,h x (by simp),GJ fun t ht=>h t (by simp[ht])];rfl
theorem PlT.refl {t:Th} (h:PlT t):eE t t=true:=by
 induction h with
 | int i=>simp[eE]
 | str x=>simp[eE]
 | tup h ih=>rw[eE];exact GJ ih
theorem R.plT:∀(r:R),PlT r.dh
 | .num n=> .tup fun t ht=>by
   have:t= .str "number"\/t= .int n:=by simpa using ht
   rcases this with rfl | rfl<;>constructor
 | .rd x=> .tup fun t ht=>by
   have:t= .str "read"\/t= .str x:=by simpa using ht
   rcases this with rfl | rfl<;>constructor
 | .bin op a b=> .tup fun t ht=>by
   have:t= .str op.word\/t=a.dh\/t=b.dh:=by simpa using ht
   rcases this with rfl | rfl | rfl
   ·constructor
   ·exact R.plT a
   ·exact R.plT b
 | .pick a b c=> .tup fun t ht=>by
   have:t= .str "pick"\/t=a.dh\/t=b.dh\/t=c.dh:=by simpa using ht
   rcases this with rfl | rfl | rfl | rfl
   ·constructor
   ·exact R.plT a
   ·exact R.plT b
   ·exact R.plT c
 | .cho a ns=> .tup fun t ht=>by
   have:t= .str "choose"\/t=a.dh\/t= .tup (ns.map Th.str):=by simpa using ht
   rcases this with rfl | rfl | rfl
   ·constructor
   ·exact R.plT a
   ·refine .tup fun t ht=> ?_
    obtain⟨x,_,rfl⟩:=List.mem_map.mp ht
    constructor
theorem Qp:∀{o o':Op},o.word=o'.word->o=o':=by
 intro o o' h;cases o<;>cases o'<;>first | rfl | exact absurd h (by decide)
theorem KC (o:Op):o.word≠"choose":=by cases o<;>decide
theorem R.Bl:∀{r s:R},r.dh=s.dh->r=s
 | .num n, .num m,h=>by simp[R.dh] at h;rw[h]
 | .rd x, .rd y,h=>by simp[R.dh] at h;rw[h]
 | .bin o a b, .bin o' a' b',h=>by
   simp only[R.dh,Th.tup.injEq,List.cons.injEq,Th.str.injEq,and_true] at h
   rw[Qp h.1,R.Bl h.2.1,R.Bl h.2.2]
 | .pick a b c, .pick a' b' c',h=>by
   simp only[R.dh,Th.tup.injEq,List.cons.injEq,and_true,true_and] at h
   rw[R.Bl h.1,R.Bl h.2.1,R.Bl h.2.2]
 | .cho a ns, .cho a' ms,h=>by
   simp only[R.dh,Th.tup.injEq,List.cons.injEq,and_true,true_and] at h
   rw[R.Bl h.1,(List.map_inj_right (fun x y e=>by cases e;rfl)).mp h.2]
 | .num n, .rd y,h=>by simp[R.dh] at h
 | .num n, .bin _ _ _,h=>by simp[R.dh] at h
 | .num n, .pick _ _ _,h=>by simp[R.dh] at h
 | .num n, .cho _ _,h=>by simp[R.dh] at h
 | .rd n, .num y,h=>by simp[R.dh] at h
 | .rd n, .bin _ _ _,h=>by simp[R.dh] at h
 | .rd n, .pick _ _ _,h=>by simp[R.dh] at h
 | .rd n, .cho _ _,h=>by simp[R.dh] at h
 | .bin _ _ _, .num y,h=>by simp[R.dh] at h
 | .bin _ _ _, .rd y,h=>by simp[R.dh] at h
 | .bin _ _ _, .pick _ _ _,h=>by simp[R.dh] at h
 | .bin o _ _, .cho _ _,h=>by
   simp only[R.dh,Th.tup.injEq,List.cons.injEq,Th.str.injEq,and_true] at h
   exact absurd h.1 (KC o)
 | .pick _ _ _, .num y,h=>by simp[R.dh] at h
 | .pick _ _ _, .rd y,h=>by simp[R.dh] at h
 | .pick _ _ _, .bin _ _ _,h=>by simp[R.dh] at h
 | .pick _ _ _, .cho _ _,h=>by simp[R.dh] at h
 | .cho _ _, .num y,h=>by simp[R.dh] at h
 | .cho _ _, .rd y,h=>by simp[R.dh] at h
 | .cho _ _, .bin o _ _,h=>by
   simp only[R.dh,Th.tup.injEq,List.cons.injEq,Th.str.injEq,and_true] at h
   exact absurd h.1.symm (KC o)
 | .cho _ _, .pick _ _ _,h=>by simp[R.dh] at h
theorem RN {r s:R} (e:r=s):eE r.dh s.dh=true:=by rw[e];exact s.plT.refl
theorem RP {r s:R} (e:r≠s):eE r.dh s.dh=false:=by
 cases h:eE r.dh s.dh with
 | false=>rfl
 | true=>exact absurd (R.Bl (Nv h)) e
end RB
set_option maxRecDepth 100000
namespace L2
open PySem PySem.Spec PyProof.Rows
def Ite (K:PySem.W.Frag) (l:Addr):It:=
 ⟨fun i H=>∃xs x,SqL K H l xs/\xs[i]? =some x,
  fun i H v H'=>∃T x,v= .ref T/\H T=none/\H'=upd H T (.tup [.int (i:Int),x])/\∀xs,SqL K H l xs->xs[i]? =some x,
  fun i H=>∃xs,SqL K H l xs/\xs.length=i⟩
theorem TJ {P:Program}{w:World}{K:PySem.W.Frag}{elts:List Expr}{k:Nat}{pos:Pos} (e it l:Addr) (n1:e≠it) (n2:l≠e) (n3:l≠it):
 Turn P w K (.Tuple elts k pos) (Ite K l) [e,it] e (fun i h=>(∃old,IsEnum h e it i old)/\h.IsListIter it l i) where
 mem:=by simp
 obj:=fun i h st b hb=>by
  obtain⟨⟨old,h1⟩,⟨o4,e4,_,d4⟩⟩:=st
  have hb':b=e\/b=it:=by simpa using hb
  rcases hb' with rfl | rfl
  ·exact⟨_,h1,fun v e=>by cases e⟩
  ·exact⟨o4,e4,fun v e=>by rw[d4] at e;cases e⟩
 keep:=fun i h h' st kp=>by
  obtain⟨⟨old,h1⟩,h4⟩:=st
  exact⟨⟨old,kp e (by simp) _ h1⟩,h4.at fun o z=>kp it (by simp) o z⟩
 item:=by
  intro X hP hw hK hc i pins s σ H E I hf st hg
  subst hP hw hK
  obtain⟨xs,x,hq,hx⟩:=hg
  obtain⟨its,rv,p1,hz1⟩:=I.list hq
  obtain⟨u,hu,ru⟩:=rv.get hx
  obtain⟨⟨old,s1⟩,s4⟩:=st
  have W:=WalksT.enumerate (prog:=X.prog) (w:=X.w) (A:=X.A) (I.ok.hd hc) e it l n1 n2 n3 its.toArray
  have b1:i<its.length:=(List.getElem?_eq_some_iff.mp hu).1
  refine W.item i s _ _ (by simpa using b1) ⟨⟨old,s1⟩,s4,p1.isList⟩ fun T vals h2 tk pv hT isT mid kp=> ?_
  obtain⟨tt,a,ha,rfl⟩:=pv
  have ea:a=u:=by have:its[i]? =some a:=by simpa using ha
                  rw[hu] at this;exact(Option.some.inj this).symm
  subst ea
  refine⟨.ref T,rfl,W.go elts k pos i T _ _ _ mid fun h3 st3 kp3=> ?_⟩
  obtain⟨t1,t4,_⟩:=st3
  have J:Inv X pins σ H {s with heap:=h3,toks:=tk}:=I.Ht (ch:=[e,it]) (fun b hb=>hf b hb) fun b o hb z=>kp3 b o hb (kp b o hb z)
  have hT0:H T=none:=I.hok.fresh hT
  have nT:T∉[e,it]:=fun hm=>by
   obtain⟨o,z⟩:∃o,s.heap.get? T=some o:=by
    have:T=e\/T=it:=by simpa using hm
    obtain⟨o4,e4,_⟩:=s4
    rcases this with rfl | rfl
    ·exact⟨_,s1⟩
    ·exact⟨_,e4⟩
   exact absurd (Heap.lt_size z) (Nat.not_lt.mpr hT)
  have ab4:IsTup h3 T #[.int i tt,a]:=by
   obtain⟨o,z,r⟩:=isT
   exact⟨o,kp3 T o nT z,r⟩
  have fp:=I.JM (H':=H) hT hT0
  refine⟨.ref T,upd H T (.tup [.int (i:Int),x]),J.track hT0 ?_ fp.2.1 fp.2.2.2.2.1 fp.2.2.2.2.2 ?_,rfl,⟨T,x,rfl,hT0,rfl,fun zs hs=>by rw[I.MJ hs hq];exact hx⟩,⟨t1,t4⟩,fun b hb=> ?_⟩
  ·cases z:X.s₀.heap.get? T with
   | none=>rfl
   | some o=>exact absurd (Heap.lt_size z) (Nat.not_lt.mpr (Nat.le_trans I.sz hT))
  ·exact⟨by show 2<=sizeLine;rw[sizeLine_eq];decide,[.int i tt,a], .cons ⟨tt,rfl⟩ (.cons ru .nil),ab4⟩
  ·have nb:b≠T:=fun z=>nT (by rw[<-z];exact hb)
   rw[aq nb];exact(hf b hb).1
 done:=by
  intro X hP hw hK hc i pins s σ H E I hf st hg
  subst hP hw hK
  obtain⟨xs,hq,hi⟩:=hg
  obtain⟨its,rv,p1,hz1⟩:=I.list hq
  obtain⟨s1,s4⟩:=st
  have W:=WalksT.enumerate (prog:=X.prog) (w:=X.w) (A:=X.A) (I.ok.hd hc) e it l n1 n2 n3 its.toArray
  have en:its.toArray.size=i:=by rw[List.size_toArray,<-rv.length];exact hi
  subst en
  exact W.done s _ _ ⟨s1,s4,p1.isList⟩ fun h2 tk kp=>⟨rfl,I.Ht (ch:=[e,it]) (fun b hb=>hf b hb) kp⟩
 self:=fun A i s Q E st h=>by
  obtain⟨⟨old,h1⟩,h4⟩:=st
  exact wpAny_pyIter_enum h1 h
def aad (K:PySem.W.Frag) (ta:TA):TI:=fun σ H R=>ta σ H fun vs H1=>∃l,vs=[.ref l]/\(∃xs,SqL K H1 l xs)/\R (Ite K l) H1
theorem Yn {X:Cx}{elts:List Expr}{k:Nat}{tp:Pos}{a:Expr}{ta:TA}{p pos:Pos} (hg:Gl X "enumerate") (hm:X.mg "enumerate"=none) (ha:PA X [a] ta) (hs:starEach [a] X.env=[(false,eval a X.env)]:=by rfl):
 PI X (.Tuple elts k tp) (.Call (.Name "enumerate" p) [a] [] pos) (aad X.K ta):=by
 intro pins s σ H R I h
 refine Call_ (Be I hg hm K8 (PyProof.Rows.callWith_type1 (thn (ha pos pins s σ H _ I h) fun us s1 ⟨vs,H1,I1,r1,q1⟩=> ?_) (by rw[hs];rfl) (by rfl)))
 obtain⟨l,rfl,⟨xs,hq⟩,q⟩:=q1
 obtain⟨u,rfl,ru⟩:=vals1 r1
 cases ru
 obtain⟨its,_,p1,_⟩:=I1.list hq
 have lt1:l<s1.heap.objs.size:=by obtain⟨o,e,_⟩:=p1.isList;exact Heap.lt_size e
 refine call_enumerate_list p1.isList fun h5 he hi _ kp=> ?_
 refine wpAny_pyIter_enum he ?_
 have I2:Inv X pins σ H1 {s1 with heap:=h5}:=I1.kept (t':=s1.toks) kp
 refine⟨s1.heap.objs.size+1,[s1.heap.objs.size+1,s1.heap.objs.size],_,_,H1,rfl,I2,TJ _ _ l (Nat.succ_ne_self _) (Nat.ne_of_lt (Nat.lt_succ_of_lt lt1)) (Nat.ne_of_lt lt1),⟨⟨_,he⟩,hi⟩,fun b hb=> ?_,q⟩
 have hle:s1.heap.objs.size<=b:=by
  have:b=s1.heap.objs.size+1\/b=s1.heap.objs.size:=by simpa using hb
  rcases this with rfl | rfl<;>first | exact Nat.le_refl _ | exact Nat.le_add_right _ _
 exact I1.JM hle (I1.hok.fresh hle)
theorem Yo {X:Cx}{elts:List Expr}{k:Nat}{tp:Pos}{a:Expr}{ta:TA}{p pos:Pos} (hg:Gl X "enumerate") (hm:X.mg "enumerate"=none) (ha:QA X [a] ta) (hs:starEach [a] X.env=[(false,eval a X.env)]:=by rfl):
 QI X (.Tuple elts k tp) (.Call (.Name "enumerate" p) [a] [] pos) (aad X.K ta):=⟨Yn hg hm ha.h hs⟩
theorem VR {K:PySem.W.Frag}{a:Addr}{xs:List V}{g:TG}{tb:TS}{D:Ends}{σ:St}{H:Hp} (Pv:Nat->St->Hp->Prop) (h0:Pv 0 σ H) (hl:∀i σ H,i<=xs.length->Pv i σ H->SqL K H a xs)
 (hs:∀i x T σ H,xs[i]? =some x->H T=none->Pv i σ H->g (.ref T) σ (upd H T (.tup [.int (i:Int),x])) fun σ2 H2=>tb {D with nx:=Pv (i+1),ct:=Pv (i+1),bk:=D.nx} σ2 H2) (hd:∀σ H,Pv xs.length σ H->D.nx σ H):
 ∃W:Nat->Nat->St->Hp->Prop,(∃m,W 0 m σ H)/\∀i m σ H,W i m σ H->
  ((Ite K a).stop i H/\D.nx σ H)\/((Ite K a).go i H/\∃N:St->Hp->Prop,(∀σ' H',N σ' H'->∃m',m'<m/\W (i+1) m' σ' H')/\∀x H',(Ite K a).yld i H x H'->g x σ H' fun σ2 H2=>tb {D with nx:=N,ct:=N,bk:=D.nx} σ2 H2):=by
 refine⟨fun i m σ H=>m=xs.length - i/\i<=xs.length/\Pv i σ H,⟨xs.length,by simp,Nat.zero_le _,h0⟩, ?_⟩
 rintro i m σ H ⟨rfl,hi,p⟩
 have q1:=hl i σ H hi p
 by_cases hlt:i<xs.length
 ·refine .inr ⟨⟨xs,xs[i],q1,List.getElem?_eq_getElem hlt⟩,Pv (i+1),fun σ' H' z=>⟨_,by omega,rfl,hlt,z⟩, ?_⟩
  rintro x H' ⟨T,u,rfl,hT,rfl,e1⟩
  exact hs i u T σ H (e1 xs q1) hT p
 ·have e:i=xs.length:=by omega
  subst e
  exact .inl ⟨⟨xs,q1,rfl⟩,hd σ H p⟩
theorem Nx {X:Cx}{o e:Expr}{apos cpos:Pos}{td ty:TE} (hu:X.A.units+1<cLine) (ho:QE X o td) (he:QE X e ty) (m:M1 X o "get" apos e cpos):QE X (.Call (.Attribute o "get" apos) [e] [] cpos) (UT td ty):=⟨U0 hu ho.h he.h m⟩
end L2
set_option maxRecDepth 100000
namespace RB
open PySem L2 PySem.Spec PyProof.Rows
theorem lQ:∀{r:R},r.Good->r.Nk
 | .num _,_=>trivial
 | .rd x,h=>⟨h.2.1,fun c hc=>by have:=h.2.2 c hc;unfold Rr at this;omega⟩
 | .bin _ a b,h=>⟨lQ h.1,lQ h.2⟩
 | .pick a b c,h=>⟨lQ h.1,lQ h.2.1,lQ h.2.2⟩
 | .cho a ns,h=>⟨lQ h.1,h.2⟩
end RB
set_option maxRecDepth 100000
namespace RB
open PySem L2 PySem.Spec PyProof.Rows
def NiT:Nat->Th->Prop
 | _, .non=>True
 | _, .bl _=>True
 | _, .int _=>True
 | _, .str x=>PyData.strOk x=true
 | 0, .tup _=>False
 | d+1, .tup ts=>ts.length<=1000/\∀t∈ts,NiT d t
 | _, .oth _=>False
theorem Yp {d:Nat}:NiT d .non:=by cases d<;>trivial
theorem ab5 {d:Nat}{b:Bool}:NiT d (.bl b):=by cases d<;>trivial
theorem Lz {d:Nat}{i:Int}:NiT d (.int i):=by cases d<;>trivial
theorem lH {d:Nat}{x:Str} (h:PyData.strOk x=true):NiT d (.str x):=by cases d<;>exact h
end RB
set_option maxRecDepth 100000
namespace RB
open PySem L2 PySem.Spec PyProof.Rows
end RB
set_option maxRecDepth 100000
namespace RB
open PySem L2 PySem.Spec PyProof.Rows
theorem NiT.mono:∀{d e:Nat}{t:Th},d<=e->NiT d t->NiT e t
 | d,e, .non,_,_=>Yp
 | d,e, .bl _,_,_=>ab5
 | d,e, .int _,_,_=>Lz
 | 0,e, .str x,_,h=>lH h
 | d+1,e, .str x,_,h=>lH h
 | 0,e, .tup _,_,h=>absurd h (by simp[NiT])
 | d+1,0, .tup _,hl,h=>absurd hl (by omega)
 | d+1,e+1, .tup ts,hl,h=>⟨h.1,fun t ht=>(h.2 t ht).mono (by omega)⟩
 | 0,e, .oth _,_,h=>absurd h (by simp[NiT])
 | d+1,e, .oth _,_,h=>absurd h (by simp[NiT])
theorem V0 {d:Nat} (op:Op):NiT d (.str op.word):=lH (by cases op<;>decide +kernel)
theorem R.niT:∀(r:R),r.Good->NiT (r.depth+1) r.dh
 | .num n,_=>⟨by simp,fun t ht=>by
   have:t= .str "number"\/t= .int n:=by simpa using ht
   rcases this with rfl | rfl
   ·exact lH (by decide +kernel)
   ·exact Lz⟩
 | .rd x,h=>⟨by simp,fun t ht=>by
   have:t= .str "read"\/t= .str x:=by simpa using ht
   rcases this with rfl | rfl
   ·exact lH (by decide +kernel)
   ·exact lH (rW h)⟩
 | .bin op a b,h=>⟨by simp,fun t ht=>by
   have:t= .str op.word\/t=a.dh\/t=b.dh:=by simpa using ht
   have hd:(R.bin op a b).depth=max a.depth b.depth+1:=rfl
   rcases this with rfl | rfl | rfl
   ·exact V0 op
   ·exact(R.niT a h.1).mono (by omega)
   ·exact(R.niT b h.2).mono (by omega)⟩
 | .pick a b c,h=>⟨by simp,fun t ht=>by
   have:t= .str "pick"\/t=a.dh\/t=b.dh\/t=c.dh:=by simpa using ht
   have hd:(R.pick a b c).depth=max a.depth (max b.depth c.depth)+1:=rfl
   rcases this with rfl | rfl | rfl | rfl
   ·exact lH (by decide +kernel)
   ·exact(R.niT a h.1).mono (by omega)
   ·exact(R.niT b h.2.1).mono (by omega)
   ·exact(R.niT c h.2.2).mono (by omega)⟩
 | .cho a ns,h=>⟨by simp,fun t ht=>by
   have:t= .str "choose"\/t=a.dh\/t= .tup (ns.map Th.str):=by simpa using ht
   have hd:(R.cho a ns).depth=a.depth+1:=rfl
   rcases this with rfl | rfl | rfl
   ·exact lH (by decide +kernel)
   ·exact(R.niT a h.1).mono (by omega)
   ·refine⟨by have:=h.2;simp at *;omega,fun t ht=> ?_⟩
    obtain⟨x,hx,rfl⟩:=List.mem_map.mp ht
    exact lH (rW (h.2.2.2 x hx))⟩
theorem m6.niT {H:Hp}{b:Addr}{p:Pap} (h:m6 H b p):NiT 10 p.dh:=by
 cases h with
 | given e=>exact⟨by simp,fun t ht=>by have:t= .str "given":=by simpa using ht
                                       rw[this];exact lH (by decide +kernel)⟩
 | new e=>exact⟨by simp,fun t ht=>by have:t= .str "new":=by simpa using ht
                                     rw[this];exact lH (by decide +kernel)⟩
 | alike e=>exact⟨by simp,fun t ht=>by have:t= .str "alike":=by simpa using ht
                                       rw[this];exact lH (by decide +kernel)⟩
 | @rd k n m e=>exact⟨by simp,fun t ht=>by
     have:t= .str "read"\/t= .int k\/t= .int n\/t= .int m:=by simpa using ht
     rcases this with rfl | rfl | rfl | rfl<;>first | exact Lz | exact lH (by decide +kernel)⟩
 | @rcp r s a b e _ _ gr gs dr ds=>exact⟨by simp,fun t ht=>by
     have:t= .str "recipe"\/t=r.dh\/t=s.dh:=by simpa using ht
     rcases this with rfl | rfl | rfl
     ·exact lH (by decide +kernel)
     ·exact(r.niT gr).mono (show r.depth+1<=9 by omega)
     ·exact(s.niT gs).mono (show s.depth+1<=9 by omega)⟩
theorem Pap.plT:∀(p:Pap),PlT p.dh
 | .given=> .tup fun t ht=>by have:t= .str "given":=by simpa using ht
                              rw[this];constructor
 | .new=> .tup fun t ht=>by have:t= .str "new":=by simpa using ht
                            rw[this];constructor
 | .alike=> .tup fun t ht=>by have:t= .str "alike":=by simpa using ht
                              rw[this];constructor
 | .rd k n m=> .tup fun t ht=>by
     have:t= .str "read"\/t= .int k\/t= .int n\/t= .int m:=by simpa using ht
     rcases this with rfl | rfl | rfl | rfl<;>constructor
 | .rcp r s=> .tup fun t ht=>by
     have:t= .str "recipe"\/t=r.dh\/t=s.dh:=by simpa using ht
     rcases this with rfl | rfl | rfl
     ·constructor
     ·exact r.plT
     ·exact s.plT
end RB
set_option maxRecDepth 100000
namespace L2
open PySem PySem.Spec PyProof.Rows RB
section
variable {prog:Program}{w:World}{A:Around}{E:Value->Shared->Prop}{s:Shared}
end
end L2
namespace RB
open PySem L2 PySem.Spec PyProof.Rows
end RB
set_option maxRecDepth 100000
namespace L2
open PySem PySem.Spec PyProof.Rows RB
theorem Qq {P:Program}{w:World} (a b:Addr) (x1 x2 y1 y2:Value) (n m:Nat) (d1 d2:Option Addr) (t1 t2:Array (Option Value)):
 MeetsIn P w (Builtin.«tuple.__eq__» ⟨[.ref a, .ref b],[]⟩)
  (fun A R s=>s.heap.get? a=some {cls:= .type "tuple",dict:=d1,data:= .seq #[x1,x2] n,slots:=t1}/\s.heap.get? b=some {cls:= .type "tuple",dict:=d2,data:= .seq #[y1,y2] m,slots:=t2}/\
    zP P w A.in1 s x1 y1/\zP P w A.in1 s x2 y2/\R (.ok (.ret (.bool true))) s):=by
 intro A R s z
 obtain⟨hp,g,d,tk,os⟩:=s
 obtain⟨z1,z2,e1,e2,z⟩:=z
 have f2:=AutoSeq1.sub_tuple_tuple
 wp_walk using AutoSeq1.wpAny_loadPart' z1,AutoSeq1.wpAny_loadPart' z2,wpAny_forIn_list _ (fun rest c s'=>c.1=none/\s'=⟨hp,g,d,tk,os⟩/\(rest=[(x1,y1),(x2,y2)]\/rest=[(x2,y2)]\/rest=[])) _
 case turn=>
  rintro⟨y,x⟩ rest c s' ⟨hc,rfl,h⟩
  rcases h with h | h | h
  ·cases h
   refine wpAny_bind (e1 _ _ ?_)
   wp_walk
   exact⟨rfl,rfl, .inr (.inl rfl)⟩
  ·cases h
   refine wpAny_bind (e2 _ _ ?_)
   wp_walk
   exact⟨rfl,rfl, .inr (.inr rfl)⟩
  ·cases h
 case fin=>
  rintro⟨c1,c2⟩ s' ⟨hc,rfl,_⟩
  simp only at hc
  subst hc
  wp_walk
  first | exact z | exact⟨_,rfl,z⟩
 case h=>exact⟨rfl,rfl, .inl rfl⟩
theorem Qs {P:Program}{w:World}{A:Around}{s:Shared}{a b:Addr}{x1 x2 y1 y2:Value} (ha:IsTup s.heap a #[x1,x2]) (hb:IsTup s.heap b #[y1,y2]) (h1:zP P w A.in1 s x1 y1) (h2:zP P w A.in1 s x2 y2) (hu:A.units<cLine):zP P w A s (.ref a) (.ref b):=fun E Q q=>by
 by_cases hab:a=b
 ·subst hab;exact SeqAt.EqAt.same (.ref a) P w E Q q
 obtain⟨⟨c1,d1,dt1,t1⟩,hp,hc1,n,hd1⟩:=ha
 obtain⟨⟨c2,d2,dt2,t2⟩,hq,hc2,m,hd2⟩:=hb
 simp only at hc1 hd1 hc2 hd2
 subst hc1 hd1 hc2 hd2
 have hT:s.TypeIs (.ref a) "tuple":=⟨_,hp,rfl⟩
 unfold eqBool
 refine wpAny_holding (wpAny_ite_split (fun z=>absurd (by have:=eq_of_beq z;injection this) hab) fun _=>wpAny_bind ?_)
 refine wpAny_richCompare_same_room (op:= .Eq) hT ⟨_,hq,rfl⟩ F.slot_tuple_eq (call_meetsIn F.slot_tuple_eq hT F.entry_tuple_eq (F.args_tuple_eq_2 _ _) (Qq a b x1 x2 y1 y2 n m d1 d2 t1 t2) ⟨hp,hq,h1,h2, ?_⟩) hu
 exact⟨(fun x=>nomatch x),wpAny_truthy_bool q⟩
theorem LC {X:Cx}{pins:List (Addr×Obj)}{s:Shared}{σ:St}{H:Hp}{A:Around}{x y:V}{z z':Value} (I:Inv X pins σ H s) (rz:RelV x z) (rz':RelV y z') (h:EqV H x y) (hu:A.units<cLine):zP X.prog X.w A s z z':=by
 rcases h with⟨e,pv⟩ | ⟨p,q',kvs,e3,e4,hp,hq,hpl⟩
 ·rw[<-e] at rz'
  exact zP.of (Iw pv rz rz')
 ·rw[e3] at rz
  rw[e4] at rz'
  cases rz
  cases rz'
  obtain⟨_,lo,va,ka,da⟩:=(show fJ X.prog X.w H s.heap p (.dK kvs) from hp.ok I.hok)
  obtain⟨_,lo',vb,kb,db⟩:=(show fJ X.prog X.w H s.heap q' (.dK kvs) from hq.ok I.hok)
  exact Qj lo lo' ka kb da db hpl hu
def aib (H:Hp) (x y:V):Prop:=EqV H x y\/∃a b x1 x2 y1 y2,x= .ref a/\y= .ref b/\H a=some (.tup [x1,x2])/\H b=some (.tup [y1,y2])/\EqV H x1 y1/\EqV H x2 y2
end L2
set_option maxRecDepth 100000
namespace RB
open PySem L2 PySem.Spec PyProof.Rows
section
variable {p h hg hc h2 g2 c2 rcd r2 wd w2 hd:Addr}{o:Obj}{n:Nat}{gv:Kn}{rc:Rn}{kg kc kr kw:List (Key×V)}{rm:Rm}{H H':Hp}
theorem Bld.plG (h:Bld H kg kc n gv rc):∀q∈kg,Bk q.2=true:=fun q hq=>by
 obtain⟨gs,cs,k,_,_⟩:=h.k
 obtain⟨i,hi⟩:=List.getElem?_of_mem hq
 obtain⟨x,ex,_⟩:=k.at (k:=q.1) (v:=q.2) hi
 have hv:=Dm k (k:=q.1) (v:=q.2) hq
 rw[ex,h.g] at hv
 cases e:gv x with
 | none=>rw[e] at hv;cases hv
 | some u=>rw[e] at hv;rw[<-Option.some.inj hv];rfl
theorem Bld.plC (h:Bld H kg kc n gv rc):∀q∈kc,Bk q.2=true:=fun q hq=>by
 obtain⟨gs,cs,_,k,_⟩:=h.k
 obtain⟨i,hi⟩:=List.getElem?_of_mem hq
 obtain⟨x,ex,_⟩:=k.at (k:=q.1) (v:=q.2) hi
 have hv:=Dm k (k:=q.1) (v:=q.2) hq
 rw[ex] at hv
 cases e:rc x with
 | none=>rw[h.rn x e] at hv;cases hv
 | some u=>
   obtain⟨b,hb,_⟩:=h.r x u e
   rw[hb] at hv;rw[<-Option.some.inj hv];rfl
end
end RB
set_option maxRecDepth 100000
namespace RB
open PySem L2 PySem.Spec PyProof.Rows
theorem V1 {kn:Kn}{d:List Rdp} (h:Rows kn d) {x:Str}{v:Int} (hx:kn x=some v) (m:(x,v)∈d):uC d x v=d:=by
 unfold uC
 rw[if_pos (List.any_eq_true.mpr ⟨(x,v),m,by simp⟩)]
 have:∀p∈d,(if p.1=x then(p.1,v) else p)=p:=fun p hp=>by
  by_cases z:p.1=x
  ·rw[if_pos z]
   have:=h.s p hp
   rw[z,hx] at this
   rw[Option.some.inj this]
  ·rw[if_neg z]
 rw[List.map_congr_left this]
 exact List.map_id _
theorem V2 {kn:Kn}{d:List Rdp} (h:Rows kn d) {x:Str}{v:Int} (hx:kn x=some v) (m:(x,v)∉d):uC d x v=d++[(x,v)]:=by
 unfold uC
 rw[if_neg]
 intro z
 obtain⟨p,hp,e⟩:=List.any_eq_true.mp z
 have e:=of_decide_eq_true e
 have:=h.s p hp
 rw[e,hx] at this
 exact m (by rw[<-e,Option.some.inj this];exact hp)
def yu (kn:Kn) (r:R) (t:List Stp) (f:List Int) (d:List Rdp):Prop:=match ev kn r with
 | .inr v=>∃n us,StN kn n ⟨t++[.r r],f,d⟩ ⟨t,f++[v],d++us⟩/\qF r (kn0.puts d) us v/\Rows kn (d++us)
 | .inl x=>∃n t' f' us,StN kn n ⟨t++[.r r],f,d⟩ ⟨t'++[.r (.rd x)],f',d++us⟩/\kn x=none/\Chn r (kn0.puts d) us/\ev (kn0.puts (d++us)) r= .inl x/\Rows kn (d++us)
theorem TQ {kn:Kn}{d:List Rdp} (h:Rows kn d) {x:Str} (hx:kn x=none):kn0.puts d x=none:=by
 cases e:kn0.puts d x with
 | none=>rfl
 | some u=>
   rcases Dk e with z | z
   ·have:=h.s _ z
    rw[hx] at this;cases this
   ·cases z
theorem Ny {kn:Kn}{x:Str}{t:List Stp}{f:List Int}{d:List Rdp} (hd:Rows kn d):yu kn (.rd x) t f d:=by
 unfold yu
 show match look kn x with
  | .inr v=>_
  | .inl y=>_
 unfold look
 cases e:kn x with
 | none=>
   refine⟨0,t,f,[], ?_,e,trivial, ?_,by rw[List.append_nil];exact hd⟩
   ·rw[List.append_nil];exact .zero
   ·rw[List.append_nil]
    show look _ x=_
    unfold look
    rw[TQ hd e]
 | some v=>
   have hl:=hd.look e
   by_cases m:(x,v)∈d
   ·rw[if_pos m] at hl
    refine⟨1,[], .succ (.rd e) ?_,hl,by rw[List.append_nil];exact hd⟩
    rw[V1 hd e m,List.append_nil];exact .zero
   ·rw[if_neg m] at hl
    refine⟨1,[(x,v)], .succ (.rd e) ?_,hl.1,hl.2⟩
    rw[V2 hd e m];exact .zero
theorem Je {kn:Kn}:∀(r:R),r.T3->∀t f d,Rows kn d->yu kn r t f d
 | .num n,_,t,f,d,hd=>⟨1,[], .succ .num (by rw[List.append_nil];exact .zero),RJ,by rw[List.append_nil];exact hd⟩
 | .rd x,_,t,f,d,hd=>Ny hd
 | .bin op a b,h,t,f,d,hd=>by
   have ua:∀kn' x,ev kn' a= .inl x->ev kn' (.bin op a b)= .inl x:=fun kn' x e=>by simp only[ev];rw[e]
   have ha:=Je (kn:=kn) a h.1 (t++[.join op, .r b]) f d hd
   unfold yu at ha ⊢
   rw[List.append_assoc] at ha
   simp only[ev]
   cases ea:ev kn a with
   | inl x=>
     rw[ea] at ha
     obtain⟨n,t',f',us,s,hx,c,e,hr⟩:=ha
     exact⟨n+1,t',f',us, .succ .bin s,hx,c.up fun kn' x _ e=>ua kn' x e,ua _ _ e,hr⟩
   | inr u=>
     rw[ea] at ha
     obtain⟨n,us,s,g,hr⟩:=ha
     have hb:=Je (kn:=kn) b h.2.1 (t++[.join op]) (f++[u]) (d++us) hr
     unfold yu at hb
     rw[List.append_assoc] at hb
     have ub:∀kn' x,Kn.Le ((kn0.puts d).puts us) kn'->ev kn' b= .inl x->ev kn' (.bin op a b)= .inl x:=fun kn' x l e=>by simp only[ev];rw[vm l g.e];simp only;rw[e]
     cases eb:ev kn b with
     | inl x=>
       rw[eb] at hb
       obtain⟨m,t',f',vs,s2,hx,c,e,hr2⟩:=hb
       rw[Kn.fQ] at c
       rw[List.append_assoc] at s2 e hr2
       refine⟨n+m+1,t',f',us++vs, .succ .bin (s.add s2),hx,(g.c.up fun kn' x _ e=>ua kn' x e).app (c.up ub), ?_,hr2⟩
       refine ub _ _ ?_ e
       rw[Kn.fQ,Kn.fQ]
       exact c.le
     | inr v=>
       rw[eb] at hb
       obtain⟨m,vs,s2,g2,hr2⟩:=hb
       rw[Kn.fQ] at g2
       rw[List.append_assoc] at s2 hr2
       refine⟨n+(m+1)+1,us++vs, .succ .bin (s.add (s2.add (.succ ?_ .zero))),Dj g g2,hr2⟩
       rw[List.append_assoc]
       exact .join fun z=> .inr (by
        obtain⟨k,rfl,h1,h2⟩:=h.2.2 z
        cases eb
        omega)
 | .pick a b c,h,t,f,d,hd=>by
   have ua:∀kn' x,ev kn' a= .inl x->ev kn' (.pick a b c)= .inl x:=fun kn' x e=>by simp only[ev];rw[e]
   have ha:=Je (kn:=kn) a h.1 (t++[.branch b c]) f d hd
   unfold yu at ha ⊢
   rw[List.append_assoc] at ha
   simp only[ev]
   cases ea:ev kn a with
   | inl x=>
     rw[ea] at ha
     obtain⟨n,t',f',us,s,hx,c,e,hr⟩:=ha
     exact⟨n+1,t',f',us, .succ .pick s,hx,c.up fun kn' x _ e=>ua kn' x e,ua _ _ e,hr⟩
   | inr u=>
     rw[ea] at ha
     obtain⟨n,us,s,g,hr⟩:=ha
     have hb:yu kn (if u>0 then b else c) t f (d++us):=by
      split
      ·exact Je b h.2.1 t f _ hr
      ·exact Je c h.2.2 t f _ hr
     unfold yu at hb
     simp only
     have e:(if u>0 then ev kn b else ev kn c)=ev kn (if u>0 then b else c):=by split<;>rfl
     rw[e]
     have up:∀kn':Kn,Kn.Le ((kn0.puts d).puts us) kn'->ev kn' (.pick a b c)=ev kn' (if u>0 then b else c):=fun kn' l=>by
      simp only[ev];rw[vm l g.e];simp only;split<;>rfl
     cases eb:ev kn (if u>0 then b else c) with
     | inl x=>
       rw[eb] at hb
       obtain⟨m,t',f',vs,s2,hx,c2,e2,hr2⟩:=hb
       rw[Kn.fQ] at c2
       rw[List.append_assoc] at s2 e2 hr2
       refine⟨n+(m+1)+1,t',f',us++vs, .succ .pick (s.add (.succ .branch s2)),hx,(g.c.up fun kn' x _ e=>ua kn' x e).app (c2.up fun kn' x l z=>by rw[up kn' l];exact z), ?_,hr2⟩
       rw[<-e2]
       have hl:=c2.le
       have:=up (kn0.puts (d++(us++vs))) (by rw[Kn.fQ,Kn.fQ];exact hl)
       simp only[ev] at this
       exact this
     | inr v=>
       rw[eb] at hb
       obtain⟨m,vs,s2,g2,hr2⟩:=hb
       rw[Kn.fQ] at g2
       rw[List.append_assoc] at s2 hr2
       exact⟨n+(m+1)+1,us++vs, .succ .pick (s.add (.succ .branch s2)),IW g g2,hr2⟩
 | .cho a ns,h,t,f,d,hd=>by
   have ua:∀kn' x,ev kn' a= .inl x->ev kn' (.cho a ns)= .inl x:=fun kn' x e=>by simp only[ev];rw[e]
   have ha:=Je (kn:=kn) a h.1 (t++[.among ns]) f d hd
   unfold yu at ha ⊢
   rw[List.append_assoc] at ha
   simp only[ev]
   cases ea:ev kn a with
   | inl x=>
     rw[ea] at ha
     obtain⟨n,t',f',us,s,hx,c,e,hr⟩:=ha
     exact⟨n+1,t',f',us, .succ .cho s,hx,c.up fun kn' x _ e=>ua kn' x e,ua _ _ e,hr⟩
   | inr u=>
     rw[ea] at ha
     obtain⟨n,us,s,g,hr⟩:=ha
     obtain⟨y,ey⟩:=Kr h.2 u
     simp only
     rw[ey]
     have hb:=Ny (kn:=kn) (x:=y) (t:=t) (f:=f) hr
     unfold yu at hb
     simp only[ev] at hb
     simp only
     have up:∀kn':Kn,Kn.Le ((kn0.puts d).puts us) kn'->ev kn' (.cho a ns)=ev kn' (.rd y):=fun kn' l=>by
      simp only[ev];rw[vm l g.e];simp only;rw[ey]
     cases eb:look kn y with
     | inl x=>
       rw[eb] at hb
       obtain⟨m,t',f',vs,s2,hx,c2,e2,hr2⟩:=hb
       rw[Kn.fQ] at c2
       rw[List.append_assoc] at s2 e2 hr2
       refine⟨n+(m+1)+1,t',f',us++vs, .succ .cho (s.add (.succ (.among ey) s2)),hx,(g.c.up fun kn' x _ e=>ua kn' x e).app (c2.up fun kn' x l z=>by rw[up kn' l];exact z), ?_,hr2⟩
       have hl:=c2.le
       have:=up (kn0.puts (d++(us++vs))) (by rw[Kn.fQ,Kn.fQ];exact hl)
       exact this.trans e2
     | inr v=>
       rw[eb] at hb
       obtain⟨m,vs,s2,g2,hr2⟩:=hb
       rw[Kn.fQ] at g2
       rw[List.append_assoc] at s2 hr2
       exact⟨n+(m+1)+1,us++vs, .succ .cho (s.add (.succ (.among ey) s2)),RK g ey g2,hr2⟩
def yw (kn:Kn) (r:R) (x:Str):Prop:=∃ps,Chn r kn0 ps/\ev (kn0.puts ps) r= .inl x/\Rows kn ps
def Goes (kn:Kn) (r:R) (c:Cf):Prop:=match ev kn r with
 | .inr v=>c.todo=[]/\c.found=[v]/\qF r kn0 c.rds v/\Rows kn c.rds
 | .inl x=>(∃t,c.todo=t++[.r (.rd x)])/\kn x=none/\yw kn r x
theorem V3 {kn:Kn}:Rows kn []:=⟨by simp,by simp⟩
theorem Reach.ae1 {kn:Kn}{r:R} (hr:r.T3) {c:Cf} (g:Reach kn r c):∃n c',StN kn n c c'/\Halt kn c'/\Reach kn r c'/\Goes kn r c':=by
 have h:=Je (kn:=kn) r hr [] [] [] V3
 unfold yu at h
 unfold Goes
 obtain⟨m,g⟩:=g
 cases e:ev kn r with
 | inr v=>
   rw[e] at h
   obtain⟨n,us,s,gg,hr⟩:=h
   obtain⟨k,t⟩:=g.rest s (.inl rfl)
   exact⟨k,_,t, .inl rfl,⟨n,s⟩,rfl,rfl,gg,hr⟩
 | inl x=>
   rw[e] at h
   obtain⟨n,t',f',us,s,hx,c1,e1,hr⟩:=h
   have hh:Halt kn ⟨t'++[.r (.rd x)],f',[]++us⟩:= .inr ⟨t',x,rfl,hx⟩
   obtain⟨k,t⟩:=g.rest s hh
   exact⟨k,_,t,hh,⟨n,s⟩,⟨t',rfl⟩,hx,us,c1,e1,hr⟩
theorem zG:∀r:R,1<=r.depth
 | .num _=>Nat.le_refl _
 | .rd _=>Nat.le_refl _
 | .bin _ a b=>by show 1<=max a.depth b.depth+1;omega
 | .pick a b c=>by show 1<=max a.depth (max b.depth c.depth)+1;omega
 | .cho a _=>by show 1<=a.depth+1;omega
theorem Jf:∀(r:R) (d:Nat),r.depth<=d->wR r+2<=3 ^ d
 | r,0,h=>absurd (zG r) (by omega)
 | .num _,d+1,_=>by
   have:1<=3 ^ d:=Nat.one_le_pow _ _ (by decide)
   show 1+2<=3 ^(d+1)
   rw[Nat.pow_succ];omega
 | .rd _,d+1,_=>by
   have:1<=3 ^ d:=Nat.one_le_pow _ _ (by decide)
   show 1+2<=3 ^(d+1)
   rw[Nat.pow_succ];omega
 | .bin _ a b,d+1,h=>by
   have h:max a.depth b.depth+1<=d+1:=h
   have h1:=Jf a d (by omega)
   have h2:=Jf b d (by omega)
   show wR a+wR b+2+2<=3 ^(d+1)
   rw[Nat.pow_succ];omega
 | .pick a b c,d+1,h=>by
   have h:max a.depth (max b.depth c.depth)+1<=d+1:=h
   have h1:=Jf a d (by omega)
   have h2:=Jf b d (by omega)
   have h3:=Jf c d (by omega)
   show wR a+wR b+wR c+2+2<=3 ^(d+1)
   rw[Nat.pow_succ];omega
 | .cho a _,d+1,h=>by
   have h:a.depth+1<=d+1:=h
   have h1:=Jf a d (by omega)
   show wR a+3+2<=3 ^(d+1)
   rw[Nat.pow_succ];omega
end RB
set_option maxRecDepth 100000
namespace L2
open PySem PySem.Spec PyProof.Rows
theorem LK {X:Cx}{e:Expr}{f:Str}{pos:Pos}{ta:TE}{K:PySem.W.Frag} (eK:X.K=K) (he:QE X e ta) (hb:attributeBase e f X.env (eval e X.env)=eval e X.env:=by rfl):QE X (.Attribute e f pos) (aba K ta f):=eK▸bR he hb
end L2
namespace RB
open PySem L2 PySem.Spec PyProof.Rows
structure NrC (K:PySem.W.Frag) (C:Addr):Prop where
 cl:Cls K C
 nB:jL K C "by_name"
def nrF (rcd:Addr):List (Str×V):=[("by_name", .ref rcd)]
def Nz (C:Addr):Sp:=fun vs H Q _=>∃(a dx rcd:Addr),vs=[.ref a, .ref rcd]/\H a=some (.ins C dx [])/\∀H',But [a] H H'->H' a=some (.ins C dx (nrF rcd))->Q .non H'
def KD (rm:Rm) (y:Str) (r:R) (kn:Kn):Prop:=∀r' ps v,rm y=some (r',ps,v)->r'≠r\/∃p∈ps,∃u,kn p.1=some u/\u≠p.2
theorem KD.le {rm:Rm}{y:Str}{r:R}{kn kn':Kn} (h:KD rm y r kn) (l:Kn.Le kn kn'):KD rm y r kn':=fun r' ps v e=>(h r' ps v e).imp id fun⟨p,hp,u,hu,hn⟩=>⟨p,hp,u,l _ _ hu,hn⟩
def NB (H:Hp) (fl:Addr) (kr:List (Key×V)) (rm:Rm) (y:Str) (r:R) (kn:Kn) (k:Nat):Prop:=
 (∃rb ps v,H fl=some (.lst [.ref rb])/\dI kr (.inr y)=some (.ref rb)/\rm y=some (r,ps,v)/\k<=ps.length/\∀(j:Nat) p,j<k->ps[j]? =some p->kn p.1=some p.2)\/(H fl=some (.lst [])/\KD rm y r kn)
theorem NB.le {H:Hp}{fl:Addr}{kr:List (Key×V)}{rm:Rm}{y:Str}{r:R}{kn kn':Kn}{k:Nat} (h:NB H fl kr rm y r kn k) (l:Kn.Le kn kn'):NB H fl kr rm y r kn' k:=
 h.imp (fun⟨rb,ps,v,a,b,c,d,e⟩=>⟨rb,ps,v,a,b,c,d,fun j p hj hp=>l _ _ (e j p hj hp)⟩) fun⟨a,b⟩=>⟨a,b.le l⟩
theorem NB.at {H H':Hp}{fl:Addr}{kr:List (Key×V)}{rm:Rm}{y:Str}{r:R}{kn:Kn}{k:Nat} (h:NB H fl kr rm y r kn k) (f:∀o,H fl=some o->H' fl=some o):NB H' fl kr rm y r kn k:=
 h.imp (fun⟨rb,ps,v,a,b⟩=>⟨rb,ps,v,f _ a,b⟩) fun⟨a,b⟩=>⟨f _ a,b⟩
def V4 (C:Addr):Sp:=fun vs H Q _=>∃(o dx rcd b:Addr) (kr:List (Key×V)) (n:Nat) (rm:Rm) (y:Str) (r:R),vs=[.ref o, .str y, .ref b]/\H o=some (.ins C dx (nrF rcd))/\H rcd=some (.dK kr)/\p6 H kr n rm/\IsR H b r/\r.Good/\r.depth<=8/\
 ∀fl H',aQ H H'->H fl=none->(∀kn,NB H' fl kr rm y r kn 0)->Q (.ref fl) H'
def aae:Sp:=fun vs H Q _=>(∃v w,vs=[v,w])/\Q .non H
structure SeD where
 s:Addr
 dx:Addr
 b:Addr
 fl:Addr
 rk:Addr
 dxr:Addr
 a1:Addr
 a2:Addr
 a3:Addr
 k:Nat
def SeD.ft (A:SeD):List Addr:=[A.s,A.fl,A.rk,A.a1,A.a2,A.a3]
def seF (b fl:Addr) (k:Nat) (rk:Addr):List (Str×V):=[("recipe", .ref b),("fitting", .ref fl),("place", .int k),("reckoning", .ref rk)]
structure SeC (K:PySem.W.Frag) (C:Addr):Prop where
 cl:Cls K C
 nR:jL K C "recipe"
 nF:jL K C "fitting"
 nP:jL K C "place"
 nK:jL K C "reckoning"
theorem zM (b fl:Addr) (k:Nat) (rk:Addr):List.lookup ("recipe":Str) (seF b fl k rk)=some (.ref b):=rfl
theorem wH (b fl:Addr) (k:Nat) (rk:Addr):List.lookup ("fitting":Str) (seF b fl k rk)=some (.ref fl):=rfl
theorem zN (b fl:Addr) (k:Nat) (rk:Addr):List.lookup ("place":Str) (seF b fl k rk)=some (.int k):=rfl
theorem rB (b fl:Addr) (k:Nat) (rk:Addr):List.lookup ("reckoning":Str) (seF b fl k rk)=some (.ref rk):=rfl
theorem iu (b fl:Addr) (k:Nat) (rk:Addr):List.lookup ("lacking":Str) (seF b fl k rk)=none/\List.lookup ("fit_on":Str) (seF b fl k rk)=none/\List.lookup ("was_reckoned":Str) (seF b fl k rk)=none/\List.lookup ("new_record":Str) (seF b fl k rk)=none:=⟨rfl,rfl,rfl,rfl⟩
structure wI (CS CR:Addr) (kr:List (Key×V)) (rm:Rm) (y:Str) (r:R) (kn:Kn) (A:SeD) (H:Hp):Prop where
 e:H A.s=some (.ins CS A.dx (seF A.b A.fl A.k A.rk))
 hr:IsR H A.b r
 c:∃c,RcAt H A.rk CR A.dxr A.a1 A.a2 A.a3 c/\Reach kn r c
 f:NB H A.fl kr rm y r kn A.k
 n1:A.s≠A.rk
 n2:A.fl≠A.a1
 n3:A.fl≠A.a2
theorem RcAt.move {S:List Addr}{H H':Hp}{a C dx a1 a2 a3:Addr}{c:Cf} (h:RcAt H a C dx a1 a2 a3 c) (b:But S H H') (t:jX H H') (hs:∀z∈[a,a1,a2,a3],z∉S):RcAt H' a C dx a1 a2 a3 c:=by
 obtain⟨e,⟨ws,e1,hw⟩,e2,e3,ne,w⟩:=h
 exact⟨b _ _ (hs _ (by simp)) e,⟨ws,b _ _ (hs _ (by simp)) e1,hw.tups t⟩,b _ _ (hs _ (by simp)) e2,b _ _ (hs _ (by simp)) e3,ne,w⟩
section
variable {CS CR:Addr}{kr:List (Key×V)}{rm:Rm}{y:Str}{r:R}{kn kn':Kn}{A:SeD}{H H':Hp}
theorem wI.move {S:List Addr} (h:wI CS CR kr rm y r kn A H) (b:But S H H') (t:jX H H') (hs:∀z∈A.ft,z∉S):wI CS CR kr rm y r kn A H':=by
 obtain⟨c,h1,h2⟩:=h.c
 exact⟨b _ _ (hs _ (by simp[SeD.ft])) h.e,h.hr.tups t,⟨c,h1.move b t fun z hz=>hs z (by
  have:z=A.rk\/z=A.a1\/z=A.a2\/z=A.a3:=by simpa using hz
  unfold SeD.ft
  rcases this with rfl | rfl | rfl | rfl<;>simp),h2⟩,h.f.at fun o e=>b _ _ (hs _ (by simp[SeD.ft])) e,h.n1,h.n2,h.n3⟩
theorem wI.le (h:wI CS CR kr rm y r kn A H) (l:Kn.Le kn kn'):wI CS CR kr rm y r kn' A H:=by
 obtain⟨c,h1,h2⟩:=h.c
 exact⟨h.e,h.hr,⟨c,h1,h2.le l⟩,h.f.le l,h.n1,h.n2,h.n3⟩
def V5 (H:Hp) (CR:Addr) (kr:List (Key×V)) (rm:Rm) (y:Str) (r:R) (kn:Kn) (A:SeD):Prop:=
 (∃rb ps v,H A.fl=some (.lst [.ref rb])/\dI kr (.inr y)=some (.ref rb)/\rm y=some (r,ps,v)/\∀p∈ps,kn p.1=some p.2)\/
 (H A.fl=some (.lst [])/\KD rm y r kn/\∃c v,RcAt H A.rk CR A.dxr A.a1 A.a2 A.a3 c/\c.found=[v]/\qF r kn0 c.rds v/\Rows kn c.rds)
end
def NK (CS CR:Addr):Sp:=fun vs H Q _=>∃(a dx b fl:Addr) (r:R),vs=[.ref a, .ref b, .ref fl]/\H a=some (.ins CS dx [])/\IsR H b r/\wR r<=4000/\
 ∀(A:SeD) H',But [a] H H'->A.s=a->A.b=b->A.fl=fl->A.k=0->H' a=some (.ins CS A.dx (seF b fl 0 A.rk))->RcAt H' A.rk CR A.dxr A.a1 A.a2 A.a3 ⟨[.r r],[],[]⟩->(∀z∈[A.rk,A.a1,A.a2,A.a3],H z=none)->Q .non H'
def aaf (CS:Addr):Sp:=fun vs H Q _=>∃(s dx b fl rk rb br l:Addr) (k:Nat) (as:List Addr) (ps:List Rdp) (v w u:Int) (x:Str),vs=[.ref s, .int w]/\H s=some (.ins CS dx (seF b fl k rk))/\H fl=some (.lst [.ref rb])/\H rb=some (.tup [.ref br, .ref l, .int v])/\H l=some (.lst (as.map V.ref))/\gM H as ps/\ps[k]? =some (x,u)/\
 ∀fl' H',But [s] H H'->H fl'=none->H' s=some (.ins CS dx (seF b fl' (k+1) rk))->H' fl'=some (.lst (if u=w then [.ref rb] else []))->Q .non H'
def NP (CS CR:Addr):Sp:=fun vs H Q _=>∃(A:SeD) (d:Addr) (kr:List (Key×V)) (n:Nat) (rm:Rm) (y:Str) (r:R) (kn:Kn),vs=[.ref A.s, .ref d]/\wI CS CR kr rm y r kn A H/\p6 H kr n rm/\n<=17/\VB H d kn/\d≠A.a3/\r.T3/\
 ∀(A':SeD) H',But A.ft H H'->A'.s=A.s->A'.b=A.b->A'.rk=A.rk->A'.a1=A.a1->A'.a2=A.a2->A'.a3=A.a3->(A'.fl=A.fl\/H A'.fl=none)->wI CS CR kr rm y r kn A' H'->
  (V5 H' CR kr rm y r kn A'->Q .non H')/\∀x,kn x=none->yw kn r x->Q (.str x) H'
theorem NQ {r:R}:∀{ps:List Rdp}{kn:Kn}{k:Nat}{x:Str}{u:Int},Chn r kn ps->ps[k]? =some (x,u)->Chn r kn (ps.take k)/\ev (kn.puts (ps.take k)) r= .inl x
 |[],_,_,_,_,_,h=>by simp at h
 | p::ps,kn,0,x,u,c,h=>by cases h;exact⟨trivial,c.1⟩
 | p::ps,kn,k+1,x,u,c,h=>by
   obtain⟨h1,h2⟩:=NQ (ps:=ps) (k:=k) c.2 (by simpa using h)
   exact⟨⟨c.1,h1⟩,h2⟩
theorem Qt {r:R}{ps:List Rdp}{kn:Kn}{k:Nat}{x:Str}{u:Int} (c:Chn r kn0 ps) (h:ps[k]? =some (x,u)) (he:∀(j:Nat) p,j<k->ps[j]? =some p->kn p.1=some p.2):yw kn r x:=by
 obtain⟨h1,h2⟩:=NQ c h
 refine⟨ps.take k,h1,h2,fun p hp=> ?_, ?_⟩
 ·obtain⟨j,hj⟩:=List.getElem?_of_mem hp
  rw[List.getElem?_take] at hj
  split at hj
  ·exact he j p (by assumption) hj
  ·cases hj
 ·rw[List.map_take]
  exact((zK c).2).sublist (List.take_sublist _ _)
theorem NT {H:Hp}:∀{as:List Addr}{ps:List Rdp},as.length=ps.length->(∀(j:Nat) (b:Addr) (p:Rdp),as[j]? =some b->ps[j]? =some p->H b=some (.tup (rdV p)))->gM H as ps
 |[],[],_,_=> .nil
 | a::as,p::ps,hl,h=> .cons (h 0 a p rfl rfl) (NT (by simpa using hl) fun j b q h1 h2=>h (j+1) b q (by simpa using h1) (by simpa using h2))
 |[],_::_,hl,_=>by simp at hl
 | _::_,[],hl,_=>by simp at hl
def Rcd (rm:Rm) (y:Str) (r:R) (kn:Kn) (ps:List Rdp) (v:Int) (made:Bool):Prop:=
 qF r kn0 ps v/\Rows kn ps/\if made=true then KD rm y r kn else rm y=some (r,ps,v)
def V6 (CS CR:Addr):Sp:=fun vs H Q _=>∃(A:SeD) (kr:List (Key×V)) (n:Nat) (rm:Rm) (y:Str) (r:R) (kn:Kn),vs=[.ref A.s]/\H A.s=some (.ins CS A.dx (seF A.b A.fl A.k A.rk))/\p6 H kr n rm/\n<=17/\V5 H CR kr rm y r kn A/\
 ∀(rb l:Addr) (as:List Addr) (ps:List Rdp) (v:Int) (made:Bool) (H':Hp),aQ H H'->H' rb=some (.tup [.ref A.b, .ref l, .int v])->H l=none->H' l=some (.lst (as.map V.ref))->gM H' as ps->Rcd rm y r kn ps v made->(∃xs,H' A.fl=some (.lst xs)/\decide (xs.length=0)=made)->Q (.ref rb) H'
end RB
set_option maxRecDepth 100000
namespace L2
open PySem PySem.Spec PyProof.Rows RB
theorem NZ {P:Program}{w:World} (d:Addr) (od:Obj) (hl:(d==sysModules)=false) (hc:od.cls= .type "dict"):
 MeetsIn P w (Builtin.«dict.items» ⟨[.ref d],[]⟩)
  (fun A R s=>s.heap.get? d=some od/\R (.ok (.ret (.ref s.heap.objs.size))) ⟨s.heap.push {cls:= .type "dict_items",data:= .fields #[.ref d]},s.gens,s.drawn,s.toks,s.os⟩):=by
 intro A R s z
 obtain⟨hp,g,dr,tk,os⟩:=s
 obtain⟨z1,z⟩:=z
 obtain⟨c,dd,da,sl⟩:=od
 simp only at hc
 subst hc
 wp_walk
 exact z
theorem Inv.more {X:Cx}{pins:List (Addr×Obj)}{σ:St}{H H':Hp}{s:Shared}{h':Heap}{t':Nat} (I:Inv X pins σ H s) (k:∀b u,s.heap.get? b=some u->h'.get? b=some u) (sm:aQ H H')
 (new:∀a o,H' a=some o->H a=some o\/(s.heap.objs.size<=a/\fJ X.prog X.w H' h' a o)):Inv X pins σ H' {s with heap:=h',toks:=t'}:=by
 refine I.un ⟨fun b u q _ _ _=>k b u q,fun b u q _ _ _=>⟨u.slots,k b u q⟩,fun b u q n _=> ?_,fun b u q _=>⟨u,k b u q⟩,fun b xs q=>sm _ _ q,fun b u xs q=>sm _ _ q,fun b ps q=>⟨#[],by rw[sm _ _ q];simp⟩⟩ fun a o e=> ?_
 ·cases e:H' b with
  | none=>rfl
  | some o=>
    rcases new b o e with z | ⟨z,_⟩
    ·rw[n] at z;cases z
    ·exact absurd (Nat.lt_of_lt_of_le (Heap.lt_size q) z) (Nat.lt_irrefl _)
 ·rcases new a o e with z | ⟨_,z⟩
  ·exact(I.hok a o z).stay (fun c v _ q=>k c v q) (fun c q=>sm _ _ q) fun c xs q=>sm _ _ q
  ·exact z
def mkH:List Addr->List (Key×V)->Hp->Hp
 | a::as,kv::kvs,H=>upd (mkH as kvs H) a (.tup [kV kv.1,kv.2])
 | _,_,H=>H
theorem RQ:∀{as:List Addr}{kvs:List (Key×V)}{H:Hp}{b:Addr},b∉as->mkH as kvs H b=H b
 |[],_,_,_,_=>by cases ‹List (Key×V)›<;>rfl
 | a::as,[],_,_,_=>rfl
 | a::as,kv::kvs,H,b,h=>by
   show upd (mkH as kvs H) a _ b=_
   rw[aq (fun z=>h (by simp[z]))]
   exact RQ fun z=>h (by simp[z])
theorem V7:∀{as:List Addr}{kvs:List (Key×V)}{H:Hp}{j:Nat}{a:Addr}{kv:Key×V},as.Nodup->as[j]? =some a->kvs[j]? =some kv->mkH as kvs H a=some (.tup [kV kv.1,kv.2])
 |[],_,_,_,_,_,_,h,_=>by simp at h
 | a::as,[],_,_,_,_,_,_,h=>by simp at h
 | a::as,kv::kvs,H,0,b,kv',_,h1,h2=>by
   cases h1;cases h2
   exact ao
 | a::as,kv::kvs,H,j+1,b,kv',nd,h1,h2=>by
   rw[List.nodup_cons] at nd
   have hb:b∈as:=List.mem_of_getElem? (by simpa using h1)
   show upd (mkH as kvs H) a _ b=_
   rw[aq (fun z:b=a=>nd.1 (by rw[<-z];exact hb))]
   exact V7 nd.2 (by simpa using h1) (by simpa using h2)
theorem RT:∀{as:List Addr}{kvs:List (Key×V)}{H:Hp}{b:Addr}{o:HO},as.Nodup->mkH as kvs H b=some o->(b∉as/\H b=some o)\/(∃(j:Nat) (kv:Key×V),as[j]? =some b/\kvs[j]? =some kv/\o= .tup [kV kv.1,kv.2])\/(H b=some o)
 |[],kvs,H,b,o,_,h=> .inl ⟨by simp,by cases kvs<;>exact h⟩
 | a::as,[],H,b,o,_,h=> .inr (.inr h)
 | a::as,kv::kvs,H,b,o,nd,h=>by
   rw[List.nodup_cons] at nd
   have h:upd (mkH as kvs H) a _ b=some o:=h
   by_cases z:b=a
   ·subst z
    rw[ao] at h;cases h
    exact .inr (.inl ⟨0,kv,rfl,rfl,rfl⟩)
   ·rw[aq z] at h
    rcases RT nd.2 h with⟨h1,h2⟩ | ⟨j,kv',h1,h2,h3⟩ | h1
    ·exact .inl ⟨by simp[z,h1],h2⟩
    ·exact .inr (.inl ⟨j+1,kv',by simpa using h1,by simpa using h2,h3⟩)
    ·exact .inr (.inr h1)
def ae2 (to:TE):TE:=fun σ H Q=>to σ H fun x H1=>∃a kvs,x= .ref a/\H1 a=some (.dK kvs)/\∀(l:Addr) (as:List Addr) (H':Hp),aQ H1 H'->H1 l=none->H' l=some (.lst (as.map V.ref))->as.length=kvs.length->(∀(j:Nat) (b:Addr) (kv:Key×V),as[j]? =some b->kvs[j]? =some kv->H' b=some (.tup [kV kv.1,kv.2]))->Q (.ref l) H'
theorem ab6 {X:Cx}{o:Expr}{to:TE}{p apos cpos pos:Pos} (hc:X.calm=true) (ho:PE X o to) (hg:Gl X "list") (hm:X.mg "list"=none) (hv:bootBuiltins "list"=some (.type "list"))
 (hbase:attributeBase o "items" X.env (eval o X.env)=eval o X.env:=by rfl) (hline:(apos.endLine==cpos.line)=true:=by rfl)
 (he:starEach [.Call (.Attribute o "items" apos) [] [] cpos] X.env=(false,eval (.Call (.Attribute o "items" apos) [] [] cpos) X.env)::starEach [] X.env:=by rfl) (hpl:(backTo pos (starEach [] X.env)).any (·.1)=false:=by rfl):
 PE X (.Call (.Name "list" p) [.Call (.Attribute o "items" apos) [] [] cpos] [] pos) (ae2 to):=by
 intro pins s σ H Q I h
 refine wpAny_Call_Name_kw (Be I hg hm hv ?_ (by decide) (by decide))
 refine PyProof.Rows.callWith_type1 ?_ he hpl
 rw[he]
 show wpAny _ _ (spliced ((false,eval (.Call (.Attribute o "items" apos) [] [] cpos) X.env)::backTo pos (starEach [] X.env))) _ _ s
 refine Calls.spliced_cons ?_
 refine wpAny_Call_method0_late hbase hline (thn (ho pins s σ H _ I h) fun v s1 ⟨x,H1,I1,r1,a,kvs,ex,ha,q⟩=> ?_)
 subst ex
 obtain rfl:v=Value.ref a:=r1
 obtain⟨t1,t2,hlo⟩:=K6 I1 (.inl ⟨kvs, .inl ha⟩)
 refine⟨"dict","dict.items",PySem.F.plainAttrs_dict,PySem.F.slot_dict_items,PySem.F.type_dict_items,t1,t2,Calls.callWith_builtin rfl (PySem.evalArgs_none ?_)⟩
 obtain⟨hz,_,vs,hkv,hd⟩:=Km I1.hok ha
 obtain⟨ep,hat⟩:=hd.dictAt
 obtain⟨od,hod,hocls⟩:=id t1
 refine call_meetsIn PySem.F.slot_dict_items t1 PySem.F.entry_dict_items (PySem.F.args_dict_items_1 _) (NZ a od hlo hocls) ⟨hod, ?_⟩
 show wpAny (model X.prog X.w) X.A (spliced []) _ X.xe _
 refine Calls.spliced_nil ?_
 have hk1:∀b u,s1.heap.get? b=some u->(s1.heap.push {cls:= .type "dict_items",data:= .fields #[.ref a]}).get? b=some u:=fun b u e=>Heap.get?_push_of_some _ e
 have hsz:(s1.heap.push {cls:= .type "dict_items",data:= .fields #[.ref a]}).objs.size=s1.heap.objs.size+1:=by simp[Heap.push]
 obtain⟨_,_,vs',hkv',hd'⟩:=Km (I1.hok.kept hk1) ha
 obtain⟨ep',hat'⟩:=hd'.dictAt
 obtain⟨hvl,hvk⟩:=Aw hkv'
 have hview:(s1.heap.push {cls:= .type "dict_items",data:= .fields #[.ref a]}).IsItemsView s1.heap.objs.size a:=⟨_,Heap.get?_push_size _ rfl,rfl,rfl⟩
 refine PySem.W.kdx_call (I1.ok.hd hc) hview hat' (by rw[<-hvl];exact hz) fun h' tk acc c as kp e hlen hG hacc=> ?_
 have hal:as.length=kvs.length:=hlen.trans hvl.symm
 have hnd:as.Nodup:=hG.rise.imp fun z=>Nat.ne_of_lt z
 have hlow:∀b∈as,s1.heap.objs.size+1<b:=fun b hb=>by rw[<-hsz];exact hG.above b hb
 have hfresh:∀{b:Addr}{o:HO},H1 b=some o->@LT.lt Nat _ b s1.heap.objs.size:=fun{b o} e=>I1.hok.lt e
 have hl:(s1.heap.push {cls:= .type "dict_items",data:= .fields #[.ref a]}).objs.size∉as:=fun z=>by have:=hlow _ z;rw[hsz] at this;exact absurd this (Nat.lt_irrefl _)
 have sm:aQ H1 (upd (mkH as kvs H1) (s1.heap.push {cls:= .type "dict_items",data:= .fields #[.ref a]}).objs.size (.lst (as.map V.ref))):=fun b o eb=>by
  have h1:@LT.lt Nat _ b s1.heap.objs.size:=hfresh eb
  have n1:b∉as:=fun z=>absurd (Nat.lt_trans h1 (Nat.lt_of_succ_lt (hlow b z))) (Nat.lt_irrefl _)
  rw[aq (by rw[hsz];exact Nat.ne_of_lt (Nat.lt_succ_of_lt h1)),RQ n1];exact eb
 have hpairs:∀(j:Nat) (b:Addr) (kv:Key×V),as[j]? =some b->kvs[j]? =some kv->mkH as kvs H1 b=some (.tup [kV kv.1,kv.2]):=fun j b kv h1 h2=>V7 hnd h1 h2
 have hne:∀{b:Addr},b∈as->b≠(s1.heap.push {cls:= .type "dict_items",data:= .fields #[.ref a]}).objs.size:=fun hb z=>hl (z▸hb)
 refine⟨.ref _,_,I1.more (t':=tk) (fun b u eb=>kp b u (hk1 b u eb)) sm (fun b o eb=> ?_),rfl,q _ as _ sm (I1.hok.fresh (by rw[hsz];omega)) ao hal fun j b kv h1 h2=> ?_⟩
 ·by_cases z:b=(s1.heap.push {cls:= .type "dict_items",data:= .fields #[.ref a]}).objs.size
  ·subst z
   rw[ao] at eb;cases eb
   refine .inr ⟨by rw[hsz];omega,by rw[List.length_map,hal];exact hz,acc.toList,c, ?_,by simpa using e⟩
   rw[hacc]
   clear e hacc q sm hpairs hG hlow hnd hal hlen hl hne
   induction as with
   | nil=>exact .nil
   | cons x as ih=>exact .cons rfl ih
  ·rw[aq z] at eb
   rcases RT hnd eb with⟨_,h2⟩ | ⟨j,kv,h1,h2,h3⟩ | h1
   ·exact .inl h2
   ·subst h3
    have hbm:=List.mem_of_getElem? h1
    have:=hlow b hbm
    obtain⟨key,k,x,e1,e2,e3⟩:=hG.pairs j b h1
    obtain⟨y,ey,ry⟩:=Lp hkv' j k x e1
    rw[h2] at ey
    cases ey
    exact .inr ⟨by omega,by show 2<=sizeLine;decide,[key,x], .cons (Ln e2) (.cons ry .nil),⟨_,e3,rfl,_,rfl⟩⟩
   ·exact .inl h1
 ·rw[aq (hne (List.mem_of_getElem? h1))]
  exact hpairs j b kv h1 h2
theorem ab7 {X:Cx}{o:Expr}{to:TE}{p apos cpos pos:Pos} (hc:X.calm=true) (ho:QE X o to) (hg:Gl X "list") (hm:X.mg "list"=none)
 (hbase:attributeBase o "items" X.env (eval o X.env)=eval o X.env:=by rfl) (hline:(apos.endLine==cpos.line)=true:=by rfl)
 (he:starEach [.Call (.Attribute o "items" apos) [] [] cpos] X.env=(false,eval (.Call (.Attribute o "items" apos) [] [] cpos) X.env)::starEach [] X.env:=by rfl) (hpl:(backTo pos (starEach [] X.env)).any (·.1)=false:=by rfl):
 QE X (.Call (.Name "list" p) [.Call (.Attribute o "items" apos) [] [] cpos] [] pos) (ae2 to):=⟨ab6 hc ho.h hg hm CV hbase hline he hpl⟩
end L2
set_option maxRecDepth 100000
namespace RB
open PySem L2 PySem.Spec PyProof.Rows
structure SrD where
 so:Addr
 dx:Addr
 g:Addr
 c:Addr
 o:Addr
 dxo:Addr
 rcd:Addr
 kd:Addr
 sd:Addr
 rd:Addr
def srF (g c o kd sd rd:Addr):List (Str×V):=[("given", .ref g),("recipes", .ref c),("old", .ref o),("known", .ref kd),("settled", .ref sd),("reckoned", .ref rd)]
structure SrC (K:PySem.W.Frag) (C:Addr):Prop where
 cl:Cls K C
 nG:jL K C "given"
 nR:jL K C "recipes"
 nO:jL K C "old"
 nK:jL K C "known"
 nS:jL K C "settled"
 nM:jL K C "reckoned"
theorem yx (g c o kd sd rd:Addr):List.lookup ("given":Str) (srF g c o kd sd rd)=some (.ref g):=rfl
theorem rZ (g c o kd sd rd:Addr):List.lookup ("recipes":Str) (srF g c o kd sd rd)=some (.ref c):=rfl
theorem Jg (g c o kd sd rd:Addr):List.lookup ("old":Str) (srF g c o kd sd rd)=some (.ref o):=rfl
theorem yz (g c o kd sd rd:Addr):List.lookup ("known":Str) (srF g c o kd sd rd)=some (.ref kd):=rfl
theorem su (g c o kd sd rd:Addr):List.lookup ("settled":Str) (srF g c o kd sd rd)=some (.ref sd):=rfl
theorem p7 (g c o kd sd rd:Addr):List.lookup ("reckoned":Str) (srF g c o kd sd rd)=some (.ref rd):=rfl
theorem iw (g c o kd sd rd:Addr):List.lookup ("begin":Str) (srF g c o kd sd rd)=none/\List.lookup ("end":Str) (srF g c o kd sd rd)=none/\List.lookup ("made":Str) (srF g c o kd sd rd)=none/\List.lookup ("kept":Str) (srF g c o kd sd rd)=none/\List.lookup ("settle":Str) (srF g c o kd sd rd)=none:=⟨rfl,rfl,rfl,rfl,rfl⟩
theorem Ft (rcd:Addr):List.lookup ("records_for":Str) (nrF rcd)=none/\List.lookup ("put_made":Str) (nrF rcd)=none:=⟨rfl,rfl⟩
def Mu (H:Hp) (z:Addr):Prop:=∃o,H z=some o/\∀xs,o≠ .tup xs
def ae3:Option HO->Option HO->Option HO
 | some (.tup xs),_=>some (.tup xs)
 | _,d=>d
def grow (Hf H H1:Hp):Hp:=fun a=>if H a=none then H1 a else ae3 (H1 a) (Hf a)
theorem Yq {Hf H H1:Hp} (s0:aQ Hf H) (s1:aQ H H1):aQ Hf (grow Hf H H1):=fun a o e=>by
 have h0:=s0 _ _ e
 have h1:=s1 _ _ h0
 unfold grow
 rw[if_neg (by rw[h0];simp),h1]
 cases o<;>first | exact e | rfl
theorem Yr {Hf H H1:Hp} (s0:aQ Hf H) (s1:aQ H H1):aQ (grow Hf H H1) H1:=fun a o e=>by
 unfold grow at e
 split at e
 ·exact e
 ·cases h1:H1 a with
  | none=>
    rw[h1] at e
    have e:Hf a=some o:=e
    have:=s1 _ _ (s0 _ _ e)
    rw[h1] at this;cases this
  | some u=>
    rw[h1] at e
    cases u with
    | tup xs=>exact e
    | _=>
      have e:Hf a=some o:=e
      have:=s1 _ _ (s0 _ _ e)
      rw[h1] at this;exact this
theorem TV {Hf H H1:Hp}:jX H1 (grow Hf H H1):=fun a xs e=>by
 unfold grow
 split
 ·exact e
 ·rw[e];rfl
theorem V8 {Hf H H1:Hp}{a:Addr} (h:H a=none):grow Hf H H1 a=H1 a:=by unfold grow;rw[if_pos h]
theorem Hu {Hf H H1:Hp} (s1:aQ H H1) {z:Addr} (m:Mu H z) (hz:Hf z=none):grow Hf H H1 z=none:=by
 obtain⟨o,e,n⟩:=m
 have h1:=s1 _ _ e
 unfold grow
 rw[if_neg (by rw[e];simp),h1]
 cases o with
 | tup xs=>exact absurd rfl (n xs)
 | _=>exact hz
structure SrH (CSe CN:Addr) (D:SrD) (n:Nat) (gv:Kn) (rc:Rn) (kg kc kr:List (Key×V)) (rm:Rm) (Hf:Hp):Prop where
 e:Hf D.so=some (.ins CSe D.dx (srF D.g D.c D.o D.kd D.sd D.rd))
 eg:Hf D.g=some (.dK kg)
 ec:Hf D.c=some (.dK kc)
 bd:Bld Hf kg kc n gv rc
 eo:Hf D.o=some (.ins CN D.dxo (nrF D.rcd))
 er:Hf D.rcd=some (.dK kr)
 rD:p6 Hf kr n rm
 n17:n<=17
 ne:D.kd≠D.sd/\D.kd≠D.rd/\D.sd≠D.rd
theorem SrH.same {CSe CN:Addr}{D:SrD}{n:Nat}{gv:Kn}{rc:Rn}{kg kc kr:List (Key×V)}{rm:Rm}{Hf H:Hp} (h:SrH CSe CN D n gv rc kg kc kr rm Hf) (s:aQ Hf H):SrH CSe CN D n gv rc kg kc kr rm H:=
 ⟨s _ _ h.e,s _ _ h.eg,s _ _ h.ec,h.bd.tups (aQ.tups s),s _ _ h.eo,s _ _ h.er,h.rD.map fun _ _ z=>z.same s,h.n17,h.ne⟩
structure vp (D:SrD) (n:Nat) (gv:Kn) (rc:Rn) (rm:Rm) (kn:Kn) (rmN:Rm) (rkn:Str->Bool) (Hf H:Hp):Prop where
 sm:aQ Hf H
 fk:Hf D.kd=none
 fs:Hf D.sd=none
 fr:Hf D.rd=none
 ek:∃kw ws,H D.kd=some (.dK kw)/\mJ kw ws/\∀x,dI kw (.inr x)=(kn x).map V.int
 es:∃ks,H D.sd=some (.dK ks)/\p6 Hf ks n rmN
 er:∃kk rs,H D.rd=some (.dK kk)/\mJ kk rs/\(∀x,dI kk (.inr x)=if rkn x=true then some (.bl true) else none)/\∀x,rkn x=true->rmN x≠none
 ok:zR n gv rc kn rmN
 md:∀x r ps v,rmN x=some (r,ps,v)->Rcd rm x r kn ps v (rkn x)
theorem Rcd.le {rm:Rm}{y:Str}{r:R}{kn kn':Kn}{ps:List Rdp}{v:Int}{m:Bool} (h:Rcd rm y r kn ps v m) (l:Kn.Le kn kn'):Rcd rm y r kn' ps v m:=by
 obtain⟨h1,h2,h3⟩:=h
 refine⟨h1,h2.le l, ?_⟩
 cases m with
 | true=>rw[if_pos rfl] at h3 ⊢;exact h3.le l
 | false=>exact h3
theorem vp.kl {D:SrD}{n:Nat}{gv:Kn}{rc:Rn}{rm:Rm}{kn:Kn}{rmN:Rm}{rkn:Str->Bool}{Hf H:Hp} (h:vp D n gv rc rm kn rmN rkn Hf H) {kw:List (Key×V)}{ws:List Str} (k:mJ kw ws) (hk:∀x,dI kw (.inr x)=(kn x).map V.int):kw.length<=n:=by
 rw[k.len,<-lG n]
 refine ju k.nd fun x hx=> ?_
 cases e:kn x with
 | none=>exact absurd hx (k.none.mp (by rw[hk,e];rfl))
 | some v=>exact(h.ok.a x v e).1
inductive Rch (gv:Kn) (rc:Rn) (kn:Kn) (x:Str):Str->Prop where
 | refl:Rch gv rc kn x x
 | step {y z:Str}{r:R} (h:Rch gv rc kn x y) (hg:gv y=none) (hr:rc y=some r) (hs:yw kn r z):Rch gv rc kn x z
theorem yw.le {kn kn':Kn}{r:R}{x:Str} (h:yw kn r x) (l:Kn.Le kn kn'):yw kn' r x:=let ⟨ps,a,b,c⟩:=h;⟨ps,a,b,c.le l⟩
theorem Rch.le {gv:Kn}{rc:Rn}{kn kn':Kn}{x y:Str} (h:Rch gv rc kn x y) (l:Kn.Le kn kn'):Rch gv rc kn' x y:=by
 induction h with
 | refl=>exact .refl
 | step _ hg hr hs ih=>exact .step ih hg hr (hs.le l)
def N5 (CSe:Addr):Sp:=fun vs H Q _=>∃(a dx h g c o:Addr),vs=[.ref a, .ref h, .ref o]/\H a=some (.ins CSe dx [])/\H h=some (.tup [.ref g, .ref c])/\
 ∀kd sd rd H',But [a] H H'->H' a=some (.ins CSe dx (srF g c o kd sd rd))->H kd=none->H sd=none->H rd=none->kd≠sd->kd≠rd->sd≠rd->H' kd=some (.dK [])->H' sd=some (.dK [])->H' rd=some (.dK [])->Q .non H'
def RV (CSe CN CS CR:Addr):Sp:=fun vs H Q _=>∃(D:SrD) (n:Nat) (gv:Kn) (rc:Rn) (kg kc kr:List (Key×V)) (rm:Rm) (y:Str) (r:R),vs=[.ref D.so, .str y]/\SrH CSe CN D n gv rc kg kc kr rm H/\rc y=some r/\
 ∀(A:SeD) H',aQ H H'->(∀z∈A.ft,H z=none)->(∀kn,wI CS CR kr rm y r kn A H')->Q (.ref A.s) H'
def V9 (CSe CN CS CR:Addr):Sp:=fun vs H Q _=>∃(D:SrD) (n:Nat) (gv:Kn) (rc:Rn) (kg kc kr:List (Key×V)) (rm:Rm) (kn:Kn) (rmN:Rm) (rkn:Str->Bool) (Hf:Hp) (A:SeD) (y:Str) (r:R),vs=[.ref D.so, .str y, .ref A.s]/\SrH CSe CN D n gv rc kg kc kr rm Hf/\vp D n gv rc rm kn rmN rkn Hf H/\
 H A.s=some (.ins CS A.dx (seF A.b A.fl A.k A.rk))/\IsR H A.b r/\V5 H CR kr rm y r kn A/\kn y=none/\gv y=none/\rc y=some r/\y∈nmK n/\(∀z∈A.ft,z∉[D.kd,D.sd,D.rd])/\
 ∀(v:Int) (ps:List Rdp) (made:Bool) (Hf' H':Hp),But [D.kd,D.sd,D.rd] H H'->aQ Hf Hf'->(∀z,Mu H z->Hf z=none->Hf' z=none)->vp D n gv rc rm (kn.put y v) (rmN.put y (r,ps,v)) (fun x=>if x=y then made else rkn x) Hf' H'->Q .non H'
def N6 (CSe CN:Addr):Sp:=fun vs H Q _=>∃(D:SrD) (n:Nat) (gv:Kn) (rc:Rn) (kg kc kr:List (Key×V)) (rm:Rm) (kn:Kn) (rmN:Rm) (rkn:Str->Bool) (Hf:Hp) (x:Str),vs=[.ref D.so, .str x]/\SrH CSe CN D n gv rc kg kc kr rm Hf/\vp D n gv rc rm kn rmN rkn Hf H/\x∈nmK n/\
 ∀(kn':Kn) (N7:Rm) (rkn':Str->Bool) (Hf' H':Hp),But [D.kd,D.sd,D.rd] H H'->aQ Hf Hf'->(∀z,Mu H z->Hf z=none->Hf' z=none)->vp D n gv rc rm kn' N7 rkn' Hf' H'->Kn.Le kn kn'->kn' x≠none->(∀y,kn' y≠none->kn y≠none\/Rch gv rc kn' x y)->Q .non H'
def Qu (kn:Kn) (n:Nat):Nat:=((List.range n).filter fun i=>(kn (ak i)).isNone).length
theorem KH {p p':Nat->Bool}:∀{l:List Nat},(∀j∈l,p' j=true->p j=true)->∀{i:Nat},i∈l->p i=true->p' i=false->(l.filter p').length+1<=(l.filter p).length
 |[],_,i,hi,_,_=>by cases hi
 | a::l,h,i,hi,h1,h2=>by
   have hle:∀l:List Nat,(∀j∈l,p' j=true->p j=true)->(l.filter p').length<=(l.filter p).length:=by
    intro l
    induction l with
    | nil=>intro _;exact Nat.le_refl _
    | cons b l ih=>
      intro h
      have ih:=ih fun j hj=>h j (by simp[hj])
      rw[List.filter_cons,List.filter_cons]
      by_cases hb:p' b=true
      ·rw[if_pos hb,if_pos (h b (by simp) hb)];simp;exact ih
      ·rw[if_neg hb]
       split
       ·simp;omega
       ·exact ih
   rcases List.mem_cons.mp hi with z | z
   ·subst z
    rw[List.filter_cons,List.filter_cons,if_neg (by rw[h2];decide),if_pos h1]
    have:=hle l fun j hj=>h j (by simp[hj])
    simp;exact this
   ·have ih:=KH (l:=l) (fun j hj=>h j (by simp[hj])) z h1 h2
    rw[List.filter_cons,List.filter_cons]
    by_cases hb:p' a=true
    ·rw[if_pos hb,if_pos (h a (by simp) hb)];simp;exact ih
    ·rw[if_neg hb]
     split
     ·simp;omega
     ·exact ih
theorem Jh {kn:Kn}{n i:Nat}{v:Int} (hi:i<n) (h:kn (ak i)=none):Qu (kn.put (ak i) v) n+1<=Qu kn n:=by
 refine KH (fun j _ hj=> ?_) (List.mem_range.mpr hi) (by simp only[h];rfl) ?_
 ·unfold Kn.put at hj
  by_cases z:ak j=ak i
  ·rw[if_pos z] at hj;cases hj
  ·rw[if_neg z] at hj;exact hj
 ·unfold Kn.put;rw[if_pos rfl];rfl
end RB
set_option maxRecDepth 100000
namespace RB
open PySem L2 PySem.Spec PyProof.Rows
theorem N8 {S:List Addr}{H H':Hp} (b:But S H H') (m:∀z∈S,Mu H z):jX H H':=fun p xs e=>b p _ (fun w=>by
 obtain⟨o,h1,h2⟩:=m p w
 rw[e] at h1;cases h1;exact h2 _ rfl) e
theorem Mu.but {S:List Addr}{H H':Hp}{z:Addr} (m:Mu H z) (b:But S H H') (hz:z∉S):Mu H' z:=let ⟨o,h1,h2⟩:=m;⟨o,b _ _ hz h1,h2⟩
theorem Mu.some {H:Hp}{z:Addr} (m:Mu H z):H z≠none:=let ⟨o,h1,_⟩:=m;by rw[h1];simp
theorem vp.but {D:SrD}{n:Nat}{gv:Kn}{rc:Rn}{rm:Rm}{kn:Kn}{rmN:Rm}{rkn:Str->Bool}{Hf H H':Hp}{S:List Addr} (h:vp D n gv rc rm kn rmN rkn Hf H) (b:But S H H') (hf:∀z∈S,Hf z=none) (hk:D.kd∉S) (hs:D.sd∉S) (hr:D.rd∉S):vp D n gv rc rm kn rmN rkn Hf H':=by
 obtain⟨sm,fk,fs,fr,⟨kw,ws,e1,r1⟩,⟨ks,e2,r2⟩,⟨kk,rs,e3,r3⟩,ok,md⟩:=h
 exact⟨fun z o e=>b z o (fun w=>by rw[hf z w] at e;cases e) (sm z o e),fk,fs,fr,⟨kw,ws,b _ _ hk e1,r1⟩,⟨ks,b _ _ hs e2,r2⟩,⟨kk,rs,b _ _ hr e3,r3⟩,ok,md⟩
theorem vp.same {D:SrD}{n:Nat}{gv:Kn}{rc:Rn}{rm:Rm}{kn:Kn}{rmN:Rm}{rkn:Str->Bool}{Hf H H':Hp} (h:vp D n gv rc rm kn rmN rkn Hf H) (s:aQ H H'):vp D n gv rc rm kn rmN rkn Hf H':=h.but (S:=[]) (But.of_same s) (by simp) (by simp) (by simp) (by simp)
structure BgI (CS CR:Addr) (D:SrD) (pth bgd:Addr) (n:Nat) (gv:Kn) (rc:Rn) (kr:List (Key×V)) (rm:Rm) (kn:Kn) (bg:Str->Option SeD) (Hf H:Hp):Prop where
 e:∃kb ks,H bgd=some (.dK kb)/\mJ kb ks/\∀y,dI kb (.inr y)=(bg y).map fun A=>V.ref A.s
 nm:∀y,bg y≠none->y∈nmK n
 ok:∀y A,bg y=some A->kn y=none->∃r,rc y=some r/\gv y=none/\wI CS CR kr rm y r kn A H
 al:∀y A,bg y=some A->∀z∈A.ft,Mu H z/\Hf z=none/\z∉[pth,bgd,D.kd,D.sd,D.rd]
 dj:∀y y' A A',y≠y'->bg y=some A->bg y'=some A'->∀z∈A.ft,z∉A'.ft
section
variable {CS CR:Addr}{D:SrD}{pth bgd:Addr}{n:Nat}{gv:Kn}{rc:Rn}{kr:List (Key×V)}{rm:Rm}{kn kn':Kn}{bg:Str->Option SeD}{Hf Hf' H H':Hp}
theorem BgI.but {S:List Addr} (h:BgI CS CR D pth bgd n gv rc kr rm kn bg Hf H) (b:But S H H') (t:jX H H') (hb:bgd∉S) (hS:∀y A,bg y=some A->∀z∈A.ft,z∉S):BgI CS CR D pth bgd n gv rc kr rm kn bg Hf H':=by
 obtain⟨⟨kb,ks,e1,e2,e3⟩,nm,ok,al,dj⟩:=h
 exact⟨⟨kb,ks,b _ _ hb e1,e2,e3⟩,nm,fun y A h1 h2=>let ⟨r,a1,a2,a3⟩:=ok y A h1 h2;⟨r,a1,a2,a3.move b t (hS y A h1)⟩,fun y A h1 z hz=>⟨(al y A h1 z hz).1.but b (hS y A h1 z hz),(al y A h1 z hz).2⟩,dj⟩
theorem BgI.same (h:BgI CS CR D pth bgd n gv rc kr rm kn bg Hf H) (s:aQ H H'):BgI CS CR D pth bgd n gv rc kr rm kn bg Hf H':=h.but (S:=[]) (But.of_same s) (aQ.tups s) (by simp) (by simp)
theorem BgI.off {S:List Addr} (h:BgI CS CR D pth bgd n gv rc kr rm kn bg Hf H) (b:But S H H') (m:∀z∈S,Mu H z) (hS:∀z∈S,z∈[pth,D.kd,D.sd,D.rd]) (hb:bgd∉S):BgI CS CR D pth bgd n gv rc kr rm kn bg Hf H':=
 h.but b (N8 b m) hb fun y A h1 z hz w=>(h.al y A h1 z hz).2.2 (by
   have:=hS z w
   simp only[List.mem_cons,List.not_mem_nil,or_false] at this ⊢
   rcases this with q | q | q | q
   ·exact .inl q
   ·exact .inr (.inr (.inl q))
   ·exact .inr (.inr (.inr (.inl q)))
   ·exact .inr (.inr (.inr (.inr q))))
theorem BgI.le (h:BgI CS CR D pth bgd n gv rc kr rm kn bg Hf H) (l:Kn.Le kn kn'):BgI CS CR D pth bgd n gv rc kr rm kn' bg Hf H:=
 ⟨h.e,h.nm,fun y A h1 h2=>by
   have h0:kn y=none:=by
    cases z:kn y with
    | none=>rfl
    | some v=>rw[l y v z] at h2;cases h2
   obtain⟨r,a1,a2,a3⟩:=h.ok y A h1 h0
   exact⟨r,a1,a2,a3.le l⟩,h.al,h.dj⟩
theorem BgI.hf (h:BgI CS CR D pth bgd n gv rc kr rm kn bg Hf H) (f:∀z,Mu H z->Hf z=none->Hf' z=none):BgI CS CR D pth bgd n gv rc kr rm kn bg Hf' H:=
 ⟨h.e,h.nm,h.ok,fun y A h1 z hz=>let ⟨a,b,c⟩:=h.al y A h1 z hz;⟨a,f z a b,c⟩,h.dj⟩
theorem wI.mu {y:Str}{r:R}{A:SeD} (h:wI CS CR kr rm y r kn A H):∀z∈A.ft,Mu H z:=fun z hz=>by
 obtain⟨c,rc',_⟩:=h.c
 have hz:z=A.s\/z=A.fl\/z=A.rk\/z=A.a1\/z=A.a2\/z=A.a3:=by simpa [SeD.ft] using hz
 rcases hz with rfl | rfl | rfl | rfl | rfl | rfl
 ·exact⟨_,h.e,by simp⟩
 ·rcases h.f with⟨rb,ps,v,w1,_⟩ | ⟨w1,_⟩
  ·exact⟨_,w1,by simp⟩
  ·exact⟨_,w1,by simp⟩
 ·exact⟨_,rc'.e,by simp⟩
 ·obtain⟨ws,w1,_⟩:=rc'.e1
  exact⟨_,w1,by simp⟩
 ·exact⟨_,rc'.e2,by simp⟩
 ·exact⟨_,rc'.e3,by simp⟩
def mW (bg:Str->Option SeD) (y:Str) (A:SeD):Str->Option SeD:=fun x=>if x=y then some A else bg x
theorem BgI.new {H1:Hp}{y:Str}{r:R}{A:SeD}{kb:List (Key×V)} (h:BgI CS CR D pth bgd n gv rc kr rm kn bg Hf H) (s:aQ H H1) (hA:∀z∈A.ft,H z=none) (so:wI CS CR kr rm y r kn A H1) (hr:rc y=some r) (hg:gv y=none) (hy:y∈nmK n) (hb:bg y=none)
 (ebd:H bgd=some (.dK kb)) (sf:aQ Hf H) (al:∀z∈[pth,bgd,D.kd,D.sd,D.rd],H z≠none):BgI CS CR D pth bgd n gv rc kr rm kn (mW bg y A) Hf (upd H1 bgd (.dK (putK kb (.inr y) (.ref A.s)))):=by
 have h1:=h.same s
 have eb1:=s _ _ ebd
 have b1:But [bgd] H1 (upd H1 bgd (.dK (putK kb (.inr y) (.ref A.s)))):=But.set _ (by simp)
 have t1:jX H1 (upd H1 bgd (.dK (putK kb (.inr y) (.ref A.s)))):=oW eb1
 have nA:∀z∈A.ft,z∉[pth,bgd,D.kd,D.sd,D.rd]:=fun z hz w=>al z w (hA z hz)
 have nb:∀z∈A.ft,z∉[bgd]:=fun z hz w=>nA z hz (by simp at w ⊢;exact .inr (.inl w))
 obtain⟨⟨kb',ks,e1,e2,e3⟩,nm,ok,al1,dj⟩:=h1
 rw[eb1] at e1;cases e1
 have hyk:y∉ks:=e2.none.mp (by rw[e3,hb];rfl)
 refine⟨⟨_,_,ao,e2.pO hyk _,fun x=> ?_⟩,fun x hx=> ?_,fun x B h1 h2=> ?_,fun x B h1 z hz=> ?_,fun x x' B B' hne h1 h2 z hz=> ?_⟩
 ·rw[iC]
  unfold mW
  by_cases z:x=y
  ·rw[if_pos (by rw[z]),if_pos z];rfl
  ·rw[if_neg (oV z),if_neg z];exact e3 x
 ·unfold mW at hx
  by_cases z:x=y
  ·rw[z];exact hy
  ·rw[if_neg z] at hx;exact nm x hx
 ·unfold mW at h1
  by_cases z:x=y
  ·rw[if_pos z] at h1;cases h1
   rw[z];exact⟨r,hr,hg,so.move b1 t1 nb⟩
  ·rw[if_neg z] at h1
   obtain⟨r',a1,a2,a3⟩:=ok x B h1 h2
   exact⟨r',a1,a2,a3.move b1 t1 fun w hw q=>(al1 x B h1 w hw).2.2 (by simp at q ⊢;exact .inr (.inl q))⟩
 ·unfold mW at h1
  by_cases w:x=y
  ·rw[if_pos w] at h1;cases h1
   refine⟨(so.mu z hz).but b1 (nb z hz), ?_,nA z hz⟩
   cases q:Hf z with
   | none=>rfl
   | some o=>have:=sf _ _ q;rw[hA z hz] at this;cases this
  ·rw[if_neg w] at h1
   obtain⟨a1,a2,a3⟩:=al1 x B h1 z hz
   exact⟨a1.but b1 (fun q=>a3 (by simp at q ⊢;exact .inr (.inl q))),a2,a3⟩
 ·unfold mW at h1 h2
  by_cases w:x=y
  ·rw[if_pos w] at h1;cases h1
   rw[if_neg (fun q=>hne (w.trans q.symm))] at h2
   exact fun q=>((h.al x' B' h2 z q).1.some) (hA z hz)
  ·rw[if_neg w] at h1
   by_cases w':x'=y
   ·rw[if_pos w'] at h2;cases h2
    exact fun q=>((h.al x B h1 z hz).1.some) (hA z q)
   ·rw[if_neg w'] at h2
    exact dj x x' B B' hne h1 h2 z hz
theorem BgI.set {y:Str}{r:R}{A A':SeD} (h:BgI CS CR D pth bgd n gv rc kr rm kn bg Hf H) (hy:bg y=some A) (b:But A.ft H H') (so:wI CS CR kr rm y r kn A' H') (hr:rc y=some r) (hg:gv y=none)
 (es:A'.s=A.s) (erk:A'.rk=A.rk) (e1:A'.a1=A.a1) (e2:A'.a2=A.a2) (e3:A'.a3=A.a3) (efl:A'.fl=A.fl\/H A'.fl=none) (sf:aQ Hf H) (al:∀z∈[pth,bgd,D.kd,D.sd,D.rd],H z≠none):BgI CS CR D pth bgd n gv rc kr rm kn (mW bg y A') Hf H':=by
 have hin:∀z∈A'.ft,z∈A.ft\/H z=none:=fun z hz=>by
  have hz:z=A'.s\/z=A'.fl\/z=A'.rk\/z=A'.a1\/z=A'.a2\/z=A'.a3:=by simpa [SeD.ft] using hz
  rcases hz with w | w | w | w | w | w
  ·exact .inl (by rw[w,es];simp[SeD.ft])
  ·rcases efl with q | q
   ·exact .inl (by rw[w,q];simp[SeD.ft])
   ·exact .inr (by rw[w];exact q)
  ·exact .inl (by rw[w,erk];simp[SeD.ft])
  ·exact .inl (by rw[w,e1];simp[SeD.ft])
  ·exact .inl (by rw[w,e2];simp[SeD.ft])
  ·exact .inl (by rw[w,e3];simp[SeD.ft])
 have mA:∀z∈A.ft,Mu H z:=fun z hz=>(h.al y A hy z hz).1
 have t:=N8 b mA
 have nbg:bgd∉A.ft:=fun z=>(h.al y A hy _ z).2.2 (by simp)
 obtain⟨⟨kb,ks,f1,f2,f3⟩,nm,ok,al1,dj⟩:=h
 refine⟨⟨kb,ks,b _ _ nbg f1,f2,fun x=> ?_⟩,fun x hx=> ?_,fun x B h1 h2=> ?_,fun x B h1 z hz=> ?_,fun x x' B B' hne h1 h2 z hz=> ?_⟩
 ·rw[f3]
  unfold mW
  by_cases z:x=y
  ·rw[if_pos z,z,hy];show some (V.ref A.s)=some (V.ref A'.s);rw[es]
  ·rw[if_neg z]
 ·unfold mW at hx
  by_cases z:x=y
  ·rw[z];exact nm y (by rw[hy];simp)
  ·rw[if_neg z] at hx;exact nm x hx
 ·unfold mW at h1
  by_cases z:x=y
  ·rw[if_pos z] at h1;cases h1
   rw[z];exact⟨r,hr,hg,so⟩
  ·rw[if_neg z] at h1
   obtain⟨r',a1,a2,a3⟩:=ok x B h1 h2
   exact⟨r',a1,a2,a3.move b t fun w hw=>dj x y B A z h1 hy w hw⟩
 ·unfold mW at h1
  by_cases w:x=y
  ·rw[if_pos w] at h1;cases h1
   refine⟨so.mu z hz, ?_, ?_⟩
   ·rcases hin z hz with q | q
    ·exact(al1 y A hy z q).2.1
    ·cases q':Hf z with
     | none=>rfl
     | some o=>have:=sf _ _ q';rw[q] at this;cases this
   ·rcases hin z hz with q | q
    ·exact(al1 y A hy z q).2.2
    ·exact fun w'=>al z w' q
  ·rw[if_neg w] at h1
   obtain⟨a1,a2,a3⟩:=al1 x B h1 z hz
   exact⟨a1.but b (dj x y B A w h1 hy z hz),a2,a3⟩
 ·unfold mW at h1 h2
  by_cases w:x=y
  ·rw[if_pos w] at h1;cases h1
   rw[if_neg (fun q=>hne (w.trans q.symm))] at h2
   rcases hin z hz with q | q
   ·exact dj y x' A B' (fun e=>hne (w.trans e)) hy h2 z q
   ·exact fun w'=>((al1 x' B' h2 z w').1.some) q
  ·rw[if_neg w] at h1
   by_cases w':x'=y
   ·rw[if_pos w'] at h2;cases h2
    intro q
    rcases hin z q with q' | q'
    ·exact dj x y B A w h1 hy z hz q'
    ·exact((al1 x B h1 z hz).1.some) q'
   ·rw[if_neg w'] at h2
    exact dj x x' B B' hne h1 h2 z hz
end
end RB
set_option maxRecDepth 100000
namespace RB
open PySem L2 PySem.Spec PyProof.Rows
theorem RW:∀{is:List Nat}{n:Nat},is.Pairwise (fun a b=>b<a)->(∀i∈is,i<n)->is.length<=n
 |[],n,_,_=>Nat.zero_le _
 | a::l,n,h,hl=>by
   rw[List.pairwise_cons] at h
   have:=RW (is:=l) (n:=a) h.2 h.1
   have:=hl a (by simp)
   simp;omega
theorem yw.in {kn:Kn}{r:R}{x:Str}{ns:List Str} (h:yw kn r x) (hi:r.In ns):x∈ns:=by
 obtain⟨ps,_,e,_⟩:=h
 exact GF hi e
def GK (n:Nat) (kn:Kn) (is:List Nat):Nat:=match is.getLast? with
 | none=>0
 | some i=>if(kn (ak i)).isNone=true then 60 * Qu kn n+20 - is.length else 60 * Qu kn n+30
theorem qb {n:Nat}{kn:Kn}{js:List Nat}{i:Nat} (h:kn (ak i)=none):GK n kn (js++[i])=60 * Qu kn n+20 - (js.length+1):=by
 unfold GK
 rw[List.getLast?_concat]
 simp only[h]
 rw[List.length_append];rfl
theorem zO {n:Nat}{kn:Kn}{js:List Nat}{i:Nat} (h:kn (ak i)≠none):GK n kn (js++[i])=60 * Qu kn n+30:=by
 unfold GK
 rw[List.getLast?_concat]
 simp only
 rw[if_neg]
 intro z
 exact h (Option.isNone_iff_eq_none.mp z)
structure LpI (CSe CN CS CR:Addr) (D:SrD) (pth bgd:Addr) (n:Nat) (gv:Kn) (rc:Rn) (kg kc kr:List (Key×V)) (rm:Rm) (knI:Kn) (HfI HI:Hp) (x:Str) (k0:Nat) (is:List Nat) (kn:Kn) (rmN:Rm) (rkn:Str->Bool) (bg:Str->Option SeD) (Hf H:Hp):Prop where
 b:But [D.kd,D.sd,D.rd] HI H
 sf:aQ HfI Hf
 fm:∀z,Mu HI z->HfI z=none->Hf z=none
 sh:SrH CSe CN D n gv rc kg kc kr rm Hf
 so:vp D n gv rc rm kn rmN rkn Hf H
 ep:H pth=some (.lst (is.map fun i=>V.str (ak i)))
 fp:Hf pth=none
 fb:Hf bgd=none
 ip:HI pth=none
 ib:HI bgd=none
 np:pth∉[D.kd,D.sd,D.rd]
 nb:bgd∉[D.kd,D.sd,D.rd]
 nn:pth≠bgd
 dec:is.Pairwise (fun a b=>b<a)
 lt:∀i∈is,i<n
 un:∀i∈is.dropLast,kn (ak i)=none
 rch:∀i∈is,Rch gv rc kn x (ak i)
 le:Kn.Le knI kn
 new:∀y,kn y≠none->knI y≠none\/Rch gv rc kn x y
 bgi:BgI CS CR D pth bgd n gv rc kr rm kn bg Hf H
 hd:is.head?=some k0\/(is=[]/\kn x≠none)
 fr:∀y A,bg y=some A->∀z∈A.ft,HI z=none
section
variable {CSe CN CS CR:Addr}{D:SrD}{pth bgd:Addr}{n:Nat}{gv:Kn}{rc:Rn}{kg kc kr:List (Key×V)}{rm:Rm}{knI:Kn}{HfI HI:Hp}{x:Str}{k0:Nat}{is js:List Nat}{i:Nat}{kn:Kn}{rmN:Rm}{rkn:Str->Bool}{bg:Str->Option SeD}{Hf H H':Hp}
theorem LpI.len (h:LpI CSe CN CS CR D pth bgd n gv rc kg kc kr rm knI HfI HI x k0 is kn rmN rkn bg Hf H):is.length<=17:=Nat.le_trans (RW h.dec h.lt) h.sh.n17
theorem LpI.al (h:LpI CSe CN CS CR D pth bgd n gv rc kg kc kr rm knI HfI HI x k0 is kn rmN rkn bg Hf H):∀z∈[pth,bgd,D.kd,D.sd,D.rd],Mu H z:=fun z hz=>by
 obtain⟨kb,ks,e1,_⟩:=h.bgi.e
 obtain⟨kw,ws,e2,_⟩:=h.so.ek
 obtain⟨ks',e3,_⟩:=h.so.es
 obtain⟨kk,rs,e4,_⟩:=h.so.er
 have hz:z=pth\/z=bgd\/z=D.kd\/z=D.sd\/z=D.rd:=by simpa using hz
 rcases hz with rfl | rfl | rfl | rfl | rfl
 ·exact⟨_,h.ep,by simp⟩
 ·exact⟨_,e1,by simp⟩
 ·exact⟨_,e2,by simp⟩
 ·exact⟨_,e3,by simp⟩
 ·exact⟨_,e4,by simp⟩
theorem LpI.path {is':List Nat} (h:LpI CSe CN CS CR D pth bgd n gv rc kg kc kr rm knI HfI HI x k0 is kn rmN rkn bg Hf H) (dec:is'.Pairwise (fun a b=>b<a)) (lt:∀i∈is',i<n) (un:∀i∈is'.dropLast,kn (ak i)=none) (rch:∀i∈is',Rch gv rc kn x (ak i)) (hd:is'.head?=some k0\/(is'=[]/\kn x≠none)):
 LpI CSe CN CS CR D pth bgd n gv rc kg kc kr rm knI HfI HI x k0 is' kn rmN rkn bg Hf (upd H pth (.lst (is'.map fun i=>V.str (ak i)))):=by
 have hb:But [pth] H (upd H pth (.lst (is'.map fun i=>V.str (ak i)))):=But.set _ (by simp)
 have np:=h.np
 simp only[List.mem_cons,List.not_mem_nil,or_false,not_or] at np
 refine⟨h.b.upd _ h.ip,h.sf,h.fm,h.sh,h.so.but hb (fun z hz=> ?_) (fun z=>np.1 (List.mem_singleton.mp z).symm) (fun z=> ?_) (fun z=> ?_),ao,h.fp,h.fb,h.ip,h.ib,h.np,h.nb,h.nn,dec,lt,un,rch,h.le,h.new,h.bgi.off hb (fun z hz=> ?_) (fun z hz=> ?_) (fun z=> ?_),hd,h.fr⟩
 ·have:z=pth:=by simpa using hz
  rw[this];exact h.fp
 ·exact np.2.1 (by have:D.sd=pth:=by simpa using z
                   exact this.symm)
 ·exact np.2.2 (by have:D.rd=pth:=by simpa using z
                   exact this.symm)
 ·have:z=pth:=by simpa using hz
  rw[this];exact h.al pth (by simp)
 ·have:z=pth:=by simpa using hz
  rw[this];simp
 ·exact h.nn (by have:bgd=pth:=by simpa using z
                 exact this.symm)
theorem LpI.pop (h:LpI CSe CN CS CR D pth bgd n gv rc kg kc kr rm knI HfI HI x k0 (js++[i]) kn rmN rkn bg Hf H) (hk:kn (ak i)≠none) (ex:x=ak k0):LpI CSe CN CS CR D pth bgd n gv rc kg kc kr rm knI HfI HI x k0 js kn rmN rkn bg Hf (upd H pth (.lst (js.map fun i=>V.str (ak i)))):=by
 have un:=h.un
 rw[List.dropLast_concat] at un
 refine h.path (h.dec.sublist (List.sublist_append_left _ _)) (fun j hj=>h.lt j (by simp[hj])) (fun j hj=>un j ((List.dropLast_sublist _).subset hj)) (fun j hj=>h.rch j (by simp[hj])) ?_
 rcases h.hd with z | ⟨z,_⟩
 ·cases js with
  | nil=>
    right
    have:i=k0:=by simpa using z
    exact⟨rfl,by rw[ex,<-this];exact hk⟩
  | cons a js=>left;simpa using z
 ·simp at z
theorem LpI.push {j:Nat}{r:R} (h:LpI CSe CN CS CR D pth bgd n gv rc kg kc kr rm knI HfI HI x k0 (js++[i]) kn rmN rkn bg Hf H) (hk:kn (ak i)=none) (hji:j<i) (hg:gv (ak i)=none) (hr:rc (ak i)=some r) (hs:yw kn r (ak j)):LpI CSe CN CS CR D pth bgd n gv rc kg kc kr rm knI HfI HI x k0 (js++[i]++[j]) kn rmN rkn bg Hf (upd H pth (.lst ((js++[i]++[j]).map fun i=>V.str (ak i)))):=by
 have hi:=h.lt i (by simp)
 have un:=h.un
 rw[List.dropLast_concat] at un
 have dec:=h.dec
 rw[List.pairwise_append] at dec
 refine h.path ?_ (fun k hk=> ?_) (fun k hk'=> ?_) (fun k hk'=> ?_) ?_
 ·rw[List.pairwise_append]
  refine⟨h.dec,by simp,fun a ha b hb=> ?_⟩
  have hb:b=j:=by simpa using hb
  rw[hb]
  rcases List.mem_append.mp ha with z | z
  ·exact Nat.lt_trans hji (dec.2.2 a z i (by simp))
  ·have:a=i:=by simpa using z
   rw[this];exact hji
 ·rcases List.mem_append.mp hk with z | z
  ·exact h.lt k z
  ·have:k=j:=by simpa using z
   rw[this];omega
 ·rw[List.dropLast_concat] at hk'
  rcases List.mem_append.mp hk' with z | z
  ·exact un k z
  ·have:k=i:=by simpa using z
   rw[this];exact hk
 ·rcases List.mem_append.mp hk' with z | z
  ·exact h.rch k z
  ·have:k=j:=by simpa using z
   rw[this];exact .step (h.rch i (by simp)) hg hr hs
 ·left
  rcases h.hd with z | ⟨z,_⟩
  ·cases js with
   | nil=>simpa using z
   | cons a js=>simpa using z
  ·simp at z
theorem LpI.know {kn':Kn}{N7:Rm}{rkn':Str->Bool}{Hf':Hp} (h:LpI CSe CN CS CR D pth bgd n gv rc kg kc kr rm knI HfI HI x k0 (js++[i]) kn rmN rkn bg Hf H) (b:But [D.kd,D.sd,D.rd] H H') (sf:aQ Hf Hf') (fm:∀z,Mu H z->Hf z=none->Hf' z=none) (so:vp D n gv rc rm kn' N7 rkn' Hf' H') (le:Kn.Le kn kn') (hn:∀y,kn' y≠none->kn y≠none\/y=ak i) (hun:∀y,y≠ak i->kn y=none->kn' y=none) (n26:n<=26):LpI CSe CN CS CR D pth bgd n gv rc kg kc kr rm knI HfI HI x k0 (js++[i]) kn' N7 rkn' bg Hf' H':=by
 have hal:=h.al
 have hmu:∀z∈[D.kd,D.sd,D.rd],Mu H z:=fun z hz=>hal z (by simp at hz ⊢;rcases hz with q | q | q<;>simp[q])
 have un:=h.un
 rw[List.dropLast_concat] at un
 have dec:=h.dec
 rw[List.pairwise_append] at dec
 refine⟨h.b.trans b,h.sf.trans sf,fun z m hz=> ?_,h.sh.same sf,so,b _ _ h.np h.ep,fm _ (hal _ (by simp)) h.fp,fm _ (hal _ (by simp)) h.fb,h.ip,h.ib,h.np,h.nb,h.nn,h.dec,h.lt,fun j hj=> ?_,fun j hj=>(h.rch j hj).le le,h.le.trans le,fun y hy=> ?_,((h.bgi.hf fm).off b hmu (fun z hz=>by simp at hz ⊢;rcases hz with q | q | q<;>simp[q]) h.nb).le le, ?_,h.fr⟩
 ·have hz':=h.fm z m hz
  by_cases hS:z∈[D.kd,D.sd,D.rd]
  ·exact fm z (hmu z hS) hz'
  ·exact fm z (m.but h.b hS) hz'
 ·rw[List.dropLast_concat] at hj
  have hlt:i<j:=dec.2.2 j hj i (by simp)
  have hjn:=h.lt j (by simp[hj])
  exact hun _ (fun z=>by
   have:=jt (show j<26 by omega) (show i<26 by omega) z
   omega) (un j hj)
 ·rcases hn y hy with z | z
  ·exact(h.new y z).imp id fun w=>w.le le
  ·right;rw[z];exact(h.rch i (by simp)).le le
 ·exact h.hd.imp id fun⟨a,_⟩=>by simp at a
theorem LpI.bgs {S:List Addr}{bg':Str->Option SeD} (h:LpI CSe CN CS CR D pth bgd n gv rc kg kc kr rm knI HfI HI x k0 is kn rmN rkn bg Hf H) (b:But S H H') (hS:∀z∈S,HI z=none/\Hf z=none/\z∉[pth,D.kd,D.sd,D.rd]) (hb:BgI CS CR D pth bgd n gv rc kr rm kn bg' Hf H') (hf:∀y A,bg' y=some A->∀z∈A.ft,HI z=none):LpI CSe CN CS CR D pth bgd n gv rc kg kc kr rm knI HfI HI x k0 is kn rmN rkn bg' Hf H':=by
 refine⟨fun c o hc e=>b c o (fun w=>by rw[(hS c w).1] at e;cases e) (h.b c o hc e),h.sf,h.fm,h.sh,h.so.but b (fun z hz=>(hS z hz).2.1) (fun z=>(hS _ z).2.2 (by simp)) (fun z=>(hS _ z).2.2 (by simp)) (fun z=>(hS _ z).2.2 (by simp)),b _ _ (fun z=>(hS _ z).2.2 (by simp)) h.ep,h.fp,h.fb,h.ip,h.ib,h.np,h.nb,h.nn,h.dec,h.lt,h.un,h.rch,h.le,h.new,hb,h.hd,hf⟩
theorem LpI.free (h:LpI CSe CN CS CR D pth bgd n gv rc kg kc kr rm knI HfI HI x k0 is kn rmN rkn bg Hf H) {z:Addr} (hz:H z=none):HI z=none/\Hf z=none:=by
 refine⟨iU h.b hz fun w=>(h.al z (by simp at w ⊢;rcases w with q | q | q<;>simp[q])).some hz, ?_⟩
 cases q:Hf z with
 | none=>rfl
 | some o=>have:=h.so.sm _ _ q;rw[hz] at this;cases this
theorem LpI.begun {H1:Hp}{y:Str}{r:R}{A:SeD}{kb:List (Key×V)} (h:LpI CSe CN CS CR D pth bgd n gv rc kg kc kr rm knI HfI HI x k0 is kn rmN rkn bg Hf H) (s:aQ H H1) (hA:∀z∈A.ft,H z=none) (so:wI CS CR kr rm y r kn A H1) (hr:rc y=some r) (hg:gv y=none) (hy:y∈nmK n) (hb:bg y=none) (ebd:H bgd=some (.dK kb)):
 LpI CSe CN CS CR D pth bgd n gv rc kg kc kr rm knI HfI HI x k0 is kn rmN rkn (mW bg y A) Hf (upd H1 bgd (.dK (putK kb (.inr y) (.ref A.s)))):=by
 have nb:=h.nb
 refine h.bgs (S:=[bgd]) ((But.of_same s).trans (But.set _ (by simp))) (fun z hz=> ?_) (h.bgi.new s hA so hr hg hy hb ebd h.so.sm fun z hz=>(h.al z hz).some) (fun x B hB z hz=> ?_)
 ·have:z=bgd:=by simpa using hz
  rw[this]
  exact⟨h.ib,h.fb,fun w=>by
   rcases List.mem_cons.mp w with q | q
   ·exact h.nn q.symm
   ·exact nb q⟩
 ·unfold mW at hB
  by_cases w:x=y
  ·rw[if_pos w] at hB;cases hB
   exact(h.free (hA z hz)).1
  ·rw[if_neg w] at hB;exact h.fr x B hB z hz
theorem LpI.gone {y:Str}{r:R}{A A':SeD} (h:LpI CSe CN CS CR D pth bgd n gv rc kg kc kr rm knI HfI HI x k0 is kn rmN rkn bg Hf H) (hy:bg y=some A) (b:But A.ft H H') (so:wI CS CR kr rm y r kn A' H') (hr:rc y=some r) (hg:gv y=none)
 (es:A'.s=A.s) (erk:A'.rk=A.rk) (e1:A'.a1=A.a1) (e2:A'.a2=A.a2) (e3:A'.a3=A.a3) (efl:A'.fl=A.fl\/H A'.fl=none):LpI CSe CN CS CR D pth bgd n gv rc kg kc kr rm knI HfI HI x k0 is kn rmN rkn (mW bg y A') Hf H':=by
 refine h.bgs (S:=A.ft) b (fun z hz=> ?_) (h.bgi.set hy b so hr hg es erk e1 e2 e3 efl h.so.sm fun z hz=>(h.al z hz).some) (fun x B hB z hz=> ?_)
 ·obtain⟨a1,a2,a3⟩:=h.bgi.al y A hy z hz
  exact⟨h.fr y A hy z hz,a2,fun w=>a3 (by
   simp only[List.mem_cons,List.not_mem_nil,or_false] at w ⊢
   rcases w with q | q | q | q
   ·exact .inl q
   ·exact .inr (.inr (.inl q))
   ·exact .inr (.inr (.inr (.inl q)))
   ·exact .inr (.inr (.inr (.inr q))))⟩
 ·unfold mW at hB
  by_cases w:x=y
  ·rw[if_pos w] at hB;cases hB
   have hz:z=A'.s\/z=A'.fl\/z=A'.rk\/z=A'.a1\/z=A'.a2\/z=A'.a3:=by simpa [SeD.ft] using hz
   rcases hz with q | q | q | q | q | q
   ·rw[q,es];exact h.fr y A hy _ (by simp[SeD.ft])
   ·rcases efl with w | w
    ·rw[q,w];exact h.fr y A hy _ (by simp[SeD.ft])
    ·rw[q];exact(h.free w).1
   ·rw[q,erk];exact h.fr y A hy _ (by simp[SeD.ft])
   ·rw[q,e1];exact h.fr y A hy _ (by simp[SeD.ft])
   ·rw[q,e2];exact h.fr y A hy _ (by simp[SeD.ft])
   ·rw[q,e3];exact h.fr y A hy _ (by simp[SeD.ft])
  ·rw[if_neg w] at hB;exact h.fr x B hB z hz
theorem vp.giv {y:Str}{v:Int}{kw:List (Key×V)}{ws:List Str} (h:vp D n gv rc rm kn rmN rkn Hf H) (ek:H D.kd=some (.dK kw)) (kk:mJ kw ws) (hk:∀x,dI kw (.inr x)=(kn x).map V.int) (hy:y∈nmK n) (hg:gv y=some v) (ne:D.kd≠D.sd/\D.kd≠D.rd/\D.sd≠D.rd):vp D n gv rc rm (kn.put y v) rmN rkn Hf (upd H D.kd (.dK (putK kw (.inr y) (.int v))))/\Kn.Le kn (kn.put y v):=by
 have hn:kn y=none\/kn y=some v:=by
  cases z:kn y with
  | none=>exact .inl rfl
  | some u=>
    rcases(h.ok.a y u z).2 with w | ⟨w,_⟩
    ·rw[hg] at w;cases w;exact .inr rfl
    ·rw[hg] at w;cases w
 obtain⟨sm,fk,fs,fr,_,⟨ks,e2,r2⟩,⟨kk',rs,e3,r3⟩,ok,md⟩:=h
 have hs:aQ Hf (upd H D.kd (.dK (putK kw (.inr y) (.int v)))):=fun z o e=>(aq (fun w=>by rw[w,fk] at e;cases e)).trans (sm z o e)
 rcases hn with z | z
 ·have le:=Kn.nW (v:=v) z
  have hyw:y∉ws:=kk.none.mp (by rw[hk,z];rfl)
  exact⟨⟨hs,fk,fs,fr,⟨_,_,ao,kk.pO hyw _,Dl hk y v⟩,⟨ks,(aq (Ne.symm ne.1)).trans e2,r2⟩,⟨kk',rs,(aq (Ne.symm ne.2.1)).trans e3,r3⟩,ok.Yg hy z hg,fun x r ps u e=>(md x r ps u e).le le⟩,le⟩
 ·have hyw:y∈ws:=Decidable.byContradiction fun w=>by
   have:=kk.none.mpr w
   rw[hk,z] at this;cases this
  have eq:kn.put y v=kn:=by
   funext x
   unfold Kn.put
   by_cases w:x=y
   ·rw[if_pos w,w,z]
   ·rw[if_neg w]
  rw[eq]
  refine⟨⟨hs,fk,fs,fr,⟨_,_,ao,kk.Lw hyw _,fun x=> ?_⟩,⟨ks,(aq (Ne.symm ne.1)).trans e2,r2⟩,⟨kk',rs,(aq (Ne.symm ne.2.1)).trans e3,r3⟩,ok,md⟩,Kn.Le.refl _⟩
  have:=Dl hk y v x
  rw[eq] at this;exact this
theorem Oa (hl:js.length<=17) (h:∀j∈js,kn (ak j)=none):GK n kn js<=60 * Qu kn n+20 - js.length:=by
 rcases List.eq_nil_or_concat js with z | ⟨ks,j,z⟩
 ·subst z;exact Nat.zero_le _
 ·rw[List.concat_eq_append] at z
  subst z
  rw[qb (h j (by simp)),List.length_append]
  exact Nat.le_refl _
end
end RB
set_option maxRecDepth 100000
namespace L2
open PySem PySem.Spec PyProof.Rows RB
section
variable {X:Cx}{tg:Expr}
def Wa (tl:TE):TI:=fun σ H R=>tl σ H fun x H1=>∃a o kvs,x= .ref a/\H1 a=some (.frz o (.dK kvs))/\R (Itd a o kvs) H1
theorem Wb {l:Expr}{tl:TE} (hl:PE X l tl):PI X tg l (Wa tl):=by
 intro pins s σ H R I h
 refine thn (hl pins s σ H _ I h) fun v s1 ⟨x,H1,I1,r1,q1⟩=> ?_
 obtain⟨a,o,kvs,e,hq,q⟩:=q1
 subst e
 cases r1
 obtain⟨ho,hz,lo,vs,hkv,hd⟩:=(show fJ X.prog X.w H1 s1.heap a (.frz o (.dK kvs)) from I1.hok a _ hq)
 obtain⟨o',es,ep,ho',hx,hdat,hk,hp,hn⟩:=id hd
 rw[ho] at ho'
 cases ho'
 have hl:=(Aw hkv).1
 refine wpAny_pyIter_dict lo ⟨o,es,ho,hx,hdat,hk,hp,hn⟩ ?_
 have hlt:a<s1.heap.objs.size:=Heap.lt_size ho
 rw[<-hl]
 refine⟨s1.heap.objs.size,[s1.heap.objs.size],_,_,_,rfl,I1.kept (t':=s1.toks) fun b o e=>Heap.get?_push_of_some _ e,Ks (Nat.ne_of_lt hlt) hkv hx hdat hk hp hn,⟨_,Heap.get?_push_size _ rfl,rfl,rfl⟩,fun b hb=> ?_,q⟩
 have e:b=s1.heap.objs.size:=by simpa using hb
 subst e
 exact I1.JM (Nat.le_refl _) (I1.hok.fresh (Nat.le_refl _))
theorem Wc {l:Expr}{tl:TE} (hl:QE X l tl):QI X tg l (Wa tl):=⟨Wb hl.h⟩
end
theorem Fv {a:Addr}{o:Obj}{kvs:List (Key×V)}{g:TG}{tc:TT}{te:TE}{σ:St}{H:Hp}{D:Addr}{Q:VK} (Pv:Nat->St->Hp->Prop) (h0:Pv 0 σ (upd H D (.lst []))) (hl:∀i σ H,i<=kvs.length->Pv i σ H->H a=some (.frz o (.dK kvs)))
 (hs:∀i k v σ' H',kvs[i]? =some (k,v)->Pv i σ' H'->g (kV k) σ' H' fun σ3 H3=>tc σ3 H3 fun b H4=>
   if b=true then te σ3 H4 fun y H5=>∃ys,H5 D=some (.lst ys)/\ys.length<sizeLine/\Pv (i+1) σ3 (upd H5 D (.lst (ys++[y]))) else Pv (i+1) σ3 H4) (hd:∀σ' H',Pv kvs.length σ' H'->Q (.ref D) H'):
 HH (Itd a o kvs) g tc te D σ (upd H D (.lst [])) Q:=by
 refine⟨fun i m σ H=>m=kvs.length - i/\i<=kvs.length/\Pv i σ H,⟨kvs.length,by simp,Nat.zero_le _,h0⟩, ?_⟩
 rintro i m σ H ⟨rfl,hi,p⟩
 have q:=hl i σ H hi p
 by_cases hlt:i<kvs.length
 ·refine .inr ⟨⟨hlt,q⟩,Pv (i+1),fun σ' H' p'=>⟨kvs.length - (i+1),by omega,rfl,hlt,p'⟩,fun x H' y=> ?_⟩
  obtain⟨e,k,v,hk,ex⟩:=y
  subst e ex
  exact hs i k v σ _ hk p
 ·have e:i=kvs.length:=by omega
  subst e
  exact .inl ⟨⟨Nat.le_refl _,q⟩,hd σ H p⟩
end L2
namespace RB
open PySem L2 PySem.Spec PyProof.Rows
def Wd (CSe:Addr):Sp:=fun vs H Q _=>∃(D:SrD) (ks kk:List (Key×V)) (ss:List Str) (rkn:Str->Bool),vs=[.ref D.so]/\H D.so=some (.ins CSe D.dx (srF D.g D.c D.o D.kd D.sd D.rd))/\H D.sd=some (.dK ks)/\mJ ks ss/\ss.length<=100/\D.sd≠D.rd/\H D.rd=some (.dK kk)/\(∀x,dI kk (.inr x)=if rkn x=true then some (.bl true) else none)/\
 ∀(l:Addr) (o:Obj) (H':Hp),But [D.sd] H H'->H' D.sd=some (.frz o (.dK ks))->H l=none->H' l=some (.lst ((ss.filter rkn).map V.str))->Q (.ref l) H'
def We (CSe:Addr):Sp:=fun vs H Q _=>∃(D:SrD) (o:Obj) (ks kk:List (Key×V)) (ss:List Str) (rkn:Str->Bool),vs=[.ref D.so]/\H D.so=some (.ins CSe D.dx (srF D.g D.c D.o D.kd D.sd D.rd))/\H D.sd=some (.frz o (.dK ks))/\mJ ks ss/\ss.length<=100/\H D.rd=some (.dK kk)/\(∀x,dI kk (.inr x)=if rkn x=true then some (.bl true) else none)/\
 ∀(l:Addr) (H':Hp),aQ H H'->H l=none->H' l=some (.lst ((ss.filter fun x=> !rkn x).map V.str))->Q (.ref l) H'
def Ji (CSe CN:Addr):Sp:=fun vs H Q _=>∃(h g c o dxo rcd wl:Addr) (n:Nat) (gv:Kn) (rc:Rn) (kg kc kr:List (Key×V)) (rm:Rm) (ws:List Str),vs=[.ref h, .ref o, .ref wl]/\H h=some (.tup [.ref g, .ref c])/\H g=some (.dK kg)/\H c=some (.dK kc)/\Bld H kg kc n gv rc/\n<=17/\H o=some (.ins CN dxo (nrF rcd))/\H rcd=some (.dK kr)/\p6 H kr n rm/\H wl=some (.lst (ws.map V.str))/\(∀x∈ws,x∈nmK n)/\
 ∀(D:SrD) (kn:Kn) (rmN:Rm) (rkn:Str->Bool) (Hf H':Hp),aQ H H'->aQ H Hf->SrH CSe CN D n gv rc kg kc kr rm Hf->vp D n gv rc rm kn rmN rkn Hf H'->H D.kd=none->H D.sd=none->H D.rd=none->(∀x∈ws,kn x≠none)->(∀y,kn y≠none->∃x∈ws,Rch gv rc kn x y)->Q (.ref D.so) H'
structure Built (n:Nat) (gv:Kn) (rc:Rn) (rm:Rm) (ws:List Str) (kn:Kn) (rmN:Rm) (rkn:Str->Bool):Prop where
 ok:zR n gv rc kn rmN
 md:∀x r ps v,rmN x=some (r,ps,v)->Rcd rm x r kn ps v (rkn x)
 w:∀x∈ws,kn x≠none
 r:∀y,kn y≠none->∃x∈ws,Rch gv rc kn x y
 rn:∀x,rkn x=true->rmN x≠none
def RX:Sp:=fun vs H Q _=>∃(h g c rcd wl:Addr) (n:Nat) (gv:Kn) (rc:Rn) (kr:List (Key×V)) (rm:Rm) (ws:List Str),vs=[.ref h, .ref rcd, .ref wl]/\jD H h g c n gv rc/\n<=17/\H rcd=some (.dK kr)/\p6 H kr n rm/\H wl=some (.lst (ws.map V.str))/\(∀x∈ws,x∈nmK n)/\
 ∀(t kd sd lm lk:Addr) (kw ks:List (Key×V)) (wn sn:List Str) (kn:Kn) (rmN:Rm) (rkn:Str->Bool) (o:Obj) (H':Hp),aQ H H'->H' t=some (.tup [.ref kd, .ref sd, .ref lm, .ref lk])->H kd=none->H sd=none->H lm=none->H lk=none->kd≠sd->lm≠lk->H' kd=some (.dK kw)->mJ kw wn->(∀x,dI kw (.inr x)=(kn x).map V.int)->H' sd=some (.frz o (.dK ks))->mJ ks sn->p6 H' ks n rmN->H' lm=some (.lst ((sn.filter rkn).map V.str))->H' lk=some (.lst ((sn.filter fun x=> !rkn x).map V.str))->Built n gv rc rm ws kn rmN rkn->Q (.ref t) H'
end RB
set_option maxRecDepth 100000
namespace RB
open PySem L2 PySem.Spec PyProof.Rows
theorem Rch.trans {gv:Kn}{rc:Rn}{kn:Kn}{x y z:Str} (a:Rch gv rc kn x y) (b:Rch gv rc kn y z):Rch gv rc kn x z:=by
 induction b with
 | refl=>exact a
 | step _ hg hr hs ih=>exact .step ih hg hr hs
theorem KJ {r:R}:∀{us:List Rdp}{kn:Kn}{p:Rdp},Chn r kn us->p∈us->∃a b,us=a++p::b/\Chn r kn a/\ev (kn.puts a) r= .inl p.1
 | q::us,kn,p,c,m=>by
   rcases List.mem_cons.mp m with z | z
   ·subst z
    exact⟨[],us,rfl,trivial,c.1⟩
   ·obtain⟨a,b,e,ca,ea⟩:=KJ (us:=us) c.2 z
    exact⟨q::a,b,by rw[e];rfl,⟨c.1,ca⟩,ea⟩
theorem Wf {r:R}{kn:Kn}{us:List Rdp}{p:Rdp} (c:Chn r kn0 us) (h:Rows kn us) (m:p∈us):yw kn r p.1:=by
 obtain⟨a,b,e,ca,ea⟩:=KJ c m
 refine⟨a,ca,ea,fun q hq=>h.s q (by rw[e];simp[hq]), ?_⟩
 have:=h.nd
 rw[e,List.map_append] at this
 exact(List.nodup_append.mp this).1
def TX (gv:Kn) (rc:Rn) (kn kn':Kn) (ps:List Rdp):Prop:=∀y,kn' y≠none->kn y≠none\/∃p∈ps,Rch gv rc kn' p.1 y
theorem TX.trans {gv:Kn}{rc:Rn}{a b c:Kn}{ps us vs:List Rdp} (h1:TX gv rc a b (ps++us)) (le:Kn.Le b c) (h2:TX gv rc b c (ps++(us++vs))):TX gv rc a c (ps++(us++vs)):=fun y hy=>by
 rcases h2 y hy with z | z
 ·rcases h1 y z with w | ⟨p,hp,r⟩
  ·exact .inl w
  ·exact .inr ⟨p,by rw[<-List.append_assoc];exact List.mem_append_left _ hp,r.le le⟩
 ·exact .inr z
def LQ (f:Nat):Sp:=fun vs H Q _=>∃(X:List Addr) (h g c st wd rd:Addr) (n:Nat) (gv:Kn) (rc:Rn) (kn:Kn) (rm:Rm) (k:Nat),vs=[.ref h, .str (ak k), .ref st]/\Ctx X H h g c st wd rd n gv rc kn rm/\k<f/\k<n/\
 ∀kn' rm' v H',But [wd,rd] H H'->Ctx X H' h g c st wd rd n gv rc kn' rm'->New kn kn' (k+1)->(∀y,kn' y≠none->kn y≠none\/Rch gv rc kn' (ak k) y)->kn' (ak k)=some v->Q (.int v) H'
def Wg (f:Nat):Sp:=fun vs H Q _=>∃(X:List Addr) (h g c st wd rd rl:Addr) (n:Nat) (gv:Kn) (rc:Rn) (kn:Kn) (rm:Rm) (as:List Addr) (ps:List Rdp) (k:Nat),vs=[.ref h, .str (ak k), .ref st, .ref rl]/\Ctx X H h g c st wd rd n gv rc kn rm/\k<f/\k<n/\
 H rl=some (.lst (as.map V.ref))/\gM H as ps/\Rows kn ps/\rl∈X/\rl≠st/\
 ∀kn' rm' v us as' H',But [wd,rd,rl] H H'->Ctx X H' h g c st wd rd n gv rc kn' rm'->New kn kn' (k+1)->TX gv rc kn kn' (ps++us)->H' rl=some (.lst (as'.map V.ref))->gM H' as' (ps++us)->Rows kn' (ps++us)->qF (.rd (ak k)) (kn0.puts ps) us v->Q (.int v) H'
def RZ (f d:Nat):Sp:=fun vs H Q _=>∃(X:List Addr) (h g c st wd rd rl b:Addr) (n:Nat) (gv:Kn) (rc:Rn) (kn:Kn) (rm:Rm) (as:List Addr) (ps:List Rdp) (r:R) (m:Nat),vs=[.ref h, .ref b, .ref st, .ref rl]/\Ctx X H h g c st wd rd n gv rc kn rm/\
 IsR H b r/\Rk3 (nmK m) d r/\m<=f/\m<=n/\H rl=some (.lst (as.map V.ref))/\gM H as ps/\Rows kn ps/\rl∈X/\rl≠st/\
 ∀kn' rm' v us as' H',But [wd,rd,rl] H H'->Ctx X H' h g c st wd rd n gv rc kn' rm'->New kn kn' m->TX gv rc kn kn' (ps++us)->H' rl=some (.lst (as'.map V.ref))->gM H' as' (ps++us)->Rows kn' (ps++us)->qF r (kn0.puts ps) us v->Q (.int v) H'
def Wh:Sp:=fun vs H Q _=>∃(h g c wl:Addr) (n:Nat) (gv:Kn) (rc:Rn) (ws:List Str),vs=[.ref h, .ref wl]/\jD H h g c n gv rc/\n<=17/\H wl=some (.lst (ws.map V.str))/\(∀x∈ws,x∈nmK n)/\
 ∀st wd rd kn rm H',aQ H H'->H st=none->H wd=none->H rd=none->StA [] H' st wd rd n gv rc kn rm->(∀x∈ws,kn x≠none)->(∀y,kn y≠none->∃x∈ws,Rch gv rc kn x y)->Q (.ref st) H'
theorem R0 {r:R}{u v:Int}:∀{ps qs:List Rdp}{kn:Kn},Chn r kn ps->Chn r kn qs->ev (kn.puts ps) r= .inr u->ev (kn.puts qs) r= .inr v->(∀p∈ps,∀q∈qs,p.1=q.1->p.2=q.2)->u=v/\ps=qs
 |[],[],kn,_,_,e1,e2,_=>by
  have e1:ev kn r= .inr u:=e1
  have e2:ev kn r= .inr v:=e2
  rw[e1] at e2
  exact⟨Sum.inr.inj e2,rfl⟩
 |[],q::qs,kn,_,c,e1,_,_=>by
  have e1:ev kn r= .inr u:=e1
  rw[c.1] at e1;cases e1
 | p::ps,[],kn,c,_,_,e2,_=>by
   have e2:ev kn r= .inr v:=e2
   rw[c.1] at e2;cases e2
 | p::ps,q::qs,kn,c1,c2,e1,e2,h=>by
   have e:p.1=q.1:=Sum.inl.inj (c1.1.symm.trans c2.1)
   have e':=h p (by simp) q (by simp) e
   have hpq:p=q:=Prod.ext e e'
   subst hpq
   obtain⟨a,b⟩:=R0 (ps:=ps) (qs:=qs) c1.2 c2.2 e1 e2 fun p' hp q' hq=>h p' (by simp[hp]) q' (by simp[hq])
   exact⟨a,by rw[b]⟩
section
variable {n:Nat}{gv:Kn}{rc:Rn}{kn1 kn2:Kn}{rm1 rm2:Rm}{ws:List Str}
theorem Ob (n26:n<=26) (rk:∀x r,rc x=some r->∃k,k<n/\x=ak k/\Rk3 (nmK k) 4 r) (s1:zR n gv rc kn1 rm1) (s2:zR n gv rc kn2 rm2):∀(k:Nat),k<n->∀u v,kn1 (ak k)=some u->kn2 (ak k)=some v->u=v:=fun k=>by
 induction k using Nat.strongRecOn with
 | ind k ih=>
   intro hk u v e1 e2
   rcases(s1.a _ _ e1).2 with g1 | ⟨g1,r,ps,hr,m1⟩
   ·rcases(s2.a _ _ e2).2 with g2 | ⟨g2,_⟩
    ·rw[g1] at g2;exact Option.some.inj g2
    ·rw[g1] at g2;cases g2
   ·rcases(s2.a _ _ e2).2 with g2 | ⟨g2,r',qs,hr',m2⟩
    ·rw[g1] at g2;cases g2
    ·rw[hr] at hr';cases hr'
     obtain⟨_,_,_,t1,w1⟩:=s1.b _ _ _ _ m1
     obtain⟨_,_,_,t2,w2⟩:=s2.b _ _ _ _ m2
     obtain⟨k',hk',ek,R⟩:=rk _ _ hr
     have:k=k':=jt (by omega) (by omega) ek
     subst this
     refine(R0 t1.c t2.c t1.e t2.e fun p hp q hq e=> ?_).1
     obtain⟨j,hj,ej⟩:=dJ.mp (Qo R.i t1.c p hp)
     have h1:=w1.s p hp
     have h2:=w2.s q hq
     rw[<-e,ej] at h2
     rw[ej] at h1
     exact ih j hj (by omega) _ _ h1 h2
theorem Wi (n26:n<=26) (rk:∀x r,rc x=some r->∃k,k<n/\x=ak k/\Rk3 (nmK k) 4 r) (s1:zR n gv rc kn1 rm1) (s2:zR n gv rc kn2 rm2) (w2:∀x∈ws,kn2 x≠none) {x:Str} (hx:x∈ws) {y:Str} (h:Rch gv rc kn1 x y):kn2 y≠none:=by
 induction h with
 | refl=>exact w2 x hx
 | @step y z r _ hg hr hs ih=>
   obtain⟨qs,cq,eq,rq⟩:=hs
   cases ey:kn2 y with
   | none=>exact absurd ey ih
   | some v=>
     rcases(s2.a _ _ ey).2 with g2 | ⟨g2,r',ps,hr',m2⟩
     ·rw[hg] at g2;cases g2
     ·rw[hr] at hr';cases hr'
      obtain⟨_,_,_,t2,u2⟩:=s2.b _ _ _ _ m2
      have cT:Chn r kn0 (qs++[(z,0)]):=cq.app ⟨eq,trivial⟩
      have key:∀j p,j<qs.length->(qs++[(z,0)])[j]? =some p->kn2 p.1=some p.2:=fun j=>by
       induction j using Nat.strongRecOn with
       | ind j ihj=>
         intro p hj hp
         obtain⟨u,hu⟩:=again j cT t2.c t2.e u2.s (fun i p' hi hp'=>ihj i hi p' (by omega) hp') p hp
         have hm:p∈qs:=by
          rw[List.getElem?_append_left hj] at hp
          exact List.mem_of_getElem? hp
         have h1:=rq.s p hm
         obtain⟨i,hi,ei⟩:=dJ.mp (s1.a _ _ h1).1
         rw[ei] at h1 hu
         rw[ei,hu,Ob n26 rk s1 s2 i hi _ _ h1 hu]
      obtain⟨u,hu⟩:=again qs.length cT t2.c t2.e u2.s key (z,0) (by simp)
      rw[hu];simp
theorem Wj (n26:n<=26) (rk:∀x r,rc x=some r->∃k,k<n/\x=ak k/\Rk3 (nmK k) 4 r) (s1:zR n gv rc kn1 rm1) (s2:zR n gv rc kn2 rm2) (w1:∀x∈ws,kn1 x≠none) (w2:∀x∈ws,kn2 x≠none) (r1:∀y,kn1 y≠none->∃x∈ws,Rch gv rc kn1 x y) (r2:∀y,kn2 y≠none->∃x∈ws,Rch gv rc kn2 x y):kn1=kn2:=by
 funext y
 cases e1:kn1 y with
 | none=>
   cases e2:kn2 y with
   | none=>rfl
   | some v=>
     obtain⟨x,hx,h⟩:=r2 y (by rw[e2];simp)
     exact absurd e1 (Wi n26 rk s2 s1 w1 hx h)
 | some u=>
   obtain⟨x,hx,h⟩:=r1 y (by rw[e1];simp)
   cases e2:kn2 y with
   | none=>exact absurd e2 (Wi n26 rk s1 s2 w2 hx h)
   | some v=>
     obtain⟨k,hk,ek⟩:=dJ.mp (s1.a _ _ e1).1
     rw[ek] at e1 e2
     rw[Ob n26 rk s1 s2 k hk _ _ e1 e2]
end
end RB
set_option maxRecDepth 100000
namespace L2
open PySem PySem.Spec PyProof.Rows RB
theorem Oc {X:Cx}{pins:List (Addr×Obj)}{s:Shared}{σ:St}{H:Hp}{A:Around}{x y:V}{z z':Value}{d:PyData} (I:Inv X pins σ H s) (rz:RelV x z) (rz':RelV y z') (h1:qW X.K H x d) (h2:qW X.K H y d) (sh:SeqAt.shaped d=true) (hu:A.in1.units+64<cLine):SeqAt.EqAt A.in1 s z z' true:=by
 obtain⟨as,r1⟩:=h1.reads I rz
 obtain⟨bs,r2⟩:=h2.reads I rz'
 have:=PySem.W.keq_at r1 r2 sh sh hu
 rw[PySem.SeqAt.eqv_refl d (Ii sh)] at this
 exact this
def Wk (K:PySem.W.Frag) (H:Hp) (ka kb:List (Key×V)):Prop:=ka.length=kb.length/\∀k u,(k,u)∈ka->∃v d,dI kb k=some v/\qW K H u d/\qW K H v d/\SeqAt.shaped d=true
theorem Od {X:Cx}{pins:List (Addr×Obj)}{s:Shared}{σ:St}{H:Hp}{A:Around}{ka kb:List (Key×V)}{va vb:List (Key×Value)} (I:Inv X pins σ H s) (r1:KV ka va) (r2:KV kb vb) (h:Wk X.K H ka kb) (hu:A.in1.units+64<cLine):PySem.W.KeqHits A.in1 s vb va true:=
 Lq fun k u m=>by
  obtain⟨i,hi⟩:=List.getElem?_of_mem m
  obtain⟨y,hy,ry⟩:=Lp r1 i k u hi
  obtain⟨v,d,hv,h1,h2,sh⟩:=h.2 k y (List.mem_of_getElem? hy)
  obtain⟨w',hw,rw'⟩:=uZ.some_of (v:=v) (o:=valueAt vb k) (by rw[<-hv];exact r2.val k)
  exact⟨w',hw,Oc I ry rw' h1 h2 sh hu⟩
def Wl (K:PySem.W.Frag) (neg:Bool):R2:=fun x y H Q=>∃a b ka kb,x= .ref a/\y= .ref b/\Rd H a (.dK ka)/\Rd H b (.dK kb)/\Wk K H ka kb/\Q (.bl (!neg)) H
theorem KN {X:Cx} (hu:X.A.units+66<cLine):QOp X (compareOp .Eq) (Wl X.K false):=⟨fun pins s σ H x y v u Q I rx ry h=>by
 obtain⟨a,b,ka,kb,rfl,rfl,ha,hb,h,q⟩:=h
 cases rx
 cases ry
 obtain⟨_,lo,va,r1,da⟩:=u6 I.hok ha
 obtain⟨_,lo',vb,r2,db⟩:=u6 I.hok hb
 refine PySem.W.keq_eq (r:=true) lo lo' da db (by omega) (fun _=>Od I r1 r2 h (by simp only[Around.in1_units];omega)) ⟨.bl true,H,I, ?_,q⟩
 show _=Value.bool true
 rw[show va.length=vb.length by rw[<-r1.length,<-r2.length];exact h.1];simp⟩
theorem TY {X:Cx} (hu:X.A.units+66<cLine):QOp X (compareOp .NotEq) (Wl X.K true):=⟨fun pins s σ H x y v u Q I rx ry h=>by
 obtain⟨a,b,ka,kb,rfl,rfl,ha,hb,h,q⟩:=h
 cases rx
 cases ry
 obtain⟨_,lo,va,r1,da⟩:=u6 I.hok ha
 obtain⟨_,lo',vb,r2,db⟩:=u6 I.hok hb
 refine PySem.W.keq_ne (r:=true) lo lo' da db (by omega) (fun _=>Od I r1 r2 h (by simp only[Around.in1_units];omega)) ⟨.bl false,H,I, ?_,q⟩
 show _=Value.bool false
 rw[show va.length=vb.length by rw[<-r1.length,<-r2.length];exact h.1];simp⟩
theorem ab8 {P:Program}{w:World} (p q:Addr) (xs ys:Array Value) (n m:Nat) (d1 d2:Option Addr) (t1 t2:Array (Option Value)) (hxy:xs.size=ys.size) (k:Nat):
 ∀i:Nat,xs.size - i=k->MeetsIn P w (Builtin.«list.__eq__.loop» ⟨[.ref p, .ref q,rawInt i,rawInt 3],[]⟩)
  (fun A R s=>s.heap.get? p=some {cls:= .type "list",dict:=d1,data:= .seq xs n,slots:=t1}/\s.heap.get? q=some {cls:= .type "list",dict:=d2,data:= .seq ys m,slots:=t2}/\
    (∀j (u:j<xs.size) (v:j<ys.size),zP P w A.in1 s xs[j] ys[j])/\R (.ok (.ret (.bool false))) s):=by
 induction k with
 | zero=>
   intro i hi A R s z
   obtain⟨hp,g,d,tk,os⟩:=s
   obtain⟨z1,z2,ze,z⟩:=z
   wp_walk using wpAny_loadPart' z1,wpAny_loadPart' z2
   have i1:xs[((i:Nat):Int).toNat]? =none:=by simp;omega
   have i2:ys[((i:Nat):Int).toNat]? =none:=by simp;omega
   rw[i1,i2]
   wp_walk using wpAny_loadPart' z1,wpAny_loadPart' z2
   show R (.ok (.ret (.bool (xs.size !=ys.size)))) _
   rw[hxy];simpa using z
 | succ k ih=>
   intro i hi A R s z
   obtain⟨hp,g,d,tk,os⟩:=s
   obtain⟨z1,z2,ze,z⟩:=z
   wp_walk using wpAny_loadPart' z1,wpAny_loadPart' z2
   have l1:i<xs.size:=by omega
   have l2:i<ys.size:=by omega
   have i1:xs[((i:Nat):Int).toNat]? =some xs[i]:=by simp[l1]
   have i2:ys[((i:Nat):Int).toNat]? =some ys[i]:=by simp[l2]
   rw[i1,i2]
   refine wpAny_bind (ze i l1 l2 _ _ ?_)
   wp_walk
   rw[show((i:Int)+1)=((i+1:Nat):Int) by push_cast;rfl]
   exact⟨plainId_quiet MeetsSeq3.plain_eq_loop _,codeAny_builtin MeetsSeq3.entry_eq_loop (by
    rw[Around.under_plainId MeetsSeq3.plain_eq_loop _]
    exact ih (i+1) (by omega) A R _ ⟨z1,z2,ze,z⟩)⟩
theorem Qv {P:Program}{w:World}{A:Around}{s:Shared}{E:Value->Shared->Prop}{Q:Value->Shared->Prop}{p q:Addr}{xs ys:Array Value} (hp:s.heap.IsList p xs) (hq:s.heap.IsList q ys) (hxy:xs.size=ys.size) (hu:A.units<cLine)
 (he:∀j (u:j<xs.size) (v:j<ys.size),zP P w A.in1 s xs[j] ys[j]) (h:Q (.bool false) s):wpAny (model P w) A (compareOp .NotEq (.ref p) (.ref q)) Q E s:=by
 obtain⟨⟨c1,d1,dt1,t1⟩,hp,hc1,n,hd1⟩:=hp
 obtain⟨⟨c2,d2,dt2,t2⟩,hq,hc2,m,hd2⟩:=hq
 simp only at hc1 hd1 hc2 hd2
 subst hc1 hd1 hc2 hd2
 have hne:¬(xs.size !=ys.size)=true:=by simp[hxy]
 have f3:=AutoSeq1.sub_list_list
 have g:MeetsIn P w (Builtin.«list.__ne__» ⟨[.ref p, .ref q],[]⟩) (fun A R s=>s.heap.get? p=some {cls:= .type "list",dict:=d1,data:= .seq xs n,slots:=t1}/\s.heap.get? q=some {cls:= .type "list",dict:=d2,data:= .seq ys m,slots:=t2}/\
       (∀j (u:j<xs.size) (v:j<ys.size),zP P w A.in1 s xs[j] ys[j])/\R (.ok (.ret (.bool false))) s):=by
  intro A R s z
  obtain⟨hp,g,d,tk,os⟩:=s
  obtain⟨z1,z2,ze,z⟩:=z
  wp_walk using AutoSeq1.wpAny_loadPart' z1,AutoSeq1.wpAny_loadPart' z2
  exact⟨plainId_quiet MeetsSeq3.plain_eq_loop _,codeAny_builtin MeetsSeq3.entry_eq_loop (by
   rw[Around.under_plainId MeetsSeq3.plain_eq_loop _]
   exact ab8 p q xs ys n m d1 d2 t1 t2 hxy _ 0 rfl A R _ ⟨z1,z2,ze,z⟩)⟩
 have hT:s.TypeIs (.ref p) "list":=⟨_,hp,rfl⟩
 refine wpAny_richCompare_same_room (op:= .NotEq) hT ⟨_,hq,rfl⟩ F.slot_list_ne (call_meetsIn F.slot_list_ne hT F.entry_list_ne (F.args_list_ne_2 _ _) g ⟨hp,hq,he, ?_⟩) hu
 exact⟨(fun x=>nomatch x),h⟩
def ab9 (K:PySem.W.Frag) (H:Hp) (x y:V):Prop:=aib H x y\/∃d,qW K H x d/\qW K H y d/\SeqAt.shaped d=true
theorem acd {X:Cx}{pins:List (Addr×Obj)}{s:Shared}{σ:St}{H:Hp}{A:Around}{x y:V}{z z':Value} (I:Inv X pins σ H s) (rz:RelV x z) (rz':RelV y z') (h:ab9 X.K H x y) (hu:A.units+66<cLine):zP X.prog X.w A.in1 s z z':=by
 have k1:A.in1.units=A.units+1:=rfl
 have k2:A.in1.in1.units=A.units+2:=rfl
 rcases h with(h | ⟨a',b',x1,x2,y1,y2,e3,e4,ha',hb',h1,h2⟩) | ⟨d,h1,h2,sh⟩
 ·exact LC I rz rz' h (by omega)
 ·rw[e3] at rz
  rw[e4] at rz'
  cases rz
  cases rz'
  obtain⟨us,ru,tu,_⟩:=I.tuple (SqT.of ha')
  obtain⟨ws,rw',tw,_⟩:=I.tuple (SqT.of hb')
  obtain⟨u1,u2,rfl,r1,r2⟩:=vals2 ru
  obtain⟨w1,w2,rfl,r3,r4⟩:=vals2 rw'
  exact Qs tu tw (LC I r1 r3 h1 (by omega)) (LC I r2 r4 h2 (by omega)) (by omega)
 ·exact zP.of (Oc I rz rz' h1 h2 sh (by omega))
def aic (K:PySem.W.Frag) (neg:Bool):R2:=fun x y H Q=>∃a b xs ys,x= .ref a/\y= .ref b/\SqL K H a xs/\SqL K H b ys/\xs.length=ys.length/\(∀(i:Nat) x y,xs[i]? =some x->ys[i]? =some y->ab9 K H x y)/\Q (.bl (!neg)) H
theorem Ys {X:Cx}{pins:List (Addr×Obj)}{s:Shared}{σ:St}{H:Hp}{xs ys:List V}{its its':List Value} (I:Inv X pins σ H s) (r:Vals xs its) (r':Vals ys its') (he:∀(i:Nat) x y,xs[i]? =some x->ys[i]? =some y->ab9 X.K H x y) (hu:X.A.units+66<cLine):∀j (u:j<its.toArray.size) (v:j<its'.toArray.size),zP X.prog X.w X.A.in1 s its.toArray[j] its'.toArray[j]:=fun j u v=>by
 have l1:=r.length
 have l2:=r'.length
 have u':j<its.length:=by simpa using u
 have v':j<its'.length:=by simpa using v
 have hx:xs[j]? =some (xs[j]'(by omega)):=List.getElem?_eq_getElem _
 have hy:ys[j]? =some (ys[j]'(by omega)):=List.getElem?_eq_getElem _
 obtain⟨z,hz,rz⟩:=r.get hx
 obtain⟨z',hz',rz'⟩:=r'.get hy
 have e1:its.toArray[j]=z:=by
  have:its[j]? =some its[j]:=List.getElem?_eq_getElem u'
  rw[this] at hz;simpa using Option.some.inj hz
 have e2:its'.toArray[j]=z':=by
  have:its'[j]? =some its'[j]:=List.getElem?_eq_getElem v'
  rw[this] at hz';simpa using Option.some.inj hz'
 rw[e1,e2]
 exact acd I rz rz' (he j _ _ hx hy) hu
theorem T4 {X:Cx} (hu:X.A.units+66<cLine):QOp X (compareOp .NotEq) (aic X.K true):=⟨fun pins s σ H x y v u Q I rx ry h=>by
 obtain⟨a,b,xs,ys,rfl,rfl,ha,hb,hl,he,q⟩:=h
 cases rx
 cases ry
 obtain⟨its,r,pl,_⟩:=I.list ha
 obtain⟨its',r',pl',_⟩:=I.list hb
 have l1:=r.length
 have l2:=r'.length
 exact Qv pl.isList pl'.isList (by simp;omega) (by omega) (Ys I r r' he hu) ⟨.bl false,H,I,rfl,q⟩⟩
theorem Inv.thaw {X:Cx}{pins:List (Addr×Obj)}{σ:St}{H:Hp}{s:Shared}{a:Addr}{o:Obj}{u:HO} (I:Inv X pins σ H s) (e:H a=some (.frz o u)) (h0:X.H₀ a=none):Inv X pins σ (upd H a u) s:=by
 have hb:∀{b:Addr}{z:HO},H b=some z->z≠ .frz o u->b≠a:=fun q n w=>by rw[w,e] at q;cases q;exact n rfl
 have hn:∀{b:Addr},H b=none->b≠a:=fun q w=>by rw[w,e] at q;cases q
 have b0:=I.base
 refine⟨I.ok,I.os,I.bare,⟨b0.keep,b0.slot,fun b ob q n hx=> ?_,b0.there,fun b xs q=> ?_,fun b ob z q=> ?_,fun b ps q=> ?_⟩,I.loc,I.cell, ?_,fun x c q=> ?_,fun p hp=> ?_,fun b z q=> ?_,I.len⟩
 ·have:=b0.free b ob q n hx
  exact(aq (hn this)).trans this
 ·have:=b0.tups b xs q
  exact(aq (hb this (by simp))).trans this
 ·have:=b0.frzs b ob z q
  exact(aq (fun w=>by rw[w,h0] at q;cases q)).trans this
 ·obtain⟨more,w⟩:=b0.tbls b ps q
  exact⟨more,(aq (hb w (by simp))).trans w⟩
 ·exact(aq (hn I.free)).trans I.free
 ·exact(aq (hn (I.u0 x c q))).trans (I.u0 x c q)
 ·obtain⟨p1,p2,p3⟩:=I.pin p hp
  exact⟨p1,(aq (hn p2)).trans p2,p3⟩
 ·have st:∀{c:Addr}{w:HO},fJ X.prog X.w H s.heap c w->fJ X.prog X.w (upd H a u) s.heap c w:=fun x=>x.stay (fun _ _ _ r=>r) (fun b q=>(aq (hb q (by simp))).trans q) fun b xs q=>(aq (hb q (by simp))).trans q
  by_cases w:b=a
  ·rw[w,ao] at q;cases q
   rw[w]
   exact st (show _/\_ from I.hok a _ e).2
  ·rw[aq w] at q
   exact st (I.hok b z q)
def aag (H0:Hp):V->List V->Hp->VK->Prop:=fun x vs H Q=>∃a kvs,x= .ref a/\vs=[]/\Rd H a (.dK kvs)/\H0 a=none/\Q .non (upd H a (.dK []))
theorem Yt {X:Cx}{H0:Hp} (e0:X.H₀=H0):MtR X "dict.clear" (aag H0):=by
 intro pins s σ H x vs v us Q I rx rv h
 subst e0
 obtain⟨a,kvs,rfl,rfl,hd,h0,q⟩:=h
 cases rx
 cases rv
 rcases hd with e | ⟨o,e⟩
 ·exact Rb I e fun s' I'=>⟨.non,_,I',rfl,q⟩
 ·have I1:=I.thaw e h0
  refine Rb I1 (a:=a) (kvs:=kvs) ao fun s' I'=>⟨.non,_, ?_,rfl,q⟩
  rwa [show upd (upd H a (.dK kvs)) a (.dK [])=upd H a (.dK []) from by funext z;unfold upd;split<;>rfl] at I'
end L2
set_option maxRecDepth 100000
namespace L2
open PySem PySem.Spec PyProof.Rows RB
theorem m5.u66 {k:Nat}{A:Around} (r:m5 k A):A.units+66<cLine:=by have:=r.un;omega
section
variable {X:Cx}
theorem Qw:rP X (.builtin "isinstance") (fun xs H Q=>∃(a:Addr) (kvs:List (Key×V)),xs=[.ref a, .ty "dict"]/\Rd H a (.dK kvs)/\Q (.bl true) H):=by
 intro pins s σ H xs us Q I r h
 obtain⟨a,kvs,rfl,ha,q⟩:=h
 obtain⟨u,v,rfl,r1,r2⟩:=Vals.two r
 cases(show v=Value.type "dict" from r2)
 cases(show u=Value.ref a from r1)
 obtain⟨_,_,vs,_,p⟩:=u6 I.hok ha
 obtain⟨o,es,ep,h1,h2,_⟩:=p
 exact PySem.W.kia_one PySem.W.kitx_dict I.kIn ⟨o,h1,h2.1⟩ (Nj _) (fun z=>nomatch z) fun tk=>⟨.bl true,H,I.tok tk,rfl,q⟩
theorem Wm:qK X (.builtin "isinstance") (fun xs H Q=>∃(a:Addr) (kvs:List (Key×V)),xs=[.ref a, .ty "dict"]/\Rd H a (.dK kvs)/\Q (.bl true) H):=⟨Qw⟩
end
def ae4 (H0:Hp) (to:TE):TE:=fun σ H Q=>to σ H fun x H1=>aag H0 x [] H1 Q
theorem Yu {X:Cx}{H0:Hp}{o:Expr}{to:TE}{apos cpos:Pos} (e0:X.H₀=H0) (ho:QE X o to) (hbase:attributeBase o "clear" X.env (eval o X.env)=eval o X.env:=by rfl) (hline:(apos.endLine==cpos.line)=true:=by rfl):QE X (.Call (.Attribute o "clear" apos) [] [] cpos) (ae4 H0 to):=⟨by
 intro pins s σ H Q I h
 refine wpAny_Call_method0_late hbase hline (thn (ho.h pins s σ H _ I h) fun v s1 ⟨x,H1,I1,r1,q1⟩=> ?_)
 obtain⟨a,kvs,ex,_,hd,_⟩:=id q1
 subst ex
 cases r1
 obtain⟨h1,h2,_⟩:=K6 I1 (.inl ⟨kvs,hd⟩)
 exact⟨"dict","dict.clear",PySem.F.plainAttrs_dict,PySem.F.slot_dict_clear,PySem.F.type_dict_clear,h1,h2,Calls.callWith_builtin rfl (PySem.evalArgs_none (Yt e0 pins s1 σ H1 (.ref a) [] _ [] Q I1 rfl .nil q1))⟩⟩
end L2
namespace RB
open PySem L2 PySem.Spec PyProof.Rows
structure PpJ (H:Hp) (kp:List (Key×V)) (gv:Kn) (rc:Rn) (rm:Rm) (kn:Kn) (ks:List Str):Prop where
 k:mJ kp ks
 v:∀x∈ks,∃b p,dI kp (.inr x)=some (.ref b)/\m6 H b p/\Ky gv rc rm kn x p
section
variable {H H':Hp}{kp kq:List (Key×V)}{gv:Kn}{rc:Rn}{rm:Rm}{kn:Kn}{ks qs:List Str}
theorem PpJ.tups (h:PpJ H kp gv rc rm kn ks) (t:jX H H'):PpJ H' kp gv rc rm kn ks:=⟨h.k,fun x hx=>let ⟨b,p,h1,h2,h3⟩:=h.v x hx;⟨b,p,h1,h2.tups t,h3⟩⟩
theorem PpJ.same (h:PpJ H kp gv rc rm kn ks) (s:aQ H H'):PpJ H' kp gv rc rm kn ks:=h.tups (aQ.tups s)
theorem PpJ.nil:PpJ H [] gv rc rm kn []:=⟨⟨rfl,by simp⟩,by simp⟩
theorem PpJ.put (h:PpJ H kp gv rc rm kn ks) {x:Str} (hx:x∉ks) {b:Addr}{p:Pap} (pA:m6 H b p) (pI:Ky gv rc rm kn x p):PpJ H (putK kp (.inr x) (.ref b)) gv rc rm kn (ks++[x]):=by
 refine⟨h.k.pO hx _,fun y hy=> ?_⟩
 rw[iC]
 by_cases z:y=x
 ·rw[if_pos (by rw[z])]
  exact⟨b,p,rfl,pA,by rw[z];exact pI⟩
 ·rw[if_neg (oV z)]
  rcases List.mem_append.mp hy with w | w
  ·exact h.v y w
  ·exact absurd (by simpa using w) z
theorem Qx {b:Addr}{p:Pap} (h:m6 H b p):SeqAt.shaped p.dat=true:=by
 obtain⟨h1,h2⟩:=h.lay
 show(p.dat.canLay0&&decide (p.dat.depth<=64))=true
 rw[h1,decide_eq_true (by omega)];rfl
theorem PpJ.alike {K:PySem.W.Frag} (h:PpJ H kp gv rc rm kn ks) (g:PpJ H kq gv rc rm kn qs) (e:∀x,x∈ks ↔ x∈qs):Wk K H kp kq:=by
 refine⟨?_,fun k u m=> ?_⟩
 ·rw[h.k.len,g.k.len]
  have h1:=ju h.k.nd fun x hx=>(e x).mp hx
  have h2:=ju g.k.nd fun x hx=>(e x).mpr hx
  omega
 ·have hv:=Dm h.k m
  obtain⟨i,hi⟩:=List.getElem?_of_mem m
  obtain⟨x,rfl,hxi⟩:=h.k.at hi
  have hx:=List.mem_of_getElem? hxi
  obtain⟨b,p,e1,pA,pI⟩:=h.v x hx
  obtain⟨b',p',e2,pA',pI'⟩:=g.v x ((e x).mp hx)
  rw[hv] at e1;cases e1
  have:=pI.one pI'
  subst this
  exact⟨_,_,e2,pA.dat,pA'.dat,Qx pA⟩
end
theorem vq {kw:List (Key×V)}{ws:List Str}{kn:Kn} (k:mJ kw ws) (h:∀x,dI kw (.inr x)=(kn x).map V.int) (x:Str):x∈ws ↔ kn x≠none:=by
 constructor
 ·intro hx z
  exact k.none.mp (by rw[h,z];rfl) hx
 ·intro hx
  refine Decidable.byContradiction fun z=>hx ?_
  have:=k.none.mpr z
  rw[h] at this
  cases e:kn x with
  | none=>rfl
  | some u=>rw[e] at this;cases this
def aah:Sp:=fun vs H Q _=>∃(h g c rcd wl:Addr) (n:Nat) (gv:Kn) (rc:Rn) (kr:List (Key×V)) (rm:Rm) (ws:List Str),vs=[.ref h, .ref rcd, .ref wl]/\jD H h g c n gv rc/\n<=17/\H rcd=some (.dK kr)/\p6 H kr n rm/\H wl=some (.lst (ws.map V.str))/\(∀x∈ws,x∈nmK n)/\
 ∀(pd:Addr) (kp:List (Key×V)) (ks:List Str) (kn:Kn) (rmN:Rm) (rkn:Str->Bool) (H':Hp),aQ H H'->H pd=none->H' pd=some (.dK kp)->PpJ H' kp gv rc rm kn ks->(∀x,x∈ks ↔ kn x≠none)->Built n gv rc rm ws kn rmN rkn->Q (.ref pd) H'
def R6:Sp:=fun vs H Q _=>∃(b:Addr) (p:Pap),vs=[.ref b]/\m6 H b p/\∀H',aQ H H'->Q (.bl true) H'
end RB
set_option maxHeartbeats 4000000
namespace K31
open PySem L2 PySem.Spec PyProof.Rows RB
local macro_rules | `(tactic| walk_at "ne") => `(tactic| first | assumption | exact Ne.symm (by assumption) | exact aH (by assumption) (by assumption) | exact Ne.symm (aH (by assumption) (by assumption)))
local macro_rules | `(tactic| walk_at "heap") => `(tactic| first | assumption | exact ao | (refine (aq (by walk_at "ne")).trans ?_; walk_at "heap"))
local macro_rules | `(tactic| walk_at "side") => `(tactic| first | with_reducible rfl | rfl | assumption | exact SqL.of (by walk_at "heap") | exact SqT.of (by walk_at "heap") | exact Or.inl (SqL.of (by walk_at "heap")) | exact Or.inr (SqT.of (by walk_at "heap")) | exact tL.str _ | exact tL.int _ | exact tL.bl _ | exact tL.tup (by walk_at "heap") | exact Or.inl ⟨rfl, _, SqL.of (by walk_at "heap")⟩ | exact Or.inl ⟨_, SqL.of (by walk_at "heap"), rfl⟩ | exact Nj _ | exact Or.inl (by assumption) | exact Or.inr (by assumption) | walk_at "heap" | omega | (show _ ≤ sizeLine; decide) | (show _ < sizeLine; decide) | exact Or.inr ⟨by decide, by decide⟩ | exact Or.inl ⟨by decide, by decide⟩ | exact Or.inl ⟨by omega, by omega⟩ | exact Or.inr ⟨by omega, by omega⟩ | exact ⟨by omega, by decide⟩ | exact ⟨by omega, by assumption⟩ | exact ⟨by decide, by decide, by decide⟩ | exact ⟨_, SqT.of (by walk_at "heap")⟩ | exact ⟨_, SqL.of (by walk_at "heap")⟩ | (intro z; exact absurd (show (1 : Nat) = 0 from z.1) (by decide)) | (show Nat.log2 _ < 9000; decide +kernel) | ((rw [sizeLine_eq]); (try simp only [len_app]); omega) | exact Nat.le_of_lt (bL (by (simp only [List.length_cons, List.length_nil]); omega)) | decide +kernel)
local macro_rules | `(tactic| walk_at "v") => `(tactic| first
 | ((apply Exists.intro); (repeat apply Exists.intro); (refine And.intro ?_ ?_); walk_at "side")
 | ((refine And.intro ?_ ?_); walk_at "side"))
local macro_rules | `(tactic| walk_at "vs") => `(tactic| repeat walk_at "v")
def top (i:Nat):Stmt:=PySem.Challenge.pw_madeagain_k31_papers_told.main.body.getD i (.Pass ⟨0,0,0,0⟩)
def yC (i j:Nat):Stmt:=match top i with
 | .ClassDef _ _ _ b _ _ _ _ _ _ _=>b.getD j (.Pass ⟨0,0,0,0⟩)
 | _=> .Pass ⟨0,0,0,0⟩
section
local macro_rules | `(tactic| walk_at "side") => `(tactic| first | exact Lk _ _ _ | exact Ip _ _ _ | exact Ir _ _ _ | exact Z5 _ _ _ | exact Dg _ _ _ | exact Nat.le_of_ble_eq_true rfl)
variable {P:Program}{w:World}{K:PySem.W.Frag}{mg:Str->Option Value}{base:Heap}{C:Addr}
abbrev lR:Stmt:=top 5
theorem T5:bI ["kind","r","s"] ["kind","r","s"] (aa lR):=⟨rfl,rfl,rfl,by decide +kernel,rfl,by decide +kernel,by decide +kernel⟩
theorem sy:aF (aa lR) "kind":=by decide +kernel
theorem tZ:aF (aa lR) "r":=by decide +kernel
theorem uc:aF (aa lR) "s":=by decide +kernel
theorem JS:(aa lR).names.lookup ("max":Str)=some NameKind.globalImplicit:=by decide +kernel
theorem JT:("max":Str)≠"__name__":=by decide +kernel
theorem JV:(("max":Str)==("__debug__":Str))=false:=by decide +kernel
theorem T6 {f:Addr}{fd:FuncData} (qd:FnT K mg "joined" lR ["kind","r","s"] f fd) (T:Blt mg):aX P w K mg base CX0 1 f fd ["kind","r","s"] Rw:=by
 refine qd.F.okQ T5 (fun vs H Q E h=> ?_) (fun cdv A outer s H vs Q E hr h=> ?_)
 ·obtain⟨op,u,v,rfl,_⟩:=h
  rfl
 obtain⟨op,u,v,rfl,hm,q⟩:=h
 refine⟨_,(au (cM (cC dY (aj 0 sy) bO (aV _)) (aD (aW (cI jK (aj 1 tZ) (aj 2 uc)))) bJ)
  (au (cM (cC dY (aj 0 sy) bO (aV _)) (aD (aW (cI oO (aj 1 tZ) (aj 2 uc)))) bJ)
  (au (cM (cC dY (aj 0 sy) bO (aV _)) (aD (aW (cI qY (aj 1 tZ) (aj 2 uc)))) bJ)
  (aD (aW (cX (Ru rfl) JS T.Z2 Vh (aG (aj 1 tZ) (aG (aj 2 uc) az)) JT JV)))))), ?_⟩
 cases op with
 | plus=>walk_at "vs";exact q
 | minus=>walk_at "vs";exact q
 | times=>
   have hm:=hm rfl
   walk_at "vs";exact q
 | most=>walk_at "vs";exact q
abbrev cG:Stmt:=yC 6 0
theorem xT:bI ["self","r"] ["self","r"] (aa cG):=⟨rfl,rfl,rfl,by decide +kernel,rfl,by decide +kernel,by decide +kernel⟩
theorem iV:aF (aa cG) "self":=by decide +kernel
theorem vz:aF (aa cG) "r":=by decide +kernel
theorem xU {f:Addr}{fd:FuncData} (fK:gW K C "__init__" "Reckoning.__init__" cG ["self","r"] f fd) (rc:RkC K C):aX P w K mg base CX0 1 f fd ["self","r"] (Nr C):=by
 refine fK.F.okQ xT (fun vs H Q E h=> ?_) (fun cdv A outer s H vs Q E hr h=> ?_)
 ·obtain⟨a,dx,b,r,rfl,_⟩:=h
  rfl
 obtain⟨a,dx,b,r,rfl,e,hR,hw,q⟩:=h
 have nY:=rc.cl
 have nT:=rc.nT
 have nF:=rc.nF
 have nR:=rc.nR
 refine⟨_,(au (mY (aj 0 iV) (gh (aG (aj 1 vz) az)))
  (au (mY (aj 0 iV) (gh az))
  (aD (mY (aj 0 iV) lu)))), ?_⟩
 walk_at "vs"
 intro a1 h1
 have e1:upd H a1 (.lst [V.ref b]) a=some (.ins C dx []):=(aq (aH e h1)).trans e
 walk_at "vs"
 intro a2 h2
 obtain⟨n2a,h2⟩:=d9 h2
 obtain⟨n21,h2⟩:=d9 h2
 have e2:upd (upd (upd H a1 (.lst [V.ref b])) a (.ins C dx (bf "todo" (.ref a1) []))) a2 (.lst []) a=some (.ins C dx (bf "todo" (.ref a1) [])):=(aq (Ne.symm n2a)).trans ao
 walk_at "vs"
 intro a3 h3
 obtain⟨n3a,h3⟩:=d9 h3
 obtain⟨n32,h3⟩:=d9 h3
 obtain⟨_,h3⟩:=d9 h3
 obtain⟨n31,h3⟩:=d9 h3
 have e3:upd (upd (upd (upd (upd H a1 (.lst [V.ref b])) a (.ins C dx (bf "todo" (.ref a1) []))) a2 (.lst [])) a (.ins C dx (bf "found" (.ref a2) (bf "todo" (.ref a1) [])))) a3 (.dK []) a=some (.ins C dx (bf "found" (.ref a2) (bf "todo" (.ref a1) []))):=(aq (Ne.symm n3a)).trans ao
 walk_at "vs"
 have n1a:a1≠a:=fun z=>by rw[z,e] at h1;cases h1
 refine q a1 a2 a3 _ (fun p o hp z=> ?_) h1 h2 h3 ⟨ao,⟨[.ref b], ?_, .cons (.r ?_) .nil⟩, ?_, ?_,Ne.symm n21, ?_⟩
 ·have hp:p≠a:=by simpa using hp
  rw[aq hp,aq (aH z h3),aq hp,aq (aH z h2),aq hp,aq (aH z h1)];exact z
 ·rw[aq n1a,aq (Ne.symm n31),aq n1a,aq (Ne.symm n21),aq n1a];exact ao
 ·refine hR.tups fun p xs z=> ?_
  have hp:p≠a:=fun y=>by rw[y,e] at z;cases z
  rw[aq hp,aq (aH z h3),aq hp,aq (aH z h2),aq hp,aq (aH z h1)];exact z
 ·rw[aq n2a,aq (Ne.symm n32),aq n2a];exact ao
 ·rw[aq n3a];exact ao
 ·show 0+0+2 *(wR r+0)<=10000;omega
abbrev aN:Stmt:=yC 6 2
theorem iW:bI ["self","step","kind","names","s","r"] ["self","step"] (aa aN):=⟨rfl,rfl,rfl,by decide +kernel,rfl,by decide +kernel,by decide +kernel⟩
theorem vA:Loc (aa aN) "kind":=by decide +kernel
theorem aP:aF (aa aN) "step":=by decide +kernel
theorem cP:aF (aa aN) "kind":=by decide +kernel
theorem bw:aF (aa aN) "self":=by decide +kernel
theorem uE:Loc (aa aN) "names":=by decide +kernel
theorem m7:aF (aa aN) "names":=by decide +kernel
theorem wJ:(aa aN).names.lookup ("len":Str)=some NameKind.globalImplicit:=by decide +kernel
theorem wK:("len":Str)≠"__name__":=by decide +kernel
theorem wL:(("len":Str)==("__debug__":Str))=false:=by decide +kernel
theorem yD:Loc (aa aN) "s":=by decide +kernel
theorem yE:Loc (aa aN) "r":=by decide +kernel
theorem tM:(aa aN).names.lookup ("joined":Str)=some NameKind.globalImplicit:=by decide +kernel
theorem yF:aF (aa aN) "s":=by decide +kernel
theorem yG:aF (aa aN) "r":=by decide +kernel
theorem tO:(("joined":Str)==("__debug__":Str))=false:=by decide +kernel
theorem Bm {f g:Addr}{fd gd:FuncData} (fU:gW K C "go_on" "Reckoning.go_on" aN ["self","step"] f fd) (qd:FnT K mg "joined" lR ["kind","r","s"] g gd) (Wn:aX P w K mg base CX0 1 g gd ["kind","r","s"] Rw)
 (T:Blt mg) (rc:RkC K C):aX P w K mg base CX0 2 f fd ["self","step"] (aeT C):=by
 refine fU.F.okQ iW (fun vs H Q E h=> ?_) (fun cdv A outer s H vs Q E hr h=> ?_)
 ·obtain⟨a,dx,a1,a2,a3,v,s,t,f,d,kn,c,rfl,_⟩:=h
  rfl
 obtain⟨a,dx,a1,a2,a3,v,st,t,fo,d,kn,c,rfl,rca,hst,hno,h1,hw,q⟩:=h
 have nY:=rc.cl
 have nT:=rc.nT
 have nF:=rc.nF
 have nR:=rc.nR
 have n13:=rca.n13
 have n23:=rca.n23
 obtain⟨e,⟨ws,e1,hws⟩,e2,e3,ne,hw0⟩:=id rca
 have e2:H a2=some (.lst (fo.map V.int)):=e2
 have e3:H a3=some (.dK (rdK d)):=e3
 refine⟨_,(au (bG (i:=2) iW.nd rfl vA (aO aK (aj 1 aP) aA))
  (aD (cM (cC dY (aj 2 cP) bO (aV _)) (aD (fP (u9 PySem.F.plainAttrs_list PySem.F.slot_list_append PySem.F.type_list_append jB (bR (aj 0 bw)) (gj (aO aK (aj 1 aP) aA) az)))) (aD (cM (cC dY (aj 2 cP) bO (aV _)) (aD (fP (u9 PySem.F.plainAttrs_list PySem.F.slot_list_extend PySem.F.type_list_extend Bf (bR (aj 0 bw)) (XR (gh (Qa (fM (fj bO (gj (aO aK (aj 1 aP) aA) (gj (aO aK (aj 1 aP) aA) az)))) (gj (aO aK (aj 1 aP) aA) az))) az)))) (aD (cM (cC dY (aj 2 cP) bO (aV _)) (aD (fP (u9 PySem.F.plainAttrs_list PySem.F.slot_list_extend PySem.F.type_list_extend Bf (bR (aj 0 bw)) (XR (gh (Qa (fM (fj bO (gj (aO aK (aj 1 aP) aA) az))) (gj (aO aK (aj 1 aP) aA) az))) az)))) (aD (cM (cC dY (aj 2 cP) bO (aV _)) (aD (fP (u9 PySem.F.plainAttrs_list PySem.F.slot_list_append PySem.F.type_list_append jB (bR (aj 0 bw)) (ah8 (Vj (cC PN (Fl PySem.F.plainAttrs_list PySem.F.slot_list_pop PySem.F.type_list_pop zF (bR (aj 0 bw))) aA (aV _)) (aO aK (aj 1 aP) aA) (aO aK (aj 1 aP) aA)) az)))) (aD (cM (cC dY (aj 2 cP) bO (aV _)) (au (bG (i:=3) iW.nd rfl uE (aO aK (aj 1 aP) aA))
  (aD (fP (u9 PySem.F.plainAttrs_list PySem.F.slot_list_append PySem.F.type_list_append jB (bR (aj 0 bw)) (Qa (fM (fj bO (gj (aO aK (aj 3 m7) (cI nQ (Fl PySem.F.plainAttrs_list PySem.F.slot_list_pop PySem.F.type_list_pop zF (bR (aj 0 bw))) (cX jC wJ T.vf pN (aG (aj 3 m7) az) wK wL))) az))) az))))) (aD (cM (cC dY (aj 2 cP) bO (aV _)) (au (bG (i:=4) iW.nd rfl yD (Fl PySem.F.plainAttrs_list PySem.F.slot_list_pop PySem.F.type_list_pop zF (bR (aj 0 bw))))
  (au (bG (i:=5) iW.nd rfl yE (Fl PySem.F.plainAttrs_list PySem.F.slot_list_pop PySem.F.type_list_pop zF (bR (aj 0 bw))))
  (aD (fP (u9 PySem.F.plainAttrs_list PySem.F.slot_list_append PySem.F.type_list_append jB (bR (aj 0 bw)) (qD (aJ (Wn.mono (by omega)) hr tM qd.m qd.F.kp qd.b .nil aU (gj (aO aK (aj 1 aP) aA) (aG (aj 5 yG) (aG (aj 4 yF) az))) tO) az)))))) (aD (fP (u9 PySem.F.plainAttrs_list PySem.F.slot_list_extend PySem.F.type_list_extend Bf (bR (aj 0 bw)) (XR (gh (Qa (fM (fj bO (aG (aj 2 cP) az))) (gj (aO aK (aj 1 aP) aA) (gj (aO aK (aj 1 aP) aA) az)))) az))))))))))))))))), ?_⟩
 have hi:=h1.inv _ _ rfl
 have hlw:ws.length=t.length:=hws.length
 have hlt:=Qg t
 have hw1:d.length+fo.length+2 * wT t<=10000:=hw0
 cases hst with
 | @r b r hr'=>
   cases hr' with
   | @num _ n eb=>
     have hi:c=⟨t,fo++[n],d⟩:=hi
     have hz:(fo.map V.int).length<sizeLine:=by rw[List.length_map,sizeLine_eq];omega
     subst hi
     walk_at "vs"
     have b:But [a1,a2,a3] H (upd H a2 (.lst (fo.map V.int++[V.int n]))):=But.set _ (by simp)
     exact q _ b (rca.next b ((aq ne).trans e1) (hws.tups (rca.lists b)) (by rw[ao,List.map_append];rfl) ((aq (Ne.symm n23)).trans e3) hw)
   | rd eb=>exact absurd rfl (hno _)
   | @bin _ x y op ra rb eb hx hy=>
     have hi:c=⟨t++[.join op, .r rb, .r ra],fo,d⟩:=hi
     subst hi
     have hz:∀p:Addr,ws.length+[V.ref p,V.ref y,V.ref x].length<=sizeLine:=fun p=>by rw[sizeLine_eq];show ws.length+3<=_;omega
     have aid:atI [V.str op.word,V.ref x,V.ref y] 0=some (.str op.word):=lE (j:=0) rfl
     have aie:atI [V.str op.word,V.ref x,V.ref y] 1=some (.ref x):=lE (j:=1) rfl
     have ae5:atI [V.str op.word,V.ref x,V.ref y] 2=some (.ref y):=lE (j:=2) rfl
     have fin:∀p1 p2,H p1=none->upd H p1 (.tup [V.str "join",V.str op.word]) p2=none->Q .non (upd (upd (upd H p1 (.tup [V.str "join",V.str op.word])) p2 (.lst [V.ref p1,V.ref y,V.ref x])) a1 (.lst (ws++[V.ref p1,V.ref y,V.ref x]))):=fun p1 p2 h1 h2=>by
      have b:But [a1,a2,a3] H (upd (upd (upd H p1 (.tup [V.str "join",V.str op.word])) p2 (.lst [V.ref p1,V.ref y,V.ref x])) a1 (.lst (ws++[V.ref p1,V.ref y,V.ref x]))):=(But.new _ h1).trans ((But.new _ h2).trans (But.set _ (by simp)))
      have tp:=rca.lists b
      have n1:p1≠a1:=fun z=>by rw[z,e1] at h1;cases h1
      have n2:p1≠p2:=fun z=>by rw[<-z,ao] at h2;cases h2
      have h2':=(d9 h2).2
      refine q _ b (rca.next b ao ((hws.tups tp).app (.cons (.join ?_) (.cons (.r (hy.tups tp)) (.cons (.r (hx.tups tp)) .nil)))) ?_ ?_ hw)
      ·rw[aq n1,aq n2];exact ao
      ·rw[aq (Ne.symm ne),aq (aH e2 h2'),aq (aH e2 h1)];exact e2
      ·rw[aq (Ne.symm n13),aq (aH e3 h2'),aq (aH e3 h1)];exact e3
     have ex1:∀p1,H p1=none->upd H p1 (.tup [V.str "join",V.str op.word]) a1=some (.lst ws):=fun p1 h1=>(aq (aH e1 h1)).trans e1
     have ex2:∀p1 p2,H p1=none->upd H p1 (.tup [V.str "join",V.str op.word]) p2=none->upd (upd H p1 (.tup [V.str "join",V.str op.word])) p2 (.lst [V.ref p1,V.ref y,V.ref x]) a1=some (.lst ws):=fun p1 p2 h1 h2=>(aq (aH (ex1 p1 h1) h2)).trans (ex1 p1 h1)
     have ez:∀p1,H p1=none->upd H p1 (.tup [V.str "join",V.str op.word]) b=some (.tup [V.str op.word,V.ref x,V.ref y]):=fun p1 h1=>(aq (aH eb h1)).trans eb
     cases op with
     | plus=>
       walk_at "vs"
       intro p1 h1
       have ez1:=ez p1 h1
       walk_at "vs"
       intro p2 h2
       have ex:=ex2 p1 p2 h1 h2
       have hz1:=hz p1
       walk_at "vs"
       exact fin p1 p2 h1 h2
     | minus=>
       walk_at "vs"
       intro p1 h1
       have ez1:=ez p1 h1
       walk_at "vs"
       intro p2 h2
       have ex:=ex2 p1 p2 h1 h2
       have hz1:=hz p1
       walk_at "vs"
       exact fin p1 p2 h1 h2
     | times=>
       walk_at "vs"
       intro p1 h1
       have ez1:=ez p1 h1
       walk_at "vs"
       intro p2 h2
       have ex:=ex2 p1 p2 h1 h2
       have hz1:=hz p1
       walk_at "vs"
       exact fin p1 p2 h1 h2
     | most=>
       walk_at "vs"
       intro p1 h1
       have ez1:=ez p1 h1
       walk_at "vs"
       intro p2 h2
       have ex:=ex2 p1 p2 h1 h2
       have hz1:=hz p1
       walk_at "vs"
       exact fin p1 p2 h1 h2
   | @pick _ x y z ra rb rc eb hx hy hz0=>
     have hi:c=⟨t++[.branch rb rc, .r ra],fo,d⟩:=hi
     subst hi
     have hz:∀p:Addr,ws.length+[V.ref p,V.ref x].length<=sizeLine:=fun p=>by rw[sizeLine_eq];show ws.length+2<=_;omega
     walk_at "vs"
     intro p1 h1
     have ez1:upd H p1 (.tup [V.str "branch",V.ref y,V.ref z]) b=some (.tup [V.str "pick",V.ref x,V.ref y,V.ref z]):=(aq (aH eb h1)).trans eb
     walk_at "vs"
     intro p2 h2
     have ex:upd (upd H p1 (.tup [V.str "branch",V.ref y,V.ref z])) p2 (.lst [V.ref p1,V.ref x]) a1=some (.lst ws):=(aq (aH e1 (d9 h2).2)).trans ((aq (aH e1 h1)).trans e1)
     have hz1:=hz p1
     walk_at "vs"
     have b:But [a1,a2,a3] H (upd (upd (upd H p1 (.tup [V.str "branch",V.ref y,V.ref z])) p2 (.lst [V.ref p1,V.ref x])) a1 (.lst (ws++[V.ref p1,V.ref x]))):=(But.new _ h1).trans ((But.new _ h2).trans (But.set _ (by simp)))
     have tp:=rca.lists b
     have n1:p1≠a1:=fun z=>by rw[z,e1] at h1;cases h1
     have n2:p1≠p2:=fun z=>by rw[<-z,ao] at h2;cases h2
     have h2':=(d9 h2).2
     refine q _ b (rca.next b ao ((hws.tups tp).app (.cons (.branch (by rw[aq n1,aq n2];exact ao) (hy.tups tp) (hz0.tups tp)) (.cons (.r (hx.tups tp)) .nil))) ?_ ?_ hw)
     ·rw[aq (Ne.symm ne),aq (aH e2 h2'),aq (aH e2 h1)];exact e2
     ·rw[aq (Ne.symm n13),aq (aH e3 h2'),aq (aH e3 h1)];exact e3
   | @cho _ x y ra ns eb hx hy=>
     have hi:c=⟨t++[.among ns, .r ra],fo,d⟩:=hi
     subst hi
     have hz:∀p:Addr,ws.length+[V.ref p,V.ref x].length<=sizeLine:=fun p=>by rw[sizeLine_eq];show ws.length+2<=_;omega
     walk_at "vs"
     intro p1 h1
     have ez1:upd H p1 (.tup [V.str "among",V.ref y]) b=some (.tup [V.str "choose",V.ref x,V.ref y]):=(aq (aH eb h1)).trans eb
     walk_at "vs"
     intro p2 h2
     have ex:upd (upd H p1 (.tup [V.str "among",V.ref y])) p2 (.lst [V.ref p1,V.ref x]) a1=some (.lst ws):=(aq (aH e1 (d9 h2).2)).trans ((aq (aH e1 h1)).trans e1)
     have hz1:=hz p1
     walk_at "vs"
     have b:But [a1,a2,a3] H (upd (upd (upd H p1 (.tup [V.str "among",V.ref y])) p2 (.lst [V.ref p1,V.ref x])) a1 (.lst (ws++[V.ref p1,V.ref x]))):=(But.new _ h1).trans ((But.new _ h2).trans (But.set _ (by simp)))
     have tp:=rca.lists b
     have n1:p1≠a1:=fun z=>by rw[z,e1] at h1;cases h1
     have n2:p1≠p2:=fun z=>by rw[<-z,ao] at h2;cases h2
     have h2':=(d9 h2).2
     refine q _ b (rca.next b ao ((hws.tups tp).app (.cons (.among (by rw[aq n1,aq n2];exact ao) (tp _ _ hy)) (.cons (.r (hx.tups tp)) .nil))) ?_ ?_ hw)
     ·rw[aq (Ne.symm ne),aq (aH e2 h2'),aq (aH e2 h1)];exact e2
     ·rw[aq (Ne.symm n13),aq (aH e3 h2'),aq (aH e3 h1)];exact e3
 | @branch b x y ra rb eb hx hy=>
   obtain⟨g,v,hf,hi⟩:=hi
   have hf:fo=g++[v]:=hf
   subst hf
   subst hi
   have hl:((g++[v]).map V.int)[((g++[v]).map V.int).length - 1]? =some (.int v):=by rw[List.map_append,List.length_append];exact List.getElem?_concat_length
   have hd:((g++[v]).map V.int).dropLast=g.map V.int:=by rw[List.map_append];exact List.dropLast_concat
   have hz:ws.length<sizeLine:=by rw[sizeLine_eq];omega
   walk_at "vs"
   rw[hd]
   have nb:b≠a2:=fun z=>by rw[z,e2] at eb;cases eb
   have eb1:upd H a2 (.lst (g.map V.int)) b=some (.tup [V.str "branch",V.ref x,V.ref y]):=(aq nb).trans eb
   have e11:upd H a2 (.lst (g.map V.int)) a1=some (.lst ws):=(aq ne).trans e1
   have fin:∀(z:Addr) (rz:R),IsR H z rz->rz=(if v>0 then ra else rb)->Q .non (upd (upd H a2 (.lst (g.map V.int))) a1 (.lst (ws++[V.ref z]))):=fun z rz hz1 hz2=>by
    subst hz2
    have b:But [a1,a2,a3] H (upd (upd H a2 (.lst (g.map V.int))) a1 (.lst (ws++[V.ref z]))):=(But.set _ (by simp)).trans (But.set _ (by simp))
    have tp:=rca.lists b
    exact q _ b (rca.next b ao ((hws.tups tp).app (.cons (.r (hz1.tups tp)) .nil)) ((aq (Ne.symm ne)).trans ao) ((aq (Ne.symm n13)).trans ((aq (Ne.symm n23)).trans e3)) hw)
   by_cases hv:0<v
   ·refine aeI hv ?_
    walk_at "vs"
    exact fin x ra hx (if_pos hv).symm
   ·refine aeJ hv ?_
    walk_at "vs"
    exact fin y rb hy (if_neg hv).symm
 | @among b x ns eb hx=>
   obtain⟨g,v,y,hf,hy,hi⟩:=hi
   have hf:fo=g++[v]:=hf
   subst hf
   subst hi
   have hl:((g++[v]).map V.int)[((g++[v]).map V.int).length - 1]? =some (.int v):=by rw[List.map_append,List.length_append];exact List.getElem?_concat_length
   have hd:((g++[v]).map V.int).dropLast=g.map V.int:=by rw[List.map_append];exact List.dropLast_concat
   have hz:ws.length<sizeLine:=by rw[sizeLine_eq];omega
   have hln:(ns.map V.str).length=ns.length:=List.length_map _
   have hpos:0<((ns.map V.str).length:Int):=by
    rw[hln]
    cases ns with
    | nil=>simp[xN] at hy
    | cons n ns=>simp only[List.length_cons];omega
   have hat:atI (ns.map V.str) (v % ((ns.map V.str).length:Int))=some (.str y):=by
    rw[hln] at hpos ⊢
    have z0:=Int.emod_nonneg v (show(ns.length:Int)≠0 by omega)
    obtain⟨k,hk⟩:=Int.eq_ofNat_of_zero_le z0
    unfold xN at hy
    rw[hk] at hy ⊢
    exact lE (by rw[List.getElem?_map,show ns[k]? =some y from hy];rfl)
   have nx:x≠a2:=fun z=>by rw[z,e2] at hx;cases hx
   have ex1:upd H a2 (.lst (((g++[v]).map V.int).dropLast)) x=some (.tup (ns.map V.str)):=(aq nx).trans hx
   have e11:upd H a2 (.lst (((g++[v]).map V.int).dropLast)) a1=some (.lst ws):=(aq ne).trans e1
   walk_at "vs"
   intro p1 h1
   have e12:upd (upd H a2 (.lst (((g++[v]).map V.int).dropLast))) p1 (.tup [V.str "read",V.str y]) a1=some (.lst ws):=(aq (aH e11 h1)).trans e11
   walk_at "vs"
   have n1:p1≠a1:=fun z=>by rw[z,e11] at h1;cases h1
   obtain⟨n2,h1'⟩:=d9 h1
   have b:But [a1,a2,a3] H (upd (upd (upd H a2 (.lst (((g++[v]).map V.int).dropLast))) p1 (.tup [V.str "read",V.str y])) a1 (.lst (ws++[V.ref p1]))):=(But.set _ (by simp)).trans ((But.new _ h1).trans (But.set _ (by simp)))
   have tp:=rca.lists b
   refine q _ b (rca.next b ao ((hws.tups tp).app (.cons (.r (.rd ((aq n1).trans ao))) .nil)) ?_ ?_ hw)
   ·rw[aq (Ne.symm ne),aq (Ne.symm n2),ao,hd]
   ·rw[aq (Ne.symm n13),aq (aH e3 h1'),aq (Ne.symm n23)];exact e3
 | @join b op eb=>
   obtain⟨g,u,v,hf,hm,hi⟩:=hi
   have hf:fo=g++[u,v]:=hf
   subst hf
   subst hi
   have hl:((g++[u,v]).map V.int)[((g++[u,v]).map V.int).length - 1]? =some (.int v):=by simp
   have hd:((g++[u,v]).map V.int).dropLast=(g++[u]).map V.int:=by simp
   have hl2:((g++[u]).map V.int)[((g++[u]).map V.int).length - 1]? =some (.int u):=by simp
   have hd2:((g++[u]).map V.int).dropLast=g.map V.int:=by simp
   have hz:(g.map V.int).length<sizeLine:=by
    rw[List.length_map,sizeLine_eq]
    have:(g++[u,v]).length=g.length+2:=by rw[List.length_append];rfl
    omega
   have nb:b≠a2:=fun z=>by rw[z,e2] at eb;cases eb
   have na2:a≠a2:=fun z=>rca.ins (by simp[z])
   have hl3:(((g++[u,v]).map V.int).dropLast)[(((g++[u,v]).map V.int).dropLast).length - 1]? =some (.int u):=by rw[hd];exact hl2
   have hd3:(((g++[u,v]).map V.int).dropLast).dropLast=g.map V.int:=by rw[hd];exact hd2
   have hz3:((((g++[u,v]).map V.int).dropLast).dropLast).length<sizeLine:=by rw[hd3];exact hz
   walk_at "vs"
   have b:But [a1,a2,a3] H (upd H a2 (.lst (g.map V.int++[V.int (op.ap u v)]))):=But.set _ (by simp)
   have q1:=q _ b (rca.next b ((aq ne).trans e1) (hws.tups (rca.lists b)) (by rw[ao,List.map_append];rfl) ((aq (Ne.symm n23)).trans e3) hw)
   have eq:upd (upd (upd H a2 (.lst (((g++[u,v]).map V.int).dropLast))) a2 (.lst ((((g++[u,v]).map V.int).dropLast).dropLast))) a2 (.lst ((((g++[u,v]).map V.int).dropLast).dropLast++[V.int (op.ap u v)]))=upd H a2 (.lst (g.map V.int++[V.int (op.ap u v)])):=by rw[wk,wk,hd3]
   show Q .non (upd (upd (upd H a2 (.lst (((g++[u,v]).map V.int).dropLast))) a2 (.lst ((((g++[u,v]).map V.int).dropLast).dropLast))) a2 (.lst ((((g++[u,v]).map V.int).dropLast).dropLast++[V.int (op.ap u v)])))
   rw[eq]
   exact q1
end
section
local macro_rules | `(tactic| walk_at "side") => `(tactic| first | exact Lk _ _ _ | exact Ip _ _ _ | exact Ir _ _ _ | exact Z5 _ _ _ | exact Dg _ _ _ | exact Nat.le_of_ble_eq_true rfl)
variable {P:Program}{w:World}{K:PySem.W.Frag}{mg:Str->Option Value}{base:Heap}{C:Addr}
abbrev bY:Stmt:=yC 6 1
theorem qe:bI ["self","known","step"] ["self","known"] (aa bY):=⟨rfl,rfl,rfl,by decide +kernel,rfl,by decide +kernel,by decide +kernel⟩
theorem cY:aF (aa bY) "self":=by decide +kernel
theorem tQ:Loc (aa bY) "step":=by decide +kernel
theorem bW:aF (aa bY) "step":=by decide +kernel
theorem iY:aF (aa bY) "known":=by decide +kernel
theorem yH {f g:Addr}{fd gd:FuncData} (eF:gW K C "lacking" "Reckoning.lacking" bY ["self","known"] f fd) (fU:gW K C "go_on" "Reckoning.go_on" aN ["self","step"] g gd) (Dn:aX P w K mg base CX0 2 g gd ["self","step"] (aeT C))
 (T:Blt mg) (rc:RkC K C):aX P w K mg base CX0 3 f fd ["self","known"] (VD C):=by
 refine eF.F.okQ qe (fun vs H Q E h=> ?_) (fun cdv A outer s H vs Q E hr h=> ?_)
 ·obtain⟨a,dx,a1,a2,a3,d,kn,n,c,c',rfl,_⟩:=h
  rfl
 obtain⟨a,dx,a1,a2,a3,dd,kn,n0,c0,c',rfl,ace,⟨kvs,ed,hkn⟩,nd3,hn0,hhalt,q⟩:=h
 have nY:=rc.cl
 have nT:=rc.nT
 have nF:=rc.nF
 have nR:=rc.nR
 have hdS:dd∉[a1,a2,a3]:=fun z=>by
  obtain⟨ws,e1,_⟩:=ace.e1
  have z:dd=a1\/dd=a2\/dd=a3:=by simpa using z
  rcases z with z | z | z
  ·rw[z,e1] at ed;cases ed
  ·rw[z,ace.e2] at ed;cases ed
  ·exact nd3 z
 refine⟨_,(au (Ia PassesOwn.never (HN (bR (aj 0 cY))) (au (bG (i:=2) qe.nd rfl tQ (Fl PySem.F.plainAttrs_list PySem.F.slot_list_pop PySem.F.type_list_pop zF (bR (aj 0 cY))))
  (aD (cM (cC Lg (aO aK (aj 2 bW) aA) bO (aV _)) (aD (fP (qZ (aj 0 cY) nY fU.m (Dn.mono (by omega)) hr fU.b .nil aU (aG (aj 2 bW) az)))) (aD (cM (uD (bN hr) (aO aK (aj 2 bW) aA) (aj 1 iY)) (au (gm (bN hr) (bR (aj 0 cY)) (aO aK (aj 2 bW) aA) (cZ (bN hr) (aj 1 iY) (aO aK (aj 2 bW) aA)))
  (aD (fP (u9 PySem.F.plainAttrs_list PySem.F.slot_list_append PySem.F.type_list_append jB (bR (aj 0 cY)) (gj (cZ (bN hr) (aj 1 iY) (aO aK (aj 2 bW) aA)) az))))) (au (fP (u9 PySem.F.plainAttrs_list PySem.F.slot_list_append PySem.F.type_list_append jB (bR (aj 0 cY)) (aG (aj 2 bW) az)))
  (aD (aW (aO aK (aj 2 bW) aA))))))))))
  (aD (aW PB))), ?_⟩
 refine⟨fun n σ H'=>∃c t,σ=[some (.ref a),some (.ref dd),t]/\But [a1,a2,a3] H H'/\RcAt H' a C dx a1 a2 a3 c/\StN kn n c c',
  ⟨n0,c0,none,rfl,But.refl _ _,ace,hn0⟩, ?_⟩
 rintro n σ H1 ⟨c,t0,rfl,b1,rca,hst⟩
 have n13:=rca.n13
 have n23:=rca.n23
 have na:a∉[a1,a2,a3]:=rca.ins
 have na1:a≠a1:=fun z=>na (by simp[z])
 have na2:a≠a2:=fun z=>na (by simp[z])
 have na3:a≠a3:=fun z=>na (by simp[z])
 obtain⟨e,⟨ws,e1,hws⟩,e2,e3,ne,hw0⟩:=id rca
 have ed1:=b1 _ _ hdS ed
 rcases List.eq_nil_or_concat c.todo with hnil | ⟨t,st,hs⟩
 ·rw[hnil] at hws
  cases hws
  have ec:=hst.halt (.inl hnil)
  subst ec
  walk_at "vs"
  exact(q H1 b1 rca).1 hnil
 ·rw[List.concat_eq_append] at hs
  rw[hs] at hws
  obtain⟨us,v,rfl,hus,hv⟩:=hws.snoc
  have hlu:=hus.length
  have hlt:=Qg t
  have hw1:c.rds.length+c.found.length+2 * wT (t++[st])<=10000:=by have:=hw0;unfold Cf.w at this;rw[hs] at this;exact this
  rw[oU] at hw1
  have hl:(us++[v])[(us++[v]).length - 1]? =some v:=by simp
  have hd:(us++[v]).dropLast=us:=List.dropLast_concat
  have hne:(us++[v]).isEmpty=false:=by simp
  have hz:us.length<sizeLine:=by rw[sizeLine_eq];omega
  refine⟨_,rfl,a,C,dx,_, .ref a1,rfl,e,nY,nT,Lk _ _ _,true, .inl ⟨us++[v],SqL.of e1,by simp⟩, ?_⟩
  refine(if_pos (rfl:true=true)).mpr ?_
  cases hst with
  | zero=>
    rcases hhalt with h | ⟨t',x,h,hx⟩
    ·rw[hs] at h;simp at h
    ·rw[hs] at h
     obtain⟨rfl,rfl⟩:=lA h
     refine⟨fun _ _=>False,fun _ _ z=>z.elim, ?_⟩
     cases hv with
     | @r p _ hr'=>
     cases hr' with
     | rd ep=>
     have np:p≠a1:=fun z=>by rw[z,e1] at ep;cases ep
     have nda:dd≠a1:=fun z=>hdS (by simp[z])
     have g1:bT (upd H1 a1 (.lst (us++[V.ref p]).dropLast)) dd (.str x) none:=by
      have:=bT.k (H:=upd H1 a1 (.lst (us++[V.ref p]).dropLast)) (k:= .inr x) ((aq nda).trans ed1)
      rw[hkn,hx] at this
      exact this
     have hzd:((us++[V.ref p]).dropLast).length<sizeLine:=by rw[hd];exact hz
     walk_at "vs"
     have hq:=(q H1 b1 rca).2 _ x hs
     have eq:upd (upd H1 a1 (.lst (us++[V.ref p]).dropLast)) a1 (.lst ((us++[V.ref p]).dropLast++[V.ref p]))=H1:=by rw[wk,hd,abZ e1]
     show Q (.str x) (upd (upd H1 a1 (.lst (us++[V.ref p]).dropLast)) a1 (.lst ((us++[V.ref p]).dropLast++[V.ref p])))
     rw[eq]
     exact hq
  | @succ n _ c1 _ h1 ht=>
    have hi:=h1.inv _ _ hs
    refine⟨fun σ' H'=>Wr (∃c t,σ'=[some (.ref a),some (.ref dd),t]/\But [a1,a2,a3] H H'/\RcAt H' a C dx a1 a2 a3 c/\StN kn n c c'), ?_, ?_⟩
    ·rintro σ' H' ⟨h⟩
     exact⟨n,by omega,h⟩
    by_cases hrd:∃x,st= .r (.rd x)
    ·obtain⟨x,rfl⟩:=hrd
     obtain⟨val,hx,rfl⟩:=hi
     cases hv with
     | @r p _ hr'=>
     cases hr' with
     | rd ep=>
     have np:p≠a1:=fun z=>by rw[z,e1] at ep;cases ep
     have np3:p≠a3:=fun z=>by rw[z,e3] at ep;cases ep
     have nda:dd≠a1:=fun z=>hdS (by simp[z])
     have aif:dd≠a3:=fun z=>hdS (by simp[z])
     have ne2:a2≠a1:=Ne.symm ne
     have aih:a3≠a1:=Ne.symm n13
     have aii:a3≠a2:=Ne.symm n23
     have hv0:dI kvs (.inr x)=some (.int val):=by rw[hkn,hx];rfl
     have ed2:upd H1 a1 (.lst (us++[V.ref p]).dropLast) dd=some (.dK kvs):=(aq nda).trans ed1
     have e32:upd H1 a1 (.lst (us++[V.ref p]).dropLast) a3=some (.dK (rdK c.rds)):=(aq aih).trans e3
     have g1:bT (upd H1 a1 (.lst (us++[V.ref p]).dropLast)) dd (.str x) (some (.int val)):=by
      have:=bT.k (k:= .inr x) ed2
      rw[hv0] at this
      exact this
     have hlr:(rdK c.rds).length<sizeLine:=by rw[show(rdK c.rds).length=c.rds.length from List.length_map _,sizeLine_eq];omega
     have pt:jn (upd H1 a1 (.lst (us++[V.ref p]).dropLast)) a3 (.str x) (.int val) (upd (upd H1 a1 (.lst (us++[V.ref p]).dropLast)) a3 (.dK (rdK (uC c.rds x val)))):=by
      have:=jn.k (k:= .inr x) (v:= .int val) e32 hlr
      rw[X6] at this
      exact this
     have ed3:upd (upd H1 a1 (.lst (us++[V.ref p]).dropLast)) a3 (.dK (rdK (uC c.rds x val))) dd=some (.dK kvs):=(aq aif).trans ed2
     have g2:bT (upd (upd H1 a1 (.lst (us++[V.ref p]).dropLast)) a3 (.dK (rdK (uC c.rds x val)))) dd (.str x) (some (.int val)):=by
      have:=bT.k (k:= .inr x) ed3
      rw[hv0] at this
      exact this
     have hzf:(c.found.map V.int).length<sizeLine:=by rw[List.length_map,sizeLine_eq];omega
     walk_at "vs"
     have b2:But [a1,a2,a3] H1 (upd (upd (upd H1 a1 (.lst (us++[V.ref p]).dropLast)) a3 (.dK (rdK (uC c.rds x val)))) a2 (.lst (c.found.map V.int++[V.int val]))):=(But.set _ (by simp)).trans ((But.set _ (by simp)).trans (But.set _ (by simp)))
     have tp:=rca.lists b2
     refine⟨⟨⟨t,c.found++[val],uC c.rds x val⟩,_,rfl,b1.trans b2,rca.next b2 (ws:=us) ?_ (hus.tups tp) ?_ ?_ (Nat.le_trans h1.w hw0),ht⟩⟩
     ·rw[aq ne,aq n13,ao,hd]
     ·rw[ao,List.map_append];rfl
     ·rw[aq aii,ao]
    ·have hno:∀x,st≠ .r (.rd x):=fun x z=>hrd ⟨x,z⟩
     obtain⟨p,k,xs,rfl,ep,hk⟩:=hv.hd hno
     have np:p≠a1:=fun z=>by rw[z,e1] at ep;cases ep
     have at0:atI (V.str k::xs) 0=some (.str k):=lE (j:=0) rfl
     walk_at "vs"
     refine aeK (fun z=>hk (V.str.inj z)) ?_
     have b2:But [a1,a2,a3] H1 (upd H1 a1 (.lst (us++[V.ref p]).dropLast)):=But.set _ (by simp)
     have tp:=rca.lists b2
     have rc2:RcAt (upd H1 a1 (.lst (us++[V.ref p]).dropLast)) a C dx a1 a2 a3 ⟨t,c.found,c.rds⟩:=rca.next b2 (ws:=us) (by rw[ao,hd]) (hus.tups tp) ((aq (Ne.symm ne)).trans e2) ((aq (Ne.symm n13)).trans e3) (by show c.rds.length+c.found.length+2 * wT t<=10000;omega)
     have h1':St1 kn ⟨t++[st],c.found,c.rds⟩ c1:=by rw[<-hs];exact h1
     have hv2:=hv.tups tp
     have hwc:=Nat.le_trans h1.w hw0
     walk_at "vs"
     intro H3 b3 rc3
     exact⟨⟨c1,_,rfl,b1.trans (b2.trans b3),rc3,ht⟩⟩
end
section
variable {P:Program}{w:World}{K:PySem.W.Frag}{mg:Str->Option Value}{base:Heap}
abbrev cz:Stmt:=top 8
theorem Bo:bI ["thing"] ["thing"] (aa cz):=⟨rfl,rfl,rfl,by decide +kernel,rfl,by decide +kernel,by decide +kernel⟩
theorem jY:(aa cz).names.lookup ("isinstance":Str)=some NameKind.globalImplicit:=by decide +kernel
theorem vB:(aa cz).names.lookup ("bool":Str)=some NameKind.globalImplicit:=by decide +kernel
theorem vC:("bool":Str)≠"__name__":=by decide +kernel
theorem vD:(("bool":Str)==("__debug__":Str))=false:=by decide +kernel
theorem m8:aF (aa cz) "thing":=by decide +kernel
theorem jZ:("isinstance":Str)≠"__name__":=by decide +kernel
theorem j0:(("isinstance":Str)==("__debug__":Str))=false:=by decide +kernel
theorem wM:(aa cz).names.lookup ("int":Str)=some NameKind.globalImplicit:=by decide +kernel
theorem wN:("int":Str)≠"__name__":=by decide +kernel
theorem wO:(("int":Str)==("__debug__":Str))=false:=by decide +kernel
theorem Bp {f:Addr}{fd:FuncData} (bB:FnT K mg "is_whole_number" cz ["thing"] f fd) (T:Blt mg) (kd:Kinds K):aX P w K mg base CX0 1 f fd ["thing"] (Lh K):=by
 refine bB.F.okQ Bo (fun vs H Q E h=> ?_) (fun cdv A outer s H vs Q E hr h=> ?_)
 ·obtain⟨v,t,rfl,_⟩:=h
  rfl
 obtain⟨v,t,rfl,ht,q⟩:=h
 refine⟨_,(aD (aW (Fj (cX yq jY T.iH gH (aG (aj 0 m8) (aG (qX (v:= .ty "int") wM T.Vl Pz rfl wN wO) az)) jZ j0) (HW (abz (cX yq jY T.iH gH (aG (aj 0 m8) (aG (qX (v:= .ty "bool") vB T.Vm Ri rfl vC vD) az)) jZ j0)))))), ?_⟩
 have h1:=ht.ty
 have h2:=ht.isi kd (c:="int") (by simp[tys])
 have h3:=ht.isi kd (c:="bool") (by simp[tys])
 walk_at "vs"
 cases ht with
 | bl b=>walk_at "vs";exact q
 | int i=>walk_at "vs";exact q
 | non=>exact q
 | str x=>exact q
 | tup e h=>exact q
 | oth h hT k=>rcases hT with rfl | rfl<;>exact q
abbrev d7:Stmt:=top 9
theorem Qy:bI ["told","thing"] ["told","thing"] (aa d7):=⟨rfl,rfl,rfl,by decide +kernel,rfl,by decide +kernel,by decide +kernel⟩
theorem jf:(aa d7).names.lookup ("isinstance":Str)=some NameKind.globalImplicit:=by decide +kernel
theorem vG:(aa d7).names.lookup ("tuple":Str)=some NameKind.globalImplicit:=by decide +kernel
theorem vH:("tuple":Str)≠"__name__":=by decide +kernel
theorem vI:(("tuple":Str)==("__debug__":Str))=false:=by decide +kernel
theorem iy:aF (aa d7) "told":=by decide +kernel
theorem jg:("isinstance":Str)≠"__name__":=by decide +kernel
theorem jh:(("isinstance":Str)==("__debug__":Str))=false:=by decide +kernel
theorem yI:(aa d7).names.lookup ("len":Str)=some NameKind.globalImplicit:=by decide +kernel
theorem yJ:("len":Str)≠"__name__":=by decide +kernel
theorem yK:(("len":Str)==("__debug__":Str))=false:=by decide +kernel
theorem gD:aF (aa d7) "thing":=by decide +kernel
theorem Jj:(aa d7).names.lookup ("all":Str)=some NameKind.globalImplicit:=by decide +kernel
theorem Jk:(aa d7).names.lookup ("zip":Str)=some NameKind.globalImplicit:=by decide +kernel
theorem Bq:(("is_same":Str)==("__debug__":Str))=false:=by decide +kernel
theorem Jl:("all":Str)≠"__name__":=by decide +kernel
theorem Jm:(("all":Str)==("__debug__":Str))=false:=by decide +kernel
theorem lU:(aa d7).names.lookup ("is_whole_number":Str)=some NameKind.globalImplicit:=by decide +kernel
theorem lV:(("is_whole_number":Str)==("__debug__":Str))=false:=by decide +kernel
theorem yL:(aa d7).names.lookup ("str":Str)=some NameKind.globalImplicit:=by decide +kernel
theorem yM:("str":Str)≠"__name__":=by decide +kernel
theorem yN:(("str":Str)==("__debug__":Str))=false:=by decide +kernel
theorem Dp {d:Nat}{f g0:Addr}{fd gd0:FuncData} (dO:FnT K mg "is_same" d7 ["told","thing"] f fd) (vJ:aX P w K mg base CX0 (d+1) f fd ["told","thing"] (fun vs H Q E=>0<d/\Jd K (d - 1) vs H Q E))
 (bB:FnT K mg "is_whole_number" cz ["thing"] g0 gd0) (gY:aX P w K mg base CX0 1 g0 gd0 ["thing"] (Lh K)) (T:Blt mg) (kd:Kinds K):
 aX P w K mg base CX0 (d+2) f fd ["told","thing"] (Jd K d):=by
 refine dO.F.okQ Qy (fun vs H Q E h=> ?_) (fun cdv A outer s H vs Q E hr h=> ?_)
 ·obtain⟨v,t,v',t',rfl,_⟩:=h
  rfl
 obtain⟨v,t,v',t',rfl,ht,hu,hd,q⟩:=h
 refine⟨_,(au (cM (rT (cX yq jf T.iH gH (aG (aj 0 iy) (aG (qX (v:= .ty "tuple") vG T.Hr CW rfl vH vI) az)) jg jh)) (au (cM (HS (Kp (HQ (rT (cX yq jf T.iH gH (aG (aj 1 gD) (aG (qX (v:= .ty "tuple") vG T.Hr CW rfl vH vI) az)) jg jh))) (HR (cC Lg (cX jC yI T.vf pN (aG (aj 0 iy) az) yJ yK) (cX jC yI T.vf pN (aG (aj 1 gD) az) yJ yK) (aV _))))) (aD (aW Rj)) bJ)
  (aD (aW (cX (XQ rfl) Jj T.aeF abw (aeP (tY rfl (n:=2) (fr:=[]) (N:=["part","other"]) (GC (scX:=aa d7) (NX:=["told","thing"]) rfl rfl (by decide +kernel)) (Yl Jk T.aeG (aG (aj 0 iy) (aG (aj 1 gD) az))) (fun _ _ _ _ _=>(X5 (K:=K) (n:=2) rfl rfl (lO (qgx (i:=0) (show List.Nodup (α:=Str) ["part","other"] by decide) (K7 (by decide +kernel))) (lO (qgx (i:=1) (show List.Nodup (α:=Str) ["part","other"] by decide) (K7 (by decide +kernel))) CZ)))) (fun _ _ _ _ _=>PJ) (fun _ _ _ _ _=>(aJ (vJ.mono (by omega)) hr (glC (by decide +kernel)) dO.m dO.F.kp dO.b .nil aU (aG (aj 0 (pL.ok (by decide +kernel))) (aG (aj 1 (pL.ok (by decide +kernel))) az)) Bq))) az) Jl Jm)))) bJ)
  (au (cM (rT (aJ (gY.mono (by omega)) hr lU bB.m bB.F.kp bB.b .nil aU (aG (aj 0 iy) az) lV)) (aD (aW (Fj (aJ (gY.mono (by omega)) hr lU bB.m bB.F.kp bB.b .nil aU (aG (aj 1 gD) az) lV) (HW (wD dY (aj 0 iy) (aj 1 gD) (aV _)))))) bJ)
  (aD (aW (Fj (cX yq jf T.iH gH (aG (aj 0 iy) (aG (qX (v:= .ty "str") yL T.Z1 Vi rfl yM yN) az)) jg jh) (Fj (cX yq jf T.iH gH (aG (aj 1 gD) (aG (qX (v:= .ty "str") yL T.Z1 Vi rfl yM yN) az)) jg jh) (HW (wD dY (aj 0 iy) (aj 1 gD) (aV _))))))))), ?_⟩
 have h1:=ht.ty
 have h2:=ht.isi kd (c:="tuple") (by simp[tys])
 have h3:=ht.isi kd (c:="str") (by simp[tys])
 have g1:=hu.ty
 have g2:=hu.isi kd (c:="tuple") (by simp[tys])
 have g3:=hu.isi kd (c:="str") (by simp[tys])
 walk_at "vs"
 have ht2:=ht
 cases ht2 with
 | @tup a vs ts ea ha=>
   have ct:P0 (JR (.tup ts)) "tuple"=true:=rfl
   rw[ct]
   walk_at "vs"
   have hu2:=hu
   cases hu2 with
   | @tup b us rs eb hb=>
     have cu:P0 (JR (.tup rs)) "tuple"=true:=rfl
     rw[cu]
     walk_at "vs"
     have l1:=ha.length
     have l2:=hb.length
     by_cases hl:vs.length=us.length
     ·refine aeM (by rw[hl];simp) ?_
      walk_at "vs"
      intro D hD
      have hd0:0<d:=by
       cases d with
       | zero=>exact absurd hd (by simp[DpT])
       | succ d=>omega
      obtain⟨d,rfl⟩:∃e,d=e+1:=⟨d - 1,by omega⟩
      obtain⟨hd1,hd2⟩:ts.length<=1000/\∀t∈ts,DpT d t:=hd
      have nDa:a≠D:=fun z=>by rw[z,hD] at ea;cases ea
      have nDb:b≠D:=fun z=>by rw[z,hD] at eb;cases eb
      refine Tz (fun i σ' H'=>(∃t1 t2,σ'=[t1,t2])/\H' D=some (.lst (((List.zipWith eE ts rs).take i).map V.bl))/\aQ H H') hl ?_ ?_ ?_ ?_
      ·exact⟨⟨none,none,rfl⟩,ao,aC _ hD⟩
      ·intro i σ' H' hi hP
       exact⟨SqT.of (hP.2.2 _ _ ea),SqT.of (hP.2.2 _ _ eb)⟩
      ·intro i x y T0 σ' H' hx hy hP hT
       obtain⟨⟨t1,t2,rfl⟩,eD,kp⟩:=hP
       obtain⟨hi1,tx⟩:=ha.at hx
       obtain⟨hi2,ty⟩:=hb.at hy
       have S0:=kp.trans (aC (.tup [x,y]) hT)
       have tx0:=tx.same S0
       have ty0:=ty.same S0
       have dx:=hd2 _ (List.getElem_mem hi1)
       have eT:upd H' T0 (.tup [x,y]) T0=some (.tup [x,y]):=ao
       have eD0:=(aC (.tup [x,y]) hT) _ _ eD
       generalize upd H' T0 (.tup [x,y])=H0 at *
       walk_at "vs"
       intro H5 S5
       have eD5:=S5 _ _ eD0
       refine⟨_,eD5, ?_,⟨_,_,rfl⟩, ?_, ?_⟩
       ·rw[List.length_map,List.length_take];exact bL (by omega)
       ·rw[ao,<-TF eE hi1 hi2,List.map_append];rfl
       ·exact cL _ hD (S0.trans S5)
      ·intro σ' H' hP
       obtain⟨_,eD,kp⟩:=hP
       rw[List.take_of_length_le (by simp;omega)] at eD
       have eq:eE (.tup ts) (.tup rs)=((List.zipWith eE ts rs).all id):=by rw[eE];exact Jc (by omega)
       rw[eq] at q
       walk_at "vs"
       exact q _ kp
     ·refine aeL (by simp;omega) ?_
      rw[show eE (.tup ts) (.tup rs)=false from by rw[eE];exact Jb (by omega)] at q
      walk_at "vs"
      exact q _ (aQ.refl _)
   | non=>walk_at "vs";exact q _ (aQ.refl _)
   | bl b=>walk_at "vs";exact q _ (aQ.refl _)
   | int i=>walk_at "vs";exact q _ (aQ.refl _)
   | str x=>walk_at "vs";exact q _ (aQ.refl _)
   | oth h hT k=>rcases hT with rfl | rfl<;>walk_at "vs"<;>exact q _ (aQ.refl _)
 | non=>walk_at "vs";exact q _ (aQ.refl _)
 | bl b=>walk_at "vs";exact q _ (aQ.refl _)
 | int i=>
   walk_at "vs"
   have hu2:=hu
   cases hu2 with
   | int j=>
     have ej:eE (.int i) (.int j)=decide (V.int i=V.int j):=by simp[eE]
     rw[ej] at q
     walk_at "vs";exact q _ (aQ.refl _)
   | non=>walk_at "vs";exact q _ (aQ.refl _)
   | bl b=>walk_at "vs";exact q _ (aQ.refl _)
   | str x=>walk_at "vs";exact q _ (aQ.refl _)
   | tup e h=>walk_at "vs";exact q _ (aQ.refl _)
   | oth h hT k=>rcases hT with rfl | rfl<;>walk_at "vs"<;>exact q _ (aQ.refl _)
 | str x=>
   walk_at "vs"
   have hu2:=hu
   cases hu2 with
   | str y=>
     have ej:eE (.str x) (.str y)=decide (V.str x=V.str y):=by simp[eE]
     rw[ej] at q
     walk_at "vs";exact q _ (aQ.refl _)
   | non=>walk_at "vs";exact q _ (aQ.refl _)
   | bl b=>walk_at "vs";exact q _ (aQ.refl _)
   | int j=>walk_at "vs";exact q _ (aQ.refl _)
   | tup e h=>walk_at "vs";exact q _ (aQ.refl _)
   | oth h hT k=>rcases hT with rfl | rfl<;>walk_at "vs"<;>exact q _ (aQ.refl _)
 | oth h hT k=>rcases hT with rfl | rfl<;>walk_at "vs"<;>exact q _ (aQ.refl _)
theorem Jo {f g0:Addr}{fd gd0:FuncData} (dO:FnT K mg "is_same" d7 ["told","thing"] f fd)
 (bB:FnT K mg "is_whole_number" cz ["thing"] g0 gd0) (gY:aX P w K mg base CX0 1 g0 gd0 ["thing"] (Lh K)) (T:Blt mg) (kd:Kinds K):
 ∀d,aX P w K mg base CX0 (d+2) f fd ["told","thing"] (Jd K d)
 | 0=>Dp dO (never fun vs H Q E h=>absurd h.1 (by omega)) bB gY T kd
 | d+1=>Dp dO ((Jo dO bB gY T kd d).imp fun vs H Q E h=>h.2) bB gY T kd
end
section
local macro_rules | `(tactic| walk_at "side") => `(tactic| first | exact zM _ _ _ _ | exact wH _ _ _ _ | exact zN _ _ _ _ | exact rB _ _ _ _ | exact (iu _ _ _ _).1 | exact (iu _ _ _ _).2.1 | exact (iu _ _ _ _).2.2.1 | exact (iu _ _ _ _).2.2.2 | exact Nat.le_of_ble_eq_true rfl)
variable {P:Program}{w:World}{K:PySem.W.Frag}{mg:Str->Option Value}{base:Heap}{CN CS CR:Addr}
abbrev bU:Stmt:=yC 11 0
theorem uF:bI ["self","records"] ["self","records"] (aa bU):=⟨rfl,rfl,rfl,by decide +kernel,rfl,by decide +kernel,by decide +kernel⟩
theorem qg:aF (aa bU) "self":=by decide +kernel
theorem oX:aF (aa bU) "records":=by decide +kernel
theorem uG {f:Addr}{fd:FuncData} (dR:gW K CN "__init__" "NamedRecords.__init__" bU ["self","records"] f fd) (nc:NrC K CN):aX P w K mg base CX0 1 f fd ["self","records"] (Nz CN):=by
 refine dR.F.okQ uF (fun vs H Q E h=> ?_) (fun cdv A outer s H vs Q E hr h=> ?_)
 ·obtain⟨a,dx,rcd,rfl,_⟩:=h
  rfl
 obtain⟨a,dx,rcd,rfl,e,q⟩:=h
 have m9:=nc.cl
 have nB:=nc.nB
 refine⟨_,(aD (mY (aj 0 qg) (aj 1 oX))), ?_⟩
 walk_at "vs"
 exact q _ (But.set _ (by simp)) ao
abbrev cQ:Stmt:=yC 11 2
theorem uH:bI ["self","record"] ["self","record"] (aa cQ):=⟨rfl,rfl,rfl,by decide +kernel,rfl,by decide +kernel,by decide +kernel⟩
theorem uI {f:Addr}{fd:FuncData} (cR:gW K CN "put_made" "NamedRecords.put_made" cQ ["self","record"] f fd):aX P w K mg base CX0 1 f fd ["self","record"] aae:=by
 refine cR.F.okQ uH (fun vs H Q E h=> ?_) (fun cdv A outer s H vs Q E hr h=> ?_)
 ·obtain⟨⟨v,w,rfl⟩,_⟩:=h
  rfl
 obtain⟨⟨v,w,rfl⟩,q⟩:=h
 refine⟨_,(aD XF), ?_⟩
 exact q
abbrev aR:Stmt:=yC 11 1
theorem rC:bI ["self","name","r"] ["self","name","r"] (aa aR):=⟨rfl,rfl,rfl,by decide +kernel,rfl,by decide +kernel,by decide +kernel⟩
theorem ni:(aa aR).names.lookup ("is_same":Str)=some NameKind.globalImplicit:=by decide +kernel
theorem fV:aF (aa aR) "self":=by decide +kernel
theorem fW:aF (aa aR) "name":=by decide +kernel
theorem ql:aF (aa aR) "r":=by decide +kernel
theorem nj:(("is_same":Str)==("__debug__":Str))=false:=by decide +kernel
theorem rE {f g0:Addr}{fd gd0:FuncData} (cA:gW K CN "records_for" "NamedRecords.records_for" aR ["self","name","r"] f fd)
 (dO:FnT K mg "is_same" d7 ["told","thing"] g0 gd0) (vJ:aX P w K mg base CX0 12 g0 gd0 ["told","thing"] (Jd K 10)) (T:Blt mg) (nc:NrC K CN):aX P w K mg base CX0 13 f fd ["self","name","r"] (V4 CN):=by
 refine cA.F.okQ rC (fun vs H Q E h=> ?_) (fun cdv A outer s H vs Q E hr h=> ?_)
 ·obtain⟨o,dx,rcd,b,kr,n,rm,y,r,rfl,_⟩:=h
  rfl
 obtain⟨o,dx,rcd,b,kr,n,rm,y,r,rfl,eo,er,rD,hR,hg,hdp,q⟩:=h
 have m9:=nc.cl
 have nB:=nc.nB
 have lkB:List.lookup ("by_name":Str) (nrF rcd)=some (.ref rcd):=rfl
 refine⟨_,(au (cM (HS (Fi (uD (bN hr) (aj 1 fW) (bR (aj 0 fV))) (zE (rT (aJ (vJ.mono (by omega)) hr ni dO.m dO.F.kp dO.b .nil aU (aG (aj 2 ql) (gj (aO aK (cZ (bN hr) (bR (aj 0 fV)) (aj 1 fW)) aA) az)) nj))))) (aD (aW (gh (gj (cZ (bN hr) (bR (aj 0 fV)) (aj 1 fW)) az)))) bJ)
  (aD (aW (gh az)))), ?_⟩
 have dr:bT H rcd (.str y) (dI kr (.inr y)):=bT.k (k:= .inr y) er
 cases erm:rm y with
 | none=>
   rw[rD.w y erm] at dr
   walk_at "vs"
   intro fl hfl
   exact q fl _ (aC _ hfl) hfl fun kn=> .inr ⟨ao,fun r' ps v e=>by rw[erm] at e;cases e⟩
 | some qq=>
   obtain⟨r',ps,v'⟩:=qq
   obtain⟨bb,hbb,br,l,as,e1,R1,el,hRs,_⟩:=rD.v y _ erm
   rw[hbb] at dr
   have e1:H bb=some (.tup [.ref br, .ref l, .int v']):=e1
   have R1:IsR H br r':=R1
   have hat:atI [V.ref br, .ref l, .int v'] 0=some (.ref br):=rfl
   have t1:pG K H (.ref b) r.dh:=hR.Nm
   have t2:pG K H (.ref br) r'.dh:=R1.Nm
   have dp:DpT 10 r.dh:=(r.dpT (lQ hg)).mono (by omega)
   walk_at "vs"
   intro H1 s1
   have dr1:bT H1 rcd (.str y) (some (.ref bb)):=by rw[<-hbb];exact bT.k (k:= .inr y) (s1 _ _ er)
   have eo1:=s1 _ _ eo
   by_cases hrr:r=r'
   ·rw[RN hrr]
    subst hrr
    walk_at "vs"
    intro fl hfl
    exact q fl _ (s1.trans (aC _ hfl)) (same_none s1 hfl) fun kn=> .inl ⟨bb,ps,v',ao,hbb,erm,Nat.zero_le _,fun j p hj=>by omega⟩
   ·rw[RP hrr]
    walk_at "vs"
    intro fl hfl
    exact q fl _ (s1.trans (aC _ hfl)) (same_none s1 hfl) fun kn=> .inr ⟨ao,fun r2 ps2 v2 e=>by
     rw[erm] at e;cases e;exact .inl (Ne.symm hrr)⟩
abbrev bZ:Stmt:=yC 12 0
theorem yO:bI ["self","r","records"] ["self","r","records"] (aa bZ):=⟨rfl,rfl,rfl,by decide +kernel,rfl,by decide +kernel,by decide +kernel⟩
theorem gn:aF (aa bZ) "self":=by decide +kernel
theorem oY:aF (aa bZ) "r":=by decide +kernel
theorem qG:aF (aa bZ) "records":=by decide +kernel
theorem pP:(aa bZ).names.lookup ("Reckoning":Str)=some NameKind.globalImplicit:=by decide +kernel
theorem pQ:(("Reckoning":Str)==("__debug__":Str))=false:=by decide +kernel
theorem yP {f g0:Addr}{fd gd0:FuncData} (gf:gW K CS "__init__" "Settling.__init__" bZ ["self","r","records"] f fd)
 (fK:gW K CR "__init__" "Reckoning.__init__" cG ["self","r"] g0 gd0) (yQ:aX P w K mg base CX0 1 g0 gd0 ["self","r"] (Nr CR))
 (yR:Mk K CR g0) (yS:mg "Reckoning"=some (.ref CR)) (sc:SeC K CS):aX P w K mg base CX0 3 f fd ["self","r","records"] (NK CS CR):=by
 refine gf.F.okQ yO (fun vs H Q E h=> ?_) (fun cdv A outer s H vs Q E hr h=> ?_)
 ·obtain⟨a,dx,b,fl,r,rfl,_⟩:=h
  rfl
 obtain⟨a,dx,b,fl,r,rfl,e,hR,hw,q⟩:=h
 have jM:=sc.cl
 have nR:=sc.nR
 have nF:=sc.nF
 have nP:=sc.nP
 have nK:=sc.nK
 refine⟨_,(au (mY (aj 0 gn) (aj 1 oY))
  (au (mY (aj 0 gn) (aj 2 qG))
  (au (mY (aj 0 gn) aA)
  (aD (mY (aj 0 gn) (Hs yR (yQ.mono (by omega)) hr pP yS fK.b .nil aU (aG (aj 1 oY) az) pQ)))))), ?_⟩
 walk_at "vs"
 have F3:upd (upd (upd H a (.ins CS dx (bf "recipe" (.ref b) []))) a (.ins CS dx (bf "fitting" (.ref fl) (bf "recipe" (.ref b) [])))) a (.ins CS dx (bf "place" (.int 0) (bf "fitting" (.ref fl) (bf "recipe" (.ref b) []))))=upd H a (.ins CS dx (bf "place" (.int 0) (bf "fitting" (.ref fl) (bf "recipe" (.ref b) [])))):=by rw[wk,wk]
 rw[F3]
 have b1:But [a] H (upd H a (.ins CS dx (bf "place" (.int 0) (bf "fitting" (.ref fl) (bf "recipe" (.ref b) []))))):=But.set _ (by simp)
 have t1:jX H (upd H a (.ins CS dx (bf "place" (.int 0) (bf "fitting" (.ref fl) (bf "recipe" (.ref b) []))))):=fun p xs z=>(aq (fun y=>by rw[y,e] at z;cases z)).trans z
 have e1:upd H a (.ins CS dx (bf "place" (.int 0) (bf "fitting" (.ref fl) (bf "recipe" (.ref b) [])))) a=some (.ins CS dx (bf "place" (.int 0) (bf "fitting" (.ref fl) (bf "recipe" (.ref b) [])))):=ao
 have n1:∀{z},upd H a (.ins CS dx (bf "place" (.int 0) (bf "fitting" (.ref fl) (bf "recipe" (.ref b) [])))) z=none->H z=none:=fun z=>(d9 z).2
 generalize upd H a (.ins CS dx (bf "place" (.int 0) (bf "fitting" (.ref fl) (bf "recipe" (.ref b) []))))=H1 at *
 intro rk dxr hrk hdxr hne
 have aij:(upd H1 dxr (.own rk)) rk=none:=(aq (Ne.symm hne)).trans hrk
 have S1:=(aC (.own rk) hdxr).trans (aC (.ins CR dxr []) aij)
 refine⟨rk,dxr,b,r,rfl,ao,(hR.tups t1).same S1,hw,fun a1 a2 a3 H2 b2 h1 h2 h3 rc2=>⟨rfl, ?_⟩⟩
 have h1:=same_none S1 h1
 have h2:=same_none S1 h2
 have h3:=same_none S1 h3
 have S2:aQ H1 H2:=eX S1 (fun p hp=>by
  have:p=rk:=by simpa using hp
  rw[this];exact hrk) b2
 have e2:=S2 _ _ e1
 have nak:a≠rk:=fun z=>by rw[<-z,e1] at hrk;cases hrk
 have na1:a≠a1:=fun z=>by rw[<-z,e1] at h1;cases h1
 have na2:a≠a2:=fun z=>by rw[<-z,e1] at h2;cases h2
 have na3:a≠a3:=fun z=>by rw[<-z,e1] at h3;cases h3
 walk_at "vs"
 have t3:jX H2 (upd H2 a (.ins CS dx (bf "reckoning" (.ref rk) (bf "place" (.int 0) (bf "fitting" (.ref fl) (bf "recipe" (.ref b) [])))))):=fun p xs z=>(aq (fun y=>by rw[y,e2] at z;cases z)).trans z
 refine q ⟨a,dx,b,fl,rk,dxr,a1,a2,a3,0⟩ _ ((b1.trans (But.of_same S2)).trans (But.set _ (by simp))) rfl rfl rfl rfl ao (rc2.move (S:=[a]) (But.set _ (by simp)) t3 ?_) ?_
 ·intro z hz w
  have w:z=a:=by simpa using w
  have hz:z=rk\/z=a1\/z=a2\/z=a3:=by simpa using hz
  rcases hz with y | y | y | y
  ·exact nak (w.symm.trans y)
  ·exact na1 (w.symm.trans y)
  ·exact na2 (w.symm.trans y)
  ·exact na3 (w.symm.trans y)
 ·intro z hz
  have hz:z=rk\/z=a1\/z=a2\/z=a3:=by simpa using hz
  rcases hz with rfl | rfl | rfl | rfl
  ·exact n1 hrk
  ·exact n1 h1
  ·exact n1 h2
  ·exact n1 h3
end
section
local macro_rules | `(tactic| walk_at "side") => `(tactic| first | exact zM _ _ _ _ | exact wH _ _ _ _ | exact zN _ _ _ _ | exact rB _ _ _ _ | exact (iu _ _ _ _).1 | exact (iu _ _ _ _).2.1 | exact (iu _ _ _ _).2.2.1 | exact (iu _ _ _ _).2.2.2 | exact Dg _ _ _ | exact Nat.le_of_ble_eq_true rfl)
variable {P:Program}{w:World}{K:PySem.W.Frag}{mg:Str->Option Value}{base:Heap}{CN CS CR:Addr}
abbrev bH:Stmt:=yC 12 3
theorem uJ:bI ["self"] ["self"] (aa bH):=⟨rfl,rfl,rfl,by decide +kernel,rfl,by decide +kernel,by decide +kernel⟩
theorem qH:(aa bH).names.lookup ("len":Str)=some NameKind.globalImplicit:=by decide +kernel
theorem qm:aF (aa bH) "self":=by decide +kernel
theorem qI:("len":Str)≠"__name__":=by decide +kernel
theorem qJ:(("len":Str)==("__debug__":Str))=false:=by decide +kernel
def Wo (CS:Addr):Sp:=fun vs H Q _=>∃(s dx b fl rk:Addr) (k:Nat) (xs:List V),vs=[.ref s]/\H s=some (.ins CS dx (seF b fl k rk))/\H fl=some (.lst xs)/\Q (.bl (decide (xs.length=0))) H
theorem uK {f:Addr}{fd:FuncData} (bx:gW K CS "was_reckoned" "Settling.was_reckoned" bH ["self"] f fd) (T:Blt mg) (sc:SeC K CS):aX P w K mg base CX0 1 f fd ["self"] (Wo CS):=by
 refine bx.F.okQ uJ (fun vs H Q E h=> ?_) (fun cdv A outer s H vs Q E hr h=> ?_)
 ·obtain⟨a,dx,b,fl,rk,k,xs,rfl,_⟩:=h
  rfl
 obtain⟨a,dx,b,fl,rk,k,xs,rfl,e,ef,q⟩:=h
 have jM:=sc.cl
 have nF:=sc.nF
 refine⟨_,(aD (aW (wD dY (cX jC qH T.vf pN (Tr (bR (aj 0 qm)) az) qI qJ) aA (aV _)))), ?_⟩
 walk_at "vs"
 have:decide (V.int (xs.length:Int)=V.int 0)=decide (xs.length=0):=by
  by_cases z:xs.length=0
  ·rw[decide_eq_true z,z];rfl
  ·rw[decide_eq_false z]
   exact decide_eq_false fun w=>z (by have:=V.int.inj w;omega)
 rw[this]
 exact q
abbrev dM:Stmt:=yC 12 2
theorem Br:bI ["self","worth"] ["self","worth"] (aa dM):=⟨rfl,rfl,rfl,by decide +kernel,rfl,by decide +kernel,by decide +kernel⟩
theorem gZ:aF (aa dM) "self":=by decide +kernel
theorem Bs {f:Addr}{fd:FuncData} (fX:gW K CS "fit_on" "Settling.fit_on" dM ["self","worth"] f fd) (sc:SeC K CS):aX P w K mg base CX0 1 f fd ["self","worth"] (aaf CS):=by
 refine fX.F.okQ Br (fun vs H Q E h=> ?_) (fun cdv A outer s H vs Q E hr h=> ?_)
 ·obtain⟨a,dx,b,fl,rk,rb,br,l,k,as,ps,v,w',u,x,rfl,_⟩:=h
  rfl
 obtain⟨a,dx,b,fl,rk,rb,br,l,k,as,ps,v,w',u,x,rfl,e,ef,erb,el,hRs,hk,q⟩:=h
 have jM:=sc.cl
 have nF:=sc.nF
 have nP:=sc.nP
 refine⟨_,(au (mY (aj 0 gZ) (tY rfl (n:=1) (fr:=[1,0]) (N:=["record","worth","self"]) (GC (scX:=aa dM) (NX:=["self","worth"]) rfl rfl (by decide +kernel)) (Ld (bR (aj 0 gZ))) (fun _ _ _ _ _=>(qgx (i:=0) (show List.Nodup (α:=Str) ["record","worth","self"] by decide) (K7 (by decide +kernel)))) (fun _ _ _ _ _=>(HY (cC dY (aO (Ng (K:=K) rfl) (aO (Fo (K:=K) rfl) (aO (Ng (K:=K) rfl) (aj 0 (pL.ok (by decide +kernel))) aA) (LK (K:=K) rfl (aj 2 (pL.ok (by decide +kernel))))) aA) (aj 1 (pL.ok (by decide +kernel))) (aV _)))) (fun _ _ _ _ _=>(aj 0 (pL.ok (by decide +kernel))))))
  (aD (mY (aj 0 gZ) (cI jK (bR (aj 0 gZ)) aA)))), ?_⟩
 have hkl:k<ps.length:=(List.getElem?_eq_some_iff.mp hk).1
 have hka:k<as.length:=by rw[hRs.length];exact hkl
 have hae:as[k]? =some as[k]:=List.getElem?_eq_getElem hka
 obtain⟨p,hp,ep⟩:=hRs.get k _ hae
 rw[hk] at hp
 cases hp
 have ep:H as[k]=some (.tup [.str x, .int u]):=ep
 have a1:atI [V.ref br, .ref l, .int v] 1=some (.ref l):=rfl
 have a2:atI (as.map V.ref) (k:Int)=some (.ref as[k]):=lE (by rw[List.getElem?_map,hae];rfl)
 have a3:atI [V.str x, .int u] 1=some (.int u):=rfl
 walk_at "vs"
 intro D hD
 have sD:=aC (.lst []) hD
 refine Tn (xs:=[.ref rb]) (fun i σ' H'=>(∃t,σ'=[t,some (.int w'),some (.ref a)])/\aQ H H'/\H' D=some (.lst (if i=0 then [] else if u=w' then [.ref rb] else []))) ?_ ?_ ?_ ?_
 ·exact⟨⟨none,rfl⟩,sD,ao⟩
 ·intro i σ' H' _ hP
  exact SqL.of (hP.2.1 _ _ ef)
 ·intro i y σ' H' hy hP
  obtain⟨⟨t,rfl⟩,S1,eD⟩:=hP
  obtain⟨rfl,rfl⟩:i=0/\y= .ref rb:=by
   match i,hy with
   | 0,hy=>exact⟨rfl,(Option.some.inj hy).symm⟩
   | i+1,hy=>simp at hy
  rw[if_pos rfl] at eD
  have e1:=S1 _ _ e
  have ak9:=S1 _ _ erb
  have el1:=S1 _ _ el
  have ep1:=S1 _ _ ep
  have hz:([]:List V).length<sizeLine:=bL (by simp)
  walk_at "vs"
  refine wz (fun c=> ?_) (fun c=> ?_)
  ·have c:u=w':=V.int.inj (of_decide_eq_true c)
   walk_at "vs"
   refine⟨⟨_,rfl⟩,cL _ hD S1, ?_⟩
   rw[if_neg (by decide),if_pos c];exact ao
  ·have c:¬u=w':=fun z=>c (decide_eq_true (by rw[z]))
   refine⟨⟨_,rfl⟩,S1, ?_⟩
   rw[if_neg (by decide),if_neg c];exact eD
 ·intro σ' H1 hP
  obtain⟨_,S1,eD⟩:=hP
  rw[show(if([V.ref rb]:List V).length=0 then([]:List V) else if u=w' then [.ref rb] else [])=if u=w' then [.ref rb] else [] from if_neg (by simp)] at eD
  have e1:=S1 _ _ e
  have naD:a≠D:=fun z=>by rw[z,hD] at e;cases e
  walk_at "vs"
  refine q D _ ((But.of_same S1).trans ((But.set _ (by simp)).trans (But.set _ (by simp)))) hD ao ?_
  rw[aq (Ne.symm naD),aq (Ne.symm naD)];exact eD
end
section
local macro_rules | `(tactic| walk_at "side") => `(tactic| first | exact zM _ _ _ _ | exact wH _ _ _ _ | exact zN _ _ _ _ | exact rB _ _ _ _ | exact (iu _ _ _ _).1 | exact (iu _ _ _ _).2.1 | exact (iu _ _ _ _).2.2.1 | exact (iu _ _ _ _).2.2.2 | exact Dg _ _ _ | exact Nat.le_of_ble_eq_true rfl)
variable {P:Program}{w:World}{K:PySem.W.Frag}{mg:Str->Option Value}{base:Heap}{CN CS CR:Addr}
abbrev bC:Stmt:=yC 12 1
theorem mZ:bI ["self","known","reads","name"] ["self","known"] (aa bC):=⟨rfl,rfl,rfl,by decide +kernel,rfl,by decide +kernel,by decide +kernel⟩
theorem dB:aF (aa bC) "self":=by decide +kernel
theorem tR:Loc (aa bC) "reads":=by decide +kernel
theorem vK:(aa bC).names.lookup ("len":Str)=some NameKind.globalImplicit:=by decide +kernel
theorem mX:aF (aa bC) "reads":=by decide +kernel
theorem vL:("len":Str)≠"__name__":=by decide +kernel
theorem vM:(("len":Str)==("__debug__":Str))=false:=by decide +kernel
theorem uL:Loc (aa bC) "name":=by decide +kernel
theorem jE:aF (aa bC) "name":=by decide +kernel
theorem jo:aF (aa bC) "known":=by decide +kernel
theorem zT {f g0 g1:Addr}{fd gd0 gd1:FuncData} (fu:gW K CS "lacking" "Settling.lacking" bC ["self","known"] f fd)
 (fX:gW K CS "fit_on" "Settling.fit_on" dM ["self","worth"] g0 gd0) (Dq:aX P w K mg base CX0 1 g0 gd0 ["self","worth"] (aaf CS))
 (eF:gW K CR "lacking" "Reckoning.lacking" bY ["self","known"] g1 gd1) (zU:aX P w K mg base CX0 3 g1 gd1 ["self","known"] (VD CR))
 (T:Blt mg) (sc:SeC K CS) (rcC:RkC K CR):aX P w K mg base CX0 4 f fd ["self","known"] (NP CS CR):=by
 refine fu.F.okQ mZ (fun vs H Q E h=> ?_) (fun cdv A0 outer s H vs Q E hr h=> ?_)
 ·obtain⟨A,d,kr,n,rm,y,r,kn,rfl,_⟩:=h
  rfl
 obtain⟨A,d,kr,n,rm,y,r,kn,rfl,se,rD,n17,⟨kvs,ed,hkn⟩,nd3,hT3,q⟩:=h
 have jM:=sc.cl
 have nR:=sc.nR
 have nF:=sc.nF
 have nP:=sc.nP
 have nK:=sc.nK
 have nY:=rcC.cl
 refine⟨_,(au (Ia PassesOwn.never (HN (bR (aj 0 dB))) (au (bG (i:=2) mZ.nd rfl tR (aO aK (aO cO (bR (aj 0 dB)) aA) aA))
  (au (cM (cC dY (bR (aj 0 dB)) (cX jC vK T.vf pN (aG (aj 2 mX) az) vL vM) (aV _)) (aD (aW PB)) bJ)
  (au (bG (i:=3) mZ.nd rfl uL (aO aK (aO cO (aj 2 mX) (bR (aj 0 dB))) aA))
  (au (cM (oJ (bN hr) (aj 3 jE) (aj 1 jo)) (aD (aW (aj 3 jE))) bJ)
  (aD (fP (qZ (aj 0 dB) jM fX.m (Dq.mono (by omega)) hr fX.b .nil aU (gj (cZ (bN hr) (aj 1 jo) (aj 3 jE)) az)))))))))
  (aD (aW (qZ (bR (aj 0 dB)) nY eF.m (zU.mono (by omega)) hr eF.b .nil aU (aG (aj 1 jo) az))))), ?_⟩
 have nds:d∉[A.s]:=fun z=>by
  have z:d=A.s:=by simpa using z
  have:=se.e
  rw[<-z,ed] at this;cases this
 refine⟨fun m σ H'=>∃(A1:SeD) (t1 t2:Option V),σ=[some (.ref A.s),some (.ref d),t1,t2]/\But [A.s] H H'/\wI CS CR kr rm y r kn A1 H'/\A1.s=A.s/\A1.b=A.b/\A1.rk=A.rk/\A1.a1=A.a1/\A1.a2=A.a2/\A1.a3=A.a3/\A1.dx=A.dx/\(A1.fl=A.fl\/H A1.fl=none)/\m=1000 - A1.k,
  ⟨_,A,none,none,rfl,But.refl _ _,se,rfl,rfl,rfl,rfl,rfl,rfl,rfl, .inl rfl,rfl⟩, ?_⟩
 rintro m σ H1 ⟨A1,t1,t2,rfl,b1,se1,es,eb,erk,ea1,ea2,ea3,edx,efl,rfl⟩
 have e1:=se1.e
 rw[es] at e1
 have tp1:jX H H1:=fun p xs z=>b1 p _ (fun w=>by
  have w:p=A.s:=by simpa using w
  have:=se.e
  rw[<-w,z] at this;cases this) z
 have ed1:=b1 _ _ nds ed
 have rD1:p6 H1 kr n rm:=rD.map fun b' q' z=>z.but b1 tp1 (fun y hy=> .inr fun xs w=>by
  have w':y=A.s:=by simpa using hy
  have:=se.e
  rw[<-w',w] at this;cases this)
 have fin:∀H2,But [A.s] H1 H2->But A.ft H H2:=fun H2 b=>(b1.trans b).mono (by simp[SeD.ft])
 rcases se1.f with⟨rb,ps,v,JW,hval,hrm,hkle,hall⟩ | ⟨JW,nof⟩
 ·obtain⟨bb,hbb,br,l,as,f1,R1,el,hRs,_⟩:=rD1.v y _ hrm
  rw[hval] at hbb
  cases hbb
  have f1:H1 rb=some (.tup [.ref br, .ref l, .int v]):=f1
  have hRs:gM H1 as ps:=hRs
  obtain⟨got,k0,hk0,ek0,rk0⟩:=rD1.ok y r ps v hrm
  have hpl:ps.length<=k0:=Lx got.c rk0.i
  have a0:atI [V.ref rb] 0=some (.ref rb):=rfl
  have a1:atI [V.ref br, .ref l, .int v] 1=some (.ref l):=rfl
  have hlm:(as.map V.ref).length=ps.length:=by rw[List.length_map];exact hRs.length
  walk_at "vs"
  refine⟨fun σ' H'=>∃(A2:SeD) (t1 t2:Option V),σ'=[some (.ref A.s),some (.ref d),t1,t2]/\But [A.s] H H'/\wI CS CR kr rm y r kn A2 H'/\A2.s=A.s/\A2.b=A.b/\A2.rk=A.rk/\A2.a1=A.a1/\A2.a2=A.a2/\A2.a3=A.a3/\A2.dx=A.dx/\(A2.fl=A.fl\/H A2.fl=none)/\A2.k=A1.k+1,fun σ' H' ⟨A2,t1,t2,z1,z2,z3,z4,z5,z6,z7,z8,z9,z10,z11,z12⟩=>⟨1000 - A2.k,by omega,A2,t1,t2,z1,z2,z3,z4,z5,z6,z7,z8,z9,z10,z11,rfl⟩, ?_⟩
  walk_at "vs"
  refine wz (fun c=> ?_) (fun c=> ?_)
  ·have c:A1.k=ps.length:=by have:=V.int.inj (of_decide_eq_true c);omega
   walk_at "vs"
   refine(q A1 H1 (fin H1 (But.refl _ _)) es eb erk ea1 ea2 ea3 efl se1).1 (.inl ⟨rb,ps,v,JW,hval,hrm,fun p hp=> ?_⟩)
   obtain⟨j,hj⟩:=List.getElem?_of_mem hp
   exact hall j p (by rw[c];exact(List.getElem?_eq_some_iff.mp hj).1) hj
  ·have c:A1.k<ps.length:=by
    have:¬A1.k=ps.length:=fun z=>c (decide_eq_true (by rw[hlm,z]))
    omega
   have hka:A1.k<as.length:=by rw[hRs.length];exact c
   have hae:as[A1.k]? =some as[A1.k]:=List.getElem?_eq_getElem hka
   obtain⟨⟨x,u⟩,hp,ep⟩:=hRs.get A1.k _ hae
   have ep:H1 as[A1.k]=some (.tup [.str x, .int u]):=ep
   have a2:atI (as.map V.ref) (A1.k:Int)=some (.ref as[A1.k]):=lE (by rw[List.getElem?_map,hae];rfl)
   have a3:atI [V.str x, .int u] 0=some (.str x):=rfl
   have dw:bT H1 d (.str x) ((kn x).map V.int):=by rw[<-hkn];exact bT.k (k:= .inr x) ed1
   cases ekn:kn x with
   | none=>
     rw[ekn] at dw
     have dw:bT H1 d (.str x) none:=dw
     walk_at "vs"
     exact(q A1 H1 (fin H1 (But.refl _ _)) es eb erk ea1 ea2 ea3 efl se1).2 x ekn (Qt got.c hp hall)
   | some w'=>
     rw[ekn] at dw
     have dw:bT H1 d (.str x) (some (.int w')):=dw
     walk_at "vs"
     intro fl' H2 b2 hfl' e2 T7
     have hs1:∀xs,H1 A.s≠some (.lst xs):=fun xs z=>by rw[e1] at z;cases z
     have tp2:jX H1 H2:=fun p xs z=>b2 p _ (fun w=>by
      have w:p=A.s:=by simpa using w
      rw[w,e1] at z;cases z) z
     obtain⟨cf,rc1,rch⟩:=se1.c
     have hns:∀{z:Addr},z≠A.s->z∉[A.s]:=fun h w=>h (by simpa using w)
     have nrk:A1.rk≠A.s:=fun z=>se1.n1 (by rw[es,z])
     have n1:A1.a1≠A.s:=fun z=>by obtain⟨ws,w1,_⟩:=rc1.e1;rw[z,e1] at w1;cases w1
     have n2:A1.a2≠A.s:=fun z=>by have w1:=rc1.e2;rw[z,e1] at w1;cases w1
     have n3:A1.a3≠A.s:=fun z=>by have w1:=rc1.e3;rw[z,e1] at w1;cases w1
     have f1n:fl'≠A1.a1:=fun z=>by obtain⟨ws,w1,_⟩:=rc1.e1;rw[<-z,hfl'] at w1;cases w1
     have f2n:fl'≠A1.a2:=fun z=>by have w1:=rc1.e2;rw[<-z,hfl'] at w1;cases w1
     refine⟨⟨A.s,A1.dx,A1.b,fl',A1.rk,A1.dxr,A1.a1,A1.a2,A1.a3,A1.k+1⟩,_,_,rfl,b1.trans b2,⟨e2,se1.hr.tups tp2,⟨cf,rc1.move b2 tp2 (fun z hz=> ?_),rch⟩, ?_,fun z=>nrk z.symm,f1n,f2n⟩,rfl,eb,erk,ea1,ea2,ea3,edx, .inr ?_,rfl⟩
     ·have hz:z=A1.rk\/z=A1.a1\/z=A1.a2\/z=A1.a3:=by simpa using hz
      rcases hz with rfl | rfl | rfl | rfl
      ·exact hns nrk
      ·exact hns n1
      ·exact hns n2
      ·exact hns n3
     ·by_cases huw:u=w'
      ·rw[if_pos huw] at T7
       refine .inl ⟨rb,ps,v,T7,hval,hrm,c,fun j p hj hpj=> ?_⟩
       have hj:j<A1.k+1:=hj
       by_cases hjk:j=A1.k
       ·rw[hjk,hp] at hpj;cases hpj
        rw[ekn,huw]
       ·exact hall j p (by omega) hpj
      ·rw[if_neg huw] at T7
       refine .inr ⟨T7,fun r2 ps2 v2 e=> ?_⟩
       rw[hrm] at e;cases e
       exact .inr ⟨(x,u),List.mem_of_getElem? hp,w',ekn,fun z=>huw z.symm⟩
     ·exact iU b1 hfl' (hns (show fl'≠A.s from fun z=>by rw[z,e1] at hfl';cases hfl'))
 ·obtain⟨cf,rc1,rch⟩:=se1.c
  have ala:=rc1.e
  obtain⟨nn,cf',hst,hhalt,rch',gg⟩:=rch.ae1 hT3
  have knA:VB H1 d kn:=⟨kvs,ed1,hkn⟩
  have alb:d≠A1.a3:=by rw[ea3];exact nd3
  walk_at "vs"
  intro H2 b2 rc2
  have tp2:=rc1.lists b2
  have nss:A1.s∉[A1.a1,A1.a2,A1.a3]:=fun z=>by
   have e1:=se1.e
   have z:A1.s=A1.a1\/A1.s=A1.a2\/A1.s=A1.a3:=by simpa using z
   rcases z with z | z | z
   ·obtain⟨ws,w1,_⟩:=rc1.e1;rw[z,w1] at e1;cases e1
   ·rw[z,rc1.e2] at e1;cases e1
   ·rw[z,rc1.e3] at e1;cases e1
  have nfl:A1.fl∉[A1.a1,A1.a2,A1.a3]:=fun z=>by
   have z:A1.fl=A1.a1\/A1.fl=A1.a2\/A1.fl=A1.a3:=by simpa using z
   rcases z with z | z | z
   ·exact se1.n2 z
   ·exact se1.n3 z
   ·rw[z,rc1.e3] at JW;cases JW
  have se2:wI CS CR kr rm y r kn A1 H2:=⟨b2 _ _ nss se1.e,se1.hr.tups tp2,⟨cf',rc2,rch'⟩, .inr ⟨b2 _ _ nfl JW,nof⟩,se1.n1,se1.n2,se1.n3⟩
  have bb:But A.ft H H2:=(b1.mono (by simp[SeD.ft])).trans (b2.mono (by rw[ea1,ea2,ea3];simp[SeD.ft]))
  have qq:=q A1 H2 bb es eb erk ea1 ea2 ea3 efl se2
  unfold Goes at gg
  cases eev:ev kn r with
  | inr v=>
    rw[eev] at gg
    obtain⟨g1,g2,g3,g4⟩:=gg
    exact⟨fun _=>qq.1 (.inr ⟨b2 _ _ nfl JW,nof,cf',v,rc2,g2,g3,g4⟩),fun t x z=>by rw[g1] at z;simp at z⟩
  | inl x=>
    rw[eev] at gg
    obtain⟨⟨t,g1⟩,g2,g3⟩:=gg
    refine⟨fun z=>by rw[g1] at z;simp at z,fun t' x' z=> ?_⟩
    rw[g1] at z
    obtain⟨_,z⟩:=lA z
    cases z
    exact qq.2 x g2 g3
end
section
local macro_rules | `(tactic| walk_at "side") => `(tactic| first | exact zM _ _ _ _ | exact wH _ _ _ _ | exact zN _ _ _ _ | exact rB _ _ _ _ | exact (iu _ _ _ _).1 | exact (iu _ _ _ _).2.1 | exact (iu _ _ _ _).2.2.1 | exact (iu _ _ _ _).2.2.2 | exact Dg _ _ _ | exact Ip _ _ _ | exact Ir _ _ _ | exact Nat.le_of_ble_eq_true rfl)
variable {P:Program}{w:World}{K:PySem.W.Frag}{mg:Str->Option Value}{base:Heap}{CN CS CR:Addr}
abbrev cB:Stmt:=yC 12 4
theorem wQ:bI ["self"] ["self"] (aa cB):=⟨rfl,rfl,rfl,by decide +kernel,rfl,by decide +kernel,by decide +kernel⟩
theorem cg:aF (aa cB) "self":=by decide +kernel
theorem lJ:(aa cB).names.lookup ("list":Str)=some NameKind.globalImplicit:=by decide +kernel
theorem rF:("list":Str)≠"__name__":=by decide +kernel
theorem rG:(("list":Str)==("__debug__":Str))=false:=by decide +kernel
theorem wU {f g0:Addr}{fd gd0:FuncData} (dF:gW K CS "new_record" "Settling.new_record" cB ["self"] f fd)
 (bx:gW K CS "was_reckoned" "Settling.was_reckoned" bH ["self"] g0 gd0) (jN:aX P w K mg base CX0 1 g0 gd0 ["self"] (Wo CS))
 (T:Blt mg) (sc:SeC K CS) (rcC:RkC K CR):aX P w K mg base CX0 2 f fd ["self"] (V6 CS CR):=by
 refine dF.F.okQ wQ (fun vs H Q E h=> ?_) (fun cdv A0 outer s H vs Q E hr h=> ?_)
 ·obtain⟨A,kr,n,rm,y,r,kn,rfl,_⟩:=h
  rfl
 obtain⟨A,kr,n,rm,y,r,kn,rfl,e,rD,n17,se,q⟩:=h
 have jM:=sc.cl
 have nR:=sc.nR
 have nF:=sc.nF
 have nP:=sc.nP
 have nK:=sc.nK
 have nY:=rcC.cl
 have nFo:=rcC.nF
 have nRe:=rcC.nR
 refine⟨_,(au (cM (rT (yr (aj 0 cg) jM bx.m (jN.mono (by omega)) hr bx.b .nil aU)) (aD (aW (fM (Tr (bR (aj 0 cg)) (qD (ab7 rfl (bR (bR (aj 0 cg))) lJ T.Ig) (gj (aO cO (bR (bR (aj 0 cg))) aA) az)))))) bJ)
  (aD (aW (fM (Tr (bR (aj 0 cg)) (qD (iR Ie lJ T.Ig CV (gj (aO aK (aO cO (bR (aj 0 cg)) aA) aA) az) rF rG) (gj (aO aK (aO cO (bR (aj 0 cg)) aA) aA) az))))))), ?_⟩
 rcases se with⟨rb,ps,v,efl,hval,hrm,hall⟩ | ⟨efl,nof,c,v,rc1,hfo,got,rows⟩
 ·obtain⟨bb,hbb,br,l,as,f1,R1,el,hRs,_⟩:=rD.v y _ hrm
  rw[hval] at hbb
  cases hbb
  have f1:H rb=some (.tup [.ref br, .ref l, .int v]):=f1
  have hRs:gM H as ps:=hRs
  obtain⟨got,k0,hk0,ek0,rk0⟩:=rD.ok y r ps v hrm
  have hpl:ps.length<=k0:=Lx got.c rk0.i
  have a0:atI [V.ref rb] 0=some (.ref rb):=rfl
  have a1:atI [V.ref br, .ref l, .int v] 1=some (.ref l):=rfl
  have a2:atI [V.ref br, .ref l, .int v] 2=some (.int v):=rfl
  walk_at "vs"
  intro l' hl'
  have s1:=aC (.lst (as.map V.ref)) hl'
  have el1:upd H l' (.lst (as.map V.ref)) l'=some (.lst (as.map V.ref)):=ao
  have e1:=s1 _ _ e
  have JW:=s1 _ _ efl
  have f11:=s1 _ _ f1
  generalize upd H l' (.lst (as.map V.ref))=H1 at *
  walk_at "vs"
  intro rb' hrb'
  have s2:=aC (.tup [.ref A.b, .ref l', .int v]) hrb'
  exact q rb' l' as ps v false _ (s1.trans s2) ao hl' (s2 _ _ el1) (hRs.same (s1.trans s2)) ⟨got,⟨hall,(zK got.c).2⟩,hrm⟩ ⟨_,s2 _ _ JW,rfl⟩
 ·have e1:=rc1.e
  have e2:=rc1.e2
  rw[hfo] at e2
  have e3:=rc1.e3
  have a0:atI [V.int v] 0=some (.int v):=rfl
  walk_at "vs"
  intro l' as H1 s1 hl' el1 hal hit
  have e1':=s1 _ _ e1
  have e2':H1 A.a2=some (.lst [.int v]):=s1 _ _ e2
  have eS:=s1 _ _ e
  have JW:=s1 _ _ efl
  walk_at "vs"
  intro rb' hrb'
  have s2:=aC (.tup [.ref A.b, .ref l', .int v]) hrb'
  have hR:gM H1 as c.rds:=NT (by rw[hal];unfold rdK;rw[List.length_map]) fun j b p h1 h2=>by
   have h3:(rdK c.rds)[j]? =some (.inr p.1, .int p.2):=by unfold rdK;rw[List.getElem?_map,h2];rfl
   exact hit j b _ h1 h3
  exact q rb' l' as c.rds v true _ (s1.trans s2) ao hl' (s2 _ _ el1) (hR.same s2) ⟨got,rows,nof⟩ ⟨_,s2 _ _ JW,rfl⟩
end
section
local macro_rules | `(tactic| walk_at "side") => `(tactic| first | exact yx _ _ _ _ _ _ | exact rZ _ _ _ _ _ _ | exact Jg _ _ _ _ _ _ | exact yz _ _ _ _ _ _ | exact su _ _ _ _ _ _ | exact p7 _ _ _ _ _ _ | exact (iw _ _ _ _ _ _).1 | exact (iw _ _ _ _ _ _).2.1 | exact (iw _ _ _ _ _ _).2.2.1 | exact (iw _ _ _ _ _ _).2.2.2.1 | exact (iw _ _ _ _ _ _).2.2.2.2 | exact (Ft _).1 | exact (Ft _).2 | exact (iu _ _ _ _).1 | exact (iu _ _ _ _).2.2.1 | exact (iu _ _ _ _).2.2.2 | exact Nat.le_of_ble_eq_true rfl)
variable {P:Program}{w:World}{K:PySem.W.Frag}{mg:Str->Option Value}{base:Heap}{CSe CN CS CR:Addr}
abbrev cU:Stmt:=yC 13 0
theorem Bt:bI ["self","house","old"] ["self","house","old"] (aa cU):=⟨rfl,rfl,rfl,by decide +kernel,rfl,by decide +kernel,by decide +kernel⟩
theorem dU:aF (aa cU) "self":=by decide +kernel
theorem nq:aF (aa cU) "house":=by decide +kernel
theorem wV:aF (aa cU) "old":=by decide +kernel
theorem Bu {f:Addr}{fd:FuncData} (ie:gW K CSe "__init__" "Search.__init__" cU ["self","house","old"] f fd) (sc:SrC K CSe):aX P w K mg base CX0 1 f fd ["self","house","old"] (N5 CSe):=by
 refine ie.F.okQ Bt (fun vs H Q E h=> ?_) (fun cdv A outer s H vs Q E hr h=> ?_)
 ·obtain⟨a,dx,h,g,c,o,rfl,_⟩:=h
  rfl
 obtain⟨a,dx,h,g,c,o,rfl,e,eh,q⟩:=h
 have nU:=sc.cl
 have nG:=sc.nG
 have nR:=sc.nR
 have nO:=sc.nO
 have nK:=sc.nK
 have nS:=sc.nS
 have nM:=sc.nM
 refine⟨_,(au (mY (aj 0 dU) (aO aK (aj 1 nq) aA))
  (au (mY (aj 0 dU) (aO aK (aj 1 nq) aA))
  (au (mY (aj 0 dU) (aj 2 wV))
  (au (mY (aj 0 dU) lu)
  (au (mY (aj 0 dU) lu)
  (aD (mY (aj 0 dU) lu))))))), ?_⟩
 have nha:h≠a:=fun z=>by rw[z,e] at eh;cases eh
 have a0:atI [V.ref g, .ref c] 0=some (.ref g):=rfl
 have a1:atI [V.ref g, .ref c] 1=some (.ref c):=rfl
 walk_at "vs"
 rw[wk,wk]
 have b1:But [a] H (upd H a (.ins CSe dx (bf "old" (.ref o) (bf "recipes" (.ref c) (bf "given" (.ref g) []))))):=But.set _ (by simp)
 have e1:upd H a (.ins CSe dx (bf "old" (.ref o) (bf "recipes" (.ref c) (bf "given" (.ref g) [])))) a=some (.ins CSe dx (bf "old" (.ref o) (bf "recipes" (.ref c) (bf "given" (.ref g) [])))):=ao
 have n1:∀{z},upd H a (.ins CSe dx (bf "old" (.ref o) (bf "recipes" (.ref c) (bf "given" (.ref g) [])))) z=none->H z=none:=fun z=>(d9 z).2
 generalize upd H a (.ins CSe dx (bf "old" (.ref o) (bf "recipes" (.ref c) (bf "given" (.ref g) []))))=H1 at *
 walk_at "vs"
 intro kd hkd
 have s2:=aC (.dK []) hkd
 have ek2:upd H1 kd (.dK []) kd=some (.dK []):=ao
 have e2:=s2 _ _ e1
 generalize upd H1 kd (.dK [])=H2 at *
 have nka:kd≠a:=fun z=>by rw[z,e2] at ek2;cases ek2
 walk_at "vs"
 have b3:But [a] H2 (upd H2 a (.ins CSe dx (bf "known" (.ref kd) (bf "old" (.ref o) (bf "recipes" (.ref c) (bf "given" (.ref g) [])))))):=But.set _ (by simp)
 have e3:upd H2 a (.ins CSe dx (bf "known" (.ref kd) (bf "old" (.ref o) (bf "recipes" (.ref c) (bf "given" (.ref g) []))))) a=some (.ins CSe dx (bf "known" (.ref kd) (bf "old" (.ref o) (bf "recipes" (.ref c) (bf "given" (.ref g) []))))):=ao
 have ek3:upd H2 a (.ins CSe dx (bf "known" (.ref kd) (bf "old" (.ref o) (bf "recipes" (.ref c) (bf "given" (.ref g) []))))) kd=some (.dK []):=(aq nka).trans ek2
 have n3:∀{z},upd H2 a (.ins CSe dx (bf "known" (.ref kd) (bf "old" (.ref o) (bf "recipes" (.ref c) (bf "given" (.ref g) []))))) z=none->H2 z=none:=fun z=>(d9 z).2
 generalize upd H2 a (.ins CSe dx (bf "known" (.ref kd) (bf "old" (.ref o) (bf "recipes" (.ref c) (bf "given" (.ref g) [])))))=H3 at *
 intro sd hsd
 have s4:=aC (.dK []) hsd
 have es4:upd H3 sd (.dK []) sd=some (.dK []):=ao
 have nks:kd≠sd:=fun z=>by rw[<-z,ek3] at hsd;cases hsd
 have ek4:=s4 _ _ ek3
 have e4:=s4 _ _ e3
 generalize upd H3 sd (.dK [])=H4 at *
 have nsa:sd≠a:=fun z=>by rw[z,e4] at es4;cases es4
 walk_at "vs"
 have b5:But [a] H4 (upd H4 a (.ins CSe dx (bf "settled" (.ref sd) (bf "known" (.ref kd) (bf "old" (.ref o) (bf "recipes" (.ref c) (bf "given" (.ref g) []))))))):=But.set _ (by simp)
 have e5:upd H4 a (.ins CSe dx (bf "settled" (.ref sd) (bf "known" (.ref kd) (bf "old" (.ref o) (bf "recipes" (.ref c) (bf "given" (.ref g) [])))))) a=some (.ins CSe dx (bf "settled" (.ref sd) (bf "known" (.ref kd) (bf "old" (.ref o) (bf "recipes" (.ref c) (bf "given" (.ref g) [])))))):=ao
 have ek5:upd H4 a (.ins CSe dx (bf "settled" (.ref sd) (bf "known" (.ref kd) (bf "old" (.ref o) (bf "recipes" (.ref c) (bf "given" (.ref g) [])))))) kd=some (.dK []):=(aq nka).trans ek4
 have es5:upd H4 a (.ins CSe dx (bf "settled" (.ref sd) (bf "known" (.ref kd) (bf "old" (.ref o) (bf "recipes" (.ref c) (bf "given" (.ref g) [])))))) sd=some (.dK []):=(aq nsa).trans es4
 have n5:∀{z},upd H4 a (.ins CSe dx (bf "settled" (.ref sd) (bf "known" (.ref kd) (bf "old" (.ref o) (bf "recipes" (.ref c) (bf "given" (.ref g) [])))))) z=none->H4 z=none:=fun z=>(d9 z).2
 generalize upd H4 a (.ins CSe dx (bf "settled" (.ref sd) (bf "known" (.ref kd) (bf "old" (.ref o) (bf "recipes" (.ref c) (bf "given" (.ref g) []))))))=H5 at *
 intro rd hrd
 have s6:=aC (.dK []) hrd
 have er6:upd H5 rd (.dK []) rd=some (.dK []):=ao
 have nkr:kd≠rd:=fun z=>by rw[<-z,ek5] at hrd;cases hrd
 have nsr:sd≠rd:=fun z=>by rw[<-z,es5] at hrd;cases hrd
 have ek6:=s6 _ _ ek5
 have es6:=s6 _ _ es5
 have e6:=s6 _ _ e5
 generalize upd H5 rd (.dK [])=H6 at *
 have nra:rd≠a:=fun z=>by rw[z,e6] at er6;cases er6
 walk_at "vs"
 have hk0:H kd=none:=n1 hkd
 have hs0:H sd=none:=n1 (same_none s2 (n3 hsd))
 have hr0:H rd=none:=n1 (same_none s2 (n3 (same_none s4 (n5 hrd))))
 exact q kd sd rd _ ((b1.trans (But.of_same s2)).trans (b3.trans ((But.of_same s4).trans (b5.trans ((But.of_same s6).trans (But.set _ (by simp))))))) ao hk0 hs0 hr0 nks nkr nsr ((aq nka).trans ek6) ((aq nsa).trans es6) ((aq nra).trans er6)
abbrev dz:Stmt:=yC 13 1
theorem xO:bI ["self","name","r"] ["self","name"] (aa dz):=⟨rfl,rfl,rfl,by decide +kernel,rfl,by decide +kernel,by decide +kernel⟩
theorem lW:aF (aa dz) "name":=by decide +kernel
theorem lX:aF (aa dz) "self":=by decide +kernel
theorem Dr:Loc (aa dz) "r":=by decide +kernel
theorem uM:(aa dz).names.lookup ("Settling":Str)=some NameKind.globalImplicit:=by decide +kernel
theorem ud:aF (aa dz) "r":=by decide +kernel
theorem uN:(("Settling":Str)==("__debug__":Str))=false:=by decide +kernel
theorem G7 {f g0 g1:Addr}{fd gd0 gd1:FuncData} (iZ:gW K CSe "begin" "Search.begin" dz ["self","name"] f fd)
 (cA:gW K CN "records_for" "NamedRecords.records_for" aR ["self","name","r"] g0 gd0) (sE:aX P w K mg base CX0 13 g0 gd0 ["self","name","r"] (V4 CN))
 (gf:gW K CS "__init__" "Settling.__init__" bZ ["self","r","records"] g1 gd1) (zV:aX P w K mg base CX0 3 g1 gd1 ["self","r","records"] (NK CS CR))
 (Bv:Mk K CS g1) (Bw:mg "Settling"=some (.ref CS)) (T:Blt mg) (sc:SrC K CSe) (nc:NrC K CN):aX P w K mg base CX0 14 f fd ["self","name"] (RV CSe CN CS CR):=by
 refine iZ.F.okQ xO (fun vs H Q E h=> ?_) (fun cdv A0 outer s H vs Q E hr h=> ?_)
 ·obtain⟨D,n,gv,rc,kg,kc,kr,rm,y,r,rfl,_⟩:=h
  rfl
 obtain⟨D,n,gv,rc,kg,kc,kr,rm,y,r,rfl,sh,hrc,q⟩:=h
 have nU:=sc.cl
 have nR:=sc.nR
 have nO:=sc.nO
 have m9:=nc.cl
 have e:=sh.e
 have ec:=sh.ec
 have eo:=sh.eo
 have er:=sh.er
 have rD:=sh.rD
 obtain⟨br,hbr,hR⟩:=sh.bd.r y r hrc
 obtain⟨k0,hk0,ek0,rk0⟩:=sh.bd.ok.rk y r hrc
 have hg:=rk0.g
 have hd8:r.depth<=8:=by have:=rk0.d;omega
 have hw:wR r<=4000:=by
  have:=Jf r 4 rk0.d
  have:(3:Nat)^ 4=81:=by decide
  omega
 have dc:bT H D.c (.str y) (some (.ref br)):=by rw[<-hbr];exact bT.k (k:= .inr y) ec
 refine⟨_,(au (cM (oJ (bN hr) (aj 1 lW) (bR (aj 0 lX))) (aD Np) bJ)
  (au (bG (i:=2) xO.nd rfl Dr (cZ (bN hr) (bR (aj 0 lX)) (aj 1 lW)))
  (aD (aW (Hs Bv (zV.mono (by omega)) hr uM Bw gf.b .nil aU (aG (aj 2 ud) (qD (qZ (bR (aj 0 lX)) m9 cA.m (sE.mono (by omega)) hr cA.b .nil aU (aG (aj 1 lW) (aG (aj 2 ud) az))) az)) uN))))), ?_⟩
 walk_at "vs"
 intro fl H1 s1 hfl fit
 have hR1:=hR.same s1
 walk_at "vs"
 intro a dx ha hdx hne
 have haH:(upd H1 dx (.own a)) a=none:=(aq (Ne.symm hne)).trans ha
 have S1:=(aC (.own a) hdx).trans (aC (.ins CS dx []) haH)
 refine⟨a,dx,br,fl,r,rfl,ao,hR1.same S1,hw,fun A H2 b2 eA eb efl ek e2 rc2 hfr=>⟨rfl, ?_⟩⟩
 have S2:aQ H1 H2:=eX S1 (fun p hp=>by
  have:p=a:=by simpa using hp
  rw[this];exact ha) b2
 have T8:∀z∈[A.rk,A.a1,A.a2,A.a3],H1 z=none:=fun z hz=>same_none S1 (hfr z hz)
 have ae6:H1 fl≠none:=fun z=>by
  rcases fit kn0 with⟨rb,ps,v,w1,_⟩ | ⟨w1,_⟩
  ·rw[z] at w1;cases w1
  ·rw[z] at w1;cases w1
 rw[<-eA]
 refine q A H2 (s1.trans S2) (fun z hz=> ?_) (fun kn=>⟨?_, ?_,⟨_,rc2,⟨0, .zero⟩⟩, ?_,fun z=> ?_,fun z=> ?_,fun z=> ?_⟩)
 ·have hz:z=A.s\/z=A.fl\/z=A.rk\/z=A.a1\/z=A.a2\/z=A.a3:=by simpa [SeD.ft] using hz
  rcases hz with w | w | w | w | w | w
  ·rw[w,eA];exact same_none s1 ha
  ·rw[w,efl];exact hfl
  ·exact same_none s1 (T8 z (by simp[w]))
  ·exact same_none s1 (T8 z (by simp[w]))
  ·exact same_none s1 (T8 z (by simp[w]))
  ·exact same_none s1 (T8 z (by simp[w]))
 ·rw[eA,eb,efl,ek];exact e2
 ·rw[eb];exact hR1.same S2
 ·rw[efl,ek];exact(fit kn).at fun o e=>S2 _ _ e
 ·have:=hfr A.rk (by simp)
  rw[<-z,eA,ao] at this;cases this
 ·exact ae6 (by rw[<-efl,z];exact T8 _ (by simp))
 ·exact ae6 (by rw[<-efl,z];exact T8 _ (by simp))
end
section
local macro_rules | `(tactic| walk_at "side") => `(tactic| first | exact yx _ _ _ _ _ _ | exact rZ _ _ _ _ _ _ | exact Jg _ _ _ _ _ _ | exact yz _ _ _ _ _ _ | exact su _ _ _ _ _ _ | exact p7 _ _ _ _ _ _ | exact (iw _ _ _ _ _ _).1 | exact (iw _ _ _ _ _ _).2.1 | exact (iw _ _ _ _ _ _).2.2.1 | exact (iw _ _ _ _ _ _).2.2.2.1 | exact (iw _ _ _ _ _ _).2.2.2.2 | exact (Ft _).1 | exact (Ft _).2 | exact (iu _ _ _ _).1 | exact (iu _ _ _ _).2.2.1 | exact (iu _ _ _ _).2.2.2 | exact Nat.le_of_ble_eq_true rfl)
variable {P:Program}{w:World}{K:PySem.W.Frag}{mg:Str->Option Value}{base:Heap}{CSe CN CS CR:Addr}
abbrev eZ:Stmt:=yC 13 2
theorem Ax:bI ["self","name","settling","record"] ["self","name","settling"] (aa eZ):=⟨rfl,rfl,rfl,by decide +kernel,rfl,by decide +kernel,by decide +kernel⟩
theorem yU:Loc (aa eZ) "record":=by decide +kernel
theorem oZ:aF (aa eZ) "settling":=by decide +kernel
theorem j9:aF (aa eZ) "self":=by decide +kernel
theorem nZ:aF (aa eZ) "name":=by decide +kernel
theorem lY:aF (aa eZ) "record":=by decide +kernel
theorem JX {f g0 g1 g2:Addr}{fd gd0 gd1 gd2:FuncData} (kh:gW K CSe "end" "Search.end" eZ ["self","name","settling"] f fd)
 (dF:gW K CS "new_record" "Settling.new_record" cB ["self"] g0 gd0) (xV:aX P w K mg base CX0 2 g0 gd0 ["self"] (V6 CS CR))
 (bx:gW K CS "was_reckoned" "Settling.was_reckoned" bH ["self"] g1 gd1) (jN:aX P w K mg base CX0 1 g1 gd1 ["self"] (Wo CS))
 (cR:gW K CN "put_made" "NamedRecords.put_made" cQ ["self","record"] g2 gd2) (vN:aX P w K mg base CX0 1 g2 gd2 ["self","record"] aae)
 (T:Blt mg) (sr:SrC K CSe) (sc:SeC K CS) (nc:NrC K CN):aX P w K mg base CX0 3 f fd ["self","name","settling"] (V9 CSe CN CS CR):=by
 refine kh.F.okQ Ax (fun vs H Q E h=> ?_) (fun cdv A0 outer s H vs Q E hr h=> ?_)
 ·obtain⟨D,n,gv,rc,kg,kc,kr,rm,kn,rmN,rkn,Hf,A,y,r,rfl,_⟩:=h
  rfl
 obtain⟨D,n,gv,rc,kg,kc,kr,rm,kn,rmN,rkn,Hf,A,y,r,rfl,sh,so,e,hR,se,hkn,hgv,hrc,hy,hft,q⟩:=h
 have nU:=sr.cl
 have nK:=sr.nK
 have nS:=sr.nS
 have nM:=sr.nM
 have nO:=sr.nO
 have jM:=sc.cl
 have m9:=nc.cl
 obtain⟨e0,_,_,_,eo0,_,rD0,n17,nks,nkr,nsr⟩:=sh.same so.sm
 refine⟨_,(au (bG (i:=3) Ax.nd rfl yU (yr (aj 2 oZ) jM dF.m (xV.mono (by omega)) hr dF.b .nil aU))
  (au (gm (bN hr) (bR (aj 0 j9)) (aj 1 nZ) (aO aK (aj 3 lY) aA))
  (au (gm (bN hr) (bR (aj 0 j9)) (aj 1 nZ) (aj 3 lY))
  (aD (cM (rT (yr (aj 2 oZ) jM bx.m (jN.mono (by omega)) hr bx.b .nil aU)) (au (gm (bN hr) (bR (aj 0 j9)) (aj 1 nZ) Rj)
  (aD (fP (qZ (bR (aj 0 j9)) m9 cR.m (vN.mono (by omega)) hr cR.b .nil aU (aG (aj 3 lY) az))))) bJ))))), ?_⟩
 walk_at "vs"
 intro rb l as ps v made H1 s1 erb hl el hRs rcd ⟨xs,efl,exs⟩
 obtain⟨kw,ws,ek,kk1,hkw⟩:=so.ek
 obtain⟨ks,es,rDs⟩:=so.es
 obtain⟨kk,rs,er,kk3,hkk,hrn⟩:=so.er
 have hkl:kw.length<=n:=so.kl kk1 hkw
 have hsl:ks.length<=n:=rDs.len
 have hrm:rmN y=none:=by
  cases z:rmN y with
  | none=>rfl
  | some q'=>
    obtain⟨r1,ps1,v1⟩:=q'
    have:=(so.ok.b y r1 ps1 v1 z).2.2.1
    rw[hkn] at this;cases this
 have hry:rkn y=false:=by
  cases z:rkn y with
  | false=>rfl
  | true=>exact absurd hrm (hrn y z)
 have hrl:kk.length<=n:=by
  rw[kk3.len,<-lG n]
  refine ju kk3.nd fun x hx=> ?_
  cases z:rmN x with
  | none=>
    have:rkn x=false:=by
     cases w:rkn x with
     | false=>rfl
     | true=>exact absurd z (hrn x w)
    exact absurd hx (kk3.none.mp (by rw[hkk,this];rfl))
  | some q'=>
    obtain⟨r1,ps1,v1⟩:=q'
    exact(so.ok.a x v1 (so.ok.b x r1 ps1 v1 z).2.2.1).1
 have e1:=s1 _ _ e
 have e01:=s1 _ _ e0
 have ek1:=s1 _ _ ek
 have es1:=s1 _ _ es
 have er1:=s1 _ _ er
 have eo1:=s1 _ _ eo0
 have a2:atI [V.ref A.b, .ref l, .int v] 2=some (.int v):=rfl
 obtain⟨H2,eH2⟩:∃H2,H2=upd H1 D.kd (.dK (putK kw (.inr y) (.int v))):=⟨_,rfl⟩
 have dp1:jn H1 D.kd (.str y) (.int v) H2:=by rw[eH2];exact jn.k (k:= .inr y) ek1 (bL (by omega))
 have k2:∀{z:Addr}{o:HO},z≠D.kd->H1 z=some o->H2 z=some o:=fun h h'=>by rw[eH2];exact(aq h).trans h'
 have j2:∀{z:Addr}{o:HO},H1 z=some o->(∀ks',o≠ .dK ks')->H2 z=some o:=fun{z o} h1 h2=>k2 (fun w=>by rw[w,ek1] at h1;cases h1;exact h2 _ rfl) h1
 have ek2:H2 D.kd=some (.dK (putK kw (.inr y) (.int v))):=by rw[eH2];exact ao
 have es2:=k2 (Ne.symm nks) es1
 have er2:=k2 (Ne.symm nkr) er1
 have b2:But [D.kd,D.sd,D.rd] H1 H2:=by rw[eH2];exact But.set _ (by simp)
 have e02:=j2 e01 (by simp)
 have e2:=j2 e1 (by simp)
 have eo2:=j2 eo1 (by simp)
 have T7:=j2 efl (by simp)
 have alc:=j2 erb (by simp)
 clear eH2
 obtain⟨H3,eH3⟩:∃H3,H3=upd H2 D.sd (.dK (putK ks (.inr y) (.ref rb))):=⟨_,rfl⟩
 have dp2:jn H2 D.sd (.str y) (.ref rb) H3:=by rw[eH3];exact jn.k (k:= .inr y) es2 (bL (by omega))
 have k3:∀{z:Addr}{o:HO},z≠D.sd->H2 z=some o->H3 z=some o:=fun h h'=>by rw[eH3];exact(aq h).trans h'
 have j3:∀{z:Addr}{o:HO},H2 z=some o->(∀ks',o≠ .dK ks')->H3 z=some o:=fun{z o} h1 h2=>k3 (fun w=>by rw[w,es2] at h1;cases h1;exact h2 _ rfl) h1
 have es3:H3 D.sd=some (.dK (putK ks (.inr y) (.ref rb))):=by rw[eH3];exact ao
 have ek3:=k3 nks ek2
 have er3:=k3 (Ne.symm nsr) er2
 have b3:But [D.kd,D.sd,D.rd] H2 H3:=by rw[eH3];exact But.set _ (by simp)
 have e03:=j3 e02 (by simp)
 have e3:=j3 e2 (by simp)
 have eo3:=j3 eo2 (by simp)
 have ald:=j3 T7 (by simp)
 have B3:But [D.kd,D.sd,D.rd] H H3:=(But.of_same s1).trans (b2.trans b3)
 clear eH3
 have gs:=Yq so.sm s1
 have gi:=Yr so.sm s1
 have gt:jX H1 (grow Hf H H1):=TV
 have gk:=Hu (Hf:=Hf) s1 ⟨_,ek,by simp⟩ so.fk
 have gss:=Hu (Hf:=Hf) s1 ⟨_,es,by simp⟩ so.fs
 have gr:=Hu (Hf:=Hf) s1 ⟨_,er,by simp⟩ so.fr
 have gl:grow Hf H H1 l=some (.lst (as.map V.ref)):=(V8 hl).trans el
 have ra:rY [] (grow Hf H H1) rb (r,ps,v):=⟨A.b,l,as,gt _ _ erb,(hR.same s1).tups gt,gl,hRs.tups gt,by simp⟩
 have hgot:=rcd.1
 have hrows:=rcd.2.1
 obtain⟨k0,hk0,ek0,rk0⟩:=sh.bd.ok.rk y r hrc
 have rD':=(rDs.map (H':=grow Hf H H1) fun _ _ z=>z.same gs).put hy ra ⟨hgot,k0,hk0,ek0,rk0⟩
 have ok':=so.ok.uC hy hkn hgv hrc hgot hrows
 have lek:Kn.Le kn (kn.put y v):=Kn.nW hkn
 have md':∀x r1 ps1 v1,(rmN.put y (r,ps,v)) x=some (r1,ps1,v1)->Rcd rm x r1 (kn.put y v) ps1 v1 (if x=y then made else rkn x):=fun x r1 ps1 v1 h=>by
  unfold Rm.put at h
  by_cases z:x=y
  ·rw[if_pos z] at h ⊢
   cases h
   rw[z];exact rcd.le lek
  ·rw[if_neg z] at h ⊢
   exact(so.md x r1 ps1 v1 h).le lek
 have hyw:y∉ws:=kk1.none.mp (by rw[hkw,hkn];rfl)
 have hyr:y∉rs:=kk3.none.mp (by rw[hkk,hry];rfl)
 have ae7:∀{H'},But [D.kd,D.sd,D.rd] H1 H'->aQ (grow Hf H H1) H':=fun b z o h=>b z o (fun w=>by
  have w:z=D.kd\/z=D.sd\/z=D.rd:=by simpa using w
  rcases w with w | w | w
  ·rw[w,gk] at h;cases h
  ·rw[w,gss] at h;cases h
  ·rw[w,gr] at h;cases h) (gi z o h)
 have fin:∀H' kk' rs',But [D.kd,D.sd,D.rd] H1 H'->H' D.kd=some (.dK (putK kw (.inr y) (.int v)))->H' D.sd=some (.dK (putK ks (.inr y) (.ref rb)))->H' D.rd=some (.dK kk')->mJ kk' rs'->(∀x,dI kk' (.inr x)=if(if x=y then made else rkn x)=true then some (.bl true) else none)->Q .non H':=fun H' kk' rs' bb h1 h2 h3 h4 h5=>by
  refine q v ps made (grow Hf H H1) H' ((But.of_same s1).trans bb) gs (fun z m hz=>Hu s1 m hz) ⟨ae7 bb,gk,gss,gr,⟨_,_,h1,kk1.pO hyw _,Dl hkw y v⟩,⟨_,h2,rD'⟩,⟨_,_,h3,h4,h5,fun x hx=> ?_⟩,ok',md'⟩
  unfold Rm.put
  by_cases z:x=y
  ·rw[if_pos z];simp
  ·rw[if_neg z] at hx ⊢;exact hrn x hx
 cases hm:made with
 | false=>
   rw[hm] at exs
   have hxs:decide (xs.length=0)=false:=exs
   walk_at "vs"
   rw[hxs]
   walk_at "vs"
   refine fin H3 kk rs (b2.trans b3) ek3 es3 er3 kk3 fun x=> ?_
   rw[hkk,hm]
   by_cases z:x=y
   ·rw[if_pos z,z,hry]
   ·rw[if_neg z]
 | true=>
   rw[hm] at exs
   have hxs:decide (xs.length=0)=true:=exs
   obtain⟨H4,eH4⟩:∃H4,H4=upd H3 D.rd (.dK (putK kk (.inr y) (.bl true))):=⟨_,rfl⟩
   have dp3:jn H3 D.rd (.str y) (.bl true) H4:=by rw[eH4];exact jn.k (k:= .inr y) er3 (bL (by omega))
   have k4:∀{z:Addr}{o:HO},z≠D.rd->H3 z=some o->H4 z=some o:=fun h h'=>by rw[eH4];exact(aq h).trans h'
   have j4:∀{z:Addr}{o:HO},H3 z=some o->(∀ks',o≠ .dK ks')->H4 z=some o:=fun{z o} h1 h2=>k4 (fun w=>by rw[w,er3] at h1;cases h1;exact h2 _ rfl) h1
   have er4:H4 D.rd=some (.dK (putK kk (.inr y) (.bl true))):=by rw[eH4];exact ao
   have ek4:=k4 nkr ek3
   have es4:=k4 nsr es3
   have b4:But [D.kd,D.sd,D.rd] H3 H4:=by rw[eH4];exact But.set _ (by simp)
   have e04:=j4 e03 (by simp)
   have eo4:=j4 eo3 (by simp)
   clear eH4
   walk_at "vs"
   rw[hxs]
   walk_at "vs"
   refine⟨⟨_,_,rfl⟩, ?_⟩
   refine fin H4 _ _ (b2.trans (b3.trans b4)) ek4 es4 er4 (kk3.pO hyr _) fun x=> ?_
   rw[iC,hm]
   by_cases z:x=y
   ·rw[if_pos (by rw[z]),if_pos z];rfl
   ·rw[if_neg (oV z),if_neg z];exact hkk x
end
section
local macro_rules | `(tactic| walk_at "side") => `(tactic| first | exact yx _ _ _ _ _ _ | exact rZ _ _ _ _ _ _ | exact Jg _ _ _ _ _ _ | exact yz _ _ _ _ _ _ | exact su _ _ _ _ _ _ | exact p7 _ _ _ _ _ _ | exact (iw _ _ _ _ _ _).1 | exact (iw _ _ _ _ _ _).2.1 | exact (iw _ _ _ _ _ _).2.2.1 | exact (iw _ _ _ _ _ _).2.2.2.1 | exact (iw _ _ _ _ _ _).2.2.2.2 | exact (Ft _).1 | exact (Ft _).2 | exact (iu _ _ _ _).1 | exact (iu _ _ _ _).2.2.1 | exact (iu _ _ _ _).2.2.2 | exact Nat.le_of_ble_eq_true rfl)
variable {P:Program}{w:World}{K:PySem.W.Frag}{mg:Str->Option Value}{base:Heap}{CSe CN CS CR:Addr}
abbrev bD:Stmt:=yC 13 5
theorem jO:bI ["self","name","path","begun","last","other"] ["self","name"] (aa bD):=⟨rfl,rfl,rfl,by decide +kernel,rfl,by decide +kernel,by decide +kernel⟩
theorem xW:Loc (aa bD) "path":=by decide +kernel
theorem xX:aF (aa bD) "name":=by decide +kernel
theorem wW:Loc (aa bD) "begun":=by decide +kernel
theorem gq:aF (aa bD) "path":=by decide +kernel
theorem xY:Loc (aa bD) "last":=by decide +kernel
theorem bV:aF (aa bD) "last":=by decide +kernel
theorem dG:aF (aa bD) "self":=by decide +kernel
theorem iI:aF (aa bD) "begun":=by decide +kernel
theorem wX:Loc (aa bD) "other":=by decide +kernel
theorem kj:aF (aa bD) "other":=by decide +kernel
theorem Fw {f g0 g1 g2:Addr}{fd gd0 gd1 gd2:FuncData} (iz:gW K CSe "settle" "Search.settle" bD ["self","name"] f fd)
 (iZ:gW K CSe "begin" "Search.begin" dz ["self","name"] g0 gd0) (Jp:aX P w K mg base CX0 14 g0 gd0 ["self","name"] (RV CSe CN CS CR))
 (fu:gW K CS "lacking" "Settling.lacking" bC ["self","known"] g1 gd1) (Bx:aX P w K mg base CX0 4 g1 gd1 ["self","known"] (NP CS CR))
 (kh:gW K CSe "end" "Search.end" eZ ["self","name","settling"] g2 gd2) (LR:aX P w K mg base CX0 3 g2 gd2 ["self","name","settling"] (V9 CSe CN CS CR))
 (T:Blt mg) (sr:SrC K CSe) (sc:SeC K CS):aX P w K mg base CX0 15 f fd ["self","name"] (N6 CSe CN):=by
 refine iz.F.okQ jO (fun vs H Q E h=> ?_) (fun cdv A0 outer s H vs Q E hr h=> ?_)
 ·obtain⟨D,n,gv,rc,kg,kc,kr,rm,kn,rmN,rkn,Hf,x,rfl,_⟩:=h
  rfl
 obtain⟨D,n,gv,rc,kg,kc,kr,rm,knI,ae8,ae9,HfI,x,rfl,shI,soI,hx,q⟩:=h
 obtain⟨k0,hk0,ex⟩:=dJ.mp hx
 have nU:=sr.cl
 have nG:=sr.nG
 have nK:=sr.nK
 have jM:=sc.cl
 have n17:=shI.n17
 have e0:=soI.sm _ _ shI.e
 refine⟨_,(au (bG (i:=2) jO.nd rfl xW (gh (aG (aj 1 xX) az)))
  (au (bG (i:=3) jO.nd rfl wW lu)
  (aD (Ia PassesOwn.never (HN (aj 2 gq)) (au (bG (i:=4) jO.nd rfl xY (aO cO (aj 2 gq) (M8 Dd aA)))
  (au (cM (uD (bN hr) (aj 4 bV) (bR (aj 0 dG))) (aD (gm (bN hr) (bR (aj 0 dG)) (aj 4 bV) (cZ (bN hr) (bR (aj 0 dG)) (aj 4 bV)))) bJ)
  (au (cM (uD (bN hr) (aj 4 bV) (bR (aj 0 dG))) (au (fP (Fl PySem.F.plainAttrs_list PySem.F.slot_list_pop PySem.F.type_list_pop zF (aj 2 gq)))
  (aD M9)) bJ)
  (au (cM (oJ (bN hr) (aj 4 bV) (aj 3 iI)) (aD (gm (bN hr) (aj 3 iI) (aj 4 bV) (qZ (aj 0 dG) nU iZ.m (Jp.mono (by omega)) hr iZ.b .nil aU (aG (aj 4 bV) az)))) bJ)
  (au (bG (i:=5) jO.nd rfl wX (qZ (cZ (bN hr) (aj 3 iI) (aj 4 bV)) jM fu.m (Bx.mono (by omega)) hr fu.b .nil aU (Tr (bR (aj 0 dG)) az)))
  (aD (cM (cC XJ (aj 5 kj) PB (aV _)) (aD (fP (qZ (aj 0 dG) nU kh.m (LR.mono (by omega)) hr kh.b .nil aU (aG (aj 4 bV) (gj (cZ (bN hr) (aj 3 iI) (aj 4 bV)) az))))) (aD (cM (cC PX (aj 5 kj) (aj 2 gq) rfl) (aD Np) (aD (fP (u9 PySem.F.plainAttrs_list PySem.F.slot_list_append PySem.F.type_list_append jB (aj 2 gq) (aG (aj 5 kj) az))))))))))))))))), ?_⟩
 walk_at "vs"
 intro pth hpth
 have s1:=aC (.lst [.str x]) hpth
 have ep1:upd H pth (.lst [.str x]) pth=some (.lst [.str x]):=ao
 have so1:=soI.same s1
 generalize upd H pth (.lst [.str x])=H1 at *
 walk_at "vs"
 intro bgd hbgd
 have s2:=aC (.dK []) hbgd
 have eb2:upd H1 bgd (.dK []) bgd=some (.dK []):=ao
 have so2:=so1.same s2
 have ep2:=s2 _ _ ep1
 have S2:=s1.trans s2
 have nn:pth≠bgd:=fun z=>by rw[<-z,ep1] at hbgd;cases hbgd
 have fI:∀{z:Addr},H z=none->HfI z=none:=fun{z} h=>by
  cases q':HfI z with
  | none=>rfl
  | some o=>have:=soI.sm _ _ q';rw[h] at this;cases this
 have hb0:=same_none s1 hbgd
 have alI:∀z∈[D.kd,D.sd,D.rd],H z≠none:=fun z hz=>by
  obtain⟨kw,ws,e2,_⟩:=soI.ek
  obtain⟨ks',e3,_⟩:=soI.es
  obtain⟨kk,rs,e4,_⟩:=soI.er
  have hz:z=D.kd\/z=D.sd\/z=D.rd:=by simpa using hz
  rcases hz with rfl | rfl | rfl
  ·rw[e2];simp
  ·rw[e3];simp
  ·rw[e4];simp
 generalize upd H1 bgd (.dK [])=H2 at *
 have lp0:LpI CSe CN CS CR D pth bgd n gv rc kg kc kr rm knI HfI H x k0 [k0] knI ae8 ae9 (fun _=>none) HfI H2:=
  ⟨But.of_same S2,aQ.refl _,fun _ _ z=>z,shI,so2,by rw[ex] at ep2;exact ep2,fI hpth,fI hb0,hpth,hb0,fun z=>alI _ z hpth,fun z=>alI _ z hb0,nn,by simp,by simpa using hk0,by simp,fun i hi=>by
    have:i=k0:=by simpa using hi
    rw[this,<-ex];exact .refl,Kn.Le.refl _,fun y hy=> .inl hy,⟨⟨[],[],eb2,⟨rfl,by simp⟩,fun y=>by rw[yj];rfl⟩,fun y hy=>absurd rfl hy,fun y A hy=>(nomatch hy),fun y A hy=>(nomatch hy),fun y y' A A' _ hy=>(nomatch hy)⟩, .inl rfl,fun y A hy=>(nomatch hy)⟩
 refine⟨fun m σ H'=>∃(is:List Nat) (kn:Kn) (rmN:Rm) (rkn:Str->Bool) (bg:Str->Option SeD) (Hf:Hp) (t1 t2:Option V),σ=[some (.ref D.so),some (.str x),some (.ref pth),some (.ref bgd),t1,t2]/\LpI CSe CN CS CR D pth bgd n gv rc kg kc kr rm knI HfI H x k0 is kn rmN rkn bg Hf H'/\m=GK n kn is,
  ⟨_,[k0],knI,ae8,ae9,fun _=>none,HfI,none,none,rfl,lp0,rfl⟩, ?_⟩
 rintro m σ H3 ⟨is,kn,rmN,rkn,bg,Hf,t1,t2,rfl,lp,rfl⟩
 have ep:=lp.ep
 have e3:=lp.so.sm _ _ lp.sh.e
 have hlen:=lp.len
 rcases List.eq_nil_or_concat is with hnil | ⟨js,i,his⟩
 ·subst hnil
  have ep:H3 pth=some (.lst []):=ep
  walk_at "vs"
  have hkx:kn x≠none:=by
   rcases lp.hd with z | ⟨_,z⟩
   ·cases z
   ·exact z
  exact q kn rmN rkn Hf H3 lp.b lp.sf lp.fm lp.so lp.le hkx lp.new
 ·rw[List.concat_eq_append] at his
  subst his
  have hi:i<n:=lp.lt i (by simp)
  have hne:((js++[i]).map fun i=>V.str (ak i)).isEmpty=false:=by simp
  have hla:atI ((js++[i]).map fun i=>V.str (ak i)) (-1)=some (.str (ak i)):=XS (by rw[List.map_append];rfl)
  have hdl:((js++[i]).map fun i=>V.str (ak i)).dropLast=js.map fun i=>V.str (ak i):=by rw[List.map_append];exact List.dropLast_concat
  have hll:((js++[i]).map fun i=>V.str (ak i))[((js++[i]).map fun i=>V.str (ak i)).length - 1]? =some (.str (ak i)):=by simp
  have hjl:js.length+1<=17:=by rw[List.length_append] at hlen;exact hlen
  have un:=lp.un
  rw[List.dropLast_concat] at un
  refine⟨_,rfl,true, .inl ⟨_,SqL.of ep,by simp⟩, ?_⟩
  refine(if_pos (rfl:true=true)).mpr ?_
  refine⟨fun σ' H'=>Wr (∃(is:List Nat) (kn':Kn) (rmN:Rm) (rkn:Str->Bool) (bg:Str->Option SeD) (Hf:Hp) (t1 t2:Option V),σ'=[some (.ref D.so),some (.str x),some (.ref pth),some (.ref bgd),t1,t2]/\LpI CSe CN CS CR D pth bgd n gv rc kg kc kr rm knI HfI H x k0 is kn' rmN rkn bg Hf H'/\GK n kn' is<GK n kn (js++[i])),fun σ' H' ⟨⟨is',kn',N7,rkn',bg',Hf',t1',t2',z1,z2,z3⟩⟩=>⟨_,z3,is',kn',N7,rkn',bg',Hf',t1',t2',z1,z2,rfl⟩, ?_⟩
  obtain⟨kw,ws,ek,kkw,hkw⟩:=lp.so.ek
  have hkl:=lp.so.kl kkw hkw
  have eg3:=lp.so.sm _ _ lp.sh.eg
  have hbd:=lp.sh.bd
  have hy:ak i∈nmK n:=dJ.mpr ⟨i,hi,rfl⟩
  have dg:bT H3 D.g (.str (ak i)) ((gv (ak i)).map V.int):=by rw[<-hbd.g];exact bT.k (k:= .inr (ak i)) eg3
  have np:=lp.np
  simp only[List.mem_cons,List.not_mem_nil,or_false,not_or] at np
  cases hgv:gv (ak i) with
  | some v=>
    rw[hgv] at dg
    have dg:bT H3 D.g (.str (ak i)) (some (.int v)):=dg
    obtain⟨so4,le4⟩:=lp.so.giv ek kkw hkw hy hgv lp.sh.ne
    have b4:But [D.kd,D.sd,D.rd] H3 (upd H3 D.kd (.dK (putK kw (.inr (ak i)) (.int v)))):=But.set _ (by simp)
    obtain⟨H4,eH4⟩:∃H4,H4=upd H3 D.kd (.dK (putK kw (.inr (ak i)) (.int v))):=⟨_,rfl⟩
    have dp:jn H3 D.kd (.str (ak i)) (.int v) H4:=by rw[eH4];exact jn.k (k:= .inr (ak i)) ek (bL (by omega))
    rw[<-eH4] at so4 b4
    have lp4:=lp.know b4 (aQ.refl _) (fun _ _ z=>z) so4 le4 (fun y hy=>by
     unfold Kn.put at hy
     by_cases w:y=ak i
     ·exact .inr w
     ·rw[if_neg w] at hy;exact .inl hy) (fun y hne h=>by unfold Kn.put;rw[if_neg hne];exact h) (by omega)
    have e4:=lp4.so.sm _ _ lp4.sh.e
    have ep4:=lp4.ep
    have dk4:bT H4 D.kd (.str (ak i)) (some (.int v)):=by
     obtain⟨kw4,ws4,ek4,_,hk4⟩:=lp4.so.ek
     have:dI kw4 (.inr (ak i))=some (.int v):=by rw[hk4];unfold Kn.put;rw[if_pos rfl];rfl
     rw[<-this];exact bT.k (k:= .inr (ak i)) ek4
    have hk4:(kn.put (ak i) v) (ak i)≠none:=by unfold Kn.put;rw[if_pos rfl];simp
    have lp5:=lp4.pop hk4 ex
    have un4:=lp4.un
    rw[List.dropLast_concat] at un4
    have hm:=Oa (n:=n) (js:=js) (by omega) un4
    walk_at "vs"
    rw[hdl]
    refine⟨js,_,_,_,_,_,_,_,rfl,lp5, ?_⟩
    cases hkn:kn (ak i) with
    | none=>
      have hu:=Jh (v:=v) hi hkn
      rw[qb hkn]
      omega
    | some u=>
      have e:kn.put (ak i) v=kn:=by
       have:=le4 _ _ hkn
       unfold Kn.put at this
       rw[if_pos rfl] at this
       funext y
       unfold Kn.put
       by_cases w:y=ak i
       ·rw[if_pos w,w,hkn,this]
       ·rw[if_neg w]
      rw[e] at hm ⊢
      rw[zO (by rw[hkn];simp)]
      omega
  | none=>
    rw[hgv] at dg
    have dg:bT H3 D.g (.str (ak i)) none:=dg
    cases hkn:kn (ak i) with
    | some u=>
      have hk4:kn (ak i)≠none:=by rw[hkn];simp
      have dk4:bT H3 D.kd (.str (ak i)) (some (.int u)):=by
       have:dI kw (.inr (ak i))=some (.int u):=by rw[hkw,hkn];rfl
       rw[<-this];exact bT.k (k:= .inr (ak i)) ek
      have lp5:=lp.pop hk4 ex
      have hm:=Oa (n:=n) (js:=js) (by omega) un
      walk_at "vs"
      rw[hdl]
      refine⟨js,_,_,_,_,_,_,_,rfl,lp5, ?_⟩
      rw[zO hk4]
      omega
    | none=>
      have dk4:bT H3 D.kd (.str (ak i)) none:=by
       have:dI kw (.inr (ak i))=none:=by rw[hkw,hkn];rfl
       rw[<-this];exact bT.k (k:= .inr (ak i)) ek
      obtain⟨r,hrc⟩:∃r,rc (ak i)=some r:=by
       rcases hbd.ok.dom i hi with z | z
       ·exact absurd hgv z
       ·cases w:rc (ak i) with
        | none=>exact absurd w z
        | some r=>exact⟨r,rfl⟩
      obtain⟨k',hk',ek',rk'⟩:=hbd.ok.rk _ _ hrc
      have hik:i=k':=jt (by omega) (by omega) ek'
      subst hik
      have rki:=rk'.i
      have hT3:=rk'.t
      obtain⟨kb,ks,eb,kkb,hkb⟩:=lp.bgi.e
      cases hA:bg (ak i) with
      | some A=>
        have db:bT H3 bgd (.str (ak i)) (some (.ref A.s)):=by
         have:dI kb (.inr (ak i))=some (.ref A.s):=by rw[hkb,hA];rfl
         rw[<-this];exact bT.k (k:= .inr (ak i)) eb
        have lp6:=lp
        obtain⟨kb6,ks6,eb6,kk6,acf⟩:=lp6.bgi.e
        obtain⟨r',hr',_,seo⟩:=lp6.bgi.ok (ak i) A hA hkn
        rw[hrc] at hr'
        cases hr'
        have e6:=lp6.so.sm _ _ lp6.sh.e
        have rD6:=lp6.sh.rD.map fun _ _ z=>z.same lp6.so.sm
        obtain⟨kw6,ws6,ek6,aik,acg⟩:=lp6.so.ek
        have knA:VB H3 D.kd kn:=⟨kw6,ek6,acg⟩
        have nd3:D.kd≠A.a3:=fun z=>(lp6.bgi.al (ak i) A hA A.a3 (by simp[SeD.ft])).2.2 (by rw[<-z];simp)
        have db6:bT H3 bgd (.str (ak i)) (some (.ref A.s)):=by
         have:dI kb6 (.inr (ak i))=some (.ref A.s):=by rw[acf,hA];rfl
         rw[<-this];exact bT.k (k:= .inr (ak i)) eb6
        have eA6:=seo.e
        walk_at "vs"
        intro A' H7 b7 es eb' erk e1' e2' e3' efl so7
        have lp7:=lp6.gone hA b7 so7 hrc hgv es erk e1' e2' e3' efl
        have e7:=lp7.so.sm _ _ lp7.sh.e
        have ep7:=lp7.ep
        refine⟨fun hend=> ?_,fun z hzn hsk=> ?_⟩
        ·obtain⟨kb7,ks7,eb7,kk7,ach⟩:=lp7.bgi.e
         have db7:bT H7 bgd (.str (ak i)) (some (.ref A'.s)):=by
          have:dI kb7 (.inr (ak i))=some (.ref A'.s):=by rw[ach];unfold mW;rw[if_pos rfl];rfl
          rw[<-this];exact bT.k (k:= .inr (ak i)) eb7
         have ail:=lp7.so
         have sh7:=lp7.sh
         have eA7:=so7.e
         have hR7:=so7.hr
         have hy:ak i∈nmK n:=dJ.mpr ⟨i,hi,rfl⟩
         have hft:∀z∈A'.ft,z∉[D.kd,D.sd,D.rd]:=fun z hz w=>(lp7.bgi.al (ak i) A' (by unfold mW;rw[if_pos rfl]) z hz).2.2 (by
          simp only[List.mem_cons,List.not_mem_nil,or_false] at w ⊢
          rcases w with q | q | q
          ·exact .inr (.inr (.inl q))
          ·exact .inr (.inr (.inr (.inl q)))
          ·exact .inr (.inr (.inr (.inr q))))
         walk_at "vs"
         intro v ps made Hf' H8 b8 sf8 fm8 so8
         have lp8:=lp7.know b8 sf8 fm8 so8 (Kn.nW hkn) (fun y hy=>by
          unfold Kn.put at hy
          by_cases w:y=ak i
          ·exact .inr w
          ·rw[if_neg w] at hy;exact .inl hy) (fun y hne h=>by unfold Kn.put;rw[if_neg hne];exact h) (by omega)
         walk_at "vs"
         refine⟨_,_,_,_,_,_,_,_,rfl,lp8, ?_⟩
         have hu:=Jh (v:=v) hi hkn
         rw[qb hkn,zO (by unfold Kn.put;rw[if_pos rfl];simp)]
         omega
        ·obtain⟨j,hj,ez⟩:=dJ.mp (hsk.in rki)
         subst ez
         have hin:inV (.str (ak j)) ((js++[i]).map fun i=>V.str (ak i))=false:=by
          unfold inV
          rw[List.any_eq_false]
          intro u hu
          obtain⟨k,hk,rfl⟩:=List.mem_map.mp hu
          have hkn':=lp7.lt k hk
          have hki:i<=k:=by
           rcases List.mem_append.mp hk with z | z
           ·have dec:=lp7.dec
            rw[List.pairwise_append] at dec
            exact Nat.le_of_lt (dec.2.2 k z i (by simp))
           ·have:k=i:=by simpa using z
            omega
          intro z
          have z:(ak k==ak j)=true:=z
          have:=jt (show k<26 by omega) (show j<26 by omega) (eq_of_beq z)
          omega
         have hfl:((js++[i]).map fun i=>V.str (ak i)).all Ar=true:=by
          rw[List.all_eq_true]
          intro u hu
          obtain⟨k,hk,rfl⟩:=List.mem_map.mp hu
          rfl
         have hsz:((js++[i]).map fun i=>V.str (ak i)).length<sizeLine:=by rw[List.length_map];exact bL (by omega)
         walk_at "vs"
         rw[hin]
         walk_at "vs"
         have em:((js++[i]).map fun i=>V.str (ak i))++[V.str (ak j)]=(js++[i]++[j]).map fun i=>V.str (ak i):=by rw[List.map_append (l₁:=js++[i])];rfl
         rw[em]
         refine⟨js++[i]++[j],_,_,_,_,_,_,_,rfl,lp7.push hkn hj hgv hrc hsk, ?_⟩
         rw[qb hkn,qb hzn,List.length_append]
         simp only[List.length_cons,List.length_nil]
         omega
      | none=>
        have db:bT H3 bgd (.str (ak i)) none:=by
         have:dI kb (.inr (ak i))=none:=by rw[hkb,hA];rfl
         rw[<-this];exact bT.k (k:= .inr (ak i)) eb
        have sh3:=lp.sh.same lp.so.sm
        have hkbl:kb.length<=n:=by
         rw[kkb.len,<-lG n]
         refine ju kkb.nd fun y hy=>lp.bgi.nm y fun z=> ?_
         exact kkb.none.mp (by rw[hkb,z];rfl) hy
        walk_at "vs"
        intro A H4 s4 hA4 so4
        have lp6:=lp.begun s4 hA4 (so4 kn) hrc hgv hy hA eb
        have dpb:jn H4 bgd (.str (ak i)) (.ref A.s) (upd H4 bgd (.dK (putK kb (.inr (ak i)) (.ref A.s)))):=jn.k (k:= .inr (ak i)) (s4 _ _ eb) (bL (by omega))
        have hA:mW bg (ak i) A (ak i)=some A:=by unfold mW;rw[if_pos rfl]
        generalize upd H4 bgd (.dK (putK kb (.inr (ak i)) (.ref A.s)))=H5 at *
        obtain⟨kb6,ks6,eb6,kk6,acf⟩:=lp6.bgi.e
        obtain⟨r',hr',_,seo⟩:=lp6.bgi.ok (ak i) A hA hkn
        rw[hrc] at hr'
        cases hr'
        have e6:=lp6.so.sm _ _ lp6.sh.e
        have rD6:=lp6.sh.rD.map fun _ _ z=>z.same lp6.so.sm
        obtain⟨kw6,ws6,ek6,aik,acg⟩:=lp6.so.ek
        have knA:VB H5 D.kd kn:=⟨kw6,ek6,acg⟩
        have nd3:D.kd≠A.a3:=fun z=>(lp6.bgi.al (ak i) A hA A.a3 (by simp[SeD.ft])).2.2 (by rw[<-z];simp)
        have db6:bT H5 bgd (.str (ak i)) (some (.ref A.s)):=by
         have:dI kb6 (.inr (ak i))=some (.ref A.s):=by rw[acf,hA];rfl
         rw[<-this];exact bT.k (k:= .inr (ak i)) eb6
        have eA6:=seo.e
        walk_at "vs"
        intro A' H7 b7 es eb' erk e1' e2' e3' efl so7
        have lp7:=lp6.gone hA b7 so7 hrc hgv es erk e1' e2' e3' efl
        have e7:=lp7.so.sm _ _ lp7.sh.e
        have ep7:=lp7.ep
        refine⟨fun hend=> ?_,fun z hzn hsk=> ?_⟩
        ·obtain⟨kb7,ks7,eb7,kk7,ach⟩:=lp7.bgi.e
         have db7:bT H7 bgd (.str (ak i)) (some (.ref A'.s)):=by
          have:dI kb7 (.inr (ak i))=some (.ref A'.s):=by rw[ach];unfold mW;rw[if_pos rfl];rfl
          rw[<-this];exact bT.k (k:= .inr (ak i)) eb7
         have ail:=lp7.so
         have sh7:=lp7.sh
         have eA7:=so7.e
         have hR7:=so7.hr
         have hy:ak i∈nmK n:=dJ.mpr ⟨i,hi,rfl⟩
         have hft:∀z∈A'.ft,z∉[D.kd,D.sd,D.rd]:=fun z hz w=>(lp7.bgi.al (ak i) A' (by unfold mW;rw[if_pos rfl]) z hz).2.2 (by
          simp only[List.mem_cons,List.not_mem_nil,or_false] at w ⊢
          rcases w with q | q | q
          ·exact .inr (.inr (.inl q))
          ·exact .inr (.inr (.inr (.inl q)))
          ·exact .inr (.inr (.inr (.inr q))))
         walk_at "vs"
         intro v ps made Hf' H8 b8 sf8 fm8 so8
         have lp8:=lp7.know b8 sf8 fm8 so8 (Kn.nW hkn) (fun y hy=>by
          unfold Kn.put at hy
          by_cases w:y=ak i
          ·exact .inr w
          ·rw[if_neg w] at hy;exact .inl hy) (fun y hne h=>by unfold Kn.put;rw[if_neg hne];exact h) (by omega)
         walk_at "vs"
         refine⟨_,_,_,_,_,_,_,_,rfl,lp8, ?_⟩
         have hu:=Jh (v:=v) hi hkn
         rw[qb hkn,zO (by unfold Kn.put;rw[if_pos rfl];simp)]
         omega
        ·obtain⟨j,hj,ez⟩:=dJ.mp (hsk.in rki)
         subst ez
         have hin:inV (.str (ak j)) ((js++[i]).map fun i=>V.str (ak i))=false:=by
          unfold inV
          rw[List.any_eq_false]
          intro u hu
          obtain⟨k,hk,rfl⟩:=List.mem_map.mp hu
          have hkn':=lp7.lt k hk
          have hki:i<=k:=by
           rcases List.mem_append.mp hk with z | z
           ·have dec:=lp7.dec
            rw[List.pairwise_append] at dec
            exact Nat.le_of_lt (dec.2.2 k z i (by simp))
           ·have:k=i:=by simpa using z
            omega
          intro z
          have z:(ak k==ak j)=true:=z
          have:=jt (show k<26 by omega) (show j<26 by omega) (eq_of_beq z)
          omega
         have hfl:((js++[i]).map fun i=>V.str (ak i)).all Ar=true:=by
          rw[List.all_eq_true]
          intro u hu
          obtain⟨k,hk,rfl⟩:=List.mem_map.mp hu
          rfl
         have hsz:((js++[i]).map fun i=>V.str (ak i)).length<sizeLine:=by rw[List.length_map];exact bL (by omega)
         walk_at "vs"
         rw[hin]
         walk_at "vs"
         have em:((js++[i]).map fun i=>V.str (ak i))++[V.str (ak j)]=(js++[i]++[j]).map fun i=>V.str (ak i):=by rw[List.map_append (l₁:=js++[i])];rfl
         rw[em]
         refine⟨js++[i]++[j],_,_,_,_,_,_,_,rfl,lp7.push hkn hj hgv hrc hsk, ?_⟩
         rw[qb hkn,qb hzn,List.length_append]
         simp only[List.length_cons,List.length_nil]
         omega
end
section
local macro_rules | `(tactic| walk_at "side") => `(tactic| first | exact yx _ _ _ _ _ _ | exact rZ _ _ _ _ _ _ | exact Jg _ _ _ _ _ _ | exact yz _ _ _ _ _ _ | exact su _ _ _ _ _ _ | exact p7 _ _ _ _ _ _ | exact (iw _ _ _ _ _ _).1 | exact (iw _ _ _ _ _ _).2.1 | exact (iw _ _ _ _ _ _).2.2.1 | exact (iw _ _ _ _ _ _).2.2.2.1 | exact (iw _ _ _ _ _ _).2.2.2.2 | exact Nat.le_of_ble_eq_true rfl)
variable {P:Program}{w:World}{K:PySem.W.Frag}{mg:Str->Option Value}{base:Heap}{CSe CN CS CR:Addr}
abbrev gJ:Stmt:=yC 13 3
theorem Jq:bI ["self"] ["self"] (aa gJ):=⟨rfl,rfl,rfl,by decide +kernel,rfl,by decide +kernel,by decide +kernel⟩
theorem zW:aF (aa gJ) "self":=by decide +kernel
theorem Jr {f:Addr}{fd:FuncData} (jF:gW K CSe "made" "Search.made" gJ ["self"] f fd) (T:Blt mg) (sr:SrC K CSe):aX P w K mg base CX0 1 f fd ["self"] (Wd CSe):=by
 refine jF.F.okQ Jq (fun vs H Q E h=> ?_) (fun cdv A outer s H vs Q E hr h=> ?_)
 ·obtain⟨D,ks,kk,ss,rkn,rfl,_⟩:=h
  rfl
 obtain⟨D,ks,kk,ss,rkn,rfl,e,es,hks,hsl,nsr,er,hkk,q⟩:=h
 have nU:=sr.cl
 have nS:=sr.nS
 have nM:=sr.nM
 refine⟨_,(aD (aW (tY rfl (n:=1) (fr:=[0]) (N:=["name","self"]) (GC (scX:=aa gJ) (NX:=["self"]) rfl rfl (by decide +kernel)) (Dh (bR (aj 0 zW))) (fun _ _ _ _ _=>(qgx (i:=0) (show List.Nodup (α:=Str) ["name","self"] by decide) (K7 (by decide +kernel)))) (fun _ _ _ _ _=>(HY (uD (bN hr) (aj 0 (pL.ok (by decide +kernel))) (LK (K:=K) rfl (aj 1 (pL.ok (by decide +kernel))))))) (fun _ _ _ _ _=>(aj 0 (pL.ok (by decide +kernel))))))), ?_⟩
 walk_at "vs"
 intro o
 have b1:But [D.sd] H (upd H D.sd (.frz o (.dK ks))):=But.set _ (by simp)
 have e1:upd H D.sd (.frz o (.dK ks)) D.so=some (.ins CSe D.dx (srF D.g D.c D.o D.kd D.sd D.rd)):=(aq (fun z=>by rw[z,es] at e;cases e)).trans e
 have er1:upd H D.sd (.frz o (.dK ks)) D.rd=some (.dK kk):=(aq (Ne.symm nsr)).trans er
 have es1:upd H D.sd (.frz o (.dK ks)) D.sd=some (.frz o (.dK ks)):=ao
 have n1:∀{z},upd H D.sd (.frz o (.dK ks)) z=none->H z=none:=fun z=>(d9 z).2
 generalize upd H D.sd (.frz o (.dK ks))=H1 at *
 intro L hL
 refine Fv (fun i σ' H'=>(∃t,σ'=[t,some (.ref D.so)])/\aQ H1 H'/\H' L=some (.lst (((ss.take i).filter rkn).map V.str))) ?_ ?_ ?_ ?_
 ·exact⟨⟨none,rfl⟩,aC _ hL,ao⟩
 ·intro i σ' H' _ hP
  exact hP.2.1 _ _ es1
 ·intro i k v σ' H' hkv hP
  obtain⟨⟨t,rfl⟩,S2,eL⟩:=hP
  obtain⟨x,rfl,hxi⟩:=hks.at hkv
  have hi:i<ss.length:=(List.getElem?_eq_some_iff.mp hxi).1
  have e2:=S2 _ _ e1
  have dg:bT H' D.rd (.str x) (if rkn x=true then some (.bl true) else none):=by rw[<-hkk];exact bT.k (k:= .inr x) (S2 _ _ er1)
  have hz:(((ss.take i).filter rkn).map V.str).length<sizeLine:=by
   rw[List.length_map]
   have h1:=List.length_filter_le (rkn) (ss.take i)
   have h2:=List.length_take_le i ss
   exact bL (by omega)
  have ht:ss.take (i+1)=ss.take i++[x]:=by rw[List.take_add_one,hxi];rfl
  cases hrx:rkn x with
  | true=>
    rw[hrx,if_pos rfl] at dg
    walk_at "vs"
    refine⟨⟨_,rfl⟩,cL _ hL S2, ?_⟩
    rw[ht,List.filter_append,List.map_append,ao]
    simp[List.filter_cons,hrx]
    rfl
  | false=>
    rw[hrx,if_neg (by decide)] at dg
    walk_at "vs"
    refine⟨⟨_,rfl⟩,S2, ?_⟩
    rw[ht,List.filter_append,eL]
    simp[List.filter_cons,hrx]
 ·intro σ' H' hP
  obtain⟨_,S2,eL⟩:=hP
  rw[show ss.take ks.length=ss by rw[hks.len];exact List.take_length] at eL
  exact q L o H' (b1.trans (But.of_same S2)) (S2 _ _ es1) (n1 hL) eL
abbrev gK:Stmt:=yC 13 4
theorem Js:bI ["self"] ["self"] (aa gK):=⟨rfl,rfl,rfl,by decide +kernel,rfl,by decide +kernel,by decide +kernel⟩
theorem zX:aF (aa gK) "self":=by decide +kernel
theorem Jt {f:Addr}{fd:FuncData} (jG:gW K CSe "kept" "Search.kept" gK ["self"] f fd) (T:Blt mg) (sr:SrC K CSe):aX P w K mg base CX0 1 f fd ["self"] (We CSe):=by
 refine jG.F.okQ Js (fun vs H Q E h=> ?_) (fun cdv A outer s H vs Q E hr h=> ?_)
 ·obtain⟨D,o,ks,kk,ss,rkn,rfl,_⟩:=h
  rfl
 obtain⟨D,o,ks,kk,ss,rkn,rfl,e,es,hks,hsl,er,hkk,q⟩:=h
 have nU:=sr.cl
 have nS:=sr.nS
 have nM:=sr.nM
 refine⟨_,(aD (aW (tY rfl (n:=1) (fr:=[0]) (N:=["name","self"]) (GC (scX:=aa gK) (NX:=["self"]) rfl rfl (by decide +kernel)) (Wc (bR (aj 0 zX))) (fun _ _ _ _ _=>(qgx (i:=0) (show List.Nodup (α:=Str) ["name","self"] by decide) (K7 (by decide +kernel)))) (fun _ _ _ _ _=>(HY (oJ (bN hr) (aj 0 (pL.ok (by decide +kernel))) (LK (K:=K) rfl (aj 1 (pL.ok (by decide +kernel))))))) (fun _ _ _ _ _=>(aj 0 (pL.ok (by decide +kernel))))))), ?_⟩
 have e1:=e
 have er1:=er
 have es1:=es
 walk_at "vs"
 intro L hL
 refine Fv (fun i σ' H'=>(∃t,σ'=[t,some (.ref D.so)])/\aQ H H'/\H' L=some (.lst (((ss.take i).filter (fun x=> !rkn x)).map V.str))) ?_ ?_ ?_ ?_
 ·exact⟨⟨none,rfl⟩,aC _ hL,ao⟩
 ·intro i σ' H' _ hP
  exact hP.2.1 _ _ es1
 ·intro i k v σ' H' hkv hP
  obtain⟨⟨t,rfl⟩,S2,eL⟩:=hP
  obtain⟨x,rfl,hxi⟩:=hks.at hkv
  have hi:i<ss.length:=(List.getElem?_eq_some_iff.mp hxi).1
  have e2:=S2 _ _ e1
  have dg:bT H' D.rd (.str x) (if rkn x=true then some (.bl true) else none):=by rw[<-hkk];exact bT.k (k:= .inr x) (S2 _ _ er1)
  have hz:(((ss.take i).filter (fun x=> !rkn x)).map V.str).length<sizeLine:=by
   rw[List.length_map]
   have h1:=List.length_filter_le ((fun x=> !rkn x)) (ss.take i)
   have h2:=List.length_take_le i ss
   exact bL (by omega)
  have ht:ss.take (i+1)=ss.take i++[x]:=by rw[List.take_add_one,hxi];rfl
  cases hrx:rkn x with
  | true=>
    rw[hrx,if_pos rfl] at dg
    walk_at "vs"
    refine⟨⟨_,rfl⟩,S2, ?_⟩
    rw[ht,List.filter_append,eL]
    simp[List.filter_cons,hrx]
  | false=>
    rw[hrx,if_neg (by decide)] at dg
    walk_at "vs"
    refine⟨⟨_,rfl⟩,cL _ hL S2, ?_⟩
    rw[ht,List.filter_append,List.map_append,ao]
    simp[List.filter_cons,hrx]
    rfl
 ·intro σ' H' hP
  obtain⟨_,S2,eL⟩:=hP
  rw[show ss.take ks.length=ss by rw[hks.len];exact List.take_length] at eL
  exact q L H' S2 hL eL
end
section
local macro_rules | `(tactic| walk_at "side") => `(tactic| first | exact yx _ _ _ _ _ _ | exact rZ _ _ _ _ _ _ | exact Jg _ _ _ _ _ _ | exact yz _ _ _ _ _ _ | exact su _ _ _ _ _ _ | exact p7 _ _ _ _ _ _ | exact (iw _ _ _ _ _ _).1 | exact (iw _ _ _ _ _ _).2.1 | exact (iw _ _ _ _ _ _).2.2.1 | exact (iw _ _ _ _ _ _).2.2.2.1 | exact (iw _ _ _ _ _ _).2.2.2.2 | exact Nat.le_of_ble_eq_true rfl)
variable {P:Program}{w:World}{K:PySem.W.Frag}{mg:Str->Option Value}{base:Heap}{CSe CN CS CR:Addr}
abbrev fB:Stmt:=top 14
theorem yV:bI ["house","old","wishes","search","name"] ["house","old","wishes"] (aa fB):=⟨rfl,rfl,rfl,by decide +kernel,rfl,by decide +kernel,by decide +kernel⟩
theorem By:Loc (aa fB) "search":=by decide +kernel
theorem BJ:(aa fB).names.lookup ("Search":Str)=some NameKind.globalImplicit:=by decide +kernel
theorem G8:aF (aa fB) "old":=by decide +kernel
theorem Ds:aF (aa fB) "house":=by decide +kernel
theorem BK:(("Search":Str)==("__debug__":Str))=false:=by decide +kernel
theorem BL:aF (aa fB) "wishes":=by decide +kernel
theorem Fx:Loc (aa fB) "name":=by decide +kernel
theorem sG:aF (aa fB) "search":=by decide +kernel
theorem Fy:aF (aa fB) "name":=by decide +kernel
theorem Oe {f g0 g1:Addr}{fd gd0 gd1:FuncData} (lZ:FnT K mg "searched" fB ["house","old","wishes"] f fd)
 (ie:gW K CSe "__init__" "Search.__init__" cU ["self","house","old"] g0 gd0) (Dt:aX P w K mg base CX0 1 g0 gd0 ["self","house","old"] (N5 CSe))
 (iz:gW K CSe "settle" "Search.settle" bD ["self","name"] g1 gd1) (G9:aX P w K mg base CX0 15 g1 gd1 ["self","name"] (N6 CSe CN))
 (Ju:Mk K CSe g0) (Jv:mg "Search"=some (.ref CSe)) (T:Blt mg) (sr:SrC K CSe):aX P w K mg base CX0 16 f fd ["house","old","wishes"] (Ji CSe CN):=by
 refine lZ.F.okQ yV (fun vs H Q E h=> ?_) (fun cdv A outer s H vs Q E hr h=> ?_)
 ·obtain⟨h,g,c,o,dxo,rcd,wl,n,gv,rc,kg,kc,kr,rm,ws,rfl,_⟩:=h
  rfl
 obtain⟨h,g,c,o,dxo,rcd,wl,n,gv,rc,kg,kc,kr,rm,ws,rfl,eh,eg,ec,bd,n17,eo,er,rD,ewl,hws,q⟩:=h
 have nU:=sr.cl
 refine⟨_,(au (bG (i:=3) yV.nd rfl By (Hs Ju (Dt.mono (by omega)) hr BJ Jv ie.b .nil aU (aG (aj 0 Ds) (aG (aj 1 G8) az)) BK))
  (au (wF PassesOwn.never rfl (Ld (aj 2 BL)) (jx (i:=4) yV.nd rfl Fx) (aD (fP (qZ (aj 3 sG) nU iz.m (G9.mono (by omega)) hr iz.b .nil aU (aG (aj 4 Fy) az)))))
  (aD (aW (aj 3 sG))))), ?_⟩
 walk_at "vs"
 intro a dx ha hdx hne
 have haH:(upd H dx (.own a)) a=none:=(aq (Ne.symm hne)).trans ha
 have S1:=(aC (.own a) hdx).trans (aC (.ins CSe dx []) haH)
 refine⟨a,dx,h,g,c,o,rfl,ao,S1 _ _ eh,fun kd sd rd H2 b2 e2 hk hs hr' nks nkr nsr ek2 es2 er2=>⟨rfl, ?_⟩⟩
 have hk0:=same_none S1 hk
 have hs0:=same_none S1 hs
 have hr0:=same_none S1 hr'
 have S2:aQ H H2:=eX S1 (fun p hp=>by
  have:p=a:=by simpa using hp
  rw[this];exact ha) b2
 have nka:kd≠a:=fun z=>by rw[z,ao] at hk;cases hk
 have nsa:sd≠a:=fun z=>by rw[z,ao] at hs;cases hs
 have nra:rd≠a:=fun z=>by rw[z,ao] at hr';cases hr'
 have sf0:aQ H (upd H a (.ins CSe dx (srF g c o kd sd rd))):=aC _ ha
 have sm0:aQ (upd H a (.ins CSe dx (srF g c o kd sd rd))) H2:=fun z ob e=>by
  by_cases w:z=a
  ·subst w;rw[ao] at e;cases e;exact e2
  ·rw[aq w] at e;exact S2 _ _ e
 have shf:SrH CSe CN ⟨a,dx,g,c,o,dxo,rcd,kd,sd,rd⟩ n gv rc kg kc kr rm (upd H a (.ins CSe dx (srF g c o kd sd rd))):=
  ⟨ao,sf0 _ _ eg,sf0 _ _ ec,bd.tups (aQ.tups sf0),sf0 _ _ eo,sf0 _ _ er,rD.map fun _ _ z=>z.same sf0,n17,nks,nkr,nsr⟩
 have so2:vp ⟨a,dx,g,c,o,dxo,rcd,kd,sd,rd⟩ n gv rc rm kn0 (fun _=>none) (fun _=>false) (upd H a (.ins CSe dx (srF g c o kd sd rd))) H2:=
  ⟨sm0,(aq nka).trans hk0,(aq nsa).trans hs0,(aq nra).trans hr0,⟨[],[],ek2,⟨rfl,by simp⟩,fun x=>by rw[yj];rfl⟩,⟨[],es2,⟨[],⟨rfl,by simp⟩,by simp⟩,fun x q e=>(nomatch e),fun x _=>yj,fun x r ps v e=>(nomatch e)⟩,⟨[],[],er2,⟨rfl,by simp⟩,fun x=>by rw[yj];rfl,fun x h=>(nomatch h)⟩,⟨fun x v e=>(nomatch e),fun x r ps v e=>(nomatch e)⟩,fun x r ps v e=>(nomatch e)⟩
 have T9:=S2 _ _ ewl
 walk_at "vs"
 refine MN (xs:=ws.map V.str) (fun i σ H'=>∃(kn:Kn) (rmN:Rm) (rkn:Str->Bool) (Hf:Hp) (t:Option V),σ=[some (.ref h),some (.ref o),some (.ref wl),some (.ref a),t]/\aQ H H'/\aQ H Hf/\SrH CSe CN ⟨a,dx,g,c,o,dxo,rcd,kd,sd,rd⟩ n gv rc kg kc kr rm Hf/\vp ⟨a,dx,g,c,o,dxo,rcd,kd,sd,rd⟩ n gv rc rm kn rmN rkn Hf H'/\(∀x∈ws.take i,kn x≠none)/\∀y,kn y≠none->∃x∈ws,Rch gv rc kn x y) ?_ ?_ ?_ ?_
 ·exact⟨_,_,_,_,none,rfl,S2,sf0,shf,so2,by simp,fun y hy=>absurd rfl hy⟩
 ·rintro i σ H' _ ⟨kn,rmN,rkn,Hf,t,_,S3,_⟩
  exact SqL.of (S3 _ _ ewl)
 ·rintro i v σ H3 hv ⟨kn,rmN,rkn,Hf,t,rfl,S3,sf3,sh3,so3,hw3,hr3⟩
  obtain⟨x,hxi,rfl⟩:∃x,ws[i]? =some x/\v=V.str x:=by
   rw[List.getElem?_map] at hv
   cases e:ws[i]? with
   | none=>rw[e] at hv;cases hv
   | some x=>rw[e] at hv;exact⟨x,rfl,(Option.some.inj hv).symm⟩
  have hxm:x∈ws:=List.mem_of_getElem? hxi
  have hxn:=hws x hxm
  have e3:H3 a=some (.ins CSe dx (srF g c o kd sd rd)):=so3.sm _ _ sh3.e
  walk_at "vs"
  refine⟨⟨a,dx,g,c,o,dxo,rcd,kd,sd,rd⟩,n,gv,rc,kg,kc,kr,rm,kn,rmN,rkn,Hf,x,rfl,sh3,so3,hxn,fun kn' N7 rkn' Hf' H4 b4 sf4 fm4 so4 le4 hx4 hr4=> ?_⟩
  refine⟨kn',N7,rkn',Hf',_,rfl,eX S3 (fun p hp=> ?_) b4,sf3.trans sf4,sh3.same sf4,so4,fun y hy=> ?_,fun y hy=> ?_⟩
  ·have hp:p=kd\/p=sd\/p=rd:=by simpa using hp
   rcases hp with rfl | rfl | rfl
   ·exact hk0
   ·exact hs0
   ·exact hr0
  ·rw[List.take_add_one,hxi] at hy
   rcases List.mem_append.mp hy with z | z
   ·intro w
    cases e:kn y with
    | none=>exact hw3 y z e
    | some u=>rw[le4 y u e] at w;cases w
   ·have:y=x:=by simpa using z
    rw[this];exact hx4
  ·rcases hr4 y hy with z | z
   ·obtain⟨x',hx',r'⟩:=hr3 y z
    exact⟨x',hx',r'.le le4⟩
   ·exact⟨x,hxm,z⟩
 ·rintro σ H3 ⟨kn,rmN,rkn,Hf,t,rfl,S3,sf3,sh3,so3,hw3,hr3⟩
  walk_at "vs"
  rw[show ws.take (ws.map V.str).length=ws by rw[List.length_map];exact List.take_length] at hw3
  exact q ⟨a,dx,g,c,o,dxo,rcd,kd,sd,rd⟩ kn rmN rkn Hf H3 S3 sf3 sh3 so3 hk0 hs0 hr0 hw3 hr3
abbrev cV:Stmt:=top 16
theorem yW:bI ["house","records","wishes","search"] ["house","records","wishes"] (aa cV):=⟨rfl,rfl,rfl,by decide +kernel,rfl,by decide +kernel,by decide +kernel⟩
theorem xZ:Loc (aa cV) "search":=by decide +kernel
theorem vO:(aa cV).names.lookup ("searched":Str)=some NameKind.globalImplicit:=by decide +kernel
theorem yc:aF (aa cV) "wishes":=by decide +kernel
theorem rH:(aa cV).names.lookup ("NamedRecords":Str)=some NameKind.globalImplicit:=by decide +kernel
theorem wY:aF (aa cV) "records":=by decide +kernel
theorem rJ:(("NamedRecords":Str)==("__debug__":Str))=false:=by decide +kernel
theorem yX:aF (aa cV) "house":=by decide +kernel
theorem vP:(("searched":Str)==("__debug__":Str))=false:=by decide +kernel
theorem ji:aF (aa cV) "search":=by decide +kernel
theorem Jw {f g0 g1 g2 g3:Addr}{fd gd0 gd1 gd2 gd3:FuncData} (iQ:FnT K mg "build_again" cV ["house","records","wishes"] f fd)
 (lZ:FnT K mg "searched" fB ["house","old","wishes"] g0 gd0) (Qz:aX P w K mg base CX0 16 g0 gd0 ["house","old","wishes"] (Ji CSe CN))
 (dR:gW K CN "__init__" "NamedRecords.__init__" bU ["self","records"] g1 gd1) (vQ:aX P w K mg base CX0 1 g1 gd1 ["self","records"] (Nz CN))
 (sH:Mk K CN g1) (sI:mg "NamedRecords"=some (.ref CN))
 (jF:gW K CSe "made" "Search.made" gJ ["self"] g2 gd2) (JZ:aX P w K mg base CX0 1 g2 gd2 ["self"] (Wd CSe))
 (jG:gW K CSe "kept" "Search.kept" gK ["self"] g3 gd3) (J0:aX P w K mg base CX0 1 g3 gd3 ["self"] (We CSe))
 (T:Blt mg) (sr:SrC K CSe):aX P w K mg base CX0 17 f fd ["house","records","wishes"] RX:=by
 refine iQ.F.okQ yW (fun vs H Q E h=> ?_) (fun cdv A outer s H vs Q E hr h=> ?_)
 ·obtain⟨h,g,c,rcd,wl,n,gv,rc,kr,rm,ws,rfl,_⟩:=h
  rfl
 obtain⟨h,g,c,rcd,wl,n,gv,rc,kr,rm,ws,rfl,⟨kg,kc,eh,eg,ec,bd⟩,n17,er,rD,ewl,hws,q⟩:=h
 have nU:=sr.cl
 have nK:=sr.nK
 have nS:=sr.nS
 refine⟨_,(au (bG (i:=3) yW.nd rfl xZ (aJ (Qz.mono (by omega)) hr vO lZ.m lZ.F.kp lZ.b .nil aU (aG (aj 0 yX) (qD (Hs sH (vQ.mono (by omega)) hr rH sI dR.b .nil aU (aG (aj 1 wY) az) rJ) (aG (aj 2 yc) az))) vP))
  (aD (aW (fM (Tr (bR (aj 3 ji)) (Tr (bR (aj 3 ji)) (qD (yr (aj 3 ji) nU jF.m (JZ.mono (by omega)) hr jF.b .nil aU) (qD (yr (aj 3 ji) nU jG.m (J0.mono (by omega)) hr jG.b .nil aU) az)))))))), ?_⟩
 walk_at "vs"
 intro o dxo ho hdxo hne
 have hoH:(upd H dxo (.own o)) o=none:=(aq (Ne.symm hne)).trans ho
 have S1:=(aC (.own o) hdxo).trans (aC (.ins CN dxo []) hoH)
 refine⟨o,dxo,rcd,rfl,ao,fun H2 b2 e2=>⟨rfl, ?_⟩⟩
 have S2:aQ H H2:=eX S1 (fun p hp=>by
  have:p=o:=by simpa using hp
  rw[this];exact ho) b2
 have eh2:=S2 _ _ eh
 have eg2:=S2 _ _ eg
 have ec2:=S2 _ _ ec
 have bd2:=bd.tups (aQ.tups S2)
 have er2:=S2 _ _ er
 have rD2:=rD.map fun _ _ z=>z.same S2
 have T9:=S2 _ _ ewl
 walk_at "vs"
 intro D kn rmN rkn Hf H3 s3 sf3 sh3 so3 hk3 hs3 hr3 hw3 hrch
 have S3:=S2.trans s3
 have e3:=so3.sm _ _ sh3.e
 obtain⟨kw,wn,ek,kkw,hkw⟩:=so3.ek
 obtain⟨ks,es,rDs⟩:=so3.es
 obtain⟨sn,kks,hsn⟩:=rDs.k
 obtain⟨kk,rs,er3,kkr,hkk,hrn⟩:=so3.er
 have hsl:sn.length<=100:=by
  have:=rDs.len
  rw[kks.len] at this;omega
 obtain⟨nks,nkr,nsr⟩:=sh3.ne
 have hk0:=same_none S2 hk3
 have hs0:=same_none S2 hs3
 have hr0:=same_none S2 hr3
 walk_at "vs"
 intro lm o' H4 b4 es4 hlm elm
 have k4:∀{z:Addr}{u:HO},z≠D.sd->H3 z=some u->H4 z=some u:=fun h e=>b4 _ _ (by simpa using h) e
 have e4:=k4 (fun z=>by rw[z,es] at e3;cases e3) e3
 have er4:=k4 (Ne.symm nsr) er3
 have ek4:=k4 nks ek
 have sf4:aQ Hf H4:=fun z u e=>k4 (fun w=>by rw[w,so3.fs] at e;cases e) (so3.sm _ _ e)
 walk_at "vs"
 intro lk H5 s5 hlk elk
 have aim:=s5 _ _ elm
 have es5:=s5 _ _ es4
 have ek5:=s5 _ _ ek4
 have hnl:lm≠lk:=fun z=>by rw[<-z,elm] at hlk;cases hlk
 walk_at "vs"
 intro t ht
 have s6:=aC (.tup [.ref D.kd, .ref D.sd, .ref lm, .ref lk]) ht
 have S4:aQ H H4:=eX S3 (fun p hp=>by
  have:p=D.sd:=by simpa using hp
  rw[this];exact hs0) b4
 have ain:=same_none S3 hlm
 have aio:=same_none S4 hlk
 exact q t D.kd D.sd lm lk kw ks wn sn kn rmN rkn o' _ (S4.trans (s5.trans s6)) ao hk0 hs0 ain aio nks hnl (s6 _ _ ek5) kkw hkw (s6 _ _ es5) kks (rDs.map fun _ _ z=>z.same (sf4.trans (s5.trans s6))) (s6 _ _ aim) (s6 _ _ elk) ⟨so3.ok,so3.md,hw3,hrch,hrn⟩
end
section
variable {P:Program}{w:World}{K:PySem.W.Frag}{mg:Str->Option Value}{base:Heap}
abbrev fO:Stmt:=top 21
theorem Jx:bI ["script","k"] ["script","k"] (aa fO):=⟨rfl,rfl,rfl,by decide +kernel,rfl,by decide +kernel,by decide +kernel⟩
theorem vR:aF (aa fO) "k":=by decide +kernel
theorem BP:(aa fO).names.lookup ("len":Str)=some NameKind.globalImplicit:=by decide +kernel
theorem pK:aF (aa fO) "script":=by decide +kernel
theorem BR:("len":Str)≠"__name__":=by decide +kernel
theorem BV:(("len":Str)==("__debug__":Str))=false:=by decide +kernel
theorem Jy {f:Addr}{fd:FuncData} (eY:FnT K mg "_law_cell_at" fO ["script","k"] f fd) (T:Blt mg):aX P w K mg base CX0 1 f fd ["script","k"] (Vx K):=by
 refine eY.F.okQ Jx (fun vs H Q E h=> ?_) (fun cdv A outer s H vs Q E hr h=> ?_)
 ·obtain⟨a,ns,k,rfl,_⟩:=h
  rfl
 obtain⟨a,ns,k,rfl,hS,h0,q⟩:=h
 refine⟨_,(au (cM (cC Vk (aj 1 vR) (cX jC BP T.vf pN (aG (aj 0 pK) az) BR BV) (aV _)) (aD (aW (aO cO (aj 0 pK) (aj 1 vR)))) bJ)
  (aD (aW aA))), ?_⟩
 walk_at "vs"
 refine wz (fun c1=> ?_) (fun c1=> ?_)
 ·have c1':k<((ns.map V.int).length:Int):=by simpa using c1
  obtain⟨v,j,hv,_⟩:=aeH h0 c1'
  walk_at "vs"
  exact q _
 ·walk_at "vs"
  exact q _
abbrev iB:Stmt:=top 22
theorem Og:bI ["script","k"] ["script","k"] (aa iB):=⟨rfl,rfl,rfl,by decide +kernel,rfl,by decide +kernel,by decide +kernel⟩
theorem Ay:aF (aa iB) "k":=by decide +kernel
theorem nu:(aa iB).names.lookup ("_law_cell_at":Str)=some NameKind.globalImplicit:=by decide +kernel
theorem sJ:aF (aa iB) "script":=by decide +kernel
theorem nC:(("_law_cell_at":Str)==("__debug__":Str))=false:=by decide +kernel
theorem Oh {f g:Addr}{fd gd:FuncData} (bM:FnT K mg "_law_pool" iB ["script","k"] f fd) (eY:FnT K mg "_law_cell_at" fO ["script","k"] g gd) (Az:aX P w K mg base CX0 1 g gd ["script","k"] (Vx K)) (T:Blt mg):
 aX P w K mg base CX0 2 f fd ["script","k"] (Li K):=by
 refine bM.F.okQ Og (fun vs H Q E h=> ?_) (fun cdv A outer s H vs Q E hr h=> ?_)
 ·obtain⟨a,ns,k,rfl,_⟩:=h
  rfl
 obtain⟨a,ns,k,rfl,hS,h0,h1,q⟩:=h
 refine⟨_,(aD (aW (XD (Lb bO (aJ (Az.mono (by omega)) hr nu eY.m eY.F.kp eY.b .nil aU (aG (aj 0 sJ) (aG (aj 1 Ay) az)) nC) (Lb bO (wD dY (cI nQ (aJ (Az.mono (by omega)) hr nu eY.m eY.F.kp eY.b .nil aU (aG (aj 0 sJ) (fj aA az)) nC) aA) aA (aV _)) (Lb bO (cI jK aA (cI qY aA (aj 1 Ay))) abA)))))), ?_⟩
 walk_at "vs"
 intro p hp
 have s1:=aC (.dK []) hp
 have hS1:=SqL.same s1 hS
 have e1:upd H p (.dK []) p=some (.dK []):=ao
 generalize upd H p (.dK [])=H1 at *
 walk_at "vs"
 intro n1
 walk_at "vs"
 intro n2
 walk_at "vs"
 refine⟨pZ n1 (decide (V.int (n2 % 2)=V.int 1)) (3+5 * k),rfl,by show 3<=15;decide, ?_⟩
 have em:Ff [] (pZ n1 (decide (V.int (n2 % 2)=V.int 1)) (3+5 * k))=pZ n1 (decide (V.int (n2 % 2)=V.int 1)) (3+5 * k):=rfl
 rw[em]
 exact q p _ (cL _ hp s1) hp ⟨_,_,_,ao,by omega,by omega⟩
abbrev dH:Stmt:=top 23
theorem qp:bI ["pool","many","rest"] ["pool","many"] (aa dH):=⟨rfl,rfl,rfl,by decide +kernel,rfl,by decide +kernel,by decide +kernel⟩
theorem mK:Loc (aa dH) "rest":=by decide +kernel
theorem gF:aF (aa dH) "pool":=by decide +kernel
theorem d8:aF (aa dH) "rest":=by decide +kernel
theorem pR:aF (aa dH) "many":=by decide +kernel
theorem Oi {f:Addr}{fd:FuncData} (aB:FnT K mg "_law_take" dH ["pool","many"] f fd) (T:Blt mg):aX P w K mg base CX0 1 f fd ["pool","many"] wG:=by
 refine aB.F.okQ qp (fun vs H Q E h=> ?_) (fun cdv A outer s H vs Q E hr h=> ?_)
 ·obtain⟨p,c,many,rfl,_⟩:=h
  rfl
 obtain⟨p,c,many,rfl,⟨rest,mixed,count,e,h0,h1⟩,hc,hm,hlg,q⟩:=h
 refine⟨_,(au (bG (i:=2) qp.nd rfl mK (cZ (bN hr) (aj 0 gF) bO))
  (au (cM (HQ (rT (cZ (bN hr) (aj 0 gF) bO))) (au (gm (bN hr) (aj 0 gF) bO (cI Dc (aj 2 d8) (aj 1 pR)))
  (aD (aW (cI nQ (aj 2 d8) (aj 1 pR))))) bJ)
  (au (gm (bN hr) (aj 0 gF) bO (cI jK (cZ (bN hr) (aj 0 gF) bO) aA))
  (au (bG (i:=2) qp.nd rfl mK (cI jK (cI nQ (aj 2 d8) aA) (cI qY aA (cZ (bN hr) (aj 0 gF) bO))))
  (au (bG (i:=2) qp.nd rfl mK (cI nQ (cI qY (aj 2 d8) (cI jK (aj 2 d8) aA)) aA))
  (au (bG (i:=2) qp.nd rfl mK (cI nQ (cI qY (aj 2 d8) (aj 2 d8)) aA))
  (au (gm (bN hr) (aj 0 gF) bO (aj 2 d8))
  (aD (aW (cI nQ (cI Dc (aj 2 d8) aA) (aj 1 pR))))))))))), ?_⟩
 have d1:=Fq e
 have d2:=Qf e
 have d3:=Im e
 walk_at "vs"
 cases mixed with
 | false=>
   walk_at "vs"
   refine And.intro (uB e _) ?_
   walk_at "vs"
   exact q _ _ (Int.emod_nonneg _ (by omega)) (Int.emod_lt_of_pos _ hm) (But.set _ (by simp)) ⟨_,_,_,ao,h0,by omega⟩
 | true=>
   walk_at "vs"
   refine And.intro (Io e _) ?_
   have e2:upd H p (.dK (pZ rest true (count+1))) p=some (.dK (pZ rest true (count+1))):=ao
   have b2:But [p] H (upd H p (.dK (pZ rest true (count+1)))):=But.set _ (by simp)
   clear d1 d2 d3
   generalize upd H p (.dK (pZ rest true (count+1)))=H2 at *
   have d1:=Fq e2
   have d3:=Im e2
   have r0:=Int.emod_nonneg rest (show(1000000000163:Int)≠0 by decide)
   have r1:=Int.emod_lt_of_pos rest (show(0:Int)<1000000000163 by decide)
   have m1:Fb 70001 (count+1):= .inl ⟨by decide,by decide⟩
   have m2:Fb (rest % 1000000000163+70001 *(count+1)) (rest % 1000000000163+70001 *(count+1)+29):= .inl ⟨by omega,by omega⟩
   have z1:=Int.emod_nonneg ((rest % 1000000000163+70001 *(count+1))*(rest % 1000000000163+70001 *(count+1)+29)) (show(1000000000193:Int)≠0 by decide)
   have z2:=Int.emod_lt_of_pos ((rest % 1000000000163+70001 *(count+1))*(rest % 1000000000163+70001 *(count+1)+29)) (show(0:Int)<1000000000193 by decide)
   walk_at "vs"
   refine And.intro (uB e2 _) ?_
   walk_at "vs"
   exact q _ _ (Int.emod_nonneg _ (by omega)) (Int.emod_lt_of_pos _ hm) (b2.trans (But.set _ (by simp))) ⟨_,_,_,ao,by omega,by omega⟩
abbrev jb:Stmt:=top 24
theorem GP:bI ["k","letters"] ["k"] (aa jb):=⟨rfl,rfl,rfl,by decide +kernel,rfl,by decide +kernel,by decide +kernel⟩
theorem zY:Loc (aa jb) "letters":=by decide +kernel
theorem qL:aF (aa jb) "letters":=by decide +kernel
theorem uO:aF (aa jb) "k":=by decide +kernel
theorem Oj {f:Addr}{fd:FuncData} (di:FnT K mg "_law_name" jb ["k"] f fd) (T:Blt mg):aX P w K mg base CX0 1 f fd ["k"] Il:=by
 refine di.F.okQ GP (fun vs H Q E h=> ?_) (fun cdv A outer s H vs Q E hr h=> ?_)
 ·obtain⟨k,rfl,_⟩:=h
  rfl
 obtain⟨k,rfl,hk,q⟩:=h
 refine⟨_,(au (bG (i:=1) GP.nd rfl zY bO)
  (aD (aW (cI Nb (aO Ro (aj 1 qL) (cI nQ (aj 0 uO) aA)) (cI Vw (aO Ro (aj 1 qL) (cI nQ (cI qY (aj 0 uO) aA) aA)) (cI nQ (cI qY (aj 0 uO) aA) aA)))))), ?_⟩
 have l1:=Vy (n:=(k:Int) % 26) (i:=k % 26) (by omega) (by omega)
 have l2:=Vy (n:=(k:Int)* 7 % 26) (i:=k * 7 % 26) (by omega) (by omega)
 have zl:("abcdefghijklmnopqrstuvwxyz":Str).length<=sizeLine:=by decide +kernel
 have m1:Fb (k:Int) 7:= .inr ⟨by decide,by decide⟩
 have m2:Fb (k:Int) 5:= .inr ⟨by decide,by decide⟩
 have n0:0<=(k:Int)* 5 % 8:=by omega
 have n1:(k:Int)* 5 % 8<=1000:=by omega
 have o1:(⟨#[k * 7 % 26+97]⟩:Str).length<=1000:=by show 1<=1000;decide
 have en:((k:Int)* 5 % 8).toNat=k * 5 % 8:=by omega
 have q':Q (.str (ltr (k % 26)++Ik (ltr (k * 7 % 26)) ((k:Int)* 5 % 8).toNat)) H:=by rw[en];exact q
 have zz:(⟨#[k % 26+97]⟩:Str).length+(Ik (⟨#[k * 7 % 26+97]⟩:Str) ((k:Int)* 5 % 8).toNat).length<=sizeLine:=by
  rw[X3,en,sizeLine_eq]
  show 1+k * 5 % 8 * 1<=_
  omega
 walk_at "vs"
 exact q'
end
section
variable {P:Program}{w:World}{K:PySem.W.Frag}{mg:Str->Option Value}{base:Heap}
abbrev gG:Stmt:=top 25
theorem Ol:bI ["pool","names"] ["pool","names"] (aa gG):=⟨rfl,rfl,rfl,by decide +kernel,rfl,by decide +kernel,by decide +kernel⟩
theorem gA:(aa gG).names.lookup ("_law_take":Str)=some NameKind.globalImplicit:=by decide +kernel
theorem jP:aF (aa gG) "pool":=by decide +kernel
theorem gB:(("_law_take":Str)==("__debug__":Str))=false:=by decide +kernel
theorem o6:aF (aa gG) "names":=by decide +kernel
theorem Hg:(aa gG).names.lookup ("len":Str)=some NameKind.globalImplicit:=by decide +kernel
theorem Hh:("len":Str)≠"__name__":=by decide +kernel
theorem Hi:(("len":Str)==("__debug__":Str))=false:=by decide +kernel
theorem Om {f g:Addr}{fd gd:FuncData} (fY:FnT K mg "_law_leaf" gG ["pool","names"] f fd) (aB:FnT K mg "_law_take" dH ["pool","many"] g gd) (aY:aX P w K mg base CX0 1 g gd ["pool","many"] wG) (T:Blt mg):
 aX P w K mg base CX0 2 f fd ["pool","names"] RD:=by
 refine fY.F.okQ Ol (fun vs H Q E h=> ?_) (fun cdv A outer s H vs Q E hr h=> ?_)
 ·obtain⟨p,l,c,ns,rfl,_⟩:=h
  rfl
 obtain⟨p,l,c,ns,rfl,hp,hc,el,hn1,hn9,hg,q⟩:=h
 refine⟨_,(au (cM (HS (Kp (cC (XM hr.units) (aj 1 o6) (gh az) (aV _)) (HR (cC dY (aJ (aY.mono (by omega)) hr gA aB.m aB.F.kp aB.b .nil aU (aG (aj 0 jP) (fj aA az)) gB) aA (aV _))))) (aD (aW (fM (fj bO (gj (aO cO (gh (Df (cI oO (aJ (aY.mono (by omega)) hr gA aB.m aB.F.kp aB.b .nil aU (aG (aj 0 jP) (fj aA az)) gB) aA) (Df (cI oO (aJ (aY.mono (by omega)) hr gA aB.m aB.F.kp aB.b .nil aU (aG (aj 0 jP) (Df (cI Lf aA aA) az)) gB) (cI Lf aA aA)) az))) (aJ (aY.mono (by omega)) hr gA aB.m aB.F.kp aB.b .nil aU (aG (aj 0 jP) (fj aA az)) gB)) az))))) bJ)
  (aD (aW (fM (fj bO (gj (aO cO (aj 1 o6) (aJ (aY.mono (by omega)) hr gA aB.m aB.F.kp aB.b .nil aU (aG (aj 0 jP) (qD (cX jC Hg T.vf pN (aG (aj 1 o6) az) Hh Hi) az)) gB)) az)))))), ?_⟩
 have nlp:=hp.nel el
 have cp1:Um 10 20:=⟨by decide,by decide,by decide⟩
 have cp2:Um 10 19:=⟨by decide,by decide,by decide⟩
 have p20:(10:Int)^(20:Int).toNat=100000000000000000000:=by decide +kernel
 have p19:(10:Int)^(19:Int).toNat=10000000000000000000:=by decide +kernel
 have hq0:0<(10:Int)^(20:Int).toNat:=by rw[p20];omega
 have hql:((10:Int)^(20:Int).toNat).natAbs.log2<9000:=by rw[p20];decide +kernel
 walk_at "vs"
 intro pe hpe
 have npe:pe∉[p]:=fun z=>hp.ne hpe (by simpa using z)
 have S1:=aC (.lst []) hpe
 have B1:But [p] H (upd H pe (.lst [])):=But.of_same S1
 have pl1:=hp.same S1
 have el1:=S1 _ _ el
 have e1:upd H pe (.lst []) pe=some (.lst []):=ao
 generalize upd H pe (.lst [])=H1 at *
 refine⟨_,_, .lst (SqL.of el1) (pM _), .lst (SqL.of e1) .nil,Bj hg,by decide, ?_⟩
 rw[Rx hn1]
 walk_at "vs"
 intro n2 H2 n20 n21 b2 pl2
 have B2:=B1.trans b2
 have el2:=B2 _ _ nlp el
 walk_at "vs"
 refine wz (fun c1=> ?_) (fun c1=> ?_)
 ·walk_at "vs"
  intro n3 H3 n30 n31 b3 pl3
  walk_at "vs"
  intro n4 H4 n40 n41 b4 pl4
  have aip:n4<(10:Int)^(20:Int).toNat:=n41
  rw[p20] at aip
  have B4:=B2.trans (b3.trans b4)
  walk_at "vs"
  intro ps hps
  have nps:ps∉[p]:=fun z=>pl4.ne hps (by simpa using z)
  have aiq:=iU B4 hps nps
  have S5:=aC (.lst [V.int (n3 - 4),V.int (n4 - (10:Int)^(19:Int).toNat)]) hps
  have e5:upd H4 ps (.lst [V.int (n3 - 4),V.int (n4 - (10:Int)^(19:Int).toNat)]) ps=some (.lst [V.int (n3 - 4),V.int (n4 - 10000000000000000000)]):=by rw[p19];exact ao
  have B5:But [p] H (upd H4 ps (.lst [V.int (n3 - 4),V.int (n4 - (10:Int)^(19:Int).toNat)])):=B4.upd _ aiq
  have pl5:=pl4.same S5
  generalize upd H4 ps (.lst [V.int (n3 - 4),V.int (n4 - (10:Int)^(19:Int).toNat)])=H5 at *
  walk_at "vs"
  intro n6 H6 n60 n61 b6 pl6
  have B6:=B5.trans b6
  have e6:=b6 _ _ nps e5
  obtain⟨v,hv,hv1⟩:∃v:Int,atI [V.int (n3 - 4),V.int (n4 - 10000000000000000000)] n6=some (.int v)/\v.natAbs<10 ^ 40:=by
   have:n6=0\/n6=1:=by omega
   rcases this with rfl | rfl
   ·exact⟨n3 - 4,rfl,by omega⟩
   ·exact⟨n4 - 10000000000000000000,rfl,by omega⟩
  walk_at "vs"
  intro p8 hp8
  have air:=iU B6 hp8 (fun z=>pl6.ne hp8 (by simpa using z))
  exact q p8 (.num v) _ (B6.upd _ air) ((pl6.same (aC _ hp8)).mono (by omega)) (.num ao) ⟨hv1,trivial,trivial,Nat.le_refl _⟩
 ·have hlm:(ns.map V.str).length=ns.length:=List.length_map _
  have hl0:0<((ns.map V.str).length:Int):=by rw[hlm];omega
  have hlog:((ns.map V.str).length:Int).natAbs.log2<9000:=by
   rw[hlm]
   exact Nat.lt_of_le_of_lt (Nat.log2_le_self _) (by omega)
  walk_at "vs"
  intro n6 H8 n60 n61 b8 pl8
  have B8:=B2.trans b8
  have el8:=B8 _ _ nlp el
  obtain⟨x,hx,hxm⟩:∃x,atI (ns.map V.str) n6=some (.str x)/\x∈ns:=by
   obtain⟨j,rfl⟩:=Int.eq_ofNat_of_zero_le n60
   have hj:j<ns.length:=by rw[hlm] at n61;omega
   exact⟨ns[j],lE (by rw[List.getElem?_map,List.getElem?_eq_getElem hj];rfl),List.getElem_mem hj⟩
  walk_at "vs"
  intro p9 hp9
  have Ma:=iU B8 hp9 (fun z=>pl8.ne hp9 (by simpa using z))
  exact q p9 (.rd x) _ (B8.upd _ Ma) ((pl8.same (aC _ hp9)).mono (by omega)) (.rd ao) ⟨hg x hxm,trivial,hxm,Nat.le_refl _⟩
end
section
variable {P:Program}{w:World}{K:PySem.W.Frag}{mg:Str->Option Value}{base:Heap}
abbrev aZ:Stmt:=top 26
theorem pY:bI ["pool","names","deep","way","one","other"] ["pool","names","deep"] (aa aZ):=⟨rfl,rfl,rfl,by decide +kernel,rfl,by decide +kernel,by decide +kernel⟩
theorem Du:Loc (aa aZ) "way":=by decide +kernel
theorem jQ:(aa aZ).names.lookup ("_law_take":Str)=some NameKind.globalImplicit:=by decide +kernel
theorem fD:aF (aa aZ) "pool":=by decide +kernel
theorem ig:(("_law_take":Str)==("__debug__":Str))=false:=by decide +kernel
theorem jy:aF (aa aZ) "way":=by decide +kernel
theorem kE:aF (aa aZ) "deep":=by decide +kernel
theorem vU:(aa aZ).names.lookup ("_law_leaf":Str)=some NameKind.globalImplicit:=by decide +kernel
theorem iG:aF (aa aZ) "names":=by decide +kernel
theorem vV:(("_law_leaf":Str)==("__debug__":Str))=false:=by decide +kernel
theorem Dv:Loc (aa aZ) "one":=by decide +kernel
theorem jq:(aa aZ).names.lookup ("_law_recipe":Str)=some NameKind.globalImplicit:=by decide +kernel
theorem jr:(("_law_recipe":Str)==("__debug__":Str))=false:=by decide +kernel
theorem lK:aF (aa aZ) "one":=by decide +kernel
theorem zZ:(aa aZ).names.lookup ("tuple":Str)=some NameKind.globalImplicit:=by decide +kernel
theorem Aa:(aa aZ).names.lookup ("range":Str)=some NameKind.globalImplicit:=by decide +kernel
theorem Dw:("len":Str)≠"__name__":=by decide +kernel
theorem Dy:(("len":Str)==("__debug__":Str))=false:=by decide +kernel
theorem Ab:("tuple":Str)≠"__name__":=by decide +kernel
theorem Ac:(("tuple":Str)==("__debug__":Str))=false:=by decide +kernel
theorem Ad:Loc (aa aZ) "other":=by decide +kernel
theorem qM:aF (aa aZ) "other":=by decide +kernel
theorem xP {d:Nat}{f g0 g1:Addr}{fd gd0 gd1:FuncData} (aL:FnT K mg "_law_recipe" aZ ["pool","names","deep"] f fd) (aB:FnT K mg "_law_take" dH ["pool","many"] g0 gd0) (aY:aX P w K mg base CX0 1 g0 gd0 ["pool","many"] wG)
 (fY:FnT K mg "_law_leaf" gG ["pool","names"] g1 gd1) (oA:aX P w K mg base CX0 2 g1 gd1 ["pool","names"] RD) (jz:aX P w K mg base CX0 (d+2) f fd ["pool","names","deep"] (ah9 d)) (T:Blt mg):
 aX P w K mg base CX0 (d+3) f fd ["pool","names","deep"] (VJ d):=by
 refine aL.F.okQ pY (fun vs H Q E h=> ?_) (fun cdv A outer s H vs Q E hr h=> ?_)
 ·obtain⟨p,l,c,ns,deep,rfl,_⟩:=h
  rfl
 obtain⟨p,l,c,ns,deep,rfl,hdeep,hd3,hp,hc,el,hn1,hn9,hg,q⟩:=h
 refine⟨_,(au (bG (i:=3) pY.nd rfl Du (aJ (aY.mono (by omega)) hr jQ aB.m aB.F.kp aB.b .nil aU (aG (aj 0 fD) (fj aA az)) ig))
  (au (cM (HS (Kp (cC dY (aj 2 kE) aA (aV _)) (HR (cC dY (aj 3 jy) aA (aV _))))) (aD (aW (aJ (oA.mono (by omega)) hr vU fY.m fY.F.kp fY.b .nil aU (aG (aj 0 fD) (aG (aj 1 iG) az)) vV))) bJ)
  (au (bG (i:=4) pY.nd rfl Dv (aJ (jz.mono (by omega)) hr jq aL.m aL.F.kp aL.b .nil aU (aG (aj 0 fD) (aG (aj 1 iG) (Df (cI oO (aj 2 kE) aA) az))) jr))
  (au (cM (cC dY (aj 3 jy) aA (aV _)) (aD (aW (fM (fj bO (aG (aj 4 lK) (Qa (fM (fj bO (Df (cI oO (aJ (aY.mono (by omega)) hr jQ aB.m aB.F.kp aB.b .nil aU (aG (aj 0 fD) (fj aA az)) ig) aA) az))) az)))))) bJ)
  (au (cM (HS (Fi (cC dY (aj 3 jy) aA (aV _)) (zE (cC (Rk hr.units) (aj 1 iG) (gh az) (aV _))))) (aD (aW (fM (fj bO (aG (aj 4 lK) (qD (iR Nf zZ T.Hr CW (aeP (tY rfl (n:=1) (fr:=[1,0]) (N:=["k","names","pool"]) (GC (scX:=aa aZ) (NX:=["pool","names","deep","way","one","other"]) rfl rfl (by decide +kernel)) (vd Aa T.De (Df (cI jK aA (aJ (aY.mono (by omega)) hr jQ aB.m aB.F.kp aB.b .nil aU (aG (aj 0 fD) (fj aA az)) ig)) az)) (fun _ _ _ _ _=>(qgx (i:=0) (show List.Nodup (α:=Str) ["k","names","pool"] by decide) (K7 (by decide +kernel)))) (fun _ _ _ _ _=>PJ) (fun _ _ _ _ _=>(aO (Fo (K:=K) rfl) (aj 1 (pL.ok (by decide +kernel))) (aJ (aY.mono (by omega)) hr (glC (by decide +kernel)) aB.m aB.F.kp aB.b .nil aU (aG (aj 2 (pL.ok (by decide +kernel))) (qD (cX (GD (K:=K) rfl) (glC (by decide +kernel)) T.vf pN (aG (aj 1 (pL.ok (by decide +kernel))) az) Dw Dy) az)) ig)))) az) Ab Ac) az)))))) bJ)
  (au (bG (i:=5) pY.nd rfl Ad (aJ (jz.mono (by omega)) hr jq aL.m aL.F.kp aL.b .nil aU (aG (aj 0 fD) (aG (aj 1 iG) (Df (cI oO (aj 2 kE) aA) az))) jr))
  (au (cM (cC Vk (aj 3 jy) aA (aV _)) (aD (aW (fM (fj bO (aG (aj 4 lK) (aG (aj 5 qM) (qD (aJ (jz.mono (by omega)) hr jq aL.m aL.F.kp aL.b .nil aU (aG (aj 0 fD) (aG (aj 1 iG) (Df (cI oO (aj 2 kE) aA) az))) jr) az))))))) bJ)
  (aD (aW (fM (gj (aO cO (gh (fj bO (fj bO (fj bO (fj bO az))))) (cI oO (aj 3 jy) aA)) (aG (aj 4 lK) (aG (aj 5 qM) az))))))))))))), ?_⟩
 have ht:=Yb d
 have nlp:=hp.nel el
 walk_at "vs"
 intro kind H1 k0 k1 b1 pl1
 have el1:=b1 _ _ nlp el
 have leafq:∀a r H',But [p] H1 H'->dZ H' p (c+1+6)->IsR H' a r->Rk3 ns 1 r->Q (.ref a) H':=fun a r H' b pl R ok=>
  q a r H' (b1.trans b) (pl.mono (by omega)) R ⟨ok.g,ok.t,ok.i,by have:=ok.d;omega⟩
 cases d with
 | zero=>
   have hdeep:deep=0:=hdeep
   subst hdeep
   walk_at "vs"
   exact leafq
 | succ d=>
   have hdeep:deep=(d:Int)+1:=hdeep
   have hnd:¬(deep=0):=by omega
   walk_at "vs"
   refine wz (fun c0=>absurd (V.int.inj (of_decide_eq_true c0)) hnd) (fun _=> ?_)
   walk_at "vs"
   refine wz (fun c0=> ?_) (fun c0=> ?_)
   ·walk_at "vs"
    exact leafq
   ·have c0':¬(kind=0):=fun z=>c0 (by rw[z];rfl)
    walk_at "vs"
    intro a1 r1 H2 b2 pl2 R1 ok1
    have B2:=b1.trans b2
    have el2:=B2 _ _ nlp el
    have htd:tk3 d<=170:=by
     have:d=0\/d=1\/d=2:=by omega
     rcases this with rfl | rfl | rfl<;>decide
    have et:tk3 (d+1)=3 * tk3 d+20:=rfl
    have od1:=ok1.d
    walk_at "vs"
    refine wz (fun c1=> ?_) (fun c1=> ?_)
    ·walk_at "vs"
     intro n3 H3 n30 n31 b3 pl3
     have B3:=B2.trans b3
     have R13:=R1.tups (pl2.tups b3)
     walk_at "vs"
     intro p4 hp4
     have ais:=iU B3 hp4 (fun z=>pl3.ne hp4 (by simpa using z))
     have S4:=aC (.tup [V.str "number",V.int (n3 - 3)]) hp4
     have R4:IsR (upd H3 p4 (.tup [V.str "number",V.int (n3 - 3)])) p4 (.num (n3 - 3)):= .num ao
     have B4:But [p] H (upd H3 p4 (.tup [V.str "number",V.int (n3 - 3)])):=B3.upd _ ais
     have pl4:=pl3.same S4
     have R14:=R13.same S4
     generalize upd H3 p4 (.tup [V.str "number",V.int (n3 - 3)])=H4 at *
     walk_at "vs"
     intro p9 hp9
     have Ma:=iU B4 hp9 (fun z=>pl4.ne hp9 (by simpa using z))
     have S:=aC (.tup [V.str "times", .ref a1, .ref p4]) hp9
     exact q p9 (.bin .times r1 (.num (n3 - 3))) _ (B4.upd _ Ma) ((pl4.same S).mono (by omega)) (.bin ao (R14.same S) (R4.same S)) ⟨⟨ok1.g,show(n3 - 3).natAbs<10 ^ 40 by omega⟩,⟨ok1.t,trivial,fun _=>⟨_,rfl,by omega,by omega⟩⟩,⟨ok1.i,trivial⟩,by show max r1.depth 1+1<=_;omega⟩
    ·have c1':¬(kind=1):=fun z=>c1 (by rw[z];rfl)
     have rest:∀(a2:Addr) (r2:R) (H3:Hp),But [p] H H3->dZ H3 p (c+1+tk3 d+tk3 d)->IsR H3 a1 r1->IsR H3 a2 r2->Rk3 ns (d+1) r2->∀(op:Op),op≠ .times->∀p9,H3 p9=none->Q (.ref p9) (upd H3 p9 (.tup [.str op.word, .ref a1, .ref a2])):=by
      intro a2 r2 H3 b3 pl3 R1 R2 ok2 op hop p9 hp9
      have Ma:=iU b3 hp9 (fun z=>pl3.ne hp9 (by simpa using z))
      have S:=aC (.tup [.str op.word, .ref a1, .ref a2]) hp9
      have od2:=ok2.d
      exact q p9 (.bin op r1 r2) _ (b3.upd _ Ma) ((pl3.same S).mono (by omega)) (.bin ao (R1.same S) (R2.same S)) ⟨⟨ok1.g,ok2.g⟩,⟨ok1.t,ok2.t,fun z=>absurd z hop⟩,⟨ok1.i,ok2.i⟩,by show max r1.depth r2.depth+1<=_;omega⟩
     walk_at "vs"
     refine wz (fun c2=> ?_) (fun c2=> ?_)
     ·walk_at "vs"
      intro pe hpe
      have npe:pe∉[p]:=fun z=>pl2.ne hpe (by simpa using z)
      have ait:=iU B2 hpe npe
      have S2:=aC (.lst []) hpe
      have B3:But [p] H (upd H2 pe (.lst [])):=B2.upd _ ait
      have pl3:=pl2.same S2
      have el3:=S2 _ _ el2
      have R13:=R1.same S2
      have e3:upd H2 pe (.lst []) pe=some (.lst []):=ao
      generalize upd H2 pe (.lst [])=H3 at *
      refine⟨_,_, .lst (SqL.of el3) (pM _), .lst (SqL.of e3) .nil,Bj hg,by decide, ?_⟩
      rw[Rx hn1]
      walk_at "vs"
      intro n9 H4 n90 n91 b4 pl4
      have B4:=B3.trans b4
      have el4:=B4 _ _ nlp el
      have R14:=R13.tups (pl3.tups b4)
      walk_at "vs"
      have hlm:(ns.map V.str).length=ns.length:=List.length_map _
      have hl0:0<((ns.map V.str).length:Int):=by rw[hlm];omega
      have hlog:((ns.map V.str).length:Int).natAbs.log2<9000:=by
       rw[hlm]
       exact Nat.lt_of_le_of_lt (Nat.log2_le_self _) (by omega)
      intro D hD
      have nD:D∉[p]:=fun z=>pl4.ne hD (by simpa using z)
      have nDp:D≠p:=by simpa using nD
      have hD0:=iU B4 hD nD
      refine HJ (fun i σ' H'=>(∃t,σ'=t::[some (.ref l),some (.ref p)])/\∃ts:List Str,H' D=some (.lst (ts.map V.str))/\ts.length=i/\(∀x∈ts,x∈ns)/\But [p] H H'/\dZ H' p (c+1+tk3 d+1+i)/\IsR H' a1 r1) ?_ ?_ ?_
      ·exact⟨⟨none,rfl⟩,[],ao,rfl,by simp,B4.upd _ hD0,pl4.same (aC _ hD),R14.same (aC _ hD)⟩
      ·intro i σ' H' hi hP
       obtain⟨⟨t,rfl⟩,ts,e,et',ho,hb,hpl,hR⟩:=hP
       have elH:=hb _ _ nlp el
       have hi9:(i:Int)<10:=by omega
       walk_at "vs"
       intro n6 H5 n60 n61 b5 pl5
       have hb5:=hb.trans b5
       have el5:=hb5 _ _ nlp el
       have e5:=b5 _ _ nD e
       have R5:=hR.tups (hpl.tups b5)
       obtain⟨x,hx,hxm⟩:∃x,atI (ns.map V.str) n6=some (.str x)/\x∈ns:=by
        obtain⟨j,rfl⟩:=Int.eq_ofNat_of_zero_le n60
        have hj:j<ns.length:=by rw[hlm] at n61;omega
        exact⟨ns[j],lE (by rw[List.getElem?_map,List.getElem?_eq_getElem hj];rfl),List.getElem_mem hj⟩
       have hz:(ts.map V.str).length<sizeLine:=by rw[List.length_map];exact bL (by omega)
       walk_at "vs"
       have aiu:jX H5 (upd H5 D (.lst (ts.map V.str++[.str x]))):=fun q xs e'=>(aq (fun z=>by rw[z,e5] at e';cases e')).trans e'
       refine⟨⟨_,rfl⟩,ts++[x], ?_,by rw[List.length_append,et'];rfl, ?_,hb5.upd _ hD0,pl5.keep (But.set _ (by simp)) (S:=[D]) (by simpa using Ne.symm nDp),R5.tups aiu⟩
       ·rw[List.map_append];exact ao
       ·intro y hy
        rcases List.mem_append.mp hy with z | z
        ·exact ho y z
        ·have:y=x:=by simpa using z
         rw[this];exact hxm
      ·intro σ' H' hP
       obtain⟨_,ts,e,et',ho,hb,hpl,hR⟩:=hP
       walk_at "vs"
       intro pt hpt
       have aiv:=iU hb hpt (fun z=>hpl.ne hpt (by simpa using z))
       have S5:=aC (.tup (ts.map V.str)) hpt
       walk_at "vs"
       intro p9 hp9
       have hb5:=hb.upd (.tup (ts.map V.str)) aiv
       have pl5:=hpl.same S5
       have Ma:=iU hb5 hp9 (fun z=>pl5.ne hp9 (by simpa using z))
       have S6:=aC (.tup [.str "choose", .ref a1, .ref pt]) hp9
       exact q p9 (.cho r1 ts) _ (hb5.upd _ Ma) ((pl5.same S6).mono (by omega)) (.cho ao ((hR.same S5).same S6) (S6 _ _ ao)) ⟨⟨ok1.g,by omega,by omega,fun x hx=>hg x (ho x hx)⟩,⟨ok1.t,by omega⟩,⟨ok1.i,ho⟩,by show r1.depth+1<=_;omega⟩
     ·walk_at "vs"
      intro a2 r2 H3 b3 pl3 R2 ok2
      have B3:=B2.trans b3
      have el3:=B3 _ _ nlp el
      have R13:=R1.tups (pl2.tups b3)
      have od2:=ok2.d
      walk_at "vs"
      refine wz (fun c3=> ?_) (fun c3=> ?_)
      ·walk_at "vs"
       intro a3 r3 H4 b4 pl4 R3 ok3
       have B4:=B3.trans b4
       have R14:=R13.tups (pl3.tups b4)
       have R24:=R2.tups (pl3.tups b4)
       have od3:=ok3.d
       walk_at "vs"
       intro p9 hp9
       have Ma:=iU B4 hp9 (fun z=>pl4.ne hp9 (by simpa using z))
       have S:=aC (.tup [.str "pick", .ref a1, .ref a2, .ref a3]) hp9
       exact q p9 (.pick r1 r2 r3) _ (B4.upd _ Ma) ((pl4.same S).mono (by omega)) (.pick ao (R14.same S) (R24.same S) (R3.same S)) ⟨⟨ok1.g,ok2.g,ok3.g⟩,⟨ok1.t,ok2.t,ok3.t⟩,⟨ok1.i,ok2.i,ok3.i⟩,by show max r1.depth (max r2.depth r3.depth)+1<=_;omega⟩
      ·have c3':¬kind<5:=by simpa using c3
       obtain⟨op,hop,hat⟩:∃op:Op,op≠ .times/\atI [V.str "plus",V.str "minus",V.str "most",V.str "plus"] (kind - 5)=some (.str op.word):=by
        have hm:kind - 5=0\/kind - 5=1\/kind - 5=2\/kind - 5=3:=by omega
        rcases hm with hm | hm | hm | hm
        ·rw[hm];exact⟨.plus,by decide,rfl⟩
        ·rw[hm];exact⟨.minus,by decide,rfl⟩
        ·rw[hm];exact⟨.most,by decide,rfl⟩
        ·rw[hm];exact⟨.plus,by decide,rfl⟩
       walk_at "vs"
       intro pz hpz
       have npz:pz∉[p]:=fun z=>pl3.ne hpz (by simpa using z)
       have aiw:=iU B3 hpz npz
       have S3:=aC (.lst [.str "plus", .str "minus", .str "most", .str "plus"]) hpz
       walk_at "vs"
       exact rest a2 r2 _ (B3.upd _ aiw) (pl3.same S3) (R13.same S3) (R2.same S3) ok2 op hop
theorem Ba {f g0 g1:Addr}{fd gd0 gd1:FuncData} (aL:FnT K mg "_law_recipe" aZ ["pool","names","deep"] f fd) (aB:FnT K mg "_law_take" dH ["pool","many"] g0 gd0) (aY:aX P w K mg base CX0 1 g0 gd0 ["pool","many"] wG)
 (fY:FnT K mg "_law_leaf" gG ["pool","names"] g1 gd1) (oA:aX P w K mg base CX0 2 g1 gd1 ["pool","names"] RD) (T:Blt mg):∀d,aX P w K mg base CX0 (d+3) f fd ["pool","names","deep"] (VJ d)
 | 0=>xP aL aB aY fY oA (never fun vs H Q E h=>h) T
 | d+1=>xP aL aB aY fY oA (Ba aL aB aY fY oA T d) T
theorem Jz {f g0 g1:Addr}{fd gd0 gd1:FuncData} (aL:FnT K mg "_law_recipe" aZ ["pool","names","deep"] f fd) (aB:FnT K mg "_law_take" dH ["pool","many"] g0 gd0) (aY:aX P w K mg base CX0 1 g0 gd0 ["pool","many"] wG)
 (fY:FnT K mg "_law_leaf" gG ["pool","names"] g1 gd1) (oA:aX P w K mg base CX0 2 g1 gd1 ["pool","names"] RD) (T:Blt mg):aX P w K mg base CX0 6 f fd ["pool","names","deep"] VL:=by
 have ok:=Ba aL aB aY fY oA T
 refine⟨fun vs H Q E h=> ?_,fun A outer s H args us vs Q E hr he hb hv hs=> ?_⟩
 ·obtain⟨p,l,c,ns,deep,rfl,_⟩:=h
  rfl
 ·obtain⟨p,l,c,ns,deep,rfl,h0,h4,hp,hc,el,hn1,hn9,hg,q⟩:=hs
  obtain⟨d,rfl⟩:=Int.eq_ofNat_of_zero_le h0
  have hd:d=0\/d=1\/d=2\/d=3:=by omega
  have ht:tk3 d<=530:=by rcases hd with rfl | rfl | rfl | rfl<;>decide
  exact((ok d).mono (by omega)).run A outer s H args us _ Q E hr he hb hv ⟨p,l,c,ns,_,rfl,rfl,by omega,hp,by omega,el,hn1,hn9,hg,fun a r H' b pl R o=>q a r H' b (pl.mono (by omega)) R ⟨o.g,o.t,o.i,by have:=o.d;omega⟩⟩
end
section
variable {P:Program}{w:World}{K:PySem.W.Frag}{mg:Str->Option Value}{base:Heap}
abbrev bF:Stmt:=top 27
theorem mL:bI ["script","start","many","given","recipes","names","k","pool"] ["script","start","many"] (aa bF):=⟨rfl,rfl,rfl,by decide +kernel,rfl,by decide +kernel,by decide +kernel⟩
theorem BW:Loc (aa bF) "given":=by decide +kernel
theorem yZ:Loc (aa bF) "recipes":=by decide +kernel
theorem BX:Loc (aa bF) "names":=by decide +kernel
theorem BZ:(aa bF).names.lookup ("range":Str)=some NameKind.globalImplicit:=by decide +kernel
theorem Dz:aF (aa bF) "many":=by decide +kernel
theorem JB:Loc (aa bF) "k":=by decide +kernel
theorem DG:Loc (aa bF) "pool":=by decide +kernel
theorem wZ:(aa bF).names.lookup ("_law_pool":Str)=some NameKind.globalImplicit:=by decide +kernel
theorem Ca:aF (aa bF) "start":=by decide +kernel
theorem mj:aF (aa bF) "k":=by decide +kernel
theorem Ae:aF (aa bF) "script":=by decide +kernel
theorem w6:(("_law_pool":Str)==("__debug__":Str))=false:=by decide +kernel
theorem kI:(aa bF).names.lookup ("_law_take":Str)=some NameKind.globalImplicit:=by decide +kernel
theorem lM:aF (aa bF) "pool":=by decide +kernel
theorem kJ:(("_law_take":Str)==("__debug__":Str))=false:=by decide +kernel
theorem sO:aF (aa bF) "given":=by decide +kernel
theorem kO:(aa bF).names.lookup ("_law_name":Str)=some NameKind.globalImplicit:=by decide +kernel
theorem kW:(("_law_name":Str)==("__debug__":Str))=false:=by decide +kernel
theorem qt:aF (aa bF) "recipes":=by decide +kernel
theorem uP:(aa bF).names.lookup ("_law_recipe":Str)=some NameKind.globalImplicit:=by decide +kernel
theorem sS:aF (aa bF) "names":=by decide +kernel
theorem uQ:(("_law_recipe":Str)==("__debug__":Str))=false:=by decide +kernel
theorem Mf {f g0 g1 g2 g3:Addr}{fd gd0 gd1 gd2 gd3:FuncData} (j6:FnT K mg "_law_house" bF ["script","start","many"] f fd) (aB:FnT K mg "_law_take" dH ["pool","many"] g0 gd0) (aY:aX P w K mg base CX0 1 g0 gd0 ["pool","many"] wG)
 (bM:FnT K mg "_law_pool" iB ["script","k"] g1 gd1) (mq:aX P w K mg base CX0 2 g1 gd1 ["script","k"] (Li K)) (di:FnT K mg "_law_name" jb ["k"] g2 gd2) (sU:aX P w K mg base CX0 1 g2 gd2 ["k"] Il)
 (aL:FnT K mg "_law_recipe" aZ ["pool","names","deep"] g3 gd3) (jz:aX P w K mg base CX0 6 g3 gd3 ["pool","names","deep"] VL) (T:Blt mg):aX P w K mg base CX0 7 f fd ["script","start","many"] (Z7 K):=by
 refine j6.F.okQ mL (fun vs H Q E h=> ?_) (fun cdv A outer s H vs Q E hr h=> ?_)
 ·obtain⟨a,zs,start,many,rfl,_⟩:=h
  rfl
 obtain⟨a,zs,start,many,rfl,hS,h0,h50,hm,q⟩:=h
 refine⟨_,(au (bG (i:=3) mL.nd rfl BW lu)
  (au (bG (i:=4) mL.nd rfl yZ lu)
  (au (bG (i:=5) mL.nd rfl BX (gh az))
  (au (wF PassesOwn.never rfl (vd BZ T.De (aG (aj 2 Dz) az)) (jx (i:=6) mL.nd rfl JB) (au (bG (i:=7) mL.nd rfl DG (aJ (mq.mono (by omega)) hr wZ bM.m bM.F.kp bM.b .nil aU (aG (aj 0 Ae) (Df (cI jK (aj 1 Ca) (aj 6 mj)) az)) w6))
  (au (cM (HS (Kp (cC dY (aj 6 mj) aA (aV _)) (HR (cC dY (aJ (aY.mono (by omega)) hr kI aB.m aB.F.kp aB.b .nil aU (aG (aj 7 lM) (fj aA az)) kJ) aA (aV _))))) (aD (gm (bN hr) (aj 3 sO) (aJ (sU.mono (by omega)) hr kO di.m di.F.kp di.b .nil aU (aG (aj 6 mj) az) kW) (cI oO (aJ (aY.mono (by omega)) hr kI aB.m aB.F.kp aB.b .nil aU (aG (aj 7 lM) (fj aA az)) kJ) aA))) (aD (gm (bN hr) (aj 4 qt) (aJ (sU.mono (by omega)) hr kO di.m di.F.kp di.b .nil aU (aG (aj 6 mj) az) kW) (aJ (jz.mono (by omega)) hr uP aL.m aL.F.kp aL.b .nil aU (aG (aj 7 lM) (gj (HX Ib (aj 5 sS) (La (M8 Dd aA)) K9) (gj (aO cO (gh (fj aA (fj aA (fj aA az)))) (aJ (aY.mono (by omega)) hr kI aB.m aB.F.kp aB.b .nil aU (aG (aj 7 lM) (fj aA az)) kJ)) az))) uQ))))
  (aD (fP (u9 PySem.F.plainAttrs_list PySem.F.slot_list_append PySem.F.type_list_append jB (aj 5 sS) (qD (aJ (sU.mono (by omega)) hr kO di.m di.F.kp di.b .nil aU (aG (aj 6 mj) az) kW) az)))))))
  (aD (aW (fM (aG (aj 3 sO) (aG (aj 4 qt) az))))))))), ?_⟩
 walk_at "vs"
 intro g hg0
 have s1:=aC (.dK []) hg0
 have e1:upd H g (.dK []) g=some (.dK []):=ao
 generalize upd H g (.dK [])=H1 at *
 walk_at "vs"
 intro c hc1
 have s2:=aC (.dK []) hc1
 have e12:=s2 _ _ e1
 have e2:upd H1 c (.dK []) c=some (.dK []):=ao
 have ngc:g≠c:=fun z=>by rw[<-z,e1] at hc1;cases hc1
 have hc0:=same_none s1 hc1
 have S2:=s1.trans s2
 generalize upd H1 c (.dK [])=H2 at *
 walk_at "vs"
 intro l hl2
 have s3:=aC (.lst []) hl2
 have e13:=s3 _ _ e12
 have e23:=s3 _ _ e2
 have e3:upd H2 l (.lst []) l=some (.lst ((nmK 0).map V.str)):=ao
 have hl0:=same_none S2 hl2
 have S3:=S2.trans s3
 generalize upd H2 l (.lst [])=H3 at *
 clear s1 s2 s3 S2 e12 e1 e2 hc1 hl2
 refine⟨_,rfl,_,rfl,by omega,by omega, ?_⟩
 refine EY (fun i σ H'=>(∃t u,σ=[some (.ref a),some (.int start),some (.int many),some (.ref g),some (.ref c),some (.ref l),t,u])/\aQ H H'/\∃gv rc kg kc,H' g=some (.dK kg)/\H' c=some (.dK kc)/\H' l=some (.lst ((nmK i).map V.str))/\Bld H' kg kc i gv rc) ?_ ?_ ?_
 ·exact⟨⟨none,none,rfl⟩,S3,kn0,fun _=>none,[],[],e13,e23,e3,⟨fun k hk=>by omega,fun x hx=>absurd rfl hx,fun x r e=>(by cases e),fun x hx=>absurd rfl hx,fun z=>by omega⟩,⟨[],[],⟨rfl,by simp⟩,⟨rfl,by simp⟩,rfl⟩,fun x=>rfl,fun x r e=>(by cases e),fun x _=>rfl⟩
 ·intro i σ H4 hi hP
  obtain⟨⟨t,u,rfl⟩,S4,gv,rc,kg,kc,eg4,ec4,el4,bd⟩:=hP
  have ale:i<17:=by
   have:i<(many:Int).toNat:=hi
   omega
  have hS4:=SqL.same S4 hS
  have ei:(0+(i:Int))=(i:Int):=by omega
  obtain⟨gs,cs,kgk,kck,hlen⟩:=bd.k
  have lg:=kgk.len
  have lc:=kck.len
  rw[ei]
  walk_at "vs"
  intro p H5 s5 hp5 pl5
  have S5:=S4.trans s5
  have hp0:=same_none S4 hp5
  have eg5:=s5 _ _ eg4
  have ec5:=s5 _ _ ec4
  have el5:=s5 _ _ el4
  have bd5:=bd.tups (aQ.tups s5)
  have fr:∀y∈[p],H y=none:=fun y hy=>by
   have:y=p:=by simpa using hy
   rw[this];exact hp0
  have ngp:g∉[p]:=fun z=>by
   have:g=p:=by simpa using z
   rw[<-this,eg4] at hp5;cases hp5
  have ncp:c∉[p]:=fun z=>by
   have:c=p:=by simpa using z
   rw[<-this,ec4] at hp5;cases hp5
  have nlp:=pl5.nel el5
  have ngl:g≠l:=fun z=>by rw[z,el5] at eg5;cases eg5
  have ncl:c≠l:=fun z=>by rw[z,el5] at ec5;cases ec5
  have hzl:((nmK i).map V.str).length<sizeLine:=by rw[List.length_map,lG];exact bL (by omega)
  have done:∀(H6:Hp) (σ6:L2.St) gv rc kg kc,(∃t u,σ6=[some (.ref a),some (.int start),some (.int many),some (.ref g),some (.ref c),some (.ref l),t,u])->aQ H H6->H6 g=some (.dK kg)->H6 c=some (.dK kc)->H6 l=some (.lst ((nmK i).map V.str))->Bld H6 kg kc (i+1) gv rc->
   (∃t u,σ6=[some (.ref a),some (.int start),some (.int many),some (.ref g),some (.ref c),some (.ref l),t,u])/\aQ H (upd H6 l (.lst ((nmK i).map V.str++[.str (ak i)])))/\∃gv rc kg kc,(upd H6 l (.lst ((nmK i).map V.str++[.str (ak i)]))) g=some (.dK kg)/\(upd H6 l (.lst ((nmK i).map V.str++[.str (ak i)]))) c=some (.dK kc)/\(upd H6 l (.lst ((nmK i).map V.str++[.str (ak i)]))) l=some (.lst ((nmK (i+1)).map V.str))/\Bld (upd H6 l (.lst ((nmK i).map V.str++[.str (ak i)]))) kg kc (i+1) gv rc:=by
   intro H6 σ6 gv rc kg kc hσ S6 e1 e2 e3 b
   refine⟨hσ,cL _ hl0 S6,gv,rc,kg,kc,(aq ngl).trans e1,(aq ncl).trans e2, ?_,b.tups fun y xs z=>(aq (fun w=>by rw[w,e3] at z;cases z)).trans z⟩
   rw[ao,Di,List.map_append];rfl
  walk_at "vs"
  refine wz (fun c1=> ?_) (fun c1=> ?_)
  ·walk_at "vs"
   intro n7 H7 n70 n71 b7 pl7
   have B7:=b7
   have S7:=eX S5 fr B7
   have eg7:=B7 _ _ ngp eg5
   have ec7:=B7 _ _ ncp ec5
   have el7:=B7 _ _ nlp el5
   have bd7:=bd5.tups (pl5.tups B7)
   have dp:jn H7 g (.str (ak i)) (.int (n7 - 6)) (upd H7 g (.dK (putK kg (.inr (ak i)) (.int (n7 - 6))))):=jn.k (k:= .inr (ak i)) eg7 (bL (by omega))
   walk_at "vs"
   have t8:jX H7 (upd H7 g (.dK (putK kg (.inr (ak i)) (.int (n7 - 6))))):=fun y xs z=>(aq (fun w=>by rw[w,eg7] at z;cases z)).trans z
   have el8:upd H7 g (.dK (putK kg (.inr (ak i)) (.int (n7 - 6)))) l=some (.lst ((nmK i).map V.str)):=(aq (Ne.symm ngl)).trans el7
   have ec8:upd H7 g (.dK (putK kg (.inr (ak i)) (.int (n7 - 6)))) c=some (.dK kc):=(aq (Ne.symm ngc)).trans ec7
   have S8:=cL (.dK (putK kg (.inr (ak i)) (.int (n7 - 6)))) hg0 S7
   have eg8:upd H7 g (.dK (putK kg (.inr (ak i)) (.int (n7 - 6)))) g=some (.dK (putK kg (.inr (ak i)) (.int (n7 - 6)))):=ao
   have bd8:=(bd7.tups t8).Yc (by omega) (n7 - 6)
   exact done _ _ _ _ _ _ ⟨_,_,rfl⟩ S8 eg8 ec8 el8 bd8
  ·have c1':0<i:=by
    rcases Nat.eq_zero_or_pos i with z | z
    ·subst z;exact absurd rfl c1
    ·exact z
   walk_at "vs"
   intro n6 H6 n60 n61 b6 pl6
   walk_at "vs"
   refine wz (fun c2=> ?_) (fun c2=> ?_)
   ·walk_at "vs"
    intro n7 H7 n70 n71 b7 pl7
    have B7:=b6.trans b7
    have S7:=eX S5 fr B7
    have eg7:=B7 _ _ ngp eg5
    have ec7:=B7 _ _ ncp ec5
    have el7:=B7 _ _ nlp el5
    have bd7:=bd5.tups (pl5.tups B7)
    have dp:jn H7 g (.str (ak i)) (.int (n7 - 6)) (upd H7 g (.dK (putK kg (.inr (ak i)) (.int (n7 - 6))))):=jn.k (k:= .inr (ak i)) eg7 (bL (by omega))
    walk_at "vs"
    have t8:jX H7 (upd H7 g (.dK (putK kg (.inr (ak i)) (.int (n7 - 6))))):=fun y xs z=>(aq (fun w=>by rw[w,eg7] at z;cases z)).trans z
    have el8:upd H7 g (.dK (putK kg (.inr (ak i)) (.int (n7 - 6)))) l=some (.lst ((nmK i).map V.str)):=(aq (Ne.symm ngl)).trans el7
    have ec8:upd H7 g (.dK (putK kg (.inr (ak i)) (.int (n7 - 6)))) c=some (.dK kc):=(aq (Ne.symm ngc)).trans ec7
    have S8:=cL (.dK (putK kg (.inr (ak i)) (.int (n7 - 6)))) hg0 S7
    have eg8:upd H7 g (.dK (putK kg (.inr (ak i)) (.int (n7 - 6)))) g=some (.dK (putK kg (.inr (ak i)) (.int (n7 - 6)))):=ao
    have bd8:=(bd7.tups t8).Yc (by omega) (n7 - 6)
    exact done _ _ _ _ _ _ ⟨_,_,rfl⟩ S8 eg8 ec8 el8 bd8
   ·have el6:=b6 _ _ nlp el5
    obtain⟨ns,ecut,hn1,hn9,hns⟩:=ab1 c1'
    have hgn:∀x∈ns,lF x:=fun x hx=>yt (by omega) x (hns x hx)
    walk_at "vs"
    intro pc hpc
    rw[ecut]
    have s7:=aC (.lst (ns.map V.str)) hpc
    have e7:upd H6 pc (.lst (ns.map V.str)) pc=some (.lst (ns.map V.str)):=ao
    have pl7:=pl6.same s7
    have B7:But [p] H5 (upd H6 pc (.lst (ns.map V.str))):=b6.trans (But.of_same s7)
    have npc:pc∉[p]:=fun z=>pl6.ne hpc (by simpa using z)
    generalize upd H6 pc (.lst (ns.map V.str))=H7 at *
    walk_at "vs"
    intro pz hpz
    have npz:pz∉[p]:=fun z=>pl7.ne hpz (by simpa using z)
    have s8:=aC (.lst [V.int 1,V.int 2,V.int 3]) hpz
    have e8:upd H7 pz (.lst [V.int 1,V.int 2,V.int 3]) pz=some (.lst [V.int 1,V.int 2,V.int 3]):=ao
    have e78:=s8 _ _ e7
    have pl8:=pl7.same s8
    have B8:=B7.trans (But.of_same (S:=[p]) s8)
    generalize upd H7 pz (.lst [V.int 1,V.int 2,V.int 3])=H8 at *
    walk_at "vs"
    intro n9 H9 n90 n91 b9 pl9
    have e9:=b9 _ _ npz e8
    have e79:=b9 _ _ npc e78
    obtain⟨dd,hdd,hd0,hd1⟩:∃dd:Int,atI [V.int 1,V.int 2,V.int 3] n9=some (.int dd)/\0<=dd/\dd<4:=by
     have:n9=0\/n9=1\/n9=2:=by omega
     rcases this with rfl | rfl | rfl
     ·exact⟨1,rfl,by omega,by omega⟩
     ·exact⟨2,rfl,by omega,by omega⟩
     ·exact⟨3,rfl,by omega,by omega⟩
    walk_at "vs"
    intro br r H10 b10 Yv R10 Wq
    have B10:=B8.trans (b9.trans b10)
    have S10:=eX S5 fr B10
    have Oo:=B10 _ _ ngp eg5
    have JC:=B10 _ _ ncp ec5
    have Ws:=B10 _ _ nlp el5
    have Wt:=bd5.tups (pl5.tups B10)
    have dp:jn H10 c (.str (ak i)) (.ref br) (upd H10 c (.dK (putK kc (.inr (ak i)) (.ref br)))):=jn.k (k:= .inr (ak i)) JC (bL (by omega))
    walk_at "vs"
    have t11:jX H10 (upd H10 c (.dK (putK kc (.inr (ak i)) (.ref br)))):=fun y xs z=>(aq (fun w=>by rw[w,JC] at z;cases z)).trans z
    have Wu:upd H10 c (.dK (putK kc (.inr (ak i)) (.ref br))) l=some (.lst ((nmK i).map V.str)):=(aq (Ne.symm ncl)).trans Ws
    have Oq:upd H10 c (.dK (putK kc (.inr (ak i)) (.ref br))) g=some (.dK kg):=(aq ngc).trans Oo
    have S11:=cL (.dK (putK kc (.inr (ak i)) (.ref br))) hc0 S10
    have Ot:upd H10 c (.dK (putK kc (.inr (ak i)) (.ref br))) c=some (.dK (putK kc (.inr (ak i)) (.ref br))):=ao
    have aix:=(Wt.tups t11).ab0 (by omega) c1' (Wq.mono hns) (R10.tups t11)
    exact done _ _ _ _ _ _ ⟨_,_,rfl⟩ S11 Oq Ot Wu aix
 ·intro σ H4 hP
  obtain⟨⟨t,u,rfl⟩,S4,gv,rc,kg,kc,eg4,ec4,el4,bd⟩:=hP
  have em:(many:Int).toNat=many:=by omega
  rw[em] at bd
  walk_at "vs"
  intro h hh
  have s5:=aC (.tup [.ref g, .ref c]) hh
  exact q h g c gv rc _ (S4.trans s5) (same_none S4 hh) hg0 hc0 ⟨kg,kc,ao,s5 _ _ eg4,s5 _ _ ec4,bd.tups (aQ.tups s5)⟩
end
section
variable {P:Program}{w:World}{K:PySem.W.Frag}{mg:Str->Option Value}{base:Heap}
abbrev aM:Stmt:=top 28
theorem iJ:bI ["house","script","start","most","given","recipes","names","many","k","name","pool","way"] ["house","script","start","most"] (aa aM):=⟨rfl,rfl,rfl,by decide +kernel,rfl,by decide +kernel,by decide +kernel⟩
theorem Cd:Loc (aa aM) "given":=by decide +kernel
theorem ue:(aa aM).names.lookup ("dict":Str)=some NameKind.globalImplicit:=by decide +kernel
theorem sV:aF (aa aM) "house":=by decide +kernel
theorem uf:("dict":Str)≠"__name__":=by decide +kernel
theorem ug:(("dict":Str)==("__debug__":Str))=false:=by decide +kernel
theorem za:Loc (aa aM) "recipes":=by decide +kernel
theorem Ce:Loc (aa aM) "names":=by decide +kernel
theorem DK:Loc (aa aM) "many":=by decide +kernel
theorem vW:(aa aM).names.lookup ("len":Str)=some NameKind.globalImplicit:=by decide +kernel
theorem fG:aF (aa aM) "given":=by decide +kernel
theorem vX:("len":Str)≠"__name__":=by decide +kernel
theorem vY:(("len":Str)==("__debug__":Str))=false:=by decide +kernel
theorem fL:aF (aa aM) "recipes":=by decide +kernel
theorem Cg:(aa aM).names.lookup ("range":Str)=some NameKind.globalImplicit:=by decide +kernel
theorem DN:aF (aa aM) "many":=by decide +kernel
theorem JD:Loc (aa aM) "k":=by decide +kernel
theorem DP:Loc (aa aM) "name":=by decide +kernel
theorem xg:(aa aM).names.lookup ("_law_name":Str)=some NameKind.globalImplicit:=by decide +kernel
theorem mz:aF (aa aM) "k":=by decide +kernel
theorem xj:(("_law_name":Str)==("__debug__":Str))=false:=by decide +kernel
theorem DQ:Loc (aa aM) "pool":=by decide +kernel
theorem xm:(aa aM).names.lookup ("_law_pool":Str)=some NameKind.globalImplicit:=by decide +kernel
theorem Ci:aF (aa aM) "start":=by decide +kernel
theorem Af:aF (aa aM) "script":=by decide +kernel
theorem xq:(("_law_pool":Str)==("__debug__":Str))=false:=by decide +kernel
theorem fZ:aF (aa aM) "pool":=by decide +kernel
theorem Fz:Loc (aa aM) "way":=by decide +kernel
theorem kY:(aa aM).names.lookup ("_law_take":Str)=some NameKind.globalImplicit:=by decide +kernel
theorem DR:aF (aa aM) "most":=by decide +kernel
theorem kZ:(("_law_take":Str)==("__debug__":Str))=false:=by decide +kernel
theorem cW:aF (aa aM) "name":=by decide +kernel
theorem mO:aF (aa aM) "way":=by decide +kernel
theorem nH:(aa aM).names.lookup ("_law_recipe":Str)=some NameKind.globalImplicit:=by decide +kernel
theorem oE:aF (aa aM) "names":=by decide +kernel
theorem nJ:(("_law_recipe":Str)==("__debug__":Str))=false:=by decide +kernel
theorem Mg {f g0 g1 g2 g3:Addr}{fd gd0 gd1 gd2 gd3:FuncData} (gO:FnT K mg "_law_other" aM ["house","script","start","most"] f fd) (aB:FnT K mg "_law_take" dH ["pool","many"] g0 gd0) (aY:aX P w K mg base CX0 1 g0 gd0 ["pool","many"] wG)
 (bM:FnT K mg "_law_pool" iB ["script","k"] g1 gd1) (mq:aX P w K mg base CX0 2 g1 gd1 ["script","k"] (Li K)) (di:FnT K mg "_law_name" jb ["k"] g2 gd2) (sU:aX P w K mg base CX0 1 g2 gd2 ["k"] Il)
 (aL:FnT K mg "_law_recipe" aZ ["pool","names","deep"] g3 gd3) (jz:aX P w K mg base CX0 6 g3 gd3 ["pool","names","deep"] VL) (T:Blt mg):aX P w K mg base CX0 7 f fd ["house","script","start","most"] (Z9 K):=by
 refine gO.F.okQ iJ (fun vs H Q E h=> ?_) (fun cdv A outer s H vs Q E hr h=> ?_)
 ·obtain⟨h,g,c,a,zs,start,most,n,gv,rc,rfl,_⟩:=h
  rfl
 obtain⟨h,g1,c1,a,zs,start,most,n,gv0,rc0,rfl,⟨kg0,kc0,eh,eg1,ec1,bd0⟩,alf,hS,h0,h50,hm0,ak1,q⟩:=h
 have rg1:Rd H g1 (.dK kg0):= .inl eg1
 refine⟨_,(au (bG (i:=4) iJ.nd rfl Cd (iR vo ue T.Bg wC (gj (aO aK (aj 0 sV) aA) az) uf ug))
  (au (bG (i:=5) iJ.nd rfl za (iR vo ue T.Bg wC (gj (aO aK (aj 0 sV) aA) az) uf ug))
  (au (bG (i:=6) iJ.nd rfl Ce (gh az))
  (au (bG (i:=7) iJ.nd rfl DK (cI jK (cX Rp vW T.vf pN (aG (aj 4 fG) az) vX vY) (cX Rp vW T.vf pN (aG (aj 5 fL) az) vX vY)))
  (au (wF PassesOwn.never rfl (vd Cg T.De (aG (aj 7 DN) az)) (jx (i:=8) iJ.nd rfl JD) (au (bG (i:=9) iJ.nd rfl DP (aJ (sU.mono (by omega)) hr xg di.m di.F.kp di.b .nil aU (aG (aj 8 mz) az) xj))
  (au (bG (i:=10) iJ.nd rfl DQ (aJ (mq.mono (by omega)) hr xm bM.m bM.F.kp bM.b .nil aU (aG (aj 1 Af) (Df (cI jK (aj 2 Ci) (cI nQ (aj 8 mz) aA)) az)) xq))
  (au (gm (bN hr) (aj 10 fZ) bO (cI jK (cI Dc (cZ (bN hr) (aj 10 fZ) bO) (cI jK (cI Dc (aj 8 mz) aA) aA)) (cI qY aA (aj 8 mz))))
  (au (bG (i:=11) iJ.nd rfl Fz (aJ (aY.mono (by omega)) hr kY aB.m aB.F.kp aB.b .nil aU (aG (aj 10 fZ) (aG (aj 3 DR) az)) kZ))
  (au (cM (HS (Fi (cC dY (aj 11 mO) aA (aV _)) (zE (uD (bN hr) (aj 9 cW) (aj 4 fG))))) (aD (gm (bN hr) (aj 4 fG) (aj 9 cW) (cI jK (cZ (bN hr) (aj 4 fG) (aj 9 cW)) (aO cO (gh (fj aA (ah7 (M8 Dd aA) (fj aA (Df (cI Lf aA aA) az))))) (aJ (aY.mono (by omega)) hr kY aB.m aB.F.kp aB.b .nil aU (aG (aj 10 fZ) (fj aA az)) kZ))))) (aD (cM (cC dY (aj 11 mO) aA (aV _)) (aD (gm (bN hr) (aj 5 fL) (aj 9 cW) (aJ (jz.mono (by omega)) hr nH aL.m aL.F.kp aL.b .nil aU (aG (aj 10 fZ) (gj (HX Ib (aj 6 oE) (La (M8 Dd aA)) K9) (fj aA az))) nJ))) bJ)))
  (au (cM (HS (Fi (cC dY (aj 11 mO) aA (aV _)) (zE (uD (bN hr) (aj 9 cW) (aj 5 fL))))) (au (fP (Nu (aj 5 fL) (aj 9 cW) ⟨rfl,rfl,rfl,rfl⟩))
  (aD (gm (bN hr) (aj 4 fG) (aj 9 cW) (cI oO (aJ (aY.mono (by omega)) hr kY aB.m aB.F.kp aB.b .nil aU (aG (aj 10 fZ) (fj aA az)) kZ) aA)))) (aD (cM (HS (Fi (cC dY (aj 11 mO) aA (aV _)) (zE (cC PN (aj 8 mz) aA (aV _))))) (au (fP (Nu (aj 4 fG) (aj 9 cW) ⟨rfl,rfl,rfl,rfl⟩))
  (aD (gm (bN hr) (aj 5 fL) (aj 9 cW) (aJ (jz.mono (by omega)) hr nH aL.m aL.F.kp aL.b .nil aU (aG (aj 10 fZ) (gj (HX Ib (aj 6 oE) (La (M8 Dd aA)) K9) (fj aA az))) nJ)))) bJ)))
  (aD (fP (u9 PySem.F.plainAttrs_list PySem.F.slot_list_append PySem.F.type_list_append jB (aj 6 oE) (aG (aj 9 cW) az)))))))))))
  (aD (aW (fM (aG (aj 4 fG) (aG (aj 5 fL) az)))))))))), ?_⟩
 walk_at "vs"
 intro g hg0
 have s1:=aC (.dK kg0) hg0
 have e1:upd H g (.dK kg0) g=some (.dK kg0):=ao
 have eh1:=s1 _ _ eh
 have rc1:Rd (upd H g (.dK kg0)) c1 (.dK kc0):= .inl (s1 _ _ ec1)
 generalize upd H g (.dK kg0)=H1 at *
 walk_at "vs"
 intro c hc1
 have s2:=aC (.dK kc0) hc1
 have e12:=s2 _ _ e1
 have e2:upd H1 c (.dK kc0) c=some (.dK kc0):=ao
 have ngc:g≠c:=fun z=>by rw[<-z,e1] at hc1;cases hc1
 have hc0:=same_none s1 hc1
 have S2:=s1.trans s2
 generalize upd H1 c (.dK kc0)=H2 at *
 walk_at "vs"
 intro l hl2
 have s3:=aC (.lst []) hl2
 have e13:=s3 _ _ e12
 have e23:=s3 _ _ e2
 have e3:upd H2 l (.lst []) l=some (.lst ((nmK 0).map V.str)):=ao
 have hl0:=same_none S2 hl2
 have S3:=S2.trans s3
 have ak2:kg0.length+kc0.length=n:=by
  obtain⟨gs,cs,h1,h2,h3⟩:=bd0.k
  rw[h1.len,h2.len];exact h3
 generalize upd H2 l (.lst [])=H3 at *
 have bd3:=bd0.tups (aQ.tups S3)
 clear s1 s2 s3 S2 e12 e1 e2 hc1 hl2 eh1 rc1 rg1
 iterate 8 walk_at "v"
 refine⟨_,rfl,_,rfl,by omega,by omega, ?_⟩
 have en:((kg0.length:Int)+(kc0.length:Int))=(n:Int):=by omega
 have SG:L2.St->Prop:=fun σ=>∃t u v w,σ=[some (.ref h),some (.ref a),some (.int start),some (.int most),some (.ref g),some (.ref c),some (.ref l),some (.int ((kg0.length:Int)+(kc0.length:Int))),t,u,v,w]
 refine EY (fun i σ H'=>(∃t u v w,σ=[some (.ref h),some (.ref a),some (.int start),some (.int most),some (.ref g),some (.ref c),some (.ref l),some (.int ((kg0.length:Int)+(kc0.length:Int))),t,u,v,w])/\aQ H H'/\∃gv rc kg kc,H' g=some (.dK kg)/\H' c=some (.dK kc)/\H' l=some (.lst ((nmK i).map V.str))/\Bld H' kg kc n gv rc) ?_ ?_ ?_
 ·exact⟨⟨none,none,none,none,rfl⟩,S3,gv0,rc0,kg0,kc0,e13,e23,e3,bd3⟩
 ·intro i σ H4 hi hP
  obtain⟨⟨t,u,v,w,rfl⟩,S4,gv,rc,kg,kc,eg4,ec4,el4,bd⟩:=hP
  have hin:i<n:=by
   have:i<((kg0.length:Int)+(kc0.length:Int)).toNat:=hi
   omega
  have hS4:=SqL.same S4 hS
  have ei:(0+(i:Int))=(i:Int):=by omega
  obtain⟨gs,cs,kgk,kck,hlen⟩:=bd.k
  have lg:=kgk.len
  have lc:=kck.len
  rw[ei]
  have alg:0<=(i:Int) % 11:=Int.emod_nonneg _ (by decide)
  have alh:(i:Int) % 11<11:=Int.emod_lt_of_pos _ (by decide)
  walk_at "vs"
  intro p H5 s5 hp5 pl5
  have S5:=S4.trans s5
  have hp0:=same_none S4 hp5
  have eg5:=s5 _ _ eg4
  have ec5:=s5 _ _ ec4
  have el5:=s5 _ _ el4
  have bd5:=bd.tups (aQ.tups s5)
  have fr:∀y∈[p],H y=none:=fun y hy=>by
   have:y=p:=by simpa using hy
   rw[this];exact hp0
  have ngp:g∉[p]:=fun z=>by
   have:g=p:=by simpa using z
   rw[<-this,eg4] at hp5;cases hp5
  have ncp:c∉[p]:=fun z=>by
   have:c=p:=by simpa using z
   rw[<-this,ec4] at hp5;cases hp5
  have nlp:=pl5.nel el5
  have ngl:g≠l:=fun z=>by rw[z,el5] at eg5;cases eg5
  have ncl:c≠l:=fun z=>by rw[z,el5] at ec5;cases ec5
  have hzl:((nmK i).map V.str).length<sizeLine:=by rw[List.length_map,lG];exact bL (by omega)
  obtain⟨rest,mixed,count,ep5,aiy,aiz⟩:=id pl5
  have dr:=Fq ep5
  have hdv:0<=(i:Int)/ 11:=Int.ediv_nonneg (by omega) (by decide)
  have ali:(i:Int)/ 11<=(i:Int):=Int.ediv_le_self _ (by omega)
  have cm:Fb 31 (i:Int):= .inl ⟨by decide,by decide⟩
  have dpr:=uB ep5 (rest /((i:Int)/ 11+1)+31 *(i:Int))
  have cdv':Vc rest ((i:Int)/ 11+1):=⟨by omega,Nat.lt_of_le_of_lt (Nat.log2_le_self _) (by omega)⟩
  have hml:most.natAbs.log2<9000:=Nat.lt_of_le_of_lt (Nat.log2_le_self _) (by omega)
  have pl6:dZ (upd H5 p (.dK (pZ (rest /((i:Int)/ 11+1)+31 *(i:Int)) mixed count))) p 503:=⟨_,_,_,ao,aiy,aiz⟩
  have B6:But [p] H5 (upd H5 p (.dK (pZ (rest /((i:Int)/ 11+1)+31 *(i:Int)) mixed count))):=But.set _ (by simp)
  walk_at "vs"
  intro way H7 w0 w1 b7 pl7
  have B7:=B6.trans b7
  have S7:=eX S5 fr B7
  have eg7:=B7 _ _ ngp eg5
  have ec7:=B7 _ _ ncp ec5
  have el7:=B7 _ _ nlp el5
  have bd7:=bd5.tups (pl5.tups B7)
  clear b7 B6 pl6 dpr
  have done:∀(H6:Hp) (σ6:L2.St) gv rc kg kc,(∃t u v w,σ6=[some (.ref h),some (.ref a),some (.int start),some (.int most),some (.ref g),some (.ref c),some (.ref l),some (.int ((kg0.length:Int)+(kc0.length:Int))),t,u,v,w])->aQ H H6->H6 g=some (.dK kg)->H6 c=some (.dK kc)->H6 l=some (.lst ((nmK i).map V.str))->Bld H6 kg kc n gv rc->
   (∃t u v w,σ6=[some (.ref h),some (.ref a),some (.int start),some (.int most),some (.ref g),some (.ref c),some (.ref l),some (.int ((kg0.length:Int)+(kc0.length:Int))),t,u,v,w])/\aQ H (upd H6 l (.lst ((nmK i).map V.str++[.str (ak i)])))/\∃gv rc kg kc,(upd H6 l (.lst ((nmK i).map V.str++[.str (ak i)]))) g=some (.dK kg)/\(upd H6 l (.lst ((nmK i).map V.str++[.str (ak i)]))) c=some (.dK kc)/\(upd H6 l (.lst ((nmK i).map V.str++[.str (ak i)]))) l=some (.lst ((nmK (i+1)).map V.str))/\Bld (upd H6 l (.lst ((nmK i).map V.str++[.str (ak i)]))) kg kc n gv rc:=by
   intro H6 σ6 gv rc kg kc hσ S6 e1 e2 e3 b
   refine⟨hσ,cL _ hl0 S6,gv,rc,kg,kc,(aq ngl).trans e1,(aq ncl).trans e2, ?_,b.tups fun y xs z=>(aq (fun w=>by rw[w,e3] at z;cases z)).trans z⟩
   rw[ao,Di,List.map_append];rfl
  have dgg:bT H7 g (.str (ak i)) ((gv (ak i)).map V.int):=by
   rw[<-bd7.g];exact bT.k (k:= .inr (ak i)) eg7
  have dgc:bT H7 c (.str (ak i)) (dI kc (.inr (ak i))):=bT.k (k:= .inr (ak i)) ec7
  have hkgl:kg.length<sizeLine:=bL (by omega)
  have hkcl:kc.length<sizeLine:=bL (by omega)
  have hway:way=0\/way=1\/(¬way=0/\¬way=1):=by omega
  rcases hway with rfl | rfl | ⟨nw0,nw1⟩
  ·cases egv:gv (ak i) with
   | some v0=>
     rw[egv] at dgg
     have dgg:bT H7 g (.str (ak i)) (some (.int v0)):=dgg
     have cp:Um 10 9:=⟨by decide,by decide,by decide⟩
     walk_at "vs"
     intro pz hpz
     have npz:pz∉[p]:=fun z=>pl7.ne hpz (by simpa using z)
     have s8:=aC (.lst [V.int 1,V.int (-1),V.int 2,V.int ((10:Int)^(9:Int).toNat)]) hpz
     have e8:upd H7 pz (.lst [V.int 1,V.int (-1),V.int 2,V.int ((10:Int)^(9:Int).toNat)]) pz=some (.lst [V.int 1,V.int (-1),V.int 2,V.int ((10:Int)^(9:Int).toNat)]):=ao
     have pl8:=pl7.same s8
     have B8:But [p] H7 (upd H7 pz (.lst [V.int 1,V.int (-1),V.int 2,V.int ((10:Int)^(9:Int).toNat)])):=But.of_same s8
     generalize upd H7 pz (.lst [V.int 1,V.int (-1),V.int 2,V.int ((10:Int)^(9:Int).toNat)])=H8 at *
     walk_at "vs"
     intro n9 H9 n90 n91 b9 pl9
     have B9:=B8.trans b9
     have S9:=eX S7 fr B9
     have e9:=b9 _ _ npz e8
     have eg9:=B9 _ _ ngp eg7
     have ec9:=B9 _ _ ncp ec7
     have el9:=B9 _ _ nlp el7
     have bd9:=bd7.tups (pl7.tups B9)
     obtain⟨dd,hdd⟩:∃dd:Int,atI [V.int 1,V.int (-1),V.int 2,V.int ((10:Int)^(9:Int).toNat)] n9=some (.int dd):=by
      have:n9=0\/n9=1\/n9=2\/n9=3:=by omega
      rcases this with rfl | rfl | rfl | rfl<;>exact⟨_,rfl⟩
     have dp:jn H9 g (.str (ak i)) (.int (v0+dd)) (upd H9 g (.dK (putK kg (.inr (ak i)) (.int (v0+dd))))):=jn.k (k:= .inr (ak i)) eg9 hkgl
     walk_at "vs"
     have t11:jX H9 (upd H9 g (.dK (putK kg (.inr (ak i)) (.int (v0+dd))))):=fun y xs z=>(aq (fun w=>by rw[w,eg9] at z;cases z)).trans z
     exact done _ _ _ _ _ _ ⟨_,_,_,_,rfl⟩ (cL _ hg0 S9) ao ((aq (Ne.symm ngc)).trans ec9) ((aq (Ne.symm ngl)).trans el9) ((bd9.tups t11).aeV hin (by rw[egv];simp) _)
   | none=>
     rw[egv] at dgg
     have dgg:bT H7 g (.str (ak i)) none:=dgg
     have hrn:rc (ak i)≠none:=by
      rcases bd7.ok.dom i hin with z | z
      ·exact absurd egv z
      ·exact z
     have i0:0<i:=by
      rcases Nat.eq_zero_or_pos i with z | z
      ·subst z;exact absurd egv (bd7.ok.g0 hin)
      ·exact z
     obtain⟨ns,ecut,hn1,hn9,hns⟩:=ab1 i0
     have hgn:∀x∈ns,lF x:=fun x hx=>yt (by omega) x (hns x hx)
     walk_at "vs"
     intro pc hpc
     rw[ecut]
     have s8:=aC (.lst (ns.map V.str)) hpc
     have e8:upd H7 pc (.lst (ns.map V.str)) pc=some (.lst (ns.map V.str)):=ao
     have pl8:=pl7.same s8
     have B8:But [p] H7 (upd H7 pc (.lst (ns.map V.str))):=But.of_same s8
     have npc:pc∉[p]:=fun z=>pl7.ne hpc (by simpa using z)
     generalize upd H7 pc (.lst (ns.map V.str))=H8 at *
     walk_at "vs"
     intro br r H10 b10 Yv R10 Wq
     have B10:=B8.trans b10
     have S10:=eX S7 fr B10
     have Oo:=B10 _ _ ngp eg7
     have JC:=B10 _ _ ncp ec7
     have Ws:=B10 _ _ nlp el7
     have Wt:=bd7.tups (pl7.tups B10)
     have dp:jn H10 c (.str (ak i)) (.ref br) (upd H10 c (.dK (putK kc (.inr (ak i)) (.ref br)))):=jn.k (k:= .inr (ak i)) JC hkcl
     walk_at "vs"
     have t11:jX H10 (upd H10 c (.dK (putK kc (.inr (ak i)) (.ref br)))):=fun y xs z=>(aq (fun w=>by rw[w,JC] at z;cases z)).trans z
     have Wu:upd H10 c (.dK (putK kc (.inr (ak i)) (.ref br))) l=some (.lst ((nmK i).map V.str)):=(aq (Ne.symm ncl)).trans Ws
     have S11:=cL (.dK (putK kc (.inr (ak i)) (.ref br))) hc0 S10
     have Ot:upd H10 c (.dK (putK kc (.inr (ak i)) (.ref br))) c=some (.dK (putK kc (.inr (ak i)) (.ref br))):=ao
     have Oq:=(aq ngc:upd H10 c (.dK (putK kc (.inr (ak i)) (.ref br))) g=H10 g).trans Oo
     exact done _ _ _ _ _ _ ⟨_,_,_,_,rfl⟩ S11 Oq Ot Wu ((Wt.tups t11).aeX (by omega) hin i0 hrn (Wq.mono hns) (R10.tups t11))
  ·cases erc:rc (ak i) with
   | some r0=>
     obtain⟨b0,hb0,_⟩:=bd7.r _ _ erc
     rw[hb0] at dgc
     walk_at "vs"
     refine⟨.inl ⟨_, .inl ec7⟩,_,rfl,kc, .inr (ak i),_,ec7,rfl,hb0, ?_⟩
     have ncp':c≠p:=fun z=>ncp (by simp[z])
     have S8:=cL (.dK (jJ kc (.inr (ak i)))) hc0 S7
     have t8:jX H7 (upd H7 c (.dK (jJ kc (.inr (ak i))))):=fun y xs z=>(aq (fun w=>by rw[w,ec7] at z;cases z)).trans z
     have pl8:dZ (upd H7 c (.dK (jJ kc (.inr (ak i))))) p (503+1):=pl7.keep (But.set (S:=[c]) _ (by simp)) (by simpa using Ne.symm ncp')
     have eg8:upd H7 c (.dK (jJ kc (.inr (ak i)))) g=some (.dK kg):=(aq ngc).trans eg7
     have el8:upd H7 c (.dK (jJ kc (.inr (ak i)))) l=some (.lst ((nmK i).map V.str)):=(aq (Ne.symm ncl)).trans el7
     have ec8:upd H7 c (.dK (jJ kc (.inr (ak i)))) c=some (.dK (jJ kc (.inr (ak i)))):=ao
     have bd8:=bd7.tups t8
     generalize upd H7 c (.dK (jJ kc (.inr (ak i))))=H8 at *
     walk_at "vs"
     intro n9 H9 n90 n91 b9 pl9
     have S9:=eX S8 fr b9
     have eg9:=b9 _ _ ngp eg8
     have ec9:=b9 _ _ ncp ec8
     have el9:=b9 _ _ nlp el8
     have bd9:=bd8.tups (pl8.tups b9)
     have dp:jn H9 g (.str (ak i)) (.int (n9 - 4)) (upd H9 g (.dK (putK kg (.inr (ak i)) (.int (n9 - 4))))):=jn.k (k:= .inr (ak i)) eg9 hkgl
     walk_at "vs"
     have t11:jX H9 (upd H9 g (.dK (putK kg (.inr (ak i)) (.int (n9 - 4))))):=fun y xs z=>(aq (fun w=>by rw[w,eg9] at z;cases z)).trans z
     exact done _ _ _ _ _ _ ⟨_,_,_,_,rfl⟩ (cL _ hg0 S9) ao ((aq (Ne.symm ngc)).trans ec9) ((aq (Ne.symm ngl)).trans el9) ((bd9.tups t11).aeW hin (by rw[erc];simp) _)
   | none=>
     have hcn:=bd7.rn _ erc
     rw[hcn] at dgc
     have hgs:∃v0,gv (ak i)=some v0:=by
      cases e:gv (ak i) with
      | some v0=>exact⟨v0,rfl⟩
      | none=>
        rcases bd7.ok.dom i hin with z | z
        ·exact absurd e z
        ·exact absurd erc z
     obtain⟨v0,egv⟩:=hgs
     walk_at "vs"
     refine wz (fun ck=> ?_) (fun ck=> ?_)
     ·have i0:0<i:=by
       have:(i:Int)>0:=by simpa using ck
       omega
      walk_at "vs"
      have hv0:dI kg (.inr (ak i))=some (.int v0):=by rw[bd7.g,egv];rfl
      refine⟨.inl ⟨_, .inl eg7⟩,_,rfl,kg, .inr (ak i),_,eg7,rfl,hv0, ?_⟩
      have ngp':g≠p:=fun z=>ngp (by simp[z])
      have S6:=cL (.dK (jJ kg (.inr (ak i)))) hg0 S7
      have t6:jX H7 (upd H7 g (.dK (jJ kg (.inr (ak i))))):=fun y xs z=>(aq (fun w=>by rw[w,eg7] at z;cases z)).trans z
      have pl6:dZ (upd H7 g (.dK (jJ kg (.inr (ak i))))) p (503+1):=pl7.keep (But.set (S:=[g]) _ (by simp)) (by simpa using Ne.symm ngp')
      have ec6:upd H7 g (.dK (jJ kg (.inr (ak i)))) c=some (.dK kc):=(aq (Ne.symm ngc)).trans ec7
      have el6:upd H7 g (.dK (jJ kg (.inr (ak i)))) l=some (.lst ((nmK i).map V.str)):=(aq (Ne.symm ngl)).trans el7
      have eg6:upd H7 g (.dK (jJ kg (.inr (ak i)))) g=some (.dK (jJ kg (.inr (ak i)))):=ao
      have bd6:=bd7.tups t6
      generalize upd H7 g (.dK (jJ kg (.inr (ak i))))=H6 at *
      obtain⟨ns,ecut,hn1,hn9,hns⟩:=ab1 i0
      have hgn:∀x∈ns,lF x:=fun x hx=>yt (by omega) x (hns x hx)
      walk_at "vs"
      intro pc hpc
      rw[ecut]
      have s8:=aC (.lst (ns.map V.str)) hpc
      have e8:upd H6 pc (.lst (ns.map V.str)) pc=some (.lst (ns.map V.str)):=ao
      have pl8:=pl6.same s8
      have B8:But [p] H6 (upd H6 pc (.lst (ns.map V.str))):=But.of_same s8
      have npc:pc∉[p]:=fun z=>pl6.ne hpc (by simpa using z)
      generalize upd H6 pc (.lst (ns.map V.str))=H8 at *
      walk_at "vs"
      intro br r H10 b10 Yv R10 Wq
      have B10:=B8.trans b10
      have S10:=eX S6 fr B10
      have Oo:=B10 _ _ ngp eg6
      have JC:=B10 _ _ ncp ec6
      have Ws:=B10 _ _ nlp el6
      have Wt:=bd6.tups (pl6.tups B10)
      have dp:jn H10 c (.str (ak i)) (.ref br) (upd H10 c (.dK (putK kc (.inr (ak i)) (.ref br)))):=jn.k (k:= .inr (ak i)) JC hkcl
      walk_at "vs"
      have t11:jX H10 (upd H10 c (.dK (putK kc (.inr (ak i)) (.ref br)))):=fun y xs z=>(aq (fun w=>by rw[w,JC] at z;cases z)).trans z
      have Wu:upd H10 c (.dK (putK kc (.inr (ak i)) (.ref br))) l=some (.lst ((nmK i).map V.str)):=(aq (Ne.symm ncl)).trans Ws
      have S11:=cL (.dK (putK kc (.inr (ak i)) (.ref br))) hc0 S10
      have Ot:upd H10 c (.dK (putK kc (.inr (ak i)) (.ref br))) c=some (.dK (putK kc (.inr (ak i)) (.ref br))):=ao
      have Oq:=(aq ngc:upd H10 c (.dK (putK kc (.inr (ak i)) (.ref br))) g=H10 g).trans Oo
      exact done _ _ _ _ _ _ ⟨_,_,_,_,rfl⟩ S11 Oq Ot Wu ((Wt.tups t11).aeY (by omega) hin i0 erc (Wq.mono hns) (R10.tups t11))
     ·walk_at "vs"
      exact done _ _ _ _ _ _ ⟨_,_,_,_,rfl⟩ S7 eg7 ec7 el7 bd7
  ·walk_at "vs"
   refine wz (fun z=>absurd (V.int.inj (of_decide_eq_true z)) nw0) (fun _=> ?_)
   walk_at "vs"
   refine wz (fun z=>absurd (V.int.inj (of_decide_eq_true z)) nw0) (fun _=> ?_)
   walk_at "vs"
   refine wz (fun z=>absurd (V.int.inj (of_decide_eq_true z)) nw1) (fun _=> ?_)
   walk_at "vs"
   refine wz (fun z=>absurd (V.int.inj (of_decide_eq_true z)) nw1) (fun _=> ?_)
   walk_at "vs"
   exact done _ _ _ _ _ _ ⟨_,_,_,_,rfl⟩ S7 eg7 ec7 el7 bd7
 ·intro σ H4 hP
  obtain⟨⟨t,u,v,w,rfl⟩,S4,gv,rc,kg,kc,eg4,ec4,el4,bd⟩:=hP
  walk_at "vs"
  intro h2 hh
  have s5:=aC (.tup [.ref g, .ref c]) hh
  exact q h2 g c gv rc _ (S4.trans s5) (same_none S4 hh) hg0 hc0 ⟨kg,kc,ao,s5 _ _ eg4,s5 _ _ ec4,bd.tups (aQ.tups s5)⟩
end
section
variable {P:Program}{w:World}{K:PySem.W.Frag}{mg:Str->Option Value}{base:Heap}
abbrev bA:Stmt:=top 31
theorem mC:bI ["house","name","state","worths","records","reads","worth"] ["house","name","state"] (aa bA):=⟨rfl,rfl,rfl,by decide +kernel,rfl,by decide +kernel,by decide +kernel⟩
theorem qu:aF (aa bA) "state":=by decide +kernel
theorem xr:Loc (aa bA) "records":=by decide +kernel
theorem yd:Loc (aa bA) "worths":=by decide +kernel
theorem cD:aF (aa bA) "name":=by decide +kernel
theorem gP:aF (aa bA) "house":=by decide +kernel
theorem gC:aF (aa bA) "worths":=by decide +kernel
theorem zb:Loc (aa bA) "reads":=by decide +kernel
theorem zc:Loc (aa bA) "worth":=by decide +kernel
theorem tU:(aa bA).names.lookup ("_law_value":Str)=some NameKind.globalImplicit:=by decide +kernel
theorem qw:aF (aa bA) "reads":=by decide +kernel
theorem tV:(("_law_value":Str)==("__debug__":Str))=false:=by decide +kernel
theorem xu:aF (aa bA) "records":=by decide +kernel
theorem qx:aF (aa bA) "worth":=by decide +kernel
abbrev eG:Stmt:=top 30
theorem GQ:bI ["house","name","state","reads","worth"] ["house","name","state","reads"] (aa eG):=⟨rfl,rfl,rfl,by decide +kernel,rfl,by decide +kernel,by decide +kernel⟩
theorem DW:Loc (aa eG) "worth":=by decide +kernel
theorem uR:(aa eG).names.lookup ("_law_settled":Str)=some NameKind.globalImplicit:=by decide +kernel
theorem DX:aF (aa eG) "state":=by decide +kernel
theorem pU:aF (aa eG) "name":=by decide +kernel
theorem DY:aF (aa eG) "house":=by decide +kernel
theorem uT:(("_law_settled":Str)==("__debug__":Str))=false:=by decide +kernel
theorem o7:aF (aa eG) "worth":=by decide +kernel
theorem uh:aF (aa eG) "reads":=by decide +kernel
theorem Ou {k0:Nat}{f g:Addr}{fd gd:FuncData} (dW:FnT K mg "_law_look" eG ["house","name","state","reads"] f fd) (cF:FnT K mg "_law_settled" bA ["house","name","state"] g gd) (uU:aX P w K mg base CX0 (8 * k0+1) g gd ["house","name","state"] (LQ k0)) (T:Blt mg):
 aX P w K mg base CX0 (8 * k0+2) f fd ["house","name","state","reads"] (Wg k0):=by
 refine dW.F.okQ GQ (fun vs H Q E h=> ?_) (fun cdv A outer s H vs Q E hr h=> ?_)
 ·obtain⟨X,h,g,c,st,wd,rd,rl,n,gv,rc,kn,rm,as,ps,k,rfl,_⟩:=h
  rfl
 obtain⟨X,h,hg,hc,st,wd,rd,rl,n,gv,rc,kn,rm,as,ps,k,rfl,cx,hkf,hkn,el,hRs,hrow,hrX,hrs,q⟩:=h
 refine⟨_,(au (bG (i:=4) GQ.nd rfl DW (aJ (uU.mono (by omega)) hr uR cF.m cF.F.kp cF.b .nil aU (aG (aj 0 DY) (aG (aj 1 pU) (aG (aj 2 DX) az))) uT))
  (au (cM (cC (Qm hr.units) (fM (aG (aj 1 pU) (aG (aj 4 o7) az))) (aj 3 uh) rfl) (aD (fP (u9 PySem.F.plainAttrs_list PySem.F.slot_list_append PySem.F.type_list_append jB (aj 3 uh) (Qa (fM (aG (aj 1 pU) (aG (aj 4 o7) az))) az)))) bJ)
  (aD (aW (aj 4 o7))))), ?_⟩
 have n17:=cx.n17
 have hlw:rl∉[wd,rd]:=fun z=>by
  obtain⟨kw,ws,e1,_⟩:=cx.sa.ew
  obtain⟨kr,rs,e2,_⟩:=cx.sa.er
  have z:rl=wd\/rl=rd:=by simpa using z
  rcases z with z | z
  ·rw[z,e1] at el;cases el
  ·rw[z,e2] at el;cases el
 walk_at "vs"
 intro kn1 rm1 v H1 b1 cx1 nw1 nv1 hv
 have t1:jX H H1:=cx.sa.tups (S:=[wd,rd]) (fun y hy=>by
  have z:y=wd\/y=rd:=by simpa using hy
  exact z.elim .inl fun z=> .inr (.inl z)) b1
 have el1:=b1 _ _ hlw el
 have QB:=hRs.tups t1
 have Ea:=hrow.le nw1.1
 have lk:=Ea.look hv
 have hgn:∀p∈ps,lF p.1:=fun p hp=>yt (by omega) _ (cx1.sa.ok.a _ _ (Ea.s p hp)).1
 walk_at "vs"
 intro pt hpt
 have s2:=aC (.tup [.str (ak k), .int v]) hpt
 have ept:upd H1 pt (.tup [.str (ak k), .int v]) pt=some (.tup (rdV (ak k,v))):=ao
 have el2:=s2 _ _ el1
 have Hj:=QB.same s2
 have b2:But [wd,rd,rl] H (upd H1 pt (.tup [.str (ak k), .int v])):=(b1.mono (by simp)).trans (But.of_same s2)
 have cx2:Ctx X (upd H1 pt (.tup [.str (ak k), .int v])) h hg hc st wd rd n gv rc kn1 rm1:=cx1.same s2
 generalize upd H1 pt (.tup [.str (ak k), .int v])=H2 at *
 refine⟨_,rfl,pt,rl,as,ps,(ak k,v),rfl,rfl,ept,SqL.of el2,Hj,hgn,IV (k:=k) (by omega), ?_⟩
 by_cases hm:(ak k,v)∈ps
 ·rw[if_pos hm] at lk
  rw[decide_eq_true hm]
  walk_at "vs"
  exact q kn1 rm1 v [] as H2 b2 cx2 nw1 (fun y hy=>(nv1 y hy).imp id fun z=>⟨(ak k,v),by rw[List.append_nil];exact hm,z⟩) el2 (by rw[List.append_nil];exact Hj) (by rw[List.append_nil];exact Ea) lk
 ·rw[if_neg hm] at lk
  rw[decide_eq_false hm]
  have hz:(as.map V.ref).length<sizeLine:=by
   rw[List.length_map,hRs.length]
   have:=Rows.len cx1.sa Ea
   exact bL (by omega)
  walk_at "vs"
  intro pu hpu
  have s3:=aC (.tup [.str (ak k), .int v]) hpu
  have epu:upd H2 pu (.tup [.str (ak k), .int v]) pu=some (.tup (rdV (ak k,v))):=ao
  have el3:=s3 _ _ el2
  have J1:=gM.snoc epu (Hj.same s3)
  have b3:=b2.trans (But.of_same (S:=[wd,rd,rl]) s3)
  have cx3:=cx2.same s3
  generalize upd H2 pu (.tup [.str (ak k), .int v])=H3 at *
  walk_at "vs"
  have t4:jX H3 (upd H3 rl (.lst (as.map V.ref++[V.ref pu]))):=fun y xs z=>(aq (fun w=>by rw[w,el3] at z;cases z)).trans z
  exact q kn1 rm1 v [(ak k,v)] (as++[pu]) _ (b3.trans (But.set _ (by simp))) (cx3.row el3 hrX hrs _) nw1 (fun y hy=>(nv1 y hy).imp id fun z=>⟨(ak k,v),by simp,z⟩) (by rw[ao,List.map_append];rfl) (J1.tups t4) lk.2 lk.1
abbrev bK:Stmt:=top 29
theorem rK:bI ["house","r","state","reads","word","one","other"] ["house","r","state","reads"] (aa bK):=⟨rfl,rfl,rfl,by decide +kernel,rfl,by decide +kernel,by decide +kernel⟩
theorem Eb:Loc (aa bK) "word":=by decide +kernel
theorem gQ:aF (aa bK) "r":=by decide +kernel
theorem gb:aF (aa bK) "word":=by decide +kernel
theorem o8:(aa bK).names.lookup ("_law_look":Str)=some NameKind.globalImplicit:=by decide +kernel
theorem jc:aF (aa bK) "reads":=by decide +kernel
theorem jd:aF (aa bK) "state":=by decide +kernel
theorem je:aF (aa bK) "house":=by decide +kernel
theorem o9:(("_law_look":Str)==("__debug__":Str))=false:=by decide +kernel
theorem FJ:Loc (aa bK) "one":=by decide +kernel
theorem jR:(aa bK).names.lookup ("_law_value":Str)=some NameKind.globalImplicit:=by decide +kernel
theorem jT:(("_law_value":Str)==("__debug__":Str))=false:=by decide +kernel
theorem jU:aF (aa bK) "one":=by decide +kernel
theorem FN:(aa bK).names.lookup ("len":Str)=some NameKind.globalImplicit:=by decide +kernel
theorem FP:("len":Str)≠"__name__":=by decide +kernel
theorem FQ:(("len":Str)==("__debug__":Str))=false:=by decide +kernel
theorem vZ:(aa bK).names.lookup ("int":Str)=some NameKind.globalImplicit:=by decide +kernel
theorem v7:("int":Str)≠"__name__":=by decide +kernel
theorem v8:(("int":Str)==("__debug__":Str))=false:=by decide +kernel
theorem Cj:Loc (aa bK) "other":=by decide +kernel
theorem lq:aF (aa bK) "other":=by decide +kernel
theorem FT:(aa bK).names.lookup ("max":Str)=some NameKind.globalImplicit:=by decide +kernel
theorem FW:("max":Str)≠"__name__":=by decide +kernel
theorem FZ:(("max":Str)==("__debug__":Str))=false:=by decide +kernel
theorem JF {k0 d:Nat}{f g:Addr}{fd gd:FuncData} (bQ:FnT K mg "_law_value" bK ["house","r","state","reads"] f fd) (dW:FnT K mg "_law_look" eG ["house","name","state","reads"] g gd) (sW:aX P w K mg base CX0 (8 * k0+2) g gd ["house","name","state","reads"] (Wg k0))
 (qy:aX P w K mg base CX0 (8 * k0+2+d) f fd ["house","r","state","reads"] (RZ k0 d)) (T:Blt mg):aX P w K mg base CX0 (8 * k0+2+d+1) f fd ["house","r","state","reads"] (RZ k0 (d+1)):=by
 refine bQ.F.okQ rK (fun vs H Q E h=> ?_) (fun cdv A outer s H vs Q E hr h=> ?_)
 ·obtain⟨X,h,g,c,st,wd,rd,rl,b,n,gv,rc,kn,rm,as,ps,r,m,rfl,_⟩:=h
  rfl
 obtain⟨X,h,hg,hc,st,wd,rd,rl,b,n,gv,rc,kn,rm,as,ps,r,m,rfl,cx,hR,hrk,hmf,hmn,el,hRs,hrow,hrX,hrs,q⟩:=h
 refine⟨_,(au (bG (i:=4) rK.nd rfl Eb (aO aK (aj 1 gQ) aA))
  (au (cM (cC dY (aj 4 gb) bO (aV _)) (aD (aW (aO aK (aj 1 gQ) aA))) bJ)
  (au (cM (cC dY (aj 4 gb) bO (aV _)) (aD (aW (aJ (sW.mono (by omega)) hr o8 dW.m dW.F.kp dW.b .nil aU (aG (aj 0 je) (gj (aO aK (aj 1 gQ) aA) (aG (aj 2 jd) (aG (aj 3 jc) az)))) o9))) bJ)
  (au (bG (i:=5) rK.nd rfl FJ (aJ (qy.mono (by omega)) hr jR bQ.m bQ.F.kp bQ.b .nil aU (aG (aj 0 je) (gj (aO aK (aj 1 gQ) aA) (aG (aj 2 jd) (aG (aj 3 jc) az)))) jT))
  (au (cM (cC dY (aj 4 gb) bO (aV _)) (aD (aW (aJ (sW.mono (by omega)) hr o8 dW.m dW.F.kp dW.b .nil aU (aG (aj 0 je) (gj (aO aK (aO aK (aj 1 gQ) aA) (cI nQ (aj 5 jU) (cX jC FN T.vf pN (gj (aO aK (aj 1 gQ) aA) az) FP FQ))) (aG (aj 2 jd) (aG (aj 3 jc) az)))) o9))) bJ)
  (au (cM (cC dY (aj 4 gb) bO (aV _)) (aD (aW (aJ (qy.mono (by omega)) hr jR bQ.m bQ.F.kp bQ.b .nil aU (aG (aj 0 je) (gj (aO aK (aj 1 gQ) (aO cO (gh (fj aA (fj aA az))) (iR Rq vZ T.Vl Pz (aeN (wD PN (aj 5 jU) aA (aV _)) az) v7 v8))) (aG (aj 2 jd) (aG (aj 3 jc) az)))) jT))) bJ)
  (au (bG (i:=6) rK.nd rfl Cj (aJ (qy.mono (by omega)) hr jR bQ.m bQ.F.kp bQ.b .nil aU (aG (aj 0 je) (gj (aO aK (aj 1 gQ) aA) (aG (aj 2 jd) (aG (aj 3 jc) az)))) jT))
  (au (cM (cC dY (aj 4 gb) bO (aV _)) (aD (aW (cI qY (aj 5 jU) (aj 6 lq)))) bJ)
  (au (cM (cC dY (aj 4 gb) bO (aV _)) (aD (aW (cX (Ru rfl) FT T.Z2 Vh (aG (aj 5 jU) (aG (aj 6 lq) az)) FW FZ))) bJ)
  (aD (aW (cI jK (aj 5 jU) (aO cO (gh (aG (aj 6 lq) (Df (cI oO aA (aj 6 lq)) az))) (iR Rq vZ T.Vl Pz (aeN (wD dY (aj 4 gb) bO (aV _)) az) v7 v8)))))))))))))), ?_⟩
 have n17:=cx.n17
 have tp:∀{H0 H':Hp}{kn0 rm0}{as0:List Addr},Ctx X H0 h hg hc st wd rd n gv rc kn0 rm0->H0 rl=some (.lst (as0.map V.ref))->But [wd,rd,rl] H0 H'->jX H0 H':=fun cx0 e0 b0=>cx0.sa.tups (S:=[wd,rd,rl]) (fun y hy=>by
  have z:y=wd\/y=rd\/y=rl:=by simpa using hy
  rcases z with z | z | z
  ·exact .inl z
  ·exact .inr (.inl z)
  ·exact .inr (.inr ⟨_,by rw[z];exact e0⟩)) b0
 have new2:∀{a b c:Kn}{i j:Nat},New a b i->New b c j->i<=m->j<=m->New a c m:=fun n1 n2 h1 h2=>⟨n1.1.trans n2.1,fun y hy=>by
  rcases n2.2 y hy with z | z
  ·rcases n1.2 y z with z | z
   ·exact .inl z
   ·obtain⟨k,hk,e⟩:=dJ.mp z
    exact .inr (dJ.mpr ⟨k,by omega,e⟩)
  ·obtain⟨k,hk,e⟩:=dJ.mp z
   exact .inr (dJ.mpr ⟨k,by omega,e⟩)⟩
 have newm:∀{a b:Kn}{i:Nat},New a b i->i<=m->New a b m:=fun n1 h1=>⟨n1.1,fun y hy=>by
  rcases n1.2 y hy with z | z
  ·exact .inl z
  ·obtain⟨k,hk,e⟩:=dJ.mp z
   exact .inr (dJ.mpr ⟨k,by omega,e⟩)⟩
 obtain⟨rg,rt,ri,rdp⟩:=hrk
 cases hR with
 | @num _ nn e=>
   walk_at "vs"
   exact q kn rm nn [] as H (But.refl _ _) cx ⟨Kn.Le.refl _,fun y hy=> .inl hy⟩ (fun y hy=> .inl hy) el (by rw[List.append_nil];exact hRs) (by rw[List.append_nil];exact hrow) RJ
 | @rd _ x e=>
   obtain⟨k,hk,rfl⟩:=dJ.mp ri
   walk_at "vs"
   intro kn1 rm1 v us as1 H1 b1 cx1 nw1 nv1 el1 QB Ea got
   exact q kn1 rm1 v us as1 H1 b1 cx1 (newm nw1 (by omega)) nv1 el1 QB Ea got
 | @bin _ x y op r1 r2 e h1 h2=>
   have hd':max r1.depth r2.depth+1<=d+1:=rdp
   have k1:Rk3 (nmK m) d r1:=⟨rg.1,rt.1,ri.1,by omega⟩
   have k2:Rk3 (nmK m) d r2:=⟨rg.2,rt.2.1,ri.2,by omega⟩
   have afa:=rt.2.2
   cases op
   all_goals
    walk_at "vs"
    intro kn1 rm1 u us as1 H1 b1 cx1 nw1 nv1 el1 QB Ea Mh
    have t1:=tp cx el b1
    have e1:=t1 _ _ e
    have h21:=h2.tups t1
    walk_at "vs"
    intro kn2 rm2 v vs as2 H2 b2 cx2 nw2 nv2 el2 Hj GR ye
    rw[Kn.fQ] at ye
    rw[List.append_assoc] at Hj GR nv2
    have b12:=b1.trans b2
   ·walk_at "vs"
    intro pz hpz
    have s3:=aC (.lst [V.int v,V.int (0 - v)]) hpz
    have hat:atI [V.int v,V.int (0 - v)] 0=some (.int v):=rfl
    walk_at "vs"
    exact q kn2 rm2 (u+v) (us++vs) as2 _ (b12.trans (But.of_same s3)) (cx2.same s3) (new2 nw1 nw2 (Nat.le_refl _) (Nat.le_refl _)) (nv1.trans nw2.1 nv2) (s3 _ _ el2) (Hj.same s3) GR (Dj (op:= .plus) Mh ye)
   ·walk_at "vs"
    intro pz hpz
    have s3:=aC (.lst [V.int v,V.int (0 - v)]) hpz
    have hat:atI [V.int v,V.int (0 - v)] 1=some (.int (0 - v)):=rfl
    walk_at "vs"
    have:=q kn2 rm2 (u - v) (us++vs) as2 _ (b12.trans (But.of_same s3)) (cx2.same s3) (new2 nw1 nw2 (Nat.le_refl _) (Nat.le_refl _)) (nv1.trans nw2.1 nv2) (s3 _ _ el2) (Hj.same s3) GR (Dj (op:= .minus) Mh ye)
    rw[show u - v=u+(0 - v) by omega] at this
    exact this
   ·obtain⟨n0,rfl,hn0,hn1⟩:=afa rfl
    have hv:v=n0:=by have:=ye.e;cases this;rfl
    have cm:Fb u v:= .inr ⟨by omega,by omega⟩
    walk_at "vs"
    exact q kn2 rm2 (u * v) (us++vs) as2 _ b12 cx2 (new2 nw1 nw2 (Nat.le_refl _) (Nat.le_refl _)) (nv1.trans nw2.1 nv2) el2 Hj GR (Dj (op:= .times) Mh ye)
   ·walk_at "vs"
    exact q kn2 rm2 (if v>u then v else u) (us++vs) as2 _ b12 cx2 (new2 nw1 nw2 (Nat.le_refl _) (Nat.le_refl _)) (nv1.trans nw2.1 nv2) el2 Hj GR (Dj (op:= .most) Mh ye)
 | @pick _ x y z r1 r2 r3 e h1 h2 h3=>
   have hd':max r1.depth (max r2.depth r3.depth)+1<=d+1:=rdp
   have k1:Rk3 (nmK m) d r1:=⟨rg.1,rt.1,ri.1,by omega⟩
   have k2:Rk3 (nmK m) d r2:=⟨rg.2.1,rt.2.1,ri.2.1,by omega⟩
   have k3:Rk3 (nmK m) d r3:=⟨rg.2.2,rt.2.2,ri.2.2,by omega⟩
   walk_at "vs"
   intro kn1 rm1 u us as1 H1 b1 cx1 nw1 nv1 el1 QB Ea Mh
   have t1:=tp cx el b1
   have e1:=t1 _ _ e
   walk_at "vs"
   intro pl hpl
   have s2:=aC (.lst [V.int 3,V.int 2]) hpl
   have e2:upd H1 pl (.lst [V.int 3,V.int 2]) pl=some (.lst [V.int 3,V.int 2]):=ao
   have b2:=b1.trans (But.of_same (S:=[wd,rd,rl]) s2)
   have cx2:=cx1.same s2
   have el2:=s2 _ _ el1
   have Hj:=QB.same s2
   have e12:=s2 _ _ e1
   have h22:=(h2.tups t1).same s2
   have h32:=(h3.tups t1).same s2
   generalize upd H1 pl (.lst [V.int 3,V.int 2])=H2 at *
   by_cases hu:u>0
   ·have hat:atI [V.int 3,V.int 2] (if decide (u>0)=true then 1 else 0)=some (.int 2):=by rw[if_pos (decide_eq_true hu)];rfl
    walk_at "vs"
    intro kn2 rm2 v vs as2 H3 b3 cx3 nw2 nv2 el3 J1 Bb ye
    rw[Kn.fQ] at ye
    rw[List.append_assoc] at J1 Bb nv2
    exact q kn2 rm2 v (us++vs) as2 H3 (b2.trans b3) cx3 (new2 nw1 nw2 (Nat.le_refl _) (Nat.le_refl _)) (nv1.trans nw2.1 nv2) el3 J1 Bb (IW Mh (by rw[if_pos hu];exact ye))
   ·have hat:atI [V.int 3,V.int 2] (if decide (u>0)=true then 1 else 0)=some (.int 3):=by rw[if_neg (by rw[decide_eq_false hu];decide)];rfl
    walk_at "vs"
    intro kn2 rm2 v vs as2 H3 b3 cx3 nw2 nv2 el3 J1 Bb ye
    rw[Kn.fQ] at ye
    rw[List.append_assoc] at J1 Bb nv2
    exact q kn2 rm2 v (us++vs) as2 H3 (b2.trans b3) cx3 (new2 nw1 nw2 (Nat.le_refl _) (Nat.le_refl _)) (nv1.trans nw2.1 nv2) el3 J1 Bb (IW Mh (by rw[if_neg hu];exact ye))
 | @cho _ x y r1 ns e h1 h2=>
   have hd':r1.depth+1<=d+1:=rdp
   have k1:Rk3 (nmK m) d r1:=⟨rg.1,rt.1,ri.1,by omega⟩
   walk_at "vs"
   intro kn1 rm1 u us as1 H1 b1 cx1 nw1 nv1 el1 QB Ea Mh
   have t1:=tp cx el b1
   have e1:=t1 _ _ e
   have h21:=t1 _ _ h2
   obtain⟨nm,hnm⟩:=Kr rt.2 u
   have hmem:nm∈ns:=List.mem_of_getElem? hnm
   obtain⟨k,hk,rfl⟩:=dJ.mp (ri.2 nm hmem)
   have hlm:(ns.map V.str).length=ns.length:=List.length_map _
   have hn1:=rt.2
   have hl0:0<((ns.map V.str).length:Int):=by rw[hlm];omega
   have hat:atI (ns.map V.str) (u % ((ns.map V.str).length:Int))=some (.str (ak k)):=by
    rw[hlm]
    have hnm':=hnm
    unfold xN at hnm'
    obtain⟨j,ej⟩:=Int.eq_ofNat_of_zero_le (Int.emod_nonneg u (show(ns.length:Int)≠0 by omega))
    rw[ej] at hnm' ⊢
    exact lE (by rw[List.getElem?_map];rw[Int.toNat_natCast] at hnm';rw[hnm'];rfl)
   walk_at "vs"
   intro kn2 rm2 v vs as2 H3 b3 cx3 nw2 nv2 el3 J1 Bb ye
   rw[Kn.fQ] at ye
   rw[List.append_assoc] at J1 Bb nv2
   exact q kn2 rm2 v (us++vs) as2 H3 (b1.trans b3) cx3 (new2 nw1 nw2 (Nat.le_refl _) (by omega)) (nv1.trans nw2.1 nv2) el3 J1 Bb (RK Mh hnm ye)
theorem Ec {k0:Nat}{f g:Addr}{fd gd:FuncData} (bQ:FnT K mg "_law_value" bK ["house","r","state","reads"] f fd) (dW:FnT K mg "_law_look" eG ["house","name","state","reads"] g gd) (sW:aX P w K mg base CX0 (8 * k0+2) g gd ["house","name","state","reads"] (Wg k0)) (T:Blt mg):∀d,aX P w K mg base CX0 (8 * k0+2+d) f fd ["house","r","state","reads"] (RZ k0 d)
 | 0=>never fun vs H Q E h=>by
   obtain⟨X,h,g,c,st,wd,rd,rl,b,n,gv,rc,kn,rm,as,ps,r,m,_,_,_,hrk,_⟩:=h
   have:=r.zG
   have:=hrk.d
   omega
 | d+1=>JF bQ dW sW (Ec bQ dW sW T d) T
end
section
variable {P:Program}{w:World}{K:PySem.W.Frag}{mg:Str->Option Value}{base:Heap}
theorem Ga {k0:Nat}{f g:Addr}{fd gd:FuncData} (cF:FnT K mg "_law_settled" bA ["house","name","state"] f fd) (bQ:FnT K mg "_law_value" bK ["house","r","state","reads"] g gd) (qy:aX P w K mg base CX0 (8 * k0+6) g gd ["house","r","state","reads"] (RZ k0 4)) (T:Blt mg):
 aX P w K mg base CX0 (8 * k0+8+1) f fd ["house","name","state"] (LQ (k0+1)):=by
 refine cF.F.okQ mC (fun vs H Q E h=> ?_) (fun cdv A outer s H vs Q E hr h=> ?_)
 ·obtain⟨X,h,g,c,st,wd,rd,n,gv,rc,kn,rm,k,rfl,_⟩:=h
  rfl
 obtain⟨X,h,hg,hc,st,wd,rd,n,gv,rc,kn,rm,k,rfl,cx,hkf,hkn,q⟩:=h
 refine⟨_,(au (PL (aj 2 qu) (Vr rfl (lO (jx (i:=3) mC.nd rfl yd) (lO (jx (i:=4) mC.nd rfl xr) CZ))))
  (au (cM (HS (Fi (oJ (bN hr) (aj 1 cD) (aj 3 gC)) (zE (uD (bN hr) (aj 1 cD) (aO aK (aj 0 gP) aA))))) (aD (gm (bN hr) (aj 3 gC) (aj 1 cD) (cZ (bN hr) (aO aK (aj 0 gP) aA) (aj 1 cD)))) bJ)
  (au (cM (oJ (bN hr) (aj 1 cD) (aj 3 gC)) (au (bG (i:=5) mC.nd rfl zb (gh az))
  (au (bG (i:=6) mC.nd rfl zc (aJ (qy.mono (by omega)) hr tU bQ.m bQ.F.kp bQ.b .nil aU (aG (aj 0 gP) (gj (cZ (bN hr) (aO aK (aj 0 gP) aA) (aj 1 cD)) (aG (aj 2 qu) (aG (aj 5 qw) az)))) tV))
  (au (gm (bN hr) (aj 4 xu) (aj 1 cD) (fM (gj (cZ (bN hr) (aO aK (aj 0 gP) aA) (aj 1 cD)) (aG (aj 5 qw) (aG (aj 6 qx) az)))))
  (aD (gm (bN hr) (aj 3 gC) (aj 1 cD) (aj 6 qx)))))) bJ)
  (aD (aW (cZ (bN hr) (aj 3 gC) (aj 1 cD))))))), ?_⟩
 have n17:=cx.n17
 obtain⟨kg,kc,eh,eg,ec,bd⟩:=cx.ho
 obtain⟨kw,ws,ew,k4,v4⟩:=cx.sa.ew
 have hkl:=cx.sa.kl ew
 have est:=cx.sa.e
 have dw:bT H wd (.str (ak k)) ((kn (ak k)).map V.int):=by rw[<-v4];exact bT.k (k:= .inr (ak k)) ew
 have dg:bT H hg (.str (ak k)) ((gv (ak k)).map V.int):=by rw[<-bd.g];exact bT.k (k:= .inr (ak k)) eg
 have hx:ak k∈nmK n:=dJ.mpr ⟨k,hkn,rfl⟩
 cases ek:kn (ak k) with
 | some v=>
   rw[ek] at dw
   have dw:bT H wd (.str (ak k)) (some (.int v)):=dw
   walk_at "vs"
   exact q kn rm v H (But.refl _ _) cx ⟨Kn.Le.refl _,fun y hy=> .inl hy⟩ (fun y hy=> .inl hy) ek
 | none=>
   rw[ek] at dw
   have dw:bT H wd (.str (ak k)) none:=dw
   cases egv:gv (ak k) with
   | some v=>
     rw[egv] at dg
     have dg:bT H hg (.str (ak k)) (some (.int v)):=dg
     have dp:jn H wd (.str (ak k)) (.int v) (upd H wd (.dK (putK kw (.inr (ak k)) (.int v)))):=jn.k (k:= .inr (ak k)) ew (bL (by omega))
     have dw1:bT (upd H wd (.dK (putK kw (.inr (ak k)) (.int v)))) wd (.str (ak k)) (some (.int v)):=by
      have:=bT.k (H:=upd H wd (.dK (putK kw (.inr (ak k)) (.int v)))) (a:=wd) (k:= .inr (ak k)) ao
      rw[iC,if_pos rfl] at this
      exact this
     walk_at "vs"
     exact q (kn.put (ak k) v) rm v _ (But.set _ (by simp)) (cx.Yg ew hx ek egv) ⟨Kn.nW ek,fun y hy=>by
      unfold Kn.put at hy
      by_cases z:y=ak k
      ·exact .inr (dJ.mpr ⟨k,by omega,z⟩)
      ·rw[if_neg z] at hy;exact .inl hy⟩ (fun y hy=>by
      unfold Kn.put at hy
      by_cases z:y=ak k
      ·rw[z];exact .inr .refl
      ·rw[if_neg z] at hy;exact .inl hy) (by unfold Kn.put;rw[if_pos rfl])
   | none=>
     rw[egv] at dg
     have dg:bT H hg (.str (ak k)) none:=dg
     have hrc:∃r,rc (ak k)=some r:=by
      cases z:rc (ak k) with
      | some r=>exact⟨r,rfl⟩
      | none=>
        rcases bd.ok.dom k hkn with w | w
        ·exact absurd egv w
        ·exact absurd z w
     obtain⟨r,hr'⟩:=hrc
     obtain⟨br,hbr,hRr⟩:=bd.r _ _ hr'
     obtain⟨k',hk',ek',ok'⟩:=bd.ok.rk _ _ hr'
     have:k=k':=jt (by omega) (by omega) ek'
     subst this
     have dc:bT H hc (.str (ak k)) (some (.ref br)):=by rw[<-hbr];exact bT.k (k:= .inr (ak k)) ec
     walk_at "vs"
     intro rl hrl
     have cx1:=cx.more hrl []
     have s1:=aC (.lst []) hrl
     have el1:upd H rl (.lst []) rl=some (.lst (([]:List Addr).map V.ref)):=ao
     have eh1:=s1 _ _ eh
     have ec1:=s1 _ _ ec
     have R1:=hRr.same s1
     have dc1:bT (upd H rl (.lst [])) hc (.str (ak k)) (some (.ref br)):=by rw[<-hbr];exact bT.k (k:= .inr (ak k)) ec1
     have hrst:rl≠st:=fun z=>by rw[z,est] at hrl;cases hrl
     have hrX:rl∉X:=fun z=>cx.xs rl z hrl
     have hrw:rl≠wd:=fun z=>by rw[z,ew] at hrl;cases hrl
     have hrr:rl≠rd:=fun z=>by
      obtain⟨kr,rs,er,_⟩:=cx.sa.er
      rw[z,er] at hrl;cases hrl
     have hr0:=hrl
     generalize upd H rl (.lst [])=H1 at *
     have alj:gM H1 [] []:= .nil
     have alk:Rows kn []:=⟨by simp,by simp⟩
     have hin:rl∈rl::X:=by simp
     walk_at "vs"
     intro kn1 rm1 v us as2 H2 b2 cx2 nw2 nv2 el2 Hj GR ye
     have t2:jX H1 H2:=cx1.sa.tups (S:=[wd,rd,rl]) (fun y hy=>by
      have z:y=wd\/y=rd\/y=rl:=by simpa using hy
      rcases z with z | z | z
      ·exact .inl z
      ·exact .inr (.inl z)
      ·exact .inr (.inr ⟨_,by rw[z];exact el1⟩)) b2
     have ek1:kn1 (ak k)=none:=by
      cases z:kn1 (ak k) with
      | none=>rfl
      | some u=>
        rcases nw2.2 (ak k) (by rw[z];simp) with w | w
        ·exact absurd ek w
        ·obtain⟨j,hj,ej⟩:=dJ.mp w
         have:=jt (by omega) (by omega) ej
         omega
     obtain⟨kg2,kc2,eh2,eg2,ec2,bd2⟩:=cx2.ho
     obtain⟨kw2,ws2,ew2,k42,v42⟩:=cx2.sa.ew
     obtain⟨kr2,rs2,er2,k52,v52,w52⟩:=cx2.sa.er
     have aiA:=cx2.sa.kl ew2
     have alm:=cx2.sa.rl er2
     have aiB:H2 hc=some (.dK kc):=b2 _ _ (by
      simp only[List.mem_cons,List.not_mem_nil,or_false,not_or]
      exact⟨cx.cw,cx.cr,fun z=>by rw[z,el1] at ec1;cases ec1⟩) ec1
     have dc2:bT H2 hc (.str (ak k)) (some (.ref br)):=by rw[<-hbr];exact bT.k (k:= .inr (ak k)) aiB
     walk_at "vs"
     intro pb hpb
     have s3:=aC (.tup [.ref br, .ref rl, .int v]) hpb
     have epb:upd H2 pb (.tup [.ref br, .ref rl, .int v]) pb=some (.tup [.ref br, .ref rl, .int v]):=ao
     have cx3:=(cx2.same s3).less
     have ew3:=s3 _ _ ew2
     have er3:=s3 _ _ er2
     have ra3:rY X (upd H2 pb (.tup [.ref br, .ref rl, .int v])) pb (r,us,v):=⟨br,rl,as2,epb,(R1.tups t2).same s3,s3 _ _ el2,Hj.same s3,hrX⟩
     have b3:But [wd,rd,rl] H1 (upd H2 pb (.tup [.ref br, .ref rl, .int v])):=b2.trans (But.of_same s3)
     generalize upd H2 pb (.tup [.ref br, .ref rl, .int v])=H3 at *
     have dp1:jn H3 rd (.str (ak k)) (.ref pb) (upd H3 rd (.dK (putK kr2 (.inr (ak k)) (.ref pb)))):=jn.k (k:= .inr (ak k)) er3 (bL (by omega))
     have ew4:upd H3 rd (.dK (putK kr2 (.inr (ak k)) (.ref pb))) wd=some (.dK kw2):=(aq cx3.sa.ne).trans ew3
     have dp2:jn (upd H3 rd (.dK (putK kr2 (.inr (ak k)) (.ref pb)))) wd (.str (ak k)) (.int v) (upd (upd H3 rd (.dK (putK kr2 (.inr (ak k)) (.ref pb)))) wd (.dK (putK kw2 (.inr (ak k)) (.int v)))):=jn.k (k:= .inr (ak k)) ew4 (bL (by omega))
     have dw5:bT (upd (upd H3 rd (.dK (putK kr2 (.inr (ak k)) (.ref pb)))) wd (.dK (putK kw2 (.inr (ak k)) (.int v)))) wd (.str (ak k)) (some (.int v)):=by
      have:=bT.k (H:=upd (upd H3 rd (.dK (putK kr2 (.inr (ak k)) (.ref pb)))) wd (.dK (putK kw2 (.inr (ak k)) (.int v)))) (a:=wd) (k:= .inr (ak k)) ao
      rw[iC,if_pos rfl] at this
      exact this
     walk_at "vs"
     have cx5:=cx3.uC ew3 er3 hx ek1 egv hr' ye GR ra3
     refine q (kn1.put (ak k) v) (rm1.put (ak k) (r,us,v)) v _ ?_ cx5 ⟨nw2.1.trans (Kn.nW ek1),fun y hy=> ?_⟩ (fun y hy=> ?_) (by unfold Kn.put;rw[if_pos rfl])
     ·intro y o hy e
      have hyw:y≠wd:=fun z=>hy (by simp[z])
      have hyr:y≠rd:=fun z=>hy (by simp[z])
      have hyl:y≠rl:=fun z=>by rw[z,hr0] at e;cases e
      refine(aq hyw).trans ((aq hyr).trans (b3 _ _ (by simp only[List.mem_cons,List.not_mem_nil,or_false,not_or];exact⟨hyw,hyr,hyl⟩) (s1 _ _ e)))
     ·unfold Kn.put at hy
      by_cases z:y=ak k
      ·exact .inr (dJ.mpr ⟨k,by omega,z⟩)
      ·rw[if_neg z] at hy
       rcases nw2.2 y hy with w | w
       ·exact .inl w
       ·obtain⟨j,hj,ej⟩:=dJ.mp w
        exact .inr (dJ.mpr ⟨j,by omega,ej⟩)
     ·unfold Kn.put at hy
      by_cases z:y=ak k
      ·rw[z];exact .inr .refl
      ·rw[if_neg z] at hy
       rcases nv2 y hy with w | ⟨p,hp,rr⟩
       ·exact .inl w
       ·have hp:p∈us:=hp
        have Bb:Rows kn1 us:=GR
        exact .inr (Rch.trans (.step .refl egv hr' (Wf ye.c (Bb.le (Kn.nW ek1)) hp)) (rr.le (Kn.nW ek1)))
end
section
variable {P:Program}{w:World}{K:PySem.W.Frag}{mg:Str->Option Value}{base:Heap}
theorem zf {f g1 g2:Addr}{fd gd1 gd2:FuncData} (cF:FnT K mg "_law_settled" bA ["house","name","state"] f fd) (bQ:FnT K mg "_law_value" bK ["house","r","state","reads"] g1 gd1) (dW:FnT K mg "_law_look" eG ["house","name","state","reads"] g2 gd2) (T:Blt mg):
 ∀k0,aX P w K mg base CX0 (8 * k0+1) f fd ["house","name","state"] (LQ k0)
 | 0=>never fun vs H Q E h=>by
   obtain⟨X,h,g,c,st,wd,rd,n,gv,rc,kn,rm,k,_,_,hk,_⟩:=h
   omega
 | k0+1=>Ga cF bQ (Ec bQ dW (Ou dW cF (zf cF bQ dW T k0) T) T 4) T
abbrev dX:Stmt:=top 32
theorem xx:bI ["house","wishes","state","name"] ["house","wishes"] (aa dX):=⟨rfl,rfl,rfl,by decide +kernel,rfl,by decide +kernel,by decide +kernel⟩
theorem Ck:Loc (aa dX) "state":=by decide +kernel
theorem Ag:aF (aa dX) "wishes":=by decide +kernel
theorem Ed:Loc (aa dX) "name":=by decide +kernel
theorem tW:(aa dX).names.lookup ("_law_settled":Str)=some NameKind.globalImplicit:=by decide +kernel
theorem sX:aF (aa dX) "state":=by decide +kernel
theorem Ef:aF (aa dX) "name":=by decide +kernel
theorem Cm:aF (aa dX) "house":=by decide +kernel
theorem tX:(("_law_settled":Str)==("__debug__":Str))=false:=by decide +kernel
theorem Mi {f g1:Addr}{fd gd1:FuncData} (dD:FnT K mg "_law_fresh" dX ["house","wishes"] f fd) (cF:FnT K mg "_law_settled" bA ["house","name","state"] g1 gd1) (uU:aX P w K mg base CX0 137 g1 gd1 ["house","name","state"] (LQ 17)) (T:Blt mg):
 aX P w K mg base CX0 138 f fd ["house","wishes"] Wh:=by
 refine dD.F.okQ xx (fun vs H Q E h=> ?_) (fun cdv A outer s H vs Q E hr h=> ?_)
 ·obtain⟨h,g,c,wl,n,gv,rc,ws,rfl,_⟩:=h
  rfl
 obtain⟨h,hg,hc,wl,n,gv,rc,ws,rfl,ho,n17,ewl,hws,q⟩:=h
 refine⟨_,(au (bG (i:=2) xx.nd rfl Ck (gh (aeO lu (aeO lu az))))
  (au (wF PassesOwn.never rfl (Ld (aj 1 Ag)) (jx (i:=3) xx.nd rfl Ed) (aD (fP (aJ (uU.mono (by omega)) hr tW cF.m cF.F.kp cF.b .nil aU (aG (aj 0 Cm) (aG (aj 3 Ef) (aG (aj 2 sX) az))) tX))))
  (aD (aW (aj 2 sX))))), ?_⟩
 obtain⟨kg,kc,eh,eg,ec,bd⟩:=id ho
 walk_at "vs"
 intro wd hwd
 have s1:=aC (.dK []) hwd
 have e1:upd H wd (.dK []) wd=some (.dK []):=ao
 generalize upd H wd (.dK [])=H1 at *
 walk_at "vs"
 intro rd hrd
 have s2:=aC (.dK []) hrd
 have e12:=s2 _ _ e1
 have e2:upd H1 rd (.dK []) rd=some (.dK []):=ao
 have Yw:=same_none s1 hrd
 have nwr:wd≠rd:=fun z=>by rw[<-z,e1] at hrd;cases hrd
 have S2:=s1.trans s2
 generalize upd H1 rd (.dK [])=H2 at *
 walk_at "vs"
 intro st hst
 have s3:=aC (.lst [.ref wd, .ref rd]) hst
 have e13:=s3 _ _ e12
 have e23:=s3 _ _ e2
 have e3:upd H2 st (.lst [.ref wd, .ref rd]) st=some (.lst [.ref wd, .ref rd]):=ao
 have afb:=same_none S2 hst
 have S3:=S2.trans s3
 generalize upd H2 st (.lst [.ref wd, .ref rd])=H3 at *
 have ne0:∀{y o},H y=some o->y≠wd/\y≠rd/\y≠st:=fun e=>⟨fun z=>(by rw[z,hwd] at e;cases e),fun z=>(by rw[z,Yw] at e;cases e),fun z=>(by rw[z,afb] at e;cases e)⟩
 have aci:=S3 _ _ ewl
 have cx3:Ctx [] H3 h hg hc st wd rd n gv rc kn0 (fun _=>none):=⟨⟨kg,kc,S3 _ _ eh,S3 _ _ eg,S3 _ _ ec,bd.tups (aQ.tups S3)⟩,⟨e3,⟨[],[],e13,⟨rfl,by simp⟩,fun _=>rfl⟩,⟨[],[],e23,⟨rfl,by simp⟩,fun x q z=>(by cases z),fun _ _=>rfl⟩,nwr,⟨fun x v z=>(by cases z),fun x r ps v z=>(by cases z)⟩⟩,n17,(ne0 eg).1,(ne0 eg).2.1,(ne0 ec).1,(ne0 ec).2.1,by simp,by simp⟩
 walk_at "vs"
 refine MN (K:=K) (xs:=ws.map V.str) (fun i σ H'=>(∃t,σ=[some (.ref h),some (.ref wl),some (.ref st),t])/\aQ H H'/\∃kn rm,Ctx [] H' h hg hc st wd rd n gv rc kn rm/\(∀x∈ws.take i,kn x≠none)/\∀y,kn y≠none->∃x∈ws,Rch gv rc kn x y) ?_ ?_ ?_ ?_
 ·exact⟨⟨none,rfl⟩,S3,kn0,_,cx3,by simp,fun y hy=>absurd rfl hy⟩
 ·intro i σ H' _ hP
  exact SqL.of (hP.2.1 _ _ ewl)
 ·intro i xv σ H4 hxv hP
  obtain⟨⟨t,rfl⟩,S4,kn,rm,cx,hk,hrc⟩:=hP
  have hi:i<(ws.map V.str).length:=(List.getElem?_eq_some_iff.mp hxv).1
  rw[List.length_map] at hi
  have hxe:ws[i]? =some (ws[i]):=List.getElem?_eq_getElem hi
  obtain⟨k,hkn,ek⟩:=dJ.mp (hws _ (List.getElem_mem hi))
  have hxv':xv= .str (ak k):=by
   rw[List.getElem?_map,hxe] at hxv
   rw[<-ek];exact(Option.some.inj hxv).symm
  subst hxv'
  walk_at "vs"
  intro kn1 rm1 v H5 b5 cx5 nw5 nv5 hv
  refine⟨⟨_,rfl⟩,fun y o e=>b5 _ _ (by simp only[List.mem_cons,List.not_mem_nil,or_false,not_or];exact⟨(ne0 e).1,(ne0 e).2.1⟩) (S4 _ _ e),kn1,rm1,cx5,fun x hx=> ?_,fun y hy=> ?_⟩
  ·rw[List.take_add_one,hxe] at hx
   rcases List.mem_append.mp hx with z | z
   ·have:=hk x z
    cases e:kn x with
    | none=>exact absurd e this
    | some u=>rw[nw5.1 _ _ e];simp
   ·have:x=ws[i]:=by simpa using z
    rw[this,ek,hv];simp
  ·rcases nv5 y hy with z | z
   ·obtain⟨x,hx,rr⟩:=hrc y z
    exact⟨x,hx,rr.le nw5.1⟩
   ·exact⟨ws[i],List.getElem_mem hi,by rw[ek];exact z⟩
 ·intro σ H4 hP
  obtain⟨⟨t,rfl⟩,S4,kn,rm,cx,hk,hrc⟩:=hP
  rw[List.length_map,List.take_length] at hk
  walk_at "vs"
  exact q st wd rd kn rm H4 S4 afb hwd Yw cx.sa hk hrc
end
section
variable {P:Program}{w:World}{K:PySem.W.Frag}{mg:Str->Option Value}{base:Heap}
abbrev dm:Stmt:=top 33
theorem Bc:bI ["house","pool","names"] ["house","pool"] (aa dm):=⟨rfl,rfl,rfl,by decide +kernel,rfl,by decide +kernel,by decide +kernel⟩
theorem Ah:Loc (aa dm) "names":=by decide +kernel
theorem zg:(aa dm).names.lookup ("sorted":Str)=some NameKind.globalImplicit:=by decide +kernel
theorem sY:(aa dm).names.lookup ("list":Str)=some NameKind.globalImplicit:=by decide +kernel
theorem qN:aF (aa dm) "house":=by decide +kernel
theorem sZ:("list":Str)≠"__name__":=by decide +kernel
theorem tD:(("list":Str)==("__debug__":Str))=false:=by decide +kernel
theorem zj:("sorted":Str)≠"__name__":=by decide +kernel
theorem zm:(("sorted":Str)==("__debug__":Str))=false:=by decide +kernel
theorem Ai:(aa dm).names.lookup ("range":Str)=some NameKind.globalImplicit:=by decide +kernel
theorem v9:(aa dm).names.lookup ("_law_take":Str)=some NameKind.globalImplicit:=by decide +kernel
theorem Cp:aF (aa dm) "pool":=by decide +kernel
theorem oK:(("_law_take":Str)==("__debug__":Str))=false:=by decide +kernel
theorem Eg:("len":Str)≠"__name__":=by decide +kernel
theorem Eh:(("len":Str)==("__debug__":Str))=false:=by decide +kernel
theorem ad3:("sorted":Str)≠"__name__":=by decide +kernel
theorem J2 {f g1:Addr}{fd gd1:FuncData} (dN:FnT K mg "_law_wishes" dm ["house","pool"] f fd) (aB:FnT K mg "_law_take" dH ["pool","many"] g1 gd1) (aY:aX P w K mg base CX0 1 g1 gd1 ["pool","many"] wG) (T:Blt mg):
 aX P w K mg base CX0 2 f fd ["house","pool"] aaa:=by
 refine dN.F.okQ Bc (fun vs H Q E h=> ?_) (fun cdv A outer s H vs Q E hr h=> ?_)
 ·obtain⟨h,g,c,p,n,cc,gv,rc,rfl,_⟩:=h
  rfl
 obtain⟨h,hg,hc,p,n,cc,gv,rc,rfl,ho,n1,n17,pl,hcc,npg,npc,q⟩:=h
 refine⟨_,(au (bG (i:=2) Bc.nd rfl Ah (cX Ql zg T.Vn Tp (Df (cI XH (iR (Nt rfl) sY T.Ig CV (gj (aO aK (aj 0 qN) aA) az) sZ tD) (iR (Nt rfl) sY T.Ig CV (gj (aO aK (aj 0 qN) aA) az) sZ tD)) az) zj zm))
  (aD (aW (tY rfl (n:=1) (fr:=[2,1]) (N:=["k","names","pool"]) (GC (scX:=aa dm) (NX:=["house","pool","names"]) rfl rfl (by decide +kernel)) (vd Ai T.De (Df (cI jK aA (aJ (aY.mono (by omega)) hr v9 aB.m aB.F.kp aB.b .nil aU (aG (aj 1 Cp) (fj aA az)) oK)) az)) (fun _ _ _ _ _=>(qgx (i:=0) (show List.Nodup (α:=Str) ["k","names","pool"] by decide) (K7 (by decide +kernel)))) (fun _ _ _ _ _=>PJ) (fun _ _ _ _ _=>(aO (Fo (K:=K) rfl) (aj 1 (pL.ok (by decide +kernel))) (aJ (aY.mono (by omega)) hr (glC (by decide +kernel)) aB.m aB.F.kp aB.b .nil aU (aG (aj 2 (pL.ok (by decide +kernel))) (qD (cX (GD (K:=K) rfl) (glC (by decide +kernel)) T.vf pN (aG (aj 1 (pL.ok (by decide +kernel))) az) Eg Eh) az)) oK))))))), ?_⟩
 obtain⟨kg,kc,eh,eg,ec,bd⟩:=id ho
 obtain⟨gs,cs,kgk,kck,hlen⟩:=bd.k
 walk_at "vs"
 intro l1 hl1
 rw[Kw kgk.k]
 have s1:=aC (.lst (gs.map V.str)) hl1
 have e1:upd H l1 (.lst (gs.map V.str)) l1=some (.lst (gs.map V.str)):=ao
 have eh1:=s1 _ _ eh
 have ec1:=s1 _ _ ec
 have pl1:=pl.same s1
 have hn1:l1≠p:=pl.ne hl1
 generalize upd H l1 (.lst (gs.map V.str))=H1 at *
 walk_at "vs"
 intro l2 hl2
 rw[Kw kck.k]
 have s2:=aC (.lst (cs.map V.str)) hl2
 have e12:=s2 _ _ e1
 have e2:upd H1 l2 (.lst (cs.map V.str)) l2=some (.lst (cs.map V.str)):=ao
 have S2:=s1.trans s2
 have pl2:=pl1.same s2
 generalize upd H1 l2 (.lst (cs.map V.str))=H2 at *
 have hz:(gs.map V.str).length+(cs.map V.str).length<=sizeLine:=by rw[List.length_map,List.length_map];exact Nat.le_of_lt (bL (by omega))
 walk_at "vs"
 intro l3 hl3
 rw[<-List.map_append]
 have s3:=aC (.lst ((gs++cs).map V.str)) hl3
 have e3:upd H2 l3 (.lst ((gs++cs).map V.str)) l3=some (.lst ((gs++cs).map V.str)):=ao
 have S3:=S2.trans s3
 have pl3:=pl2.same s3
 generalize upd H2 l3 (.lst ((gs++cs).map V.str))=H3 at *
 refine⟨l3,gs++cs,rfl,SqL.of e3,by rw[List.length_append];omega,fun l4 us hl4 hperm=> ?_⟩
 have s4:=aC (.lst (us.map V.str)) hl4
 have e4:upd H3 l4 (.lst (us.map V.str)) l4=some (.lst (us.map V.str)):=ao
 have S4:=S3.trans s4
 have pl4:=pl3.same s4
 have n4p:l4∉[p]:=fun z=>pl3.ne hl4 (by simpa using z)
 generalize upd H3 l4 (.lst (us.map V.str))=H4 at *
 have hul:us.length=n:=by rw[hperm.length_eq,List.length_append];exact hlen
 have hus:∀x∈us,x∈nmK n:=fun x hx=>by
  rcases List.mem_append.mp (hperm.mem_iff.mp hx) with z | z
  ·refine bd.ok.gk x fun e=> ?_
   exact kgk.none.mp (by rw[bd.g,e];rfl) z
  ·cases e:rc x with
   | none=>exact absurd z (kck.none.mp (bd.rn x e))
   | some r=>
     obtain⟨k,hk,ek,_⟩:=bd.ok.rk x r e
     exact dJ.mpr ⟨k,hk,ek⟩
 walk_at "vs"
 intro n5 H5 n50 n51 b5 pl5
 have B5:But [p] H H5:=(But.of_same S4).trans b5
 have hlm:(us.map V.str).length=us.length:=List.length_map _
 have hl0:0<((us.map V.str).length:Int):=by rw[hlm];omega
 have hlog:((us.map V.str).length:Int).natAbs.log2<9000:=by
  rw[hlm]
  exact Nat.lt_of_le_of_lt (Nat.log2_le_self _) (by omega)
 have e5:=b5 _ _ n4p e4
 walk_at "vs"
 intro D hD
 have nD:D∉[p]:=fun z=>pl5.ne hD (by simpa using z)
 have nDp:D≠p:=by simpa using nD
 have nD4:l4≠D:=fun z=>by rw[z,hD] at e5;cases e5
 have hD0:=iU B5 hD nD
 refine HJ (fun i σ' H'=>(∃t,σ'=t::[some (.ref l4),some (.ref p)])/\∃ts:List Str,H' D=some (.lst (ts.map V.str))/\ts.length=i/\(∀x∈ts,x∈nmK n)/\But [p] H H'/\dZ H' p (cc+1+i)/\H' l4=some (.lst (us.map V.str))) ?_ ?_ ?_
 ·exact⟨⟨none,rfl⟩,[],ao,rfl,by simp,B5.upd _ hD0,pl5.same (aC _ hD),(aC _ hD) _ _ e5⟩
 ·intro i σ' H' hi hP
  obtain⟨⟨t,rfl⟩,ts,e,et,hts,hb,hpl,el4⟩:=hP
  have hi9:(i:Int)<10:=by omega
  walk_at "vs"
  intro n6 H6 n60 n61 b6 pl6
  have hb6:=hb.trans b6
  have e6:=b6 _ _ nD e
  have el6:=b6 _ _ n4p el4
  obtain⟨x,hx,hxm⟩:∃x,atI (us.map V.str) n6=some (.str x)/\x∈us:=by
   obtain⟨j,rfl⟩:=Int.eq_ofNat_of_zero_le n60
   have hj:j<us.length:=by rw[hlm] at n61;omega
   exact⟨us[j],lE (by rw[List.getElem?_map,List.getElem?_eq_getElem hj];rfl),List.getElem_mem hj⟩
  have hz:(ts.map V.str).length<sizeLine:=by rw[List.length_map];exact bL (by omega)
  walk_at "vs"
  refine⟨⟨_,rfl⟩,ts++[x], ?_,by rw[List.length_append,et];rfl, ?_,hb6.upd _ hD0,pl6.keep (But.set _ (by simp)) (S:=[D]) (by simpa using Ne.symm nDp),(aq nD4).trans el6⟩
  ·rw[List.map_append];exact ao
  ·intro y hy
   rcases List.mem_append.mp hy with z | z
   ·exact hts y z
   ·have:y=x:=by simpa using z
    rw[this];exact hus x hxm
 ·intro σ' H' hP
  obtain⟨_,ts,e,et,hts,hb,hpl,el4⟩:=hP
  walk_at "vs"
  exact q D ts H' hb hD0 e hts
end
section
variable {P:Program}{w:World}{K:PySem.W.Frag}{mg:Str->Option Value}{base:Heap}
abbrev bh:Stmt:=top 34
theorem jA:bI ["script","pool","many","house","old","older","records","others","name"] ["script"] (aa bh):=⟨rfl,rfl,rfl,by decide +kernel,rfl,by decide +kernel,by decide +kernel⟩
theorem Gb:Loc (aa bh) "pool":=by decide +kernel
theorem jj:(aa bh).names.lookup ("_law_pool":Str)=some NameKind.globalImplicit:=by decide +kernel
theorem fH:aF (aa bh) "script":=by decide +kernel
theorem jk:(("_law_pool":Str)==("__debug__":Str))=false:=by decide +kernel
theorem Gd:Loc (aa bh) "many":=by decide +kernel
theorem jl:(aa bh).names.lookup ("_law_take":Str)=some NameKind.globalImplicit:=by decide +kernel
theorem mQ:aF (aa bh) "pool":=by decide +kernel
theorem jm:(("_law_take":Str)==("__debug__":Str))=false:=by decide +kernel
theorem Ei:Loc (aa bh) "house":=by decide +kernel
theorem xF:(aa bh).names.lookup ("_law_house":Str)=some NameKind.globalImplicit:=by decide +kernel
theorem Ge:aF (aa bh) "many":=by decide +kernel
theorem xG:(("_law_house":Str)==("__debug__":Str))=false:=by decide +kernel
theorem Hl:Loc (aa bh) "old":=by decide +kernel
theorem pq:(aa bh).names.lookup ("_law_other":Str)=some NameKind.globalImplicit:=by decide +kernel
theorem lN:aF (aa bh) "house":=by decide +kernel
theorem pB:(("_law_other":Str)==("__debug__":Str))=false:=by decide +kernel
theorem Ej:Loc (aa bh) "older":=by decide +kernel
theorem Aj:Loc (aa bh) "records":=by decide +kernel
theorem Gf:(aa bh).names.lookup ("dict":Str)=some NameKind.globalImplicit:=by decide +kernel
theorem pC:(aa bh).names.lookup ("_law_fresh":Str)=some NameKind.globalImplicit:=by decide +kernel
theorem jV:(aa bh).names.lookup ("_law_wishes":Str)=some NameKind.globalImplicit:=by decide +kernel
theorem xQ:aF (aa bh) "old":=by decide +kernel
theorem jW:(("_law_wishes":Str)==("__debug__":Str))=false:=by decide +kernel
theorem pD:(("_law_fresh":Str)==("__debug__":Str))=false:=by decide +kernel
theorem Gg:("dict":Str)≠"__name__":=by decide +kernel
theorem Gh:(("dict":Str)==("__debug__":Str))=false:=by decide +kernel
theorem Cq:Loc (aa bh) "others":=by decide +kernel
theorem um:aF (aa bh) "older":=by decide +kernel
theorem tE:aF (aa bh) "others":=by decide +kernel
theorem Gi:Loc (aa bh) "name":=by decide +kernel
theorem qO:aF (aa bh) "records":=by decide +kernel
theorem wg:aF (aa bh) "name":=by decide +kernel
theorem Ov {f g0 g1 g2 g3 g4 g5:Addr}{fd gd0 gd1 gd2 gd3 gd4 gd5:FuncData} (mD:FnT K mg "_law_case" bh ["script"] f fd) (aB:FnT K mg "_law_take" dH ["pool","many"] g0 gd0) (aY:aX P w K mg base CX0 1 g0 gd0 ["pool","many"] wG)
 (bM:FnT K mg "_law_pool" iB ["script","k"] g1 gd1) (mq:aX P w K mg base CX0 2 g1 gd1 ["script","k"] (Li K)) (j6:FnT K mg "_law_house" bF ["script","start","many"] g2 gd2) (Ow:aX P w K mg base CX0 7 g2 gd2 ["script","start","many"] (Z7 K))
 (gO:FnT K mg "_law_other" aM ["house","script","start","most"] g3 gd3) (GX:aX P w K mg base CX0 7 g3 gd3 ["house","script","start","most"] (Z9 K)) (dD:FnT K mg "_law_fresh" dX ["house","wishes"] g4 gd4) (uo:aX P w K mg base CX0 138 g4 gd4 ["house","wishes"] Wh)
 (dN:FnT K mg "_law_wishes" dm ["house","pool"] g5 gd5) (xH:aX P w K mg base CX0 2 g5 gd5 ["house","pool"] aaa) (T:Blt mg):aX P w K mg base CX0 139 f fd ["script"] (aab K):=by
 refine mD.F.okQ jA (fun vs H Q E h=> ?_) (fun cdv A outer s H vs Q E hr h=> ?_)
 ·obtain⟨a,zs,rfl,_⟩:=h
  rfl
 obtain⟨a,zs,rfl,hS,q⟩:=h
 refine⟨_,(au (bG (i:=1) jA.nd rfl Gb (aJ (mq.mono (by omega)) hr jj bM.m bM.F.kp bM.b .nil aU (aG (aj 0 fH) (fj aA az)) jk))
  (au (bG (i:=2) jA.nd rfl Gd (cI jK aA (aJ (aY.mono (by omega)) hr jl aB.m aB.F.kp aB.b .nil aU (aG (aj 1 mQ) (fj aA az)) jm)))
  (au (bG (i:=3) jA.nd rfl Ei (aJ (Ow.mono (by omega)) hr xF j6.m j6.F.kp j6.b .nil aU (aG (aj 0 fH) (fj aA (aG (aj 2 Ge) az))) xG))
  (au (bG (i:=4) jA.nd rfl Hl (aJ (GX.mono (by omega)) hr pq gO.m gO.F.kp gO.b .nil aU (aG (aj 3 lN) (aG (aj 0 fH) (fj aA (gj (aO cO (gh (fj aA (fj aA (fj aA (fj aA az))))) (aJ (aY.mono (by omega)) hr jl aB.m aB.F.kp aB.b .nil aU (aG (aj 1 mQ) (fj aA az)) jm)) az)))) pB))
  (au (bG (i:=5) jA.nd rfl Ej (aJ (GX.mono (by omega)) hr pq gO.m gO.F.kp gO.b .nil aU (aG (aj 3 lN) (aG (aj 0 fH) (fj aA (gj (aO cO (gh (fj aA (fj aA az))) (aJ (aY.mono (by omega)) hr jl aB.m aB.F.kp aB.b .nil aU (aG (aj 1 mQ) (fj aA az)) jm)) az)))) pB))
  (au (bG (i:=6) jA.nd rfl Aj (iR vo Gf T.Bg wC (gj (aO cO (aJ (uo.mono (by omega)) hr pC dD.m dD.F.kp dD.b .nil aU (aG (aj 4 xQ) (qD (aJ (xH.mono (by omega)) hr jV dN.m dN.F.kp dN.b .nil aU (aG (aj 4 xQ) (qD (aJ (mq.mono (by omega)) hr jj bM.m bM.F.kp bM.b .nil aU (aG (aj 0 fH) (fj aA az)) jk) az)) jW) az)) pD) aA) az) Gg Gh))
  (au (bG (i:=7) jA.nd rfl Cq (aO cO (aJ (uo.mono (by omega)) hr pC dD.m dD.F.kp dD.b .nil aU (aG (aj 5 um) (qD (aJ (xH.mono (by omega)) hr jV dN.m dN.F.kp dN.b .nil aU (aG (aj 5 um) (qD (aJ (mq.mono (by omega)) hr jj bM.m bM.F.kp bM.b .nil aU (aG (aj 0 fH) (fj aA az)) jk) az)) jW) az)) pD) aA))
  (au (wF PassesOwn.never rfl (Dh (aj 7 tE)) (jx (i:=8) jA.nd rfl Gi) (aD (cM (cC dY (aJ (aY.mono (by omega)) hr jl aB.m aB.F.kp aB.b .nil aU (aG (aj 1 mQ) (fj aA az)) jm) aA (aV _)) (aD (gm (bN hr) (aj 6 qO) (aj 8 wg) (cZ (bN hr) (aj 7 tE) (aj 8 wg)))) bJ)))
  (aD (aW (gh (aG (aj 3 lN) (aG (aj 6 qO) (qD (aJ (xH.mono (by omega)) hr jV dN.m dN.F.kp dN.b .nil aU (aG (aj 3 lN) (qD (aJ (mq.mono (by omega)) hr jj bM.m bM.F.kp bM.b .nil aU (aG (aj 0 fH) (fj aA az)) jk) az)) jW) az)))))))))))))), ?_⟩
 walk_at "vs"
 intro p H1 s1 hp0 pl1
 have fr:∀y∈[p],H y=none:=fun y hy=>by
  have:y=p:=by simpa using hy
  rw[this];exact hp0
 walk_at "vs"
 intro n2 H2 n20 n21 b2 pl2
 have S2:=eX s1 fr b2
 have hS2:=SqL.same S2 hS
 obtain⟨m,rfl⟩:=Int.eq_ofNat_of_zero_le n20
 have em:(2+(m:Int))=((2+m:Nat):Int):=by omega
 iterate 2 walk_at "v"
 dsimp only
 rw[em]
 have hm:m<15:=by omega
 generalize hn:2+m=n at *
 have n17:n<=17:=by omega
 have n1:1<=n:=by omega
 walk_at "vs"
 intro h hg hc gv rc H3 s3 hh3 hg3 hc3 ho3
 have pl3:=pl2.same s3
 have S3:=S2.trans s3
 have npg:p≠hg:=fun z=>by
  obtain⟨_,_,_,e,_⟩:=pl2
  rw[z,hg3] at e;cases e
 have npc:p≠hc:=fun z=>by
  obtain⟨_,_,_,e,_⟩:=pl2
  rw[z,hc3] at e;cases e
 have R7:∀{h hg hc:Addr}{gv rc}{H4 H5:Hp}{cc},dZ H4 p cc->But [p] H4 H5->p≠hg->p≠hc->jD H4 h hg hc n gv rc->jD H5 h hg hc n gv rc:=fun pl b h1 h2 ho=>ho.but b (pl.tups b) (by simpa using Ne.symm h1) (by simpa using Ne.symm h2)
 walk_at "vs"
 intro pz hpz
 have s4:=aC (.lst [V.int 3,V.int 6,V.int 20,V.int 60]) hpz
 have e4:upd H3 pz (.lst [V.int 3,V.int 6,V.int 20,V.int 60]) pz=some (.lst [V.int 3,V.int 6,V.int 20,V.int 60]):=ao
 have pl4:=pl3.same s4
 have S4:=S3.trans s4
 have ho4:=ho3.same s4
 have npz:pz∉[p]:=fun z=>pl3.ne hpz (by simpa using z)
 generalize upd H3 pz (.lst [V.int 3,V.int 6,V.int 20,V.int 60])=H4 at *
 walk_at "vs"
 intro n5 H5 n50 n51 b5 pl5
 have S5:=eX S4 fr b5
 have e5:=b5 _ _ npz e4
 have ho5:=R7 pl4 b5 npg npc ho4
 have hS5:=SqL.same S5 hS
 obtain⟨mo,hmo,acj,ack⟩:∃mo:Int,atI [V.int 3,V.int 6,V.int 20,V.int 60] n5=some (.int mo)/\0<mo/\mo<=100:=by
  have:n5=0\/n5=1\/n5=2\/n5=3:=by omega
  rcases this with rfl | rfl | rfl | rfl
  ·exact⟨3,rfl,by omega,by omega⟩
  ·exact⟨6,rfl,by omega,by omega⟩
  ·exact⟨20,rfl,by omega,by omega⟩
  ·exact⟨60,rfl,by omega,by omega⟩
 walk_at "vs"
 intro oh og oc ogv orc H6 s6 ohn ogn ocn oho
 have pl6:=pl5.same s6
 have S6:=S5.trans s6
 have ho6:=ho5.same s6
 have npog:p≠og:=fun z=>by
  obtain⟨_,_,_,e,_⟩:=pl5
  rw[z,ogn] at e;cases e
 have npoc:p≠oc:=fun z=>by
  obtain⟨_,_,_,e,_⟩:=pl5
  rw[z,ocn] at e;cases e
 clear e5 e4 hmo acj ack npz
 walk_at "vs"
 intro pz hpz
 have s7:=aC (.lst [V.int 4,V.int 12]) hpz
 have e7:upd H6 pz (.lst [V.int 4,V.int 12]) pz=some (.lst [V.int 4,V.int 12]):=ao
 have pl7:=pl6.same s7
 have S7:=S6.trans s7
 have ho7:=ho6.same s7
 have aiC:=oho.same s7
 have npz:pz∉[p]:=fun z=>pl6.ne hpz (by simpa using z)
 generalize upd H6 pz (.lst [V.int 4,V.int 12])=H7 at *
 walk_at "vs"
 intro n8 H8 n80 n81 b8 pl8
 have S8:=eX S7 fr b8
 have e8:=b8 _ _ npz e7
 have ho8:=R7 pl7 b8 npg npc ho7
 have aiD:=R7 pl7 b8 npog npoc aiC
 have hS8:=SqL.same S8 hS
 obtain⟨mo,hmo,acj,ack⟩:∃mo:Int,atI [V.int 4,V.int 12] n8=some (.int mo)/\0<mo/\mo<=100:=by
  have:n8=0\/n8=1:=by omega
  rcases this with rfl | rfl
  ·exact⟨4,rfl,by omega,by omega⟩
  ·exact⟨12,rfl,by omega,by omega⟩
 walk_at "vs"
 intro vh vg vc vgv vrc H9 s9 vhn vgn vcn vho
 have pl9:=pl8.same s9
 have S9:=S8.trans s9
 have ho9:=ho8.same s9
 have acn:=aiD.same s9
 have npvg:p≠vg:=fun z=>by
  obtain⟨_,_,_,e,_⟩:=pl8
  rw[z,vgn] at e;cases e
 have npvc:p≠vc:=fun z=>by
  obtain⟨_,_,_,e,_⟩:=pl8
  rw[z,vcn] at e;cases e
 have hS9:=SqL.same S9 hS
 clear e8 e7 hmo acj ack npz
 walk_at "vs"
 intro p2 H10 s10 hp2 Yv
 have fr2:∀y∈[p2],H9 y=none:=fun y hy=>by
  have:y=p2:=by simpa using hy
  rw[this];exact hp2
 obtain⟨okg,okc,oeh,oeg,oec,obd⟩:=id acn
 have aln:p2≠og:=fun z=>by rw[z,oeg] at hp2;cases hp2
 have alo:p2≠oc:=fun z=>by rw[z,oec] at hp2;cases hp2
 have afc:=acn.same s10
 walk_at "vs"
 intro wl ws H11 b11 hwl ewl hws
 have s11:=eX s10 fr2 b11
 have afd:=acn.same s11
 walk_at "vs"
 intro st wd rd kn rm H12 s12 hst hwd hrd sa hk _
 have S12:=s11.trans s12
 have est:=sa.e
 obtain⟨kr,erd,rD⟩:=sa.aeZ obd.ok
 have rrd:Rd H12 rd (.dK kr):= .inl erd
 have hat:atI [V.ref wd,V.ref rd] 1=some (.ref rd):=rfl
 walk_at "vs"
 intro rcd hrcd
 have s13:=aC (.dK kr) hrcd
 have ercd:upd H12 rcd (.dK kr) rcd=some (.dK kr):=ao
 have aiE:=rD.map (H':=upd H12 rcd (.dK kr)) fun b q z=>z.same s13
 have S13:aQ H9 (upd H12 rcd (.dK kr)):=S12.trans s13
 have Ox:=same_none S12 hrcd
 generalize upd H12 rcd (.dK kr)=H13 at *
 have T13:=S9.trans S13
 have afe:=pl9.same S13
 have afg:=ho9.same S13
 have Wv:=vho.same S13
 have alp:=SqL.same T13 hS
 clear rrd hat est sa hk erd rD s13 s12 b11 s10 Yv ewl hws afc afd
 walk_at "vs"
 intro p3 H14 s14 hp3 alq
 have fr3:∀y∈[p3],H13 y=none:=fun y hy=>by
  have:y=p3:=by simpa using hy
  rw[this];exact hp3
 obtain⟨vkg,vkc,veh,veg,vec,vbd⟩:=id Wv
 have alr:p3≠vg:=fun z=>by rw[z,veg] at hp3;cases hp3
 have als:p3≠vc:=fun z=>by rw[z,vec] at hp3;cases hp3
 have ak3:=Wv.same s14
 walk_at "vs"
 intro wl2 ws2 H15 b15 alu T9 alv
 have s15:=eX s14 fr3 b15
 have ak4:=Wv.same s15
 walk_at "vs"
 intro st2 wd2 rd2 kn2 rm2 H16 s16 hst2 alw Yx sa2 hk2 _
 have S16:=s15.trans s16
 have alx:=sa2.e
 obtain⟨kr2,aco,rD2⟩:=sa2.aeZ vbd.ok
 have ae5:atI [V.ref wd2,V.ref rd2] 1=some (.ref rd2):=rfl
 have acp:=S16 _ _ ercd
 have aiF:=aiE.map fun b q z=>z.same S16
 have T16:=T13.trans S16
 have aiG:=afe.same S16
 have aiH:=afg.same S16
 have Yw:H rd2=none:=same_none (T13.trans s15) Yx
 have afh:H rcd=none:=same_none S9 Ox
 have nrr:rd2≠rcd:=fun z=>by
  have:=same_none s15 Yx
  rw[z,ercd] at this;cases this
 have nrp:rd2≠p:=fun z=>by
  obtain⟨_,_,_,e,_⟩:=afe
  have:=same_none s15 Yx
  rw[z,e] at this;cases this
 have ncp:rcd≠p:=fun z=>by
  obtain⟨_,_,_,e,_⟩:=pl9
  rw[z,e] at Ox;cases Ox
 have aly:=SqL.same T16 hS
 walk_at "vs"
 intro o
 have aai:=same_none s15 Yx
 obtain⟨kg,kc,alz,afi,afj,alA⟩:=id afg
 have ngr:hg≠rd2:=fun z=>by rw[z,aai] at afi;cases afi
 have ncr:hc≠rd2:=fun z=>by rw[z,aai] at afj;cases afj
 have ngrc:hg≠rcd:=fun z=>by
  obtain⟨_,_,_,eg9,_,_⟩:=ho9
  rw[z,Ox] at eg9;cases eg9
 have ncrc:hc≠rcd:=fun z=>by
  obtain⟨_,_,_,_,ec9,_⟩:=ho9
  rw[z,Ox] at ec9;cases ec9
 have t17:=oW (o:= .frz o (.dK kr2)) aco
 have b17:But [rd2] H16 (upd H16 rd2 (.frz o (.dK kr2))):=But.set _ (by simp)
 have T17:=cL (.frz o (.dK kr2)) Yw T16
 have aiI:=aiG.keep b17 (by simpa using Ne.symm nrp)
 have afk:=aiH.but b17 t17 (by simpa using ngr) (by simpa using ncr)
 have acq:upd H16 rd2 (.frz o (.dK kr2)) rcd=some (.dK kr):=(aq (Ne.symm nrr)).trans acp
 have afl:=aiF.map (H':=upd H16 rd2 (.frz o (.dK kr2))) fun b q z=>z.dk aco
 have aaj:=rD2.map (H':=upd H16 rd2 (.frz o (.dK kr2))) fun b q z=>z.dk aco
 have efr:upd H16 rd2 (.frz o (.dK kr2)) rd2=some (.frz o (.dK kr2)):=ao
 generalize upd H16 rd2 (.frz o (.dK kr2))=H17 at *
 have aiA:=aaj.len
 refine Iv (fun i σ H'=>(∃t,σ=[some (.ref a),some (.ref p),some (.int (n:Int)),some (.ref h),some (.ref oh),some (.ref vh),some (.ref rcd),some (.ref rd2),t])/\aQ H H'/\H' rd2=some (.frz o (.dK kr2))/\dZ H' p (503+1+1+1+i)/\jD H' h hg hc n gv rc/\(∃kr rm,H' rcd=some (.dK kr)/\p6 H' kr n rm)/\p6 H' kr2 n rm2) ?_ ?_ ?_ ?_
 ·exact⟨⟨none,rfl⟩,T17,efr,aiI,afk,⟨kr,rm,acq,afl⟩,aaj⟩
 ·intro i σ H' _ hP
  exact hP.2.2.1
 ·intro i k v σ H18 hkv hP
  obtain⟨⟨t,rfl⟩,T18,e18,Yy,Ww,⟨kr3,rm3,acr,Yz⟩,Oz⟩:=hP
  have hi:i<kr2.length:=(List.getElem?_eq_some_iff.mp hkv).1
  obtain⟨rs2,kk2,aiJ⟩:=Oz.k
  obtain⟨x,rfl,hxi⟩:=kk2.at hkv
  have hx:=List.mem_of_getElem? hxi
  have hxn:=aiJ x hx
  cases erm:rm2 x with
  | none=>exact absurd hx (kk2.none.mp (Oz.w x erm))
  | some qq=>
    obtain⟨b,hb,ra⟩:=Oz.v x qq erm
    have hl3:=Yz.len
    have dgo:bT H18 rd2 (.str x) (some (.ref b)):=by
     rw[<-hb];exact .inl ⟨kr2, .inr x, .inr ⟨o,e18⟩,rfl,rfl⟩
    walk_at "vs"
    intro n19 H19 alB n191 b19 acs
    have T19:=eX T18 fr b19
    have t19:=Yy.tups b19
    have e19:=b19 _ _ (by simpa using nrp) e18
    have Ua:=b19 _ _ (by simpa using ncp) acr
    have Wx:=R7 Yy b19 npg npc Ww
    have acu:∀b q,rY [] H18 b q->rY [] H19 b q:=fun b q z=>z.but b19 t19 (fun y hy=> .inr fun xs w=>by
     obtain⟨_,_,_,e,_⟩:=Yy
     have:y=p:=by simpa using hy
     rw[this,e] at w;cases w)
    have YB:=Yz.map acu
    have Wy:=Oz.map acu
    have aiK:=acu _ _ ra
    have ak5:bT H19 rd2 (.str x) (some (.ref b)):=by
     rw[<-hb];exact .inl ⟨kr2, .inr x, .inr ⟨o,e19⟩,rfl,rfl⟩
    walk_at "vs"
    refine wz (fun c1=> ?_) (fun c1=> ?_)
    ·have dp:jn H19 rcd (.str x) (.ref b) (upd H19 rcd (.dK (putK kr3 (.inr x) (.ref b)))):=jn.k (k:= .inr x) Ua (bL (by omega))
     walk_at "vs"
     have t20:=oW (o:= .dK (putK kr3 (.inr x) (.ref b))) Ua
     have b20:But [rcd] H19 (upd H19 rcd (.dK (putK kr3 (.inr x) (.ref b)))):=But.set _ (by simp)
     have acv:∀b' q,rY [] H19 b' q->rY [] (upd H19 rcd (.dK (putK kr3 (.inr x) (.ref b)))) b' q:=fun b' q z=>z.dk Ua
     obtain⟨r,ps,v⟩:=qq
     exact⟨⟨_,rfl⟩,cL _ afh T19,(aq nrr).trans e19,(acs.keep b20 (by simpa using Ne.symm ncp)),Wx.but b20 t20 (by simpa using ngrc) (by simpa using ncrc),⟨_,_,ao,(YB.map acv).put hxn (acv _ _ aiK) (Wy.ok x r ps v erm)⟩,Wy.map acv⟩
    ·walk_at "vs"
     exact⟨⟨_,rfl⟩,T19,e19,acs,Wx,⟨kr3,rm3,Ua,YB⟩,Wy⟩
 ·intro σ H18 hP
  obtain⟨⟨t,rfl⟩,T18,e18,Yy,Ww,⟨kr3,rm3,acr,Yz⟩,Oz⟩:=hP
  have alC:=SqL.same T18 hS
  walk_at "vs"
  intro p4 H19 s19 hp4 acs
  have fr4:∀y∈[p4],H18 y=none:=fun y hy=>by
   have:y=p4:=by simpa using hy
   rw[this];exact hp4
  obtain⟨kg8,kc8,eh8,eg8,ec8,bd8⟩:=id Ww
  have alD:p4≠hg:=fun z=>by rw[z,eg8] at hp4;cases hp4
  have alE:p4≠hc:=fun z=>by rw[z,ec8] at hp4;cases hp4
  have Wx:=Ww.same s19
  walk_at "vs"
  intro wl4 ws4 H20 b20 alF YC aiL
  have s20:=eX s19 fr4 b20
  walk_at "vs"
  intro tt htt
  have s21:=aC (.lst [.ref h, .ref rcd, .ref wl4]) htt
  have S21:=s20.trans s21
  exact q tt h hg hc rcd wl4 n gv rc kr3 rm3 ws4 _ (T18.trans S21) ao (Ww.same S21) n17 (S21 _ _ acr) (Yz.map fun b q z=>z.same S21) (s21 _ _ YC) aiL
end
section
variable {P:Program}{w:World}{K:PySem.W.Frag}{mg:Str->Option Value}{base:Heap}
abbrev cH:Stmt:=top 35
theorem rM:bI ["house","records","worths","name","k","read","number"] ["house","records","worths","name"] (aa cH):=⟨rfl,rfl,rfl,by decide +kernel,rfl,by decide +kernel,by decide +kernel⟩
theorem eU:aF (aa cH) "name":=by decide +kernel
theorem oF:aF (aa cH) "house":=by decide +kernel
theorem gR:aF (aa cH) "records":=by decide +kernel
theorem Cr:(aa cH).names.lookup ("range":Str)=some NameKind.globalImplicit:=by decide +kernel
theorem Gj:(aa cH).names.lookup ("len":Str)=some NameKind.globalImplicit:=by decide +kernel
theorem Gk:("len":Str)≠"__name__":=by decide +kernel
theorem Gm:(("len":Str)==("__debug__":Str))=false:=by decide +kernel
theorem JG:Loc (aa cH) "k":=by decide +kernel
theorem zp:aF (aa cH) "k":=by decide +kernel
theorem Ak:Loc (aa cH) "number":=by decide +kernel
theorem Ek:Loc (aa cH) "read":=by decide +kernel
theorem qP:aF (aa cH) "worths":=by decide +kernel
theorem uq:aF (aa cH) "read":=by decide +kernel
theorem qQ:aF (aa cH) "number":=by decide +kernel
theorem Mj {f:Addr}{fd:FuncData} (j7:FnT K mg "_law_paper" cH ["house","records","worths","name"] f fd) (T:Blt mg):aX P w K mg base CX0 1 f fd ["house","records","worths","name"] RM:=by
 refine j7.F.okQ rM (fun vs H Q E h=> ?_) (fun cdv A outer s H vs Q E hr h=> ?_)
 ·obtain⟨h,g,c,rcd,wd,n,gv,rc,kr,kw,rm,rmN,kn,x,rfl,_⟩:=h
  rfl
 obtain⟨h,hg,hc,rcd,wd,n,gv,rc,kr,kw,rm,rmN,kn,x,rfl,ho,n17,er,rD,rw',hkw,sok,hkx,q⟩:=h
 refine⟨_,(au (cM (uD (bN hr) (aj 3 eU) (aO aK (aj 0 oF) aA)) (aD (aW (fM (fj bO az)))) bJ)
  (au (cM (oJ (bN hr) (aj 3 eU) (aj 1 gR)) (aD (aW (fM (fj bO az)))) bJ)
  (au (cM (cC (Rk hr.units) (aO aK (cZ (bN hr) (aj 1 gR) (aj 3 eU)) aA) (cZ (bN hr) (aO aK (aj 0 oF) aA) (aj 3 eU)) (aV _)) (aD (aW (fM (fj bO (gj (aO aK (cZ (bN hr) (aj 1 gR) (aj 3 eU)) aA) (gj (cZ (bN hr) (aO aK (aj 0 oF) aA) (aj 3 eU)) az)))))) bJ)
  (au (wF PassesOwn.never rfl (vd Cr T.De (qD (cX jC Gj T.vf pN (gj (aO aK (cZ (bN hr) (aj 1 gR) (aj 3 eU)) aA) az) Gk Gm) az)) (jx (i:=4) rM.nd rfl JG) (au (PL (aO cO (aO aK (cZ (bN hr) (aj 1 gR) (aj 3 eU)) aA) (aj 4 zp)) (PK rfl (lO (jx (i:=5) rM.nd rfl Ek) (lO (jx (i:=6) rM.nd rfl Ak) CZ))))
  (aD (cM (cC Lg (cZ (bN hr) (aj 2 qP) (aj 5 uq)) (aj 6 qQ) (aV _)) (aD (aW (fM (fj bO (aG (aj 4 zp) (aG (aj 6 qQ) (gj (cZ (bN hr) (aj 2 qP) (aj 5 uq)) az))))))) bJ))))
  (aD (aW (fM (fj bO az)))))))), ?_⟩
 obtain⟨kg,kc,eh,eg,ec,bd⟩:=id ho
 have dg:bT H hg (.str x) ((gv x).map V.int):=by rw[<-bd.g];exact bT.k (k:= .inr x) eg
 have dr:bT H rcd (.str x) (dI kr (.inr x)):=bT.k (k:= .inr x) er
 cases egv:gv x with
 | some v=>
   rw[egv] at dg
   have dg:bT H hg (.str x) (some (.int v)):=dg
   walk_at "vs"
   intro b hb
   have s1:=aC (.tup [.str "given"]) hb
   exact q b .given _ s1 (.given ao) (by show gv x≠none;rw[egv];simp)
 | none=>
   rw[egv] at dg
   have dg:bT H hg (.str x) none:=dg
   cases erm:rm x with
   | none=>
     rw[rD.w x erm] at dr
     walk_at "vs"
     intro b hb
     have s1:=aC (.tup [.str "new"]) hb
     exact q b .new _ s1 (.new ao) ⟨egv,erm⟩
   | some qq=>
     obtain⟨r',ps,v'⟩:=qq
     obtain⟨bb,hbb,br,l,as,e1,R1,el,hRs,_⟩:=rD.v x _ erm
     obtain⟨got',k',hk',ek',rk'⟩:=rD.ok x r' ps v' erm
     rw[hbb] at dr
     have R1:IsR H br r':=R1
     have hRs:gM H as ps:=hRs
     have e1:H bb=some (.tup [.ref br, .ref l, .int v']):=e1
     obtain⟨v,ekn⟩:∃v,kn x=some v:=by
      cases z:kn x with
      | none=>exact absurd z hkx
      | some v=>exact⟨v,rfl⟩
     obtain⟨r,qs,hrc,hrm⟩:∃r qs,rc x=some r/\rmN x=some (r,qs,v):=by
      rcases(sok.a x v ekn).2 with z | ⟨_,r,qs,z1,z2⟩
      ·rw[egv] at z;cases z
      ·exact⟨r,qs,z1,z2⟩
     obtain⟨_,_,_,Wz,acw⟩:=sok.b x r qs v hrm
     obtain⟨k2,hk2,ek2,rk2⟩:=bd.ok.rk x r hrc
     obtain⟨br2,acy,R2⟩:=bd.r x r hrc
     have dc:bT H hc (.str x) (some (.ref br2)):=by rw[<-acy];exact bT.k (k:= .inr x) ec
     have hd1:=rk'.d
     have hd2:=rk2.d
     walk_at "vs"
     refine⟨_,_,R1.dat,R2.dat,R.shaped rk'.g (by omega),R.shaped rk2.g (by omega), ?_⟩
     by_cases hrr:r'=r
     ·subst hrr
      have he:PyData.eqv r'.dat r'.dat=true:=PySem.SeqAt.eqv_refl _ (r'.lay rk'.g)
      rw[he]
      have hlm:(as.map V.ref).length=ps.length:=by rw[List.length_map];exact hRs.length
      have hgn:ps.length<=k':=Lx got'.c rk'.i
      walk_at "vs"
      refine EY (fun i σ H'=>(∃t u v,σ=[some (.ref h),some (.ref rcd),some (.ref wd),some (.str x),t,u,v])/\H'=H/\∀(j:Nat) p,j<i->ps[j]? =some p->kn p.1=some p.2) ?_ ?_ ?_
      ·exact⟨⟨none,none,none,rfl⟩,rfl,fun j p hj=>by omega⟩
      ·intro i σ H' hi hP
       obtain⟨⟨t,u,v0,rfl⟩,rfl,hj⟩:=hP
       have hi':i<ps.length:=by
        have:i<((as.map V.ref).length:Int).toNat:=hi
        omega
       have hia:i<as.length:=by rw[hRs.length];exact hi'
       have hae:as[i]? =some (as[i]):=List.getElem?_eq_getElem hia
       obtain⟨p,hp,ep⟩:=hRs.get i _ hae
       obtain⟨u2,hu2⟩:=again i got'.c Wz.c Wz.e acw.s hj p hp
       have ei:(0+(i:Int))=(i:Int):=by omega
       have hat:atI (as.map V.ref) (i:Int)=some (.ref (as[i])):=lE (by rw[List.getElem?_map,hae];rfl)
       have ep:H' as[i]=some (.tup [.str p.1, .int p.2]):=ep
       have dw:bT H' wd (.str p.1) (some (.int u2)):=by
        have:dI kw (.inr p.1)=some (.int u2):=by rw[hkw,hu2];rfl
        rw[<-this];exact .inl ⟨kw, .inr p.1,rw',rfl,rfl⟩
       rw[ei]
       generalize as[i]=ai at *
       walk_at "vs"
       refine wz (fun c1=> ?_) (fun c1=> ?_)
       ·walk_at "vs"
        intro b hb
        have s1:=aC (.tup [.str "read", .int (i:Int), .int p.2, .int u2]) hb
        exact q b (.rd i p.2 u2) _ s1 (.rd ao) ⟨egv,r',ps,v',p.1,erm,hrc,hj,hp,hu2,by simpa using c1⟩
       ·have c1':u2=p.2:=by
         by_cases z:u2=p.2
         ·exact z
         ·exact absurd (by simpa using z) c1
        walk_at "vs"
        refine⟨⟨_,_,_,rfl⟩,rfl,fun j p' hj' hp'=> ?_⟩
        by_cases z:j=i
        ·rw[z,hp] at hp';cases hp';rw[hu2,c1']
        ·exact hj j p' (by omega) hp'
      ·intro σ H' hP
       obtain⟨⟨t,u,v0,rfl⟩,rfl,hj⟩:=hP
       walk_at "vs"
       intro b hb
       have s1:=aC (.tup [.str "alike"]) hb
       refine q b .alike _ s1 (.alike ao) ⟨egv,r',ps,v',erm,hrc,fun j p hp=>hj j p ?_ hp⟩
       have:j<ps.length:=(List.getElem?_eq_some_iff.mp hp).1
       show j<((as.map V.ref).length:Int).toNat
       omega
     ·have he:PyData.eqv r'.dat r.dat=false:=by
       cases z:PyData.eqv r'.dat r.dat with
       | false=>rfl
       | true=>exact absurd (r'.abW r z) hrr
      rw[he]
      walk_at "vs"
      intro b hb
      have s1:=aC (.tup [.str "recipe", .ref br, .ref br2]) hb
      exact q b (.rcp r' r) _ s1 (.rcp ao (R1.same s1) (R2.same s1) rk'.g rk2.g (by omega) (by omega)) ⟨egv,hrc,hrr,ps,v',erm⟩
abbrev cJ:Stmt:=top 18
theorem qz:bI ["house","records","worths","name","record","now","k","read"] ["house","records","worths","name"] (aa cJ):=⟨rfl,rfl,rfl,by decide +kernel,rfl,by decide +kernel,by decide +kernel⟩
theorem mR:aF (aa cJ) "name":=by decide +kernel
theorem ur:aF (aa cJ) "house":=by decide +kernel
theorem qR:aF (aa cJ) "records":=by decide +kernel
theorem Cu:Loc (aa cJ) "record":=by decide +kernel
theorem Ho:Loc (aa cJ) "now":=by decide +kernel
theorem Al:(aa cJ).names.lookup ("is_same":Str)=some NameKind.globalImplicit:=by decide +kernel
theorem oG:aF (aa cJ) "record":=by decide +kernel
theorem xR:aF (aa cJ) "now":=by decide +kernel
theorem Am:(("is_same":Str)==("__debug__":Str))=false:=by decide +kernel
theorem yf:(aa cJ).names.lookup ("enumerate":Str)=some NameKind.globalImplicit:=by decide +kernel
theorem Gn:Loc (aa cJ) "read":=by decide +kernel
theorem J3:Loc (aa cJ) "k":=by decide +kernel
theorem tG:aF (aa cJ) "worths":=by decide +kernel
theorem mU:aF (aa cJ) "read":=by decide +kernel
theorem J4:aF (aa cJ) "k":=by decide +kernel
theorem OD {f g0:Addr}{fd gd0:FuncData} (mF:FnT K mg "paper_of" cJ ["house","records","worths","name"] f fd) (dO:FnT K mg "is_same" d7 ["told","thing"] g0 gd0) (vJ:aX P w K mg base CX0 12 g0 gd0 ["told","thing"] (Jd K 10)) (T:Blt mg):
 aX P w K mg base CX0 13 f fd ["house","records","worths","name"] RM:=by
 refine mF.F.okQ qz (fun vs H Q E h=> ?_) (fun cdv A outer s H vs Q E hr h=> ?_)
 ·obtain⟨h,g,c,rcd,wd,n,gv,rc,kr,kw,rm,rmN,kn,x,rfl,_⟩:=h
  rfl
 obtain⟨h,hg,hc,rcd,wd,n,gv,rc,kr,kw,rm,rmN,kn,x,rfl,ho,n17,er,rD,rw',hkw,sok,hkx,q⟩:=h
 refine⟨_,(au (cM (uD (bN hr) (aj 3 mR) (aO aK (aj 0 ur) aA)) (aD (aW (fM (fj bO az)))) bJ)
  (au (cM (oJ (bN hr) (aj 3 mR) (aj 1 qR)) (aD (aW (fM (fj bO az)))) bJ)
  (au (bG (i:=4) qz.nd rfl Cu (cZ (bN hr) (aj 1 qR) (aj 3 mR)))
  (au (bG (i:=5) qz.nd rfl Ho (cZ (bN hr) (aO aK (aj 0 ur) aA) (aj 3 mR)))
  (au (cM (HQ (rT (aJ (vJ.mono (by omega)) hr Al dO.m dO.F.kp dO.b .nil aU (aG (aj 5 xR) (gj (aO aK (aj 4 oG) aA) az)) Am))) (aD (aW (fM (fj bO (gj (aO aK (aj 4 oG) aA) (aG (aj 5 xR) az)))))) bJ)
  (au (wF PassesOwn.never rfl (Yo yf T.Nh (gj (aO aK (aj 4 oG) aA) az)) (PK rfl (lO (jx (i:=6) qz.nd rfl J3) (lO (jx (i:=7) qz.nd rfl Gn) CZ))) (aD (cM (cC Lg (Nx (bN hr) (aj 2 tG) (aO aK (aj 7 mU) aA) ⟨rfl,rfl,rfl,rfl⟩) (aO aK (aj 7 mU) aA) (aV _)) (aD (aW (fM (fj bO (aG (aj 6 J4) (gj (aO aK (aj 7 mU) aA) (qD (Nx (bN hr) (aj 2 tG) (aO aK (aj 7 mU) aA) ⟨rfl,rfl,rfl,rfl⟩) az))))))) bJ)))
  (aD (aW (fM (fj bO az)))))))))), ?_⟩
 obtain⟨kg,kc,eh,eg,ec,bd⟩:=id ho
 have dg:bT H hg (.str x) ((gv x).map V.int):=by rw[<-bd.g];exact bT.k (k:= .inr x) eg
 have dr:bT H rcd (.str x) (dI kr (.inr x)):=bT.k (k:= .inr x) er
 cases egv:gv x with
 | some v=>
   rw[egv] at dg
   have dg:bT H hg (.str x) (some (.int v)):=dg
   walk_at "vs"
   intro b hb
   have s1:=aC (.tup [.str "given"]) hb
   exact q b .given _ s1 (.given ao) (by show gv x≠none;rw[egv];simp)
 | none=>
   rw[egv] at dg
   have dg:bT H hg (.str x) none:=dg
   cases erm:rm x with
   | none=>
     rw[rD.w x erm] at dr
     walk_at "vs"
     intro b hb
     have s1:=aC (.tup [.str "new"]) hb
     exact q b .new _ s1 (.new ao) ⟨egv,erm⟩
   | some qq=>
     obtain⟨r',ps,v'⟩:=qq
     obtain⟨bb,hbb,br,l,as,e1,R1,el,hRs,_⟩:=rD.v x _ erm
     obtain⟨got',k',hk',ek',rk'⟩:=rD.ok x r' ps v' erm
     rw[hbb] at dr
     have R1:IsR H br r':=R1
     have hRs:gM H as ps:=hRs
     have e1:H bb=some (.tup [.ref br, .ref l, .int v']):=e1
     obtain⟨v,ekn⟩:∃v,kn x=some v:=by
      cases z:kn x with
      | none=>exact absurd z hkx
      | some v=>exact⟨v,rfl⟩
     obtain⟨r,qs,hrc,hrm⟩:∃r qs,rc x=some r/\rmN x=some (r,qs,v):=by
      rcases(sok.a x v ekn).2 with z | ⟨_,r,qs,z1,z2⟩
      ·rw[egv] at z;cases z
      ·exact⟨r,qs,z1,z2⟩
     obtain⟨_,_,_,Wz,acw⟩:=sok.b x r qs v hrm
     obtain⟨k2,hk2,ek2,rk2⟩:=bd.ok.rk x r hrc
     obtain⟨br2,acy,R2⟩:=bd.r x r hrc
     have dc:bT H hc (.str x) (some (.ref br2)):=by rw[<-acy];exact bT.k (k:= .inr x) ec
     have hd1:=rk'.d
     have hd2:=rk2.d
     have t2:pG K H (.ref br2) r.dh:=R2.Nm
     have t1:pG K H (.ref br) r'.dh:=R1.Nm
     have p2:DpT 10 r.dh:=(r.dpT (lQ rk2.g)).mono (show r.depth+1<=10 by omega)
     walk_at "vs"
     intro H1 S1
     have e1':=S1 _ _ e1
     have el':=S1 _ _ el
     have aiM:gM H1 as ps:=hRs.tups (aQ.tups S1)
     have R1':=R1.same S1
     have R2':=R2.same S1
     have rw1:Rd H1 wd (.dK kw):=Rd.same rw' S1
     have iD:IsD H1 wd:= .inl ⟨_,rw1⟩
     by_cases hrr:r'=r
     ·subst hrr
      rw[RN rfl]
      walk_at "vs"
      refine VR (xs:=as.map V.ref) (fun i σ H'=>(∃t u,σ=[some (.ref h),some (.ref rcd),some (.ref wd),some (.str x),some (.ref bb),some (.ref br2),t,u])/\aQ H1 H'/\∀(j:Nat) p,j<i->ps[j]? =some p->kn p.1=some p.2) ?_ ?_ ?_ ?_
      ·exact⟨⟨none,none,rfl⟩,aQ.refl _,fun j p hj=>by omega⟩
      ·intro i σ H' hi hP
       exact SqL.of (hP.2.1 _ _ el')
      ·intro i y T0 σ H' hy hT hP
       obtain⟨⟨t,u,rfl⟩,S2,hj⟩:=hP
       obtain⟨ai,hae,ey⟩:=Vt hy
       subst ey
       obtain⟨p,hp,ep⟩:=aiM.get i _ hae
       obtain⟨u2,hu2⟩:=again i got'.c Wz.c Wz.e acw.s hj p hp
       have S3:=S2.trans (aC (.tup [.int (i:Int), .ref ai]) hT)
       have eT:upd H' T0 (.tup [.int (i:Int), .ref ai]) T0=some (.tup [.int (i:Int), .ref ai]):=ao
       generalize upd H' T0 (.tup [.int (i:Int), .ref ai])=H3 at *
       have ep3:H3 ai=some (.tup [.str p.1, .int p.2]):=S3 _ _ ep
       have rw3:Rd H3 wd (.dK kw):=Rd.same rw1 S3
       have iD3:IsD H3 wd:= .inl ⟨_,rw3⟩
       have dw:bT H3 wd (.str p.1) (some (.int u2)):=by
        have:dI kw (.inr p.1)=some (.int u2):=by rw[hkw,hu2];rfl
        rw[<-this];exact .inl ⟨kw, .inr p.1,rw3,rfl,rfl⟩
       walk_at "vs"
       refine wz (fun c1=> ?_) (fun c1=> ?_)
       ·walk_at "vs"
        intro b hb
        have s1:=aC (.tup [.str "read", .int (i:Int), .int p.2, .int u2]) hb
        exact q b (.rd i p.2 u2) _ ((S1.trans S3).trans s1) (.rd ao) ⟨egv,r',ps,v',p.1,erm,hrc,hj,hp,hu2,by simpa using c1⟩
       ·have c1':u2=p.2:=by
         by_cases z:u2=p.2
         ·exact z
         ·exact absurd (by simpa using z) c1
        walk_at "vs"
        refine⟨⟨_,_,rfl⟩,S3,fun j p' hj' hp'=> ?_⟩
        by_cases z:j=i
        ·rw[z,hp] at hp';cases hp';rw[hu2,c1']
        ·exact hj j p' (by omega) hp'
      ·intro σ H' hP
       obtain⟨⟨t,u,rfl⟩,S2,hj⟩:=hP
       walk_at "vs"
       intro b hb
       have s1:=aC (.tup [.str "alike"]) hb
       refine q b .alike _ ((S1.trans S2).trans s1) (.alike ao) ⟨egv,r',ps,v',erm,hrc,fun j p hp=>hj j p ?_ hp⟩
       have h1:j<ps.length:=(List.getElem?_eq_some_iff.mp hp).1
       have h2:=hRs.length
       rw[List.length_map];omega
     ·rw[RP (fun z=>hrr z.symm)]
      walk_at "vs"
      intro b hb
      have s1:=aC (.tup [.str "recipe", .ref br, .ref br2]) hb
      exact q b (.rcp r' r) _ (S1.trans s1) (.rcp ao (R1'.same s1) (R2'.same s1) rk'.g rk2.g (by omega) (by omega)) ⟨egv,hrc,hrr,ps,v',erm⟩
end
section
variable {P:Program}{w:World}{K:PySem.W.Frag}{mg:Str->Option Value}{base:Heap}
abbrev cN:Stmt:=top 19
theorem rN:bI ["house","records","wishes","worths","papers","name"] ["house","records","wishes"] (aa cN):=⟨rfl,rfl,rfl,by decide +kernel,rfl,by decide +kernel,by decide +kernel⟩
theorem An:Loc (aa cN) "worths":=by decide +kernel
theorem uV:(aa cN).names.lookup ("build_again":Str)=some NameKind.globalImplicit:=by decide +kernel
theorem Ao:aF (aa cN) "wishes":=by decide +kernel
theorem qC:aF (aa cN) "records":=by decide +kernel
theorem tH:aF (aa cN) "house":=by decide +kernel
theorem uW:(("build_again":Str)==("__debug__":Str))=false:=by decide +kernel
theorem Aq:Loc (aa cN) "papers":=by decide +kernel
theorem qT:aF (aa cN) "worths":=by decide +kernel
theorem El:Loc (aa cN) "name":=by decide +kernel
theorem qU:aF (aa cN) "papers":=by decide +kernel
theorem uv:aF (aa cN) "name":=by decide +kernel
theorem yg:(aa cN).names.lookup ("paper_of":Str)=some NameKind.globalImplicit:=by decide +kernel
theorem yh:(("paper_of":Str)==("__debug__":Str))=false:=by decide +kernel
theorem Ml {f g0 g1:Addr}{fd gd0 gd1:FuncData} (eV:FnT K mg "papers_of" cN ["house","records","wishes"] f fd) (iQ:FnT K mg "build_again" cV ["house","records","wishes"] g0 gd0) (J5:aX P w K mg base CX0 17 g0 gd0 ["house","records","wishes"] RX)
 (mF:FnT K mg "paper_of" cJ ["house","records","worths","name"] g1 gd1) (QC:aX P w K mg base CX0 13 g1 gd1 ["house","records","worths","name"] RM) (T:Blt mg):aX P w K mg base CX0 18 f fd ["house","records","wishes"] aah:=by
 refine eV.F.okQ rN (fun vs H Q E h=> ?_) (fun cdv A outer s H vs Q E hr h=> ?_)
 ·obtain⟨h,g,c,rcd,wl,n,gv,rc,kr,rm,ws,rfl,_⟩:=h
  rfl
 obtain⟨h,hg,hc,rcd,wl,n,gv,rc,kr,rm,ws,rfl,ho,n17,er,rD,ewl,hws,q⟩:=h
 refine⟨_,(au (bG (i:=3) rN.nd rfl An (aO aK (aJ (J5.mono (by omega)) hr uV iQ.m iQ.F.kp iQ.b .nil aU (aG (aj 0 tH) (aG (aj 1 qC) (aG (aj 2 Ao) az))) uW) aA))
  (au (bG (i:=4) rN.nd rfl Aq lu)
  (au (wF PassesOwn.never rfl (Dh (aj 3 qT)) (jx (i:=5) rN.nd rfl El) (aD (gm (bN hr) (aj 4 qU) (aj 5 uv) (aJ (QC.mono (by omega)) hr yg mF.m mF.F.kp mF.b .nil aU (aG (aj 0 tH) (aG (aj 1 qC) (aG (aj 3 qT) (aG (aj 5 uv) az)))) yh))))
  (aD (aW (aj 4 qU)))))), ?_⟩
 obtain⟨kg,kc,eh,eg,ec,bd⟩:=id ho
 walk_at "vs"
 intro t kd sd lm lk kw ks wn sn kn rmN rkn o H1 s1 et hkd hsd hlm hlk nks nll ekd kkw hkw esd kks rDs elm elk bt
 have hkl:kw.length<=n:=by
  rw[kkw.len,<-lG n]
  refine ju kkw.nd fun x hx=> ?_
  have:=(vq kkw hkw x).mp hx
  cases z:kn x with
  | none=>exact absurd z this
  | some u=>exact(bt.ok.a x u z).1
 walk_at "vs"
 intro pd hpd
 have s2:=s1.trans (aC (.dK []) hpd)
 have epd:upd H1 pd (.dK []) pd=some (.dK []):=ao
 have afm:=same_none s1 hpd
 have alG:=(aC (.dK []) hpd) _ _ ekd
 have npk:pd≠kd:=fun z=>by rw[z,ekd] at hpd;cases hpd
 generalize upd H1 pd (.dK [])=H2 at *
 walk_at "vs"
 intro o2
 have s3:aQ H (upd H2 kd (.frz o2 (.dK kw))):=cL _ hkd s2
 have aiN:upd H2 kd (.frz o2 (.dK kw)) kd=some (.frz o2 (.dK kw)):=ao
 have YD:upd H2 kd (.frz o2 (.dK kw)) pd=some (.dK []):=(aq npk).trans epd
 generalize upd H2 kd (.frz o2 (.dK kw))=H3 at *
 refine Iv (fun i σ H'=>(∃t,σ=[some (.ref h),some (.ref rcd),some (.ref wl),some (.ref kd),some (.ref pd),t])/\aQ H H'/\H' kd=some (.frz o2 (.dK kw))/\∃kp,H' pd=some (.dK kp)/\PpJ H' kp gv rc rm kn (wn.take i)) ?_ ?_ ?_ ?_
 ·exact⟨⟨none,rfl⟩,s3,aiN,[],YD, .nil⟩
 ·intro i σ H' _ hP
  exact hP.2.2.1
 ·intro i k v σ H5 hkv hP
  obtain⟨⟨t,rfl⟩,s5,ek5,kp,ep5,pJ5⟩:=hP
  have hi:i<kw.length:=(List.getElem?_eq_some_iff.mp hkv).1
  obtain⟨x,rfl,hxi⟩:=kkw.at hkv
  have hx:kn x≠none:=(vq kkw hkw x).mp (List.mem_of_getElem? hxi)
  have rw5:Rd H5 kd (.dK kw):= .inr ⟨o2,ek5⟩
  have ho5:=ho.same s5
  have er5:=s5 _ _ er
  have rD5:=rD.map fun b q z=>z.same s5
  have sok:=bt.ok
  walk_at "vs"
  intro b p H6 s6 pA pI
  have ek6:=s6 _ _ ek5
  have ep6:=s6 _ _ ep5
  have hl6:kp.length<=n:=by
   have:=List.length_take_le i wn
   have h2:=kkw.len
   rw[pJ5.k.len];omega
  have dp:jn H6 pd (.str x) (.ref b) (upd H6 pd (.dK (putK kp (.inr x) (.ref b)))):=jn.k (k:= .inr x) ep6 (bL (by omega))
  walk_at "vs"
  have t7:=oW (o:= .dK (putK kp (.inr x) (.ref b))) ep6
  have hxn:x∉wn.take i:=fun z=>by
   obtain⟨j,hj⟩:=List.getElem?_of_mem z
   have hji:j<i:=by
    have:=(List.getElem?_eq_some_iff.mp hj).1
    have h2:=List.length_take_le i wn
    omega
   rw[List.getElem?_take_of_lt hji] at hj
   obtain⟨h1,e1⟩:=List.getElem?_eq_some_iff.mp hj
   obtain⟨h2,e2⟩:=List.getElem?_eq_some_iff.mp hxi
   have:=(List.getElem_inj kkw.nd).mp (e1.trans e2.symm)
   omega
  refine⟨⟨_,rfl⟩,cL _ afm (s5.trans s6),(aq (Ne.symm npk)).trans ek6,_,ao, ?_⟩
  rw[show wn.take (i+1)=wn.take i++[x] by rw[List.take_add_one,hxi];rfl]
  exact((pJ5.same s6).tups t7).put hxn (pA.tups t7) pI
 ·intro σ H5 hP
  obtain⟨⟨t,rfl⟩,s5,ek5,kp,ep5,pJ5⟩:=hP
  rw[show wn.take kw.length=wn by rw[kkw.len];exact List.take_length] at pJ5
  walk_at "vs"
  exact q pd kp wn kn rmN rkn H5 s5 afm ep5 pJ5 (vq kkw hkw) bt
abbrev gU:Stmt:=top 36
theorem Mm:bI ["paper"] ["paper"] (aa gU):=⟨rfl,rfl,rfl,by decide +kernel,rfl,by decide +kernel,by decide +kernel⟩
theorem Em:("bool":Str)≠"__name__":=by decide +kernel
theorem En:(("bool":Str)==("__debug__":Str))=false:=by decide +kernel
theorem oM:("isinstance":Str)≠"__name__":=by decide +kernel
theorem oN:(("isinstance":Str)==("__debug__":Str))=false:=by decide +kernel
theorem tK:aF (aa gU) "paper":=by decide +kernel
theorem wj:(aa gU).names.lookup ("isinstance":Str)=some NameKind.globalImplicit:=by decide +kernel
theorem Cv:(aa gU).names.lookup ("tuple":Str)=some NameKind.globalImplicit:=by decide +kernel
theorem Cw:("tuple":Str)≠"__name__":=by decide +kernel
theorem Cy:(("tuple":Str)==("__debug__":Str))=false:=by decide +kernel
theorem Mp {f:Addr}{fd:FuncData} (j8:FnT K mg "_law_plain" gU ["paper"] f fd) (T:Blt mg) (kd:Kinds K):aX P w K mg base CX0 1 f fd ["paper"] R6:=by
 refine j8.F.okQ Mm (fun vs H Q E h=> ?_) (fun cdv A outer s H vs Q E hr h=> ?_)
 ·obtain⟨b,p,rfl,_⟩:=h
  rfl
 obtain⟨b,p,rfl,pA,q⟩:=h
 refine⟨_,(aD (aW (Fj (cX yq wj T.iH gH (aG (aj 0 tK) (aG (qX (v:= .ty "tuple") Cv T.Hr CW rfl Cw Cy) az)) oM oN) (HW (wD (Tt hr.units) (tY rfl (n:=1) (fr:=[]) (N:=["thing"]) (GC (scX:=aa gU) (NX:=["paper"]) rfl rfl (by decide +kernel)) (abB (aj 0 tK)) (fun _ _ _ _ _=>(qgx (i:=0) (show List.Nodup (α:=Str) ["thing"] by decide) (K7 (by decide +kernel)))) (fun _ _ _ _ _=>(HY (rT (cX (XN (K:=K) rfl) (glC (by decide +kernel)) T.iH gH (aG (aj 0 (pL.ok (by decide +kernel))) (aG (qX (v:= .ty "bool") (glC (by decide +kernel)) T.Vm Ri rfl Em En) az)) oM oN)))) (fun _ _ _ _ _=>(aj 0 (pL.ok (by decide +kernel))))) (gh az) (aV _)))))), ?_⟩
 have ht:pG K H (.ref b) p.dh:=pA.Nm
 have pl:=p.plT
 have h1:=ht.ty
 have h2:=ht.isi kd (c:="tuple") (by simp[tys])
 have hn:=pA.niT
 generalize p.dh=t at *
 cases ht with
 | @tup a vs ts ea ha=>
   have ct:P0 (JR (.tup ts)) "tuple"=true:=rfl
   rw[ct] at h2
   have pls:∀t∈ts,PlT t:=by cases pl;assumption
   walk_at "vs"
   intro D hD
   refine Vb (xs:=vs) (fun i σ' H'=>(∃t,σ'=[t])/\H' D=some (.lst [])/\aQ H H') ?_ ?_ ?_ ?_
   ·exact⟨⟨none,rfl⟩,ao,aC _ hD⟩
   ·intro i σ' H' hi hP
    exact SqT.of (hP.2.2 _ _ ea)
   ·intro i x σ' H' hx hP
    obtain⟨⟨t,rfl⟩,eD,S3⟩:=hP
    obtain⟨i1,y1⟩:=ha.at hx
    have z2:=pls _ (List.getElem_mem i1)
    have y2:=y1.same S3
    generalize ts[i]=u at *
    have k1:=y2.ty
    have k2:=y2.isi kd (c:="bool") (by simp[tys])
    rw[show P0 (JR u) "bool"=false by cases z2<;>rfl] at k2
    walk_at "vs"
    exact⟨⟨_,rfl⟩,eD,S3⟩
   ·intro σ' H' hP
    obtain⟨_,eD,S3⟩:=hP
    walk_at "vs"
    intro l hl
    have S4:=aC (.lst []) hl
    exact⟨D,l,[],rfl,rfl,SqL.of (S4 _ _ eD),SqL.of ao,q _ (S3.trans S4)⟩
 | oth h hT k=>cases pl
end
section
variable {P:Program}{w:World}{K:PySem.W.Frag}{mg:Str->Option Value}{base:Heap}
abbrev ir:Stmt:=top 37
theorem xJ:bI ["script","house","records","wishes","worths","due","name","handed","found"] ["script"] (aa ir):=⟨rfl,rfl,rfl,by decide +kernel,rfl,by decide +kernel,by decide +kernel⟩
theorem Gp:(aa ir).names.lookup ("_law_case":Str)=some NameKind.globalImplicit:=by decide +kernel
theorem J6:aF (aa ir) "script":=by decide +kernel
theorem Gq:(("_law_case":Str)==("__debug__":Str))=false:=by decide +kernel
theorem J7:Loc (aa ir) "wishes":=by decide +kernel
theorem JH:Loc (aa ir) "records":=by decide +kernel
theorem Mq:Loc (aa ir) "house":=by decide +kernel
theorem J8:Loc (aa ir) "worths":=by decide +kernel
theorem Eo:(aa ir).names.lookup ("_law_fresh":Str)=some NameKind.globalImplicit:=by decide +kernel
theorem uX:aF (aa ir) "wishes":=by decide +kernel
theorem mV:aF (aa ir) "house":=by decide +kernel
theorem Ep:(("_law_fresh":Str)==("__debug__":Str))=false:=by decide +kernel
theorem QD:Loc (aa ir) "due":=by decide +kernel
theorem Bd:aF (aa ir) "worths":=by decide +kernel
theorem OJ:Loc (aa ir) "name":=by decide +kernel
theorem Cz:aF (aa ir) "due":=by decide +kernel
theorem GZ:aF (aa ir) "name":=by decide +kernel
theorem Er:(aa ir).names.lookup ("_law_paper":Str)=some NameKind.globalImplicit:=by decide +kernel
theorem pF:aF (aa ir) "records":=by decide +kernel
theorem Es:(("_law_paper":Str)==("__debug__":Str))=false:=by decide +kernel
theorem J9:Loc (aa ir) "handed":=by decide +kernel
theorem O1:(aa ir).names.lookup ("list":Str)=some NameKind.globalImplicit:=by decide +kernel
theorem O2:("list":Str)≠"__name__":=by decide +kernel
theorem O3:(("list":Str)==("__debug__":Str))=false:=by decide +kernel
theorem uw:(aa ir).names.lookup ("dict":Str)=some NameKind.globalImplicit:=by decide +kernel
theorem ux:("dict":Str)≠"__name__":=by decide +kernel
theorem uy:(("dict":Str)==("__debug__":Str))=false:=by decide +kernel
theorem Mr:Loc (aa ir) "found":=by decide +kernel
theorem pW:(aa ir).names.lookup ("papers_of":Str)=some NameKind.globalImplicit:=by decide +kernel
theorem jH:aF (aa ir) "handed":=by decide +kernel
theorem pX:(("papers_of":Str)==("__debug__":Str))=false:=by decide +kernel
theorem rO:aF (aa ir) "found":=by decide +kernel
theorem Et:(aa ir).names.lookup ("isinstance":Str)=some NameKind.globalImplicit:=by decide +kernel
theorem Eu:("isinstance":Str)≠"__name__":=by decide +kernel
theorem Ew:(("isinstance":Str)==("__debug__":Str))=false:=by decide +kernel
theorem Ex:(("_law_plain":Str)==("__debug__":Str))=false:=by decide +kernel
theorem acz {f g1 g2 g3 g4 g5:Addr}{fd gd1 gd2 gd3 gd4 gd5:FuncData} (WD:FnT K mg "law" ir ["script"] f fd)
 (mD:FnT K mg "_law_case" bh ["script"] g1 gd1) (QF:aX P w K mg base CX0 139 g1 gd1 ["script"] (aab K))
 (dD:FnT K mg "_law_fresh" dX ["house","wishes"] g2 gd2) (uo:aX P w K mg base CX0 138 g2 gd2 ["house","wishes"] Wh)
 (j7:FnT K mg "_law_paper" cH ["house","records","worths","name"] g3 gd3) (O4:aX P w K mg base CX0 1 g3 gd3 ["house","records","worths","name"] RM)
 (eV:FnT K mg "papers_of" cN ["house","records","wishes"] g4 gd4) (zq:aX P w K mg base CX0 18 g4 gd4 ["house","records","wishes"] aah)
 (j8:FnT K mg "_law_plain" gU ["paper"] g5 gd5) (O5:aX P w K mg base CX0 1 g5 gd5 ["paper"] R6)
 (T:Blt mg):aX P w K mg base CX0 140 f fd ["script"] (Rt K):=by
 refine WD.F.okQ xJ (fun vs H Q E h=> ?_) (fun cdv A outer s H vs Q E hr h=> ?_)
 ·obtain⟨a,ns,rfl,_⟩:=h
  rfl
 obtain⟨a,zs,rfl,hS,h63,q⟩:=h
 refine⟨_,(au (PL (aJ (QF.mono (by omega)) hr Gp mD.m mD.F.kp mD.b .nil aU (aG (aj 0 J6) az) Gq) (Vr rfl (lO (jx (i:=1) xJ.nd rfl Mq) (lO (jx (i:=2) xJ.nd rfl JH) (lO (jx (i:=3) xJ.nd rfl J7) CZ)))))
  (au (bG (i:=4) xJ.nd rfl J8 (aO cO (aJ (uo.mono (by omega)) hr Eo dD.m dD.F.kp dD.b .nil aU (aG (aj 1 mV) (aG (aj 3 uX) az)) Ep) aA))
  (au (bG (i:=5) xJ.nd rfl QD lu)
  (au (wF PassesOwn.never rfl (Dh (aj 4 Bd)) (jx (i:=6) xJ.nd rfl OJ) (aD (gm (bN hr) (aj 5 Cz) (aj 6 GZ) (aJ (O4.mono (by omega)) hr Er j7.m j7.F.kp j7.b .nil aU (aG (aj 1 mV) (aG (aj 2 pF) (aG (aj 4 Bd) (aG (aj 6 GZ) az)))) Es))))
  (au (bG (i:=7) xJ.nd rfl J9 (gh (Qa (fM (qD (iR vo uw T.Bg wC (gj (aO aK (aj 1 mV) aA) az) ux uy) (qD (iR vo uw T.Bg wC (gj (aO aK (aj 1 mV) aA) az) ux uy) az))) (qD (iR vo uw T.Bg wC (aG (aj 2 pF) az) ux uy) (qD (iR Ie O1 T.Ig CV (aG (aj 3 uX) az) O2 O3) az)))))
  (au (bG (i:=8) xJ.nd rfl Mr (aJ (zq.mono (by omega)) hr pW eV.m eV.F.kp eV.b .nil aU (gj (aO cO (aj 7 jH) aA) (gj (aO cO (aj 7 jH) aA) (gj (aO cO (aj 7 jH) aA) az))) pX))
  (au (cM (HS (Kp (HQ (rT (cX Wm Et T.iH gH (aG (aj 8 rO) (aG (qX (v:= .ty "dict") uw T.Bg wC rfl ux uy) az)) Eu Ew))) (Kp (cC (TY hr.u66) (aj 8 rO) (aj 5 Cz) (aV _)) (HR (cC (T4 hr.u66) (aj 7 jH) (gh (aG (aj 1 mV) (aG (aj 2 pF) (aG (aj 3 uX) az)))) (aV _)))))) (aD (aW Rj)) bJ)
  (au (cM (cC (Qd hr.units) (tY rfl (n:=1) (fr:=[8]) (N:=["name","found"]) (GC (scX:=aa ir) (NX:=["script","house","records","wishes","worths","due","name","handed","found"]) rfl rfl (by decide +kernel)) (Dh (aj 8 rO)) (fun _ _ _ _ _=>(qgx (i:=0) (show List.Nodup (α:=Str) ["name","found"] by decide) (K7 (by decide +kernel)))) (fun _ _ _ _ _=>(HY (HQ (rT (aJ (O5.mono (by omega)) hr (glC (by decide +kernel)) j8.m j8.F.kp j8.b .nil aU (gj (cZ (bN hr) (aj 1 (pL.ok (by decide +kernel))) (aj 0 (pL.ok (by decide +kernel)))) az) Ex))))) (fun _ _ _ _ _=>(aj 0 (pL.ok (by decide +kernel))))) (gh az) (aV _)) (aD (aW Rj)) bJ)
  (au (fP (Yu rfl (aj 8 rO)))
  (aD (aW (Fj (wD (KN hr.u66) (aJ (zq.mono (by omega)) hr pW eV.m eV.F.kp eV.b .nil aU (gj (aO cO (aj 7 jH) aA) (gj (aO cO (aj 7 jH) aA) (gj (aO cO (aj 7 jH) aA) az))) pX) (aj 5 Cz) (aV _)) (HW (wD (KN hr.u66) (aJ (zq.mono (by omega)) hr pW eV.m eV.F.kp eV.b .nil aU (aG (aj 1 mV) (aG (aj 2 pF) (XR (gh az) az))) pX) lu (aV _))))))))))))))), ?_⟩
 walk_at "vs"
 intro t h hg hc rcd wl n gv rc kr rm ws H1 S1 et ho1 n17 er1 rD1 ewl hws
 walk_at "vs"
 intro st wd rd kn rmN H2 s2 hst hwd hrd sa hk hrch
 have ho2:=ho1.same s2
 have er2:=s2 _ _ er1
 have T9:=s2 _ _ ewl
 have rD2:=rD1.map fun b q z=>z.same s2
 have est:=sa.e
 obtain⟨kw,kws,ew2,kk,hkw⟩:=sa.ew
 have sok:=sa.ok
 have hat:atI [V.ref wd,V.ref rd] 0=some (.ref wd):=rfl
 have nwr:wd≠rcd:=fun z=>by rw[z,er1] at hwd;cases hwd
 have nww:wd≠wl:=fun z=>by rw[z,ewl] at hwd;cases hwd
 obtain⟨kg,kc,eh1,eg1,ec1,bd1⟩:=id ho1
 have ngw:hg≠wd:=fun z=>by rw[z,hwd] at eg1;cases eg1
 have ncw:hc≠wd:=fun z=>by rw[z,hwd] at ec1;cases ec1
 have hkwl:kw.length<=n:=sa.kl ew2
 walk_at "vs"
 intro pd hpd
 have s3:=aC (.dK []) hpd
 have ho3:=ho2.same s3
 have er3:=s3 _ _ er2
 have aci:=s3 _ _ T9
 have rD3:=rD2.map (H':=upd H2 pd (.dK [])) fun b q z=>z.same s3
 have ew3:=s3 _ _ ew2
 have YD:upd H2 pd (.dK []) pd=some (.dK []):=ao
 have npw:pd≠wd:=fun z=>by rw[z,ew2] at hpd;cases hpd
 have npr:pd≠rcd:=fun z=>by rw[z,er2] at hpd;cases hpd
 have npl:pd≠wl:=fun z=>by rw[z,T9] at hpd;cases hpd
 have npg:pd≠hg:=fun z=>by
  obtain⟨_,_,_,e,_⟩:=ho2
  rw[z,e] at hpd;cases hpd
 have npc:pd≠hc:=fun z=>by
  obtain⟨_,_,_,_,e,_⟩:=ho2
  rw[z,e] at hpd;cases hpd
 generalize upd H2 pd (.dK [])=H3 at *
 walk_at "vs"
 intro o
 have t4:=oW (o:= .frz o (.dK kw)) ew3
 have b4:But [wd] H3 (upd H3 wd (.frz o (.dK kw))):=But.set _ (by simp)
 have ho4:=ho3.but b4 t4 (by simpa using ngw) (by simpa using ncw)
 have er4:upd H3 wd (.frz o (.dK kw)) rcd=some (.dK kr):=(aq (Ne.symm nwr)).trans er3
 have YC:upd H3 wd (.frz o (.dK kw)) wl=some (.lst (ws.map V.str)):=(aq (Ne.symm nww)).trans aci
 have rD4:=rD3.map (H':=upd H3 wd (.frz o (.dK kw))) fun b q z=>z.dk ew3
 have ew4:upd H3 wd (.frz o (.dK kw)) wd=some (.frz o (.dK kw)):=ao
 have afn:upd H3 wd (.frz o (.dK kw)) pd=some (.dK []):=(aq npw).trans YD
 have U4:aQ H1 (upd H3 wd (.frz o (.dK kw))):=cL _ hwd (s2.trans s3)
 have aiO:=same_none s2 hpd
 generalize upd H3 wd (.frz o (.dK kw))=H4 at *
 refine Iv (fun i σ H'=>(∃t1 t2 t3,σ=[some (.ref a),some (.ref h),some (.ref rcd),some (.ref wl),some (.ref wd),some (.ref pd),t1,t2,t3])/\H' wd=some (.frz o (.dK kw))/\aQ H1 H'/\jD H' h hg hc n gv rc/\H' rcd=some (.dK kr)/\H' wl=some (.lst (ws.map V.str))/\p6 H' kr n rm/\∃kp,H' pd=some (.dK kp)/\PpJ H' kp gv rc rm kn (kws.take i)) ?_ ?_ ?_ ?_
 ·exact⟨⟨none,none,none,rfl⟩,ew4,U4,ho4,er4,YC,rD4,[],afn, .nil⟩
 ·intro i σ H' _ hP
  exact hP.2.1
 ·intro i k v σ H5 hkv hP
  obtain⟨⟨t1,t2,t3,rfl⟩,ew5,U5,ho5,er5,YF,rD5,kp,ep5,pJ5⟩:=hP
  have hi:i<kw.length:=(List.getElem?_eq_some_iff.mp hkv).1
  obtain⟨x,rfl,hxi⟩:=kk.at hkv
  have hx:kn x≠none:=(vq kk hkw x).mp (List.mem_of_getElem? hxi)
  have rw5:Rd H5 wd (.dK kw):= .inr ⟨o,ew5⟩
  walk_at "vs"
  intro b p H6 s6 pA pI
  have ho6:=ho5.same s6
  have er6:=s6 _ _ er5
  have aiP:=s6 _ _ YF
  have rD6:=rD5.map fun b q z=>z.same s6
  have ep6:=s6 _ _ ep5
  have ew6:=s6 _ _ ew5
  have hl6:kp.length<=n:=by
   have:=List.length_take_le i kws
   have h2:=kk.len
   rw[pJ5.k.len];omega
  have dp:jn H6 pd (.str x) (.ref b) (upd H6 pd (.dK (putK kp (.inr x) (.ref b)))):=jn.k (k:= .inr x) ep6 (bL (by omega))
  walk_at "vs"
  have t7:=oW (o:= .dK (putK kp (.inr x) (.ref b))) ep6
  have b7:But [pd] H6 (upd H6 pd (.dK (putK kp (.inr x) (.ref b)))):=But.set _ (by simp)
  have hxn:x∉kws.take i:=fun z=>by
   obtain⟨j,hj⟩:=List.getElem?_of_mem z
   have hji:j<i:=by
    have:=(List.getElem?_eq_some_iff.mp hj).1
    have h2:=List.length_take_le i kws
    omega
   rw[List.getElem?_take_of_lt hji] at hj
   obtain⟨h1,e1⟩:=List.getElem?_eq_some_iff.mp hj
   obtain⟨h2,e2⟩:=List.getElem?_eq_some_iff.mp hxi
   have:=(List.getElem_inj kk.nd).mp (e1.trans e2.symm)
   omega
  refine⟨⟨_,_,_,rfl⟩,(aq (Ne.symm npw)).trans ew6,cL _ aiO (U5.trans s6),ho6.but b7 t7 (by simpa using Ne.symm npg) (by simpa using Ne.symm npc),(aq (Ne.symm npr)).trans er6,(aq (Ne.symm npl)).trans aiP,rD6.map fun b q z=>z.dk ep6,_,ao, ?_⟩
  rw[show kws.take (i+1)=kws.take i++[x] by rw[List.take_add_one,hxi];rfl]
  exact((pJ5.same s6).tups t7).put hxn (pA.tups t7) pI
 ·intro σ H5 hP
  obtain⟨⟨t1,t2,t3,rfl⟩,ew5,U5,ho5,er5,YF,rD5,kp,ep5,pJ5⟩:=hP
  rw[show kws.take kw.length=kws by rw[kk.len];exact List.take_length] at pJ5
  clear U4 ew4 ho4 er4 YC rD4 afn t4 b4 ho3 er3 aci rD3 ew3 YD s3 hpd ho2 er2 T9 rD2
  obtain⟨kg',kc',eh5,eg5,ec5,bd5⟩:=id ho5
  have rg5:Rd H5 hg (.dK kg'):= .inl eg5
  walk_at "vs"
  intro g2 hg2
  have s6:=aC (.dK kg') hg2
  have eg6:upd H5 g2 (.dK kg') g2=some (.dK kg'):=ao
  have eh6:=s6 _ _ eh5
  have rc6:Rd (upd H5 g2 (.dK kg')) hc (.dK kc'):= .inl (s6 _ _ ec5)
  generalize upd H5 g2 (.dK kg')=H6 at *
  walk_at "vs"
  intro c2 hc2
  have s7:=aC (.dK kc') hc2
  have ec7:upd H6 c2 (.dK kc') c2=some (.dK kc'):=ao
  have eg7:=s7 _ _ eg6
  have S7:=s6.trans s7
  generalize upd H6 c2 (.dK kc')=H7 at *
  walk_at "vs"
  intro h2 hh2
  have s8:=aC (.tup [.ref g2, .ref c2]) hh2
  have eh8:upd H7 h2 (.tup [.ref g2, .ref c2]) h2=some (.tup [.ref g2, .ref c2]):=ao
  have ec8:=s8 _ _ ec7
  have eg8:=s8 _ _ eg7
  have S8:=S7.trans s8
  have rr8:Rd (upd H7 h2 (.tup [.ref g2, .ref c2])) rcd (.dK kr):= .inl (S8 _ _ er5)
  generalize upd H7 h2 (.tup [.ref g2, .ref c2])=H8 at *
  walk_at "vs"
  intro r2 hr2
  have s9:=aC (.dK kr) hr2
  have er9:upd H8 r2 (.dK kr) r2=some (.dK kr):=ao
  have S9:=S8.trans s9
  have eh9:=s9 _ _ eh8
  have ec9:=s9 _ _ ec8
  have eg9:=s9 _ _ eg8
  have afo:=S9 _ _ YF
  generalize upd H8 r2 (.dK kr)=H9 at *
  have sq9:SqL K H9 wl (ws.map V.str)\/SqT K H9 wl (ws.map V.str):= .inl (SqL.of afo)
  walk_at "vs"
  intro w2 hw2
  have s10:=aC (.lst (ws.map V.str)) hw2
  have afp:upd H9 w2 (.lst (ws.map V.str)) w2=some (.lst (ws.map V.str)):=ao
  have S10:=S9.trans s10
  have afq:=s10 _ _ er9
  have afr:=s10 _ _ eh9
  have JC:=s10 _ _ ec9
  have Oo:=s10 _ _ eg9
  generalize upd H9 w2 (.lst (ws.map V.str))=H10 at *
  walk_at "vs"
  intro hd hhd
  have s11:=aC (.lst [.ref h2, .ref r2, .ref w2]) hhd
  have ehd:upd H10 hd (.lst [.ref h2, .ref r2, .ref w2]) hd=some (.lst [.ref h2, .ref r2, .ref w2]):=ao
  have S11:=S10.trans s11
  have afs:=s11 _ _ afq
  have aft:=s11 _ _ afr
  have Ot:=s11 _ _ JC
  have Oq:=s11 _ _ Oo
  have afu:=s11 _ _ afp
  generalize upd H10 hd (.lst [.ref h2, .ref r2, .ref w2])=H11 at *
  have aiQ:jD H11 h2 g2 c2 n gv rc:=⟨kg',kc',aft,Oq,Ot,bd5.tups (aQ.tups S11)⟩
  have aiR:=rD5.map fun b q z=>z.same S11
  have aid:atI [V.ref h2,V.ref r2,V.ref w2] 0=some (.ref h2):=rfl
  have aie:atI [V.ref h2,V.ref r2,V.ref w2] 1=some (.ref r2):=rfl
  have ae5:atI [V.ref h2,V.ref r2,V.ref w2] 2=some (.ref w2):=rfl
  clear s6 s7 s8 s9 s10 s11 S7 S8 S9 S10 eg6 eh6 rc6 ec7 eg7 eh8 ec8 eg8 rr8 er9 eh9 ec9 eg9 afo sq9 afp afq afr JC Oo hg2 hc2 hh2 hr2 hw2 hhd rg5
  walk_at "vs"
  intro fd1 kf ks1 kn1 rm1 rk1 H12 s12 hf1 ef1 pJ1 aiS bt1
  have n26:n<=26:=by omega
  have ekn:kn1=kn:=Wj n26 bd5.ok.rk bt1.ok sok bt1.w hk bt1.r hrch
  subst ekn
  have S12:=S11.trans s12
  have aiT:=pJ5.same S12
  have hsame:∀x,x∈ks1 ↔ x∈kws:=fun x=>(aiS x).trans (vq kk hkw x).symm
  have rdf:Rd H12 fd1 (.dK kf):= .inl ef1
  have rdd:Rd H12 pd (.dK kp):= .inl (S12 _ _ ep5)
  have sD:=pJ1.alike (K:=K) aiT hsame
  walk_at "vs"
  intro lz hlz
  have s13:=aC (.lst [.ref h, .ref rcd, .ref wl]) hlz
  have elz:upd H12 lz (.lst [.ref h, .ref rcd, .ref wl]) lz=some (.lst [.ref h, .ref rcd, .ref wl]):=ao
  have S13:=S12.trans s13
  have z13:=s12.trans s13
  have aiU:=s13 _ _ ef1
  generalize upd H12 lz (.lst [.ref h, .ref rcd, .ref wl])=H13 at *
  have hgn:∀x∈ws,lF x:=fun x hx=>yt (by omega) x (hws x hx)
  refine⟨hd,lz,_,_,rfl,rfl,SqL.of (z13 _ _ ehd),SqL.of elz,rfl,fun i x y hx hy=> ?_, ?_⟩
  ·match i,hx,hy with
   | 0,hx,hy=>cases hx;cases hy;exact .inl (.inr ⟨h2,h, .ref g2, .ref c2, .ref hg, .ref hc,rfl,rfl,z13 _ _ aft,S13 _ _ eh5, .inr ⟨g2,hg,kg',rfl,rfl, .inl (z13 _ _ Oq), .inl (S13 _ _ eg5),bd5.plG⟩, .inr ⟨c2,hc,kc',rfl,rfl, .inl (z13 _ _ Ot), .inl (S13 _ _ ec5),bd5.plC⟩⟩)
   | 1,hx,hy=>cases hx;cases hy;exact .inl (.inl (.inr ⟨r2,rcd,kr,rfl,rfl, .inl (z13 _ _ afs), .inl (S13 _ _ er5),rD5.plain⟩))
   | 2,hx,hy=>cases hx;cases hy;exact .inr ⟨.list (ws.map PyData.str), .lst (SqL.of (z13 _ _ afu)) (pM ws), .lst (SqL.of (S13 _ _ YF)) (pM ws),Bj hgn⟩
  walk_at "vs"
  intro o2
  have hf0:H fd1=none:=same_none (S1.trans (U5.trans S11)) hf1
  have S14:aQ H11 (upd H13 fd1 (.frz o2 (.dK kf))):=cL _ hf1 z13
  have acA:upd H13 fd1 (.frz o2 (.dK kf)) fd1=some (.frz o2 (.dK kf)):=ao
  have afv:PpJ (upd H13 fd1 (.frz o2 (.dK kf))) kf gv rc rm kn1 ks1:=(pJ1.same s13).tups (oW aiU)
  generalize upd H13 fd1 (.frz o2 (.dK kf))=H14 at *
  intro D hD
  refine Fv (fun i σ' H'=>(∃t,σ'=[t,some (.ref fd1)])/\aQ H14 H'/\H' D=some (.lst [])) ?_ ?_ ?_ ?_
  ·exact⟨⟨none,rfl⟩,aC _ hD,ao⟩
  ·intro i σ' H' _ hP
   exact hP.2.1 _ _ acA
  ·intro i k v σ' H15 hkv hP
   obtain⟨⟨t,rfl⟩,S15,eD⟩:=hP
   obtain⟨x,rfl,hxi⟩:=afv.k.at hkv
   obtain⟨b,p,hb,pA,_⟩:=afv.v x (List.mem_of_getElem? hxi)
   have dg:bT H15 fd1 (.str x) (some (.ref b)):=by rw[<-hb];exact .inl ⟨kf, .inr x, .inr ⟨o2,S15 _ _ acA⟩,rfl,rfl⟩
   have alH:=pA.tups (aQ.tups S15)
   walk_at "vs"
   intro H16 s16
   walk_at "vs"
   exact⟨⟨_,rfl⟩,S15.trans s16,s16 _ _ eD⟩
  ·intro σ' H15 hP
   obtain⟨_,S15,eD⟩:=hP
   walk_at "vs"
   intro l hl
   have s16:=aC (.lst []) hl
   have S16:=S14.trans (S15.trans s16)
   have aiV:=s16 _ _ (S15 _ _ acA)
   refine⟨.list [], .lst (SqL.of (s16 _ _ eD)) .nil, .lst (SqL.of ao) .nil,shaped_ints [], ?_⟩
   generalize upd H15 l (.lst [])=H16 at *
   have S17:aQ H11 (upd H16 fd1 (.dK [])):=cL _ hf1 S16
   have afk:=aiQ.same S17
   have alJ:=S17 _ _ afs
   have afl:=aiR.map (H':=upd H16 fd1 (.dK [])) fun b q z=>z.same S17
   have ak6:Rd H16 fd1 (.dK kf):= .inr ⟨o2,aiV⟩
   have alK:=S17 _ _ afu
   have ak7:=S17 _ _ ehd
   walk_at "vs"
   intro fd2 kf2 ks2 kn2 rm2 rk2 H18 s18 hf2 ef2 pJ2 aiW bt2
   have aiX:kn2=kn1:=Wj n26 bd5.ok.rk bt2.ok sok bt2.w hk bt2.r hrch
   subst aiX
   have S18:=S11.trans (S17.trans s18)
   have aiY:=pJ5.same S18
   have sD2:=pJ2.alike (K:=K) aiY fun x=>(aiW x).trans (vq kk hkw x).symm
   have alL:Rd H18 fd2 (.dK kf2):= .inl ef2
   have alM:Rd H18 pd (.dK kp):= .inl (S18 _ _ ep5)
   walk_at "vs"
   intro le hle
   have s19:=aC (.lst []) hle
   have ele:upd H18 le (.lst []) le=some (.lst (([]:List Str).map V.str)):=ao
   have S19:=S18.trans s19
   have Wx:=ho5.same S19
   have Ua:=S19 _ _ er5
   have YB:=rD5.map (H':=upd H18 le (.lst [])) fun b q z=>z.same S19
   generalize upd H18 le (.lst [])=H19 at *
   refine⟨h,hg,hc,rcd,le,n,gv,rc,kr,rm,[],rfl,Wx,n17,Ua,YB,ele,by simp,fun fd3 kf3 ks3 kn3 rm3 rk3 H20 s20 hf3 ef3 pJ3 aiZ bt3=> ?_⟩
   have e3:kf3=[]:=by
    have h0:ks3=[]:=by
     cases ks3 with
     | nil=>rfl
     | cons y ys=>
       obtain⟨x,hx,_⟩:=bt3.r y ((aiZ y).mp (by simp))
       cases hx
    have:=pJ3.k.len
    rw[h0] at this
    exact List.eq_nil_of_length_eq_zero this
   subst e3
   walk_at "vs"
   intro ld hld
   exact⟨fd3,ld,[],[],rfl,rfl, .inl ((aC _ hld) _ _ ef3), .inl ao,⟨rfl,by simp⟩,q _⟩
end
theorem iK {K:PySem.W.Frag}{h:Heap}{mg:Str->Option Value} (X:K.In h) (G:h.Ns mainGlobals mg) {x:Str}{st:Stmt}{ps:List Str}{f:Addr}{oc:Value}{od an:Option Addr}{osl:Array (Option Value)}{kV doc pm cdv ct:Value}
 (a:PySem.W.nsIn K mainGlobals x=some (some (.ref f))) (l:K.lookup f=some ⟨oc,od, .func (PySem.W.fnOf x x (bz st) (bu st) (aa st) .none kV doc pm an cdv ct),osl⟩) (c:PySem.W.codeIn K cdv x=true) (k:PySem.W.keepIn K (.ref f)=true)
 (hb:∀us:List Value,us.length=ps.length->bindArgs (PySem.W.fnOf x x (bz st) (bu st) (aa st) .none kV doc pm an cdv ct) ⟨us,[]⟩=pure (ps.zip us)):
 FnT K mg x st ps f (PySem.W.fnOf x x (bz st) (bu st) (aa st) .none kV doc pm an cdv ct):=
 ⟨lB l c k,Binds.all hb,PySem.W.mg_of X G a⟩
theorem all_mk {l:PySem.W.OpenLaw}{w:World}{K:PySem.W.Frag}{h:Heap}{mg:Str->Option Value}{fa f1 f2 f3 f4 f5 f6 f7 f8 f9 f10 f11 f12 f13 f14 f15 f16 f17 f18 f19 f20 f21 f22 f23 f24:Addr} (X:K.In h) (G:h.Ns mainGlobals mg) (hfa:mg "law"=some (.ref fa))
 {od1 an1 od2 an2 od3 an3 od4 an4 od5 an5 od6 an6 od7 an7 od8 an8 od9 an9 ai0 ai1 ai2 ai3 ai4 ai5 ai6 ai7 ai8 ai9 aja ajb ajc ajd aje ajf ajg ajh aji ajj ajk ajl ajm ajn ajo ajp ajq ajr ajs afw:Option Addr}{sl1 sl2 sl3 sl4 sl5 sl6 sl7 sl8 sl9 ajt aju ajv ajw ajx ajy ajz ajA ajB ajC ajD ajE ajF ajG ajH:Array (Option Value)}{oc1 kV1 dc1 pm1 cd1 ct1 oc2 kV2 dc2 pm2 cd2 ct2 oc3 kV3 dc3 pm3 cd3 ct3 oc4 kV4 dc4 pm4 cd4 ct4 oc5 kV5 dc5 pm5 cd5 ct5 oc6 kV6 dc6 pm6 cd6 ct6 oc7 kV7 dc7 pm7 cd7 ct7 oc8 kV8 dc8 pm8 cd8 ct8 oc9 kV9 dc9 pm9 cd9 ct9 ajI ajJ ajK ajL afx ajM ajN ajO ajP ajQ afy ajR ajS ajT ajU ajV afz ajW ajX ajY ajZ aj0 afA aj1 aj2 aj3 aj4 aj5 afB aj6 aj7 aj8 aj9 aka afC akb akc akd ake akf afD akg akh aki akj akk afE akl akm akn ako akp afF akq akr aks akt aku afG akv akx aky akz akA afH akB akC akD akE akF afI akG akH akI akJ akK afJ akL akM akN akO akP afK akQ akR afL afM afN acB afO:Value}
 (a1:PySem.W.nsIn K mainGlobals "joined"=some (some (.ref f1))) (l1:K.lookup f1=some ⟨oc1,od1, .func (PySem.W.fnOf "joined" "joined" (bz lR) (bu lR) (aa lR) .none kV1 dc1 pm1 an1 cd1 ct1),sl1⟩) (c1:PySem.W.codeIn K cd1 "joined"=true) (k1:PySem.W.keepIn K (.ref f1)=true)
 (a2:PySem.W.nsIn K mainGlobals "is_whole_number"=some (some (.ref f2))) (l2:K.lookup f2=some ⟨oc2,od2, .func (PySem.W.fnOf "is_whole_number" "is_whole_number" (bz cz) (bu cz) (aa cz) .none kV2 dc2 pm2 an2 cd2 ct2),sl2⟩) (c2:PySem.W.codeIn K cd2 "is_whole_number"=true) (k2:PySem.W.keepIn K (.ref f2)=true)
 (a3:PySem.W.nsIn K mainGlobals "is_same"=some (some (.ref f3))) (l3:K.lookup f3=some ⟨oc3,od3, .func (PySem.W.fnOf "is_same" "is_same" (bz d7) (bu d7) (aa d7) .none kV3 dc3 pm3 an3 cd3 ct3),sl3⟩) (c3:PySem.W.codeIn K cd3 "is_same"=true) (k3:PySem.W.keepIn K (.ref f3)=true)
 (a4:PySem.W.nsIn K mainGlobals "searched"=some (some (.ref f4))) (l4:K.lookup f4=some ⟨oc4,od4, .func (PySem.W.fnOf "searched" "searched" (bz fB) (bu fB) (aa fB) .none kV4 dc4 pm4 an4 cd4 ct4),sl4⟩) (c4:PySem.W.codeIn K cd4 "searched"=true) (k4:PySem.W.keepIn K (.ref f4)=true)
 (a5:PySem.W.nsIn K mainGlobals "build_again"=some (some (.ref f5))) (l5:K.lookup f5=some ⟨oc5,od5, .func (PySem.W.fnOf "build_again" "build_again" (bz cV) (bu cV) (aa cV) .none kV5 dc5 pm5 an5 cd5 ct5),sl5⟩) (c5:PySem.W.codeIn K cd5 "build_again"=true) (k5:PySem.W.keepIn K (.ref f5)=true)
 (a6:PySem.W.nsIn K mainGlobals "paper_of"=some (some (.ref f6))) (l6:K.lookup f6=some ⟨oc6,od6, .func (PySem.W.fnOf "paper_of" "paper_of" (bz cJ) (bu cJ) (aa cJ) .none kV6 dc6 pm6 an6 cd6 ct6),sl6⟩) (c6:PySem.W.codeIn K cd6 "paper_of"=true) (k6:PySem.W.keepIn K (.ref f6)=true)
 (a7:PySem.W.nsIn K mainGlobals "papers_of"=some (some (.ref f7))) (l7:K.lookup f7=some ⟨oc7,od7, .func (PySem.W.fnOf "papers_of" "papers_of" (bz cN) (bu cN) (aa cN) .none kV7 dc7 pm7 an7 cd7 ct7),sl7⟩) (c7:PySem.W.codeIn K cd7 "papers_of"=true) (k7:PySem.W.keepIn K (.ref f7)=true)
 (a8:PySem.W.nsIn K mainGlobals "_law_cell_at"=some (some (.ref f8))) (l8:K.lookup f8=some ⟨oc8,od8, .func (PySem.W.fnOf "_law_cell_at" "_law_cell_at" (bz fO) (bu fO) (aa fO) .none kV8 dc8 pm8 an8 cd8 ct8),sl8⟩) (c8:PySem.W.codeIn K cd8 "_law_cell_at"=true) (k8:PySem.W.keepIn K (.ref f8)=true)
 (a9:PySem.W.nsIn K mainGlobals "_law_pool"=some (some (.ref f9))) (l9:K.lookup f9=some ⟨oc9,od9, .func (PySem.W.fnOf "_law_pool" "_law_pool" (bz iB) (bu iB) (aa iB) .none kV9 dc9 pm9 an9 cd9 ct9),sl9⟩) (c9:PySem.W.codeIn K cd9 "_law_pool"=true) (k9:PySem.W.keepIn K (.ref f9)=true)
 (a10:PySem.W.nsIn K mainGlobals "_law_take"=some (some (.ref f10))) (l10:K.lookup f10=some ⟨ajI,ai0, .func (PySem.W.fnOf "_law_take" "_law_take" (bz dH) (bu dH) (aa dH) .none ajJ ajK ajL ai1 afx ajM),ajt⟩) (c10:PySem.W.codeIn K afx "_law_take"=true) (k10:PySem.W.keepIn K (.ref f10)=true)
 (a11:PySem.W.nsIn K mainGlobals "_law_name"=some (some (.ref f11))) (l11:K.lookup f11=some ⟨ajN,ai2, .func (PySem.W.fnOf "_law_name" "_law_name" (bz jb) (bu jb) (aa jb) .none ajO ajP ajQ ai3 afy ajR),aju⟩) (c11:PySem.W.codeIn K afy "_law_name"=true) (k11:PySem.W.keepIn K (.ref f11)=true)
 (a12:PySem.W.nsIn K mainGlobals "_law_leaf"=some (some (.ref f12))) (l12:K.lookup f12=some ⟨ajS,ai4, .func (PySem.W.fnOf "_law_leaf" "_law_leaf" (bz gG) (bu gG) (aa gG) .none ajT ajU ajV ai5 afz ajW),ajv⟩) (c12:PySem.W.codeIn K afz "_law_leaf"=true) (k12:PySem.W.keepIn K (.ref f12)=true)
 (a13:PySem.W.nsIn K mainGlobals "_law_recipe"=some (some (.ref f13))) (l13:K.lookup f13=some ⟨ajX,ai6, .func (PySem.W.fnOf "_law_recipe" "_law_recipe" (bz aZ) (bu aZ) (aa aZ) .none ajY ajZ aj0 ai7 afA aj1),ajw⟩) (c13:PySem.W.codeIn K afA "_law_recipe"=true) (k13:PySem.W.keepIn K (.ref f13)=true)
 (a14:PySem.W.nsIn K mainGlobals "_law_house"=some (some (.ref f14))) (l14:K.lookup f14=some ⟨aj2,ai8, .func (PySem.W.fnOf "_law_house" "_law_house" (bz bF) (bu bF) (aa bF) .none aj3 aj4 aj5 ai9 afB aj6),ajx⟩) (c14:PySem.W.codeIn K afB "_law_house"=true) (k14:PySem.W.keepIn K (.ref f14)=true)
 (a15:PySem.W.nsIn K mainGlobals "_law_other"=some (some (.ref f15))) (l15:K.lookup f15=some ⟨aj7,aja, .func (PySem.W.fnOf "_law_other" "_law_other" (bz aM) (bu aM) (aa aM) .none aj8 aj9 aka ajb afC akb),ajy⟩) (c15:PySem.W.codeIn K afC "_law_other"=true) (k15:PySem.W.keepIn K (.ref f15)=true)
 (a16:PySem.W.nsIn K mainGlobals "_law_value"=some (some (.ref f16))) (l16:K.lookup f16=some ⟨akc,ajc, .func (PySem.W.fnOf "_law_value" "_law_value" (bz bK) (bu bK) (aa bK) .none akd ake akf ajd afD akg),ajz⟩) (c16:PySem.W.codeIn K afD "_law_value"=true) (k16:PySem.W.keepIn K (.ref f16)=true)
 (a17:PySem.W.nsIn K mainGlobals "_law_look"=some (some (.ref f17))) (l17:K.lookup f17=some ⟨akh,aje, .func (PySem.W.fnOf "_law_look" "_law_look" (bz eG) (bu eG) (aa eG) .none aki akj akk ajf afE akl),ajA⟩) (c17:PySem.W.codeIn K afE "_law_look"=true) (k17:PySem.W.keepIn K (.ref f17)=true)
 (a18:PySem.W.nsIn K mainGlobals "_law_settled"=some (some (.ref f18))) (l18:K.lookup f18=some ⟨akm,ajg, .func (PySem.W.fnOf "_law_settled" "_law_settled" (bz bA) (bu bA) (aa bA) .none akn ako akp ajh afF akq),ajB⟩) (c18:PySem.W.codeIn K afF "_law_settled"=true) (k18:PySem.W.keepIn K (.ref f18)=true)
 (a19:PySem.W.nsIn K mainGlobals "_law_fresh"=some (some (.ref f19))) (l19:K.lookup f19=some ⟨akr,aji, .func (PySem.W.fnOf "_law_fresh" "_law_fresh" (bz dX) (bu dX) (aa dX) .none aks akt aku ajj afG akv),ajC⟩) (c19:PySem.W.codeIn K afG "_law_fresh"=true) (k19:PySem.W.keepIn K (.ref f19)=true)
 (a20:PySem.W.nsIn K mainGlobals "_law_wishes"=some (some (.ref f20))) (l20:K.lookup f20=some ⟨akx,ajk, .func (PySem.W.fnOf "_law_wishes" "_law_wishes" (bz dm) (bu dm) (aa dm) .none aky akz akA ajl afH akB),ajD⟩) (c20:PySem.W.codeIn K afH "_law_wishes"=true) (k20:PySem.W.keepIn K (.ref f20)=true)
 (a21:PySem.W.nsIn K mainGlobals "_law_case"=some (some (.ref f21))) (l21:K.lookup f21=some ⟨akC,ajm, .func (PySem.W.fnOf "_law_case" "_law_case" (bz bh) (bu bh) (aa bh) .none akD akE akF ajn afI akG),ajE⟩) (c21:PySem.W.codeIn K afI "_law_case"=true) (k21:PySem.W.keepIn K (.ref f21)=true)
 (a22:PySem.W.nsIn K mainGlobals "_law_paper"=some (some (.ref f22))) (l22:K.lookup f22=some ⟨akH,ajo, .func (PySem.W.fnOf "_law_paper" "_law_paper" (bz cH) (bu cH) (aa cH) .none akI akJ akK ajp afJ akL),ajF⟩) (c22:PySem.W.codeIn K afJ "_law_paper"=true) (k22:PySem.W.keepIn K (.ref f22)=true)
 (a23:PySem.W.nsIn K mainGlobals "_law_plain"=some (some (.ref f23))) (l23:K.lookup f23=some ⟨akM,ajq, .func (PySem.W.fnOf "_law_plain" "_law_plain" (bz gU) (bu gU) (aa gU) .none akN akO akP ajr afK akQ),ajG⟩) (c23:PySem.W.codeIn K afK "_law_plain"=true) (k23:PySem.W.keepIn K (.ref f23)=true)
 (a24:PySem.W.nsIn K mainGlobals "law"=some (some (.ref f24))) (l24:K.lookup f24=some ⟨akR,ajs, .func (PySem.W.fnOf "law" "law" (bz ir) (bu ir) (aa ir) .none afL afM afN afw acB afO),ajH⟩) (c24:PySem.W.codeIn K acB "law"=true) (k24:PySem.W.keepIn K (.ref f24)=true)
 (kd:Kinds K)
 {CK:Addr} (ACK:PySem.W.nsIn K mainGlobals "Reckoning"=some (some (.ref CK)))
 {YG:Addr}{afP afQ:Option Addr}{afR:Array (Option Value)}{afS afT afU afV aak afW:Value}
 (YH:PySem.W.findIn K (.ref CK) "__init__"=some (some (.ref YG))) (YJ:PySem.W.isFn K (.ref YG)=true) (acC:K.lookup YG=some ⟨afS,afP, .func (PySem.W.fnOf "__init__" "Reckoning.__init__" (bz cG) (bu cG) (aa cG) .none afT afU afV afQ aak afW),afR⟩) (acD:PySem.W.codeIn K aak "Reckoning.__init__"=true) (YK:PySem.W.keepIn K (.ref YG)=true)
 {YL:Addr}{afX afY:Option Addr}{afZ:Array (Option Value)}{af0 af1 af2 af3 aal af4:Value}
 (acE:PySem.W.findIn K (.ref CK) "lacking"=some (some (.ref YL))) (acF:PySem.W.isFn K (.ref YL)=true) (acG:K.lookup YL=some ⟨af0,afX, .func (PySem.W.fnOf "lacking" "Reckoning.lacking" (bz bY) (bu bY) (aa bY) .none af1 af2 af3 afY aal af4),afZ⟩) (acH:PySem.W.codeIn K aal "Reckoning.lacking"=true) (YM:PySem.W.keepIn K (.ref YL)=true)
 {YQ:Addr}{af5 af6:Option Addr}{af7:Array (Option Value)}{af8 af9 aga agb aam agc:Value}
 (acI:PySem.W.findIn K (.ref CK) "go_on"=some (some (.ref YQ))) (acJ:PySem.W.isFn K (.ref YQ)=true) (acK:K.lookup YQ=some ⟨af8,af5, .func (PySem.W.fnOf "go_on" "Reckoning.go_on" (bz aN) (bu aN) (aa aN) .none af9 aga agb af6 aam agc),af7⟩) (acL:PySem.W.codeIn K aam "Reckoning.go_on"=true) (YS:PySem.W.keepIn K (.ref YQ)=true)
 (acM:PySem.W.plainGet K CK Str.empty=true) (acN:PySem.W.hasDictIn K CK=true) (acO:PySem.W.plainOver K CK=true) (acP:PySem.W.findIn K (.ref CK) "__setattr__"=some (some (.builtin "object.__setattr__"))) (acQ:PySem.W.makesIn K CK=true) (acR:PySem.W.keepIn K (.ref CK)=true)
 (JK:PySem.W.findIn K (.ref CK) "todo"=some none)
 (Gr:PySem.W.findIn K (.ref CK) "found"=some none)
 (Gs:PySem.W.findIn K (.ref CK) "reads"=some none)
 {CN:Addr} (ACN:PySem.W.nsIn K mainGlobals "NamedRecords"=some (some (.ref CN)))
 {YT:Addr}{agd age:Option Addr}{agf:Array (Option Value)}{agg agh agi agj aan agk:Value}
 (YW:PySem.W.findIn K (.ref CN) "__init__"=some (some (.ref YT))) (YX:PySem.W.isFn K (.ref YT)=true) (acS:K.lookup YT=some ⟨agg,agd, .func (PySem.W.fnOf "__init__" "NamedRecords.__init__" (bz bU) (bu bU) (aa bU) .none agh agi agj age aan agk),agf⟩) (acT:PySem.W.codeIn K aan "NamedRecords.__init__"=true) (YZ:PySem.W.keepIn K (.ref YT)=true)
 {Y0:Addr}{agl agm:Option Addr}{agn:Array (Option Value)}{ago agp agq agr aao ags:Value}
 (acU:PySem.W.findIn K (.ref CN) "records_for"=some (some (.ref Y0))) (acV:PySem.W.isFn K (.ref Y0)=true) (acW:K.lookup Y0=some ⟨ago,agl, .func (PySem.W.fnOf "records_for" "NamedRecords.records_for" (bz aR) (bu aR) (aa aR) .none agp agq agr agm aao ags),agn⟩) (acX:PySem.W.codeIn K aao "NamedRecords.records_for"=true) (Y4:PySem.W.keepIn K (.ref Y0)=true)
 {Y5:Addr}{agt agu:Option Addr}{agv:Array (Option Value)}{agw agx agy agz aap agA:Value}
 (acY:PySem.W.findIn K (.ref CN) "put_made"=some (some (.ref Y5))) (acZ:PySem.W.isFn K (.ref Y5)=true) (ac0:K.lookup Y5=some ⟨agw,agt, .func (PySem.W.fnOf "put_made" "NamedRecords.put_made" (bz cQ) (bu cQ) (aa cQ) .none agx agy agz agu aap agA),agv⟩) (ac1:PySem.W.codeIn K aap "NamedRecords.put_made"=true) (Y6:PySem.W.keepIn K (.ref Y5)=true)
 (ac2:PySem.W.plainGet K CN Str.empty=true) (ac3:PySem.W.hasDictIn K CN=true) (ac4:PySem.W.plainOver K CN=true) (ac5:PySem.W.findIn K (.ref CN) "__setattr__"=some (some (.builtin "object.__setattr__"))) (ac6:PySem.W.makesIn K CN=true) (ac7:PySem.W.keepIn K (.ref CN)=true)
 (zu:PySem.W.findIn K (.ref CN) "by_name"=some none)
 {CS:Addr} (ACS:PySem.W.nsIn K mainGlobals "Settling"=some (some (.ref CS)))
 {Y7:Addr}{agB agC:Option Addr}{agD:Array (Option Value)}{agE agF agG agH aaq agI:Value}
 (Y8:PySem.W.findIn K (.ref CS) "__init__"=some (some (.ref Y7))) (Y9:PySem.W.isFn K (.ref Y7)=true) (ac8:K.lookup Y7=some ⟨agE,agB, .func (PySem.W.fnOf "__init__" "Settling.__init__" (bz bZ) (bu bZ) (aa bZ) .none agF agG agH agC aaq agI),agD⟩) (ac9:PySem.W.codeIn K aaq "Settling.__init__"=true) (Za:PySem.W.keepIn K (.ref Y7)=true)
 {Zb:Addr}{agJ agK:Option Addr}{agL:Array (Option Value)}{agM agN agO agP aar agQ:Value}
 (ada:PySem.W.findIn K (.ref CS) "lacking"=some (some (.ref Zb))) (adb:PySem.W.isFn K (.ref Zb)=true) (ade:K.lookup Zb=some ⟨agM,agJ, .func (PySem.W.fnOf "lacking" "Settling.lacking" (bz bC) (bu bC) (aa bC) .none agN agO agP agK aar agQ),agL⟩) (adf:PySem.W.codeIn K aar "Settling.lacking"=true) (Zc:PySem.W.keepIn K (.ref Zb)=true)
 {Zd:Addr}{agR agS:Option Addr}{agT:Array (Option Value)}{agU agV agW agX aas agY:Value}
 (adg:PySem.W.findIn K (.ref CS) "fit_on"=some (some (.ref Zd))) (adh:PySem.W.isFn K (.ref Zd)=true) (adi:K.lookup Zd=some ⟨agU,agR, .func (PySem.W.fnOf "fit_on" "Settling.fit_on" (bz dM) (bu dM) (aa dM) .none agV agW agX agS aas agY),agT⟩) (adk:PySem.W.codeIn K aas "Settling.fit_on"=true) (Ze:PySem.W.keepIn K (.ref Zd)=true)
 {Zf:Addr}{agZ ag0:Option Addr}{ag1:Array (Option Value)}{ag2 ag3 ag4 ag5 aat ag6:Value}
 (adl:PySem.W.findIn K (.ref CS) "was_reckoned"=some (some (.ref Zf))) (adm:PySem.W.isFn K (.ref Zf)=true) (adn:K.lookup Zf=some ⟨ag2,agZ, .func (PySem.W.fnOf "was_reckoned" "Settling.was_reckoned" (bz bH) (bu bH) (aa bH) .none ag3 ag4 ag5 ag0 aat ag6),ag1⟩) (ado:PySem.W.codeIn K aat "Settling.was_reckoned"=true) (Zg:PySem.W.keepIn K (.ref Zf)=true)
 {Zh:Addr}{ag7 ag8:Option Addr}{ag9:Array (Option Value)}{aha ahb ahc ahd aau ahe:Value}
 (adp:PySem.W.findIn K (.ref CS) "new_record"=some (some (.ref Zh))) (adq:PySem.W.isFn K (.ref Zh)=true) (adt:K.lookup Zh=some ⟨aha,ag7, .func (PySem.W.fnOf "new_record" "Settling.new_record" (bz cB) (bu cB) (aa cB) .none ahb ahc ahd ag8 aau ahe),ag9⟩) (adu:PySem.W.codeIn K aau "Settling.new_record"=true) (Zi:PySem.W.keepIn K (.ref Zh)=true)
 (adv:PySem.W.plainGet K CS Str.empty=true) (adw:PySem.W.hasDictIn K CS=true) (adx:PySem.W.plainOver K CS=true) (ady:PySem.W.findIn K (.ref CS) "__setattr__"=some (some (.builtin "object.__setattr__"))) (adz:PySem.W.makesIn K CS=true) (adA:PySem.W.keepIn K (.ref CS)=true)
 (CG:PySem.W.findIn K (.ref CS) "recipe"=some none)
 (zx:PySem.W.findIn K (.ref CS) "fitting"=some none)
 (Gu:PySem.W.findIn K (.ref CS) "place"=some none)
 (uY:PySem.W.findIn K (.ref CS) "reckoning"=some none)
 {CE:Addr} (ACE:PySem.W.nsIn K mainGlobals "Search"=some (some (.ref CE)))
 {Zj:Addr}{ahf ahg:Option Addr}{ahh:Array (Option Value)}{ahi ahj ahk ahl aav ahm:Value}
 (Zk:PySem.W.findIn K (.ref CE) "__init__"=some (some (.ref Zj))) (Zm:PySem.W.isFn K (.ref Zj)=true) (adB:K.lookup Zj=some ⟨ahi,ahf, .func (PySem.W.fnOf "__init__" "Search.__init__" (bz cU) (bu cU) (aa cU) .none ahj ahk ahl ahg aav ahm),ahh⟩) (adC:PySem.W.codeIn K aav "Search.__init__"=true) (Zn:PySem.W.keepIn K (.ref Zj)=true)
 {Zo:Addr}{ahn aho:Option Addr}{ahp:Array (Option Value)}{ahq ahr ahs aht aaw ahu:Value}
 (adD:PySem.W.findIn K (.ref CE) "begin"=some (some (.ref Zo))) (adE:PySem.W.isFn K (.ref Zo)=true) (adF:K.lookup Zo=some ⟨ahq,ahn, .func (PySem.W.fnOf "begin" "Search.begin" (bz dz) (bu dz) (aa dz) .none ahr ahs aht aho aaw ahu),ahp⟩) (adG:PySem.W.codeIn K aaw "Search.begin"=true) (Zq:PySem.W.keepIn K (.ref Zo)=true)
 {Zr:Addr}{ahv ahw:Option Addr}{ahx:Array (Option Value)}{ahy ahz ahA ahB aax ahC:Value}
 (adH:PySem.W.findIn K (.ref CE) "end"=some (some (.ref Zr))) (adI:PySem.W.isFn K (.ref Zr)=true) (adJ:K.lookup Zr=some ⟨ahy,ahv, .func (PySem.W.fnOf "end" "Search.end" (bz eZ) (bu eZ) (aa eZ) .none ahz ahA ahB ahw aax ahC),ahx⟩) (adK:PySem.W.codeIn K aax "Search.end"=true) (Zt:PySem.W.keepIn K (.ref Zr)=true)
 {Zu:Addr}{ahD ahE:Option Addr}{ahF:Array (Option Value)}{ahG ahH ahI ahJ aay ahK:Value}
 (adL:PySem.W.findIn K (.ref CE) "made"=some (some (.ref Zu))) (adM:PySem.W.isFn K (.ref Zu)=true) (adN:K.lookup Zu=some ⟨ahG,ahD, .func (PySem.W.fnOf "made" "Search.made" (bz gJ) (bu gJ) (aa gJ) .none ahH ahI ahJ ahE aay ahK),ahF⟩) (adO:PySem.W.codeIn K aay "Search.made"=true) (Zv:PySem.W.keepIn K (.ref Zu)=true)
 {Zw:Addr}{ahL ahM:Option Addr}{ahN:Array (Option Value)}{ahO ahP ahQ ahR aaz ahS:Value}
 (adP:PySem.W.findIn K (.ref CE) "kept"=some (some (.ref Zw))) (adQ:PySem.W.isFn K (.ref Zw)=true) (adR:K.lookup Zw=some ⟨ahO,ahL, .func (PySem.W.fnOf "kept" "Search.kept" (bz gK) (bu gK) (aa gK) .none ahP ahQ ahR ahM aaz ahS),ahN⟩) (adS:PySem.W.codeIn K aaz "Search.kept"=true) (Zx:PySem.W.keepIn K (.ref Zw)=true)
 {Zy:Addr}{ahT ahU:Option Addr}{ahV:Array (Option Value)}{ahW ahX ahY ahZ aaA ah0:Value}
 (adT:PySem.W.findIn K (.ref CE) "settle"=some (some (.ref Zy))) (adU:PySem.W.isFn K (.ref Zy)=true) (adV:K.lookup Zy=some ⟨ahW,ahT, .func (PySem.W.fnOf "settle" "Search.settle" (bz bD) (bu bD) (aa bD) .none ahX ahY ahZ ahU aaA ah0),ahV⟩) (adW:PySem.W.codeIn K aaA "Search.settle"=true) (Zz:PySem.W.keepIn K (.ref Zy)=true)
 (adX:PySem.W.plainGet K CE Str.empty=true) (adY:PySem.W.hasDictIn K CE=true) (adZ:PySem.W.plainOver K CE=true) (ad0:PySem.W.findIn K (.ref CE) "__setattr__"=some (some (.builtin "object.__setattr__"))) (ad1:PySem.W.makesIn K CE=true) (ad2:PySem.W.keepIn K (.ref CE)=true)
 (Gv:PySem.W.findIn K (.ref CE) "given"=some none)
 (zy:PySem.W.findIn K (.ref CE) "recipes"=some none)
 (Ms:PySem.W.findIn K (.ref CE) "old"=some none)
 (Gw:PySem.W.findIn K (.ref CE) "known"=some none)
 (zA:PySem.W.findIn K (.ref CE) "settled"=some none)
 (xK:PySem.W.findIn K (.ref CE) "reckoned"=some none)
 (WK:PySem.W.nsIn K mainGlobals "len"=some none)
 (Mt:PySem.W.nsIn K mainGlobals "range"=some none)
 (WL:PySem.W.nsIn K mainGlobals "str"=some none)
 (WM:PySem.W.nsIn K mainGlobals "int"=some none)
 (QH:PySem.W.nsIn K mainGlobals "list"=some none)
 (Mv:PySem.W.nsIn K mainGlobals "tuple"=some none)
 (xM:PySem.W.nsIn K mainGlobals "isinstance"=some none)
 (QJ:PySem.W.nsIn K mainGlobals "bool"=some none)
 (QK:PySem.W.nsIn K mainGlobals "dict"=some none)
 (WN:PySem.W.nsIn K mainGlobals "sum"=some none)
 (WQ:PySem.W.nsIn K mainGlobals "all"=some none)
 (WR:PySem.W.nsIn K mainGlobals "any"=some none)
 (WT:PySem.W.nsIn K mainGlobals "max"=some none)
 (WW:PySem.W.nsIn K mainGlobals "min"=some none)
 (JL:PySem.W.nsIn K mainGlobals "sorted"=some none)
 (WX:PySem.W.nsIn K mainGlobals "set"=some none)
 (zB:PySem.W.nsIn K mainGlobals "enumerate"=some none)
 (WY:PySem.W.nsIn K mainGlobals "zip"=some none)
 (CJ:PySem.W.nsIn K mainGlobals "reversed"=some none)
 (W0:PySem.W.nsIn K mainGlobals "abs"=some none)
 :∃fd:FuncData,(∀(s:Shared) (v:Value),BindsTo s fd ⟨[v],[]⟩ [("script",v)])/\∀base:Heap,K.In base->base.Ns mainGlobals mg->aX l.prog w K mg base CX0 140 fa fd ["script"] (Rt K):=by
 have e:=hfa.symm.trans (PySem.W.mg_of X G a24)
 cases e
 have qd:FnT K mg "joined" lR ["kind","r","s"] _ _:=iK X G a1 l1 c1 k1 (fun us hl=>match us,hl with |[_,_,_],_=>rfl)
 have bB:FnT K mg "is_whole_number" cz ["thing"] _ _:=iK X G a2 l2 c2 k2 (fun us hl=>match us,hl with |[_],_=>rfl)
 have dO:FnT K mg "is_same" d7 ["told","thing"] _ _:=iK X G a3 l3 c3 k3 (fun us hl=>match us,hl with |[_,_],_=>rfl)
 have lZ:FnT K mg "searched" fB ["house","old","wishes"] _ _:=iK X G a4 l4 c4 k4 (fun us hl=>match us,hl with |[_,_,_],_=>rfl)
 have iQ:FnT K mg "build_again" cV ["house","records","wishes"] _ _:=iK X G a5 l5 c5 k5 (fun us hl=>match us,hl with |[_,_,_],_=>rfl)
 have mF:FnT K mg "paper_of" cJ ["house","records","worths","name"] _ _:=iK X G a6 l6 c6 k6 (fun us hl=>match us,hl with |[_,_,_,_],_=>rfl)
 have eV:FnT K mg "papers_of" cN ["house","records","wishes"] _ _:=iK X G a7 l7 c7 k7 (fun us hl=>match us,hl with |[_,_,_],_=>rfl)
 have eY:FnT K mg "_law_cell_at" fO ["script","k"] _ _:=iK X G a8 l8 c8 k8 (fun us hl=>match us,hl with |[_,_],_=>rfl)
 have bM:FnT K mg "_law_pool" iB ["script","k"] _ _:=iK X G a9 l9 c9 k9 (fun us hl=>match us,hl with |[_,_],_=>rfl)
 have aB:FnT K mg "_law_take" dH ["pool","many"] _ _:=iK X G a10 l10 c10 k10 (fun us hl=>match us,hl with |[_,_],_=>rfl)
 have di:FnT K mg "_law_name" jb ["k"] _ _:=iK X G a11 l11 c11 k11 (fun us hl=>match us,hl with |[_],_=>rfl)
 have fY:FnT K mg "_law_leaf" gG ["pool","names"] _ _:=iK X G a12 l12 c12 k12 (fun us hl=>match us,hl with |[_,_],_=>rfl)
 have aL:FnT K mg "_law_recipe" aZ ["pool","names","deep"] _ _:=iK X G a13 l13 c13 k13 (fun us hl=>match us,hl with |[_,_,_],_=>rfl)
 have j6:FnT K mg "_law_house" bF ["script","start","many"] _ _:=iK X G a14 l14 c14 k14 (fun us hl=>match us,hl with |[_,_,_],_=>rfl)
 have gO:FnT K mg "_law_other" aM ["house","script","start","most"] _ _:=iK X G a15 l15 c15 k15 (fun us hl=>match us,hl with |[_,_,_,_],_=>rfl)
 have bQ:FnT K mg "_law_value" bK ["house","r","state","reads"] _ _:=iK X G a16 l16 c16 k16 (fun us hl=>match us,hl with |[_,_,_,_],_=>rfl)
 have dW:FnT K mg "_law_look" eG ["house","name","state","reads"] _ _:=iK X G a17 l17 c17 k17 (fun us hl=>match us,hl with |[_,_,_,_],_=>rfl)
 have cF:FnT K mg "_law_settled" bA ["house","name","state"] _ _:=iK X G a18 l18 c18 k18 (fun us hl=>match us,hl with |[_,_,_],_=>rfl)
 have dD:FnT K mg "_law_fresh" dX ["house","wishes"] _ _:=iK X G a19 l19 c19 k19 (fun us hl=>match us,hl with |[_,_],_=>rfl)
 have dN:FnT K mg "_law_wishes" dm ["house","pool"] _ _:=iK X G a20 l20 c20 k20 (fun us hl=>match us,hl with |[_,_],_=>rfl)
 have mD:FnT K mg "_law_case" bh ["script"] _ _:=iK X G a21 l21 c21 k21 (fun us hl=>match us,hl with |[_],_=>rfl)
 have j7:FnT K mg "_law_paper" cH ["house","records","worths","name"] _ _:=iK X G a22 l22 c22 k22 (fun us hl=>match us,hl with |[_,_,_,_],_=>rfl)
 have j8:FnT K mg "_law_plain" gU ["paper"] _ _:=iK X G a23 l23 c23 k23 (fun us hl=>match us,hl with |[_],_=>rfl)
 have WD:FnT K mg "law" ir ["script"] _ _:=iK X G a24 l24 c24 k24 (fun us hl=>match us,hl with |[_],_=>rfl)
 have fK:gW K CK "__init__" "Reckoning.__init__" cG ["self","r"] _ _:=⟨lB acC acD YK,Binds.all (fun us hl=>match us,hl with |[_,_],_=>rfl),⟨YH,YJ,YK⟩⟩
 have eF:gW K CK "lacking" "Reckoning.lacking" bY ["self","known"] _ _:=⟨lB acG acH YM,Binds.all (fun us hl=>match us,hl with |[_,_],_=>rfl),⟨acE,acF,YM⟩⟩
 have fU:gW K CK "go_on" "Reckoning.go_on" aN ["self","step"] _ _:=⟨lB acK acL YS,Binds.all (fun us hl=>match us,hl with |[_,_],_=>rfl),⟨acI,acJ,YS⟩⟩
 have akS:Cls K CK:=⟨acM,acN,acO,acP⟩
 have yR:Mk K CK _:=⟨acQ,YH,YJ,acR⟩
 have yS:=PySem.W.mg_of X G ACK
 have dR:gW K CN "__init__" "NamedRecords.__init__" bU ["self","records"] _ _:=⟨lB acS acT YZ,Binds.all (fun us hl=>match us,hl with |[_,_],_=>rfl),⟨YW,YX,YZ⟩⟩
 have cA:gW K CN "records_for" "NamedRecords.records_for" aR ["self","name","r"] _ _:=⟨lB acW acX Y4,Binds.all (fun us hl=>match us,hl with |[_,_,_],_=>rfl),⟨acU,acV,Y4⟩⟩
 have cR:gW K CN "put_made" "NamedRecords.put_made" cQ ["self","record"] _ _:=⟨lB ac0 ac1 Y6,Binds.all (fun us hl=>match us,hl with |[_,_],_=>rfl),⟨acY,acZ,Y6⟩⟩
 have akT:Cls K CN:=⟨ac2,ac3,ac4,ac5⟩
 have sH:Mk K CN _:=⟨ac6,YW,YX,ac7⟩
 have sI:=PySem.W.mg_of X G ACN
 have gf:gW K CS "__init__" "Settling.__init__" bZ ["self","r","records"] _ _:=⟨lB ac8 ac9 Za,Binds.all (fun us hl=>match us,hl with |[_,_,_],_=>rfl),⟨Y8,Y9,Za⟩⟩
 have fu:gW K CS "lacking" "Settling.lacking" bC ["self","known"] _ _:=⟨lB ade adf Zc,Binds.all (fun us hl=>match us,hl with |[_,_],_=>rfl),⟨ada,adb,Zc⟩⟩
 have fX:gW K CS "fit_on" "Settling.fit_on" dM ["self","worth"] _ _:=⟨lB adi adk Ze,Binds.all (fun us hl=>match us,hl with |[_,_],_=>rfl),⟨adg,adh,Ze⟩⟩
 have bx:gW K CS "was_reckoned" "Settling.was_reckoned" bH ["self"] _ _:=⟨lB adn ado Zg,Binds.all (fun us hl=>match us,hl with |[_],_=>rfl),⟨adl,adm,Zg⟩⟩
 have dF:gW K CS "new_record" "Settling.new_record" cB ["self"] _ _:=⟨lB adt adu Zi,Binds.all (fun us hl=>match us,hl with |[_],_=>rfl),⟨adp,adq,Zi⟩⟩
 have akU:Cls K CS:=⟨adv,adw,adx,ady⟩
 have Bv:Mk K CS _:=⟨adz,Y8,Y9,adA⟩
 have Bw:=PySem.W.mg_of X G ACS
 have ie:gW K CE "__init__" "Search.__init__" cU ["self","house","old"] _ _:=⟨lB adB adC Zn,Binds.all (fun us hl=>match us,hl with |[_,_,_],_=>rfl),⟨Zk,Zm,Zn⟩⟩
 have iZ:gW K CE "begin" "Search.begin" dz ["self","name"] _ _:=⟨lB adF adG Zq,Binds.all (fun us hl=>match us,hl with |[_,_],_=>rfl),⟨adD,adE,Zq⟩⟩
 have kh:gW K CE "end" "Search.end" eZ ["self","name","settling"] _ _:=⟨lB adJ adK Zt,Binds.all (fun us hl=>match us,hl with |[_,_,_],_=>rfl),⟨adH,adI,Zt⟩⟩
 have jF:gW K CE "made" "Search.made" gJ ["self"] _ _:=⟨lB adN adO Zv,Binds.all (fun us hl=>match us,hl with |[_],_=>rfl),⟨adL,adM,Zv⟩⟩
 have jG:gW K CE "kept" "Search.kept" gK ["self"] _ _:=⟨lB adR adS Zx,Binds.all (fun us hl=>match us,hl with |[_],_=>rfl),⟨adP,adQ,Zx⟩⟩
 have iz:gW K CE "settle" "Search.settle" bD ["self","name"] _ _:=⟨lB adV adW Zz,Binds.all (fun us hl=>match us,hl with |[_,_],_=>rfl),⟨adT,adU,Zz⟩⟩
 have akV:Cls K CE:=⟨adX,adY,adZ,ad0⟩
 have Ju:Mk K CE _:=⟨ad1,Zk,Zm,ad2⟩
 have Jv:=PySem.W.mg_of X G ACE
 have T:Blt mg:=⟨PySem.W.mg_none_of X G WK,PySem.W.mg_none_of X G Mt,PySem.W.mg_none_of X G WL,PySem.W.mg_none_of X G WM,PySem.W.mg_none_of X G QH,PySem.W.mg_none_of X G Mv,PySem.W.mg_none_of X G xM,PySem.W.mg_none_of X G QJ,PySem.W.mg_none_of X G QK,PySem.W.mg_none_of X G WN,PySem.W.mg_none_of X G WQ,PySem.W.mg_none_of X G WR,PySem.W.mg_none_of X G WT,PySem.W.mg_none_of X G WW,PySem.W.mg_none_of X G JL,PySem.W.mg_none_of X G WX,PySem.W.mg_none_of X G zB,PySem.W.mg_none_of X G WY,PySem.W.mg_none_of X G CJ,PySem.W.mg_none_of X G W0⟩
 refine⟨PySem.W.fnOf "law" "law" (bz ir) (bu ir) (aa ir) .none afL afM afN afw acB afO,fun s v=> .of_eq rfl,fun base _ _=> ?_⟩
 have rkc:RkC K CK:=⟨akS,JK,Gr,Gs⟩
 have nrc:NrC K CN:=⟨akT,zu⟩
 have sec:SeC K CS:=⟨akU,CG,zx,Gu,uY⟩
 have src:SrC K CE:=⟨akV,Gv,zy,Ms,Gw,zA,xK⟩
 have D1:=T6 (P:=l.prog) (w:=w) (base:=base) qd T
 have D2:=xU (P:=l.prog) (w:=w) (base:=base) (mg:=mg) fK rkc
 have D3:=Bm (P:=l.prog) (w:=w) (base:=base) fU qd D1 T rkc
 have D4:=yH (P:=l.prog) (w:=w) (base:=base) eF fU D3 T rkc
 have D5:=Bp (P:=l.prog) (w:=w) (base:=base) bB T kd
 have D6:=Jo (P:=l.prog) (w:=w) (base:=base) dO bB D5 T kd 10
 have D7:=uG (P:=l.prog) (w:=w) (base:=base) (mg:=mg) dR nrc
 have D8:=uI (P:=l.prog) (w:=w) (base:=base) (mg:=mg) cR
 have D9:=rE (P:=l.prog) (w:=w) (base:=base) cA dO D6 T nrc
 have C1:=yP (P:=l.prog) (w:=w) (base:=base) gf fK D2 yR yS sec
 have C2:=uK (P:=l.prog) (w:=w) (base:=base) bx T sec
 have C3:=Bs (P:=l.prog) (w:=w) (base:=base) (mg:=mg) fX sec
 have C4:=zT (P:=l.prog) (w:=w) (base:=base) fu fX C3 eF D4 T sec rkc
 have C5:=wU (P:=l.prog) (w:=w) (base:=base) dF bx C2 T sec rkc
 have C6:=Bu (P:=l.prog) (w:=w) (base:=base) (mg:=mg) ie src
 have C7:=G7 (P:=l.prog) (w:=w) (base:=base) iZ cA D9 gf C1 Bv Bw T src nrc
 have C8:=JX (P:=l.prog) (w:=w) (base:=base) kh dF C5 bx C2 cR D8 T src sec nrc
 have C9:=Fw (P:=l.prog) (w:=w) (base:=base) iz iZ C7 fu C4 kh C8 T src sec
 have CA:=Jr (P:=l.prog) (w:=w) (base:=base) jF T src
 have CB:=Jt (P:=l.prog) (w:=w) (base:=base) jG T src
 have CC:=Oe (P:=l.prog) (w:=w) (base:=base) lZ ie C6 iz C9 Ju Jv T src
 have DA:=Jw (P:=l.prog) (w:=w) (base:=base) iQ lZ CC dR D7 sH sI jF CA jG CB T src
 have F1:=Jy (P:=l.prog) (w:=w) (base:=base) eY T
 have F2:=Oh (P:=l.prog) (w:=w) (base:=base) bM eY F1 T
 have F3:=Oi (P:=l.prog) (w:=w) (base:=base) aB T
 have F4:=Oj (P:=l.prog) (w:=w) (base:=base) di T
 have F5:=Om (P:=l.prog) (w:=w) (base:=base) fY aB F3 T
 have F6:=Jz (P:=l.prog) (w:=w) (base:=base) aL aB F3 fY F5 T
 have F7:=Mf (P:=l.prog) (w:=w) (base:=base) j6 aB F3 bM F2 di F4 aL F6 T
 have F8:=Mg (P:=l.prog) (w:=w) (base:=base) gO aB F3 bM F2 di F4 aL F6 T
 have F9:=zf (P:=l.prog) (w:=w) (base:=base) cF bQ dW T 17
 have E1:=Mi (P:=l.prog) (w:=w) (base:=base) dD cF F9 T
 have E2:=J2 (P:=l.prog) (w:=w) (base:=base) dN aB F3 T
 have E3:=Ov (P:=l.prog) (w:=w) (base:=base) mD aB F3 bM F2 j6 F7 gO F8 dD E1 dN E2 T
 have E4:=Mj (P:=l.prog) (w:=w) (base:=base) j7 T
 have E5:=OD (P:=l.prog) (w:=w) (base:=base) mF dO D6 T
 have E6:=Ml (P:=l.prog) (w:=w) (base:=base) eV iQ DA mF E5 T
 have E7:=Mp (P:=l.prog) (w:=w) (base:=base) j8 T kd
 exact acz WD mD E3 dD E1 j7 E4 eV E6 j8 E7 T
theorem walk {l:PySem.W.OpenLaw}{q:Program}{loose:List Str}{XP:(Str->Option Value)->Heap->Prop}{YP:World->Heap->Prop}{d:DefRec}{K:Params->PySem.W.Frag} (hn:l.most=some 63) (hdf:d.params.defaults=[])
 (hY:∀(w:World) (h:Heap),YP w h->(K w.params).In h)
 (F:∀(w:World) (mg:Str->Option Value) (fa:Addr) (h:Heap),(K w.params).In h->h.Ns mainGlobals mg->mg d.name=some (.ref fa)->
   ∃fd:FuncData,(∀(s:Shared) (u:Value),BindsTo s fd ⟨[u],[]⟩ [("script",u)])/\∀base:Heap,(K w.params).In base->base.Ns mainGlobals mg->aX l.prog w (K w.params) mg base CX0 140 fa fd ["script"] (Rt (K w.params))):
 PySem.W.WalkO q loose XP YP l.row.toRowW d [] (fun f vs=>PySem.call f vs):=
 L2.Rg (n:=63) (k:=140) (x:="script") (CX:=fun _=>CX0) (sp:=fun w=>Rt (K w.params)) hn (by decide) hdf ⟨rfl,by decide,by decide⟩ hY F (fun _ _ a ns hl _ hS=>⟨a,ns,rfl,hS,hl,fun _=>rfl⟩) fun _ _ _ _ _ z=>z
end K31
open PySem PySem.W PyProof.Rows
namespace PySem.W.Fast
def tw8621922285989267676:Nat:=0
def tw13632042427507954539:Nat:=0
def tw845887900501183915:Nat:=0
def tw2172515840662169988:Nat:=0
def tw12882914154541142246:Nat:=0
def tw8319598882121099719:Nat:=0
def tw8995677083086245876:Nat:=0
def tw3962669288706944678:Nat:=0
def tw6263870813377354405:Nat:=0
def tw16301789424747113521:Nat:=0
def tw10578124543382085897:Nat:=0
def tw9435621128982115970:Nat:=0
def tw6800639769732411844:Nat:=0
def tw10983949902292196800:Nat:=0
def tw8581936601929763788:Nat:=0
def tw780660733508394348:Nat:=0
def tw3571446715171614829:Nat:=0
def tw5237324287075422058:Nat:=0
def tw10149954110442171092:Nat:=0
def tw2656848151622501966:Nat:=0
def tw3064389191200130499:Nat:=0
def tw7427873438894894015:Nat:=0
def tw539268692156676967:Nat:=0
def tw8058515557327474645:Nat:=0
def tw1296224219635720642:Nat:=0
def tw11197419645797651856:Nat:=0
def tw7728371538769054391:Nat:=0
def tw12058628734342563524:Nat:=0
def tw11448517670172695589:Nat:=0
def tw8230902012047638294:Nat:=0
def tw17387183702250439232:Nat:=0
def tw11246168075648624630:Nat:=0
def tw1581326133801366890:Nat:=0
def tw9069332080169187047:Nat:=0
def tw2931948439824084177:Nat:=0
def tw5394590842250110941:Nat:=0
def tw2325038552784545750:Nat:=0
def tw12582029024695588488:Nat:=0
def tw17734948967531467183:Nat:=0
def tw14349432614696556633:Nat:=0
def tw9443429490272845415:Nat:=0
def tw11660780931031534961:Nat:=0
def tw7003491182063440045:Nat:=0
def tw17231514638406012501:Nat:=0
def tw9357288280815068638:Nat:=0
def tw4025475384858509278:Nat:=0
def tw13107661237825113211:Nat:=0
def tw11687251188881641630:Nat:=0
def tw16951274984145443138:Nat:=0
def tw3363575039438951665:Nat:=0
def tw8739312882268056104:Nat:=0
def tw2745451538333753603:Nat:=0
def tw16514690597385053428:Nat:=0
def tw6354646261348089114:Nat:=0
def tw17441953838836588537:Nat:=0
def tw5767809191898315985:Nat:=0
def tw4289222940591246902:Nat:=0
def tw4634627634122420475:Nat:=0
def tw3314082905779602573:Nat:=0
def tw12817510700242150569:Nat:=0
def tw13412352032082815748:Nat:=0
def tw8986906799819056511:Nat:=0
def tw2074249306330127799:Nat:=0
def tw15503502846586058753:Nat:=0
def tw7586409787420779636:Nat:=0
def tw5762463464782271576:Nat:=0
def tw1774820150438110123:Nat:=0
def tw1983859796436425236:Nat:=0
def tw13567152506539812694:Nat:=0
def tw15538160091804156226:Nat:=0
def tw13817363541407031333:Nat:=0
def tw17761567951774290775:Nat:=0
def tw11121074715930776055:Nat:=0
def tw11157894203611967764:Nat:=0
def tw7767968846432134785:Nat:=0
def tw15704656824311695143:Nat:=0
def tw12819948755343534402:Nat:=0
def tw8383726147292988801:Nat:=0
def tw7407581361168085025:Nat:=0
def tw12588985697179033481:Nat:=0
def tw7056896037207245506:Nat:=0
def tw13499757660528025376:Nat:=0
def tw16387740759575930710:Nat:=0
def tw2983641696142402632:Nat:=0
def tw9500276852943136376:Nat:=0
def tw7276309053094275824:Nat:=0
def tw8546097115245224193:Nat:=0
def tw12032427921316612866:Nat:=0
def tw14166872646937963787:Nat:=0
def tw16406210073639625551:Nat:=0
def tw12413273326610120583:Nat:=0
def tw10605309477241111111:Nat:=0
def tw18374774766447798263:Nat:=0
def tw5793662173777633374:Nat:=0
def tw17858050219097645014:Nat:=0
def tw17160271403859586595:Nat:=0
def tw4745031506944032623:Nat:=0
def tw14672073342190333871:Nat:=0
def tw10551322883310208269:Nat:=0
def tw5279149493614775426:Nat:=0
def tw11637813579600084674:Nat:=0
def tw13623547804011008886:Nat:=0
def tw4935908143360640034:Nat:=0
def tw5833790567256964018:Nat:=0
def tw3674294320345920828:Nat:=0
def tw6209504888259966237:Nat:=0
def tw14508421090736093371:Nat:=0
def tw11443978585301983267:Nat:=0
def tw6546424310320928896:Nat:=0
def tw10394169484894143211:Nat:=0
def tw9410387312910984166:Nat:=0
def tw17122237562959229830:Nat:=0
def tw3086700750483044746:Nat:=0
def tw14157785160912004281:Nat:=0
def tw4836532942270548878:Nat:=0
def tw17687627096495513013:Nat:=0
def tw11877009523909343740:Nat:=0
def tw13501869404994242878:Nat:=0
def tw13248784881292739042:Nat:=0
def tw10094762903197689580:Nat:=0
def tw14307545091536611253:Nat:=0
def tw150470670463475241:Nat:=0
def tw9958145575154042155:Nat:=0
def tw2148643163647128239:Nat:=0
def tw17941995062958431900:Nat:=0
def tw10187670384326925424:Nat:=0
def tw7537642398723522299:Nat:=0
def tw2071972357028968558:Nat:=0
def tw9552757171351649687:Nat:=0
def tw8978625791016352425:Nat:=0
def tw4544367714919679160:Nat:=0
def tw209759356934507490:Nat:=0
def tw12251568636131009480:Nat:=0
def tw1640585573971392057:Nat:=0
def tw344568528079941538:Nat:=0
def tw16254364041539841978:Nat:=0
def tw15256591661611897750:Nat:=0
def tw3519896445371981958:Nat:=0
def tw15650655325508363693:Nat:=0
def tw2543369119160671768:Nat:=0
def tw12261554536652844349:Nat:=0
def tw7487213133988403689:Nat:=0
def tw12661720273242359688:Nat:=0
def tw2103142155602146933:Nat:=0
def tw12990253236078129120:Nat:=0
def tw16130126046754913486:Nat:=0
def tw4829783846835038309:Nat:=0
def tw4964566016418202432:Nat:=0
def tw7324171967165003391:Nat:=0
def tw12621562998391803949:Nat:=0
def tw9817491075687268863:Nat:=0
def tw5156486797365449261:Nat:=0
def tw18406273426154013826:Nat:=0
def tw15216661588170848502:Nat:=0
def tw10238637961446757116:Nat:=0
def tw10988324733990207214:Nat:=0
def tw3361568862442638923:Nat:=0
def tw16474004752792025550:Nat:=0
def tw11545693611770196936:Nat:=0
def tw916486300486344625:Nat:=0
def tw7325399295157774025:Nat:=0
def tw9724639685715519788:Nat:=0
def tw1987380598119371932:Nat:=0
def tw16668825764814893927:Nat:=0
def tw10712273196748333573:Nat:=0
def tw4887927519881933772:Nat:=0
def tw17602146838245839127:Nat:=0
def tw2296463921506338312:Nat:=0
def tw9220722821632783322:Nat:=0
def tw15471826421329338134:Nat:=0
def tw5937417015036063064:Nat:=0
def tw13293245608610255638:Nat:=0
def tw10282575352855050911:Nat:=0
def tw4366632803700481259:Nat:=0
def tw15851400406973031564:Nat:=0
def tw17730230932962120386:Nat:=0
def tw4811221258964486920:Nat:=0
def tw6617553436180469325:Nat:=0
def tw8775027596864059140:Nat:=0
def tw12563373291829442620:Nat:=0
def tw6845255528492278905:Nat:=0
def tw15159726053702245062:Nat:=0
def tw17596242261007775431:Nat:=0
def tw16317672169150862499:Nat:=0
def tw16568318267858252118:Nat:=0
def tw10337229803829242959:Nat:=0
def tw16297445220697651847:Nat:=0
def tw2210288039418417948:Nat:=0
def tw15876209086420333700:Nat:=0
def tw2832396375593222935:Nat:=0
def tw3031429531229950424:Nat:=0
def tw16795546481591380362:Nat:=0
def tw16955827585582752250:Nat:=0
def tw10383789655700161791:Nat:=0
def tw15670771219290332376:Nat:=0
def tw18139004597974902968:Nat:=0
def tw4889513553159975828:Nat:=0
def tw7883282037648869817:Nat:=0
def tw3408808014483804798:Nat:=0
def tw315983890373985208:Nat:=0
def tw3810232272774307732:Nat:=0
def tw8427621139469910096:Nat:=0
def tw12303662492328307209:Nat:=0
def tw13111513074328125410:Nat:=0
def tw3178846542026429860:Nat:=0
def tw4248920044333812307:Nat:=0
def tw14794352359499338670:Nat:=0
def tw12168219127280699615:Nat:=0
def tw11290752241149190311:Nat:=0
def tw14662532721009475835:Nat:=0
def tw17498209638241318727:Nat:=0
def tw8915136622934984773:Nat:=0
def tw8399880953665954998:Nat:=0
def tw18112632525760708362:Nat:=0
def tw7647049753632731913:Nat:=0
def tw4271584243515278961:Nat:=0
def tw13358583218677161523:Nat:=0
def tw6687823842745558239:Nat:=0
def tw14547247641708401528:Nat:=0
def tw3116075918191259025:Nat:=0
def tw1522741739958177551:Nat:=0
def tw13766050612226500595:Nat:=0
def tw11454030632455459103:Nat:=0
def tw5655609438144086855:Nat:=0
def tw3101463111334047301:Nat:=0
def tw15131249747257174998:Nat:=0
def tw15158107400709118809:Nat:=0
def tw307281124585826056:Nat:=0
def tw215040415290866718:Nat:=0
def tw17276601453473426344:Nat:=0
def tw12744267277568724792:Nat:=0
def tw12823140895942463843:Nat:=0
def tw13174434949643515959:Nat:=0
def tw12371344526921964715:Nat:=0
def tw10256796017086493052:Nat:=0
def tw9397736223918907369:Nat:=0
def tw3113631147146028640:Nat:=0
def tw2644736021329994419:Nat:=0
def tw9450399738717318450:Nat:=0
def tw6736248620527415901:Nat:=0
def tw4296780733308197284:Nat:=0
def tw8116833822266731567:Nat:=0
def tw7838883188789390792:Nat:=0
def tw10313569871183300971:Nat:=0
def tw14507807733113135585:Nat:=0
def tw10991343725169260491:Nat:=0
def tw3010533127615385945:Nat:=0
def tw16272188168127462230:Nat:=0
def tw5176981826730915658:Nat:=0
def tw5043236916778202893:Nat:=0
def tw3220253992770454624:Nat:=0
def tw17729828102885800357:Nat:=0
def tw4095156531699826032:Nat:=0
def tw10369031365730719789:Nat:=0
def tw10322066369538413060:Nat:=0
def tw3674724227225596911:Nat:=0
def tw14493493588736168067:Nat:=0
def tw17057734464999243461:Nat:=0
def tw1634036984831796742:Nat:=0
def tw2908459708665954354:Nat:=0
def tw13328997745647813631:Nat:=0
def tw4147474115263337617:Nat:=0
def tw9514821430974938690:Nat:=0
def tw16977830792793898530:Nat:=0
def tw8205836628943555814:Nat:=0
def tw10944872608210109745:Nat:=0
def tw14834485913227382307:Nat:=0
def tw3246438790058938295:Nat:=0
def tw14652096236051804296:Nat:=0
def tw10541072391344956419:Nat:=0
def tw1677456696160745627:Nat:=0
def tw8128667131148737238:Nat:=0
def tw756975048636193721:Nat:=0
def tw13756270000823089635:Nat:=0
def tw7533780466302337014:Nat:=0
def tw2747974005891911867:Nat:=0
def tw17087923672977398262:Nat:=0
def tw4130743212038207014:Nat:=0
def tw12063534543302012276:Nat:=0
def tw11195752112699400:Nat:=0
def tw17768358251846922043:Nat:=0
def tw13374692402376996534:Nat:=0
def tw8525893464120955013:Nat:=0
def tw64728176676363117:Nat:=0
def tw14135853102803135776:Nat:=0
def tw17283515506470186477:Nat:=0
def tw4719590071561540196:Nat:=0
def tw8514896002775469773:Nat:=0
def tw14385000451951602783:Nat:=0
def tw4396301551498694990:Nat:=0
def tw15072222851301862592:Nat:=0
def tw9019566658821483054:Nat:=0
def tw10918014008604615691:Nat:=0
def tw10131436788498708570:Nat:=0
def tw17182724786626453164:Nat:=0
def tw248911907045740157:Nat:=0
def tw17696246695562270485:Nat:=0
def tw6781097850734672434:Nat:=0
def tw5778602447758979487:Nat:=0
def tw6662884291451888681:Nat:=0
def tw3293171387465653374:Nat:=0
def tw7067024979408475759:Nat:=0
def tw17376364634029564384:Nat:=0
def tw7344534575918787129:Nat:=0
def tw8653254104749252700:Nat:=0
def tw6755177679901419563:Nat:=0
def tw15131057272714968050:Nat:=0
def tw13313735141850396964:Nat:=0
def tw14533992825675667517:Nat:=0
def tw6922562606187988020:Nat:=0
def tw15657084619672716296:Nat:=0
def tw14407830179506600941:Nat:=0
def tw12462887127051525647:Nat:=0
def tw15528276723178519541:Nat:=0
def tw9010011569091442606:Nat:=0
def tw994356588673428688:Nat:=0
def tw17242137134418756936:Nat:=0
def tw17777009422485392091:Nat:=0
def tw9316815181004477054:Nat:=0
def tw1974837595752600246:Nat:=0
def tw4354827944210392959:Nat:=0
def tw10373492498053162647:Nat:=0
def tw3566202078097937291:Nat:=0
def tw17556444578957364905:Nat:=0
def tw12533582190499126052:Nat:=0
def tw5813613309048416:Nat:=0
def tw7925675642047402163:Nat:=0
def tw11588322472761893355:Nat:=0
def tw9034176167347291870:Nat:=0
def tw1010281410734271442:Nat:=0
def tw7886157519281342119:Nat:=0
def tw16434877654270640199:Nat:=0
def tw1129287399183831795:Nat:=0
def tw17499812529541133428:Nat:=0
def tw16774229633869195614:Nat:=0
def tw10209794428600629227:Nat:=0
def tw17964763540740546443:Nat:=0
def tw11721967077891327833:Nat:=0
def tw12781201174570686437:Nat:=0
def tw8537130942235120901:Nat:=0
def tw10253699562219704298:Nat:=0
def tw850260585699830929:Nat:=0
def tw3717242202584272844:Nat:=0
def tw2751184150822015893:Nat:=0
def tw15340967118259561621:Nat:=0
def tw17687511386942210358:Nat:=0
def tw16723840785763246083:Nat:=0
def tw6448661018005444016:Nat:=0
def tw18344531249545942669:Nat:=0
def tw10985040539987634414:Nat:=0
def tw18407533620398931678:Nat:=0
def tw12314231414395712834:Nat:=0
def tw18371975987835906287:Nat:=0
def tw5910864193257666814:Nat:=0
def tw11470237228300057814:Nat:=0
def tw8981963704719788507:Nat:=0
def tw6143269629226444430:Nat:=0
def tw16159041857475730615:Nat:=0
def tw11539373511643347528:Nat:=0
def tw3518275885363104596:Nat:=0
def tw2652704961867525522:Nat:=0
def tw9058904627897035885:Nat:=0
def tw13280617559549600503:Nat:=0
def tw957394604365751471:Nat:=0
def tw1427682746373888840:Nat:=0
def tw5817322863625419048:Nat:=0
def tw12968112697773170153:Nat:=0
end PySem.W.Fast
set_option maxRecDepth 100000 in
set_option maxHeartbeats 0 in
theorem PySem.Challenge.cw_madeagain_k31_papers_told_holds : PySem.Challenge.rw_madeagain_k31_papers_told.Holds := by
 w_on;o_law;k_head;(case hw=>w_witness2)
 k_fill
 refine K31.walk (l:=PySem.Challenge.rw_madeagain_k31_papers_told) rfl rfl (fun w h Y=>PySem.W.kIn_of Y) ?F
 case F=>
  intro w mg fa h KX G hmg
  refine' K31.all_mk KX G hmg ?a1 ?l1 ?c1 ?k1 ?a2 ?l2 ?c2 ?k2 ?a3 ?l3 ?c3 ?k3 ?a4 ?l4 ?c4 ?k4 ?a5 ?l5 ?c5 ?k5 ?a6 ?l6 ?c6 ?k6 ?a7 ?l7 ?c7 ?k7 ?a8 ?l8 ?c8 ?k8 ?a9 ?l9 ?c9 ?k9 ?a10 ?l10 ?c10 ?k10 ?a11 ?l11 ?c11 ?k11 ?a12 ?l12 ?c12 ?k12 ?a13 ?l13 ?c13 ?k13 ?a14 ?l14 ?c14 ?k14 ?a15 ?l15 ?c15 ?k15 ?a16 ?l16 ?c16 ?k16 ?a17 ?l17 ?c17 ?k17 ?a18 ?l18 ?c18 ?k18 ?a19 ?l19 ?c19 ?k19 ?a20 ?l20 ?c20 ?k20 ?a21 ?l21 ?c21 ?k21 ?a22 ?l22 ?c22 ?k22 ?a23 ?l23 ?c23 ?k23 ?a24 ?l24 ?c24 ?k24 ?kd ?ACK ?YH ?YJ ?acC ?acD ?YK ?acE ?acF ?acG ?acH ?YM ?acI ?acJ ?acK ?acL ?YS ?acM ?acN ?acO ?acP ?acQ ?acR ?JK ?Gr ?Gs ?ACN ?YW ?YX ?acS ?acT ?YZ ?acU ?acV ?acW ?acX ?Y4 ?acY ?acZ ?ac0 ?ac1 ?Y6 ?ac2 ?ac3 ?ac4 ?ac5 ?ac6 ?ac7 ?zu ?ACS ?Y8 ?Y9 ?ac8 ?ac9 ?Za ?ada ?adb ?ade ?adf ?Zc ?adg ?adh ?adi ?adk ?Ze ?adl ?adm ?adn ?ado ?Zg ?adp ?adq ?adt ?adu ?Zi ?adv ?adw ?adx ?ady ?adz ?adA ?CG ?zx ?Gu ?uY ?ACE ?Zk ?Zm ?adB ?adC ?Zn ?adD ?adE ?adF ?adG ?Zq ?adH ?adI ?adJ ?adK ?Zt ?adL ?adM ?adN ?adO ?Zv ?adP ?adQ ?adR ?adS ?Zx ?adT ?adU ?adV ?adW ?Zz ?adX ?adY ?adZ ?ad0 ?ad1 ?ad2 ?Gv ?zy ?Ms ?Gw ?zA ?xK ?WK ?Mt ?WL ?WM ?QH ?Mv ?xM ?QJ ?QK ?WN ?WQ ?WR ?WT ?WW ?JL ?WX ?zB ?WY ?CJ ?W0
  (case a1=>k_is);(case l1=>k_is);(case c1=>k_is);(case k1=>k_is)
  (case a2=>k_is);(case l2=>k_is);(case c2=>k_is);(case k2=>k_is)
  (case a3=>k_is);(case l3=>k_is);(case c3=>k_is);(case k3=>k_is)
  (case a4=>k_is);(case l4=>k_is);(case c4=>k_is);(case k4=>k_is)
  (case a5=>k_is);(case l5=>k_is);(case c5=>k_is);(case k5=>k_is)
  (case a6=>k_is);(case l6=>k_is);(case c6=>k_is);(case k6=>k_is)
  (case a7=>k_is);(case l7=>k_is);(case c7=>k_is);(case k7=>k_is)
  (case a8=>k_is);(case l8=>k_is);(case c8=>k_is);(case k8=>k_is)
  (case a9=>k_is);(case l9=>k_is);(case c9=>k_is);(case k9=>k_is)
  (case a10=>k_is);(case l10=>k_is);(case c10=>k_is);(case k10=>k_is)
  (case a11=>k_is);(case l11=>k_is);(case c11=>k_is);(case k11=>k_is)
  (case a12=>k_is);(case l12=>k_is);(case c12=>k_is);(case k12=>k_is)
  (case a13=>k_is);(case l13=>k_is);(case c13=>k_is);(case k13=>k_is)
  (case a14=>k_is);(case l14=>k_is);(case c14=>k_is);(case k14=>k_is)
  (case a15=>k_is);(case l15=>k_is);(case c15=>k_is);(case k15=>k_is)
  (case a16=>k_is);(case l16=>k_is);(case c16=>k_is);(case k16=>k_is)
  (case a17=>k_is);(case l17=>k_is);(case c17=>k_is);(case k17=>k_is)
  (case a18=>k_is);(case l18=>k_is);(case c18=>k_is);(case k18=>k_is)
  (case a19=>k_is);(case l19=>k_is);(case c19=>k_is);(case k19=>k_is)
  (case a20=>k_is);(case l20=>k_is);(case c20=>k_is);(case k20=>k_is)
  (case a21=>k_is);(case l21=>k_is);(case c21=>k_is);(case k21=>k_is)
  (case a22=>k_is);(case l22=>k_is);(case c22=>k_is);(case k22=>k_is)
  (case a23=>k_is);(case l23=>k_is);(case c23=>k_is);(case k23=>k_is)
  (case a24=>k_is);(case l24=>k_is);(case c24=>k_is);(case k24=>k_is)
  (case kd=>exact RB.Vo (by kernel_rfl))
  (case ACK=>k_is);(case YH=>k_is);(case YJ=>k_is);(case acC=>k_is);(case acD=>k_is);(case YK=>k_is);(case acE=>k_is);(case acF=>k_is);(case acG=>k_is);(case acH=>k_is);(case YM=>k_is);(case acI=>k_is);(case acJ=>k_is);(case acK=>k_is);(case acL=>k_is);(case YS=>k_is);(case acM=>k_is);(case acN=>k_is);(case acO=>k_is);(case acP=>k_is);(case acQ=>k_is);(case acR=>k_is);(case JK=>k_is);(case Gr=>k_is);(case Gs=>k_is);(case ACN=>k_is);(case YW=>k_is);(case YX=>k_is);(case acS=>k_is);(case acT=>k_is);(case YZ=>k_is);(case acU=>k_is);(case acV=>k_is);(case acW=>k_is);(case acX=>k_is);(case Y4=>k_is);(case acY=>k_is);(case acZ=>k_is);(case ac0=>k_is);(case ac1=>k_is);(case Y6=>k_is);(case ac2=>k_is);(case ac3=>k_is);(case ac4=>k_is);(case ac5=>k_is);(case ac6=>k_is);(case ac7=>k_is);(case zu=>k_is);(case ACS=>k_is);(case Y8=>k_is);(case Y9=>k_is);(case ac8=>k_is);(case ac9=>k_is);(case Za=>k_is);(case ada=>k_is);(case adb=>k_is);(case ade=>k_is);(case adf=>k_is);(case Zc=>k_is);(case adg=>k_is);(case adh=>k_is);(case adi=>k_is);(case adk=>k_is);(case Ze=>k_is);(case adl=>k_is);(case adm=>k_is);(case adn=>k_is);(case ado=>k_is);(case Zg=>k_is);(case adp=>k_is);(case adq=>k_is);(case adt=>k_is);(case adu=>k_is);(case Zi=>k_is);(case adv=>k_is);(case adw=>k_is);(case adx=>k_is);(case ady=>k_is);(case adz=>k_is);(case adA=>k_is);(case CG=>k_is);(case zx=>k_is);(case Gu=>k_is);(case uY=>k_is);(case ACE=>k_is);(case Zk=>k_is);(case Zm=>k_is);(case adB=>k_is);(case adC=>k_is);(case Zn=>k_is);(case adD=>k_is);(case adE=>k_is);(case adF=>k_is);(case adG=>k_is);(case Zq=>k_is);(case adH=>k_is);(case adI=>k_is);(case adJ=>k_is);(case adK=>k_is);(case Zt=>k_is);(case adL=>k_is);(case adM=>k_is);(case adN=>k_is);(case adO=>k_is);(case Zv=>k_is);(case adP=>k_is);(case adQ=>k_is);(case adR=>k_is);(case adS=>k_is);(case Zx=>k_is);(case adT=>k_is);(case adU=>k_is);(case adV=>k_is);(case adW=>k_is);(case Zz=>k_is);(case adX=>k_is);(case adY=>k_is);(case adZ=>k_is);(case ad0=>k_is);(case ad1=>k_is);(case ad2=>k_is);(case Gv=>k_is);(case zy=>k_is);(case Ms=>k_is);(case Gw=>k_is);(case zA=>k_is);(case xK=>k_is)
  (case WK=>k_is);(case Mt=>k_is);(case WL=>k_is);(case WM=>k_is);(case QH=>k_is);(case Mv=>k_is);(case xM=>k_is);(case QJ=>k_is);(case QK=>k_is);(case WN=>k_is);(case WQ=>k_is);(case WR=>k_is);(case WT=>k_is);(case WW=>k_is);(case JL=>k_is);(case WX=>k_is);(case zB=>k_is);(case WY=>k_is);(case CJ=>k_is);(case W0=>k_is)
