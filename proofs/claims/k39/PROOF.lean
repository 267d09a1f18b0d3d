import PyProof.Rows.All
import Wide.All
import OpenK.AllK
import Wide.FinOn
import Lean
import PyProof.EqAt
import PyProof.EqKinds
import PyProof.TupleCall
import KE.KTops
import KE.KIntText
import KE.KTryMore
import PyProof.ExcBaseAll.ValueError
import PyProof.ZipIter
import KE.KTurns
import PyProof.Rows.SetFrom
import KE.KxText
import PyProof.Rows.SumGenD
import KE.KDictList
import PyProof.DictWalks
import KE.KEqDict
import KE.KDictOf
import PyProof.Rows.SortStr
import PyProof.Rows.SortWalk
import PyProof.WalksEnum
import KE.KItemsList
import PyProof.Rows.SumAny
import KE.KRevIter
import PySem.Challenge.RW_madeagain_k39_reach
set_option Elab.async false
set_option linter.all false
set_option maxRecDepth 100000
noncomputable section
namespace L2
open PySem PySem.Spec PyProof.Rows
abbrev Key:=Sum Int Str
def Es:Key->Value->Bool
 | .inl k,v=>Value.isInt k v
 | .inr x,v=>Value.isStrOf x v
def ahr (w:World):Key->Int
 | .inl k=>hashInt k
 | .inr x=>hashStr w x
theorem iI:∀{k:Key}{v:Value},Es k v=true->(∃i t,k=Sum.inl i/\v=Value.int i t)\/(∃x t,k=Sum.inr x/\v=Value.str x t)
 | .inl i,v,h=>by
   obtain⟨t,e⟩:=Value.isInt_shape (k:=i) (v:=v) h
   exact .inl ⟨i,t,rfl,e⟩
 | .inr x,v,h=>by
   obtain⟨t,e⟩:=Value.isStrOf_shape (x:=x) (v:=v) h
   exact .inr ⟨x,t,rfl,e⟩
theorem Qx (i:Int) (t:Tok):Es (.inl i) (.int i t)=true:=by simp[Es,Value.isInt]
theorem Qy (x:Str) (t:Tok):Es (.inr x) (.str x t)=true:=by simp[Es,Value.isStrOf]
theorem ZJ (a b:Int):decide ((Sum.inl a:Key)=Sum.inl b)=(a==b):=by
 by_cases e:a=b
 ·subst e;simp
 ·have h:¬(Sum.inl a:Key)=Sum.inl b:=fun q=>e (Sum.inl.inj q)
  rw[decide_eq_false h]
  exact(beq_eq_false_iff_ne.mpr e).symm
theorem ZK (a b:Str):decide ((Sum.inr a:Key)=Sum.inr b)=decide (a=b):=by
 by_cases e:a=b
 ·subst e;simp
 ·have h:¬(Sum.inr a:Key)=Sum.inr b:=fun q=>e (Sum.inr.inj q)
  rw[decide_eq_false h,decide_eq_false e]
theorem ZL (a:Int) (b:Str):decide ((Sum.inl a:Key)=Sum.inr b)=false:=decide_eq_false (fun q=>nomatch q)
theorem ZM (a:Str) (b:Int):decide ((Sum.inr a:Key)=Sum.inl b)=false:=decide_eq_false (fun q=>nomatch q)
def dH (prog:Program) (w:World):PySem.KeyKind prog w Key where
 is:=Es
 hash:=ahr w
 inj:=fun v a b ha hb=>by
  rcases iI ha with⟨i,t,rfl,rfl⟩ | ⟨x,t,rfl,rfl⟩
  ·rcases iI hb with⟨j,u,rfl,e⟩ | ⟨y,u,rfl,e⟩
   ·injection e with e1 _;rw[e1]
   ·exact nomatch e
  ·rcases iI hb with⟨j,u,rfl,e⟩ | ⟨y,u,rfl,e⟩
   ·exact nomatch e
   ·injection e with e1 _;rw[e1]
 byValue:=fun k v h=>by
  rcases iI h with⟨i,t,rfl,rfl⟩ | ⟨x,t,rfl,rfl⟩<;>rfl
 pyHash:=fun hv h=>by
  rcases iI hv with⟨i,t,rfl,rfl⟩ | ⟨x,t,rfl,rfl⟩
  ·exact wpAny_pyHash_int h
  ·exact wpAny_pyHash_str h
 eqBool:=fun hu hv h=>by
  rcases iI hu with⟨i,t,rfl,rfl⟩ | ⟨x,t,rfl,rfl⟩
  ·rcases iI hv with⟨j,u,rfl,rfl⟩ | ⟨y,u,rfl,rfl⟩
   ·rw[ZJ] at h;exact wpAny_eqBool_int h
   ·rw[ZL] at h;exact SeqAt.EqAt.int_str i t y u _ _ _ _ h
  ·rcases iI hv with⟨j,u,rfl,rfl⟩ | ⟨y,u,rfl,rfl⟩
   ·rw[ZM] at h;exact SeqAt.EqAt.str_int x t j u _ _ _ _ h
   ·rw[ZK] at h;exact wpAny_eqBool_str h
 «strs»:=fun k x t v h=>by
  rcases iI h with⟨i,u,rfl,e⟩ | ⟨y,u,rfl,e⟩
  ·exact nomatch e
  ·injection e with e1 _
   subst e1
   cases v<;>rfl
theorem KC (prog:Program) (w:World) (i:Int) (t:Tok):(dH prog w).is (.inl i) (.int i t)=true:=Qx i t
theorem KD (prog:Program) (w:World) (x:Str) (t:Tok):(dH prog w).is (.inr x) (.str x t)=true:=Qy x t
end L2
namespace L2
open PySem PySem.Spec PyProof.Rows
inductive V where
 | non | bl (b:Bool) | int (i:Int) | str (x:Str) | byt (b:Array UInt8) | flt (b:UInt64) | ref (a:Addr) | ty (n:String)
 deriving DecidableEq
def RelV:V->Value->Prop
 | .non,u=>u=Value.none
 | .bl b,u=>u=Value.bool b
 | .int i,u=>∃t,u=Value.int i t
 | .str x,u=>∃t,u=Value.str x t
 | .byt b,u=>∃t,u=Value.bytes b t
 | .flt b,u=>∃t,u=Value.float b t
 | .ref a,u=>u=Value.ref a
 | .ty n,u=>u=Value.type n
abbrev Vals:List V->List Value->Prop:=Paired RelV
theorem Vals.length {xs:List V}{us:List Value} (r:Vals xs us):xs.length=us.length:=Paired.length r
theorem Vals.get:∀{xs:List V}{us:List Value}{i:Nat}{x:V},Vals xs us->xs[i]? =some x->∃u,us[i]? =some u/\RelV x u
 | _,_,_,_, .nil,e=>by simp at e
 | _,_,0,_, .cons r _,e=>by simp at e;subst e;exact⟨_,rfl,r⟩
 | _,_,i+1,x, .cons _ t,e=>by
   obtain⟨u,h1,h2⟩:=Vals.get (i:=i) (x:=x) t (by simpa using e)
   exact⟨u,by simpa using h1,h2⟩
theorem Vals.append:∀{xs ys:List V}{us ws:List Value},Vals xs us->Vals ys ws->Vals (xs++ys) (us++ws)
 | _,_,_,_, .nil,s=>s
 | _,_,_,_, .cons r t,s=> .cons r (Vals.append t s)
theorem Vals.take:∀{xs:List V}{us:List Value} (n:Nat),Vals xs us->Vals (xs.take n) (us.take n)
 | _,_,0,_=> .nil
 | _,_,_+1, .nil=> .nil
 | _,_,n+1, .cons r t=> .cons r (Vals.take n t)
theorem Vals.drop:∀{xs:List V}{us:List Value} (n:Nat),Vals xs us->Vals (xs.drop n) (us.drop n)
 | _,_,0,r=>r
 | _,_,_+1, .nil=> .nil
 | _,_,n+1, .cons _ t=>Vals.drop n t
def yG:Option V->Option Value->Prop
 | some v,some u=>RelV v u
 | none,none=>True
 | _,_=>False
def KV {κ:Type}:List (κ×V)->List (κ×Value)->Prop:=Paired fun(p:κ×V) (q:κ×Value)=>p.1=q.1/\RelV p.2 q.2
def kV:Key->V
 | .inl i=> .int i
 | .inr x=> .str x
inductive HO where
 | lst (xs:List V)
 | tup (xs:List V)
 | dK (kvs:List (Key×V)) | dT (kvs:List (List Key×V))
 | set (S:Int->Bool) (n:Nat)
 | ins (C dx:Addr) (fs:List (Str×V))
 | own (x:Addr)
 | xd (fs:List (Str×V))
 | met (f x:Addr)
 | rng (lo hi:Int)
 | frz (o:Obj) (u:HO)
 | tbl (ps:Array Value)
 | ext (φ:Heap->Prop)
abbrev Hp:=Addr->Option HO
def upd (H:Hp) (a:Addr) (o:HO):Hp:=fun b=>if b=a then some o else H b
theorem ao {H:Hp}{a:Addr}{o:HO}:upd H a o a=some o:=by unfold upd;rw[if_pos rfl]
theorem au {H:Hp}{a b:Addr}{o:HO} (h:b≠a):upd H a o b=H b:=by unfold upd;rw[if_neg h]
theorem uY {H:Hp}{a:Addr}{o u:HO}:upd (upd H a o) a u=upd H a u:=by
 funext b;unfold upd;split<;>rfl
theorem ac0 {H:Hp}{a b:Addr}{o u:HO} (h:H a=some o) (h':H b=some u) (d:o≠u):a≠b:=by
 intro e;subst e;rw[h] at h';exact d (Option.some.inj h')
theorem aH {H:Hp}{a b:Addr}{o:HO} (h:H a=some o) (h':H b=none):a≠b:=by
 intro e;subst e;rw[h] at h';cases h'
section
variable (P:Program) (w:World)
def fH (H:Hp) (h:Heap) (a:Addr):HO->Prop
 | .lst xs=>xs.length<=sizeLine/\∃(its:List Value) (n:Nat),Vals xs its/\h.get? a=some {cls:= .type "list",data:= .seq its.toArray n}
 | .tup xs=>xs.length<=sizeLine/\∃its:List Value,Vals xs its/\IsTup h a its.toArray
 | .dK kvs=>kvs.length<=sizeLine/\(a==sysModules)=false/\∃vs,KV kvs vs/\h.DictOf (dH P w) a vs
 | .dT kvs=>kvs.length<=sizeLine/\(a==sysModules)=false/\∃xs:List (List Key×Addr×Value),
     Paired (fun(p:List Key×V) (q:List Key×Addr×Value)=>p.1=q.1/\H q.2.1=some (.tup (p.1.map kV))/\RelV p.2 q.2.2) kvs xs/\
     ∃o es ep,h.get? a=some o/\o.ExactDict/\o.data= .dict es ep/\es.toList=xs.map (entryOfKey (tupleKind (dH P w)))/\(xs.map (·.1)).Nodup
 | .set S n=>h.SetOf (intKind P w) a S n
 | .ins C dx fs=>H dx=some (.own a)/\fs.length<=1000/\dx≠a/\h.get? a=some (PySem.W.instObj C dx)/\
     ∃mA,h.Ns1 dx mA/\(∀f,yG (fs.lookup f) (mA f))/\PySem.Within mA (fs.map (·.1))
 | .own _=>∃o,h.get? a=some o
 | .xd fs=>∃mA,h.Ns1 a mA/\∀f,yG (fs.lookup f) (mA f)
 | .rng lo hi=>∃t u v,h.get? a=some {cls:= .type "range",data:= .fields #[.int lo t, .int hi u, .int 1 v]}
 | .frz o u=>h.get? a=some o/\fH H h a u
 | .tbl ps=>h.get? a=some {cls:= .none,data:= .fields ps}
 | .met f x=>h.get? a=some (PySem.W.methodObj (.ref f) (.ref x))
 | .ext φ=>φ h/\(∃o,h.get? a=some o)/\∀h1 h2:Heap,φ h1->(∀o,h1.get? a=some o->h2.get? a=some o)->φ h2
def HOk (H:Hp) (h:Heap):Prop:=∀a o,H a=some o->fH P w H h a o
end
section
variable {P:Program}{w:World}{H H':Hp}{h h':Heap}{a:Addr}{o:HO}
theorem fH.lt (x:fH P w H h a o):a<h.objs.size:=by
 cases o with
 | lst xs=>obtain⟨_,_,_,_,e⟩:=x;exact Heap.lt_size e
 | tup xs=>obtain⟨_,_,_,p⟩:=x;exact p.lt
 | dK kvs=>obtain⟨_,_,_,_,o,_,_,e,_⟩:=x;exact Heap.lt_size e
 | dT kvs=>obtain⟨_,_,_,_,o,_,_,e,_⟩:=x;exact Heap.lt_size e
 | set S n=>obtain⟨o,_,_,_,e,_⟩:=x;exact Heap.lt_size e
 | ins C dx fs=>obtain⟨_,_,_,e,_⟩:=x;exact Heap.lt_size e
 | own y=>obtain⟨_,e⟩:=x;exact Heap.lt_size e
 | xd fs=>obtain⟨_,⟨_,_,_,e,_⟩,_⟩:=x;exact Heap.lt_size e
 | rng lo hi=>obtain⟨_,_,_,e⟩:=x;exact Heap.lt_size e
 | frz ob u=>obtain⟨e,_⟩:=x;exact Heap.lt_size e
 | tbl ps=>exact Heap.lt_size (show h.get? a=some _ from x)
 | met f y=>exact Heap.lt_size (show h.get? a=some _ from x)
 | ext φ=>obtain⟨_,⟨_,e⟩,_⟩:=x;exact Heap.lt_size e
theorem Paired.ZP {α β:Type}{F G:α->β->Prop}:∀{l₁:List α}{l₂:List β},Paired F l₁ l₂->(∀a b,F a b->G a b)->Paired G l₁ l₂
 | _,_, .nil,_=> .nil
 | _,_, .cons r t,f=> .cons (f _ _ r) (Paired.ZP t f)
theorem fH.stay (x:fH P w H h a o) (k:∀b u,(b=a\/H b=some (.own a))->h.get? b=some u->h'.get? b=some u)
 (ho:∀b,H b=some (.own a)->H' b=some (.own a)) (ht:∀b xs,H b=some (.tup xs)->H' b=some (.tup xs)):fH P w H' h' a o:=by
 induction o with
 | lst xs=>obtain⟨z,its,n,r,e⟩:=x;exact⟨z,its,n,r,k _ _ (.inl rfl) e⟩
 | tup xs=>obtain⟨z,its,r,ob,e,c⟩:=x;exact⟨z,its,r,ob,k _ _ (.inl rfl) e,c⟩
 | dK kvs=>obtain⟨z,y,vs,r,ob,es,ep,e,c⟩:=x;exact⟨z,y,vs,r,ob,es,ep,k _ _ (.inl rfl) e,c⟩
 | dT kvs=>
   obtain⟨z,y,xs,r,ob,es,ep,e,c⟩:=x
   exact⟨z,y,xs,Paired.ZP r fun p q z=>⟨z.1,ht _ _ z.2.1,z.2.2⟩,ob,es,ep,k _ _ (.inl rfl) e,c⟩
 | set S n=>obtain⟨ob,es,ep,t,e,c⟩:=x;exact⟨ob,es,ep,t,k _ _ (.inl rfl) e,c⟩
 | ins C dx fs=>
   obtain⟨d,z,ne,e,mA,⟨od,es,ep,e2,c⟩,r⟩:=x
   exact⟨ho _ d,z,ne,k _ _ (.inl rfl) e,mA,⟨od,es,ep,k _ _ (.inr d) e2,c⟩,r⟩
 | own y=>obtain⟨ob,e⟩:=x;exact⟨ob,k _ _ (.inl rfl) e⟩
 | xd fs=>obtain⟨mA,⟨od,es,ep,e,c⟩,r⟩:=x;exact⟨mA,⟨od,es,ep,k _ _ (.inl rfl) e,c⟩,r⟩
 | rng lo hi=>obtain⟨t,u,v,e⟩:=x;exact⟨t,u,v,k _ _ (.inl rfl) e⟩
 | frz ob u ih=>obtain⟨e,q⟩:=x;exact⟨k _ _ (.inl rfl) e,ih q⟩
 | tbl ps=>
   have e:h.get? a=some {cls:= .none,data:= .fields ps}:=x
   show h'.get? a=some {cls:= .none,data:= .fields ps}
   exact k a _ (.inl rfl) e
 | met f y=>
   have e:h.get? a=some (PySem.W.methodObj (.ref f) (.ref y)):=x
   show h'.get? a=some (PySem.W.methodObj (.ref f) (.ref y))
   exact k a _ (.inl rfl) e
 | ext φ=>obtain⟨p,⟨o,e⟩,st⟩:=x;exact⟨st _ _ p fun o q=>k _ _ (.inl rfl) q,⟨o,k _ _ (.inl rfl) e⟩,st⟩
theorem HOk.lt (x:HOk P w H h) (e:H a=some o):a<h.objs.size:=(x a o e).lt
theorem HOk.fresh (x:HOk P w H h) (e:h.objs.size<=a):H a=none:=by
 cases q:H a with
 | none=>rfl
 | some u=>exact absurd (Nat.lt_of_lt_of_le (x.lt q) e) (Nat.lt_irrefl _)
theorem HOk.kept (x:HOk P w H h) (k:∀b u,h.get? b=some u->h'.get? b=some u):HOk P w H h':=fun a o e=>
 (x a o e).stay (fun b u _ q=>k b u q) (fun _ q=>q) fun _ _ q=>q
theorem HOk.laid (x:HOk P w H h) (k:∀b u,h.get? b=some u->h'.get? b=some u) (hp:h.objs.size<=a) (new:fH P w (upd H a o) h' a o):HOk P w (upd H a o) h':=fun b u e=>by
 have hn:=x.fresh hp
 by_cases hb:b=a
 ·subst hb;rw[ao] at e;cases e;exact new
 ·rw[au hb] at e
  exact(x b u e).stay (fun c v _ q=>k c v q) (fun c q=>by rw[au (aH q hn)];exact q) fun c xs q=>by rw[au (aH q hn)];exact q
end
def Rd (H:Hp) (a:Addr) (u:HO):Prop:=H a=some u\/∃o,H a=some (.frz o u)
theorem Rd.ok {P:Program}{w:World}{H:Hp}{h:Heap}{a:Addr}{u:HO} (r:Rd H a u) (x:HOk P w H h):fH P w H h a u:=by
 rcases r with r | ⟨o,r⟩
 ·exact x a u r
 ·obtain⟨_,q⟩:=x a _ r
  exact q
def Mut:Option HO->Prop
 | some (.lst _)=>True
 | some (.dK _)=>True
 | some (.dT _)=>True
 | some (.set _ _)=>True
 | some (.ins _ _ _)=>True
 | some (.ext _)=>True
 | _=>False
section
variable {P:Program}{w:World}{H:Hp}{h h':Heap}{x e:Addr}{o':HO}
theorem HOk.write (ok:HOk P w H h) (mu:Mut (H x)) (he:e=x\/H e=some (.own x)) (k:∀b u,b≠e->h.get? b=some u->h'.get? b=some u) (heo:∃u,h'.get? e=some u)
 (new:fH P w (upd H x o') h' x o'):HOk P w (upd H x o') h':=fun b u q=>by
 have nown:∀c y,H c=some (.own y)->c≠x:=fun c y r z=>by subst z;rw[r] at mu;exact mu
 have ntup:∀c xs,H c=some (.tup xs)->c≠x:=fun c xs r z=>by subst z;rw[r] at mu;exact mu
 by_cases hb:b=x
 ·subst hb;rw[ao] at q;cases q;exact new
 ·rw[au hb] at q
  by_cases hbe:b=e
  ·have q':H b=some (.own x):=by
    rcases he with z | z
    ·exact absurd (hbe.trans z) hb
    ·rw[hbe];exact z
   rw[q] at q';cases q'
   obtain⟨v,hv⟩:=heo
   exact⟨v,by rw[hbe];exact hv⟩
  ·refine(ok b u q).stay (fun c v hc r=>k c v ?_ r) (fun c r=>by rw[au (nown c b r)];exact r) fun c xs r=>by rw[au (ntup c xs r)];exact r
   rcases hc with rfl | hc
   ·exact hbe
   ·rintro rfl
    rcases he with z | z
    ·exact nown c b hc z
    ·rw[hc] at z;cases z;exact hb rfl
end
structure Un (fs ex:List Addr) (H H':Hp) (h h':Heap):Prop where
 keep:∀b o,h.get? b=some o->H b=none->b∉fs->b∉ex->h'.get? b=some o
 slot:∀b o,h.get? b=some o->H b=none->b∈fs->b∉ex->∃sl,h'.get? b=some {o with slots:=sl}
 free:∀b o,h.get? b=some o->H b=none->b∉ex->H' b=none
 there:∀b o,h.get? b=some o->b∉ex->∃o',h'.get? b=some o'
 tups:∀b xs,H b=some (.tup xs)->H' b=some (.tup xs)
 frzs:∀b o u,H b=some (.frz o u)->H' b=some (.frz o u)
 tbls:∀b ps,H b=some (.tbl ps)->∃more,H' b=some (.tbl (ps++more))
section
variable {fs fs' ex ex':List Addr}{H H1 H2:Hp}{h h1 h2 h':Heap}{a x e:Addr}{o:HO}
theorem Un.any (u:Un fs ex H H1 h h1) {b:Addr}{ob:Obj} (q:h.get? b=some ob) (n:H b=none) (hx:b∉ex):∃sl,h1.get? b=some {ob with slots:=sl}:=by
 by_cases hb:b∈fs
 ·exact u.slot b ob q n hb hx
 ·exact⟨ob.slots,u.keep b ob q n hb hx⟩
theorem Un.kept (k:∀b u,h.get? b=some u->h'.get? b=some u):Un fs ex H H h h':=
 ⟨fun b ob q _ _ _=>k b ob q,fun b ob q _ _ _=>⟨ob.slots,k b ob q⟩,fun _ _ _ n _=>n,fun b ob q _=>⟨ob,k b ob q⟩,fun _ _ q=>q,fun _ _ _ q=>q,fun _ ps q=>⟨#[],by rw[q];simp⟩⟩
theorem Un.refl:Un fs ex H H h h:=Un.kept fun _ _ q=>q
theorem Un.laid (k:∀b u,h.get? b=some u->h'.get? b=some u) (hp:h.objs.size<=a) (hn:H a=none):Un fs ex H (upd H a o) h h' where
 keep:=fun b u q _ _ _=>k b u q
 slot:=fun b u q _ _ _=>⟨u.slots,k b u q⟩
 free:=fun b u q n _=>by rw[au (Nat.ne_of_lt (Nat.lt_of_lt_of_le (Heap.lt_size q) hp))];exact n
 there:=fun b u q _=>⟨u,k b u q⟩
 tups:=fun b xs q=>by rw[au (aH q hn)];exact q
 frzs:=fun b u xs q=>by rw[au (aH q hn)];exact q
 tbls:=fun b ps q=>⟨#[],by rw[au (aH q hn),q];simp⟩
theorem Un.write (mu:Mut (H x)) (he:e=x\/H e=some (.own x)) (k:∀b u,b≠e->h.get? b=some u->h'.get? b=some u) (heo:∃u,h'.get? e=some u):Un fs ex H (upd H x o) h h':=by
 have hx:∀b,H b=none->b≠x:=fun b n z=>by subst z;rw[n] at mu;exact mu
 have hb:∀b,H b=none->b≠e:=fun b n z=>by
  subst z
  rcases he with r | r
  ·exact hx b n r
  ·rw[n] at r;cases r
 have hm:∀b u,H b=some u->¬Mut (some u)->b≠x:=fun b u q nm z=>by subst z;rw[q] at mu;exact nm mu
 refine⟨fun b u q n _ _=>k b u (hb b n) q,fun b u q n _ _=>⟨u.slots,k b u (hb b n) q⟩,fun b u q n _=>by rw[au (hx b n)];exact n,fun b u q _=> ?_,
  fun b xs q=>by rw[au (hm b _ q fun z=>z)];exact q,fun b u xs q=>by rw[au (hm b _ q fun z=>z)];exact q,fun b ps q=>⟨#[],by rw[au (hm b _ q fun z=>z),q];simp⟩⟩
 by_cases hbe:b=e
 ·subst hbe;exact heo
 ·exact⟨u,k b u hbe q⟩
end
def trk (h:Heap) (H:Hp):List Addr:=(List.range h.objs.size).filter fun a=>(H a).isSome
def JB (h:Heap) (H:Hp):Heap:=PySem.W.hideAll h (trk h H)
theorem Qz (h:Heap) (H:Hp):(JB h H).objs.size=h.objs.size:=PySem.W.hideAll_size _ _
theorem RC {h:Heap}{H:Hp}{b:Addr}{o:Obj} (e:h.get? b=some o) (n:H b=none):(JB h H).get? b=some o:=
 PySem.W.hideAll_get _ e fun hm=>by
  have q:(H b).isSome=true:=(List.mem_filter.mp hm).2
  rw[n] at q;simp at q
theorem Vk {h:Heap}{H:Hp}{b:Addr}{o:Obj} (e:(JB h H).get? b=some o):h.get? b=some o/\H b=none:=by
 have e':h.get? b=some o:=PySem.W.of_hideAll (trk h H) e
 refine⟨e', ?_⟩
 cases q:H b with
 | none=>rfl
 | some x=>
   have hm:b∈trk h H:=List.mem_filter.mpr ⟨List.mem_range.mpr (Heap.lt_size e'),by simp[q]⟩
   have z:(JB h H).get? b=none:=PySem.W.hideAll_none (trk h H) hm
   rw[z] at e;cases e
end L2
namespace L2
open PySem PySem.Spec PyProof.Rows
structure Mod (K:PySem.W.Frag) (mg:Str->Option Value) (base:Heap):Prop where
 kin:K.In base
 glob:base.Ns mainGlobals mg
 blt:∃mb,base.Ns builtinsNs mb/\∀x:Str,x≠"__name__"->mb x=bootBuiltins x
 nolimit:base.NoLimit
structure Cx where
 prog:Program
 w:World
 K:PySem.W.Frag
 mg:Str->Option Value
 base:Heap
 A:Around
 N:List Str
 s₀:Shared
 H₀:Hp
 env:Env
 outer:List Env
 stack:List Env
 ex:List Addr
 fn:Str->Bool
 calm:Bool
 pn:List (Addr×Obj)
 xe:Value->Shared->Prop
def frs (l:List Env):List Addr:=l.filterMap (·.frame)
abbrev Cx.fs (X:Cx):List Addr:=frs X.outer
def Vis (sc:Scope) (x:Str):Prop:=sc.names.lookup x=some .local\/sc.names.lookup x=some .cell\/sc.names.lookup x=some .free
def Loc (sc:Scope) (x:Str):Prop:=sc.names.lookup x=some .local\/sc.names.lookup x=some .cell
def Look (env:Env) (h:Heap) (m:Str->Option Value) (x:Str) (u:Value):Prop:=
 (env.kindOf x=some .local/\m x=some u)\/((env.kindOf x=some .cell\/env.kindOf x=some .free)/\∃c,env.cells.lookup x=some c/\h.IsCell c (some u))
structure Cx.Ok (X:Cx):Prop where
 mod:Mod X.K X.mg X.base
 kind:X.env.scope.kind= .function
 glob:X.env.globals=mainGlobals
 blt:X.env.builtins=builtinsNs
 above:X.s₀.heap.objs.size<=X.env.locals
 inj:∀x y c,X.env.cells.lookup x=some c->X.env.cells.lookup y=some c->x=y
 has:∀x,(X.env.kindOf x=some .cell\/X.env.kindOf x=some .free)->∃c,X.env.cells.lookup x=some c
 cab:∀x c,X.fn x=true->X.env.cells.lookup x=some c->X.s₀.heap.objs.size<=c
 hd:X.calm=true->X.A.handled=none
 frames:X.A.frames=some X.stack
 stk:X.stack=X.outer\/(X.stack=X.env::X.outer/\X.env.frame=some X.env.locals)
 exf:∀b∈X.ex,b≠X.env.locals/\∀x c,X.env.cells.lookup x=some c->c≠b
 bs:∀b o,X.base.get? b=some o->X.s₀.heap.get? b=some o/\X.H₀ b=none
 bsz:X.base.objs.size<=X.s₀.heap.objs.size
 noex:∀b o,X.base.get? b=some o->b∉X.ex
 exfs:∀b∈X.ex,b∉X.fs
 funs:X.s₀.heap.FunFrames X.base X.outer
 frf:∀b∈X.fs,X.H₀ b=none
structure Inv (X:Cx) (pins:List (Addr×Obj)) (σ:List (Option V)) (H:Hp) (s:Shared):Prop where
 ok:X.Ok
 os:s.os=X.s₀.os
 bare:AllBare s.gens
 base:Un X.fs X.ex X.H₀ H X.s₀.heap s.heap
 loc:∃m,s.heap.Ns X.env.locals m/\∀(i:Nat) (x:Str) (v:V),X.N[i]? =some x->σ[i]? =some (some v)->Vis X.env.scope x->∃u,RelV v u/\Look X.env s.heap m x u
 cell:∀x c,X.env.cells.lookup x=some c->∃v,s.heap.IsCell c v
 free:H X.env.locals=none
 wB:∀x c,X.env.cells.lookup x=some c->H c=none
 pin:∀p∈X.pn++pins,s.heap.get? p.1=some p.2/\H p.1=none/\p.1≠X.env.locals/\p.1∉X.fs/\∀v,p.2.data≠ .cell v
 hok:HOk X.prog X.w H s.heap
 len:σ.length=X.N.length
section
variable {X:Cx}{pins:List (Addr×Obj)}{σ:List (Option V)}{H H':Hp}{s:Shared}{h':Heap}
theorem Cx.Ok.nofr (ok:X.Ok) {b:Addr}{o:Obj} (e:X.base.get? b=some o):b∉X.fs:=fun hb=>by
 have:=(ok.funs.mem hb).1
 rw[e] at this;cases this
theorem Inv.bs (I:Inv X pins σ H s):∀b o,X.base.get? b=some o->s.heap.get? b=some o/\H b=none:=fun b o e=>
 ⟨I.base.keep b o (I.ok.bs b o e).1 (I.ok.bs b o e).2 (I.ok.nofr e) (I.ok.noex b o e),I.base.free b o (I.ok.bs b o e).1 (I.ok.bs b o e).2 (I.ok.noex b o e)⟩
theorem Inv.bk (I:Inv X pins σ H s):∀b o,X.base.get? b=some o->s.heap.get? b=some o:=fun b o e=>(I.bs b o e).1
theorem Inv.mod (I:Inv X pins σ H s):Mod X.K X.mg X.base:=I.ok.mod
theorem Inv.kIn (I:Inv X pins σ H s):X.K.In s.heap:=I.ok.mod.kin.keeps I.bk
theorem Inv.lt (I:Inv X pins σ H s):X.env.locals<s.heap.objs.size:=let ⟨_,hn,_⟩:=I.loc;hn.lt
theorem Inv.sz (I:Inv X pins σ H s):X.s₀.heap.objs.size<=s.heap.objs.size:=Nat.le_trans I.ok.above (Nat.le_of_lt I.lt)
theorem Inv.nofs (I:Inv X pins σ H s) {a:Addr} (h:s.heap.objs.size<=a):a∉X.fs:=fun hb=>by
 obtain⟨_,o,ho,_⟩:=I.ok.funs.mem hb
 exact absurd (Nat.lt_of_lt_of_le (Heap.lt_size ho) (Nat.le_trans I.sz h)) (Nat.lt_irrefl _)
theorem Inv.cne (I:Inv X pins σ H s):∀x c,X.env.cells.lookup x=some c->c≠X.env.locals:=fun x c e z=>by
 obtain⟨v,o,ho,hd⟩:=I.cell x c e
 obtain⟨m,⟨o',es,ep,ho',hd',_⟩,_⟩:=I.loc
 rw[z,ho'] at ho;cases ho;rw[hd'] at hd;cases hd
theorem Inv.funs (I:Inv X pins σ H s):s.heap.FunFrames X.base X.outer:=by
 have all:∀(l:List Env),(∀b∈frs l,b∈X.fs)->X.s₀.heap.FunFrames X.base l->s.heap.FunFrames X.base l:=by
  intro l
  induction l with
  | nil=>intro _ _;trivial
  | cons env r ih=>
    intro hs hl
    obtain⟨hk,⟨L,o,hf,hn,ho,hd⟩,hr⟩:=hl
    have hL:L∈X.fs:=hs L (by unfold frs;rw[List.filterMap_cons,hf];exact List.mem_cons_self)
    obtain⟨sl,e⟩:=I.base.slot L o ho (I.ok.frf L hL) hL fun z=>I.ok.exfs L z hL
    exact⟨hk,⟨L,_,hf,hn,e,hd⟩,ih (fun b hb=>hs b (by unfold frs;rw[List.filterMap_cons,hf];exact List.mem_cons_of_mem _ hb)) hr⟩
 exact all X.outer (fun _ hb=>hb) I.ok.funs
theorem Inv.stack (I:Inv X pins σ H s):s.heap.FunFrames X.base X.stack:=by
 rcases I.ok.stk with e | ⟨e,hf⟩
 ·rw[e];exact I.funs
 ·rw[e]
  obtain⟨m,hn,_⟩:=I.loc
  refine .cons (by rw[I.ok.kind];decide) hf hn ?_ I.funs
  exact Heap.get?_none_of_le (Nat.le_trans I.ok.bsz I.ok.above)
theorem Inv.JC (I:Inv X pins σ H s):∀b∈frs X.stack,b∈X.env.locals::X.fs:=fun b hb=>by
 rcases I.ok.stk with e | ⟨e,hf⟩
 ·rw[e] at hb;exact List.mem_cons_of_mem _ hb
 ·rw[e] at hb
  unfold frs at hb
  rw[List.filterMap_cons,hf] at hb
  exact hb
theorem Inv.Oz (I:Inv X pins σ H s):∀b∈frs X.stack,H b=none:=fun b hb=>by
 rcases List.mem_cons.mp (I.JC b hb) with e | hb
 ·rw[e];exact I.free
 ·obtain⟨_,o,ho,_⟩:=I.ok.funs.mem hb
  exact I.base.free b o ho (I.ok.frf b hb) fun z=>I.ok.exfs b z hb
theorem Inv.step {g':Array GenState}{t':Nat}{d':Drawn}{ch:List Addr} (I:Inv X pins σ H s)
 (hch:∀b∈ch,(b∈X.ex\/X.s₀.heap.objs.size<=b)/\b≠X.env.locals/\(∀x c,X.env.cells.lookup x=some c->c≠b)/\∀p∈X.pn++pins,p.1≠b)
 (keep:∀b o,b≠X.env.locals->b∉X.fs->b∉ch->s.heap.get? b=some o->H b=none->h'.get? b=some o)
 (slot:∀b o,b≠X.env.locals->b∈X.fs->b∉ch->s.heap.get? b=some o->H b=none->∃sl,h'.get? b=some {o with slots:=sl}) (free:∀b o,b∉ch->s.heap.get? b=some o->H b=none->H' b=none)
 (there:∀b o,b∉ch->s.heap.get? b=some o->∃o',h'.get? b=some o')
 (tups:∀b xs,H b=some (.tup xs)->H' b=some (.tup xs)) (frzs:∀b o u,H b=some (.frz o u)->H' b=some (.frz o u)) (tbls:∀b ps,H b=some (.tbl ps)->∃more,H' b=some (.tbl (ps++more)))
 (ns:∀m,s.heap.Ns X.env.locals m->h'.Ns X.env.locals m) (hok:HOk X.prog X.w H' h') (hg:AllBare g'):
 Inv X pins σ H' {s with heap:=h',gens:=g',drawn:=d',toks:=t'}:=by
 have neL:∀b o,X.s₀.heap.get? b=some o->b≠X.env.locals:=fun b o e=>Nat.ne_of_lt (Nat.lt_of_lt_of_le (Heap.lt_size e) I.ok.above)
 have neC:∀b o,X.s₀.heap.get? b=some o->b∉X.ex->b∉ch:=fun b o e hx hb=>by
  rcases(hch b hb).1 with z | z
  ·exact hx z
  ·exact absurd (Nat.lt_of_lt_of_le (Heap.lt_size e) z) (Nat.lt_irrefl _)
 have cellK:∀x c,X.env.cells.lookup x=some c->∀v,s.heap.IsCell c v->h'.IsCell c v:=fun x c e v ⟨o,ho,hd⟩=>by
  have nch:c∉ch:=fun z=>(hch c z).2.2.1 x c e rfl
  by_cases hc:c∈X.fs
  ·obtain⟨sl,q⟩:=slot c o (I.cne x c e) hc nch ho (I.wB x c e)
   exact⟨_,q,hd⟩
  ·exact⟨o,keep c o (I.cne x c e) hc nch ho (I.wB x c e),hd⟩
 refine⟨I.ok,I.os,hg,⟨fun b o e n hb hx=> ?_,fun b o e n hb hx=> ?_,fun b o e n hx=> ?_,fun b o e hx=> ?_,fun b xs e=>tups b xs (I.base.tups b xs e),fun b o xs e=>frzs b o xs (I.base.frzs b o xs e),fun b ps e=> ?_⟩, ?_,fun x c e=> ?_, ?_,fun x c e=> ?_,fun p hp=> ?_,hok,I.len⟩
 ·exact keep b o (neL b o e) hb (neC b o e hx) (I.base.keep b o e n hb hx) (I.base.free b o e n hx)
 ·obtain⟨sl,e1⟩:=I.base.slot b o e n hb hx
  obtain⟨sl',e2⟩:=slot b _ (neL b o e) hb (neC b o e hx) e1 (I.base.free b o e n hx)
  exact⟨sl',e2⟩
 ·obtain⟨o',e1⟩:=I.base.there b o e hx
  exact free b o' (neC b o e hx) e1 (I.base.free b o e n hx)
 ·obtain⟨o',e1⟩:=I.base.there b o e hx
  exact there b o' (neC b o e hx) e1
 ·obtain⟨m1,e1⟩:=I.base.tbls b ps e
  obtain⟨m2,e2⟩:=tbls b _ e1
  exact⟨m1++m2,by rw[e2,Array.append_assoc]⟩
 ·obtain⟨m,hn,hl⟩:=I.loc
  refine⟨m,ns m hn,fun i x v e1 e2 e3=> ?_⟩
  obtain⟨u,r,l⟩:=hl i x v e1 e2 e3
  refine⟨u,r, ?_⟩
  rcases l with l | ⟨k,c,e,z⟩
  ·exact .inl l
  ·exact .inr ⟨k,c,e,cellK x c e _ z⟩
 ·obtain⟨v,z⟩:=I.cell x c e
  exact⟨v,cellK x c e v z⟩
 ·obtain⟨m,⟨o,_,_,ho,_⟩,_⟩:=I.loc
  exact free _ o (fun z=>(hch _ z).2.1 rfl) ho I.free
 ·obtain⟨v,o,ho,hd⟩:=I.cell x c e
  exact free c o (fun z=>(hch c z).2.2.1 x c e rfl) ho (I.wB x c e)
 ·obtain⟨e,n,ne,nf,d⟩:=I.pin p hp
  have nch:p.1∉ch:=fun z=>(hch p.1 z).2.2.2 p hp rfl
  exact⟨keep p.1 p.2 ne nf nch e n,free p.1 p.2 nch e n,ne,nf,d⟩
theorem Inv.un {t':Nat} (I:Inv X pins σ H s) (u:Un X.fs [] H H' s.heap h') (hok:HOk X.prog X.w H' h'):Inv X pins σ H' {s with heap:=h',toks:=t'}:=by
 obtain⟨m,⟨o,es,ep,ho,r⟩,_⟩:=id I.loc
 obtain⟨sl,hL⟩:=u.any ho I.free (by simp)
 exact I.step (g':=s.gens) (d':=s.drawn) (ch:=[]) (fun _ z=>nomatch z) (fun b o _ hb _ e n=>u.keep b o e n hb (by simp)) (fun b o _ hb _ e n=>u.slot b o e n hb (by simp)) (fun b o _ e n=>u.free b o e n (by simp)) (fun b o _ e=>u.there b o e (by simp)) u.tups u.frzs u.tbls (fun m' hm=>by
  obtain⟨o',es',ep',ho',r'⟩:=hm
  rw[ho] at ho';cases ho'
  exact⟨_,es',ep',hL,r'⟩) hok I.bare
theorem Inv.call {g':Array GenState}{t':Nat}{d':Drawn}{ch:List Addr} (I:Inv X pins σ H s) (u:Un (frs X.stack) ch H H' s.heap h') (hok:HOk X.prog X.w H' h') (hg:AllBare g')
 (hch:∀b∈ch,(b∈X.ex\/X.s₀.heap.objs.size<=b)/\b≠X.env.locals/\(∀x c,X.env.cells.lookup x=some c->c≠b)/\∀p∈X.pn++pins,p.1≠b):
 Inv X pins σ H' {s with heap:=h',gens:=g',drawn:=d',toks:=t'}:=by
 obtain⟨m,⟨o,es,ep,ho,r⟩,_⟩:=id I.loc
 obtain⟨sl,hL⟩:=u.any ho I.free fun z=>(hch _ z).2.1 rfl
 exact I.step (ch:=ch) hch (fun b o hL hb hc e n=>u.keep b o e n (fun z=>(List.mem_cons.mp (I.JC b z)).elim hL hb) hc) (fun b o _ _ hc e n=>u.any e n hc) (fun b o hc e n=>u.free b o e n hc) (fun b o hc e=>u.there b o e hc) u.tups u.frzs u.tbls (fun m' hm=>by
  obtain⟨o',es',ep',ho',r'⟩:=hm
  rw[ho] at ho';cases ho'
  exact⟨_,es',ep',hL,r'⟩) hok hg
theorem Inv.turned {t':Nat}{it:Addr} (I:Inv X pins σ H s) (k:∀b o,b≠it->s.heap.get? b=some o->h'.get? b=some o) (hn:H it=none) (hL:it≠X.env.locals)
 (h1:it∈X.ex\/X.s₀.heap.objs.size<=it) (h2:∀x c,X.env.cells.lookup x=some c->c≠it) (h3:∀p∈X.pn++pins,p.1≠it):Inv X pins σ H {s with heap:=h',toks:=t'}:=by
 have nit:∀b u,H b=some u->b≠it:=fun b u e z=>by rw[z,hn] at e;cases e
 refine I.step (g':=s.gens) (d':=s.drawn) (ch:=[it]) (fun b hb=> ?_) (fun b o _ _ hc e _=>k b o (fun z=>hc (by simp[z])) e) (fun b o _ _ hc e _=>⟨o.slots,k b o (fun z=>hc (by simp[z])) e⟩) (fun _ _ _ _ n=>n)
  (fun b o hc e=>⟨o,k b o (fun z=>hc (by simp[z])) e⟩) (fun _ _ e=>e) (fun _ _ _ e=>e) (fun b ps e=>⟨#[],by rw[e];simp⟩) (fun m hm=> ?_) (fun b u e=> ?_) I.bare
 ·have e:b=it:=by simpa using hb
  subst e
  exact⟨h1,hL,h2,h3⟩
 ·obtain⟨o,es,ep,ho,r⟩:=hm
  exact⟨o,es,ep,k _ o (Ne.symm hL) ho,r⟩
 ·refine(I.hok b u e).stay (fun c v hc q=>k c v ?_ q) (fun _ q=>q) fun _ _ q=>q
  rcases hc with z | z
  ·rw[z];exact nit b u e
  ·exact nit c _ z
theorem Inv.tok (I:Inv X pins σ H s) (t:Nat):Inv X pins σ H {s with toks:=t}:=I.un (h':=s.heap) (t':=t) Un.refl I.hok
theorem Inv.kept {t':Nat} (I:Inv X pins σ H s) (k:∀b u,s.heap.get? b=some u->h'.get? b=some u):Inv X pins σ H {s with heap:=h',toks:=t'}:=I.un (Un.kept k) (I.hok.kept k)
theorem Inv.laid {a:Addr}{o:HO}{t':Nat} (I:Inv X pins σ H s) (k:∀b u,s.heap.get? b=some u->h'.get? b=some u) (hp:s.heap.objs.size<=a) (new:fH X.prog X.w (upd H a o) h' a o):
 Inv X pins σ (upd H a o) {s with heap:=h',toks:=t'}:=I.un (Un.laid k hp (I.hok.fresh hp)) (I.hok.laid k hp new)
theorem Inv.write {x e:Addr}{o:HO}{t':Nat} (I:Inv X pins σ H s) (mu:Mut (H x)) (he:e=x\/H e=some (.own x)) (k:∀b u,b≠e->s.heap.get? b=some u->h'.get? b=some u) (heo:∃u,h'.get? e=some u)
 (new:fH X.prog X.w (upd H x o) h' x o):Inv X pins σ (upd H x o) {s with heap:=h',toks:=t'}:=I.un (Un.write mu he k heo) (I.hok.write mu he k heo new)
theorem Inv.OD {pins':List (Addr×Obj)} (I:Inv X pins σ H s) (h:∀p∈pins',s.heap.get? p.1=some p.2/\H p.1=none/\p.1≠X.env.locals/\p.1∉X.fs/\∀v,p.2.data≠ .cell v):Inv X pins' σ H s:=
 ⟨I.ok,I.os,I.bare,I.base,I.loc,I.cell,I.free,I.wB,fun p hp=>(List.mem_append.mp hp).elim (fun z=>I.pin p (List.mem_append_left _ z)) (h p),I.hok,I.len⟩
theorem KH {N:List Str} (hN:N.Nodup) {i j:Nat}{x:Str} (a:N[i]? =some x) (b:N[j]? =some x):i=j:=by
 obtain⟨h1,e1⟩:=List.getElem?_eq_some_iff.mp a
 obtain⟨h2,e2⟩:=List.getElem?_eq_some_iff.mp b
 exact(List.getElem_inj hN).mp (e1.trans e2.symm)
theorem Jb {M:Model}{A:Around}{E:Value->Shared->Prop}{i:Nat}{x:Str}{v:V}{u:Value}{Q:Unit->Shared->Prop} (I:Inv X pins σ H s) (hN:X.N.Nodup) (hi:X.N[i]? =some x) (hx:Loc X.env.scope x) (r:RelV v u)
 (h:∀s',Inv X pins (σ.set i (some v)) H s'->(∃a,Heap.SameBut a s.heap s'.heap/\(a=X.env.locals\/X.env.cells.lookup x=some a))->Q () s') (hf:X.fn x=true\/X.env.scope.names.lookup x=some .local:=by first | exact .inl rfl | exact .inr rfl | assumption):wpAny M A (storeName X.env x u) Q E s:=by
 obtain⟨m,hn,hl⟩:=id I.loc
 have hcls:(X.env.scope.kind== .class||(X.env.scope.kind== .module&&X.env.locals !=X.env.globals))=false:=by rw[I.ok.kind];rfl
 have hiσ:i<σ.length:=by rw[I.len];exact(List.getElem?_eq_some_iff.mp hi).1
 have cne:=I.cne
 have tracked:∀{a:Addr}{h':Heap},(∃o,s.heap.get? a=some o/\H a=none)->Heap.SameBut a s.heap h'->HOk X.prog X.w H h':=fun{a h'} ha hs b ob e=>by
  obtain⟨_,_,hfree⟩:=ha
  refine(I.hok b ob e).stay (fun c w' hc q=>(hs.2 c ?_).trans q) (fun _ q=>q) fun _ _ q=>q
  rintro rfl
  rcases hc with rfl | hc
  ·rw[hfree] at e;cases e
  ·rw[hfree] at hc;cases hc
 rcases hx with hk | hk
 ·refine wpAny_storeName_local hk hn (fun h' hn' hs=> ?_) hcls
  obtain⟨oL,_,_,hoL,_⟩:=id hn
  refine h _ ⟨I.ok,I.os,I.bare,⟨fun b o e n hb hx=> ?_,fun b o e n hb hx=> ?_,I.base.free,fun b o e hx=> ?_,I.base.tups,I.base.frzs,I.base.tbls⟩,⟨_,hn',fun j y v' e1 e2 e3=> ?_⟩,fun y c e=> ?_,I.free,I.wB,fun p hp=> ?_,tracked ⟨oL,hoL,I.free⟩ hs,by simpa using I.len⟩ ⟨_,hs, .inl rfl⟩
  ·exact(hs.2 b (Nat.ne_of_lt (Nat.lt_of_lt_of_le (Heap.lt_size e) I.ok.above))).trans (I.base.keep b o e n hb hx)
  ·obtain⟨sl,e1⟩:=I.base.slot b o e n hb hx
   exact⟨sl,(hs.2 b (Nat.ne_of_lt (Nat.lt_of_lt_of_le (Heap.lt_size e) I.ok.above))).trans e1⟩
  ·obtain⟨o',e1⟩:=I.base.there b o e hx
   exact⟨o',(hs.2 b (Nat.ne_of_lt (Nat.lt_of_lt_of_le (Heap.lt_size e) I.ok.above))).trans e1⟩
  ·by_cases hj:j=i
   ·subst hj
    rw[hi] at e1;cases e1
    rw[List.getElem?_set_self hiσ] at e2
    cases e2
    exact⟨u,r, .inl ⟨hk,by simp⟩⟩
   ·rw[List.getElem?_set_ne (Ne.symm hj)] at e2
    obtain⟨u',r',q⟩:=hl j y v' e1 e2 e3
    refine⟨u',r', ?_⟩
    rcases q with⟨k,e⟩ | ⟨k,c,e,z⟩
    ·refine .inl ⟨k, ?_⟩
     have:y≠x:=fun e=>hj (KH hN e1 (e▸hi))
     simp[this,e]
    ·exact .inr ⟨k,c,e,z.sameBut hs (cne y c e)⟩
  ·obtain⟨w',z⟩:=I.cell y c e
   exact⟨w',z.sameBut hs (cne y c e)⟩
  ·obtain⟨e,n,ne,nf,d⟩:=I.pin p hp
   exact⟨(hs.2 p.1 ne).trans e,n,ne,nf,d⟩
 ·have hfn:X.fn x=true:=by
   rcases hf with z | z
   ·exact z
   ·rw[z] at hk;cases hk
  obtain⟨c,hc⟩:=I.ok.has x (.inl hk)
  obtain⟨w',z⟩:=I.cell x c hc
  refine wpAny_storeName_cell I.ok.kind hk hc z (fun h' hc' hs=> ?_)
  obtain⟨oc,hoc,hocd⟩:=id z
  refine h {s with heap:=h'} ⟨I.ok,I.os,I.bare,⟨fun b o e n hb hx=> ?_,fun b o e n hb hx=> ?_,I.base.free,fun b o e hx=> ?_,I.base.tups,I.base.frzs,I.base.tbls⟩,⟨m,hn.sameBut hs (Ne.symm (cne x c hc)),fun j y v' e1 e2 e3=> ?_⟩,fun y c' e=> ?_,I.free,I.wB,fun p hp=> ?_,tracked ⟨oc,hoc,I.wB x c hc⟩ hs,by simpa using I.len⟩ ⟨c,hs, .inr hc⟩
  ·exact(hs.2 b (Nat.ne_of_lt (Nat.lt_of_lt_of_le (Heap.lt_size e) (I.ok.cab x c hfn hc)))).trans (I.base.keep b o e n hb hx)
  ·obtain⟨sl,e1⟩:=I.base.slot b o e n hb hx
   exact⟨sl,(hs.2 b (Nat.ne_of_lt (Nat.lt_of_lt_of_le (Heap.lt_size e) (I.ok.cab x c hfn hc)))).trans e1⟩
  ·obtain⟨o',e1⟩:=I.base.there b o e hx
   exact⟨o',(hs.2 b (Nat.ne_of_lt (Nat.lt_of_lt_of_le (Heap.lt_size e) (I.ok.cab x c hfn hc)))).trans e1⟩
  ·by_cases hj:j=i
   ·subst hj
    rw[hi] at e1;cases e1
    rw[List.getElem?_set_self hiσ] at e2
    cases e2
    exact⟨u,r, .inr ⟨.inl hk,c,hc,hc'⟩⟩
   ·rw[List.getElem?_set_ne (Ne.symm hj)] at e2
    obtain⟨u',r',q⟩:=hl j y v' e1 e2 e3
    refine⟨u',r', ?_⟩
    rcases q with q | ⟨k,c',e,z'⟩
    ·exact .inl q
    ·refine .inr ⟨k,c',e,z'.sameBut hs ?_⟩
     rintro rfl
     exact hj (KH hN e1 (I.ok.inj _ _ _ e hc▸hi))
  ·by_cases hcc:c'=c
   ·subst hcc;exact⟨_,hc'⟩
   ·obtain⟨w2,z2⟩:=I.cell y c' e
    exact⟨w2,z2.sameBut hs hcc⟩
  ·obtain⟨e,n,ne,nf,d⟩:=I.pin p hp
   refine⟨(hs.2 p.1 ?_).trans e,n,ne,nf,d⟩
   intro q
   rw[q,hoc] at e
   have q':oc=p.2:=Option.some.inj e
   exact d w' (by rw[<-q'];exact hocd)
theorem KJ {M:Model}{A:Around}{E:Value->Shared->Prop}{i:Nat}{x:Str}{v:V}{u:Value}{Q:Unit->Shared->Prop} (I:Inv X pins σ H s) (hN:X.N.Nodup) (hi:X.N[i]? =some x) (hx:Loc X.env.scope x) (r:RelV v u)
 (h:∀s',Inv X pins (σ.set i (some v)) H s'->Q () s') (hf:X.fn x=true\/X.env.scope.names.lookup x=some .local:=by first | exact .inl rfl | exact .inr rfl | assumption):wpAny M A (storeName X.env x u) Q E s:=
 Jb I hN hi hx r (fun s' I' _=>h s' I') hf
theorem Inv.call' {s':Shared}{ch:List Addr} (I:Inv X pins σ H s) (ho:s'.os=s.os) (u:Un (frs X.stack) ch H H' s.heap s'.heap) (hok:HOk X.prog X.w H' s'.heap) (hg:AllBare s'.gens)
 (hch:∀b∈ch,(b∈X.ex\/X.s₀.heap.objs.size<=b)/\b≠X.env.locals/\(∀x c,X.env.cells.lookup x=some c->c≠b)/\∀p∈X.pn++pins,p.1≠b):Inv X pins σ H' s':=by
 obtain⟨h',g',d',t',o'⟩:=s'
 have e:o'=s.os:=ho
 subst e
 exact I.call (g':=g') (t':=t') (d':=d') u hok hg hch
end
abbrev XK:=Value->Option Addr->Hp->Prop
abbrev St:=List (Option V)
abbrev VK:=V->Hp->Prop
abbrev TE:=St->Hp->VK->Prop
abbrev TT:=St->Hp->(Bool->Hp->Prop)->Prop
abbrev TA:=St->Hp->(List V->Hp->Prop)->Prop
structure Ends where
 nx:St->Hp->Prop
 rt:VK
 bk:St->Hp->Prop:=fun _ _=>False
 ct:St->Hp->Prop:=fun _ _=>False
abbrev TS:=Ends->St->Hp->Prop
def EP (X:Cx) (pins:List (Addr×Obj)) (σ:St) (Q:VK) (u:Value) (s':Shared):Prop:=∃v H',Inv X pins σ H' s'/\RelV v u/\Q v H'
def TP (X:Cx) (pins:List (Addr×Obj)) (σ:St) (Q:Bool->Hp->Prop) (b:Bool) (s':Shared):Prop:=∃H',Inv X pins σ H' s'/\Q b H'
def AP (X:Cx) (pins:List (Addr×Obj)) (σ:St) (Q:List V->Hp->Prop) (us:List Value) (s':Shared):Prop:=∃vs H',Inv X pins σ H' s'/\Vals vs us/\Q vs H'
def SP (X:Cx) (pins:List (Addr×Obj)) (D:Ends) (f:Flow) (s':Shared):Prop:=
 match f with
 | .next=>∃σ' H',Inv X pins σ' H' s'/\D.nx σ' H'
 | .brk=>∃σ' H',Inv X pins σ' H' s'/\D.bk σ' H'
 | .cont=>∃σ' H',Inv X pins σ' H' s'/\D.ct σ' H'
 | .ret u=>∃v σ' H',Inv X pins σ' H' s'/\RelV v u/\D.rt v H'
def PE (X:Cx) (e:Expr) (t:TE):Prop:=
 ∀(pins:List (Addr×Obj)) (s:Shared) (σ:St) (H:Hp) (Q:VK),Inv X pins σ H s->t σ H Q->wpAny (model X.prog X.w) X.A (eval e X.env) (EP X pins σ Q) X.xe s
def PT (X:Cx) (e:Expr) (t:TT):Prop:=
 ∀(pins:List (Addr×Obj)) (s:Shared) (σ:St) (H:Hp) (Q:Bool->Hp->Prop),Inv X pins σ H s->t σ H Q->wpAny (model X.prog X.w) X.A (isTrue e X.env (eval e X.env)) (TP X pins σ Q) X.xe s
def PW (X:Cx) (e:Expr) (t:TT):Prop:=
 ∀(whole:Sem Value) (pins:List (Addr×Obj)) (s:Shared) (σ:St) (H:Hp) (Q:Bool->Hp->Prop),Inv X pins σ H s->t σ H Q->wpAny (model X.prog X.w) X.A (isTrue e X.env whole) (TP X pins σ Q) X.xe s
theorem PW.pt {X:Cx}{e:Expr}{t:TT} (h:PW X e t):PT X e t:=h _
def PA (X:Cx) (es:List Expr) (t:TA):Prop:=
 ∀(pos:Pos) (pins:List (Addr×Obj)) (s:Shared) (σ:St) (H:Hp) (Q:List V->Hp->Prop),Inv X pins σ H s->t σ H Q->wpAny (model X.prog X.w) X.A (spliced (backTo pos (starEach es X.env))) (AP X pins σ Q) X.xe s
def PS (X:Cx) (st:Stmt) (t:TS):Prop:=
 ∀(pins:List (Addr×Obj)) (s:Shared) (σ:St) (H:Hp) (D:Ends),Inv X pins σ H s->t D σ H->wpAny (model X.prog X.w) X.A (exec st X.env) (SP X pins D) X.xe s
def PSs (X:Cx) (st:List Stmt) (t:TS):Prop:=
 ∀(pins:List (Addr×Obj)) (s:Shared) (σ:St) (H:Hp) (D:Ends),Inv X pins σ H s->t D σ H->wpAny (model X.prog X.w) X.A (execs st X.env) (SP X pins D) X.xe s
theorem thn {α:Type}{t:Sem α}{Q Q':α->Shared->Prop}{M:Model}{A:Around}{E:Value->Shared->Prop}{s:Shared} (h:wpAny M A t Q E s) (hQ:∀a s,Q a s->Q' a s):wpAny M A t Q' E s:=wpAny_mono h hQ fun _ _ x=>x
end L2
namespace L2
open PySem PySem.Spec PyProof.Rows
section
variable {X:Cx}
def ZQ (i:Nat):TE:=fun σ H Q=>∃v,σ[i]? =some (some v)/\Q v H
def tC (v:V):TE:=fun _ H Q=>Q v H
theorem ZR {i:Nat}{x:Str}{pos:Pos} (hN:X.N[i]? =some x) (hv:Vis X.env.scope x) (hd:(x==("__debug__":Str))=false:=by decide) (hcd:(x==("__classdict__":Str))=false:=by decide):PE X (.Name x pos) (ZQ i):=by
 intro pins s σ H Q I h
 obtain⟨v,e,h⟩:=h
 obtain⟨m,hn,hl⟩:=I.loc
 obtain⟨u,r,l⟩:=hl i x v hN e hv
 have fin:EP X pins σ Q u s:=⟨v,H,I,r,h⟩
 rcases l with⟨hk,hm⟩ | ⟨hk,c,hc,hcell⟩
 ·exact wpAny_Name (wpAny_loadName_local I.ok.kind hk hn hm fin) hd
 ·rcases hk with hk | hk
  ·exact wpAny_Name (wpAny_loadName_cell I.ok.kind hk hc hcell fin) hd
  ·exact wpAny_Name (wpAny_loadName_free I.ok.kind hk hc hcell fin hcd) hd
theorem ZS {i j pos}:PE X (.Constant (.int i) j pos) (tC (.int i)):=fun _ _ _ H _ I h=>wpAny_Constant_int ⟨.int i,H,I.tok _,⟨_,rfl⟩,h⟩
theorem ac1 {b j pos}:PE X (.Constant (.bool b) j pos) (tC (.bl b)):=fun _ _ _ H _ I h=>Constant_bool ⟨.bl b,H,I,rfl,h⟩
theorem ZV {j pos}:PE X (.Constant .none j pos) (tC .non):=fun _ _ _ H _ I h=>Constant_none ⟨.non,H,I,rfl,h⟩
theorem ZW {x j pos}:PE X (.Constant (.str x) j pos) (tC (.str x)):=fun _ _ _ H _ I h=>Calls.Constant_str ⟨.str x,H,I.tok _,⟨_,rfl⟩,h⟩
def Gl (X:Cx) (x:Str):Prop:=X.env.kindOf x=some .globalImplicit
theorem OJ {E:Value->Shared->Prop}{pins:List (Addr×Obj)}{s:Shared}{σ:St}{H:Hp}{x:Str}{u:Value}{pos:Pos}{Q:Value->Shared->Prop} (I:Inv X pins σ H s) (hg:Gl X x) (hm:X.mg x=some u) (h:Q u s)
 (hd:(x==("__debug__":Str))=false:=by decide):wpAny (model X.prog X.w) X.A (eval (.Name x pos) X.env) Q E s:=
 Calls.Name_function_global I.ok.kind hg (Calls.loadGlobal_global (by rw[I.ok.glob];exact I.mod.glob.keeps I.bk) hm h) hd
theorem zL {E:Value->Shared->Prop}{pins:List (Addr×Obj)}{s:Shared}{σ:St}{H:Hp}{x:Str}{u:Value}{pos:Pos}{Q:Value->Shared->Prop} (I:Inv X pins σ H s) (hg:Gl X x) (hm:X.mg x=none) (hv:bootBuiltins x=some u) (h:Q u s)
 (hn:x≠"__name__":=by decide) (hd:(x==("__debug__":Str))=false:=by decide):wpAny (model X.prog X.w) X.A (eval (.Name x pos) X.env) Q E s:=by
 obtain⟨mb,h1,h2⟩:=I.mod.blt
 exact Calls.Name_function_global I.ok.kind hg (Calls.loadGlobal_builtin (by rw[I.ok.glob];exact I.mod.glob.keeps I.bk) hm (by rw[I.ok.blt];exact h1.keeps I.bk) ((h2 x hn).trans hv) h) hd
theorem Vl {x:Str}{v:V}{u:Value}{pos:Pos} (hg:Gl X x) (hm:X.mg x=none) (hv:bootBuiltins x=some u) (r:RelV v u) (hn:x≠"__name__":=by decide) (hd:(x==("__debug__":Str))=false:=by decide):PE X (.Name x pos) (tC v):=
 fun _ _ _ H _ I h=>zL I hg hm hv ⟨v,H,I,r,h⟩ hn hd
variable {a b:Expr}{ta tb:TE}{pos:Pos}
def PC (X:Cx) (op:CmpOp) (a b:Expr) (t:TE):Prop:=
 ∀(pins:List (Addr×Obj)) (s:Shared) (σ:St) (H:Hp) (Q:VK),Inv X pins σ H s->t σ H Q->
  wpAny (model X.prog X.w) X.A (eval a X.env) (fun v s₁=>wpAny (model X.prog X.w) X.A (eval b X.env) (fun u s₂=>wpAny (model X.prog X.w) X.A (compareOp op v u) (EP X pins σ Q) X.xe s₂) X.xe s₁) X.xe s
def tB (t:TE):TT:=fun σ H Q=>t σ H fun x H1=>∃c,x= .bl c/\Q c H1
theorem RD {op:CmpOp}{t:TE} (h:PC X op a b t) (h1:behindInMarks op b=false:=by first | exact nobehind _ (by decide) (by decide) | rfl):PT X (.Compare a [op] [b] pos) (tB t):=by
 intro pins s σ H Q I hw
 refine wpAny_isTrue_Compare1 (thn (h pins s σ H _ I hw) fun v s1 h1=>thn h1 fun u s2 h2=>thn h2 fun c s3 ⟨x,H1,I1,r1,q1⟩=> ?_) h1
 obtain⟨d,rfl,q⟩:=q1
 cases r1
 exact wpAny_truthy_bool ⟨H1,I1,q⟩
theorem ZX {e:Expr}{t:TE} (h:PE X e t) (he:∀whole,isTrue e X.env whole=(do let v <-whole;standAt e.pos;holding [v] (truthy v)):=by intro _;rfl):PT X e (tB t):=by
 intro pins s σ H Q I hw
 refine isTrue_plain (thn (h pins s σ H _ I hw) fun v s1 ⟨x,H1,I1,r1,q1⟩=> ?_) (he _)
 obtain⟨d,rfl,q⟩:=q1
 cases r1
 exact wpAny_truthy_bool ⟨H1,I1,q⟩
variable {tA tB':TT}{rest:List Expr}
def ac2 (t u:TT):TT:=fun σ H Q=>t σ H fun c H1=>if c=true then u σ H1 Q else Q false H1
def tOr (t u:TT):TT:=fun σ H Q=>t σ H fun c H1=>if c=true then Q true H1 else u σ H1 Q
def ac3 (t:TT):TT:=fun σ H Q=>t σ H fun c H1=>Q (!c) H1
theorem Vm (ha:PT X a tA):PW X (.BoolOp .And [a] pos) tA:=by
 intro wh pins s σ H Q I h
 refine isTrue_and (thn (ha pins s σ H Q I h) fun c s1 e=> ?_)
 cases c with
 | true=>exact isTrue_and_nil e
 | false=>exact e
theorem ZZ (ha:PT X a tA):PW X (.BoolOp .Or [a] pos) tA:=by
 intro wh pins s σ H Q I h
 refine isTrue_or (thn (ha pins s σ H Q I h) fun c s1 e=> ?_)
 cases c with
 | false=>exact isTrue_or_nil e
 | true=>exact e
theorem Z0 (ha:PT X a tA) (hb:PW X (.BoolOp .And (b::rest) pos) tB'):PW X (.BoolOp .And (a::b::rest) pos) (ac2 tA tB'):=by
 intro wh pins s σ H Q I h
 refine isTrue_and (thn (ha pins s σ H _ I h) fun c s1 ⟨H1,I1,q1⟩=> ?_)
 cases c with
 | true=>exact hb wh pins s1 σ H1 Q I1 q1
 | false=>exact⟨H1,I1,q1⟩
theorem ac4 (ha:PT X a tA) (hb:PW X (.BoolOp .Or (b::rest) pos) tB'):PW X (.BoolOp .Or (a::b::rest) pos) (tOr tA tB'):=by
 intro wh pins s σ H Q I h
 refine isTrue_or (thn (ha pins s σ H _ I h) fun c s1 ⟨H1,I1,q1⟩=> ?_)
 cases c with
 | true=>exact⟨H1,I1,q1⟩
 | false=>exact hb wh pins s1 σ H1 Q I1 q1
theorem Z1 (ha:PT X a tA):PT X (.UnaryOp .Not a pos) (ac3 tA):=by
 intro pins s σ H Q I h
 exact isTrue_not (ha pins s σ H (fun c H1=>Q (!c) H1) I h)
def Yg (ta tb:TE):TE:=fun σ H Q=>ta σ H fun x H1=>∃c,x= .bl c/\if c=true then tb σ H1 Q else Q (.bl false) H1
def Yh (ta:TE):TE:=fun σ H Q=>ta σ H fun x H1=>∃c,x= .bl c/\Q (.bl (!c)) H1
theorem Z2 {op}{t:TE} (h:PE X a t):PE X (.BoolOp op [a] pos) t:=fun pins s σ H Q I hw=>BoolOp_one (h pins s σ H Q I hw)
theorem Z3 (ha:PE X a ta) (hb:PE X (.BoolOp .And (b::rest) pos) tb):PE X (.BoolOp .And (a::b::rest) pos) (Yg ta tb):=by
 intro pins s σ H Q I h
 refine BoolOp_and (thn (ha pins s σ H _ I h) fun v s1 ⟨x,H1,I1,r1,q1⟩=> ?_)
 obtain⟨c,rfl,q1⟩:=q1
 cases r1
 refine wpAny_truthy_bool ?_
 cases c with
 | true=>exact hb pins s1 σ H1 Q I1 q1
 | false=>exact⟨.bl false,H1,I1,rfl,q1⟩
theorem Z4 (ha:PE X a ta):PE X (.UnaryOp .Not a pos) (Yh ta):=by
 intro pins s σ H Q I h
 refine UnaryOp_ (thn (ha pins s σ H _ I h) fun v s1 ⟨x,H1,I1,r1,q1⟩=> ?_)
 obtain⟨c,rfl,q1⟩:=q1
 cases r1
 exact not_of (wpAny_truthy_bool ⟨.bl (!c),H1,I1,rfl,q1⟩)
def tIf (t:TT) (ta tb:TE):TE:=fun σ H Q=>t σ H fun c H1=>if c=true then ta σ H1 Q else tb σ H1 Q
theorem RG {c:Expr} (hc:PT X c tA) (ha:PE X a ta) (hb:PE X b tb):PE X (.IfExp c a b pos) (tIf tA ta tb):=by
 intro pins s σ H Q I h
 refine wpAny_IfExp (thn (hc pins s σ H _ I h) fun d s1 ⟨H1,I1,q1⟩=> ?_)
 cases d with
 | true=>exact ha pins s1 σ H1 Q I1 q1
 | false=>exact hb pins s1 σ H1 Q I1 q1
end
end L2
namespace L2
open PySem PySem.Spec PyProof.Rows
def SqL (K:PySem.W.Frag) (H:Hp) (a:Addr) (xs:List V):Prop:=
 Rd H a (.lst xs)\/
  ∃(o:Obj) (its:Array Value) (n:Nat),K.lookup a=some o/\o.cls= .type "list"/\o.dict=none/\o.data= .seq its n/\its.size<=sizeLine/\Vals xs its.toList
def SqT (K:PySem.W.Frag) (H:Hp) (a:Addr) (xs:List V):Prop:=
 Rd H a (.tup xs)\/
  ∃(o:Obj) (its:Array Value) (n:Nat),K.lookup a=some o/\o.cls= .type "tuple"/\o.data= .seq its n/\its.size<=sizeLine/\Vals xs its.toList
def ahs:Value->Option V
 | .none=>some .non
 | .bool b=>some (.bl b)
 | .int i _=>some (.int i)
 | .str x _=>some (.str x)
 | .bytes b _=>some (.byt b)
 | .float b _=>some (.flt b)
 | .ref a=>some (.ref a)
 | .type n=>some (.ty n)
 | _=>none
theorem RelV.abs {x:V}{u:Value} (r:RelV x u):ahs u=some x:=by
 cases x with
 | non=>cases r;rfl
 | bl _=>cases r;rfl
 | int _=>obtain⟨t,rfl⟩:=r;rfl
 | str _=>obtain⟨t,rfl⟩:=r;rfl
 | byt _=>obtain⟨t,rfl⟩:=r;rfl
 | flt _=>obtain⟨t,rfl⟩:=r;rfl
 | ref _=>cases r;rfl
 | ty _=>cases r;rfl
theorem RelV.inj {x y:V}{u:Value} (r:RelV x u) (q:RelV y u):x=y:=Option.some.inj (r.abs.symm.trans q.abs)
theorem Vals.inj:∀{xs ys:List V}{us:List Value},Vals xs us->Vals ys us->xs=ys
 | _,_,_, .nil, .nil=>rfl
 | _,_,_, .cons r t, .cons r' t'=>by rw[r.inj r',Vals.inj t t']
section
variable {X:Cx}{pins:List (Addr×Obj)}{σ:St}{H:Hp}{s:Shared}{a:Addr}{xs ys:List V}
theorem SqL.of {K:PySem.W.Frag} (h:H a=some (.lst xs)):SqL K H a xs:= .inl (.inl h)
theorem SqT.of {K:PySem.W.Frag} (h:H a=some (.tup xs)):SqT K H a xs:= .inl (.inl h)
theorem Inv.list (I:Inv X pins σ H s) (h:SqL X.K H a xs):∃its:List Value,Vals xs its/\PlainL s.heap a its.toArray/\xs.length<=sizeLine:=by
 rcases h with h | ⟨o,its,n,hk,hc,hd,hs,hz,r⟩
 ·obtain⟨z,its,n,r,e⟩:=h.ok I.hok
  exact⟨its,r,⟨_,n,e,rfl,rfl,rfl⟩,z⟩
 ·refine⟨its.toList,r,⟨o,n,I.kIn a o hk,hc,hd,by simpa using hs⟩, ?_⟩
  have e:=r.length
  simp only[Array.length_toList] at e
  omega
theorem Inv.tuple (I:Inv X pins σ H s) (h:SqT X.K H a xs):∃its:List Value,Vals xs its/\IsTup s.heap a its.toArray/\xs.length<=sizeLine:=by
 rcases h with h | ⟨o,its,n,hk,hc,hs,hz,r⟩
 ·obtain⟨z,its,r,p⟩:=h.ok I.hok
  exact⟨its,r,p,z⟩
 ·refine⟨its.toList,r,⟨o,I.kIn a o hk,hc,n,by simpa using hs⟩, ?_⟩
  have e:=r.length
  simp only[Array.length_toList] at e
  omega
theorem Inv.RJ (I:Inv X pins σ H s) (h:SqL X.K H a xs) (h':SqL X.K H a ys):xs=ys:=by
 obtain⟨its,r,⟨o,n,e,_,_,d⟩,_⟩:=I.list h
 obtain⟨its',r',⟨o',n',e',_,_,d'⟩,_⟩:=I.list h'
 rw[e] at e';cases e'
 rw[d] at d'
 injection d' with d1 _
 have:its=its':=by simpa using congrArg Array.toList d1
 subst this
 exact r.inj r'
theorem Inv.Jc (I:Inv X pins σ H s) (h:SqT X.K H a xs) (h':SqT X.K H a ys):xs=ys:=by
 obtain⟨its,r,⟨o,e,_,n,d⟩,_⟩:=I.tuple h
 obtain⟨its',r',⟨o',e',_,n',d'⟩,_⟩:=I.tuple h'
 rw[e] at e';cases e'
 rw[d] at d'
 injection d' with d1 _
 have:its=its':=by simpa using congrArg Array.toList d1
 subst this
 exact r.inj r'
end
abbrev Cx.wish (X:Cx) (E:Value->Shared->Prop):Cx:={X with xe:=E}
abbrev Cx.nox (X:Cx):Cx:=X.wish fun _ _=>False
theorem Cx.Ok.wish {X:Cx} (ok:X.Ok) (E:Value->Shared->Prop):(X.wish E).Ok:=
 ⟨ok.mod,ok.kind,ok.glob,ok.blt,ok.above,ok.inj,ok.has,ok.cab,ok.hd,ok.frames,ok.stk,ok.exf,ok.bs,ok.bsz,ok.noex,ok.exfs,ok.funs,ok.frf⟩
theorem Cx.Ok.unwish {X:Cx}{E:Value->Shared->Prop} (ok:(X.wish E).Ok):X.Ok:=
 ⟨ok.mod,ok.kind,ok.glob,ok.blt,ok.above,ok.inj,ok.has,ok.cab,ok.hd,ok.frames,ok.stk,ok.exf,ok.bs,ok.bsz,ok.noex,ok.exfs,ok.funs,ok.frf⟩
section
variable {X:Cx}{pins:List (Addr×Obj)}{σ:St}{H:Hp}{s:Shared}{E:Value->Shared->Prop}
theorem Inv.wish (I:Inv X pins σ H s) (E:Value->Shared->Prop):Inv (X.wish E) pins σ H s:=⟨I.ok.wish E,I.os,I.bare,I.base,I.loc,I.cell,I.free,I.wB,I.pin,I.hok,I.len⟩
theorem Inv.unwish (I:Inv (X.wish E) pins σ H s):Inv X pins σ H s:=⟨I.ok.unwish,I.os,I.bare,I.base,I.loc,I.cell,I.free,I.wB,I.pin,I.hok,I.len⟩
theorem SP.unwish {D:Ends}{f:Flow}{s':Shared} (h:SP (X.wish E) pins D f s'):SP X pins D f s':=by
 cases f with
 | next=>obtain⟨σ',H',I,q⟩:=h;exact⟨σ',H',I.unwish,q⟩
 | brk=>obtain⟨σ',H',I,q⟩:=h;exact⟨σ',H',I.unwish,q⟩
 | cont=>obtain⟨σ',H',I,q⟩:=h;exact⟨σ',H',I.unwish,q⟩
 | ret u=>obtain⟨v,σ',H',I,r,q⟩:=h;exact⟨v,σ',H',I.unwish,r,q⟩
theorem PSs.nox {st:List Stmt}{t:TS} (h:PSs X.nox st t):PSs X st t:=fun pins s σ H D I hw=>
 wpAny_mono (h pins s σ H D (I.wish _) hw) (fun _ _ q=>q.unwish) fun _ _ z=>False.elim z
end
section
variable {X:Cx}{st:Stmt}{rest:List Stmt}{t u:TS}{e:Expr}{te:TE}{pos:Pos}
def O1:TS:=fun D σ H=>D.nx σ H
def ac5 (t u:TS):TS:=fun D σ H=>t {D with nx:=u D} σ H
theorem Vn:PSs X [] O1:=fun _ _ σ H _ I h=>wpAny_execs_nil ⟨σ,H,I,h⟩
theorem RK (h1:PS X st t) (h2:PSs X rest u):PSs X (st::rest) (ac5 t u):=by
 intro pins s σ H D I h
 refine wpAny_execs_cons (thn (h1 pins s σ H {D with nx:=u D} I h) fun f s1 q=> ?_)
 cases f with
 | next=>
   obtain⟨σ',H',I',q⟩:=q
   exact h2 pins s1 σ' H' D I' q
 | ret v=>exact q
 | brk=>exact q
 | cont=>exact q
theorem Vo (h1:PS X st t):PSs X [st] t:=by
 intro pins s σ H D I h
 refine wpAny_execs_cons (thn (h1 pins s σ H D I h) fun f s1 q=> ?_)
 cases f with
 | next=>exact wpAny_execs_nil q
 | ret v=>exact q
 | brk=>exact q
 | cont=>exact q
def Yi:TS:=fun D σ H=>D.ct σ H
theorem Vp:PS X (.Pass pos) O1:=fun _ _ σ H _ I h=>wpAny_Pass ⟨σ,H,I,h⟩
theorem KN:PS X (.Continue pos) Yi:=fun _ _ σ H _ I h=>wpAny_Continue ⟨σ,H,I,h⟩
theorem Inv.quiet {pins:List (Addr×Obj)}{σ:St}{H:Hp}{s:Shared} (I:Inv X pins σ H s):interactive X.env=false:=by simp[interactive,I.ok.kind]
def Yj (te:TE):TS:=fun D σ H=>te σ H fun _ H1=>D.nx σ H1
theorem Vq (he:PE X e te) (hs:swapsWith e none pos.line X.env=pure false:=by rfl):PS X (.Expr e pos) (Yj te):=by
 intro pins s σ H D I h
 exact wpAny_Expr_any (thn (he pins s σ H _ I h) fun v s1 ⟨x,H1,I1,r1,q1⟩=>⟨σ,H1,I1,q1⟩) I.quiet hs
def ac6 (te:TE):TS:=fun D σ H=>te σ H D.rt
theorem Z5 (he:PE X e te):PS X (.Return (some e) pos) (ac6 te):=by
 intro pins s σ H D I h
 exact wpAny_Return_some (thn (he pins s σ H _ I h) fun v s1 ⟨x,H1,I1,r1,q1⟩=>⟨x,σ,H1,I1,r1,q1⟩)
def Z6 (c:TT) (t u:TS):TS:=fun D σ H=>c σ H fun b H1=>if b=true then t D σ H1 else u D σ H1
theorem Yk {c:Expr}{a b:List Stmt}{tc:TT} (hc:PT X c tc) (ha:PSs X a t) (hb:PSs X b u):PS X (.If c a b pos) (Z6 tc t u):=by
 intro pins s σ H D I h
 refine wpAny_If (thn (hc pins s σ H _ I h) fun d s1 ⟨H1,I1,q1⟩=> ?_)
 cases d with
 | true=>exact ha pins s1 σ H1 D I1 q1
 | false=>exact hb pins s1 σ H1 D I1 q1
def RL:TS:=fun _ _ _=>False
theorem RM:PS X st RL:=fun _ _ _ _ _ _ h=>h.elim
end
abbrev TG:=V->St->Hp->(St->Hp->Prop)->Prop
abbrev TGs:=List V->St->Hp->(St->Hp->Prop)->Prop
def PG (X:Cx) (target:Expr) (t:TG):Prop:=
 ∀(pins:List (Addr×Obj)) (s:Shared) (σ:St) (H:Hp) (v:V) (u:Value) (Q:St->Hp->Prop),Inv X pins σ H s->RelV v u->t v σ H Q->
  wpAny (model X.prog X.w) X.A (assign target X.env u) (fun _ s'=>∃σ' H',Inv X pins σ' H' s'/\Q σ' H') X.xe s
def PGs (X:Cx) (ts:List Expr) (t:TGs):Prop:=
 ∀(pins:List (Addr×Obj)) (s:Shared) (σ:St) (H:Hp) (vs:List V) (us:List Value) (Q:St->Hp->Prop),Inv X pins σ H s->Vals vs us->t vs σ H Q->
  wpAny (model X.prog X.w) X.A (assignInOrder ((assignEach ts X.env).map (·.2)) us) (fun _ s'=>∃σ' H',Inv X pins σ' H' s'/\Q σ' H') X.xe s
section
variable {X:Cx}{pos:Pos}
def Bs (i:Nat):TG:=fun v σ H Q=>Q (σ.set i (some v)) H
theorem O2 {i:Nat}{x:Str} (hN:X.N.Nodup) (hi:X.N[i]? =some x) (hx:Loc X.env.scope x) (hf:X.fn x=true\/X.env.scope.names.lookup x=some .local:=by first | exact .inl rfl | exact .inr rfl | assumption):PG X (.Name x pos) (Bs i):=by
 intro pins s σ H v u Q I r h
 exact wpAny_assign_Name (KJ I hN hi hx r (fun s' I'=>⟨_,H,I',h⟩) hf)
def ac7:TGs:=fun vs σ H Q=>vs=[]/\Q σ H
def Yl (t:TG) (u:TGs):TGs:=fun vs σ H Q=>∃v r,vs=v::r/\t v σ H fun σ' H'=>u r σ' H' Q
theorem Vr:PGs X [] ac7:=by
 intro pins s σ H vs us Q I r h
 obtain⟨e,h⟩:=h
 subst e
 cases r
 exact assignInOrder_nil ⟨σ,H,I,h⟩
theorem RN {e:Expr}{es:List Expr}{t:TG}{u:TGs} (h1:PG X e t) (h2:PGs X es u)
 (hs:(assignEach (e::es) X.env).map (·.2)=assign e X.env::(assignEach es X.env).map (·.2):=by rfl):PGs X (e::es) (Yl t u):=by
 intro pins s σ H vs us Q I r h
 obtain⟨v,vr,e1,h⟩:=h
 subst e1
 cases r with
 | cons r rr=>
   rw[hs]
   refine assignInOrder_cons (thn (h1 pins s σ H _ _ _ I r h) fun _ s1 ⟨σ1,H1,I1,q1⟩=> ?_)
   exact h2 pins s1 σ1 H1 _ _ Q I1 rr q1
def Z7 (K:PySem.W.Frag) (n:Nat) (t:TGs):TG:=fun v σ H Q=>∃a xs,v= .ref a/\SqT K H a xs/\xs.length=n/\t xs σ H Q
theorem Z8 {es:List Expr}{k:Nat}{t:TGs}{n:Nat} (hc:X.calm=true) (h:PGs X es t)
 (hn:(assignEach es X.env).length=n:=by rfl) (hst:(assignEach es X.env).findIdx? (·.1)=none:=by rfl):PG X (.Tuple es k pos) (Z7 X.K n t):=by
 intro pins s σ H v u Q I r hw
 obtain⟨a,xs,e1,hq,hl,hw⟩:=hw
 subst e1
 cases r
 obtain⟨its,rv,ht,hz⟩:=I.tuple hq
 refine assign_Tuple_tuple (I.ok.hd hc) ht (by simp[hn,<-hl,rv.length]) hst fun h' hx=> ?_
 have I1:Inv X pins σ H {s with heap:=h'}:=I.kept (t':=s.toks) fun b o e=>hx b o (Nat.ne_of_lt (Heap.lt_size e)) e
 exact h pins _ σ H xs _ Q I1 (by simpa using rv) hw
def QB (te:TE) (g:TG):TS:=fun D σ H=>te σ H fun x H1=>g x σ H1 D.nx
theorem Z9 {tg e:Expr}{te:TE}{g:TG} (he:PE X e te) (hg:PG X tg g) (hs:swapsWithSole [tg] e pos.line X.env=pure false:=by rfl) (hw:swappedStores [tg] e X.env=pure none:=by rfl)
 (h1:(assignEach [tg] X.env).map (·.2)=[assign tg X.env]:=by rfl):PS X (.Assign [tg] e pos) (QB te g):=by
 intro pins s σ H D I h
 refine wpAny_Assign_stores (thn (he pins s σ H _ I h) fun v s1 ⟨x,H1,I1,r1,q1⟩=> ?_) hs hw
 rw[h1]
 exact thn (hg pins s1 σ H1 x v _ I1 r1 q1) fun _ s2 q=>q
theorem aaa {i:Nat}{x:Str}{e:Expr}{te:TE}{pos':Pos} (hN:X.N.Nodup) (hi:X.N[i]? =some x) (hx:Loc X.env.scope x) (he:PE X e te) (hs:swapsWith e (some (.Name x pos')) pos.line X.env=pure false:=by rfl) (hf:X.fn x=true\/X.env.scope.names.lookup x=some .local:=by first | exact .inl rfl | exact .inr rfl | assumption):
 PS X (.Assign [.Name x pos'] e pos) (QB te (Bs i)):=by
 intro pins s σ H D I h
 refine wpAny_Assign_Name (thn (he pins s σ H _ I h) fun v s1 ⟨y,H1,I1,r1,q1⟩=> ?_) hs
 exact KJ I1 hN hi hx r1 (fun s2 I2=>⟨_,H1,I2,q1⟩) hf
end
section
variable {X:Cx}{pos:Pos}
def RP (c:TT) (tb:TS):TS:=fun D σ H=>∃W:Nat->St->Hp->Prop,(∃m,W m σ H)/\∀m σ H,W m σ H->
 c σ H fun b H1=>if b=true then∃N:St->Hp->Prop,(∀σ' H',N σ' H'->∃m',m'<m/\W m' σ' H')/\tb {D with nx:=N,ct:=N,bk:=D.nx} σ H1 else D.nx σ H1
theorem RQ {c:Expr}{body:List Stmt}{tc:TT}{tb:TS} (hp:PassesOwn (model X.prog X.w) X.A X.env X.xe) (hc:PT X c tc) (hb:PSs X body tb):PS X (.While c body [] pos) (RP tc tb):=by
 intro pins s σ H D I h
 obtain⟨W,⟨m0,w0⟩,turn⟩:=h
 refine wpAny_While (codeAny_whileLoop (fun n s'=>∃σ' H',Inv X pins σ' H' s'/\W n σ' H') ?_ m0 ⟨σ,H,I,w0⟩)
 rintro n s1 ⟨σ1,H1,I1,w1⟩
 refine wpAny_passesOwn hp (thn (hc pins s1 σ1 H1 _ I1 (turn n σ1 H1 w1)) fun b s2 ⟨H2,I2,q2⟩=> ?_)
 cases b with
 | true=>
   obtain⟨N,hN,q2⟩:=q2
   rw[if_pos rfl]
   refine wpAny_passesOwn hp (thn (hb pins s2 σ1 H2 _ I2 q2) fun f s3 q3=> ?_)
   cases f with
   | next=>
     obtain⟨σ3,H3,I3,n3⟩:=q3
     obtain⟨m',hm,w3⟩:=hN σ3 H3 n3
     exact⟨m',hm,σ3,H3,I3,w3⟩
   | cont=>
     obtain⟨σ3,H3,I3,n3⟩:=q3
     obtain⟨m',hm,w3⟩:=hN σ3 H3 n3
     exact⟨m',hm,σ3,H3,I3,w3⟩
   | brk=>exact q3
   | ret v=>exact q3
 | false=>
   rw[if_neg Bool.false_ne_true]
   exact wpAny_execs_nil ⟨σ1,H2,I2,q2⟩
end
structure It where
 go:Nat->Hp->Prop
 yld:Nat->Hp->V->Hp->Prop
 stop:Nat->Hp->Prop
def Dn (X:Cx) (pins:List (Addr×Obj)) (H:Hp) (b:Addr):Prop:=
 H b=none/\b≠X.env.locals/\b∉X.fs/\(b∈X.ex\/X.s₀.heap.objs.size<=b)/\(∀x c,X.env.cells.lookup x=some c->c≠b)/\∀p∈X.pn++pins,p.1≠b
theorem Inv.MP {X:Cx}{pins:List (Addr×Obj)}{σ:St}{H H':Hp}{s:Shared}{b:Addr} (I:Inv X pins σ H s) (hb:s.heap.objs.size<=b) (hn:H' b=none):Dn X pins H' b:=by
 refine⟨hn,Nat.ne_of_gt (Nat.lt_of_lt_of_le I.lt hb),I.nofs hb, .inr (Nat.le_trans I.sz hb),fun x c e z=> ?_,fun p hp z=> ?_⟩
 ·obtain⟨v,q⟩:=I.cell x c e
  exact absurd (Nat.lt_of_lt_of_le q.lt (by rw[z];exact hb)) (Nat.lt_irrefl _)
 ·exact absurd (Nat.lt_of_lt_of_le (Heap.lt_size (I.pin p hp).1) (by rw[z];exact hb)) (Nat.lt_irrefl _)
structure Turn (P:Program) (w:World) (K:PySem.W.Frag) (tg:Expr) (J:It) (fp:List Addr) (it:Addr) (tn:Nat->Heap->Prop):Prop where
 mem:it∈fp
 obj:∀i h,tn i h->∀b∈fp,∃o,h.get? b=some o/\∀v,o.data≠ .cell v
 keep:∀i h h',tn i h->(∀b∈fp,∀o,h.get? b=some o->h'.get? b=some o)->tn i h'
 item:∀(X:Cx),X.prog=P->X.w=w->X.K=K->X.calm=true->∀(i:Nat) (pins:List (Addr×Obj)) (s:Shared) (σ:St) (H:Hp) (E:Value->Shared->Prop),Inv X pins σ H s->(∀b∈fp,Dn X pins H b)->tn i s.heap->J.go i H->
  wpAny (model P w) X.A (pyNext (.ref it)) (fun r s1=>∃u,r=some u/\
   wpAny (model P w) X.A (letOwnedTupleGo tg (.ref it) u) (fun _ s2=>∃x H',Inv X pins σ H' s2/\RelV x u/\J.yld i H x H'/\tn (i+1) s2.heap/\∀b∈fp,H' b=none) E s1) E s
 done:∀(X:Cx),X.prog=P->X.w=w->X.K=K->X.calm=true->∀(i:Nat) (pins:List (Addr×Obj)) (s:Shared) (σ:St) (H:Hp) (E:Value->Shared->Prop),Inv X pins σ H s->(∀b∈fp,Dn X pins H b)->tn i s.heap->J.stop i H->
  wpAny (model P w) X.A (pyNext (.ref it)) (fun r s1=>r=none/\Inv X pins σ H s1) E s
 self:∀(A:Around) (i:Nat) (s:Shared) (Q:Value->Shared->Prop) (E:Value->Shared->Prop),tn i s.heap->Q (.ref it) s->wpAny (model P w) A (pyIter (.ref it)) Q E s
abbrev TI:=St->Hp->(It->Hp->Prop)->Prop
def PIE (X:Cx) (pins:List (Addr×Obj)) (σ:St) (tg:Expr) (R:It->Hp->Prop) (itv:Value) (s2:Shared):Prop:=
 ∃(it:Addr) (fp:List Addr) (tn:Nat->Heap->Prop) (J:It) (H':Hp),itv= .ref it/\Inv X pins σ H' s2/\Turn X.prog X.w X.K tg J fp it tn/\tn 0 s2.heap/\(∀b∈fp,Dn X pins H' b)/\R J H'
def PI (X:Cx) (tg iter:Expr) (wi:TI):Prop:=
 ∀(pins:List (Addr×Obj)) (s:Shared) (σ:St) (H:Hp) (R:It->Hp->Prop),Inv X pins σ H s->wi σ H R->
  wpAny (model X.prog X.w) X.A (eval iter X.env) (fun v s1=>wpAny (model X.prog X.w) X.A (pyIter v) (PIE X pins σ tg R) X.xe s1) X.xe s
theorem RT {M:Model}{A:Around}{E:Value->Shared->Prop}{s:Shared}{tg:Expr}{it:Addr}{u:Value}{o:Obj}{n:String}{vs:Array Value}{Q:Unit->Shared->Prop} (ho:s.heap.get? it=some o) (hc:o.cls= .type n) (hd:o.data= .fields vs)
 (hn:["enumerate","zip","dict_itemiterator","dict_reverseitemiterator","odict_iterator","itertools.zip_longest","itertools.pairwise"].contains n=false) (hQ:Q () s):wpAny M A (letOwnedTupleGo tg (.ref it) u) Q E s:=by
 unfold letOwnedTupleGo
 cases tg<;>first
  | exact wpAny_pure hQ
  | (cases u<;>first
      | exact wpAny_pure hQ
      | (refine wpAny_bind (wpAny_load ho ?_)
         rw[hc,hd]
         show wpAny M A (if(["enumerate","zip","dict_itemiterator","dict_reverseitemiterator","odict_iterator","itertools.zip_longest","itertools.pairwise"].contains n&&vs[0]? ==some (rawInt _))=true then _ else _) Q E s
         rw[if_neg (by intro h;rw[hn,Bool.false_and] at h;cases h)]
         exact wpAny_pure hQ))
def Itl (K:PySem.W.Frag) (a:Addr):It:=
 ⟨fun i H=>∃xs x,SqL K H a xs/\xs[i]? =some x,fun i H x H'=>H'=H/\∀xs,SqL K H a xs->xs[i]? =some x,fun i H=>∃xs,SqL K H a xs/\xs.length<=i⟩
def Itr (lo:Int) (n:Nat):It:=⟨fun i _=>i<n,fun i H x H'=>H'=H/\x= .int (lo+i),fun i _=>n<=i⟩
theorem QC {P:Program}{w:World}{K:PySem.W.Frag}{tg:Expr} (a it:Addr):Turn P w K tg (Itl K a) [it] it (fun i h=>h.IsListIter it a i) where
 mem:=by simp
 obj:=fun i h st b hb=>by
  have e:b=it:=by simpa using hb
  subst e
  obtain⟨o,e,c,d⟩:=st
  exact⟨o,e,fun v z=>by rw[d] at z;cases z⟩
 keep:=fun i h h' st k=>st.at fun o e=>k it (by simp) o e
 item:=by
  intro X hP hw hK hc i pins s σ H E I hf st hg
  subst hP hw hK
  obtain⟨xs,x,hq,hx⟩:=hg
  obtain⟨its,rv,p,hz⟩:=I.list hq
  obtain⟨u,hu,ru⟩:=rv.get hx
  obtain⟨f0,f1,f2,f3,f4,f5⟩:=hf it (by simp)
  refine wpAny_pyNext_list_item st p.isList (x:=u) (by simpa using hu) fun h' st' sb=> ?_
  have I1:Inv X pins σ H {s with heap:=h'}:=I.turned (t':=s.toks) (fun b o hb e=>(sb.2 b hb).trans e) f0 f1 f3 f4 f5
  obtain⟨o,e,c,d⟩:=id st'
  exact⟨u,rfl,RT (s:={s with heap:=h'}) e c d (by decide) ⟨x,H,I1,ru,⟨rfl,fun ys hy=>by rw[I.RJ hy hq];exact hx⟩,st',fun b hb=>(hf b hb).1⟩⟩
 done:=by
  intro X hP hw hK hc i pins s σ H E I hf st hg
  subst hP hw hK
  obtain⟨xs,hq,hx⟩:=hg
  obtain⟨its,rv,p,hz⟩:=I.list hq
  obtain⟨f0,f1,f2,f3,f4,f5⟩:=hf it (by simp)
  have hl:=rv.length
  exact wpAny_pyNext_list_end (I.ok.hd hc) st p.isList (by simp;omega) fun h' eb=>⟨rfl,I.turned (t':=s.toks) (fun b o hb e=>eb b o hb e) f0 f1 f3 f4 f5⟩
 self:=fun _ _ _ _ _ st h=>wpAny_pyIter_listiter st h
theorem MT {P:Program}{w:World}{K:PySem.W.Frag}{tg:Expr} (it:Addr) (lo:Int) (n:Nat):Turn P w K tg (Itr lo n) [it] it (fun i h=>IsRangeIter h it (lo+(i:Nat)* 1) ((n:Int) - (i:Nat)) 1) where
 mem:=by simp
 obj:=fun i h st b hb=>by
  have e:b=it:=by simpa using hb
  subst e
  exact⟨_,st,fun v z=>by
   have z':Data.fields _=Data.cell v:=z
   cases z'⟩
 keep:=fun i h h' st k=>k it (by simp) _ st
 item:=by
  intro X hP hw hK hc i pins s σ H E I hf st hg
  subst hP hw hK
  obtain⟨f0,f1,f2,f3,f4,f5⟩:=hf it (by simp)
  have W:=Walks.range (prog:=X.prog) (w:=X.w) (I.ok.hd hc) it lo 1 n
  refine W.item i s _ _ hg st fun v h' tk hv st' kk=> ?_
  obtain⟨t,rfl⟩:=hv
  have I1:Inv X pins σ H {s with heap:=h',toks:=tk}:=I.turned (fun b o hb e=>kk b o (by simpa using hb) e) f0 f1 f3 f4 f5
  refine⟨_,rfl,RT (s:={s with heap:=h',toks:=tk}) (n:="range_iterator") st' rfl rfl (by decide) ⟨.int (lo+i),H,I1,⟨t, ?_⟩,⟨rfl,rfl⟩,st',fun b hb=>(hf b hb).1⟩⟩
  rw[Int.mul_one]
 done:=by
  intro X hP hw hK hc i pins s σ H E I hf st hg
  subst hP hw hK
  obtain⟨f0,f1,f2,f3,f4,f5⟩:=hf it (by simp)
  exact wpAny_pyNext_range_end (I.ok.hd hc) st (by have:n<=i:=hg;omega) fun h' eb=>⟨rfl,I.turned (t':=s.toks) (fun b o hb e=>eb b o hb e) f0 f1 f3 f4 f5⟩
 self:=fun _ _ _ _ _ st h=>wpAny_pyIter_rangeiter st h
end L2
namespace L2
open PySem PySem.Spec PyProof.Rows
section
variable {X:Cx}{tg:Expr}
def Ym (K:PySem.W.Frag) (tl:TE):TI:=fun σ H R=>tl σ H fun x H1=>∃a,x= .ref a/\(∃xs,SqL K H1 a xs)/\R (Itl K a) H1
theorem Vs {l:Expr}{tl:TE} (hl:PE X l tl):PI X tg l (Ym X.K tl):=by
 intro pins s σ H R I h
 refine thn (hl pins s σ H _ I h) fun v s1 ⟨x,H1,I1,r1,q1⟩=> ?_
 obtain⟨a,e,⟨xs,hq⟩,q⟩:=q1
 subst e
 cases r1
 obtain⟨its,rv,p,hz⟩:=I1.list hq
 refine wpAny_pyIter_list p.isList ?_
 refine⟨s1.heap.objs.size,[s1.heap.objs.size],_,_,H1,rfl,I1.kept (t':=s1.toks) fun b o e=>Heap.get?_push_of_some _ e,QC a _,⟨_,Heap.get?_push_size _ rfl,rfl,rfl⟩,fun b hb=> ?_,q⟩
 have e:b=s1.heap.objs.size:=by simpa using hb
 subst e
 exact I1.MP (Nat.le_refl _) (I1.hok.fresh (Nat.le_refl _))
theorem KQ {pins:List (Addr×Obj)}{σ:St}{H:Hp}{s:Shared}{R:It->Hp->Prop}{E:Value->Shared->Prop}{lo hi:Int}{t u v:Tok}{tk:Nat} (I:Inv X pins σ H s) (h1: -(2 ^ 62)<=lo) (h2:lo<2 ^ 62) (h3: -(2 ^ 62)<=hi) (h4:hi<2 ^ 62)
 (q:R (Itr lo (hi - lo).toNat) H):wpAny (model X.prog X.w) X.A (pyIter (.ref s.heap.objs.size)) (PIE X pins σ tg R) E {s with heap:=s.heap.push {cls:= .type "range",data:= .fields #[.int lo t, .int hi u, .int 1 v]},toks:=tk}:=by
 refine wpAny_pyIter_range (IsRange.new ..) (small_one h1 h2 h3 h4) ?_
 have I1:Inv X pins σ H {s with heap:=s.heap.push {cls:= .type "range",data:= .fields #[.int lo t, .int hi u, .int 1 v]},toks:=tk}:=I.kept fun b o e=>Heap.get?_push_of_some _ e
 refine⟨(s.heap.push {cls:= .type "range",data:= .fields #[.int lo t, .int hi u, .int 1 v]}).objs.size,[(s.heap.push {cls:= .type "range",data:= .fields #[.int lo t, .int hi u, .int 1 v]}).objs.size],_,_,H,rfl,
  I1.kept (t':=tk) fun b o e=>Heap.get?_push_of_some _ e,MT _ lo (hi - lo).toNat, ?_,fun b hb=> ?_,q⟩
 ·have e1:lo+((0:Nat):Int)* 1=lo:=by simp
  have e2:(((hi - lo).toNat:Nat):Int) - ((0:Nat):Int)=Builtin.Range.rangeSize lo hi 1:=by rw[rangeSize_one];split<;>omega
  show IsRangeIter _ _ (lo+((0:Nat):Int)* 1) ((((hi - lo).toNat:Nat):Int) - ((0:Nat):Int)) 1
  rw[e1,e2]
  exact Heap.get?_push_size _ rfl
 ·have e:b=(s.heap.push {cls:= .type "range",data:= .fields #[.int lo t, .int hi u, .int 1 v]}).objs.size:=by simpa using hb
  subst e
  exact I1.MP (Nat.le_refl _) (I1.hok.fresh (Nat.le_refl _))
def Yn (ta:TA):TI:=fun σ H R=>ta σ H fun vs H1=>∃j:Int,vs=[.int j]/\ -(2 ^ 62)<=j/\j<2 ^ 62/\R (Itr 0 j.toNat) H1
def Yo (ta:TA):TI:=fun σ H R=>ta σ H fun vs H1=>∃i j:Int,vs=[.int i, .int j]/\(-(2 ^ 62)<=i/\i<2 ^ 62/\ -(2 ^ 62)<=j/\j<2 ^ 62)/\R (Itr i (j - i).toNat) H1
theorem QD {a:Expr}{ta:TA}{p pos:Pos} (hg:Gl X "range") (hm:X.mg "range"=none) (ha:PA X [a] ta) (hs:starEach [a] X.env=[(false,eval a X.env)]:=by rfl):PI X tg (.Call (.Name "range" p) [a] [] pos) (Yn ta):=by
 intro pins s σ H R I h
 refine Call_ (zL I hg hm boot_range (PyProof.Rows.callWith_type1 (thn (ha pos pins s σ H _ I h) fun us s1 ⟨vs,H1,I1,r1,q1⟩=> ?_) hs rfl))
 obtain⟨j,e,q1,q2,q⟩:=q1
 subst e
 cases r1 with
 | cons r rr=>
   cases rr
   obtain⟨t,rfl⟩:=r
   exact call_range_1 (KQ I1 (by omega) (by omega) q1 q2 (by simpa using q))
theorem QF {a b:Expr}{ta:TA}{p pos:Pos} (hg:Gl X "range") (hm:X.mg "range"=none) (ha:PA X [a,b] ta) (hs:starEach [a,b] X.env=[(false,eval a X.env),(false,eval b X.env)]:=by rfl) (hs2:starEach [b] X.env=[(false,eval b X.env)]:=by rfl):
 PI X tg (.Call (.Name "range" p) [a,b] [] pos) (Yo ta):=by
 intro pins s σ H R I h
 refine Call_ (zL I hg hm boot_range (PyProof.Rows.callWith_type1 (thn (ha pos pins s σ H _ I h) fun us s1 ⟨vs,H1,I1,r1,q1⟩=> ?_) (by rw[hs,hs2]) (by rw[hs2];rfl)))
 obtain⟨i,j,e,⟨q1,q2,q3,q4⟩,q⟩:=q1
 subst e
 cases r1 with
 | cons r rr=>
   cases rr with
   | cons r' rr=>
     cases rr
     obtain⟨t,rfl⟩:=r
     obtain⟨t',rfl⟩:=r'
     exact call_range_2 (KQ I1 q1 q2 q3 q4 q)
def ac8 (wi:TI) (g:TG) (tb:TS):TS:=fun D σ H=>wi σ H fun J H1=>∃W:Nat->Nat->St->Hp->Prop,(∃m,W 0 m σ H1)/\∀i m σ H,W i m σ H->
 (J.stop i H/\D.nx σ H)\/(J.go i H/\∃N:St->Hp->Prop,(∀σ' H',N σ' H'->∃m',m'<m/\W (i+1) m' σ' H')/\∀x H',J.yld i H x H'->g x σ H' fun σ2 H2=>tb {D with nx:=N,ct:=N,bk:=D.nx} σ2 H2)
def Gb (fp:List Addr) (h:Heap):List (Addr×Obj):=fp.filterMap fun b=>(h.get? b).map fun o=>(b,o)
theorem uZ {fp:List Addr}{h:Heap}{b:Addr}{o:Obj} (hb:b∈fp) (e:h.get? b=some o):(b,o)∈Gb fp h:=List.mem_filterMap.mpr ⟨b,hb,by rw[e];rfl⟩
theorem QH {fp:List Addr}{h:Heap}{p:Addr×Obj} (hp:p∈Gb fp h):p.1∈fp/\h.get? p.1=some p.2:=by
 obtain⟨b,hb,e⟩:=List.mem_filterMap.mp hp
 cases q:h.get? b with
 | none=>rw[q] at e;cases e
 | some o=>
   rw[q] at e
   have e':(b,o)=p:=Option.some.inj e
   subst e'
   exact⟨hb,q⟩
theorem Inv.pinned {pins:List (Addr×Obj)}{σ:St}{H:Hp}{s:Shared}{fp:List Addr} (I:Inv X pins σ H s) (hf:∀b∈fp,Dn X pins H b) (ho:∀b∈fp,∃o,s.heap.get? b=some o/\∀v,o.data≠ .cell v):Inv X (pins++Gb fp s.heap) σ H s:=
 I.OD fun p hp=>(List.mem_append.mp hp).elim (fun z=>I.pin p (List.mem_append_right _ z)) fun z=>by
   obtain⟨hb,e⟩:=QH z
   obtain⟨f0,f1,f2,_⟩:=hf p.1 hb
   obtain⟨o,e',d⟩:=ho p.1 hb
   rw[e] at e';cases e'
   exact⟨e,f0,f1,f2,d⟩
theorem Inv.unpinned {pins pl:List (Addr×Obj)}{σ:St}{H:Hp}{s:Shared} (I:Inv X (pins++pl) σ H s):Inv X pins σ H s:=I.OD fun p hp=>I.pin p (List.mem_append_right _ (List.mem_append_left _ hp))
theorem aab {iter:Expr}{body:List Stmt}{wi:TI}{g:TG}{tb:TS}{pos:Pos} (hp:PassesOwn (model X.prog X.w) X.A X.env X.xe) (hc:X.calm=true) (hi:PI X tg iter wi) (hg:PG X tg g) (hb:PSs X body tb)
 (hs:∀x,foldedSetIterable iter X.env x=pure x:=by intro _;rfl):PS X (.For tg iter body [] pos) (ac8 wi g tb):=by
 intro pins s σ H D I h
 refine wpAny_For (thn (hi pins s σ H _ I h) fun v s1 h1=>thn h1 fun itv s2 h2=> ?_) hs
 obtain⟨it,fp,tn,J,H2,e,I2,T,st2,f2,W,⟨m0,w0⟩,turn⟩:=h2
 subst e
 have stat:∀{H':Hp},(∀b∈fp,H' b=none)->∀b∈fp,Dn X pins H' b:=fun hn b hb=>⟨hn b hb,(f2 b hb).2⟩
 refine codeAny_forLoop_any (fun n s'=>∃i σ' H',Inv X pins σ' H' s'/\tn i s'.heap/\(∀b∈fp,H' b=none)/\W i n σ' H') ?_ m0 ⟨0,σ,H2,I2,st2,fun b hb=>(f2 b hb).1,w0⟩
 rintro n s3 ⟨i,σ3,H3,I3,st3,fr3,w3⟩
 rcases turn i n σ3 H3 w3 with⟨stop,qn⟩ | ⟨go,N,hN,step⟩
 ·refine wpAny_passesOwn hp (thn (T.done X rfl rfl rfl hc i pins s3 σ3 H3 X.xe I3 (stat fr3) st3 stop) fun r s4 ⟨hr,I4⟩=> ?_)
  subst hr
  exact wpAny_execs_nil ⟨σ3,H3,I4,qn⟩
 ·refine wpAny_passesOwn hp (thn (T.item X rfl rfl rfl hc i pins s3 σ3 H3 X.xe I3 (stat fr3) st3 go) fun r s4 ⟨u,hr,h4⟩=> ?_)
  subst hr
  refine wpAny_passesOwn hp (thn h4 fun _ s5 ⟨x,H5,I5,r5,y5,st5,fr5⟩=> ?_)
  have I5':=I5.pinned (stat fr5) (T.obj _ _ st5)
  refine wpAny_passesOwn hp (thn (hg _ s5 σ3 H5 x u _ I5' r5 (step x H5 y5)) fun _ s6 ⟨σ6,H6,I6,q6⟩=> ?_)
  refine wpAny_passesOwn hp (thn (hb _ s6 σ6 H6 _ I6 q6) fun f s7 q7=> ?_)
  have again:∀{σ7:St}{H7:Hp},Inv X (pins++Gb fp s5.heap) σ7 H7 s7->N σ7 H7->∃m,m<n/\∃i σ' H',Inv X pins σ' H' s7/\tn i s7.heap/\(∀b∈fp,H' b=none)/\W i m σ' H':=fun{σ7 H7} I7 n7=>by
   obtain⟨m',hm,w7⟩:=hN σ7 H7 n7
   refine⟨m',hm,i+1,σ7,H7,I7.unpinned,T.keep _ _ _ st5 fun b hb o e=>(I7.pin (b,o) (List.mem_append_right _ (List.mem_append_right _ (uZ hb e)))).1,fun b hb=> ?_,w7⟩
   obtain⟨o,e,d⟩:=T.obj _ _ st5 b hb
   exact(I7.pin (b,o) (List.mem_append_right _ (List.mem_append_right _ (uZ hb e)))).2.1
  cases f with
  | next=>obtain⟨σ7,H7,I7,n7⟩:=q7;exact again I7 n7
  | cont=>obtain⟨σ7,H7,I7,n7⟩:=q7;exact again I7 n7
  | brk=>obtain⟨σ7,H7,I7,q7⟩:=q7;exact⟨σ7,H7,I7.unpinned,q7⟩
  | ret v=>obtain⟨x7,σ7,H7,I7,r7,q7⟩:=q7;exact⟨x7,σ7,H7,I7.unpinned,r7,q7⟩
end
theorem Bt {K:PySem.W.Frag}{a:Addr}{xs:List V}{g:TG}{tb:TS}{D:Ends}{σ:St}{H:Hp} (Pv:Nat->St->Hp->Prop) (h0:Pv 0 σ H) (hl:∀i σ H,i<=xs.length->Pv i σ H->SqL K H a xs)
 (hs:∀i x σ H,xs[i]? =some x->Pv i σ H->g x σ H fun σ2 H2=>tb {D with nx:=Pv (i+1),ct:=Pv (i+1),bk:=D.nx} σ2 H2) (hd:∀σ H,Pv xs.length σ H->D.nx σ H):
 ∃W:Nat->Nat->St->Hp->Prop,(∃m,W 0 m σ H)/\∀i m σ H,W i m σ H->
  ((Itl K a).stop i H/\D.nx σ H)\/((Itl K a).go i H/\∃N:St->Hp->Prop,(∀σ' H',N σ' H'->∃m',m'<m/\W (i+1) m' σ' H')/\∀x H',(Itl K a).yld i H x H'->g x σ H' fun σ2 H2=>tb {D with nx:=N,ct:=N,bk:=D.nx} σ2 H2):=by
 refine⟨fun i m σ H=>m=xs.length - i/\i<=xs.length/\Pv i σ H,⟨xs.length,by simp,Nat.zero_le _,h0⟩, ?_⟩
 rintro i m σ H ⟨rfl,hi,p⟩
 have q:=hl i σ H hi p
 by_cases hlt:i<xs.length
 ·refine .inr ⟨⟨xs,xs[i],q,by simp[hlt]⟩,Pv (i+1),fun σ' H' p'=>⟨xs.length - (i+1),by omega,rfl,hlt,p'⟩,fun x H' y=> ?_⟩
  obtain⟨e,y⟩:=y
  subst e
  exact hs i x σ _ (y xs q) p
 ·have e:i=xs.length:=by omega
  subst e
  exact .inl ⟨⟨xs,q,Nat.le_refl _⟩,hd σ H p⟩
theorem Jd {lo:Int}{n:Nat}{g:TG}{tb:TS}{D:Ends}{σ:St}{H:Hp} (Pv:Nat->St->Hp->Prop) (h0:Pv 0 σ H)
 (hs:∀i σ H,i<n->Pv i σ H->g (.int (lo+i)) σ H fun σ2 H2=>tb {D with nx:=Pv (i+1),ct:=Pv (i+1),bk:=D.nx} σ2 H2) (hd:∀σ H,Pv n σ H->D.nx σ H):
 ∃W:Nat->Nat->St->Hp->Prop,(∃m,W 0 m σ H)/\∀i m σ H,W i m σ H->
  ((Itr lo n).stop i H/\D.nx σ H)\/((Itr lo n).go i H/\∃N:St->Hp->Prop,(∀σ' H',N σ' H'->∃m',m'<m/\W (i+1) m' σ' H')/\∀x H',(Itr lo n).yld i H x H'->g x σ H' fun σ2 H2=>tb {D with nx:=N,ct:=N,bk:=D.nx} σ2 H2):=by
 refine⟨fun i m σ H=>m=n - i/\i<=n/\Pv i σ H,⟨n,by simp,Nat.zero_le _,h0⟩, ?_⟩
 rintro i m σ H ⟨rfl,hi,p⟩
 by_cases hlt:i<n
 ·refine .inr ⟨hlt,Pv (i+1),fun σ' H' p'=>⟨n - (i+1),by omega,rfl,hlt,p'⟩,fun x H' y=> ?_⟩
  obtain⟨e,y⟩:=y
  subst e y
  exact hs i σ _ hlt p
 ·have e:i=n:=by omega
  subst e
  exact .inl ⟨Nat.le_refl _,hd σ H p⟩
end L2
namespace L2
open PySem PySem.Spec PyProof.Rows
abbrev R2:=V->V->Hp->VK->Prop
def OpR (X:Cx) (f:Value->Value->Sem Value) (r:R2):Prop:=
 ∀(pins:List (Addr×Obj)) (s:Shared) (σ:St) (H:Hp) (x y:V) (v u:Value) (Q:VK),Inv X pins σ H s->RelV x v->RelV y u->r x y H Q->
  wpAny (model X.prog X.w) X.A (f v u) (EP X pins σ Q) X.xe s
def UnR (X:Cx) (f:Value->Sem Value) (r:V->Hp->VK->Prop):Prop:=
 ∀(pins:List (Addr×Obj)) (s:Shared) (σ:St) (H:Hp) (x:V) (v:Value) (Q:VK),Inv X pins σ H s->RelV x v->r x H Q->
  wpAny (model X.prog X.w) X.A (f v) (EP X pins σ Q) X.xe s
def qL (X:Cx) (f:Value) (r:List V->Hp->VK->Prop):Prop:=
 ∀(pins:List (Addr×Obj)) (s:Shared) (σ:St) (H:Hp) (xs:List V) (us:List Value) (Q:VK),Inv X pins σ H s->Vals xs us->r xs H Q->
  wpAny (model X.prog X.w) X.A (call f us) (EP X pins σ Q) X.xe s
def aht (X:Cx) (r:V->Hp->(Bool->Hp->Prop)->Prop):Prop:=
 ∀(pins:List (Addr×Obj)) (s:Shared) (σ:St) (H:Hp) (x:V) (v:Value) (Q:Bool->Hp->Prop),Inv X pins σ H s->RelV x v->r x H Q->
  wpAny (model X.prog X.w) X.A (truthy v) (TP X pins σ Q) X.xe s
def tOp (r:R2) (ta tb:TE):TE:=fun σ H Q=>ta σ H fun x H1=>tb σ H1 fun y H2=>r x y H2 Q
def tUn (r:V->Hp->VK->Prop) (ta:TE):TE:=fun σ H Q=>ta σ H fun x H1=>r x H1 Q
def rI (C:Int->Int->Prop) (g:Int->Int->V):R2:=fun x y H Q=>∃i j,x= .int i/\y= .int j/\C i j/\Q (g i j) H
def rI0 (g:Int->Int->V):R2:=fun x y H Q=>∃i j,x= .int i/\y= .int j/\Q (g i j) H
def rU (g:Int->V):V->Hp->VK->Prop:=fun x H Q=>∃i,x= .int i/\Q (g i) H
section
variable {X:Cx}{a b c:Expr}{ta tb tc:TE}{pos:Pos}
theorem aac (ha:PE X a ta) (hb:PE X b tb) {pins:List (Addr×Obj)}{s:Shared}{σ:St}{H:Hp}{R:V->V->Hp->Prop} (I:Inv X pins σ H s)
 (h:ta σ H fun x H1=>tb σ H1 fun y H2=>R x y H2) {Q:Value->Shared->Prop}{f:Value->Value->Sem Value}
 (hf:∀v u s2 x y H2,Inv X pins σ H2 s2->RelV x v->RelV y u->R x y H2->wpAny (model X.prog X.w) X.A (f v u) Q X.xe s2):
 wpAny (model X.prog X.w) X.A (eval a X.env) (fun v s₁=>wpAny (model X.prog X.w) X.A (eval b X.env) (fun u s₂=>wpAny (model X.prog X.w) X.A (f v u) Q X.xe s₂) X.xe s₁) X.xe s:=by
 refine thn (ha pins s σ H _ I h) fun v s1 ⟨x,H1,I1,r1,q1⟩=> ?_
 refine thn (hb pins s1 σ H1 _ I1 q1) fun u s2 ⟨y,H2,I2,r2,q2⟩=> ?_
 exact hf v u s2 x y H2 I2 r1 r2 q2
theorem ac9 {op:Operator}{r:R2} (ho:OpR X (binaryOp op) r) (ha:PE X a ta) (hb:PE X b tb):PE X (.BinOp a op b pos) (tOp r ta tb):=by
 intro pins s σ H Q I h
 exact wpAny_BinOp (aac ha hb I h fun v u s2 x y H2 I2 rx ry q=>ho pins s2 σ H2 x y v u Q I2 rx ry q)
theorem ada {op:UnaryOp}{r:V->Hp->VK->Prop} (ho:UnR X (unaryOp op) r) (ha:PE X a ta):PE X (.UnaryOp op a pos) (tUn r ta):=by
 intro pins s σ H Q I h
 exact UnaryOp_ (thn (ha pins s σ H _ I h) fun v s1 ⟨x,H1,I1,r1,q1⟩=>ho pins s1 σ H1 x v Q I1 r1 q1)
theorem opI {f:Value->Value->Sem Value}{C:Int->Int->Prop}{g:Int->Int->Int}
 (rule:∀(i j:Int) (t u:Tok) (s:Shared) (Q:Value->Shared->Prop) (E:Value->Shared->Prop),C i j->Q (.int (g i j) s.toks) {s with toks:=s.toks+1}->wpAny (model X.prog X.w) X.A (f (.int i t) (.int j u)) Q E s):
 OpR X f (rI C fun i j=> .int (g i j)):=by
 intro pins s σ H x y v u Q I rx ry h
 obtain⟨i,j,rfl,rfl,hc,q⟩:=h
 obtain⟨t,rfl⟩:=rx
 obtain⟨t',rfl⟩:=ry
 exact rule i j t t' s _ _ hc ⟨.int (g i j),H,I.tok _,⟨_,rfl⟩,q⟩
theorem adb {f:Value->Value->Sem Value}{g:Int->Int->Int}
 (rule:∀(i j:Int) (t u:Tok) (s:Shared) (Q:Value->Shared->Prop) (E:Value->Shared->Prop),Q (.int (g i j) s.toks) {s with toks:=s.toks+1}->wpAny (model X.prog X.w) X.A (f (.int i t) (.int j u)) Q E s):
 OpR X f (rI0 fun i j=> .int (g i j)):=by
 intro pins s σ H x y v u Q I rx ry h
 obtain⟨i,j,rfl,rfl,q⟩:=h
 obtain⟨t,rfl⟩:=rx
 obtain⟨t',rfl⟩:=ry
 exact rule i j t t' s _ _ ⟨.int (g i j),H,I.tok _,⟨_,rfl⟩,q⟩
theorem ade {f:Value->Value->Sem Value}{g:Int->Int->Bool}
 (rule:∀(i j:Int) (t u:Tok) (s:Shared) (Q:Value->Shared->Prop) (E:Value->Shared->Prop),Q (.bool (g i j)) s->wpAny (model X.prog X.w) X.A (f (.int i t) (.int j u)) Q E s):
 OpR X f (rI0 fun i j=> .bl (g i j)):=by
 intro pins s σ H x y v u Q I rx ry h
 obtain⟨i,j,rfl,rfl,q⟩:=h
 obtain⟨t,rfl⟩:=rx
 obtain⟨t',rfl⟩:=ry
 exact rule i j t t' s _ _ ⟨.bl (g i j),H,I,rfl,q⟩
def Vt (i j:Int):Prop:=0<=j/\j<=1000000/\i.natAbs<2 ^ 64
def Dp (i j:Int):Prop:=(-(2 ^ 64)<i/\i<2 ^ 64)\/(-(2 ^ 64)<j/\j<2 ^ 64)
theorem Dp.ok {i j:Int} (h:Dp i j):IntMulOk i j:=by
 rcases h with⟨h1,h2⟩ | ⟨h1,h2⟩
 ·exact .of_left (intBits_le_64 h1 h2)
 ·exact .of_right (intBits_le_64 h1 h2)
theorem aad:OpR X (binaryOp .Add) (rI0 fun i j=> .int (i+j)):=adb fun _ _ _ _ _ _ _ q=>add_int q
theorem aae:OpR X (binaryOp .Sub) (rI0 fun i j=> .int (i - j)):=adb fun _ _ _ _ _ _ _ q=>sub_int q
theorem aaf:OpR X (binaryOp .Mult) (rI Dp fun i j=> .int (i * j)):=opI fun _ _ _ _ _ _ _ hc q=>mul_int q hc.ok
theorem aag:OpR X (binaryOp .Mod) (rI (fun _ j=>0<j) fun i j=> .int (i % j)):=opI fun i j _ _ _ _ _ hc q=>by
 have h1:(0:Int)<j:=hc
 exact mod_int' (by omega) (by rw[Int.fmod_eq_emod_of_nonneg i (by omega)];exact q)
theorem aah:OpR X (binaryOp .Pow) (rI Vt fun i j=> .int (i ^ j.toNat)):=opI fun _ _ _ _ _ _ _ hc q=>pow_int_small hc.1 hc.2.1 hc.2.2 q
theorem unI {f:Value->Sem Value}{g:Int->Int}
 (rule:∀(i:Int) (t:Tok) (s:Shared) (Q:Value->Shared->Prop) (E:Value->Shared->Prop),Q (.int (g i) s.toks) {s with toks:=s.toks+1}->wpAny (model X.prog X.w) X.A (f (.int i t)) Q E s):
 UnR X f (rU fun i=> .int (g i)):=by
 intro pins s σ H x v Q I rx h
 obtain⟨i,rfl,q⟩:=h
 obtain⟨t,rfl⟩:=rx
 exact rule i t s _ _ ⟨.int (g i),H,I.tok _,⟨_,rfl⟩,q⟩
theorem aai:UnR X (unaryOp .USub) (rU fun i=> .int (-i)):=unI fun _ _ _ _ _ q=>neg_int q
end
def adf:V->V->Bool
 | .non, .non=>true | .non, .int _=>true | .int _, .non=>true | .non, .bl _=>true | .bl _, .non=>true | .non, .str _=>true | .str _, .non=>true
 | .int _, .int _=>true | .bl _, .bl _=>true | .str _, .str _=>true | .byt _, .byt _=>true
 | .int _, .str _=>true | .str _, .int _=>true | .bl _, .str _=>true | .str _, .bl _=>true
 | _,_=>false
def rEq:R2:=fun x y H Q=>adf x y=true/\Q (.bl (decide (x=y))) H
def rNe:R2:=fun x y H Q=>adf x y=true/\Q (.bl (!decide (x=y))) H
theorem O3 {i j:Int}:decide (V.int i=V.int j)=(i==j):=by
 rw[Bool.eq_iff_iff]
 simp
theorem RV {i j:Bool}:decide (V.bl i=V.bl j)=(i==j):=by
 rw[Bool.eq_iff_iff]
 simp
theorem O4 {i j:Str}:decide (V.str i=V.str j)=(i==j):=by
 rw[Bool.eq_iff_iff]
 simp
theorem O5 {i j:Array UInt8}:decide (V.byt i=V.byt j)=(i.toList==j.toList):=by
 rw[Bool.eq_iff_iff]
 cases i
 cases j
 simp
section
variable {X:Cx}{a b c:Expr}{ta tb tc:TE}{pos:Pos}
theorem eX {pins:List (Addr×Obj)}{σ:St}{H:Hp}{s:Shared}{Q:VK}{k k':Bool} (I:Inv X pins σ H s) (q:Q (.bl k) H) (e:k=k'):EP X pins σ Q (.bool k') s:=by
 subst e
 exact⟨.bl k,H,I,rfl,q⟩
theorem adg:OpR X (compareOp .Eq) rEq:=by
 intro pins s σ H x y v u Q I rx ry h
 obtain⟨hs,q⟩:=h
 cases x with
 | non=>
   cases rx
   cases y with
   | non=>cases ry;exact PySem.EqNone.eq_none_none (eX I q (by simp))
   | bl j=>cases ry;exact PySem.EqNone.eq_none_bool (eX I q (by simp))
   | int j=>obtain⟨t',rfl⟩:=ry;exact PySem.EqNone.eq_none_int (eX I q (by simp))
   | str j=>obtain⟨t',rfl⟩:=ry;exact PySem.EqNone.eq_none_str (eX I q (by simp))
   | _=>exact absurd (show false=true from hs) Bool.false_ne_true
 | bl i=>
   cases rx
   cases y with
   | non=>cases ry;exact PySem.EqNone.eq_bool_none (eX I q (by simp))
   | bl j=>cases ry;exact eq_bool (eX I q RV)
   | str j=>obtain⟨t',rfl⟩:=ry;exact PySem.EqMixed.eq_bool_str (eX I q (by simp))
   | _=>exact absurd (show false=true from hs) Bool.false_ne_true
 | int i=>
   obtain⟨t,rfl⟩:=rx
   cases y with
   | non=>cases ry;exact PySem.EqNone.eq_int_none (eX I q (by simp))
   | int j=>obtain⟨t',rfl⟩:=ry;exact eq_int (eX I q O3)
   | str j=>obtain⟨t',rfl⟩:=ry;exact PySem.EqMixed.eq_int_str (eX I q (by simp))
   | _=>exact absurd (show false=true from hs) Bool.false_ne_true
 | str i=>
   obtain⟨t,rfl⟩:=rx
   cases y with
   | non=>cases ry;exact PySem.EqNone.eq_str_none (eX I q (by simp))
   | bl j=>cases ry;exact PySem.EqMixed.eq_str_bool (eX I q (by simp))
   | int j=>obtain⟨t',rfl⟩:=ry;exact PySem.EqMixed.eq_str_int (eX I q (by simp))
   | str j=>obtain⟨t',rfl⟩:=ry;exact eq_str (eX I q O4)
   | _=>exact absurd (show false=true from hs) Bool.false_ne_true
 | byt i=>
   obtain⟨t,rfl⟩:=rx
   cases y with
   | byt j=>obtain⟨t',rfl⟩:=ry;exact PySem.W.eq_bytes (eX I q O5)
   | _=>exact absurd (show false=true from hs) Bool.false_ne_true
 | _=>cases y<;>exact absurd (show false=true from hs) Bool.false_ne_true
theorem adh:OpR X (compareOp .NotEq) rNe:=by
 intro pins s σ H x y v u Q I rx ry h
 obtain⟨hs,q⟩:=h
 cases x with
 | non=>
   cases rx
   cases y with
   | non=>cases ry;exact PySem.EqNone.ne_none_none (eX I q (by simp))
   | bl j=>cases ry;exact PySem.EqNone.ne_none_bool (eX I q (by simp))
   | int j=>obtain⟨t',rfl⟩:=ry;exact PySem.EqNone.ne_none_int (eX I q (by simp))
   | str j=>obtain⟨t',rfl⟩:=ry;exact PySem.EqNone.ne_none_str (eX I q (by simp))
   | _=>exact absurd (show false=true from hs) Bool.false_ne_true
 | bl i=>
   cases rx
   cases y with
   | non=>cases ry;exact PySem.EqNone.ne_bool_none (eX I q (by simp))
   | bl j=>cases ry;exact ne_bool (eX I q (congrArg not RV))
   | str j=>obtain⟨t',rfl⟩:=ry;exact PySem.EqMixed.ne_bool_str (eX I q (by simp))
   | _=>exact absurd (show false=true from hs) Bool.false_ne_true
 | int i=>
   obtain⟨t,rfl⟩:=rx
   cases y with
   | non=>cases ry;exact PySem.EqNone.ne_int_none (eX I q (by simp))
   | int j=>obtain⟨t',rfl⟩:=ry;exact ne_int (eX I q (congrArg not O3))
   | str j=>obtain⟨t',rfl⟩:=ry;exact PySem.EqMixed.ne_int_str (eX I q (by simp))
   | _=>exact absurd (show false=true from hs) Bool.false_ne_true
 | str i=>
   obtain⟨t,rfl⟩:=rx
   cases y with
   | non=>cases ry;exact PySem.EqNone.ne_str_none (eX I q (by simp))
   | bl j=>cases ry;exact PySem.EqMixed.ne_str_bool (eX I q (by simp))
   | int j=>obtain⟨t',rfl⟩:=ry;exact PySem.EqMixed.ne_str_int (eX I q (by simp))
   | str j=>obtain⟨t',rfl⟩:=ry;exact ne_str (eX I q (congrArg not O4))
   | _=>exact absurd (show false=true from hs) Bool.false_ne_true
 | byt i=>
   obtain⟨t,rfl⟩:=rx
   cases y with
   | byt j=>obtain⟨t',rfl⟩:=ry;exact PySem.W.ne_bytes (eX I q (congrArg not O5))
   | _=>exact absurd (show false=true from hs) Bool.false_ne_true
 | _=>cases y<;>exact absurd (show false=true from hs) Bool.false_ne_true
theorem adi:OpR X (compareOp .Lt) (rI0 fun i j=> .bl (decide (i<j))):=ade fun _ _ _ _ _ _ _ q=>lt_int q
theorem adk:OpR X (compareOp .Gt) (rI0 fun i j=> .bl (decide (j<i))):=ade fun _ _ _ _ _ _ _ q=>gt_int q
theorem aaj:OpR X (compareOp .Is) (fun x y H Q=>y= .non/\Q (.bl (decide (x= .non))) H):=by
 intro pins s σ H x y v u Q I rx ry h
 obtain⟨rfl,q⟩:=h
 cases ry
 refine is_none_gen (eX I q ?_)
 cases x<;>first
  | (cases rx;rfl)
  | (obtain⟨t,rfl⟩:=rx;rfl)
theorem aak (b:Expr) {op:CmpOp} (h:op≠ .In:=by decide) (h2:op≠ .NotIn:=by decide):behindInMarks op b=false:=by
 have e1:(op==CmpOp.In)=false:=by cases op<;>first | rfl | exact absurd rfl h
 have e2:(op==CmpOp.NotIn)=false:=by cases op<;>first | rfl | exact absurd rfl h2
 cases b<;>simp[behindInMarks,e1,e2]
theorem Vu {op:CmpOp}{r:R2} (ho:OpR X (compareOp op) r) (ha:PE X a ta) (hb:PE X b tb) (hm:behindInMarks op b=false):PE X (.Compare a [op] [b] pos) (tOp r ta tb):=by
 intro pins s σ H Q I h
 exact wpAny_Compare1 (aac ha hb I h fun v u s2 x y H2 I2 rx ry q=>ho pins s2 σ H2 x y v u Q I2 rx ry q) hm
def Yp (t:TE):TT:=fun σ H Q=>t σ H fun x H'=>∃k,x= .bl k/\Q k H'
theorem Vv {op:CmpOp}{r:R2} (ho:OpR X (compareOp op) r) (ha:PE X a ta) (hb:PE X b tb) (hm:behindInMarks op b=false):PT X (.Compare a [op] [b] pos) (Yp (tOp r ta tb)):=by
 intro pins s σ H Q I h
 refine wpAny_isTrue_Compare1 (thn (ha pins s σ H _ I h) fun v s1 ⟨x,H1,I1,r1,q1⟩=>thn (hb pins s1 σ H1 _ I1 q1) fun u s2 ⟨y,H2,I2,r2,q2⟩=>
  thn (ho pins s2 σ H2 x y v u _ I2 r1 r2 q2) fun c s3 ⟨z,H3,I3,r3,k,e,q3⟩=> ?_) hm
 subst e
 cases r3
 exact wpAny_truthy_bool ⟨H3,I3,q3⟩
def aal (K:PySem.W.Frag) (x:V) (H:Hp) (k:Bool):Prop:=
 match x with
 | .non=>k=false
 | .bl b=>k=b
 | .int i=>k=(i !=0)
 | .str y=>y.length<=sizeLine/\k=((y.length:Int) !=0)
 | .byt y=>y.size<=sizeLine/\k=((y.size:Int) !=0)
 | .ref p=>(∃xs,SqL K H p xs/\k= !xs.isEmpty)\/(∃xs,SqT K H p xs/\k= !xs.isEmpty)\/∃kvs,H p=some (.dK kvs)/\k= !kvs.isEmpty
 | _=>False
theorem M3 {κ:Type}{kvs:List (κ×V)}{vs:List (κ×Value)} (r:KV kvs vs):(!vs.isEmpty)= !kvs.isEmpty:=by
 cases r<;>rfl
theorem Gd {xs:List V}{its:List Value} (r:Vals xs its):(!its.toArray.isEmpty)= !xs.isEmpty:=by
 cases r<;>simp
theorem Ge:(sizeLine:Nat)<2 ^ 63:=by rw[sizeLine_eq];decide
theorem aam:aht X (fun x H Q=>∃k,aal X.K x H k/\Q k H):=by
 intro pins s σ H x v Q I rx h
 obtain⟨k,e,q⟩:=h
 have hl:=Ge
 have hs:sizeLine=16777216:=sizeLine_eq
 cases x with
 | non=>
   cases rx
   have e':k=false:=e
   subst e'
   exact truthy_none ⟨H,I,q⟩
 | bl b=>
   cases rx
   have e':k=b:=e
   subst e'
   exact wpAny_truthy_bool ⟨H,I,q⟩
 | int i=>
   obtain⟨t,rfl⟩:=rx
   have e':k=(i !=0):=e
   subst e'
   exact PySem.P.truthy_int ⟨H,I,q⟩
 | str y=>
   obtain⟨t,rfl⟩:=rx
   obtain⟨hy,e'⟩:y.length<=sizeLine/\k=((y.length:Int) !=0):=e
   subst e'
   exact PySem.P.truthy_str (by omega) ⟨H,I.tok _,q⟩
 | byt y=>
   obtain⟨t,rfl⟩:=rx
   obtain⟨hy,e'⟩:y.size<=sizeLine/\k=((y.size:Int) !=0):=e
   subst e'
   exact PySem.W.truthy_bytes (by omega) ⟨H,I.tok _,q⟩
 | ref p=>
   cases rx
   have e':(∃xs,SqL X.K H p xs/\k= !xs.isEmpty)\/(∃xs,SqT X.K H p xs/\k= !xs.isEmpty)\/∃kvs,H p=some (.dK kvs)/\k= !kvs.isEmpty:=e
   rcases e' with⟨xs,hx,e'⟩ | ⟨xs,hx,e'⟩ | ⟨kvs,hx,e'⟩
   ·subst e'
    obtain⟨its,r,pl,hz⟩:=I.list hx
    have hlen:=r.length
    exact wpAny_truthy_list pl.isList (by simp only[List.size_toArray];omega) ⟨H,I.tok _,by rw[Gd r];exact q⟩
   ·subst e'
    obtain⟨its,r,pl,hz⟩:=I.tuple hx
    have hlen:=r.length
    exact truthy_tuple pl (by simp only[List.size_toArray];omega) ⟨H,I.tok _,by rw[Gd r];exact q⟩
   ·subst e'
    obtain⟨hz,hS,vs,r,m⟩:kvs.length<=sizeLine/\(p==sysModules)=false/\∃vs,KV kvs vs/\s.heap.DictOf (dH X.prog X.w) p vs:=I.hok p _ hx
    have hlen:kvs.length=vs.length:=Paired.length r
    exact wpAny_truthy_dict hS m (by omega) ⟨H,I.tok _,by rw[M3 r];exact q⟩
 | _=>exact(show False from e).elim
theorem RW (ha:PE X a ta) (he:∀whole,isTrue a X.env whole=(do let v <-whole;standAt a.pos;holding [v] (truthy v))):
 PT X a (fun σ H Q=>ta σ H fun x H'=>∃k,aal X.K x H' k/\Q k H'):=by
 intro pins s σ H Q I h
 exact isTrue_plain (thn (ha pins s σ H _ I h) fun v s1 ⟨x,H1,I1,r1,q1⟩=>aam pins s1 σ H1 x v Q I1 r1 q1) (he _)
theorem M4:OpR X (binaryOp .Add) (fun x y H Q=>∃i j,x= .str i/\y= .str j/\i.length+j.length<=sizeLine/\Q (.str (i++j)) H):=by
 intro pins s σ H x y v u Q I rx ry h
 obtain⟨i,j,rfl,rfl,hz,q⟩:=h
 obtain⟨t,rfl⟩:=rx
 obtain⟨t',rfl⟩:=ry
 exact add_str (fun t' tk=>⟨.str (i++j),H,I.tok _,⟨_,rfl⟩,q⟩) hz
theorem vals1 {x:V}{us:List Value} (r:Vals [x] us):∃u,us=[u]/\RelV x u:=by
 cases r with
 | cons r1 r2=>cases r2;exact⟨_,rfl,r1⟩
theorem vals2 {x y:V}{us:List Value} (r:Vals [x,y] us):∃u w',us=[u,w']/\RelV x u/\RelV y w':=by
 cases r with
 | cons r1 r2=>
   cases r2 with
   | cons r3 r4=>cases r4;exact⟨_,_,rfl,r1,r3⟩
theorem QJ (hc:X.calm=true):qL X (.builtin "max") (fun xs H Q=>∃i j,xs=[.int i, .int j]/\Q (.int (if j>i then j else i)) H):=by
 intro pins s σ H xs us Q I r h
 obtain⟨i,j,rfl,q⟩:=h
 obtain⟨u,w',rfl,⟨t,rfl⟩,⟨t',rfl⟩⟩:=vals2 r
 refine max_two_ints (I.ok.hd hc) fun h' tk k=>⟨_,H,I.kept k, ?_,q⟩
 by_cases hj:j>i
 ·rw[if_pos hj,if_pos hj];exact⟨_,rfl⟩
 ·rw[if_neg hj,if_neg hj];exact⟨_,rfl⟩
theorem QK:qL X (.type "int") (fun xs H Q=>(∃i,xs=[.int i]/\Q (.int i) H)\/∃k,xs=[.bl k]/\Q (.int (if k then 1 else 0)) H):=by
 intro pins s σ H xs us Q I r h
 rcases h with⟨i,rfl,q⟩ | ⟨k,rfl,q⟩
 ·obtain⟨u,rfl,t,rfl⟩:=vals1 r
  exact call_int_int ⟨.int i,H,I,⟨_,rfl⟩,q⟩
 ·obtain⟨u,rfl,r1⟩:=vals1 r
  cases r1
  exact call_int_bool ⟨.int (if k then 1 else 0),H,I.tok _,⟨_,rfl⟩,q⟩
end
end L2
namespace L2
open PySem PySem.Spec PyProof.Rows
structure M5 (h:Heap) (x dx C:Addr) (mA:Str->Option Value):Prop where
 obj:h.get? x=some (PySem.W.instObj C dx)
 ns:h.Ns1 dx mA
 ne:dx≠x
theorem QL {h:Heap}{dx:Addr}{mA:Str->Option Value} (n:h.Ns1 dx mA):∃od,h.get? dx=some od/\∀name,PySem.W.lookIn name od=some (mA name):=by
 obtain⟨o,es,ep,ho,hd,hk,_,hm⟩:=n
 refine⟨o,ho,fun name=> ?_⟩
 have e:=hm name
 unfold nsFind findBy at e
 rw[<-Array.find?_toList] at e
 unfold PySem.W.lookIn
 rw[hd]
 dsimp only
 split
 ·rename_i y q
  rw[q] at e
  exact congrArg some e
 ·rename_i q
  rw[q] at e
  have a:es.toList.any (·.refKey)=false:=by
   rw[List.any_eq_false]
   intro y hy
   obtain⟨z,t,hkey⟩:=hk y (Array.mem_toList_iff.mp hy)
   simp[DictEntry.refKey,hkey]
  have a':¬es.toList.any (·.refKey)=true:=by rw[a];exact Bool.false_ne_true
  rw[if_neg a']
  exact congrArg some e
theorem M5.look {h:Heap}{x dx C:Addr}{mA:Str->Option Value} (I:M5 h x dx C mA):∃od,PySem.W.InstAt h x (PySem.W.instObj C dx) C (some od)/\∀name,PySem.W.lookIn name od=some (mA name):=
 let ⟨od,ho,hl⟩:=QL I.ns
 ⟨od,⟨I.obj,rfl,rfl,ho⟩,hl⟩
section
variable {prog:Program}{w:World}{A:Around}{E:Value->Shared->Prop}{s:Shared}{K:PySem.W.Frag}{x dx C f:Addr}{mA:Str->Option Value}{name:Str}{v:Value}
theorem get_map {expr:Bool}{Q:Value->Shared->Prop} (X:K.In s.heap) (I:M5 s.heap x dx C mA) (hg:PySem.W.plainGet K C name=true) (hh:PySem.W.hasDictIn K C=true)
 (ha:PySem.W.findIn K (.ref C) name=some none) (hv:mA name=some v) (hv':PySem.W.handedIn v=true) (h:Q v {s with toks:=s.toks+1}):
 wpAny (model prog w) A (getAttr (.ref x) name expr) Q E s:=by
 obtain⟨od,J,hl⟩:=I.look
 exact PySem.W.get_value X J (PySem.W.plainGet_of hg).1 (PySem.W.findObj_own hh ha rfl (by rw[hl,hv])) hv' h
theorem RX {pl:Sem Bool}{Q:Value×List Value->Shared->Prop} (X:K.In s.heap) (I:M5 s.heap x dx C mA) (hg:PySem.W.plainGet K C name=true)
 (hf:PySem.W.findIn K (.ref C) name=some (some (.ref f))) (ht:PySem.W.isFn K (.ref f)=true) (hv:mA name=none) (h:Q (.ref f,[.ref x]) s):
 wpAny (model prog w) A (getMethod (.ref x) name pl) Q E s:=by
 obtain⟨od,J,hl⟩:=I.look
 exact PySem.W.method_fn X J (PySem.W.plainGet_of hg).1 (PySem.W.plainGet_of hg).2 hf (beq_iff_eq.mp ht) (by show(PySem.W.lookIn name od).map (·.isSome)=some false;rw[hl,hv];rfl) h
theorem Vw {ns:List Str}{Q:Unit->Shared->Prop} (X:K.In s.heap) (I:M5 s.heap x dx C mA)
 (hs:PySem.W.findIn K (.ref C) "__setattr__"=some (some (.builtin "object.__setattr__"))) (hp:PySem.W.plainOver K C=true) (ht:PySem.W.takerIn K C name=some none) (hh:PySem.W.hasDictIn K C=true)
 (hw:PySem.Within mA ns) (hsz:ns.length<=sizeLine)
 (h:∀h',M5 h' x dx C (fun y=>if y=name then some v else mA y)->Heap.SameBut dx s.heap h'->Q () {s with heap:=h',toks:=s.toks+2}):
 wpAny (model prog w) A (setAttr (.ref x) name v) Q E s:=by
 obtain⟨od,J,hl⟩:=I.look
 refine PySem.W.set_plain X J hs (PySem.W.osa_open (s:={s with toks:=s.toks+1}) (r:=none) X J hp ht fun b=> ?_)
 obtain⟨cd,hc,hd'⟩:=PySem.W.any_some hh
 have hx:s.heap.get? x=some ⟨.ref C,some dx, .plain, #[]⟩:=I.obj
 refine wpAny_bind (wpAny_pure (wpAny_bind (wpAny_bind (wpAny_loadPart hx (wpAny_bind (PySem.W.Looks.here (s:={s with toks:=s.toks+1}) (PySem.W.looks_clsIn X hc) ?_))))))
 rw[hd']
 refine wpAny_pure (a:=some dx) (wpAny_bind (wpAny_pure (wpAny_bind ?_)))
 refine wpAny_nsSet1 (s:={s with toks:=s.toks+1}) I.ns fun h' hn2 hs2=> ?_
 obtain⟨oD,esD,epD,hoD,hdD,hcD⟩:=hn2.count (PySem.Within.cons name v hw)
 refine wpAny_bind (wpAny_lookBehind hoD (by rw[hdD];exact pastItsLine_dict (Nat.le_trans hcD (by rw[List.length_cons];omega))) ?_)
 exact wpAny_pure (h _ ⟨(hs2.2 _ (Ne.symm I.ne)).trans I.obj,hn2,I.ne⟩ hs2)
theorem RZ {R:Result->Shared->Prop}{vs:List Value}{kw:List (Str×Value)} (X:K.In s.heap) (hm:PySem.W.makesIn K C=true)
 (hi:PySem.W.findIn K (.ref C) "__init__"=some (some (.ref f))) (hf:PySem.W.typeIn K (.ref f)=some (.type "function"))
 (h:codeAny (model prog w) (A.under (.builtin "type.__call__" ⟨.ref C::vs,kw⟩)) (.call (.ref f) ⟨.ref (s.heap.objs.size+1)::vs,kw⟩) (PySem.W.InitBack (s.heap.objs.size+1) R)
   {s with heap:=(s.heap.push PySem.W.emptyDict).push (PySem.W.instObj C s.heap.objs.size)}):
 codeAny (model prog w) A (.call (.ref C) ⟨vs,kw⟩) R s:=by
 obtain⟨hh,g,d,t,os⟩:=s
 exact PySem.W.make_core (PySem.W.makes_of X hm) (PySem.W.looks_findIn X hi) (fun self=>PySem.W.bind_fn X self hf) (.inl rfl) h
end
def bf (f:Str) (v:V):List (Str×V)->List (Str×V)
 |[]=>[(f,v)]
 | (g,x)::r=>if g=f then(g,v)::r else(g,x)::bf f v r
theorem Et (f g:Str) (v:V):∀fs:List (Str×V),(bf f v fs).lookup g=if g=f then some v else fs.lookup g
 |[]=>by
  show List.lookup g [(f,v)]=_
  by_cases h:g=f
  ·have hb:(g==f)=true:=beq_iff_eq.mpr h
   simp only[List.lookup,hb,if_pos h]
  ·have hb:(g==f)=false:=beq_eq_false_iff_ne.mpr h
   simp only[List.lookup,hb,if_neg h]
 | (k,x)::r=>by
   have ih:=Et f g v r
   rw[show bf f v ((k,x)::r)=(if k=f then(k,v)::r else(k,x)::bf f v r) from rfl]
   by_cases hk:k=f
   ·rw[if_pos hk]
    by_cases h:g=k
    ·have hb:(g==k)=true:=beq_iff_eq.mpr h
     simp only[List.lookup,hb,if_pos (h.trans hk)]
    ·have hb:(g==k)=false:=beq_eq_false_iff_ne.mpr h
     simp only[List.lookup,hb,if_neg (fun e:g=f=>h (e.trans hk.symm))]
   ·rw[if_neg hk]
    by_cases h:g=k
    ·have hb:(g==k)=true:=beq_iff_eq.mpr h
     simp only[List.lookup,hb,if_neg (fun e:g=f=>hk (h.symm.trans e))]
    ·have hb:(g==k)=false:=beq_eq_false_iff_ne.mpr h
     simp only[List.lookup,hb]
     exact ih
theorem Dq (f:Str) (v:V):∀fs:List (Str×V),f∈(bf f v fs).map (·.1)/\∀g,g∈fs.map (·.1)->g∈(bf f v fs).map (·.1)
 |[]=>⟨by simp[bf],fun g h=>by simp at h⟩
 | (k,x)::r=>by
   obtain⟨i1,i2⟩:=Dq f v r
   rw[show bf f v ((k,x)::r)=(if k=f then(k,v)::r else(k,x)::bf f v r) from rfl]
   by_cases hk:k=f
   ·rw[if_pos hk]
    subst hk
    exact⟨by simp,fun g h=>by simpa using h⟩
   ·rw[if_neg hk]
    refine⟨?_,fun g h=> ?_⟩
    ·rw[List.map_cons]
     exact List.mem_cons_of_mem _ i1
    ·rw[List.map_cons] at h ⊢
     rcases List.mem_cons.mp h with e | e
     ·exact List.mem_cons.mpr (.inl e)
     ·exact List.mem_cons_of_mem _ (i2 g e)
theorem Eu (f:Str) (v:V):∀fs:List (Str×V),(bf f v fs).length<=fs.length+1
 |[]=>by simp[bf]
 | (k,x)::r=>by
   have ih:=Eu f v r
   rw[show bf f v ((k,x)::r)=(if k=f then(k,v)::r else(k,x)::bf f v r) from rfl]
   by_cases hk:k=f
   ·rw[if_pos hk,List.length_cons,List.length_cons];omega
   ·rw[if_neg hk,List.length_cons,List.length_cons];omega
theorem yG.some_of {v:V}{o:Option Value} (r:yG (some v) o):∃u,o=some u/\RelV v u:=by
 cases o with
 | none=>exact(show False from r).elim
 | some u=>exact⟨u,rfl,r⟩
theorem yG.none_of {o:Option Value} (r:yG none o):o=none:=by
 cases o with
 | none=>rfl
 | some u=>exact(show False from r).elim
theorem QM {v:V}{u:Value} (r:RelV v u):PySem.W.handedIn u=true:=by
 cases v with
 | non=>cases(show u=Value.none from r);rfl
 | bl b=>cases(show u=Value.bool b from r);rfl
 | int i=>obtain⟨t,e⟩:=(show∃t,u=Value.int i t from r);cases e;rfl
 | str x=>obtain⟨t,e⟩:=(show∃t,u=Value.str x t from r);cases e;rfl
 | byt b=>obtain⟨t,e⟩:=(show∃t,u=Value.bytes b t from r);cases e;rfl
 | flt b=>obtain⟨t,e⟩:=(show∃t,u=Value.float b t from r);cases e;rfl
 | ref a=>cases(show u=Value.ref a from r);rfl
 | ty n=>cases(show u=Value.type n from r);rfl
section
variable {P:Program}{w:World}{H H':Hp}{h h':Heap}{a C dx:Addr}{fs fs':List (Str×V)}
theorem Fy (hok:HOk P w H h) (e:H a=some (.ins C dx fs)):∃mA,M5 h a dx C mA/\(∀f,yG (fs.lookup f) (mA f))/\PySem.Within mA (fs.map (·.1))/\fs.length<=1000/\H dx=some (.own a):=by
 obtain⟨d,z,ne,ob,mA,n,r,q⟩:=(show fH P w H h a (.ins C dx fs) from hok a _ e)
 exact⟨mA,⟨ob,n,ne⟩,r,q,z,d⟩
end
structure Cls (K:PySem.W.Frag) (C:Addr):Prop where
 pg:PySem.W.plainGet K C Str.empty=true
 hd:PySem.W.hasDictIn K C=true
 po:PySem.W.plainOver K C=true
 sa:PySem.W.findIn K (.ref C) "__setattr__"=some (some (.builtin "object.__setattr__"))
theorem Cls.get {K:PySem.W.Frag}{C:Addr} (c:Cls K C) (f:Str):PySem.W.plainGet K C f=true:=c.pg
def jE (K:PySem.W.Frag) (C:Addr) (f:Str):Prop:=PySem.W.findIn K (.ref C) f=some none
theorem jE.taker {K:PySem.W.Frag}{C:Addr}{f:Str} (n:jE K C f):PySem.W.takerIn K C f=some none:=by
 unfold PySem.W.takerIn
 rw[show PySem.W.findIn K (.ref C) f=some none from n]
 rfl
structure Meth (K:PySem.W.Frag) (C:Addr) (m:Str) (f:Addr):Prop where
 at_:PySem.W.findIn K (.ref C) m=some (some (.ref f))
 fn:PySem.W.isFn K (.ref f)=true
 kp:PySem.W.keepIn K (.ref f)=true
section
variable {X:Cx}{pins:List (Addr×Obj)}{σ:St}{H:Hp}{s:Shared}{a C dx:Addr}{fs:List (Str×V)}{f:Str}{v:V}{A:Around}{E:Value->Shared->Prop}
theorem M6 {b:Bool}{Q:Value->Shared->Prop} (I:Inv X pins σ H s) (e:H a=some (.ins C dx fs)) (c:Cls X.K C) (n:jE X.K C f) (l:fs.lookup f=some v)
 (h:∀u s',Inv X pins σ H s'->RelV v u->Q u s'):wpAny (model X.prog X.w) A (getAttr (.ref a) f b) Q E s:=by
 obtain⟨mA,O,r,_,_,_⟩:=Fy I.hok e
 obtain⟨u,hu,ru⟩:=yG.some_of (v:=v) (o:=mA f) (by rw[<-l];exact r f)
 exact get_map I.kIn O (c.get f) c.hd n hu (QM ru) (h u _ (I.tok _) ru)
theorem Gf {m:Str}{g:Addr}{pl:Sem Bool}{Q:Value×List Value->Shared->Prop} (I:Inv X pins σ H s) (e:H a=some (.ins C dx fs)) (c:Cls X.K C) (k:Meth X.K C m g) (l:fs.lookup m=none)
 (h:Q (.ref g,[.ref a]) s):wpAny (model X.prog X.w) A (getMethod (.ref a) m pl) Q E s:=by
 obtain⟨mA,O,r,_,_,_⟩:=Fy I.hok e
 have hn:mA m=none:=yG.none_of (by rw[<-l];exact r m)
 exact RX I.kIn O (c.get m) k.at_ k.fn hn h
theorem M7 {y:V}{u:Value}{Q:Unit->Shared->Prop} (I:Inv X pins σ H s) (e:H a=some (.ins C dx fs)) (c:Cls X.K C) (n:jE X.K C f) (hl:fs.length<1000) (ry:RelV y u)
 (h:∀s',Inv X pins σ (upd H a (.ins C dx (bf f y fs))) s'->Q () s'):wpAny (model X.prog X.w) A (setAttr (.ref a) f u) Q E s:=by
 obtain⟨mA,O,r,wi,_,ho⟩:=Fy I.hok e
 have hz:(fs.map (·.1)).length<=sizeLine:=by rw[List.length_map,sizeLine_eq];omega
 refine Vw I.kIn O c.sa c.po n.taker c.hd wi hz fun h' O' sb=>h _ ?_
 have hd:∃o,h'.get? dx=some o:=let ⟨o,_,_,e',_⟩:=O'.ns;⟨o,e'⟩
 refine I.write (x:=a) (e:=dx) (by rw[e];exact True.intro) (.inr ho) (fun b q hb z=>(sb.2 b hb).trans z) hd ?_
 refine⟨by rw[au O.ne];exact ho, ?_,O.ne,O'.obj,_,O'.ns,fun g=> ?_,fun g hg=> ?_⟩
 ·have:=Eu f y fs;omega
 ·show yG ((bf f y fs).lookup g) (if g=f then some u else mA g)
  rw[Et]
  by_cases q:g=f
  ·rw[if_pos q,if_pos q];exact ry
  ·rw[if_neg q,if_neg q];exact r g
 ·by_cases q:g=f
  ·rw[q];exact(Dq f y fs).1
  ·refine(Dq f y fs).2 g (wi g fun z=>hg ?_)
   show(if g=f then some u else mA g)=none
   rw[if_neg q];exact z
theorem Inv.made (I:Inv X pins σ H s):Inv X pins σ (upd (upd H s.heap.objs.size (.own (s.heap.objs.size+1))) (s.heap.objs.size+1) (.ins C s.heap.objs.size []))
 {s with heap:=(s.heap.push PySem.W.emptyDict).push (PySem.W.instObj C s.heap.objs.size)}:=by
 have e1:(s.heap.push PySem.W.emptyDict).get? s.heap.objs.size=some PySem.W.emptyDict:=Heap.get?_push_size s.heap rfl
 have e2:((s.heap.push PySem.W.emptyDict).push (PySem.W.instObj C s.heap.objs.size)).get? (s.heap.objs.size+1)=some (PySem.W.instObj C s.heap.objs.size):=by
  have:=Heap.get?_push_size (s.heap.push PySem.W.emptyDict) (o:=PySem.W.instObj C s.heap.objs.size) rfl
  rwa [Heap.size_push] at this
 have e3:(s.heap.push PySem.W.emptyDict).Ns s.heap.objs.size (fun _=>none):=⟨PySem.W.emptyDict, #[],_,e1,rfl,(fun e he=>absurd he (by simp)),fun _=>rfl⟩
 have I1:=I.laid (a:=s.heap.objs.size) (o:= .own (s.heap.objs.size+1)) (h':=s.heap.push PySem.W.emptyDict) (t':=s.toks) (fun b u q=>Heap.get?_push_of_some _ q) (Nat.le_refl _) ⟨_,e1⟩
 refine I1.laid (a:=s.heap.objs.size+1) (o:= .ins C s.heap.objs.size []) (t':=s.toks) (fun b u q=>Heap.get?_push_of_some _ q) (Nat.le_of_eq (Heap.size_push _ _)) ?_
 have ne:s.heap.objs.size≠s.heap.objs.size+1:=Nat.ne_of_lt (Nat.lt_succ_self _)
 refine⟨by rw[au ne,ao],Nat.zero_le _,ne,e2,fun _=>none,(Heap.Ns1.of_empty e3).at fun o q=>Heap.get?_push_of_some _ q,fun _=>True.intro,fun y hy=>absurd rfl hy⟩
theorem Vx {prog:Program}{w:World}{env:Env}{e:Expr}{f:Str}{pos:Pos}{s:Shared}{Q:Value->Shared->Prop} (hb:attributeBase e f env (eval e env)=eval e env)
 (h:wpAny (model prog w) A (eval e env) (fun o s₁=>wpAny (model prog w) A (getAttr o f true) Q E s₁) E s):wpAny (model prog w) A (eval (.Attribute e f pos) env) Q E s:=
 Attribute_any_ h (by rw[arm_eval_Attribute,hb])
end
def aan (K:PySem.W.Frag) (ta:TE) (f:Str):TE:=fun σ H Q=>ta σ H fun x H1=>∃a C dx fs v,x= .ref a/\H1 a=some (.ins C dx fs)/\Cls K C/\jE K C f/\fs.lookup f=some v/\Q v H1
def adl (K:PySem.W.Frag) (ta tv:TE) (f:Str):TS:=fun D σ H=>tv σ H fun y H1=>ta σ H1 fun x H2=>∃a C dx fs,x= .ref a/\H2 a=some (.ins C dx fs)/\Cls K C/\jE K C f/\fs.length<1000/\
 D.nx σ (upd H2 a (.ins C dx (bf f y fs)))
section
variable {X:Cx}{o e value:Expr}{f:Str}{pos pos' tpos:Pos}{ta tv:TE}
theorem aao (he:PE X e ta) (hb:attributeBase e f X.env (eval e X.env)=eval e X.env):PE X (.Attribute e f pos) (aan X.K ta f):=by
 intro pins s σ H Q I h
 refine Vx hb (thn (he pins s σ H _ I h) fun u s1 ⟨x,H1,I1,rx,a,C,dx,fs,v,ex,ea,c,n,l,q⟩=> ?_)
 subst ex
 obtain rfl:u=Value.ref a:=rx
 exact M6 I1 ea c n l fun u' s2 I2 ru=>⟨v,H1,I2,ru,q⟩
theorem aap (ha:PE X o ta) (hv:PE X value tv) (hs:swapsWith value (some (.Attribute o f pos')) pos.line X.env=pure false):PS X (.Assign [.Attribute o f pos'] value pos) (adl X.K ta tv f):=by
 intro pins s σ H D I h
 refine plainObj_wpAny_Assign_Attribute (thn (hv pins s σ H _ I h) fun u s1 ⟨y,H1,I1,ry,q⟩=>thn (ha pins s1 σ H1 _ I1 q) fun ov s2 ⟨x,H2,I2,rx,a,C,dx,fs,ex,ea,c,n,l,q2⟩=> ?_) hs
 subst ex
 obtain rfl:ov=Value.ref a:=rx
 exact M7 I2 ea c n l ry fun s3 I3=>⟨σ,_,I3,q2⟩
end
section
variable {X:Cx}{pins:List (Addr×Obj)}{σ:St}{H:Hp}{s:Shared}{A:Around}{E:Value->Shared->Prop}{Q:Value->Shared->Prop}{c:Value}{b:Bool}
inductive sX (K:PySem.W.Frag) (H:Hp):V->Value->Prop where
 | non:sX K H .non (.type "NoneType")
 | bl (x:Bool):sX K H (.bl x) (.type "bool")
 | int (i:Int):sX K H (.int i) (.type "int")
 | str (x:Str):sX K H (.str x) (.type "str")
 | flt (x:UInt64):sX K H (.flt x) (.type "float")
 | lst {a:Addr}{xs:List V} (e:H a=some (.lst xs)):sX K H (.ref a) (.type "list")
 | frz {a:Addr}{o:Obj}{xs:List V} (e:H a=some (.frz o (.lst xs))):sX K H (.ref a) (.type "list")
 | tup {a:Addr}{xs:List V} (e:H a=some (.tup xs)):sX K H (.ref a) (.type "tuple")
 | dK {a:Addr}{kvs:List (Key×V)} (e:H a=some (.dK kvs)):sX K H (.ref a) (.type "dict")
 | dT {a:Addr}{kvs:List (List Key×V)} (e:H a=some (.dT kvs)):sX K H (.ref a) (.type "dict")
 | ins {a C dx:Addr}{fs:List (Str×V)} (e:H a=some (.ins C dx fs)) (cl:Cls K C) (ha:PySem.W.findIn K (.ref C) "__class__"=some (some (.builtin "object.__class__")))
    (hn:PySem.W.specialIn K (.builtin "object.__class__") "__get__"=some (some (.builtin "getset_descriptor.__get__"))) (htk:PySem.W.takesIn K (.builtin "object.__class__")=some true)
    (hm:PySem.W.mroIn K C (.type "object")=some true):sX K H (.ref a) (.ref C)
theorem QV {x:V}{u t:Value} (I:Inv X pins σ H s) (rx:RelV x u) (ty:sX X.K H x t) (e:PySem.W.kitOne X.K t c=some b) (h:∀tk,Q (.bool b) {s with toks:=tk}):
 wpAny (model X.prog X.w) A (call (.builtin "isinstance") [u,c]) Q E s:=by
 cases ty with
 | non=>cases(show u=Value.none from rx);exact PySem.W.kia_one PySem.W.kitx_none I.kIn True.intro e (fun z=>nomatch z) h
 | bl y=>cases(show u=Value.bool y from rx);exact PySem.W.kia_one PySem.W.kitx_bool I.kIn True.intro e (fun z=>nomatch z) h
 | int i=>obtain⟨t,q⟩:=(show∃t,u=Value.int i t from rx);cases q;exact PySem.W.kia_one PySem.W.kitx_int I.kIn True.intro e (fun z=>nomatch z) h
 | str y=>obtain⟨t,q⟩:=(show∃t,u=Value.str y t from rx);cases q;exact PySem.W.kia_one PySem.W.kitx_str I.kIn True.intro e (fun z=>nomatch z) h
 | flt y=>obtain⟨t,q⟩:=(show∃t,u=Value.float y t from rx);cases q;exact PySem.W.kia_one PySem.W.kitx_float I.kIn True.intro e (fun z=>nomatch z) h
 | @lst a xs ea=>
   cases(show u=Value.ref a from rx)
   obtain⟨_,_,n,_,h1⟩:=(show fH X.prog X.w H s.heap a (.lst xs) from I.hok a _ ea)
   exact PySem.W.kia_one PySem.W.kitx_list I.kIn ⟨_,h1,rfl⟩ e (fun z=>nomatch z) h
 | @frz a ob xs ea=>
   cases(show u=Value.ref a from rx)
   obtain⟨_,_,_,n,_,h1⟩:=(show fH X.prog X.w H s.heap a (.frz ob (.lst xs)) from I.hok a _ ea)
   exact PySem.W.kia_one PySem.W.kitx_list I.kIn ⟨_,h1,rfl⟩ e (fun z=>nomatch z) h
 | @tup a xs ea=>
   cases(show u=Value.ref a from rx)
   obtain⟨_,_,_,p⟩:=(show fH X.prog X.w H s.heap a (.tup xs) from I.hok a _ ea)
   obtain⟨o,h1,h2,_⟩:=p
   exact PySem.W.kia_one PySem.W.kitx_tuple I.kIn ⟨o,h1,h2⟩ e (fun z=>nomatch z) h
 | @dK a kvs ea=>
   cases(show u=Value.ref a from rx)
   obtain⟨_,_,vs,_,p⟩:=(show fH X.prog X.w H s.heap a (.dK kvs) from I.hok a _ ea)
   obtain⟨o,es,ep,h1,h2,_⟩:=p
   exact PySem.W.kia_one PySem.W.kitx_dict I.kIn ⟨o,h1,h2.1⟩ e (fun z=>nomatch z) h
 | @dT a kvs ea=>
   cases(show u=Value.ref a from rx)
   obtain⟨_,_,xs,_,o,es,ep,h1,h2,_⟩:=(show fH X.prog X.w H s.heap a (.dT kvs) from I.hok a _ ea)
   exact PySem.W.kia_one PySem.W.kitx_dict I.kIn ⟨o,h1,h2.1⟩ e (fun z=>nomatch z) h
 | @ins a C dx fs ea cl ha hn htk hm=>
   cases(show u=Value.ref a from rx)
   obtain⟨mA,O,_⟩:=Fy I.hok ea
   obtain⟨od,J,_⟩:=O.look
   exact PySem.W.kia_one (PySem.W.kitx_own (cl.get _) cl.hd ha hn htk hm) I.kIn J e (fun z=>nomatch z) h
end
end L2
namespace L2
open PySem PySem.Spec PyProof.Rows
structure mJ (k:Nat) (A:Around):Prop where
 hd:A.handled=none
 dp:A.depth+3 * k+5<recursionLimit
 un:A.units+16 * k+200<cLine
theorem mJ.mono {j k:Nat}{A:Around} (r:mJ k A) (h:j<=k):mJ j A:=⟨r.hd,by have:=r.dp;omega,by have:=r.un;omega⟩
theorem mJ.deeper {k:Nat}{A:Around} (r:mJ (k+1) A) (env:Env):mJ k (A.deeper env):=
 ⟨r.hd,by have:=r.dp;show A.depth+1+3 * k+5<_;omega,by have:=r.un;show A.units+3+16 * k+200<_;omega⟩
theorem M8 {A:Around}{C:Addr}{us:List Value}{kw:List (Str×Value)}:(A.under (.builtin "type.__call__" ⟨.ref C::us,kw⟩)).depth=A.depth+1:=by
 first | rfl | simp[Around.under,Code.weight,Code.isCreation,Code.isGuard,Code.isCaller,Code.frames,Code.isFrame,guardIds]
theorem M9 {A:Around}{C:Addr}{us:List Value}{kw:List (Str×Value)}:(A.under (.builtin "type.__call__" ⟨.ref C::us,kw⟩)).units=A.units+1:=by
 first | rfl | simp[Around.under,Code.cUnits,Code.frames,Code.isFrame]
theorem mJ.make {k:Nat}{A:Around} (r:mJ (k+1) A) (C:Addr) (us:List Value) (kw:List (Str×Value)):mJ k (A.under (.builtin "type.__call__" ⟨.ref C::us,kw⟩)):=
 ⟨r.hd,by have:=r.dp;rw[M8];omega,by have:=r.un;rw[M9];omega⟩
theorem mJ.depth {k:Nat}{A:Around} (r:mJ k A):A.depth<recursionLimit:=by have:=r.dp;omega
theorem mJ.units {k:Nat}{A:Around} (r:mJ k A):A.units+64<cLine:=by have:=r.un;omega
def Vy:TA:=fun _ H Q=>Q [] H
def sH (ta:TE) (tr:TA):TA:=fun σ H Q=>ta σ H fun x H1=>tr σ H1 fun xs H2=>Q (x::xs) H2
section
variable {X:Cx}{e:Expr}{es:List Expr}{te:TE}{t:TA}{pos:Pos}
theorem aaq:PA X [] Vy:=fun _ _ _ _ H Q I h=>Calls.spliced_nil ⟨[],H,I, .nil,h⟩
theorem Vz (ha:PE X e te) (hr:PA X es t) (hs:starEach (e::es) X.env=(false,eval e X.env)::starEach es X.env:=by rfl):PA X (e::es) (sH te t):=by
 intro pos pins s σ H Q I h
 rw[hs]
 show wpAny _ _ (spliced ((false,eval e X.env)::backTo pos (starEach es X.env))) _ _ s
 refine Calls.spliced_cons (thn (ha pins s σ H _ I h) fun u s1 ⟨x,H1,I1,r1,q1⟩=> ?_)
 exact thn (hr pos pins s1 σ H1 _ I1 q1) fun us s2 ⟨xs,H2,I2,r2,q2⟩=>⟨x::xs,H2,I2, .cons r1 r2,q2⟩
def adm (t:TA):TE:=fun σ H Q=>t σ H fun xs H1=>xs.length<=sizeLine/\∀p,H1 p=none->Q (.ref p) (upd H1 p (.tup xs))
def adn (t:TA):TE:=fun σ H Q=>t σ H fun xs H1=>xs.length<=sizeLine/\∀p,H1 p=none->Q (.ref p) (upd H1 p (.lst xs))
theorem aar {x1} (h:PA X es t):PE X (.Tuple es x1 pos) (adm t):=by
 intro pins s σ H Q I hq
 refine wpAny_Tuple_spliced (thn (h pos pins s σ H _ I hq) fun us s1 ⟨xs,H1,I1,r,z,q⟩=>⟨by rw[<-r.length];exact z, ?_⟩)
 have hf:H1 s1.heap.objs.size=none:=I1.hok.fresh (Nat.le_refl _)
 refine⟨.ref s1.heap.objs.size,upd H1 s1.heap.objs.size (.tup xs),I1.laid (t':=s1.toks) (fun b u e=>Heap.get?_push_of_some _ e) (Nat.le_refl _) ?_,rfl,q _ hf⟩
 exact⟨z,us,r,⟨_,Heap.get?_push_size _ rfl,rfl,_,rfl⟩⟩
theorem aas (h:PA X es t):PE X (.List es pos) (adn t):=by
 intro pins s σ H Q I hq
 refine wpAny_List_spliced (thn (h pos pins s σ H _ I hq) fun us s1 ⟨xs,H1,I1,r,z,q⟩=>⟨by rw[<-r.length];exact z, ?_⟩)
 have hf:H1 s1.heap.objs.size=none:=I1.hok.fresh (Nat.le_refl _)
 refine⟨.ref s1.heap.objs.size,upd H1 s1.heap.objs.size (.lst xs),I1.laid (t':=s1.toks) (fun b u e=>Heap.get?_push_of_some _ e) (Nat.le_refl _) ?_,rfl,q _ hf⟩
 exact⟨z,us,0,r,Heap.get?_push_size _ rfl⟩
end
abbrev Sp:=List V->Hp->VK->XK->Prop
abbrev CXT:=List Env->Hp->Shared->XK->Value->Shared->Prop
structure Nb (P:Program) (w:World) (K:PySem.W.Frag) (mg:Str->Option Value) (base:Heap) (A:Around) (outer:List Env) (s:Shared) (H:Hp):Prop where
 frames:A.frames=some outer
 mod:Mod K mg base
 bs:∀b o,base.get? b=some o->s.heap.get? b=some o/\H b=none
 bsz:base.objs.size<=s.heap.objs.size
 funs:s.heap.FunFrames base outer
 frf:∀b∈frs outer,H b=none
 hok:HOk P w H s.heap
 bare:AllBare s.gens
def CE (outer:List Env) (P:Program) (w:World) (H:Hp) (s:Shared) (Q:VK) (u:Value) (s':Shared):Prop:=
 ∃v H',s'.os=s.os/\AllBare s'.gens/\Un (frs outer) [] H H' s.heap s'.heap/\HOk P w H' s'.heap/\RelV v u/\Q v H'
def CR (CX:CXT) (outer:List Env) (P:Program) (w:World) (H:Hp) (s:Shared) (Q:VK) (E:XK) (r:Result) (s':Shared):Prop:=
 match r with
 | .ok (.ret u)=>CE outer P w H s Q u s'
 | .ok _=>False
 | .error e=>CX outer H s E e s'
structure bh (P:Program) (w:World) (K:PySem.W.Frag) (mg:Str->Option Value) (base:Heap) (CX:CXT) (k:Nat) (f:Addr) (fd:FuncData) (ps:List Str) (sp:Sp):Prop where
 len:∀vs H Q E,sp vs H Q E->vs.length=ps.length
 run:∀(A:Around) (outer:List Env) (s:Shared) (H:Hp) (args:Args) (us:List Value) (vs:List V) (Q:VK) (E:XK),mJ k A->Nb P w K mg base A outer s H->BindsTo s fd args (ps.zip us)->Vals vs us->sp vs H Q E->
  codeAny (model P w) A (.call (.ref f) args) (CR CX outer P w H s Q E) s
theorem bh.mono {P:Program}{w:World}{K:PySem.W.Frag}{mg:Str->Option Value}{base:Heap}{CX:CXT}{j k:Nat}{f:Addr}{fd:FuncData}{ps:List Str}{sp:Sp} (F:bh P w K mg base CX j f fd ps sp) (h:j<=k):
 bh P w K mg base CX k f fd ps sp:=⟨F.len,fun A outer s H args us vs Q E hr=>F.run A outer s H args us vs Q E (hr.mono h)⟩
theorem bh.imp {P:Program}{w:World}{K:PySem.W.Frag}{mg:Str->Option Value}{base:Heap}{CX:CXT}{k:Nat}{f:Addr}{fd:FuncData}{ps:List Str}{sp sp':Sp} (F:bh P w K mg base CX k f fd ps sp)
 (h:∀vs H Q E,sp' vs H Q E->sp vs H Q E):bh P w K mg base CX k f fd ps sp':=
 ⟨fun vs H Q E q=>F.len vs H Q E (h _ _ _ _ q),fun A outer s H args us vs Q E hr he hb hv hs=>F.run A outer s H args us vs Q E hr he hb hv (h _ _ _ _ hs)⟩
theorem Nb.make {P:Program}{w:World}{K:PySem.W.Frag}{mg:Str->Option Value}{base:Heap}{A:Around}{outer:List Env}{s:Shared}{H:Hp} (e:Nb P w K mg base A outer s H) (C:Addr) (us:List Value) (kw:List (Str×Value)):
 Nb P w K mg base (A.under (.builtin "type.__call__" ⟨.ref C::us,kw⟩)) outer s H:=⟨by first | exact e.frames | (simpa [Around.under,Code.envs,Code.isFrame,pushEnvs] using e.frames),e.mod,e.bs,e.bsz,e.funs,e.frf,e.hok,e.bare⟩
section
variable {X:Cx}{pins:List (Addr×Obj)}{σ:St}{H:Hp}{s s':Shared}
theorem Inv.env0 (I:Inv X pins σ H s):Nb X.prog X.w X.K X.mg X.base X.A X.stack s H:=
 ⟨I.ok.frames,I.ok.mod,I.bs,Nat.le_trans I.ok.bsz I.sz,I.stack,I.Oz,I.hok,I.bare⟩
theorem Inv.after {Q:VK}{u:Value} (I:Inv X pins σ H s) (h:CE X.stack X.prog X.w H s Q u s'):EP X pins σ Q u s':=by
 obtain⟨v,H',os,bare,un,hok,r,q⟩:=h
 obtain⟨hh,g,d,t,os'⟩:=s'
 obtain rfl:os'=s.os:=os
 exact⟨v,H',I.call (h':=hh) (g':=g) (d':=d) (t':=t) (ch:=[]) un hok bare (fun b z=>absurd z (by simp)),r,q⟩
end
def Yq (sp:Sp) (dvs:List V) (E:XK) (t:TA):TE:=fun σ H Q=>t σ H fun vs H1=>sp (vs++dvs) H1 Q E
def O6 (C:Addr) (m:Str) (sp:Sp) (dvs:List V) (E:XK) (ta:TE) (t:TA):TE:=fun σ H Q=>ta σ H fun x H1=>∃a dx fs,x= .ref a/\H1 a=some (.ins C dx fs)/\fs.lookup m=none/\
 t σ H1 fun vs H2=>sp (x::(vs++dvs)) H2 Q E
def Yr (C:Addr) (sp:Sp) (dvs:List V) (E:XK) (t:TA):TE:=fun σ H Q=>t σ H fun vs H1=>∀x dx,H1 x=none->H1 dx=none->dx≠x->
 sp (.ref x::(vs++dvs)) (upd (upd H1 dx (.own x)) x (.ins C dx [])) (fun v H2=>v= .non/\Q (.ref x) H2) E
def Binds (K:PySem.W.Frag) (fd:FuncData) (ps:List Str) (ds:List Value):Prop:=
 ∀(s:Shared) (us:List Value),K.In s.heap->(us++ds).length=ps.length->BindsTo s fd ⟨us,[]⟩ (ps.zip (us++ds))
theorem Binds.all {K:PySem.W.Frag}{fd:FuncData}{ps:List Str} (h:∀us:List Value,us.length=ps.length->bindArgs fd ⟨us,[]⟩=pure (ps.zip us)):Binds K fd ps []:=fun s us _ hl=>by
 rw[List.append_nil] at hl ⊢
 exact .of_eq (h us hl)
def Passes (CX:CXT) (X:Cx) (E:XK):Prop:=∀(pins:List (Addr×Obj)) (σ:St) (H:Hp) (s:Shared) (e:Value) (s':Shared),Inv X pins σ H s->CX X.stack H s E e s'->X.xe e s'
section
variable {X:Cx}{CX:CXT}{k:Nat}{f C:Addr}{fd:FuncData}{ps:List Str}{sp:Sp}{dvs:List V}{ds:List Value}{E:XK}{x m:Str}{p pos apos:Pos}{e o:Expr}{es:List Expr}{ta:TE}{t:TA}
theorem Nf {pins:List (Addr×Obj)}{σ:St}{H:Hp}{s:Shared}{Q:VK}{us:List Value}{vs:List V} (F:bh X.prog X.w X.K X.mg X.base CX k f fd ps sp) (hr:mJ k X.A) (hb:Binds X.K fd ps ds) (hd:Vals dvs ds) (hx:Passes CX X E)
 (I:Inv X pins σ H s) (r:Vals vs us) (h:sp (vs++dvs) H Q E):wpAny (model X.prog X.w) X.A (call (.ref f) us) (EP X pins σ Q) X.xe s:=by
 have r2:Vals (vs++dvs) (us++ds):=r.append hd
 have hl:(us++ds).length=ps.length:=by rw[<-r2.length];exact F.len _ _ _ _ h
 refine wpAny_call (codeAny_mono (F.run X.A X.stack s H ⟨us,[]⟩ (us++ds) (vs++dvs) Q E hr I.env0 (hb s us I.kIn hl) r2 h) fun r s' hq=> ?_)
 cases r with
 | error e=>exact hx pins σ H s e s' I hq
 | ok fl=>
   cases fl with
   | ret u=>exact I.after hq
   | next=>exact False.elim hq
   | brk=>exact False.elim hq
   | cont=>exact False.elim hq
theorem VB (F:bh X.prog X.w X.K X.mg X.base CX k f fd ps sp) (hr:mJ k X.A) (hg:Gl X x) (hm:X.mg x=some (.ref f)) (hk:PySem.W.keepIn X.K (.ref f)=true) (hb:Binds X.K fd ps ds) (hd:Vals dvs ds) (hx:Passes CX X E)
 (ha:PA X (e::es) t) (hdb:(x==("__debug__":Str))=false:=by decide) (he:starEach (e::es) X.env=(false,eval e X.env)::starEach es X.env:=by rfl) (hpl:(backTo pos (starEach es X.env)).any (·.1)=false:=by rfl):
 PE X (.Call (.Name x p) (e::es) [] pos) (Yq sp dvs E t):=by
 intro pins s σ H Q I h
 refine wpAny_Call_Name_kw (OJ I hg hm ?_ hdb)
 refine PySem.W.callWith_K (h₀:=X.base) I.ok.mod.kin hk (thn (ha pos pins s σ H _ I h) fun us s1 ⟨vs,H1,I1,r,q⟩=>⟨I1.kIn, ?_⟩) he hpl
 exact Nf F hr hb hd hx I1 r q
theorem VD {pl:Sem Bool} (he:PE X o ta) (c:Cls X.K C) (hm:Meth X.K C m f) (F:bh X.prog X.w X.K X.mg X.base CX k f fd ps sp) (hr:mJ k X.A) (hb:Binds X.K fd ps ds) (hd:Vals dvs ds) (hx:Passes CX X E) (ha:PA X (e::es) t)
 (hst:starEach (e::es) X.env=(false,eval e X.env)::starEach es X.env:=by rfl) (hpl:(backTo pos (starEach es X.env)).any (·.1)=false:=by rfl)
 (ht:eval (.Call (.Attribute o m apos) (e::es) [] pos) X.env=(do
   let ov <-eval o X.env
   standAt apos.atName
   let (f,first) <-holding [ov] (getMethod ov m pl)
   callWith pos f first (backTo pos (starEach (e::es) X.env)) (backToKw pos (keywordEach [] X.env))):=by rfl):
 PE X (.Call (.Attribute o m apos) (e::es) [] pos) (O6 C m sp dvs E ta t):=by
 intro pins s σ H Q I h
 refine PySem.W.methodCall_KW (pl:=pl) (thn (he pins s σ H _ I h) fun u s1 ⟨x,H1,I1,rx,a,dx,fs,ex,ea,l,q⟩=> ?_) ht
 subst ex
 obtain rfl:u=Value.ref a:=rx
 refine Gf I1 ea c hm l ?_
 refine PySem.W.callWith_K (first:=[.ref a]) (h₀:=X.base) I.ok.mod.kin hm.kp (thn (ha pos pins s1 σ H1 _ I1 q) fun us s2 ⟨vs,H2,I2,r,q2⟩=>⟨I2.kIn, ?_⟩) hst hpl
 exact Nf (us:= .ref a::us) (vs:= .ref a::vs) F hr hb hd hx I2 (.cons rfl r) q2
theorem R0 {pl:Sem Bool} (he:PE X o ta) (c:Cls X.K C) (hm:Meth X.K C m f) (F:bh X.prog X.w X.K X.mg X.base CX k f fd ps sp) (hr:mJ k X.A) (hb:Binds X.K fd ps ds) (hd:Vals dvs ds) (hx:Passes CX X E)
 (ht:eval (.Call (.Attribute o m apos) [] [] pos) X.env=(do
   let ov <-eval o X.env
   standAt apos.atName
   let (f,first) <-holding [ov] (getMethod ov m pl)
   callWith pos f first (backTo pos (starEach [] X.env)) (backToKw pos (keywordEach [] X.env))):=by rfl):
 PE X (.Call (.Attribute o m apos) [] [] pos) (O6 C m sp dvs E ta Vy):=by
 intro pins s σ H Q I h
 refine PySem.W.methodCall_KW (pl:=pl) (thn (he pins s σ H _ I h) fun u s1 ⟨x,H1,I1,rx,a,dx,fs,ex,ea,l,q⟩=> ?_) ht
 subst ex
 obtain rfl:u=Value.ref a:=rx
 refine Gf I1 ea c hm l ?_
 exact PySem.W.callWith_K0 (first:=[.ref a]) I1.kIn hm.kp (Nf (us:=[.ref a]) (vs:=[.ref a]) F hr hb hd hx I1 (.cons rfl .nil) q)
structure Mk (K:PySem.W.Frag) (C f:Addr):Prop where
 makes:PySem.W.makesIn K C=true
 init:PySem.W.findIn K (.ref C) "__init__"=some (some (.ref f))
 fn:PySem.W.isFn K (.ref f)=true
 kp:PySem.W.keepIn K (.ref C)=true
theorem R6 {pins:List (Addr×Obj)}{σ:St}{H:Hp}{s:Shared}{Q:VK}{us:List Value}{vs:List V} (M:Mk X.K C f) (F:bh X.prog X.w X.K X.mg X.base CX k f fd ps sp) (hr:mJ (k+1) X.A) (hb:Binds X.K fd ps ds) (hd:Vals dvs ds)
 (hx:Passes CX X E) (I:Inv X pins σ H s) (r:Vals vs us)
 (h:∀x dx,H x=none->H dx=none->dx≠x->sp (.ref x::(vs++dvs)) (upd (upd H dx (.own x)) x (.ins C dx [])) (fun v H2=>v= .non/\Q (.ref x) H2) E):
 wpAny (model X.prog X.w) X.A (call (.ref C) us) (EP X pins σ Q) X.xe s:=by
 have hq:=h (s.heap.objs.size+1) s.heap.objs.size (I.hok.fresh (Nat.le_succ _)) (I.hok.fresh (Nat.le_refl _)) (Nat.ne_of_lt (Nat.lt_succ_self _))
 have I2:=Inv.made (C:=C) I
 have r2:Vals (V.ref (s.heap.objs.size+1)::(vs++dvs)) (Value.ref (s.heap.objs.size+1)::(us++ds)):= .cons rfl (r.append hd)
 have hl:(Value.ref (s.heap.objs.size+1)::us++ds).length=ps.length:=by
  have e:=r2.length
  rw[F.len _ _ _ _ hq] at e
  exact e.symm
 refine wpAny_call (RZ (f:=f) I.kIn M.makes M.init (beq_iff_eq.mp M.fn) (codeAny_mono (F.run _ X.stack _ _ ⟨Value.ref (s.heap.objs.size+1)::us,[]⟩ (Value.ref (s.heap.objs.size+1)::(us++ds)) _ _ E (hr.make C us [])
  (I2.env0.make C us []) (hb _ (Value.ref (s.heap.objs.size+1)::us) I2.kIn hl) r2 hq) fun r s' hq'=> ?_))
 cases r with
 | error e=>exact hx pins σ _ _ e s' I2 hq'
 | ok fl=>
   cases fl with
   | ret u=>
     obtain⟨v,H',I3,rv,ev,q3⟩:=I2.after hq'
     subst ev
     exact⟨rv,⟨V.ref (s.heap.objs.size+1),H',I3,rfl,q3⟩⟩
   | next=>exact False.elim hq'
   | brk=>exact False.elim hq'
   | cont=>exact False.elim hq'
theorem VF (M:Mk X.K C f) (F:bh X.prog X.w X.K X.mg X.base CX k f fd ps sp) (hr:mJ (k+1) X.A) (hg:Gl X x) (hm:X.mg x=some (.ref C)) (hb:Binds X.K fd ps ds) (hd:Vals dvs ds) (hx:Passes CX X E)
 (ha:PA X (e::es) t) (hdb:(x==("__debug__":Str))=false:=by decide) (he:starEach (e::es) X.env=(false,eval e X.env)::starEach es X.env:=by rfl) (hpl:(backTo pos (starEach es X.env)).any (·.1)=false:=by rfl):
 PE X (.Call (.Name x p) (e::es) [] pos) (Yr C sp dvs E t):=by
 intro pins s σ H Q I h
 refine wpAny_Call_Name_kw (OJ I hg hm ?_ hdb)
 refine PySem.W.callWith_K (h₀:=X.base) I.ok.mod.kin M.kp (thn (ha pos pins s σ H _ I h) fun us s1 ⟨vs,H1,I1,r,q⟩=>⟨I1.kIn, ?_⟩) he hpl
 exact R6 M F hr hb hd hx I1 r q
end
section
variable {X:Cx}{CX:CXT}{k:Nat}{f C:Addr}{fd:FuncData}{ps ks:List Str}{sp:Sp}{E:XK}{x m:Str}{p pos apos kpos:Pos}{e o:Expr}{es:List Expr}{kws:List Keyword}{te ta:TE}{t tk:TA}{nm:Option Str}
variable {g:List Value->List Value->List Value}{gV:List V->List V->List V}
end
structure bR (N P:List Str) (sc:Scope):Prop where
 kind:sc.kind= .function
 co:sc.isCoroutine=false
 gen:sc.isGenerator=false
 nd:N.Nodup
 pre:N.take P.length=P
 par:∀x∈P,sc.names.lookup x=some .local\/sc.names.lookup x=some .cell
 nofree:∀y∈sc.names,y.2≠ .free
theorem Je {kindOf:Str->Option NameKind}{x:Str}:∀{binds:List (Str×Value)}{m:Str->Option Value},(∀v,(x,v)∉binds)->bindL kindOf binds m x=m x
 |[],_,_=>rfl
 | (n,v)::r,m,h=>by
   unfold bindL
   rw[Je fun w hw=>h w (List.mem_cons_of_mem _ hw)]
   split
   ·have:x≠n:=by rintro rfl;exact h v List.mem_cons_self
    simp[this]
   ·rfl
theorem Jf {kindOf:Str->Option NameKind}{x:Str}:∀{binds:List (Str×Value)}{m:Str->Option Value},(∀v,(x,v)∉binds)->bindC kindOf binds m x=m x
 |[],_,_=>rfl
 | (n,v)::r,m,h=>by
   unfold bindC
   rw[Jf fun w hw=>h w (List.mem_cons_of_mem _ hw)]
   split
   ·rfl
   ·have:x≠n:=by rintro rfl;exact h v List.mem_cons_self
    simp[this]
theorem Jg {kindOf:Str->Option NameKind}{x:Str}{v:Value}:∀{P:List Str}{vs:List Value}{i:Nat}{m:Str->Option Value},P.Nodup->P[i]? =some x->vs[i]? =some v->kindOf x=some .local->
 bindL kindOf (P.zip vs) m x=some v
 |[],_,_,_,_,h,_,_=>by simp at h
 | _::_,[],_,_,_,_,h,_=>by simp at h
 | p::P,w::vs,0,m,nd,h1,h2,hk=>by
   simp at h1 h2;subst h1;subst h2
   show bindL kindOf ((p,w)::P.zip vs) m p=_
   unfold bindL
   rw[Je fun v hv=>(List.nodup_cons.mp nd).1 (List.of_mem_zip hv).1,if_pos hk]
   simp
 | p::P,w::vs,i+1,m,nd,h1,h2,hk=>by
   show bindL kindOf ((p,w)::P.zip vs) m x=_
   unfold bindL
   exact Jg (i:=i) (List.nodup_cons.mp nd).2 (by simpa using h1) (by simpa using h2) hk
theorem Jh {kindOf:Str->Option NameKind}{x:Str}{v:Value}:∀{P:List Str}{vs:List Value}{i:Nat}{m:Str->Option Value},P.Nodup->P[i]? =some x->vs[i]? =some v->kindOf x≠some .local->
 bindC kindOf (P.zip vs) m x=some v
 |[],_,_,_,_,h,_,_=>by simp at h
 | _::_,[],_,_,_,_,h,_=>by simp at h
 | p::P,w::vs,0,m,nd,h1,h2,hk=>by
   simp at h1 h2;subst h1;subst h2
   show bindC kindOf ((p,w)::P.zip vs) m p=_
   unfold bindC
   rw[Jf fun v hv=>(List.nodup_cons.mp nd).1 (List.of_mem_zip hv).1,if_neg hk]
   simp
 | p::P,w::vs,i+1,m,nd,h1,h2,hk=>by
   show bindC kindOf ((p,w)::P.zip vs) m x=_
   unfold bindC
   exact Jh (i:=i) (List.nodup_cons.mp nd).2 (by simpa using h1) (by simpa using h2) hk
def start (N:List Str) (vs:List V):St:=vs.map some++List.replicate (N.length - vs.length) none
def Ng (CX:CXT) (P:Program) (w:World) (K:PySem.W.Frag) (mg:Str->Option Value) (base:Heap) (N:List Str) (qual:Str) (scope:Scope) (f:Addr) (cd:Value) (A:Around) (outer:List Env) (s:Shared) (H:Hp) (E:XK):Cx where
 prog:=P
 w:=w
 K:=K
 mg:=mg
 base:=base
 A:=A.deeper (envOfC qual scope s.heap.objs.size f cd)
 N:=N
 s₀:=s
 H₀:=H
 env:=envOfC qual scope s.heap.objs.size f cd
 outer:=outer
 stack:=envOfC qual scope s.heap.objs.size f cd::outer
 ex:=[]
 calm:=true
 fn:=fun _=>true
 pn:=[]
 xe:=fun e s'=>wpAny (model P w) (A.deeper (envOfC qual scope s.heap.objs.size f cd)) (leaving (envOfC qual scope s.heap.objs.size f cd) e) (fun _ s''=>CX outer H s E e s'') (fun e' s''=>CX outer H s E e' s'') s'
theorem KR {sc:Scope}{n:Nat}{x:Str} (h:sc.names.lookup x=some .cell):∃c,(cellsFrom n sc.names []).lookup x=some c:=by
 have q:=PySem.W.cellsFrom_some sc.names n [] (.inl h)
 exact Option.isSome_iff_exists.mp q
theorem QX {CX:CXT}{P:Program}{w:World}{K:PySem.W.Frag}{mg:Str->Option Value}{base:Heap}{N ps:List Str}{qual:Str}{scope:Scope}{f:Addr}{cd:Value}{A:Around}{outer:List Env}{s s1:Shared}{H:Hp}{E:XK}{us:List Value}{vs:List V}
 (S:bR N ps scope) (hd:A.handled=none) (e0:Nb P w K mg base A outer s H) (hl:vs.length=ps.length) (r:Vals vs us)
 (x:InCallC s s.heap.objs.size (bindL (envOfC qual scope s.heap.objs.size f cd).kindOf (ps.zip us) fun _=>none) (cellsFrom (s.heap.objs.size+1) scope.names []) (bindC (envOfC qual scope s.heap.objs.size f cd).kindOf (ps.zip us) fun _=>none) s1):
 Inv (Ng CX P w K mg base N qual scope f cd A outer s H E) [] (start N vs) H s1:=by
 have hpl:ps.length<=N.length:=by have:=congrArg List.length S.pre;rw[List.length_take] at this;omega
 obtain⟨h1,tk,rfl,hk⟩:=x.done
 have noA:∀b:Addr,b∉(Ng CX P w K mg base N qual scope f cd A outer s H E).ex:=fun b z=>absurd (show b∈([]:List Addr) from z) (by simp)
 refine⟨⟨e0.mod,S.kind,rfl,rfl,Nat.le_refl _,fun y z c h1 h2=> ?_,fun y hy=> ?_,fun y c _ h=> ?_,fun _=>hd,Around.frames_deeper e0.frames, .inr ⟨rfl,rfl⟩,fun b z=>absurd z (noA b),e0.bs,e0.bsz,fun b _ _=>noA b,fun b z=>absurd z (noA b),e0.funs,e0.frf⟩,
  rfl,e0.bare,Un.kept hk,⟨_,x.toInCall.ns,fun i y v h1 h2 h3=> ?_⟩,fun y c h=>⟨_,x.cell y c h⟩,e0.hok.fresh (Nat.le_refl _),fun y c h=> ?_,fun p hp=>absurd (show p∈([]:List (Addr×Obj)) from hp) (by simp),e0.hok.kept hk, ?_⟩
 ·exact name_of_addr x.apart (PySem.mem_of_lookup h1) (PySem.mem_of_lookup h2)
 ·have hy:scope.names.lookup y=some .cell\/scope.names.lookup y=some .free:=hy
  rcases hy with hy | hy
  ·exact KR hy
  ·exact absurd rfl (S.nofree _ (PySem.mem_of_lookup hy))
 ·exact Nat.le_of_lt (x.above y c (PySem.mem_of_lookup h))
 ·have hi:i<vs.length:=by
   unfold start at h2
   by_cases hi:i<vs.length
   ·exact hi
   ·rw[List.getElem?_append_right (by simpa using hi)] at h2
    rw[List.getElem?_replicate] at h2
    split at h2<;>cases h2
  have ha:vs[i]? =some v:=by
   unfold start at h2
   rw[List.getElem?_append_left (by simpa using hi),List.getElem?_map] at h2
   cases e:vs[i]? with
   | none=>rw[e] at h2;cases h2
   | some a=>rw[e] at h2;cases h2;rfl
  obtain⟨u,hu,rv⟩:=r.get ha
  have hp:ps[i]? =some y:=by
   rw[<-S.pre,List.getElem?_take_of_lt (by omega)];exact h1
  have ndP:ps.Nodup:=by rw[<-S.pre];exact S.nd.sublist (List.take_sublist _ _)
  refine⟨u,rv, ?_⟩
  rcases S.par y (List.mem_of_getElem? hp) with k | k
  ·exact .inl ⟨k,Jg ndP hp hu k⟩
  ·obtain⟨c,e⟩:=KR (n:=s.heap.objs.size+1) k
   refine .inr ⟨.inl k,c,e, ?_⟩
   have q:=x.cell y c e
   rw[Jh ndP hp hu (by show scope.names.lookup y≠_;rw[k];decide)] at q
   exact q
 ·exact e0.hok.fresh (Nat.le_of_lt (x.above y c (PySem.mem_of_lookup h)))
 ·unfold start
  show _=N.length
  rw[List.length_append,List.length_map,List.length_replicate]
  omega
theorem ado {CX:CXT}{P:Program}{w:World}{K:PySem.W.Frag}{mg:Str->Option Value}{base:Heap}{k:Nat}{f:Addr}{name qual:Str}{params:Arguments}{body:List Stmt}{scope:Scope}{dV kV doc pm cdv ct oc:Value}{an od:Option Addr}
 {osl:Array (Option Value)}{N ps:List Str}{sp:Sp} (lk:K.lookup f=some ⟨oc,od, .func (PySem.W.fnOf name qual params body scope dV kV doc pm an cdv ct),osl⟩) (hcd:PySem.W.codeIn K cdv qual=true) (S:bR N ps scope)
 (len:∀vs H Q E,sp vs H Q E->vs.length=ps.length)
 (hbody:∀(A:Around) (outer:List Env) (s:Shared) (H:Hp) (vs:List V) (Q:VK) (E:XK),mJ k (A.deeper (envOfC qual scope s.heap.objs.size f cdv))->sp vs H Q E->
   ∃t,PSs (Ng CX P w K mg base N qual scope f cdv A outer s H E) body t/\t {nx:=fun _ H'=>Q .non H',rt:=Q} (start N vs) H):
 bh P w K mg base CX (k+1) f (PySem.W.fnOf name qual params body scope dV kV doc pm an cdv ct) ps sp:=by
 refine⟨len,fun A outer s H args us vs Q E hr e0 hb r hsp=> ?_⟩
 have hl:=len _ _ _ _ hsp
 have KX:K.In s.heap:=e0.mod.kin.keeps fun b o e=>(e0.bs b o e).1
 have lim:s.heap.NoLimit:=e0.mod.nolimit.keeps fun b o e=>(e0.bs b o e).1
 have hkind:∀y∈ps.zip us,scope.names.lookup y.1=some .local\/(scope.names.lookup y.1=some .cell/\((cellsFrom (s.heap.objs.size+1) scope.names []).lookup y.1).isSome=true):=fun⟨n,v⟩ hy=>by
  rcases S.par n (List.of_mem_zip hy).1 with q | q
  ·exact .inl q
  ·exact .inr ⟨q,PySem.W.cellsFrom_some _ _ _ (.inl q)⟩
 refine codeAny_call_function hr.depth (KX _ _ lk) rfl S.co S.gen rfl (PySem.W.codeRec_of KX hcd) (hb _ _ _ _ ?_)
 refine wpAny_newFunctionEnv_cells S.kind hkind fun env he s1 x=> ?_
 subst he
 refine⟨lim.keeps x.toInCall.keep,codeAny_func ?_⟩
 obtain⟨t,ht,hq⟩:=hbody A outer s H vs Q E (hr.deeper _) hsp
 have I:Inv (Ng CX P w K mg base N qual scope f cdv A outer s H E) [] (start N vs) H s1:=QX S hr.hd e0 hl r x
 refine wpAny_mono (ht [] s1 (start N vs) H _ I hq) (fun fl s' hs=> ?_) fun e s' hs=>hs
 have fin:∀{σ':St}{H':Hp}{v:V}{u:Value},Inv (Ng CX P w K mg base N qual scope f cdv A outer s H E) [] σ' H' s'->RelV v u->Q v H'->CE outer P w H s Q u s':=
  fun{σ' H' v u} J rv q=>⟨v,H',J.os,J.bare,J.base,J.hok,rv,q⟩
 cases fl with
 | ret u=>
   obtain⟨v,σ',H',J,rv,q⟩:=hs
   exact fin J rv q
 | next=>
   obtain⟨σ',H',J,q⟩:=hs
   exact fin (v:=V.non) (u:=Value.none) J rfl q
 | brk=>
   obtain⟨_,_,_,q⟩:=hs
   exact False.elim q
 | cont=>
   obtain⟨_,_,_,q⟩:=hs
   exact False.elim q
end L2
namespace L2
open PySem PySem.Spec PyProof.Rows
section
variable {X:Cx}{x:Str}{p pos:Pos}{e:Expr}{es:List Expr}{t:TA}{id T:String}{r:List V->Hp->VK->Prop}
def tCB (r:List V->Hp->VK->Prop) (t:TA):TE:=fun σ H Q=>t σ H fun vs H1=>r vs H1 Q
theorem R7 (hc:qL X (.builtin id) r) (hg:Gl X x) (hm:X.mg x=none) (hv:bootBuiltins x=some (.builtin id)) (ha:PA X (e::es) t) (hn:x≠"__name__":=by decide) (hdb:(x==("__debug__":Str))=false:=by decide)
 (he:starEach (e::es) X.env=(false,eval e X.env)::starEach es X.env:=by rfl) (hpl:(backTo pos (starEach es X.env)).any (·.1)=false:=by rfl):PE X (.Call (.Name x p) (e::es) [] pos) (tCB r t):=by
 intro pins s σ H Q I h
 refine wpAny_Call_Name_kw (zL I hg hm hv ?_ hn hdb)
 exact PyProof.Rows.callWith_builtin1 (thn (ha pos pins s σ H _ I h) fun us s1 ⟨vs,H1,I1,r1,q1⟩=>hc pins s1 σ H1 vs us Q I1 r1 q1) he hpl
theorem QZ (hc:qL X (.type T) r) (hg:Gl X x) (hm:X.mg x=none) (hv:bootBuiltins x=some (.type T)) (ha:PA X (e::es) t) (hn:x≠"__name__":=by decide) (hdb:(x==("__debug__":Str))=false:=by decide)
 (he:starEach (e::es) X.env=(false,eval e X.env)::starEach es X.env:=by rfl) (hpl:(backTo pos (starEach es X.env)).any (·.1)=false:=by rfl):PE X (.Call (.Name x p) (e::es) [] pos) (tCB r t):=by
 intro pins s σ H Q I h
 refine wpAny_Call_Name_kw (zL I hg hm hv ?_ hn hdb)
 exact PyProof.Rows.callWith_type1 (thn (ha pos pins s σ H _ I h) fun us s1 ⟨vs,H1,I1,r1,q1⟩=>hc pins s1 σ H1 vs us Q I1 r1 q1) he hpl
end
end L2
namespace HT
open PySem PyProof.Rows
section
open PySem.SeqAt
open PySem.AutoSeq1 (wpAny_loadPart')
open PySem.MeetsSeq PySem.MeetsSeq2 PySem.MeetsSeq3
end
section
variable {prog:Program}{w:World}{A:Around}{E:Value->Shared->Prop}{s:Shared}
def sIx (n d:Nat):Option Int->Nat
 | none=>d
 | some v=>if v<0 then(v+(n:Int)).toNat else min v.toNat n
end
end HT
namespace L2
open PySem PySem.Spec PyProof.Rows
abbrev TO:=St->Hp->(Option Int->Hp->Prop)->Prop
def PO (X:Cx) (e:Option Expr) (t:TO):Prop:=
 ∀(pins:List (Addr×Obj)) (s:Shared) (σ:St) (H:Hp) (Q:Option Int->Hp->Prop),Inv X pins σ H s->t σ H Q->
  wpAny (model X.prog X.w) X.A (evalPart e X.env) (fun u s'=>∃o H',Inv X pins σ H' s'/\IsPart u o/\Q o H') X.xe s
def O7:TO:=fun _ H Q=>Q none H
def Ys (t:TE):TO:=fun σ H Q=>t σ H fun x H1=>∃i,x= .int i/\Q (some i) H1
section
variable {X:Cx}{e:Expr}{te:TE}{lo hi:Option Expr}{tl th:TO}{pos p2:Pos}
theorem VG:PO X none O7:=by
 intro pins s σ H Q I h
 rw[evalPart_none]
 exact wpAny_pure ⟨none,H,I, .none,h⟩
theorem VH (h:PE X e te):PO X (some e) (Ys te):=by
 intro pins s σ H Q I hw
 rw[evalPart_some]
 refine thn (h pins s σ H _ I hw) fun u s1 ⟨x,H1,I1,r1,q1⟩=> ?_
 obtain⟨i,rfl,q⟩:=q1
 obtain⟨t,rfl⟩:=r1
 exact⟨some i,H1,I1, .int i t,q⟩
def SlR (X:Cx) (r:V->Option Int->Option Int->Hp->VK->Prop):Prop:=
 ∀(pins:List (Addr×Obj)) (s:Shared) (σ:St) (H:Hp) (x:V) (v vl vu:Value) (lo hi:Option Int) (sl:Addr) (Q:VK),Inv X pins σ H s->RelV x v->s.heap.IsSliceOf sl vl vu .none->IsPart vl lo->IsPart vu hi->r x lo hi H Q->
  ∃T id,typeLookup (.type T) "__getitem__"=pure (some (.builtin id))/\s.TypeIs v T/\wpAny (model X.prog X.w) X.A (getItem v (.ref sl)) (EP X pins σ Q) X.xe s
def tSl (r:V->Option Int->Option Int->Hp->VK->Prop) (te:TE) (tl th:TO):TE:=fun σ H Q=>te σ H fun x H1=>tl σ H1 fun l H2=>th σ H2 fun u H3=>r x l u H3 Q
theorem R8 {r:V->Option Int->Option Int->Hp->VK->Prop} (hr:SlR X r) (he:PE X e te) (hl:PO X lo tl) (hu:PO X hi th):PE X (.Subscript e (.Slice lo hi none p2) pos) (tSl r te tl th):=by
 intro pins s σ H Q I h
 refine Subscript_ (thn (he pins s σ H _ I h) fun v s1 ⟨x,H1,I1,r1,q1⟩=> ?_)
 refine wpAny_Slice (thn (hl pins s1 σ H1 _ I1 q1) fun vl s2 ⟨l,H2,I2,pl,q2⟩=>thn (hu pins s2 σ H2 _ I2 q2) fun vu s3 ⟨u,H3,I3,pu,q3⟩=> ?_)
 rw[evalPart_none]
 refine wpAny_pure ?_
 have I4:Inv X pins σ H3 {s3 with heap:=s3.heap.push {cls:= .type "slice",data:= .fields #[vl,vu, .none]}}:=I3.kept (t':=s3.toks) fun b ob q=>Heap.get?_push_of_some _ q
 obtain⟨T,id,hT,ht,hg⟩:=hr pins {s3 with heap:=s3.heap.push {cls:= .type "slice",data:= .fields #[vl,vu, .none]}} σ H3 x v vl vu l u s3.heap.objs.size Q I4 r1 (Heap.IsSliceOf.new ..) pl pu q3
 show wpAny (model X.prog X.w) X.A (subscriptTail e (.Slice lo hi none p2) v (.ref s3.heap.objs.size)) (EP X pins σ Q) X.xe {s3 with heap:=s3.heap.push {cls:= .type "slice",data:= .fields #[vl,vu, .none]}}
 exact tail_any (ops:=[.ref s3.heap.objs.size,v]) ht hT hg (by with_unfolding_all rfl)
def Q0 (xs:List V) (lo hi:Option Int):List V:=(xs.drop (HT.sIx xs.length 0 lo)).take (HT.sIx xs.length xs.length hi - HT.sIx xs.length 0 lo)
theorem KY (xs:List V) (lo hi:Option Int):(Q0 xs lo hi).length<=xs.length:=by
 unfold Q0
 rw[List.length_take,List.length_drop]
 omega
end
end L2
namespace L2
open PySem PySem.Spec PyProof.Rows
def ixN (n:Nat) (i:Int):Option Nat:=if 0<=i then(if i<n then some i.toNat else none) else if -(n:Int)<=i then some (i+n).toNat else none
def atI {α:Type} (xs:List α) (i:Int):Option α:=(ixN xs.length i).bind fun j=>xs[j]?
theorem VJ {n:Nat}{i:Int}{j:Nat} (h:ixN n i=some j):seqIndex? i n=some j/\j<n/\ -(n:Int)<=i/\i<n:=by
 unfold ixN at h
 by_cases h0:0<=i
 ·rw[if_pos h0] at h
  by_cases h1:i<n
  ·rw[if_pos h1] at h
   have e:i.toNat=j:=Option.some.inj h
   exact⟨by rw[seqIndex_of h0 h1,e],by omega,by omega,h1⟩
  ·rw[if_neg h1] at h;cases h
 ·rw[if_neg h0] at h
  by_cases h1: -(n:Int)<=i
  ·rw[if_pos h1] at h
   have e:(i+n).toNat=j:=Option.some.inj h
   exact⟨by rw[seqIndex_neg (by omega) h1,e],by omega,h1,by omega⟩
  ·rw[if_neg h1] at h;cases h
theorem JD {α:Type}{xs:List α}{i:Int}{v:α} (h:atI xs i=some v):∃j,seqIndex? i xs.length=some j/\xs[j]? =some v/\j<xs.length/\ -(xs.length:Int)<=i/\i<xs.length:=by
 unfold atI at h
 cases e:ixN xs.length i with
 | none=>rw[e] at h;cases h
 | some j=>
   rw[e] at h
   obtain⟨h1,h2,h3,h4⟩:=VJ e
   exact⟨j,h1,h,h2,h3,h4⟩
theorem jZ {α:Type}{xs:List α}{j:Nat}{v:α} (h:xs[j]? =some v):atI xs (j:Int)=some v:=by
 have hj:j<xs.length:=(List.getElem?_eq_some_iff.mp h).1
 have e:ixN xs.length (j:Int)=some j:=by
  unfold ixN
  rw[if_pos (by omega),if_pos (by omega)];simp
 unfold atI;rw[e];exact h
def O8 (b:Expr):Prop:=∀o i,subscripted b false o i=operate [o,i] (getItem o i)
def IxR (X:Cx) (r:R2):Prop:=
 ∀(value slice:Expr) (pins:List (Addr×Obj)) (s:Shared) (σ:St) (H:Hp) (x y:V) (v u:Value) (Q:VK),Inv X pins σ H s->RelV x v->RelV y u->r x y H Q->
  subscripted slice false v u=operate [v,u] (getItem v u)->wpAny (model X.prog X.w) X.A (subscriptTail value slice v u) (EP X pins σ Q) X.xe s
def MtR (X:Cx) (id:String) (r:V->List V->Hp->VK->Prop):Prop:=
 ∀(pins:List (Addr×Obj)) (s:Shared) (σ:St) (H:Hp) (x:V) (xs:List V) (v:Value) (us:List Value) (Q:VK),Inv X pins σ H s->RelV x v->Vals xs us->r x xs H Q->
  wpAny (model X.prog X.w) X.A (call (.builtin id) (v::us)) (EP X pins σ Q) X.xe s
section
variable {X:Cx}{a b:Expr}{ta tb:TE}{pos:Pos}
theorem adp {r:R2} (hr:IxR X r) (ha:PE X a ta) (hb:PE X b tb) (hs:O8 b):PE X (.Subscript a b pos) (tOp r ta tb):=by
 intro pins s σ H Q I h
 exact Subscript_ (aac ha hb I h fun v u s2 x y H2 I2 rx ry q=>hr a b pins s2 σ H2 x y v u Q I2 rx ry q (hs _ _))
def aat (K:PySem.W.Frag):R2:=fun x y H Q=>∃p xs i v,x= .ref p/\y= .int i/\SqL K H p xs/\atI xs i=some v/\Q v H
def aau (K:PySem.W.Frag):R2:=fun x y H Q=>∃p xs i v,x= .ref p/\y= .int i/\SqT K H p xs/\atI xs i=some v/\Q v H
def adq:R2:=fun x y H Q=>∃z i c,x= .str z/\y= .int i/\z.length<=sizeLine/\atI z.cps.toList i=some c/\Q (.str ⟨#[c]⟩) H
theorem VL:IxR X (aat X.K):=by
 intro value slice pins s σ H x y v u Q I rx ry h hs
 obtain⟨p,xs,i,z,rfl,rfl,hq,he,q⟩:=h
 cases rx
 obtain⟨t,rfl⟩:=ry
 obtain⟨its,r,pl,hz⟩:=I.list hq
 obtain⟨j,h1,h2,h3,h4,h5⟩:=JD he
 obtain⟨w,ew,rw'⟩:=r.get h2
 have hl:=r.length
 have hn:=Ge
 have fin:EP X pins σ Q w s:=⟨z,H,I,rw',q⟩
 by_cases h0:0<=i
 ·have hj:i.toNat=j:=by
   rw[seqIndex_of h0 h5] at h1
   exact Option.some.inj h1
  exact item_listR pl.isList h0 (by omega) (by rw[hj];simpa using ew) fin hs
 ·have hj:(i+(its.toArray.size:Int)).toNat=j:=by
   rw[seqIndex_neg (by omega) h4] at h1
   rw[List.size_toArray,<-hl]
   exact Option.some.inj h1
  exact subscriptTail_builtinR (x:=w) pl.isList.typeIs slot_list_getitem.lookup
   (wpAny_getItem_list_neg (Q:=fun r s'=>r=w/\EP X pins σ Q r s') pl.isList (by omega) (by rw[List.size_toArray]<;>omega) (by omega) (by rw[hj];simpa using ew) ⟨rfl,fin⟩) hs
theorem aav:IxR X (aau X.K):=by
 intro value slice pins s σ H x y v u Q I rx ry h hs
 obtain⟨p,xs,i,z,rfl,rfl,hq,he,q⟩:=h
 cases rx
 obtain⟨t,rfl⟩:=ry
 obtain⟨its,r,pl,hz⟩:=I.tuple hq
 obtain⟨j,h1,h2,h3,h4,h5⟩:=JD he
 obtain⟨w,ew,rw'⟩:=r.get h2
 have hl:=r.length
 have hn:=Ge
 have fin:EP X pins σ Q w s:=⟨z,H,I,rw',q⟩
 exact subscriptTail_builtinR (x:=w) pl.typeIs slot_tuple_getitem.lookup
  (getItem_tuple (j:=j) (Q:=fun r s'=>r=w/\EP X pins σ Q r s') pl (by omega) (by omega) (by rw[List.size_toArray,<-hl];exact h1) (by simpa using ew) ⟨rfl,fin⟩) hs
theorem aaw:IxR X adq:=by
 intro value slice pins s σ H x y v u Q I rx ry h hs
 obtain⟨z,i,c,rfl,rfl,hz,he,q⟩:=h
 obtain⟨t,rfl⟩:=rx
 obtain⟨t',rfl⟩:=ry
 obtain⟨j,h1,h2,h3,h4,h5⟩:=JD he
 have hl:z.cps.toList.length=z.length:=by simp[Str.length]
 rw[hl] at h1 h4 h5
 have hn:=Ge
 exact tail_any (typeIs_str s z t) slot_str_getitem.lookup (getItem_str (c:=c) (by
  have e1:decide (i< -(2 ^ 63:Int))=false:=decide_eq_false (by omega)
  have e2:decide (i >= 2 ^ 63)=false:=decide_eq_false (by omega)
  rw[e1,e2,Bool.or_false]) (by rw[h1];simpa using h2) ⟨.str ⟨#[c]⟩,H,I.tok _,⟨_,rfl⟩,q⟩) hs
theorem JF (lo hi:Option Int) (n:Nat):(sliceBounds lo hi none n).1=((HT.sIx n 0 lo:Nat):Int)/\(sliceBounds lo hi none n).2.1=((HT.sIx n n hi:Nat):Int)/\(sliceBounds lo hi none n).2.2=1:=by
 refine⟨?_, ?_,rfl⟩
 ·cases lo with
  | none=>simp[sliceBounds,HT.sIx]
  | some i=>
    simp only[sliceBounds,HT.sIx,Option.getD_none,show(1:Int)>0 by decide,if_true]
    by_cases h:i<0
    ·simp only[h,if_true]<;>omega
    ·simp only[h,if_false]<;>omega
 ·cases hi with
  | none=>simp[sliceBounds,HT.sIx]
  | some i=>
    simp only[sliceBounds,HT.sIx,Option.getD_none,show(1:Int)>0 by decide,if_true]
    by_cases h:i<0
    ·simp only[h,if_true]<;>omega
    ·simp only[h,if_false]<;>omega
theorem Ii (its:List Value) (lo hi:Option Int):slicePick its.toArray lo hi none=((its.drop (HT.sIx its.length 0 lo)).take (HT.sIx its.length its.length hi - HT.sIx its.length 0 lo)).toArray:=by
 obtain⟨h1,h2,h3⟩:=JF lo hi its.toArray.size
 unfold slicePick
 rw[h1,h2,h3]
 simp only[sliceRange_one,pick_run,List.size_toArray]<;>rfl
def adt (K:PySem.W.Frag):V->Option Int->Option Int->Hp->VK->Prop:=fun x lo hi H Q=>∃a xs,x= .ref a/\SqL K H a xs/\∀p,H p=none->Q (.ref p) (upd H p (.lst (Q0 xs lo hi)))
theorem VM:SlR X (adt X.K):=by
 intro pins s σ H x v vl vu lo hi sl Q I rx hs pl pu h
 obtain⟨a,xs,rfl,hx,q⟩:=h
 cases rx
 obtain⟨its,r,ht,hz⟩:=I.list hx
 have hlen:=r.length
 refine⟨"list",_,slot_list_getitem.lookup,ht.isList.typeIs, ?_⟩
 refine wpAny_getItem_list_slice ht.isList hs pl pu .none (by simp) ?_ (by rw[List.size_toArray]<;>omega)
 rw[Ii,<-hlen]
 refine⟨.ref s.heap.objs.size,_,I.laid (t':=s.toks) (o:= .lst (Q0 xs lo hi)) (fun b ob q=>Heap.get?_push_of_some _ q) (Nat.le_refl _) ?_,rfl,q _ (I.hok.fresh (Nat.le_refl _))⟩
 exact⟨Nat.le_trans (KY xs lo hi) hz,_,0,(r.drop (HT.sIx xs.length 0 lo)).take (HT.sIx xs.length xs.length hi - HT.sIx xs.length 0 lo),Heap.get?_push_size _ rfl⟩
def zu:V->Bool
 | .non=>true
 | .bl _=>true
 | .int _=>true
 | .str _=>true
 | _=>false
def eqV:V->V->Bool
 | .non, .non=>true
 | .bl a, .bl b=>a==b
 | .bl a, .int b=>(if a then 1 else 0)==b
 | .int a, .bl b=>a==(if b then 1 else 0)
 | .int a, .int b=>a==b
 | .str a, .str b=>a==b
 | _,_=>false
theorem aax {A:Around}{s:Shared}{y x:V}{u v:Value} (ry:RelV y u) (rx:RelV x v) (fy:zu y=true) (fx:zu x=true):SeqAt.EqAt A s u v (eqV y x):=by
 cases y with
 | non=>
   cases ry
   cases x with
   | non=>cases rx;exact SeqAt.EqAt.same _
   | bl b=>cases rx;exact SeqAt.EqAt.none_bool b
   | int b=>obtain⟨t,rfl⟩:=rx;exact SeqAt.EqAt.none_int b t
   | str b=>obtain⟨t,rfl⟩:=rx;exact SeqAt.EqAt.none_str b t
   | _=>exact absurd (show false=true from fx) Bool.false_ne_true
 | bl a=>
   cases ry
   cases x with
   | non=>cases rx;exact SeqAt.EqAt.bool_none a
   | bl b=>cases rx;exact SeqAt.EqAt.bool_bool a b
   | int b=>obtain⟨t,rfl⟩:=rx;exact SeqAt.EqAt.bool_int a b t
   | str b=>obtain⟨t,rfl⟩:=rx;exact SeqAt.EqAt.bool_str a b t
   | _=>exact absurd (show false=true from fx) Bool.false_ne_true
 | int a=>
   obtain⟨t',rfl⟩:=ry
   cases x with
   | non=>cases rx;exact SeqAt.EqAt.int_none a t'
   | bl b=>cases rx;exact SeqAt.EqAt.int_bool a t' b
   | int b=>obtain⟨t,rfl⟩:=rx;exact SeqAt.EqAt.int_int a t' b t
   | str b=>obtain⟨t,rfl⟩:=rx;exact SeqAt.EqAt.int_str a t' b t
   | _=>exact absurd (show false=true from fx) Bool.false_ne_true
 | str a=>
   obtain⟨t',rfl⟩:=ry
   cases x with
   | non=>cases rx;exact SeqAt.EqAt.str_none a t'
   | bl b=>cases rx;exact SeqAt.EqAt.str_bool a t' b
   | int b=>obtain⟨t,rfl⟩:=rx;exact SeqAt.EqAt.str_int a t' b t
   | str b=>obtain⟨t,rfl⟩:=rx;exact SeqAt.EqAt.str_str a t' b t
   | _=>exact absurd (show false=true from fx) Bool.false_ne_true
 | _=>exact absurd (show false=true from fy) Bool.false_ne_true
def eqU (x:V) (u:Value):Bool:=match u with
 | .none=>eqV .non x
 | .bool b=>eqV (.bl b) x
 | .int i _=>eqV (.int i) x
 | .str z _=>eqV (.str z) x
 | _=>false
theorem R9 {x y:V}{u:Value} (r:RelV y u) (f:zu y=true):eqU x u=eqV y x:=by
 cases y with
 | non=>cases r;rfl
 | bl b=>cases r;rfl
 | int i=>obtain⟨t,rfl⟩:=r;rfl
 | str z=>obtain⟨t,rfl⟩:=r;rfl
 | _=>exact absurd (show false=true from f) Bool.false_ne_true
theorem JG {x:V}:∀{xs:List V}{us:List Value},Vals xs us->xs.all zu=true->us.any (eqU x)=xs.any fun y=>eqV y x
 | _,_, .nil,_=>rfl
 | y::xs,u::us, .cons r t,f=>by
   rw[List.all_cons,Bool.and_eq_true] at f
   rw[List.any_cons,List.any_cons,R9 r f.1,JG t f.2]
theorem Gg {A:Around}{s:Shared}{x:V}{v:Value} (rx:RelV x v) (fx:zu x=true):∀{xs:List V}{us:List Value},Vals xs us->xs.all zu=true->∀u∈us,SeqAt.EqAt A s u v (eqU x u)
 | _,_, .nil,_=>fun u hu=>by cases hu
 | y::xs,u::us, .cons r t,f=>fun u' hu=>by
   rw[List.all_cons,Bool.and_eq_true] at f
   rcases List.mem_cons.mp hu with rfl | hu
   ·rw[R9 r f.1];exact aax r rx f.1 fx
   ·exact Gg rx fx t f.2 u' hu
def inV (x:V) (xs:List V):Bool:=xs.any fun y=>eqV y x
def rIn (K:PySem.W.Frag) (neg:Bool):R2:=fun x y H Q=>∃p xs,y= .ref p/\(SqL K H p xs\/SqT K H p xs)/\zu x=true/\xs.all zu=true/\Q (.bl (if neg then !inV x xs else inV x xs)) H
theorem Q3:OpR X (compareOp .In) (rIn X.K false):=by
 intro pins s σ H x y v u Q I rx ry h
 obtain⟨p,xs,rfl,hq,fx,fs,q⟩:=h
 cases ry
 rcases hq with hq | hq
 ·obtain⟨its,r,pl,hz⟩:=I.list hq
  refine SeqAt.in_listAt (eqU x) pl.isList (fun w hw=>Gg rx fx r fs w (by simpa using hw)) ⟨.bl _,H,I,rfl, ?_⟩
  rw[show its.toArray.any (eqU x)=its.any (eqU x) by simp,JG r fs]
  exact q
 ·obtain⟨its,r,pl,hz⟩:=I.tuple hq
  refine SeqAt.in_tupleAt (eqU x) pl (fun w hw=>Gg rx fx r fs w (by simpa using hw)) ⟨.bl _,H,I,rfl, ?_⟩
  rw[show its.toArray.any (eqU x)=its.any (eqU x) by simp,JG r fs]
  exact q
theorem JH:qL X (.builtin "len") (fun xs H Q=>∃p ys,xs=[.ref p]/\(SqL X.K H p ys\/SqT X.K H p ys)/\Q (.int ys.length) H):=by
 intro pins s σ H xs us Q I r h
 obtain⟨p,ys,rfl,hq,q⟩:=h
 obtain⟨u,rfl,rx⟩:=vals1 r
 cases rx
 have hn:=Ge
 rcases hq with hq | hq
 ·obtain⟨its,r',pl,hz⟩:=I.list hq
  have hlen:=r'.length
  exact Calls.call_len_list pl.isList (by simp only[List.size_toArray]<;>omega) ⟨.int ys.length,H,I.tok _,⟨s.toks+1,by rw[List.size_toArray,hlen]⟩,q⟩
 ·obtain⟨its,r',pl,hz⟩:=I.tuple hq
  have hlen:=r'.length
  exact len_tuple pl (by simp only[List.size_toArray]<;>omega) ⟨.int ys.length,H,I.tok _,⟨s.toks+1,by rw[List.size_toArray,hlen]⟩,q⟩
theorem JK:qL X (.type "list") (fun xs H Q=>∃p ys,xs=[.ref p]/\(SqL X.K H p ys\/SqT X.K H p ys)/\∀l,H l=none->Q (.ref l) (upd H l (.lst ys))):=by
 intro pins s σ H xs us Q I r h
 obtain⟨p,ys,rfl,hq,q⟩:=h
 obtain⟨u,rfl,rx⟩:=vals1 r
 cases rx
 have fin:∀(its:List Value),Vals ys its->ys.length<=sizeLine->∀(h':Heap) (c':Nat),(∀b o',s.heap.get? b=some o'->h'.get? b=some o')->
  h'.get? s.heap.objs.size=some {cls:= .type "list",dict:=none,data:= .seq its.toArray c',slots:= #[]}->EP X pins σ Q (.ref s.heap.objs.size) {s with heap:=h'}:=fun its r' hz h' c' kp e=>
  ⟨.ref s.heap.objs.size,_,I.laid (t':=s.toks) kp (Nat.le_refl _) (show fH X.prog X.w _ h' _ (.lst ys) from⟨hz,its,c',r',e⟩),rfl,q _ (I.hok.fresh (Nat.le_refl _))⟩
 rcases hq with hq | hq
 ·obtain⟨its,r',pl,hz⟩:=I.list hq
  have hlen:=r'.length
  obtain⟨o,ho,hc,n,hd⟩:=pl.isList
  exact call_list_seq p (.inl rfl) ho hc hd (fun h' c' kp e=>fin its r' hz h' c' kp e) (by simp only[List.size_toArray]<;>omega)
 ·obtain⟨its,r',pl,hz⟩:=I.tuple hq
  have hlen:=r'.length
  obtain⟨o,ho,hc,n,hd⟩:=pl
  exact call_list_seq p (.inr rfl) ho hc hd (fun h' c' kp e=>fin its r' hz h' c' kp e) (by simp only[List.size_toArray]<;>omega)
theorem Ij:qL X (.type "tuple") (fun xs H Q=>∃p ys,xs=[.ref p]/\((SqL X.K H p ys/\∀l,H l=none->Q (.ref l) (upd H l (.tup ys)))\/(SqT X.K H p ys/\Q (.ref p) H))):=by
 intro pins s σ H xs us Q I r h
 obtain⟨p,ys,rfl,h⟩:=h
 obtain⟨u,rfl,rx⟩:=vals1 r
 cases rx
 rcases h with⟨hq,q⟩ | ⟨hq,q⟩
 ·obtain⟨its,r',pl,hz⟩:=I.list hq
  have hlen:=r'.length
  refine call_tuple_list pl.isList (fun h' kp=> ?_) (by simp only[List.size_toArray]<;>omega)
  have I1:Inv X pins σ H {s with heap:=h'}:=I.kept (t':=s.toks) kp
  have I2:Inv X pins σ (upd H h'.objs.size (.tup ys)) {s with heap:=h'.push {cls:= .type "tuple",data:= .seq its.toArray}}:=
   I1.laid (t':=s.toks) (fun b o e=>Heap.get?_push_of_some _ e) (Nat.le_refl _) (show fH X.prog X.w _ _ _ (.tup ys) from⟨hz,its,r',IsTup.new _ _⟩)
  exact⟨.ref h'.objs.size,_,I2,rfl,q _ (I1.hok.fresh (Nat.le_refl _))⟩
 ·obtain⟨its,r',pl,hz⟩:=I.tuple hq
  exact call_tuple_same pl ⟨.ref p,H,I,rfl,q⟩
def tyV (K:PySem.W.Frag) (T:String) (x:V) (H:Hp):Prop:=match x with
 | .str _=>T="str"
 | .int _=>T="int"
 | .ref p=>(T="list"/\∃xs,SqL K H p xs)\/(T="tuple"/\∃o,K.lookup p=some o/\o.cls= .type "tuple"/\o.dict=none)\/
     (T="dict"/\((∃kvs,H p=some (.dK kvs))\/∃kvs,H p=some (.dT kvs)))\/(T="set"/\∃S n,H p=some (.set S n))
 | _=>False
theorem Sd {pins:List (Addr×Obj)}{σ:St}{H:Hp}{s:Shared}{T:String}{x:V}{v:Value} (I:Inv X pins σ H s) (r:RelV x v) (ty:tyV X.K T x H):
 s.TypeIs v T/\∀a,v= .ref a->∃ob,s.heap.get? a=some ob/\ob.dict=none:=by
 cases x with
 | str z=>
   obtain⟨t,rfl⟩:=r
   cases(show T="str" from ty)
   exact⟨typeIs_str s z t,fun _ e=>nomatch e⟩
 | int i=>
   obtain⟨t,rfl⟩:=r
   cases(show T="int" from ty)
   exact⟨typeIs_int s i t,fun _ e=>nomatch e⟩
 | ref p=>
   cases r
   rcases ty with⟨rfl,xs,hq⟩ | ⟨rfl,o,hk,hc,hd⟩ | ⟨rfl,hk⟩ | ⟨rfl,S,n,hk⟩
   ·obtain⟨its,_,pl,_⟩:=I.list hq
    refine⟨pl.isList.typeIs,fun a e=> ?_⟩
    cases e
    obtain⟨o,n,e,c,hd,_⟩:=pl
    exact⟨o,e,hd⟩
   ·refine⟨⟨o,I.kIn p o hk,hc⟩,fun a e=> ?_⟩
    cases e
    exact⟨o,I.kIn _ o hk,hd⟩
   ·have z:∃o,s.heap.get? p=some o/\o.ExactDict:=by
     rcases hk with⟨kvs,hk⟩ | ⟨kvs,hk⟩
     ·obtain⟨_,_,_,_,o,_,_,e,ex,_⟩:=I.hok p _ hk
      exact⟨o,e,ex⟩
     ·obtain⟨_,_,_,_,o,_,_,e,ex,_⟩:=I.hok p _ hk
      exact⟨o,e,ex⟩
    obtain⟨o,e,ex⟩:=z
    refine⟨⟨o,e,ex.1⟩,fun a e2=> ?_⟩
    cases e2
    exact⟨o,e,ex.2.1⟩
   ·obtain⟨o,_,_,_,e,ex,_⟩:=I.hok p _ hk
    refine⟨⟨o,e,ex.1⟩,fun a e2=> ?_⟩
    cases e2
    exact⟨o,e,ex.2.1⟩
 | _=>exact False.elim ty
def adu (K:PySem.W.Frag) (T:String) (r:V->List V->Hp->VK->Prop) (to:TE):TE:=fun σ H Q=>to σ H fun x H1=>tyV K T x H1/\r x [] H1 Q
def tBM (K:PySem.W.Frag) (T:String) (r:V->List V->Hp->VK->Prop) (to:TE) (t:TA):TE:=fun σ H Q=>to σ H fun x H1=>tyV K T x H1/\t σ H1 fun xs H2=>r x xs H2 Q
variable {o e:Expr}{es:List Expr}{to:TE}{t:TA}{name:Str}{apos cpos:Pos}{T id:String}{r:V->List V->Hp->VK->Prop}
theorem aay (pa:PlainAttrs T) (slot:Slot T name id) (hty:typeOf (.builtin id)=pure (.type "method_descriptor")) (hm:MtR X id r) (ho:PE X o to)
 (hbase:attributeBase o name X.env (eval o X.env)=eval o X.env:=by rfl) (hline:(apos.endLine==cpos.line)=true:=by rfl):PE X (.Call (.Attribute o name apos) [] [] cpos) (adu X.K T r to):=by
 intro pins s σ H Q I h
 refine wpAny_Call_method0_late hbase hline (thn (ho pins s σ H _ I h) fun v s1 ⟨x,H1,I1,r1,ty,q1⟩=> ?_)
 obtain⟨h1,h2⟩:=Sd I1 r1 ty
 exact⟨T,id,pa,slot,hty,h1,h2,Calls.callWith_builtin rfl (PySem.evalArgs_none (hm pins s1 σ H1 x [] v [] Q I1 r1 .nil q1))⟩
theorem adv (pa:PlainAttrs T) (slot:Slot T name id) (hty:typeOf (.builtin id)=pure (.type "method_descriptor")) (hm:MtR X id r) (ho:PE X o to) (ha:PA X (e::es) t)
 (hbase:attributeBase o name X.env (eval o X.env)=eval o X.env:=by rfl)
 (hfew:((backTo cpos (starEach (e::es) X.env)).all (fun x=> !x.1)&&(backToKw cpos (keywordEach [] X.env)).all (fun x=>x.1.isSome)
   &&decide ((e::es).length+([]:List Keyword).length+(if([]:List Keyword).isEmpty then 0 else 1)<30))=true:=by rfl)
 (hline:(apos.endLine==cpos.line)=true:=by rfl) (hs:starEach (e::es) X.env=(false,eval e X.env)::starEach es X.env:=by rfl) (hplain:(backTo cpos (starEach es X.env)).any (·.1)=false:=by rfl):
 PE X (.Call (.Attribute o name apos) (e::es) [] cpos) (tBM X.K T r to t):=by
 intro pins s σ H Q I h
 refine wpAny_Call_method_late hbase hfew hline rfl (thn (ho pins s σ H _ I h) fun v s1 ⟨x,H1,I1,r1,ty,q1⟩=> ?_)
 obtain⟨h1,h2⟩:=Sd I1 r1 ty
 refine⟨T,id,pa,slot,hty,h1,h2, ?_⟩
 have hA:=ha cpos pins s1 σ H1 _ I1 q1
 rw[hs] at hA ⊢
 refine Calls.callWith_builtin (by show(false||(backTo cpos (starEach es X.env)).any (·.1))=false;rw[hplain]<;>rfl) (Calls.evalArgs_plain ?_)
 exact thn hA fun us s2 ⟨vs,H2,I2,r2,q2⟩=>hm pins s2 σ H2 x vs v us Q I2 r1 r2 q2
/- xs.append(e),list.index on a module's tuple .. are MtR facts of 06m -/
end
end L2
namespace L2
open PySem PySem.Spec PyProof.Rows
def MtM (X:Cx) (id:String) (r:V->List V->Hp->VK->Prop):Prop:=
 ∀(pins:List (Addr×Obj)) (s:Shared) (σ:St) (H:Hp) (x:V) (xs:List V) (v:Value) (us:List Value) (Q:VK),Inv X pins σ H s->RelV x v->Vals xs us->r x xs H Q->
  wpAny (model X.prog X.w) X.A (call (.builtin id) (v::us)) (EP X pins σ Q) X.xe s
theorem Vals.one:∀{x:V}{us:List Value},Vals [x] us->∃u,us=[u]/\RelV x u
 | _,_, .cons r .nil=>⟨_,rfl,r⟩
theorem Vals.two:∀{x y:V}{us:List Value},Vals [x,y] us->∃u v,us=[u,v]/\RelV x u/\RelV y v
 | _,_,_, .cons r (.cons q .nil)=>⟨_,_,rfl,r,q⟩
theorem Vals.zero:∀{us:List Value},Vals [] us->us=[]
 | _, .nil=>rfl
theorem Vals.dropLast {xs:List V}{us:List Value} (h:Vals xs us):Vals xs.dropLast us.dropLast:=by
 induction h with
 | nil=>exact .nil
 | cons r t ih=>
   cases t with
   | nil=>exact .nil
   | cons q t'=>exact .cons r ih
theorem Nh {α:Type} (l:List α):l.eraseIdx (l.length - 1)=l.dropLast:=by
 induction l with
 | nil=>rfl
 | cons a r ih=>
   cases r with
   | nil=>rfl
   | cons b r=>
     have e:(a::b::r).length - 1=((b::r).length - 1)+1:=by
      have h1:(a::b::r).length=r.length+2:=rfl
      have h2:(b::r).length=r.length+1:=rfl
      omega
     rw[e,List.eraseIdx_cons_succ,ih]
     all_goals rfl
section
variable {X:Cx}{pins:List (Addr×Obj)}{σ:St}{H:Hp}{s:Shared}{l b:Addr}{xs ys zs:List V}
theorem Inv.lset {its its':List Value}{n:Nat}{f:Array Value->Array Value}{t':Nat} (I:Inv X pins σ H s) (hH:H l=some (.lst xs))
 (e:s.heap.get? l=some {cls:= .type "list",data:= .seq its.toArray n}) (hf:f its.toArray=its'.toArray) (hv:Vals ys its') (hz:ys.length<=sizeLine):
 Inv X pins σ (upd H l (.lst ys)) {s with heap:=s.heap.update l (Obj.mapSeq f),toks:=t'}:=by
 have q:=PySem.IsL.update e f
 rw[hf] at q
 refine I.write (x:=l) (e:=l) (by rw[hH];exact trivial) (.inl rfl) (fun b' u hb hu=>(Heap.get?_update_other s.heap (Obj.mapSeq f) (Ne.symm hb)).trans hu) ⟨_,q⟩ ?_
 exact⟨hz,its',_,hv,q⟩
theorem Inv.lnew {its:List Value}{t':Nat} (I:Inv X pins σ H s) (hv:Vals ys its) (hz:ys.length<=sizeLine):
 Inv X pins σ (upd H s.heap.objs.size (.lst ys)) {s with heap:=s.heap.push {cls:= .type "list",data:= .seq its.toArray},toks:=t'}:=
 I.laid (fun _ _ q=>Heap.get?_push_of_some _ q) (Nat.le_refl _) ⟨hz,its,0,hv,Heap.get?_push_size _ rfl⟩
theorem Inv.fresh (I:Inv X pins σ H s):H s.heap.objs.size=none:=I.hok.fresh (Nat.le_refl _)
theorem Inv.Q4 (I:Inv X pins σ H s) (hH:H l=some (.lst xs)):xs.length<=sizeLine/\∃(its:List Value) (n:Nat),Vals xs its/\xs.length=its.length/\s.heap.get? l=some {cls:= .type "list",data:= .seq its.toArray n}:=by
 obtain⟨z,its,n,r,e⟩:=I.hok l _ hH
 exact⟨z,its,n,r,r.length,e⟩
theorem Sg {n:Nat} (h:n<=sizeLine):Builtin.List.listTooLong n=false:=by
 unfold Builtin.List.listTooLong
 exact decide_eq_false (by omega)
end
section
variable {X:Cx}
def O9:V->List V->Hp->VK->Prop:=fun x vs H Q=>∃l xs y,x= .ref l/\vs=[y]/\H l=some (.lst xs)/\xs.length<sizeLine/\Q .non (upd H l (.lst (xs++[y])))
theorem Ji:MtM X "list.append" O9:=by
 intro pins s σ H x vs v us Q I rx rv h
 obtain⟨l,xs,y,rfl,rfl,hH,hz,q⟩:=h
 cases rx
 obtain⟨u,rfl,ru⟩:=rv.one
 obtain⟨z,its,n,r,hl,e⟩:=I.Q4 hH
 refine call_meets F.slot_list_append ⟨_,e,rfl⟩ F.entry_list_append (F.args_list_append_2 _ _) (PySem.list_append l its.toArray n u (by rw[List.size_toArray];omega)) ⟨e, ?_⟩
 refine⟨.non,_,I.lset (its':=its++[u]) hH e (by simp) (r.append (.cons ru .nil)) ?_,rfl,q⟩
 rw[List.length_append,List.length_singleton]
 omega
def Pa:V->List V->Hp->VK->Prop:=fun x vs H Q=>∃l b xs zs,x= .ref l/\vs=[.ref b]/\H l=some (.lst xs)/\H b=some (.lst zs)/\xs.length+zs.length<=sizeLine/\Q .non (upd H l (.lst (xs++zs)))
theorem Q5:MtM X "list.extend" Pa:=by
 intro pins s σ H x vs v us Q I rx rv h
 obtain⟨l,b,xs,zs,rfl,rfl,hH,hB,hz,q⟩:=h
 cases rx
 obtain⟨u,rfl,ru⟩:=rv.one
 cases ru
 obtain⟨z,its,n,r,hl,e⟩:=I.Q4 hH
 obtain⟨z2,its2,n2,r2,hl2,e2⟩:=I.Q4 hB
 have hsz:its.toArray.size+its2.toArray.size<=sizeLine:=by rw[List.size_toArray,List.size_toArray];omega
 have hlong:¬(!its.toArray.isEmpty&&Builtin.List.listTooLong (its.toArray.size+its2.toArray.size))=true:=by
  rw[Sg hsz,Bool.and_false]
  exact Bool.false_ne_true
 refine call_meets F.slot_list_extend ⟨_,e,rfl⟩ F.entry_list_extend (F.args_list_extend_2 _ _)
  (AutoSeq1.list_extend_list_list_0 l its.toArray n b its2.toArray n2 hlong (by rw[List.size_toArray];omega) (by omega)) ⟨e,e2, ?_⟩
 refine⟨.non,_,I.lset (its':=its++its2) hH e (by simp) (r.append r2) ?_,rfl,q⟩
 rw[List.length_append]
 omega
def adw:V->List V->Hp->VK->Prop:=fun x vs H Q=>∃l xs y,x= .ref l/\vs=[]/\H l=some (.lst xs)/\xs[xs.length - 1]? =some y/\Q y (upd H l (.lst xs.dropLast))
theorem aaz:MtM X "list.pop" adw:=by
 intro pins s σ H x vs v us Q I rx rv h
 obtain⟨l,xs,y,rfl,rfl,hH,hy,q⟩:=h
 cases rx
 have hus:=rv.zero
 subst hus
 obtain⟨z,its,n,r,hl,e⟩:=I.Q4 hH
 obtain⟨u,hu,ru⟩:=r.get hy
 have hy':its.toArray[its.toArray.size - 1]? =some u:=by
  show its.toArray[its.length - 1]? =some u
  rw[<-Array.getElem?_toList,<-hl]
  exact hu
 refine call_meets F.slot_list_pop ⟨_,e,rfl⟩ F.entry_list_pop (F.args_list_pop_1 _) (MeetsSeq.list_pop_last l its.toArray n u hy' (by rw[List.size_toArray];omega)) ⟨e, ?_⟩
 refine⟨y,_,I.lset (its':=its.dropLast) hH e ?_ r.dropLast ?_,ru,q⟩
 ·show its.toArray.eraseIdxIfInBounds (its.toArray.size - 1)=its.dropLast.toArray
  rw[List.size_toArray,List.eraseIdxIfInBounds_toArray,Nh]
 ·rw[List.length_dropLast]
  omega
def adx:R2:=fun x y H Q=>∃l b xs zs,x= .ref l/\y= .ref b/\H l=some (.lst xs)/\H b=some (.lst zs)/\xs.length+zs.length<=sizeLine/\∀p,H p=none->Q (.ref p) (upd H p (.lst (xs++zs)))
theorem aaA:OpR X (binaryOp .Add) adx:=by
 intro pins s σ H x y v u Q I rx ry h
 obtain⟨l,b,xs,zs,rfl,rfl,hH,hB,hz,q⟩:=h
 cases rx
 cases ry
 obtain⟨z,its,n,r,hl,e⟩:=I.Q4 hH
 obtain⟨z2,its2,n2,r2,hl2,e2⟩:=I.Q4 hB
 refine PySem.P.add_list e e2 ?_ (by rw[List.size_toArray,List.size_toArray];omega)
 have ea:its.toArray++its2.toArray=(its++its2).toArray:=by simp
 rw[ea]
 exact⟨.ref _,_,I.lnew (t':=s.toks) (r.append r2) (by rw[List.length_append];omega),rfl,q _ I.fresh⟩
theorem len_rep {α:Type} (xs:List α) (k:Nat):(List.replicate k xs).flatten.length=k * xs.length:=by
 induction k with
 | zero=>simp
 | succ k ih=>rw[List.replicate_succ,List.flatten_cons,List.length_append,ih,Nat.succ_mul,Nat.add_comm]
end
section
variable {prog:Program}{w:World}{A:Around}{E:Value->Shared->Prop}{s:Shared}
end
section
variable {X:Cx}
end
end L2
namespace L2
open PySem PySem.Spec PyProof.Rows
section
variable {κ:Type} [DecidableEq κ]
def cO (kvs:List (κ×V)) (k:κ):Option V:=(kvs.find? fun kv=>decide (kv.1=k)).map (·.2)
def putK (kvs:List (κ×V)) (k:κ) (v:V):List (κ×V):=
 if(kvs.any fun kv=>decide (kv.1=k))=true then kvs.map (fun kv=>if kv.1=k then(kv.1,v) else kv) else kvs++[(k,v)]
theorem uf {k:κ}:cO ([]:List (κ×V)) k=none:=rfl
theorem jF {p:κ×V}{r:List (κ×V)}{k:κ} (e:p.1=k):cO (p::r) k=some p.2:=by simp[cO,List.find?_cons,e]
theorem jG {p:κ×V}{r:List (κ×V)}{k:κ} (e:¬p.1=k):cO (p::r) k=cO r k:=by simp[cO,List.find?_cons,e]
theorem ug (k:κ):∀kvs:List (κ×V),(kvs.any fun kv=>decide (kv.1=k))=(cO kvs k).isSome
 |[]=>rfl
 | p::r=>by
   rw[List.any_cons]
   by_cases e:p.1=k
   ·simp only[jF e,decide_eq_true e,Bool.true_or,Option.isSome_some]
   ·rw[jG e,decide_eq_false e,Bool.false_or];exact ug k r
theorem KZ (k j:κ) (y:V):∀kvs:List (κ×V),cO (kvs.map fun kv=>if kv.1=k then(kv.1,y) else kv) j=(cO kvs j).map fun x=>if j=k then y else x
 |[]=>rfl
 | p::r=>by
   have ih:=KZ k j y r
   rw[List.map_cons]
   by_cases h:p.1=k
   ·rw[if_pos h]
    by_cases e:p.1=j
    ·rw[jF (p:=(p.1,y)) e,jF e,Option.map_some,if_pos (e.symm.trans h)]
    ·rw[jG (p:=(p.1,y)) e,jG e,ih]
   ·rw[if_neg h]
    by_cases e:p.1=j
    ·rw[jF (p:=p) e,jF e,Option.map_some,if_neg (fun z=>h (e.trans z))]
    ·rw[jG (p:=p) e,jG e,ih]
theorem Jj (k j:κ) (y:V):∀kvs:List (κ×V),cO kvs k=none->cO (kvs++[(k,y)]) j=if j=k then some y else cO kvs j
 |[],_=>by
  by_cases e:k=j
  ·rw[if_pos e.symm];exact jF (p:=(k,y)) e
  ·rw[if_neg (fun z=>e z.symm)];exact jG (p:=(k,y)) e
 | p::r,hn=>by
   rw[List.cons_append]
   have hk:¬p.1=k:=fun z=>by rw[jF z] at hn;cases hn
   rw[jG hk] at hn
   have ih:=Jj k j y r hn
   by_cases e:p.1=j
   ·rw[jF e,jF e,if_neg (fun z=>hk (e.trans z))]
   ·rw[jG e,jG e,ih]
theorem jo (kvs:List (κ×V)) (k j:κ) (y:V):cO (putK kvs k y) j=if j=k then some y else cO kvs j:=by
 unfold putK
 by_cases a:(kvs.any fun kv=>decide (kv.1=k))=true
 ·rw[if_pos a,KZ]
  rw[ug] at a
  by_cases e:j=k
  ·obtain⟨x,hx⟩:=Option.isSome_iff_exists.mp a
   rw[if_pos e,e,hx,Option.map_some,if_pos rfl]
  ·rw[if_neg e]
   cases cO kvs j with
   | none=>rfl
   | some x=>rw[Option.map_some,if_neg e]
 ·rw[if_neg a]
  refine Jj k j y kvs ?_
  rw[ug] at a
  cases q:cO kvs k with
  | none=>rfl
  | some x=>rw[q] at a;exact(a rfl).elim
theorem wC (kvs:List (κ×V)) (k:κ) (v:V):(putK kvs k v).length<=kvs.length+1:=by
 unfold putK
 split
 ·rw[List.length_map];omega
 ·rw[List.length_append,List.length_cons,List.length_nil];omega
theorem yG.uh {o:Option V}{u:Option Value} (r:yG o u):o.isSome=u.isSome:=by
 cases o with
 | none=>cases u with
   | none=>rfl
   | some _=>exact(show False from r).elim
 | some _=>cases u with
   | none=>exact(show False from r).elim
   | some _=>rfl
theorem KV.val {kvs:List (κ×V)}{vs:List (κ×Value)} (r:KV kvs vs) (k:κ):yG (cO kvs k) (valueAt vs k):=by
 unfold KV at r
 induction r with
 | nil=>exact True.intro
 | @cons p q ps qs h t ih=>
   obtain⟨h1,h2⟩:=h
   by_cases e:p.1=k
   ·have e':q.1=k:=h1.symm.trans e
    have b:valueAt (q::qs) k=some q.2:=by simp[valueAt,List.find?_cons,e']
    rw[jF e,b];exact h2
   ·have e':¬q.1=k:=fun z=>e (h1.trans z)
    have b:valueAt (q::qs) k=valueAt qs k:=by simp[valueAt,List.find?_cons,e']
    rw[jG e,b];exact ih
theorem KV.any {kvs:List (κ×V)}{vs:List (κ×Value)} (r:KV kvs vs) (k:κ):(kvs.any fun kv=>decide (kv.1=k))=vs.any fun kv=>decide (kv.1=k):=by
 unfold KV at r
 induction r with
 | nil=>rfl
 | cons h t ih=>rw[List.any_cons,List.any_cons,ih,h.1]
theorem KV.repl {kvs:List (κ×V)}{vs:List (κ×Value)} (r:KV kvs vs) (k:κ) {y:V}{u:Value} (ry:RelV y u):
 KV (kvs.map fun kv=>if kv.1=k then(kv.1,y) else kv) (vs.map fun kv=>if kv.1=k then(kv.1,u) else kv):=by
 unfold KV at r ⊢
 induction r with
 | nil=>exact .nil
 | @cons p q ps qs h t ih=>
   rw[List.map_cons,List.map_cons]
   refine .cons ?_ ih
   obtain⟨h1,h2⟩:=h
   by_cases e:p.1=k
   ·rw[if_pos e,if_pos (h1.symm.trans e)];exact⟨h1,ry⟩
   ·rw[if_neg e,if_neg (fun z=>e (h1.trans z))];exact⟨h1,h2⟩
theorem KV.put {kvs:List (κ×V)}{vs:List (κ×Value)} (r:KV kvs vs) (k:κ) {y:V}{u:Value} (ry:RelV y u):KV (putK kvs k y) (stored vs k u):=by
 unfold putK stored
 rw[r.any k]
 by_cases e:(vs.any fun kv=>decide (kv.1=k))=true
 ·rw[if_pos e,if_pos e];exact r.repl k ry
 ·rw[if_neg e,if_neg e];exact Paired.snoc r ⟨rfl,ry⟩
theorem KV.length {kvs:List (κ×V)}{vs:List (κ×Value)} (r:KV kvs vs):kvs.length=vs.length:=Paired.length r
end
theorem Jk {P:Program}{w:World}{k:Key}{u:Value} (r:RelV (kV k) u):(dH P w).is k u=true:=by
 cases k with
 | inl i=>obtain⟨t,e⟩:=(show∃t,u=Value.int i t from r);subst e;exact KC P w i t
 | inr x=>obtain⟨t,e⟩:=(show∃t,u=Value.str x t from r);subst e;exact KD P w x t
theorem Jl {P:Program}{w:World}:∀{ks:List Key}{us:List Value},Vals (ks.map kV) us->ItemsAre (dH P w) ks us
 |[],_,r=>by rw[List.map_nil] at r;cases r;exact .nil
 | k::ks,_,r=>by
   rw[List.map_cons] at r
   cases r with
   | cons h t=>exact .cons (Jk h) (Jl t)
abbrev KT (H:Hp):List (List Key×V)->List (List Key×Addr×Value)->Prop:=Paired fun p q=>p.1=q.1/\H q.2.1=some (.tup (p.1.map kV))/\RelV p.2 q.2.2
theorem KT.val {H:Hp}{kvs:List (List Key×V)}{xs:List (List Key×Addr×Value)} (r:KT H kvs xs) (k:List Key):yG (cO kvs k) ((atKey xs k).map (·.2)):=by
 induction r with
 | nil=>exact True.intro
 | @cons p q ps qs h t ih=>
   obtain⟨h1,_,h2⟩:=h
   by_cases e:p.1=k
   ·have e':q.1=k:=h1.symm.trans e
    have b:atKey (q::qs) k=some q.2:=by simp[atKey,List.find?_cons,e']
    rw[jF e,b];exact h2
   ·have e':¬q.1=k:=fun z=>e (h1.trans z)
    have b:atKey (q::qs) k=atKey qs k:=by simp[atKey,List.find?_cons,e']
    rw[jG e,b];exact ih
theorem KT.repl {H:Hp}{kvs:List (List Key×V)}{xs:List (List Key×Addr×Value)} (r:KT H kvs xs) (k:List Key) {y:V}{u:Value} (ry:RelV y u):
 KT H (kvs.map fun kv=>if kv.1=k then(kv.1,y) else kv) (xs.map (putAt k u)):=by
 induction r with
 | nil=>exact .nil
 | @cons p q ps qs h t ih=>
   rw[List.map_cons,List.map_cons]
   refine .cons ?_ ih
   obtain⟨h1,h2,h3⟩:=h
   unfold putAt
   by_cases e:p.1=k
   ·rw[if_pos e,if_pos (h1.symm.trans e)];exact⟨h1,h2,ry⟩
   ·rw[if_neg e,if_neg (fun z=>e (h1.trans z))];exact⟨h1,h2,h3⟩
theorem KT.put {H:Hp}{kvs:List (List Key×V)}{xs:List (List Key×Addr×Value)} (r:KT H kvs xs) (k:List Key) {b:Addr}{y:V}{u:Value} (hb:H b=some (.tup (k.map kV))) (ry:RelV y u):
 KT H (putK kvs k y) (storedH xs k b u):=by
 have e:(kvs.any fun kv=>decide (kv.1=k))=(atKey xs k).isSome:=by
  rw[ug,(r.val k).uh,Option.isSome_map]
 unfold putK storedH
 rw[e]
 by_cases q:(atKey xs k).isSome=true
 ·rw[if_pos q,if_pos q];exact r.repl k ry
 ·rw[if_neg q,if_neg q];exact Paired.snoc r ⟨rfl,hb,ry⟩
theorem KT.keeps {H H':Hp}{kvs:List (List Key×V)}{xs:List (List Key×Addr×Value)} (r:KT H kvs xs) (ht:∀b ys,H b=some (.tup ys)->H' b=some (.tup ys)):KT H' kvs xs:=
 Paired.ZP r fun _ _ z=>⟨z.1,ht _ _ z.2.1,z.2.2⟩
section
variable {P:Program}{w:World}{H:Hp}{h:Heap}{a:Addr}
theorem Yt {u:HO} (ok:HOk P w H h) (e:Rd H a u):fH P w H h a u:=e.ok ok
theorem Bu {kvs:List (Key×V)} (ok:HOk P w H h) (e:Rd H a (.dK kvs)):kvs.length<=sizeLine/\(a==sysModules)=false/\∃vs,KV kvs vs/\h.DictOf (dH P w) a vs:=
 show fH P w H h a (.dK kvs) from Yt ok e
theorem K1 {kvs:List (Key×V)} (ok:HOk P w H h) (e:H a=some (.dK kvs)):kvs.length<=sizeLine/\(a==sysModules)=false/\∃vs,KV kvs vs/\h.DictOf (dH P w) a vs:=Bu ok (.inl e)
theorem Gh {ks:List Key} (ok:HOk P w H h) (e:H a=some (.tup (ks.map kV))):(tupleKind (dH P w)).is h ks a:=by
 obtain⟨_,its,r,o,h1,h2,n,h3⟩:=(show fH P w H h a (.tup (ks.map kV)) from ok a _ e)
 exact⟨o,its.toArray,n,h1,h2,h3,by simpa using Jl r⟩
theorem Jm {kvs:List (List Key×V)} (ok:HOk P w H h) (e:Rd H a (.dT kvs)):kvs.length<=sizeLine/\(a==sysModules)=false/\
 ∃xs,KT H kvs xs/\h.DictOfH (tupleKind (dH P w)) a xs:=by
 obtain⟨z,y,xs,r,o,es,ep,h1,h2,h3,h4,h5⟩:=(show fH P w H h a (.dT kvs) from Yt ok e)
 refine⟨z,y,xs,r,o,es,ep,h1,h2,h3,h4,fun x hx=> ?_,h5⟩
 have all:∀{l:List (List Key×V)}{m:List (List Key×Addr×Value)},KT H l m->∀x∈m,(tupleKind (dH P w)).is h x.1 x.2.1:=by
  intro l m q
  induction q with
  | nil=>intro x hx;exact nomatch hx
  | @cons p q ps qs hq t ih=>
    intro x hx
    rcases List.mem_cons.mp hx with e | hx
    ·subst e
     exact Gh ok (by rw[<-hq.1];exact hq.2.1)
    ·exact ih x hx
 exact all r x hx
theorem ady {kvs:List (List Key×V)} (ok:HOk P w H h) (e:H a=some (.dT kvs)):kvs.length<=sizeLine/\(a==sysModules)=false/\
 ∃xs,KT H kvs xs/\h.DictOfH (tupleKind (dH P w)) a xs:=Jm ok (.inl e)
end
def bM (H:Hp) (a:Addr) (y:V) (r:Option V):Prop:=
 (∃kvs k,Rd H a (.dK kvs)/\y=kV k/\r=cO kvs k)\/∃kvs k b,Rd H a (.dT kvs)/\y= .ref b/\H b=some (.tup (k.map kV))/\r=cO kvs k
def jD (H:Hp) (a:Addr) (y v:V) (H':Hp):Prop:=
 (∃kvs k,H a=some (.dK kvs)/\y=kV k/\kvs.length<sizeLine/\H'=upd H a (.dK (putK kvs k v)))\/
 ∃kvs k b,H a=some (.dT kvs)/\y= .ref b/\H b=some (.tup (k.map kV))/\kvs.length<sizeLine/\H'=upd H a (.dT (putK kvs k v))
theorem bM.k {H:Hp}{a:Addr}{kvs:List (Key×V)}{k:Key} (e:H a=some (.dK kvs)):bM H a (kV k) (cO kvs k):= .inl ⟨kvs,k, .inl e,rfl,rfl⟩
theorem jD.k {H:Hp}{a:Addr}{kvs:List (Key×V)}{k:Key}{v:V} (e:H a=some (.dK kvs)) (hl:kvs.length<sizeLine):jD H a (kV k) v (upd H a (.dK (putK kvs k v))):= .inl ⟨kvs,k,e,rfl,hl,rfl⟩
section
variable {X:Cx}{pins:List (Addr×Obj)}{σ:St}{H:Hp}{s:Shared}{a:Addr}{y v:V}{u r:Value}{o:Option V}{A:Around}{E:Value->Shared->Prop}
theorem Inv.big (I:Inv X pins σ H s):sysModules<s.heap.objs.size:=by
 have h:mainGlobals<s.heap.objs.size:=(I.mod.glob.keeps I.bk).lt
 exact Nat.lt_trans (by decide) h
theorem Q6 {Q:Value->Shared->Prop} (hu:A.units+1<cLine) (I:Inv X pins σ H s) (g:bM H a y (some v)) (ry:RelV y u) (h:∀w' s',Inv X pins σ H s'->RelV v w'->Q w' s'):
 wpAny (model X.prog X.w) A (getItem (.ref a) u) Q E s:=by
 rcases g with⟨kvs,k,e,ey,l⟩ | ⟨kvs,k,b,e,ey,eb,l⟩
 ·subst ey
  obtain⟨z,hd,vs,rel,dd⟩:=Bu I.hok e
  obtain⟨w',hw,rw'⟩:=yG.some_of (v:=v) (o:=valueAt vs k) (by rw[l];exact rel.val k)
  exact wpAny_getItem_of (Jk ry) dd.mapOf hw (h w' _ (I.tok _) rw')
 ·subst ey
  cases(show u=Value.ref b from ry)
  obtain⟨z,hd,xs,rel,dd⟩:=Jm I.hok e
  obtain⟨w',hw,rw'⟩:=yG.some_of (v:=v) (o:=(atKey xs k).map (·.2)) (by rw[l];exact rel.val k)
  obtain⟨p,hp,hp2⟩:=Option.map_eq_some_iff.mp hw
  refine wpAny_getItem_heap (tupleKind_room_in1 hu) (Gh I.hok eb) dd hp ?_
  rw[hp2]
  exact h w' _ (I.tok _) rw'
theorem adz {Q:Value->Shared->Prop} (hu:A.units+1<cLine) (I:Inv X pins σ H s) (g:bM H a y o) (ry:RelV y u) (h:∀s',Inv X pins σ H s'->Q (.bool o.isSome) s'):
 wpAny (model X.prog X.w) A (compareOp .In u (.ref a)) Q E s:=by
 rcases g with⟨kvs,k,e,ey,l⟩ | ⟨kvs,k,b,e,ey,eb,l⟩
 ·subst ey
  obtain⟨z,hd,vs,rel,dd⟩:=Bu I.hok e
  refine wpAny_in_of (Jk ry) hd dd.mapOf ?_
  rw[<-(rel.val k).uh,<-l]
  exact h _ (I.tok _)
 ·subst ey
  cases(show u=Value.ref b from ry)
  obtain⟨z,hd,xs,rel,dd⟩:=Jm I.hok e
  refine wpAny_in_heap (tupleKind_room_in1 hu) (Gh I.hok eb) hd dd ?_
  have q:=(rel.val k).uh
  rw[Option.isSome_map] at q
  rw[<-q,<-l]
  exact h _ (I.tok _)
theorem VN {Q:Value->Shared->Prop} (hu:A.units+1<cLine) (I:Inv X pins σ H s) (g:bM H a y o) (ry:RelV y u) (h:∀s',Inv X pins σ H s'->Q (.bool (!o.isSome)) s'):
 wpAny (model X.prog X.w) A (compareOp .NotIn u (.ref a)) Q E s:=by
 rcases g with⟨kvs,k,e,ey,l⟩ | ⟨kvs,k,b,e,ey,eb,l⟩
 ·subst ey
  obtain⟨z,hd,vs,rel,dd⟩:=Bu I.hok e
  refine wpAny_notIn_of (Jk ry) hd dd.mapOf ?_
  rw[<-(rel.val k).uh,<-l]
  exact h _ (I.tok _)
 ·subst ey
  cases(show u=Value.ref b from ry)
  obtain⟨z,hd,xs,rel,dd⟩:=Jm I.hok e
  refine wpAny_notIn_heap (tupleKind_room_in1 hu) (Gh I.hok eb) hd dd ?_
  have q:=(rel.val k).uh
  rw[Option.isSome_map] at q
  rw[<-q,<-l]
  exact h _ (I.tok _)
theorem Fz {h':Heap}{t':Nat}{ob:HO} (I:Inv X pins σ H s) (mu:Mut (H a)) (hs:Heap.SameBut a s.heap h') (he:∃q,h'.get? a=some q) (new:fH X.prog X.w (upd H a ob) h' a ob):
 Inv X pins σ (upd H a ob) {s with heap:=h',toks:=t'}:=
 I.write (x:=a) (e:=a) mu (.inl rfl) (fun b q hb z=>(hs.2 b hb).trans z) he new
theorem Ni {P:Program}{w:World}{H':Hp}{h':Heap}{kvs:List (Key×V)}{vs:List (Key×Value)} (z:kvs.length<=sizeLine) (hd:(a==sysModules)=false) (rel:KV kvs vs) (dd:h'.DictOf (dH P w) a vs):
 fH P w H' h' a (.dK kvs):=⟨z,hd,vs,rel,dd⟩
theorem Q7 {H':Hp}{Q:Unit->Shared->Prop} (hu:A.units+1<cLine) (I:Inv X pins σ H s) (g:jD H a y v H') (ry:RelV y u) (rv:RelV v r) (h:∀s',Inv X pins σ H' s'->Q () s'):
 wpAny (model X.prog X.w) A (setItem (.ref a) u r) Q E s:=by
 rcases g with⟨kvs,k,e,ey,l,eH⟩ | ⟨kvs,k,b,e,ey,eb,l,eH⟩
 ·subst ey eH
  obtain⟨z,hd,vs,rel,dd⟩:=K1 I.hok e
  have hz:vs.length<=sizeLine:=by rw[<-rel.length];exact z
  have hl:(putK kvs k v).length<=sizeLine:=by have:=wC kvs k v;omega
  refine wpAny_setItem_pairs (hsz:=hz) (Jk ry) dd fun h' dd' hs=>h _ ?_
  have he:∃q,h'.get? a=some q:=let ⟨q,_,_,hq,_⟩:=dd';⟨q,hq⟩
  exact Fz I (by rw[e];exact True.intro) hs he (Ni hl hd (rel.put k rv) dd')
 ·subst ey eH
  cases(show u=Value.ref b from ry)
  obtain⟨z,hd,xs,rel,dd⟩:=ady I.hok e
  have hz:xs.length<=sizeLine:=by rw[<-Paired.length rel];exact z
  have hl:(putK kvs k v).length<=sizeLine:=by have:=wC kvs k v;omega
  refine wpAny_setItem_heap (hsz:=hz) (tupleKind_room_in1 hu) (Gh I.hok eb) dd fun h' dd' hs=>h _ ?_
  obtain⟨q,es,ep,hq,h2,h3,h4,_,h5⟩:=dd'
  refine Fz I (by rw[e];exact True.intro) hs ⟨q,hq⟩ ⟨hl,hd,_,(rel.put k eb rv).keeps fun c ys ec=> ?_,q,es,ep,hq,h2,h3,h4,h5⟩
  rw[au (ac0 ec e (fun z=>nomatch z))]
  exact ec
end
section
variable {X:Cx}{pins:List (Addr×Obj)}{σ:St}{H:Hp}{s:Shared}{a:Addr}{kvs:List (Key×V)}{k:Key}{u:Value}{A:Around}{E:Value->Shared->Prop}
theorem adA {Q:Value->Shared->Prop} (I:Inv X pins σ H s) (e:Rd H a (.dK kvs)) (h:∀t s',Inv X pins σ H s'->Q (.int kvs.length t) s'):wpAny (model X.prog X.w) A (call (.builtin "len") [.ref a]) Q E s:=by
 obtain⟨z,hd,vs,rel,dd⟩:=Bu I.hok e
 refine call_len_dict hd dd (by rw[<-rel.length];rw[sizeLine_eq] at z;omega) ?_
 rw[<-rel.length]
 exact h _ _ (I.tok _)
end
def aaB (i:Expr):Prop:=∀ov iv,subscripted i false ov iv=operate [ov,iv] (getItem ov iv)
theorem VP {prog:Program}{w:World}{A:Around}{E:Value->Shared->Prop}{s:Shared}{env:Env}{value slice:Expr}{pos:Pos}{T id:String}{Q:Value->Shared->Prop}
 (hl:typeLookup (.type T) "__getitem__"=pure (some (.builtin id))) (hs:aaB slice)
 (h:wpAny (model prog w) A (eval value env) (fun o s₁=>wpAny (model prog w) A (eval slice env) (fun i s₂=>s₂.TypeIs o T/\wpAny (model prog w) A (getItem o i) Q E s₂) E s₁) E s):
 wpAny (model prog w) A (eval (.Subscript value slice pos) env) Q E s:=by
 refine Subscript_ (wpAny_mono h (fun o s₁ h₁=>wpAny_mono h₁ (fun i s₂ h₂=> ?_) fun _ _ x=>x) fun _ _ x=>x)
 obtain⟨hT,h₂⟩:=h₂
 unfold subscriptTail
 refine wpAny_bind ?_
 rw[getitemInPython_of_ne hT.not_modules]
 refine wpAny_bind (wpAny_specialOf hT hl ?_)
 have fin:wpAny (model prog w) A (subscripted slice false o i) (fun r s₃=>wpAny (model prog w) A (letTemporaryGo value o r>>=fun _=>pure r) Q E s₃) E s₂:=by
  rw[hs o i]
  exact wpAny_operating (wpAny_mono h₂ (fun r s₃ h₃=>wpAny_bind (wpAny_letTemporaryGo (wpAny_pure h₃))) fun _ _ x=>x)
 first
  | exact wpAny_pure (wpAny_bind fin)
  | exact wpAny_bind (wpAny_pure (wpAny_bind fin))
  | exact wpAny_bind fin
theorem K3 {X:Cx}{pins:List (Addr×Obj)}{σ:St}{H:Hp}{s:Shared}{a:Addr}{y:V}{o:Option V} (I:Inv X pins σ H s) (g:bM H a y o):s.TypeIs (.ref a) "dict":=by
 rcases g with⟨kvs,k,e,_,_⟩ | ⟨kvs,k,b,e,_,_,_⟩
 ·obtain⟨_,_,vs,_,dd⟩:=Bu I.hok e
  exact dd.typeIs
 ·obtain⟨_,_,xs,_,dd⟩:=Jm I.hok e
  exact dd.typeIs
def Yu (td ty:TE):TE:=fun σ H Q=>td σ H fun x H1=>ty σ H1 fun y H2=>∃a v,x= .ref a/\bM H2 a y (some v)/\Q v H2
def adB (ty td:TE):TE:=fun σ H Q=>ty σ H fun y H1=>td σ H1 fun x H2=>∃a o,x= .ref a/\bM H2 a y o/\Q (.bl o.isSome) H2
def Pb (ty td:TE):TE:=fun σ H Q=>ty σ H fun y H1=>td σ H1 fun x H2=>∃a o,x= .ref a/\bM H2 a y o/\Q (.bl (!o.isSome)) H2
def Yv (td ty tv:TE):TS:=fun D σ H=>tv σ H fun v H1=>td σ H1 fun x H2=>ty σ H2 fun y H3=>∃a H4,x= .ref a/\jD H3 a y v H4/\D.nx σ H4
section
variable {X:Cx}{o i e value:Expr}{pos pos' tpos:Pos}{td ty tv:TE}
theorem VR (hu:X.A.units+1<cLine) (ho:PE X o td) (hi:PE X i ty) (hs:aaB i):PE X (.Subscript o i pos) (Yu td ty):=by
 intro pins s σ H Q I h
 refine VP PySem.F.slot_dict_getitem.lookup hs (thn (ho pins s σ H _ I h) fun u s1 ⟨x,H1,I1,rx,q1⟩=>thn (hi pins s1 σ H1 _ I1 q1) fun iv s2 ⟨y,H2,I2,ry,a,v,ex,g,q2⟩=> ?_)
 subst ex
 obtain rfl:u=Value.ref a:=rx
 exact⟨K3 I2 g,Q6 hu I2 g ry fun w' s3 I3 rw'=>⟨v,H2,I3,rw',q2⟩⟩
theorem aaC (hu:X.A.units+1<cLine) (hi:PE X i ty) (ho:PE X o td):PC X .In i o (adB ty td):=by
 intro pins s σ H Q I h
 refine thn (hi pins s σ H _ I h) fun iv s1 ⟨y,H1,I1,ry,q1⟩=>thn (ho pins s1 σ H1 _ I1 q1) fun u s2 ⟨x,H2,I2,rx,a,ov,ex,g,q2⟩=> ?_
 subst ex
 obtain rfl:u=Value.ref a:=rx
 exact adz hu I2 g ry fun s3 I3=>⟨.bl ov.isSome,H2,I3,rfl,q2⟩
theorem Q8 (hu:X.A.units+1<cLine) (hi:PE X i ty) (ho:PE X o td):PC X .NotIn i o (Pb ty td):=by
 intro pins s σ H Q I h
 refine thn (hi pins s σ H _ I h) fun iv s1 ⟨y,H1,I1,ry,q1⟩=>thn (ho pins s1 σ H1 _ I1 q1) fun u s2 ⟨x,H2,I2,rx,a,ov,ex,g,q2⟩=> ?_
 subst ex
 obtain rfl:u=Value.ref a:=rx
 exact VN hu I2 g ry fun s3 I3=>⟨.bl (!ov.isSome),H2,I3,rfl,q2⟩
theorem V0 (hu:X.A.units+1<cLine) (ho:PE X o td) (hi:PE X i ty) (hv:PE X value tv) (hs:swapsWith value (some (.Subscript o i pos')) pos.line X.env=pure false):
 PS X (.Assign [.Subscript o i pos'] value pos) (Yv td ty tv):=by
 intro pins s σ H D I h
 refine wpAny_Assign_Subscript (thn (hv pins s σ H _ I h) fun r s1 ⟨v,H1,I1,rv,q1⟩=>thn (ho pins s1 σ H1 _ I1 q1) fun u s2 ⟨x,H2,I2,rx,q2⟩=>thn (hi pins s2 σ H2 _ I2 q2) fun iv s3 ⟨y,H3,I3,ry,a,H4,ex,g,q3⟩=> ?_) hs
 subst ex
 obtain rfl:u=Value.ref a:=rx
 exact Q7 hu I3 g ry rv fun s4 I4=>⟨σ,H4,I4,q3⟩
end
theorem K4 {P:Program}{w:World}{H:Hp} (h:Heap) (hb:sysModules<h.objs.size):fH P w H (h.push {cls:= .type "dict",data:= .dict #[]}) h.objs.size (.dK []):=
 ⟨Nat.zero_le _,beq_eq_false_iff_ne.mpr (Ne.symm (Nat.ne_of_lt hb)),[], .nil,Heap.DictOf.new h⟩
def Sh:TE:=fun _ H Q=>∀p,H p=none->Q (.ref p) (upd H p (.dK []))
section
variable {X:Cx}{pos:Pos}
theorem Sq:PE X (.Dict [] [] pos) Sh:=fun pins s σ H Q I h=>
 wpAny_Dict_empty ⟨.ref s.heap.objs.size,_,I.laid (a:=s.heap.objs.size) (o:= .dK []) (t':=s.toks) (fun _ _ q=>Heap.get?_push_of_some _ q) (Nat.le_refl _) (K4 s.heap I.big),rfl,h _ (I.hok.fresh (Nat.le_refl _))⟩
end
def Nj:List (TE×TE)->St->Hp->(List (V×V)->Hp->Prop)->Prop
 |[],_,H,Q=>Q [] H
 | (tk,tv)::r,σ,H,Q=>tk σ H fun x H1=>tv σ H1 fun y H2=>Nj r σ H2 fun ps H3=>Q ((x,y)::ps) H3
abbrev VV:List (V×V)->List (Value×Value)->Prop:=Paired fun p q=>RelV p.1 q.1/\RelV p.2 q.2
def PPs (X:Cx) (pos:Pos) (keys:List (Option Expr)) (values:List Expr) (trs:List (TE×TE)):Prop:=
 ∀(pins:List (Addr×Obj)) (s:Shared) (σ:St) (H:Hp) (Q:List (V×V)->Hp->Prop),Inv X pins σ H s->Nj trs σ H Q->
  wpAny (model X.prog X.w) X.A (evalPairs (pairTrees keys values X.env pos)) (fun vs s'=>∃ps H',Inv X pins σ H' s'/\VV ps vs/\Q ps H') X.xe s
theorem V1 {X:Cx}{pos:Pos}:PPs X pos [] [] []:=fun pins s σ H Q I h=>pairTrees_nil_walk ⟨[],H,I, .nil,h⟩
theorem Ss {X:Cx}{pos:Pos}{k v:Expr}{ks:List (Option Expr)}{vs:List Expr}{tk tv:TE}{trs:List (TE×TE)} (hk:PE X k tk) (hv:PE X v tv) (hr:PPs X pos ks vs trs):
 PPs X pos (some k::ks) (v::vs) ((tk,tv)::trs):=fun pins s σ H Q I h=>
 pairTrees_cons_walk (thn (hk pins s σ H _ I h) fun u s1 ⟨x,H1,I1,rx,q1⟩=>thn (hv pins s1 σ H1 _ I1 q1) fun w2 s2 ⟨y,H2,I2,ry,q2⟩=>
  thn (hr pins s2 σ H2 _ I2 q2) fun ws s3 ⟨ps,H3,I3,rel,q3⟩=>⟨(x,y)::ps,H3,I3, .cons ⟨rx,ry⟩ rel,q3⟩)
def jj (kvs more:List (Key×V)):List (Key×V):=more.foldl (fun acc kv=>putK acc kv.1 kv.2) kvs
theorem KV.merge:∀{more:List (Key×V)}{rs:List (Key×Value)}{kvs:List (Key×V)}{vs:List (Key×Value)},KV more rs->KV kvs vs->KV (jj kvs more) (merged vs rs):=by
 intro more rs kvs vs r
 unfold KV at r
 induction r generalizing kvs vs with
 | nil=>intro q;exact q
 | @cons p q ps qs h t ih=>
   intro r0
   have e:KV (putK kvs p.1 p.2) (stored vs q.1 q.2):=by
    have:=r0.put p.1 h.2
    rw[<-h.1];exact this
   exact ih e
theorem sY:∀(more kvs:List (Key×V)),(jj kvs more).length<=kvs.length+more.length
 |[],kvs=>by show kvs.length<=kvs.length+0;omega
 | p::r,kvs=>by
   have h1:=sY r (putK kvs p.1 p.2)
   have h2:=wC kvs p.1 p.2
   show(jj (putK kvs p.1 p.2) r).length<=_
   rw[List.length_cons];omega
theorem Gi {P:Program}{w:World}:∀{kvs:List (Key×V)}{ws:List (Value×Value)},VV (kvs.map fun kv=>(kV kv.1,kv.2)) ws->∃rs,Carries (dH P w) ws rs/\KV kvs rs
 |[],_,r=>by rw[List.map_nil] at r;cases r;exact⟨[],True.intro, .nil⟩
 | p::kvs,_,r=>by
   rw[List.map_cons] at r
   cases r with
   | @cons a b as bs h t=>
     obtain⟨rs,c,q⟩:=Gi (P:=P) (w:=w) t
     obtain⟨b1,b2⟩:=b
     exact⟨(p.1,b2)::rs,⟨Jk h.1,rfl,c⟩, .cons ⟨rfl,h.2⟩ q⟩
def Yw (trs:List (TE×TE)):TE:=fun σ H Q=>∀p,H p=none->Nj trs σ (upd H p (.dK [])) fun ps H2=>H2 p=some (.dK [])/\∃kvs:List (Key×V),ps=kvs.map (fun kv=>(kV kv.1,kv.2))/\kvs.length<=15/\Q (.ref p) (upd H2 p (.dK (jj [] kvs)))
theorem V2 {X:Cx}{pos:Pos}{keys:List (Option Expr)}{values:List Expr}{trs:List (TE×TE)} (h:PPs X pos keys values trs) (hall:keys.all (·.isSome)=true) (hl:keys.length=values.length) (h0:keys≠[])
 (h15:keys.length<=15):PE X (.Dict keys values pos) (Yw trs):=by
 intro pins s σ H Q I q
 have hn:=I.hok.fresh (Nat.le_refl s.heap.objs.size)
 have I1:=I.laid (a:=s.heap.objs.size) (o:= .dK []) (h':=s.heap.push {cls:= .type "dict",data:= .dict #[]}) (t':=s.toks) (fun _ _ q=>Heap.get?_push_of_some _ q) (Nat.le_refl _) (K4 s.heap I.big)
 refine wpAny_Dict_walk (knd:=dH X.prog X.w) hall hl h0 h15 (thn (h pins _ σ _ _ I1 (q _ hn)) fun ws s2 ⟨ps,H2,I2,rel,e,kvs,ep,lk,q2⟩=> ?_)
 subst ep
 obtain⟨rs,c,rk⟩:=Gi (P:=X.prog) (w:=X.w) rel
 obtain⟨z,hd,vs0,r0,dd⟩:=K1 I2.hok e
 cases r0
 refine⟨rs,c,dd,fun h' dd' hs=>⟨.ref s.heap.objs.size,_, ?_,rfl,q2⟩⟩
 have hz:(jj [] kvs).length<=sizeLine:=by
  have h1:=sY kvs []
  rw[List.length_nil] at h1
  rw[sizeLine_eq];omega
 have he:∃q,h'.get? s.heap.objs.size=some q:=let ⟨q,_,_,hq,_⟩:=dd';⟨q,hq⟩
 exact Fz I2 (by rw[e];exact True.intro) hs he (Ni hz hd (rk.merge .nil) dd')
structure M1 (X:Cx) (o:Expr) (m:Str) (apos:Pos) (e:Expr) (cpos:Pos):Prop where
 base:attributeBase o m X.env (eval o X.env)=eval o X.env
 few:((backTo cpos (starEach [e] X.env)).all (fun x=> !x.1)&&(backToKw cpos (keywordEach [] X.env)).all (fun x=>x.1.isSome)
  &&decide (([e]:List Expr).length+([]:List Keyword).length+(if([]:List Keyword).isEmpty then 0 else 1)<30))=true
 line:(apos.endLine==cpos.line)=true
 trees:backTo cpos (starEach [e] X.env)=[(false,eval e X.env)]
def IsD (H:Hp) (a:Addr):Prop:=(∃kvs,Rd H a (.dK kvs))\/∃kvs,Rd H a (.dT kvs)
theorem Su {X:Cx}{pins:List (Addr×Obj)}{σ:St}{H:Hp}{s:Shared}{a:Addr} (I:Inv X pins σ H s) (d:IsD H a):
 s.TypeIs (.ref a) "dict"/\(∀b,Value.ref a= .ref b->∃ob,s.heap.get? b=some ob/\ob.dict=none)/\(a==sysModules)=false:=by
 rcases d with⟨kvs,e⟩ | ⟨kvs,e⟩
 ·obtain⟨_,hd,vs,_,dd⟩:=Bu I.hok e
  refine⟨dd.typeIs,fun b q=> ?_,hd⟩
  cases q
  obtain⟨ob,_,_,h1,h2,_⟩:=dd
  exact⟨ob,h1,h2.2.1⟩
 ·obtain⟨_,hd,xs,_,dd⟩:=Jm I.hok e
  refine⟨dd.typeIs,fun b q=> ?_,hd⟩
  cases q
  obtain⟨ob,_,_,h1,h2,_⟩:=dd
  exact⟨ob,h1,h2.2.1⟩
section
variable {X:Cx}{pins:List (Addr×Obj)}{σ:St}{H:Hp}{s:Shared}{a:Addr}{y d:V}{u r:Value}{o:Option V}{A:Around}{E:Value->Shared->Prop}
end
section
variable {X:Cx}{o e f:Expr}{apos cpos:Pos}{td ty tx:TE}
end
section
variable {X:Cx}{pins:List (Addr×Obj)}{σ:St}{H:Hp}{s:Shared}{a:Addr}{kvs:List (Key×V)}{A:Around}{E:Value->Shared->Prop}
end
section
variable {X:Cx}{pins:List (Addr×Obj)}{σ:St}{H:Hp}{s:Shared}{a:Addr}{y:V}{u:Value}{A:Around}{E:Value->Shared->Prop}
end
end L2
namespace Att
open PySem PySem.W PySem.Calls PyProof.Rows
theorem Fi {P:Params}{h:Heap}:∀(ns:List Int) (vs:List Value),WellAll P h vs (ns.map WData.int)->IntsAre vs ns:=by
 intro ns
 induction ns with
 | nil=>
   intro vs w
   rw[List.map_nil] at w
   cases w
   exact .nil
 | cons n ns ih=>
   intro vs w
   rw[List.map_cons] at w
   cases w with
   | cons a b=>
     cases a
     exact .cons _ _ (ih _ b)
theorem Q9 {l:OpenLaw}{n:Nat} (hn:l.most=some n) {P:Params}{h:Heap}{args:List WData}{vals:List Value}
 (hpre:l.row.toRowW.claim.pre args=true) (hwl:WellAll P h vals args):
 ∃a vs ns,vals=[Value.ref a]/\args=[WData.list (ns.map WData.int)]/\h.get? a=some {cls:= .type "list",data:= .seq vs.toArray}/\IntsAre vs ns/\ns.length<=n:=by
 have hsh:WShape.hasAll [] args [.list .int]=true:=(pre_splitW hpre).1
 have hc:l.pre.holds [] {args:=args}=true:=(pre_splitW hpre).2
 obtain⟨d,r,rfl,h1,h2⟩:=hasAllW_cons hsh
 obtain rfl:=hasAllW_nil h2
 obtain⟨xs,rfl,h3⟩:=hasW_list h1
 obtain⟨ns,rfl⟩:=items_int h3
 have hlen:ns.length<=n:=by
  unfold OpenLaw.pre at hc
  have h4:(WTm.not (.lt (.lit (.int (n:Int))) (.len (.arg 0)))).holds [] {args:=[.list (ns.map .int)]}=true:=by
   have h4:=(holds_andW hc).1
   rw[hn] at h4
   exact h4
  have h5:=condW_of h4 (w_not (w_lt w_lit (w_len_list (w_arg rfl))))
  rw[List.length_map] at h5
  refine Nat.le_of_not_lt fun q=> ?_
  have q':(n:Int)<((ns.length:Nat):Int):=by omega
  first
   | (rw[decide_eq_true q'] at h5;exact absurd h5 (by decide))
   | (simp at h5;omega)
 cases hwl with
 | cons w1 w2=>
   cases w2
   cases w1 with
   | list ho hall=>exact⟨_,_,ns,rfl,rfl,ho,Fi ns _ hall,hlen⟩
theorem Ra (l:OpenLaw) (args:List WData):l.row.toRowW.claim.post args (.bool true) args=true:=
 postW_of (r:=l.row.toRowW) (X:=(true==true))
  (show WShape.has [] (.bool true) .bool=true by first | rfl | decide | simp[WShape.has,WShape.arms,WShape.armsAll])
  (show(WTm.eq .res (.lit (.bool true))).value [] {args:=args,res:=some (.bool true),after:=args}=some (.bool (true==true)) from w_eq_bool (w_res rfl) w_lit) rfl
theorem K5 {l:OpenLaw}{n:Nat}{q:Program}{loose:List Str}{XP:(Str->Option Value)->Heap->Prop}{YP:World->Heap->Prop}{d:DefRec}
 (hn:l.most=some n) (hdf:d.params.defaults=[])
 (call:∀(w:World) (s₀ s₁:Shared) (mg mb:Str->Option Value) (fa:Addr) (o:Obj) (pm cd doc:Value) (a:Addr) (vs:List Value) (ns:List Int),
   Ground q loose [] XP w s₀ mg mb s₁.heap->YP w s₁.heap->
   s₁.heap.get? fa=some o->o.data= .func (docDef d.name d.params d.body d.scope pm cd doc)->s₁.heap.CodeRec cd d.name->mg d.name=some (.ref fa)->
   s₁.heap.get? a=some {cls:= .type "list",data:= .seq vs.toArray}->IntsAre vs ns->ns.length<=n->s₁.gens= #[]->
   codeAny (model l.prog w) callerA (.call (.ref fa) ⟨[.ref a],[]⟩) (fun r s'=>r= .ok (.ret (.bool true))/\OldK s₁.heap s'.heap/\s'.os=s₁.os/\AllBare s'.gens) s₁):
 WalkO q loose XP YP l.row.toRowW d [] (fun f vs=>PySem.call f vs):=by
 intro w s₀ s₁ mg mb G Y fa o pm cd doc dV kV ho hd hcd hD hmg hg args vals as hpre hlay hrd hwl hlo
 obtain rfl:dV= .none:=Dflts.none hD hdf
 obtain rfl:kV= .none:=Dflts.noKw hD
 obtain⟨a,vs,ns,rfl,rfl,hobj,hints,hlen⟩:=Q9 hn hpre hwl
 refine enter_call (codeAny_mono (call w s₀ s₁ mg mb fa o pm cd doc a vs ns G Y ho (fd_plain hd) hcd hmg hobj hints hlen hg) fun r s' hq=> ?_)
 obtain⟨rfl,h2,h3,h4⟩:=hq
 exact⟨.inl ⟨.bool true, .bool true,[],rfl,fun _=>rfl, .bool true,Ra l _,fun _=>⟨List.Pairwise.nil,fun _ hm=>(nomatch hm)⟩⟩,h2,h3,h4⟩
section
variable {prog:Program}{w:World}{A:Around}{E:Value->Shared->Prop}{s:Shared}{K:Frag}
end
end Att
namespace L2
open PySem PySem.Spec PyProof.Rows
theorem Jo:∀{vs:List Value}{ns:List Int},IntsAre vs ns->Vals (ns.map V.int) vs
 | _,_, .nil=> .nil
 | _,_, .cons n t h=> .cons ⟨t,rfl⟩ (Jo h)
def Only (H:Hp):Prop:=∀b,H b=none\/∃o xs,H b=some (.frz o (.lst xs))
theorem Sv {P:Program}{w:World}{K:PySem.W.Frag}{mg mb:Str->Option Value}{CX:CXT}{k:Nat}{fa a:Addr}{fd:FuncData}{x:Str}{sp:Sp}{s₁:Shared}{vs:List Value}{ns:List Int}
 (KX:K.In s₁.heap) (hns:s₁.heap.Ns mainGlobals mg) (hb:s₁.heap.Ns builtinsNs mb) (hbb:∀x:Str,x≠"__name__"->mb x=bootBuiltins x) (hlim:s₁.heap.NoLimit) (hg:s₁.gens= #[])
 (ha:s₁.heap.get? a=some {cls:= .type "list",data:= .seq vs.toArray}) (hi:IntsAre vs ns) (hl:ns.length<=sizeLine) (hr:mJ k callerA)
 (F:∀base:Heap,K.In base->base.Ns mainGlobals mg->bh P w K mg base CX k fa fd [x] sp) (hbind:∀(s:Shared) (u:Value),BindsTo s fd ⟨[u],[]⟩ [(x,u)])
 (hsp:∀H:Hp,Only H->SqL K H a (ns.map V.int)->sp [.ref a] H (fun v _=>v= .bl true) fun _ _ _=>False)
 (hCX:∀H e s',CX [] H s₁ (fun _ _ _=>False) e s'->False):
 codeAny (model P w) callerA (.call (.ref fa) ⟨[.ref a],[]⟩) (fun r s'=>r= .ok (.ret (.bool true))/\OldK s₁.heap s'.heap/\s'.os=s₁.os/\AllBare s'.gens) s₁:=by
 have rv:=Jo hi
 have lenV:=hi.length
 have core:∀H:Hp,Only H->SqL K H a (ns.map V.int)->HOk P w H s₁.heap->(∀b,H b≠none->b=a)->(H a≠none->K.lookup a=none)->
  codeAny (model P w) callerA (.call (.ref fa) ⟨[.ref a],[]⟩) (fun r s'=>r= .ok (.ret (.bool true))/\OldK s₁.heap s'.heap/\s'.os=s₁.os/\AllBare s'.gens) s₁:=by
  intro H hO hS hok hA hK
  have Pg:∀{b:Addr}{o:Obj},s₁.heap.get? b=some o->H b=none->(JB s₁.heap H).get? b=some o:=fun e n=>RC e n
  have noA:∀{b:Addr}{o:Obj}{es:Array DictEntry}{ep:Nat},s₁.heap.get? b=some o->o.data= .dict es ep->H b=none:=fun{b o es ep} e d=>by
   cases q:H b with
   | none=>rfl
   | some u=>
     have e':b=a:=hA b (by rw[q];simp)
     subst e'
     rw[ha] at e;cases e
     have d':Data.seq vs.toArray _=Data.dict es ep:=d
     cases d'
  have nsK:∀{b:Addr}{m:Str->Option Value},s₁.heap.Ns b m->(JB s₁.heap H).Ns b m:=fun{b m} ⟨o,es,ep,e,d,r⟩=>⟨o,es,ep,Pg e (noA e d),d,r⟩
  have hKb:K.In (JB s₁.heap H):=fun b o e=>Pg (KX b o e) (by
   cases q:H b with
   | none=>rfl
   | some u=>
     have e':b=a:=hA b (by rw[q];simp)
     subst e'
     rw[hK (by rw[q];simp)] at e;cases e)
  have hM:Mod K mg (JB s₁.heap H):=⟨hKb,nsK hns,⟨mb,nsK hb,hbb⟩,let ⟨mc,h1,h2⟩:=hlim;⟨mc,nsK h1,h2⟩⟩
  have e0:Nb P w K mg (JB s₁.heap H) callerA [] s₁ H:=⟨rfl,hM,fun b o e=>Vk e,Nat.le_of_eq (Qz _ _),trivial,fun b hb=>absurd (show b∈([]:List Addr) from hb) (by simp),hok, .of_eq hg⟩
  refine codeAny_mono ((F _ hKb (nsK hns)).run callerA [] s₁ H ⟨[.ref a],[]⟩ [.ref a] [.ref a] _ _ hr e0 (hbind s₁ (.ref a)) (.cons rfl .nil) (hsp H hO hS)) fun r s' h=> ?_
  cases r with
  | error e=>exact(hCX H e s' h).elim
  | ok fl=>
    cases fl with
    | next=>exact False.elim h
    | brk=>exact False.elim h
    | cont=>exact False.elim h
    | ret u=>
      obtain⟨v,H',os,bare,un,hok',r',q⟩:=h
      have q':v= .bl true:=q
      subst q'
      obtain rfl:u=Value.bool true:=r'
      refine⟨rfl,OldK.of_keep fun b o e=> ?_,os,bare⟩
      cases q:H b with
      | none=>exact un.keep b o e q (by intro z;exact absurd (show b∈([]:List Addr) from z) (by simp)) (by simp)
      | some u=>
        rcases hO b with z | ⟨ob,xs,z⟩
        ·rw[q] at z;cases z
        ·have z2:=un.frzs b ob _ z
         obtain⟨e1,_⟩:=hok b _ z
         obtain⟨e2,_⟩:=hok' b _ z2
         rw[e] at e1;cases e1
         exact e2
 cases hk:K.lookup a with
 | some o=>
   have e:=KX a o hk
   rw[ha] at e
   cases e
   refine core (fun _=>none) (fun _=> .inl rfl) (.inr ⟨_,vs.toArray,_,hk,rfl,rfl,rfl,by rw[List.size_toArray,lenV];exact hl,by simpa using rv⟩) (fun b u z=>by have z':(none:Option HO)=some u:=z;cases z') (fun b z=>absurd rfl z) fun z=>absurd rfl z
 | none=>
   refine core (fun b=>if b=a then some (.frz {cls:= .type "list",data:= .seq vs.toArray} (.lst (ns.map V.int))) else none) (fun b=> ?_) (.inl (.inr ⟨{cls:= .type "list",data:= .seq vs.toArray},if_pos rfl⟩)) (fun b u z=> ?_) (fun b z=> ?_) fun _=>hk
   ·by_cases hb:b=a
    ·exact .inr ⟨_,_,if_pos hb⟩
    ·exact .inl (if_neg hb)
   ·by_cases hb:b=a
    ·have z':=(if_pos hb).symm.trans z
     cases z'
     subst hb
     exact⟨ha,by rw[List.length_map];exact hl,vs,_,rv,ha⟩
    ·have z':=(if_neg hb).symm.trans z
     cases z'
   ·by_cases hb:b=a
    ·exact hb
    ·exact absurd (if_neg hb) z
end L2
namespace L2
open PySem PySem.Spec PyProof.Rows
theorem Ph {l:PySem.W.OpenLaw}{n k:Nat}{q:Program}{loose:List Str}{XP:(Str->Option Value)->Heap->Prop}{YP:World->Heap->Prop}{d:DefRec}{K:Params->PySem.W.Frag}{CX:World->CXT}{sp:World->Sp}{x:Str}
 (hn:l.most=some n) (hn2:n<=sizeLine) (hdf:d.params.defaults=[]) (hr:mJ k callerA)
 (hY:∀(w:World) (h:Heap),YP w h->(K w.params).In h)
 (F:∀(w:World) (mg:Str->Option Value) (fa:Addr) (h:Heap),(K w.params).In h->h.Ns mainGlobals mg->mg d.name=some (.ref fa)->
   ∃fd:FuncData,(∀(s:Shared) (u:Value),BindsTo s fd ⟨[u],[]⟩ [(x,u)])/\
    ∀base:Heap,(K w.params).In base->base.Ns mainGlobals mg->bh l.prog w (K w.params) mg base (CX w) k fa fd [x] (sp w))
 (hsp:∀(w:World) (H:Hp) (a:Addr) (ns:List Int),ns.length<=n->Only H->SqL (K w.params) H a (ns.map V.int)->sp w [.ref a] H (fun v _=>v= .bl true) fun _ _ _=>False)
 (hCX:∀(w:World) (H:Hp) (s:Shared) (e:Value) (s':Shared),CX w [] H s (fun _ _ _=>False) e s'->False):
 PySem.W.WalkO q loose XP YP l.row.toRowW d [] (fun f vs=>PySem.call f vs):=by
 refine Att.K5 hn hdf fun w s₀ s₁ mg mb fa o pm cd doc a vs ns G Y ho hd hcd hmg hobj hints hlen hg=> ?_
 have KX:=hY w _ Y
 obtain⟨fd,hb,hF⟩:=F w mg fa _ KX G.T.g hmg
 exact Sv KX G.T.g G.T.b G.T.builtins G.T.nolimit hg hobj hints (Nat.le_trans hlen hn2) hr hF hb (fun H hO hS=>hsp w H a ns hlen hO hS) fun H e s'=>hCX w H s₁ e s'
end L2
/- THE LAST THEOREM (shape;LID,My.* are yours):
   My.Adr:a structure of the addresses that your layer names (classes,functions);My.Txt K t:a structure (Prop) of the equations over K;
   My.aaD:{K}{implicit addresses ..} (e1:nsIn K mainGlobals "law"=some (some (.ref f))) (e2:K.lookup f=some ⟨oc,od, .func (fnOf "law" "law" params body scope dV kV doc pm an cdv ct),sl⟩) (e3:codeIn K cdv "law"=true) .. :∃t,My.Txt K t
theorem PySem.Challenge.cw_LID_holds : PySem.Challenge.rw_LID.Holds := by
 w_on;o_law;k_head;(case hw=>w_witness2)
 k_fill
 refine L2.Ph (l:=PySem.Challenge.aaE) (n:=63) (k:=40) (x:="script") (CX:=fun w=> ..) (sp:=fun _=>My.ahu) rfl (by decide) rfl ⟨rfl,by decide,by decide⟩ (fun w h Y=>PySem.W.kIn_of Y) ?F ?S ?C
 case F=>
  intro w mg fa h KX G hmg
  have T:∃t,My.Txt (L2.KOf KX) t:=by
   dsimp only[L2.KOf] -- K must stand as «<heap const> w.params» for k_is
   refine' My.aaD ?e1 ?e2 ?e3 ..
   (case e1=>PySem.W.k_is) -- in the order:a name->its address->its object->its parts
   (case e2=>PySem.W.k_is)
   ..
  obtain⟨t,T⟩:=T
  have e0:=hmg.symm.trans (PySem.W.mg_of KX G T.law)
  cases e0 -- fa is the law's own address
  exact⟨_,fun s u=> .of_eq rfl,fun base kb nb=>My.aaF T kb nb⟩ -- if «.of_eq rfl» comes too early:refine' ⟨_, ?b,fun base kb nb=>My.aaF T kb nb⟩;exact fun s u=> .of_eq rfl
 case S=>exact fun w H a ns hl hO hS=> ..
 case C=>exact ..
(the tactic k_is has no namespace:write k_is) -/
namespace L2
open PySem PySem.Spec PyProof.Rows
def bN (s:Stmt):Arguments:=match s with
 | .FunctionDef _ a _ _ _ _ _ _ _ _=>a
 | _=>{posonlyargs:=[],args:=[],vararg:=none,kwonlyargs:=[],kw_defaults:=[],kwarg:=none,defaults:=[]}
def bB (s:Stmt):List Stmt:=match s with
 | .FunctionDef _ _ b _ _ _ _ _ _ _=>b
 | _=>[]
def aa (s:Stmt):Scope:=match s with
 | .FunctionDef _ _ _ _ _ _ sc _ _ _=>sc
 | _=>{kind:= .function,names:=[],isGenerator:=false,isCoroutine:=false}
abbrev CX0:CXT:=fun _ _ _ _ _ _=>False
abbrev E0:XK:=fun _ _ _=>False
theorem bz {X:Cx}:Passes CX0 X E0:=fun _ _ _ _ _ _ _ h=>h.elim
structure Fun (K:PySem.W.Frag) (x qual:Str) (st:Stmt) (f:Addr) (fd:FuncData):Prop where
 ex:∃(oc:Value) (od:Option Addr) (kV doc pm:Value) (an:Option Addr) (cdv ct:Value) (osl:Array (Option Value)),
  fd=PySem.W.fnOf x qual (bN st) (bB st) (aa st) .none kV doc pm an cdv ct/\K.lookup f=some ⟨oc,od, .func fd,osl⟩/\PySem.W.codeIn K cdv qual=true
 kp:PySem.W.keepIn K (.ref f)=true
section
variable {P:Program}{w:World}{K:PySem.W.Frag}{mg:Str->Option Value}{base:Heap}
theorem Fun.ok {x qual:Str}{st:Stmt}{f:Addr}{fd:FuncData}{N ps:List Str}{k:Nat}{sp:Sp} (F:Fun K x qual st f fd) (S:bR N ps (aa st)) (len:∀vs H Q E,sp vs H Q E->vs.length=ps.length)
 (hbody:∀(cdv:Value) (A:Around) (outer:List Env) (s:Shared) (H:Hp) (vs:List V) (Q:VK) (E:XK),mJ k (A.deeper (envOfC qual (aa st) s.heap.objs.size f cdv))->sp vs H Q E->
   ∃t,PSs (Ng CX0 P w K mg base N qual (aa st) f cdv A outer s H E).nox (bB st) t/\t {nx:=fun _ H'=>Q .non H',rt:=Q} (start N vs) H):bh P w K mg base CX0 (k+1) f fd ps sp:=by
 obtain⟨oc,od,kV,doc,pm,an,cdv,ct,osl,rfl,lk,hcd⟩:=F.ex
 refine ado lk hcd S len fun A outer s H vs Q E hr hsp=> ?_
 obtain⟨t,h,q⟩:=hbody cdv A outer s H vs Q E hr hsp
 exact⟨t,h.nox,q⟩
theorem kY {x qual:Str}{st:Stmt}{f:Addr}{oc:Value}{od an:Option Addr}{osl:Array (Option Value)}{kV doc pm cdv ct:Value} (l:K.lookup f=some ⟨oc,od, .func (PySem.W.fnOf x qual (bN st) (bB st) (aa st) .none kV doc pm an cdv ct),osl⟩)
 (c:PySem.W.codeIn K cdv qual=true) (k:PySem.W.keepIn K (.ref f)=true):Fun K x qual st f (PySem.W.fnOf x qual (bN st) (bB st) (aa st) .none kV doc pm an cdv ct):=⟨⟨oc,od,kV,doc,pm,an,cdv,ct,osl,rfl,l,c⟩,k⟩
end
theorem cg {A:Around}{k:Nat} (hr:mJ k A):A.units+1<cLine:=Nat.lt_of_le_of_lt (Nat.add_le_add_left (by decide:1<=64) _) hr.units
theorem aV {n:Nat} (h:n<=1000):n<sizeLine:=Nat.lt_of_le_of_lt h (by decide)
section
variable {X:Cx}
theorem Rb:qL X (.builtin "len") (fun xs H Q=>∃a kvs,xs=[V.ref a]/\H a=some (.dK kvs)/\Q (.int kvs.length) H):=by
 intro pins s σ H xs us Q I r h
 obtain⟨a,kvs,rfl,ha,q⟩:=h
 obtain⟨u,rfl,ru⟩:=vals1 r
 cases ru
 exact adA I (.inl ha) fun t s' I'=>⟨.int kvs.length,H,I',⟨t,rfl⟩,q⟩
end
theorem zM {c A B:Prop} [Decidable c] (h1:c->A) (h2:¬c->B):if c then A else B:=by
 by_cases h:c
 ·rw[if_pos h]
  exact h1 h
 ·rw[if_neg h]
  exact h2 h
def aW (H H':Hp):Prop:=∀b o,H b=some o->H' b=some o
theorem aW.refl (H:Hp):aW H H:=fun _ _ h=>h
theorem aW.trans {H H1 H2:Hp} (a:aW H H1) (b:aW H1 H2):aW H H2:=fun c o h=>b c o (a c o h)
section
variable {κ:Type} [DecidableEq κ]
theorem V4 {kvs:List (κ×V)}{k:κ}{v:V} (h:cO kvs k=some v):k∈kvs.map (·.1):=by
 have q:(kvs.any fun kv=>decide (kv.1=k))=true:=by
  rw[ug,h]
  all_goals rfl
 obtain⟨p,hp,e⟩:=List.any_eq_true.mp q
 exact List.mem_map.mpr ⟨p,hp,of_decide_eq_true e⟩
end
end L2
set_option maxRecDepth 100000
namespace L2
open PySem PySem.Spec PyProof.Rows
def ccl (sc:Scope) (env:Env):List (Str×Addr):=(sc.names.filterMap fun p=>if p.2== .free then(env.cells.lookup p.1).map fun c=>(p.1,c) else none).reverse
theorem wD {env:Env}:∀(l:List (Str×NameKind)) (acc:List (Str×Addr)),(∀p∈l,p.2= .free->∃c,env.cells.lookup p.1=some c)->
 (forIn l acc fun(x:Str×NameKind) r=>match x with | (name,kind)=>(if(kind==NameKind.free)=true then do let a <-cellOf env name;pure (ForInStep.yield ((name,a)::r)) else pure (ForInStep.yield r):Sem _))=
   pure ((l.filterMap fun p=>if p.2== .free then(env.cells.lookup p.1).map fun c=>(p.1,c) else none).reverse++acc)
 |[],acc,_=>rfl
 | (n,k)::r,acc,h=>by
   rw[List.forIn_cons]
   have hr:∀p∈r,p.2= .free->∃c,env.cells.lookup p.1=some c:=fun p hp=>h p (List.mem_cons_of_mem _ hp)
   by_cases hk:k= .free
   ·subst hk
    obtain⟨c,hc⟩:=h (n, .free) List.mem_cons_self rfl
    have e1:cellOf env n=pure c:=by unfold cellOf;rw[hc]
    simp only[beq_self_eq_true,if_true,e1,pure_bind]
    rw[wD r _ hr]
    simp[List.filterMap_cons,hc]
   ·have hb:(k==NameKind.free)=false:=by simpa using hk
    simp only[hb,Bool.false_eq_true,if_false,pure_bind]
    rw[wD r _ hr]
    simp[List.filterMap_cons,hk]
theorem K6 {sc:Scope}{env:Env} (h:∀p∈sc.names,p.2= .free->∃c,env.cells.lookup p.1=some c):closureFor sc env=pure (ccl sc env):=by
 unfold closureFor
 have q:=wD (env:=env) sc.names [] h
 rw[List.append_nil] at q
 unfold ccl
 rw[<-q,bind_pure]
theorem Ik {f:Str->Option Addr}:∀(l:List (Str×NameKind)) (x:Str) (c:Addr),
 (l.filterMap fun p=>if p.2== .free then(f p.1).map fun c=>(p.1,c) else none).reverse.lookup x=some c->f x=some c:=by
 intro l x c h
 have hm:=PySem.mem_of_lookup h
 rw[List.mem_reverse,List.mem_filterMap] at hm
 obtain⟨p,_,e⟩:=hm
 split at e
 ·cases q:f p.1 with
  | none=>rw[q] at e;cases e
  | some d=>
    rw[q] at e
    simp only[Option.map_some,Option.some.injEq,Prod.mk.injEq] at e
    obtain⟨e1,e2⟩:=e
    rw[<-e1,q,e2]
 ·cases e
theorem qM {β:Type}:∀{l:List (Str×β)}{x:Str}{c:β},(x,c)∈l->∃d,l.lookup x=some d
 |[],_,_,h=>nomatch h
 | (n,d)::r,x,c,h=>by
   by_cases e:x=n
   ·subst e;exact⟨d,by simp[List.lookup_cons]⟩
   ·have hb:(x==n)=false:=by simpa using e
    rcases List.mem_cons.mp h with q | q
    ·cases q;exact absurd rfl e
    ·obtain⟨d',hd⟩:=qM q
     exact⟨d',by simp[List.lookup_cons,hb,hd]⟩
theorem u5 {sc:Scope}{env:Env}{x:Str}{c:Addr} (h:(ccl sc env).lookup x=some c):env.cells.lookup x=some c:=Ik (f:=fun n=>env.cells.lookup n) sc.names x c h
theorem Pj {sc:Scope}{env:Env}{x:Str}{c:Addr} (hx:(x,NameKind.free)∈sc.names) (hc:env.cells.lookup x=some c):(ccl sc env).lookup x=some c:=by
 have hm:(x,c)∈ccl sc env:=by
  unfold ccl
  rw[List.mem_reverse,List.mem_filterMap]
  exact⟨(x, .free),hx,by simp[hc]⟩
 obtain⟨d,hd⟩:=qM hm
 have:=u5 hd
 rw[hc] at this
 rw[hd,this]
theorem sZ {env:Env}:∀{names:List (Str×NameKind)}{x:Str}{k:NameKind},
 (names.map fun(n,k)=>if(k==NameKind.free&&env.scope.kind== .function&&env.kindOf n==some .cell) then(n,NameKind.cell) else(n,k)).lookup x=some k->
 names.lookup x=some k\/(k= .cell/\names.lookup x=some .free)
 |[],_,_,h=>by simp at h
 | (n,q)::r,x,k,h=>by
   have ih:=@sZ env r x k
   rw[List.map_cons] at h
   cases hx:x==n with
   | true=>
     by_cases hc:(q==NameKind.free&&env.scope.kind== .function&&env.kindOf n==some .cell)=true
     ·simp only[hc,if_true,List.lookup_cons,hx,Option.some.injEq] at h
      have hq:q= .free:=by
       have:=(Bool.and_eq_true _ _▸(Bool.and_eq_true _ _▸hc).1).1
       simpa using this
      subst hq
      exact .inr ⟨h.symm,by simp[List.lookup_cons,hx]⟩
     ·simp only[hc,if_false,List.lookup_cons,hx,Option.some.injEq,Bool.false_eq_true] at h
      subst h
      exact .inl (by simp[List.lookup_cons,hx])
   | false=>
     have h':(r.map fun(n,k)=>if(k==NameKind.free&&env.scope.kind== .function&&env.kindOf n==some .cell) then(n,NameKind.cell) else(n,k)).lookup x=some k:=by
      by_cases hc:(q==NameKind.free&&env.scope.kind== .function&&env.kindOf n==some .cell)=true
      ·simpa only[hc,if_true,List.lookup_cons,hx] using h
      ·simpa only[hc,if_false,List.lookup_cons,hx,Bool.false_eq_true] using h
     rcases ih h' with z | ⟨z1,z2⟩
     ·exact .inl (by simp[List.lookup_cons,hx,z])
     ·exact .inr ⟨z1,by simp[List.lookup_cons,hx,z2]⟩
theorem u6 {env:Env}:∀{names:List (Str×NameKind)}{x:Str},names.lookup x=some .free->
 (names.map fun(n,k)=>if(k==NameKind.free&&env.scope.kind== .function&&env.kindOf n==some .cell) then(n,NameKind.cell) else(n,k)).lookup x=some .cell\/
 (names.map fun(n,k)=>if(k==NameKind.free&&env.scope.kind== .function&&env.kindOf n==some .cell) then(n,NameKind.cell) else(n,k)).lookup x=some .free
 |[],_,h=>by simp at h
 | (n,q)::r,x,h=>by
   have ih:=@u6 env r x
   rw[List.map_cons]
   cases hx:x==n with
   | true=>
     simp only[List.lookup_cons,hx,Option.some.injEq] at h
     subst h
     by_cases hc:(NameKind.free==NameKind.free&&env.scope.kind== .function&&env.kindOf n==some .cell)=true
     ·exact .inl (by simp only[hc,if_true,List.lookup_cons,hx])
     ·exact .inr (by simp only[hc,if_false,List.lookup_cons,hx,Bool.false_eq_true])
   | false=>
     simp only[List.lookup_cons,hx] at h
     by_cases hc:(q==NameKind.free&&env.scope.kind== .function&&env.kindOf n==some .cell)=true
     ·simpa only[hc,if_true,List.lookup_cons,hx] using ih h
     ·simpa only[hc,if_false,List.lookup_cons,hx,Bool.false_eq_true] using ih h
def iD (X:Cx) (N:List Str) (sc:Scope) (pins:List (Addr×Obj)) (C:Addr) (s₀:Shared) (H₀:Hp) (fp:List Addr):Cx:=
 {X with N:=N,s₀:=s₀,H₀:=H₀,env:=compEnvC sc (ccl sc X.env) C X.env,outer:=X.stack,ex:=fp,fn:=fun _=>false,pn:=X.pn++pins,xe:=fun _ _=>False}
structure wF (X:Cx) (n:Nat) (fr:List Nat) (N:List Str) (sc:Scope):Prop where
 kind:sc.kind= .function
 nocell:∀p∈sc.names,p.2≠ .cell
 own:∀p∈sc.names,p.2= .local->sc.names.lookup p.1=some .local
 out:∀p∈sc.names,p.2= .free->X.env.kindOf p.1=some .cell\/X.env.kindOf p.1=some .free
 len:N.length=n+fr.length
 free:∀i x,N[n+i]? =some x->(x,NameKind.free)∈sc.names/\sc.names.lookup x=some .free/\∃j,fr[i]? =some j/\X.N[j]? =some x
def CS0 (scX:Scope) (NX:List Str) (n:Nat) (fr:List Nat) (N:List Str) (sc:Scope):Prop:=
 sc.kind= .function/\(∀p∈sc.names,p.2≠ .cell)/\(∀p∈sc.names,p.2= .local->sc.names.lookup p.1=some .local)/\
 (∀p∈sc.names,p.2= .free->scX.names.lookup p.1=some .cell\/scX.names.lookup p.1=some .free)/\N.length=n+fr.length/\
 (∀x∈N.drop n,(x,NameKind.free)∈sc.names/\sc.names.lookup x=some .free)/\(N.drop n).map some=fr.map fun j=>NX[j]?
instance {scX:Scope}{NX:List Str}{n:Nat}{fr:List Nat}{N:List Str}{sc:Scope}:Decidable (CS0 scX NX n fr N sc):=by unfold CS0;exact inferInstance
theorem Ew {X:Cx}{scX:Scope}{NX:List Str}{n:Nat}{fr:List Nat}{N:List Str}{sc:Scope} (h1:X.env.scope=scX) (h2:X.N=NX) (h:CS0 scX NX n fr N sc):wF X n fr N sc:=by
 obtain⟨a,b,c,d,e,f,g⟩:=h
 refine⟨a,b,c,fun p hp z=> ?_,e,fun i x hx=> ?_⟩
 ·have q:=d p hp z
  rw[<-h1] at q
  exact q
 ·have hd:(N.drop n)[i]? =some x:=by rw[List.getElem?_drop];exact hx
  obtain⟨f1,f2⟩:=f x (List.mem_of_getElem? hd)
  refine⟨f1,f2, ?_⟩
  have q:((N.drop n).map some)[i]? =some (some x):=by rw[List.getElem?_map,hd];rfl
  rw[g,List.getElem?_map] at q
  cases z:fr[i]? with
  | none=>rw[z] at q;cases q
  | some j=>
    rw[z] at q
    refine⟨j,rfl, ?_⟩
    rw[h2]
    exact Option.some.inj q
def cst (n:Nat) (fr:List Nat) (σ:St):St:=List.replicate n none++fr.map fun j=>(σ[j]?).getD none
theorem Gj {X:Cx}{n:Nat}{fr:List Nat}{N:List Str}{sc:Scope} (S:wF X n fr N sc) (ok:X.Ok):closureFor sc X.env=pure (ccl sc X.env):=
 K6 fun p hp e=>ok.has p.1 (S.out p hp e)
section
variable {X:Cx}{n:Nat}{fr:List Nat}{N:List Str}{sc:Scope}{pins:List (Addr×Obj)}{σ:St}{H:Hp}{s:Shared}{fp:List Addr}{h₁:Heap}{tk:Nat}
theorem Nk (S:wF X n fr N sc) (I:Inv X pins σ H s) (hf:∀b∈fp,Dn X pins H b) (hlt:∀b∈fp,b<s.heap.objs.size)
 (hn:h₁.Ns s.heap.objs.size (fun _=>none)) (hk:∀b o,s.heap.get? b=some o->h₁.get? b=some o):
 Inv (iD X N sc pins s.heap.objs.size s H fp) [] (cst n fr σ) H {s with heap:=h₁,toks:=tk}:=by
 have hsub:∀b∈frs X.stack,b∈X.env.locals::X.fs:=I.JC
 refine⟨⟨I.ok.mod, ?_,I.ok.glob,I.ok.blt,Nat.le_refl _,fun x y c h1 h2=> ?_,fun x hx=> ?_,fun x c z=>(by cases z),I.ok.hd,I.ok.frames, .inl rfl,fun b hb=>⟨?_,fun x c e=> ?_⟩,fun b o e=>I.bs b o e,Nat.le_trans I.ok.bsz I.sz,fun b o e hb=> ?_,fun b hb hz=> ?_,I.stack,I.Oz⟩,
  rfl,I.bare,Un.kept hk,⟨_,hn,fun i x v e1 e2 e3=> ?_⟩,fun x c e=> ?_,I.hok.fresh (Nat.le_refl _),fun x c e=> ?_,fun p hp=> ?_,I.hok.kept hk, ?_⟩
 ·exact S.kind
 ·exact I.ok.inj x y c (u5 h1) (u5 h2)
 ·have hx':(relabel sc X.env).names.lookup x=some .cell\/(relabel sc X.env).names.lookup x=some .free:=hx
  have fr':sc.names.lookup x=some .free:=by
   rcases hx' with z | z
   ·rcases sZ z with q | ⟨_,q⟩
    ·exact absurd rfl (S.nocell _ (PySem.mem_of_lookup q))
    ·exact q
   ·rcases sZ z with q | ⟨q,_⟩
    ·exact q
    ·cases q
  obtain⟨c,hc⟩:=I.ok.has x (S.out _ (PySem.mem_of_lookup fr') rfl)
  exact⟨c,Pj (PySem.mem_of_lookup fr') hc⟩
 ·exact Nat.ne_of_lt (hlt b hb)
 ·exact(hf b hb).2.2.2.2.1 x c (u5 e)
 ·rcases(hf b hb).2.2.2.1 with z | z
  ·exact I.ok.noex b o e z
  ·exact absurd (Nat.lt_of_lt_of_le (Heap.lt_size e) (Nat.le_trans I.ok.bsz z)) (Nat.lt_irrefl _)
 ·rcases List.mem_cons.mp (hsub b hz) with z | z
  ·exact(hf b hb).2.1 z
  ·exact(hf b hb).2.2.1 z
 ·have e1':N[i]? =some x:=e1
  have hi:n<=i:=by
   apply Nat.le_of_not_lt
   intro hlt
   unfold cst at e2
   rw[List.getElem?_append_left (by simpa using hlt),List.getElem?_replicate] at e2
   split at e2<;>cases e2
  obtain⟨j,rfl⟩:∃j,i=n+j:=⟨i - n,by omega⟩
  obtain⟨hm,hl,q,hq,hX⟩:=S.free j x e1'
  have e2':(σ[q]?).getD none=some v:=by
   unfold cst at e2
   rw[List.getElem?_append_right (by simp)] at e2
   simp only[List.length_replicate,Nat.add_sub_cancel_left,List.getElem?_map,hq,Option.map_some,Option.some.injEq] at e2
   exact e2
  have hσ:σ[q]? =some (some v):=by
   cases z:σ[q]? with
   | none=>rw[z] at e2';cases e2'
   | some w=>rw[z] at e2';simp only[Option.getD_some] at e2';rw[e2']
  have ko:=S.out _ hm rfl
  have hv:Vis X.env.scope x:=by
   rcases ko with z | z
   ·exact .inr (.inl z)
   ·exact .inr (.inr z)
  obtain⟨m,_,hloc⟩:=I.loc
  obtain⟨u,r,l⟩:=hloc q x v hX hσ hv
  refine⟨u,r, .inr ⟨?_, ?_⟩⟩
  ·exact u6 hl
  ·rcases l with⟨k,_⟩ | ⟨_,c,hc,hcell⟩
   ·rcases ko with z | z<;>(rw[k] at z;cases z)
   ·refine⟨c,Pj hm hc, ?_⟩
    obtain⟨o,ho,hd⟩:=hcell
    exact⟨o,hk c o ho,hd⟩
 ·obtain⟨v,o,ho,hd⟩:=I.cell x c (u5 e)
  exact⟨v,o,hk c o ho,hd⟩
 ·exact I.wB x c (u5 e)
 ·have hp':p∈X.pn++pins:=by
   have z:p∈(X.pn++pins)++[]:=hp
   rwa [List.append_nil] at z
  obtain⟨e,hn',ne,nf,d⟩:=I.pin p hp'
  refine⟨hk p.1 p.2 e,hn',Nat.ne_of_lt (Heap.lt_size e),fun hz=> ?_,d⟩
  rcases List.mem_cons.mp (hsub p.1 hz) with z | z
  ·exact ne z
  ·exact nf z
 ·show(cst n fr σ).length=N.length
  unfold cst
  rw[List.length_append,List.length_replicate,List.length_map,S.len]
theorem comp_back {C:Addr}{σ':St}{H':Hp}{s':Shared}{pins':List (Addr×Obj)} (I:Inv X pins σ H s) (hf:∀b∈fp,Dn X pins H b) (J:Inv (iD X N sc pins C s H fp) pins' σ' H' s'):Inv X pins σ H' s':=
 I.call' (ch:=fp) J.os J.base J.hok J.bare fun b hb=>⟨(hf b hb).2.2.2.1,(hf b hb).2.1,(hf b hb).2.2.2.2.1,(hf b hb).2.2.2.2.2⟩
end
def Rc (X:Cx) (ifs:List Expr) (t:TT):Prop:=
 ∀(pins:List (Addr×Obj)) (s:Shared) (σ:St) (H:Hp) (Q:Bool->Hp->Prop),Inv X pins σ H s->t σ H Q->
  wpAny (model X.prog X.w) X.A (forIn ifs true fun c r=>if r=true then do let ok <-isTrue c X.env (eval c X.env);pure (ForInStep.yield ok) else pure (ForInStep.yield r)) (TP X pins σ Q) X.xe s
def Yx:TT:=fun _ H Q=>Q true H
theorem Sw {X:Cx}:Rc X [] Yx:=fun _ _ _ H _ I h=>wpAny_pure ⟨H,I,h⟩
theorem Sx {X:Cx}{c:Expr}{t:TT} (hc:PT X c t):Rc X [c] t:=by
 intro pins s σ H Q I h
 rw[List.forIn_cons]
 refine wpAny_bind ?_
 rw[if_pos rfl]
 refine wpAny_bind (thn (hc pins s σ H Q I h) fun b s1 q=>wpAny_pure ?_)
 exact wpAny_pure q
def Jp (J:It) (g:TG) (tc:TT) (te:TE) (D:Addr) (σ:St) (H:Hp) (Q:VK):Prop:=
 ∃W:Nat->Nat->St->Hp->Prop,(∃m,W 0 m σ H)/\∀i m σ' H',W i m σ' H'->
  (J.stop i H'/\Q (.ref D) H')\/(J.go i H'/\∃N:St->Hp->Prop,(∀σ3 H3,N σ3 H3->∃m',m'<m/\W (i+1) m' σ3 H3)/\∀x H2,J.yld i H' x H2->g x σ' H2 fun σ3 H3=>tc σ3 H3 fun b H4=>
    if b=true then te σ3 H4 fun y H5=>∃ys,H5 D=some (.lst ys)/\ys.length<sizeLine/\N σ3 (upd H5 D (.lst (ys++[y])))
    else N σ3 H4)
def Pk (wi:TI) (n:Nat) (fr:List Nat) (g:TG) (tc:TT) (te:TE):TE:=fun σ H Q=>wi σ H fun J H1=>∀D,H1 D=none->Jp J g tc te D (cst n fr σ) (upd H1 D (.lst [])) Q
section
variable {X:Cx}{n:Nat}{fr:List Nat}{N:List Str}{sc:Scope}{elt tg iter:Expr}{ifs:List Expr}{pos:Pos}{wi:TI}{g:TG}{tc:TT}{te:TE}
theorem K7 {pins:List (Addr×Obj)}{σ:St}{H:Hp}{s:Shared}{fp:List Addr}{it:Addr}{tn:Nat->Heap->Prop}{J:It}{Q:VK}{E:Value->Shared->Prop}{RR:Value->Addr->Result->Shared->Prop}
 (hc:X.calm=true) (S:wF X n fr N sc)
 (hg:∀C s₀ H₀ fp,PG (iD X N sc pins C s₀ H₀ fp) tg g) (hi:∀C s₀ H₀ fp,Rc (iD X N sc pins C s₀ H₀ fp) ifs tc) (he:∀C s₀ H₀ fp,PE (iD X N sc pins C s₀ H₀ fp) elt te)
 (I:Inv X pins σ H s) (T:Turn X.prog X.w X.K tg J fp it tn) (st:tn 0 s.heap) (hf:∀b∈fp,Dn X pins H b)
 (h:∀D,H D=none->Jp J g tc te D (cst n fr σ) (upd H D (.lst [])) Q)
 (hR:∀D C H' s',Inv X pins σ H' s'->Dn X pins H' C->(∃m,s'.heap.Ns C m)->Q (.ref D) H'->RR (.ref D) C (.ok .next) s'):
 wpAny (model X.prog X.w) X.A (newList []) (fun acc s₃=>wpAny (model X.prog X.w) X.A (newFunctionEnv sc X.env.globals (ccl sc X.env) [] X.env.qual none .none (some X.env)) (fun cenv s₄=>
  codeAny (model X.prog X.w) X.A (.compStart (.ListComp elt [⟨tg,iter,ifs,0⟩] sc pos) 0 (.ref it) acc {cenv with scope:=relabel sc X.env}) (RR acc cenv.locals) s₄) E s₃) E s:=by
 have hfree:H s.heap.objs.size=none:=I.hok.fresh (Nat.le_refl _)
 have hltf:∀b∈fp,b<s.heap.objs.size:=fun b hb=>by
  obtain⟨o,e,_⟩:=T.obj 0 s.heap st b hb
  exact Heap.lt_size e
 obtain⟨W,⟨m0,w0⟩,turn⟩:=h s.heap.objs.size hfree
 refine wpAny_newObj_type (wpAny_newFunctionEnv S.nocell (by intro y hy;simp at hy) (fun h₁ hns₁ hsb₁=> ?_) S.kind)
 dsimp only at hns₁ hsb₁ ⊢
 have I3:Inv X pins σ (upd H s.heap.objs.size (.lst [])) {s with heap:=s.heap.push {cls:= .type "list",dict:=none,data:= .seq ([]:List Value).toArray}}:=
  I.laid (t':=s.toks) (fun b u e=>Heap.get?_push_of_some _ e) (Nat.le_refl _) ⟨Nat.zero_le _,[],0, .nil,Heap.get?_push_size _ rfl⟩
 have hf3:∀b∈fp,Dn X pins (upd H s.heap.objs.size (.lst [])) b:=fun b hb=>⟨by rw[au (Nat.ne_of_lt (hltf b hb))];exact(hf b hb).1,(hf b hb).2⟩
 generalize hs3:({s with heap:=s.heap.push {cls:= .type "list",dict:=none,data:= .seq ([]:List Value).toArray}}:Shared)=s3 at *
 have e3:s3.heap=s.heap.push {cls:= .type "list",dict:=none,data:= .seq ([]:List Value).toArray}:=by rw[<-hs3]
 have et:s3.toks=s.toks:=by rw[<-hs3]
 have adC:∀b∈fp,b<s3.heap.objs.size:=fun b hb=>by rw[e3,Heap.size_push];exact Nat.lt_succ_of_lt (hltf b hb)
 have hk3:∀b o,s3.heap.get? b=some o->h₁.get? b=some o:=fun b o e=>hsb₁.extBut b o (by rw[<-e3];exact Nat.ne_of_lt (Heap.lt_size e)) (by rw[<-e3];exact Heap.get?_push_of_some _ e)
 have ahv:h₁.Ns s3.heap.objs.size (fun _=>none):=by rw[e3];exact hns₁
 have I4:=Nk (tk:=s.toks+([]:List (Str×Value)).length) S I3 hf3 adC ahv hk3
 have hDk:∀b o,s.heap.get? b=some o->h₁.get? b=some o:=fun b o e=>hk3 b o (by rw[e3];exact Heap.get?_push_of_some _ e)
 have st4:tn 0 h₁:=T.keep 0 s.heap h₁ st fun b hb o e=>hDk b o e
 have hfX:∀{H':Hp},(∀b∈fp,H' b=none)->∀b∈fp,Dn (iD X N sc pins s3.heap.objs.size s3 (upd H s.heap.objs.size (.lst [])) fp) [] H' b:=fun{H'} hn b hb=>by
  refine⟨hn b hb,Nat.ne_of_lt (adC b hb),fun z=> ?_, .inl hb,fun x c e=>(hf3 b hb).2.2.2.2.1 x c (u5 e),fun p hp=> ?_⟩
  ·rcases List.mem_cons.mp (I3.JC b z) with q | q
   ·exact(hf3 b hb).2.1 q
   ·exact(hf3 b hb).2.2.1 q
  ·have hp':p∈(X.pn++pins)++[]:=hp
   rw[List.append_nil] at hp'
   exact(hf3 b hb).2.2.2.2.2 p hp'
 have loop:∀s₄:Shared,s₄={s3 with heap:=h₁,toks:=s.toks+([]:List (Str×Value)).length}->
  codeAny (model X.prog X.w) X.A (.compLoop (.ListComp elt [⟨tg,iter,ifs,0⟩] sc pos) 0 (.ref it) (.ref s.heap.objs.size) (compEnvC sc (ccl sc X.env) s3.heap.objs.size X.env)) (RR (.ref s.heap.objs.size) s3.heap.objs.size) s₄:=by
  rintro s₄ rfl
  refine codeAny_loop rfl (fun k s'=>∃i σ' H',Inv (iD X N sc pins s3.heap.objs.size s3 (upd H s.heap.objs.size (.lst [])) fp) [] σ' H' s'/\tn i s'.heap/\(∀b∈fp,H' b=none)/\W i k σ' H') ?_ m0
   ⟨0,_,_,I4,st4,fun b hb=>(hf3 b hb).1,w0⟩
  rintro k s5 ⟨i,σ5,H5,I5,st5,fr5,w5⟩
  show wpAny _ X.A ((compTurn (.ListComp elt [⟨tg,iter,ifs,0⟩] sc pos) 0 (.ref it) (.ref s.heap.objs.size) (compEnvC sc (ccl sc X.env) s3.heap.objs.size X.env)).onRaise (fun x=>do noteFrame x (compEnvC sc (ccl sc X.env) s3.heap.objs.size X.env);theTreesLotGoes x)) _ _ s5
  refine wpAny_noted ?_
  rw[compTurn_list]
  refine wpAny_bind (wpAny_standAt (wpAny_bind ?_))
  have nev:∀{α:Type}{t:Sem α}{Q₁:α->Shared->Prop}{E₁:Value->Shared->Prop}{s₁:Shared},wpAny (model X.prog X.w) X.A t Q₁ (fun _ _=>False) s₁->wpAny (model X.prog X.w) X.A t Q₁ E₁ s₁:=fun h=>wpAny_noRaise h
  rcases turn i k σ5 H5 w5 with⟨stop,qn⟩ | ⟨go,Nn,hN,step⟩
  ·refine nev (thn (T.done (iD X N sc pins s3.heap.objs.size s3 (upd H s.heap.objs.size (.lst [])) fp) rfl rfl rfl hc i [] s5 σ5 H5 (fun _ _=>False) I5 (hfX fr5) st5 stop) fun r s6 ⟨hr,I6⟩=> ?_)
   subst hr
   have B:Inv X pins σ H5 s6:=comp_back I3 hf3 I6
   refine wpAny_pure (hR _ _ H5 s6 B (I3.MP (Nat.le_refl _) I6.free) ?_ qn)
   obtain⟨m,hm,_⟩:=I6.loc
   exact⟨m,hm⟩
  ·refine nev (thn (T.item (iD X N sc pins s3.heap.objs.size s3 (upd H s.heap.objs.size (.lst [])) fp) rfl rfl rfl hc i [] s5 σ5 H5 (fun _ _=>False) I5 (hfX fr5) st5 go) fun r s6 ⟨u,hr,h6⟩=> ?_)
   subst hr
   refine wpAny_bind (nev (thn h6 fun _ s7 ⟨x,H7,I7,r7,y7,st7,fr7⟩=> ?_))
   have I7':=I7.pinned (hfX fr7) (T.obj _ _ st7)
   refine wpAny_bind (nev (thn (hg _ _ _ _ _ s7 σ5 H7 x u _ I7' r7 (step x H7 y7)) fun _ s8 ⟨σ8,H8,I8,q8⟩=> ?_))
   refine wpAny_bind (nev (thn (hi _ _ _ _ _ s8 σ8 H8 _ I8 q8) fun b s9 ⟨H9,I9,q9⟩=> ?_))
   have fin:∀{s10:Shared}{H10:Hp}{m':Nat},m'<k->Inv (iD X N sc pins s3.heap.objs.size s3 (upd H s.heap.objs.size (.lst [])) fp) ([]++Gb fp s7.heap) σ8 H10 s10->W (i+1) m' σ8 H10->
    ∃m,m<k/\∃i σ' H',Inv (iD X N sc pins s3.heap.objs.size s3 (upd H s.heap.objs.size (.lst [])) fp) [] σ' H' s10/\tn i s10.heap/\(∀b∈fp,H' b=none)/\W i m σ' H':=fun{s10 H10 m'} hm I10 w10=>by
    refine⟨m',hm,i+1,σ8,H10,I10.unpinned,T.keep _ _ _ st7 fun b hb o e=>(I10.pin (b,o) (List.mem_append_right _ (List.mem_append_right _ (uZ hb e)))).1,fun b hb=> ?_,w10⟩
    obtain⟨o,e,d⟩:=T.obj _ _ st7 b hb
    exact(I10.pin (b,o) (List.mem_append_right _ (List.mem_append_right _ (uZ hb e)))).2.1
   cases b with
   | false=>
     rw[if_neg Bool.false_ne_true] at q9
     obtain⟨m',hm,w9⟩:=hN _ _ q9
     exact wpAny_pure ⟨rfl,fin hm I9 w9⟩
   | true=>
     rw[if_pos rfl] at q9
     refine wpAny_bind (wpAny_bind (nev (thn (he _ _ _ _ _ s9 σ8 H9 _ I9 q9) fun v s10 ⟨y,H10,I10,r10,q10⟩=> ?_)))
     obtain⟨ys,hy,hz,n10⟩:=q10
     obtain⟨m',hm,w10⟩:=hN _ _ n10
     refine wpAny_bind (nev (thn (Ji _ s10 σ8 H10 (.ref s.heap.objs.size) [y] (.ref s.heap.objs.size) [v] (fun z H'=>H'=upd H10 s.heap.objs.size (.lst (ys++[y]))) I10 rfl (.cons r10 .nil) ⟨_,ys,y,rfl,rfl,hy,hz,rfl⟩) fun z s11 ⟨_,H11,I11,_,e11⟩=> ?_))
     subst e11
     exact wpAny_pure (wpAny_pure ⟨rfl,fin hm I11 w10⟩)
 subst hs3
 exact codeAny_compStart_list (loop _ rfl) (T.self _ 0 _ _ _ st4 (loop _ rfl))
theorem V5 (hc:X.calm=true) (S:wF X n fr N sc) (hit:PI X tg iter wi)
 (hg:∀pins C s₀ H₀ fp,PG (iD X N sc pins C s₀ H₀ fp) tg g) (hi:∀pins C s₀ H₀ fp,Rc (iD X N sc pins C s₀ H₀ fp) ifs tc) (he:∀pins C s₀ H₀ fp,PE (iD X N sc pins C s₀ H₀ fp) elt te)
 (hs:∀x,foldedSetIterable iter X.env x=pure x:=by intro _;rfl):PE X (.ListComp elt [⟨tg,iter,ifs,0⟩] sc pos) (Pk wi n fr g tc te):=by
 intro pins s σ H Q I h
 rw[eval_ListComp]
 refine wpAny_comprehension_free (use:=none) rfl hs (Gj S I.ok) S.kind S.own ?_
 refine thn (hit pins s σ H _ I h) fun v s1 h1=>thn h1 fun itv s2 h2=> ?_
 obtain⟨it,fp,tn,J,H2,e,I2,T,st2,f2,q2⟩:=h2
 subst e
 refine K7 (RR:=fun acc C=>compPost (model X.prog X.w) X.A X.xe none (EP X pins σ Q) acc C) hc S (hg pins) (hi pins) (he pins) I2 T st2 f2 q2 fun D C H' s' I' fC hm q=> ?_
 obtain⟨m,hm⟩:=hm
 refine⟨m,hm,fun h' hs'=>⟨.ref D,H',I'.turned (t':=s'.toks) (fun b o hb e=>(hs'.2 b hb).trans e) fC.1 fC.2.1 fC.2.2.2.1 fC.2.2.2.2.1 fC.2.2.2.2.2,rfl,q⟩⟩
theorem Nm {i:Nat}{x:Str}{pos' spos:Pos} (hc:X.calm=true) (hN:X.N.Nodup) (hi':X.N[i]? =some x) (hx:Loc X.env.scope x) (S:wF X n fr N sc) (hit:PI X tg iter wi)
 (hg:∀pins C s₀ H₀ fp,PG (iD X N sc pins C s₀ H₀ fp) tg g) (hi:∀pins C s₀ H₀ fp,Rc (iD X N sc pins C s₀ H₀ fp) ifs tc) (he:∀pins C s₀ H₀ fp,PE (iD X N sc pins C s₀ H₀ fp) elt te)
 (hsw:swapsWith (.ListComp elt [⟨tg,iter,ifs,0⟩] sc pos) (some (.Name x pos')) spos.line X.env=pure true)
 (hs:∀x,foldedSetIterable iter X.env x=pure x:=by intro _;rfl) (hf:X.fn x=true\/X.env.scope.names.lookup x=some .local:=by first | exact .inl rfl | exact .inr rfl | assumption):
 PS X (.Assign [.Name x pos'] (.ListComp elt [⟨tg,iter,ifs,0⟩] sc pos) spos) (QB (Pk wi n fr g tc te) (Bs i)):=by
 intro pins s σ H D I h
 rw[exec_Assign_Name_used _ _ _ _ hsw]
 refine wpAny_bind (wpAny_standAt (wpAny_bind ?_))
 show wpAny _ X.A (do let _ <-comprehension (.ListComp elt [⟨tg,iter,ifs,0⟩] sc pos) sc X.env _ (newList []) false (eval iter X.env) (some (assign (.Name x pos') X.env))) _ _ s
 refine wpAny_bind (wpAny_mono (wpAny_comprehension_free (use:=some (assign (.Name x pos') X.env)) (Q:=fun _ s'=>SP X pins D .next s') rfl hs (Gj S I.ok) S.kind S.own ?_) (fun _ s' hq=>wpAny_pure (wpAny_pure hq)) fun _ _ e=>e)
 refine thn (hit pins s σ H _ I h) fun v s1 h1=>thn h1 fun itv s2 h2=> ?_
 obtain⟨it,fp,tn,J,H2,e,I2,T,st2,f2,q2⟩:=h2
 subst e
 refine K7 (Q:=fun x H1=>Bs i x σ H1 D.nx) (RR:=fun acc C=>compPost (model X.prog X.w) X.A X.xe (some (assign (.Name x pos') X.env)) (fun _ s'=>SP X pins D .next s') acc C) hc S (hg pins) (hi pins) (he pins) I2 T st2 f2 q2 fun D' C H' s' I' fC hm q=> ?_
 obtain⟨m,hm⟩:=hm
 show wpAny _ X.A (assign (.Name x pos') X.env (.ref D')) _ _ _
 refine wpAny_assign_Name (Jb I' hN hi' hx (v:= .ref D') rfl (fun s'' I'' ch=> ?_) hf)
 obtain⟨a,hsb,ha⟩:=ch
 have hne:C≠a:=by
  rcases ha with z | z
  ·rw[z];exact fC.2.1
  ·exact fun z'=>fC.2.2.2.2.1 x a z z'.symm
 exact⟨m,hm.sameBut hsb hne,fun h' hs'=>⟨_,H',I''.turned (t':=s''.toks) (fun b o hb e=>(hs'.2 b hb).trans e) fC.1 fC.2.1 fC.2.2.2.1 fC.2.2.2.2.1 fC.2.2.2.2.2,q⟩⟩
end
theorem Gk {lo:Int}{n:Nat}{g:TG}{tc:TT}{te:TE}{σ:St}{H:Hp}{D:Addr}{Q:VK} (Pv:Nat->St->Hp->Prop) (h0:Pv 0 σ (upd H D (.lst [])))
 (hs:∀i σ' H',i<n->Pv i σ' H'->g (.int (lo+i)) σ' H' fun σ3 H3=>tc σ3 H3 fun b H4=>
   if b=true then te σ3 H4 fun y H5=>∃ys,H5 D=some (.lst ys)/\ys.length<sizeLine/\Pv (i+1) σ3 (upd H5 D (.lst (ys++[y]))) else Pv (i+1) σ3 H4) (hd:∀σ' H',Pv n σ' H'->Q (.ref D) H'):
 Jp (Itr lo n) g tc te D σ (upd H D (.lst [])) Q:=by
 refine⟨fun i m σ H=>m=n - i/\i<=n/\Pv i σ H,⟨n,by simp,Nat.zero_le _,h0⟩, ?_⟩
 rintro i m σ H ⟨rfl,hi,p⟩
 by_cases hlt:i<n
 ·refine .inr ⟨hlt,Pv (i+1),fun σ' H' p'=>⟨n - (i+1),by omega,rfl,hlt,p'⟩,fun x H' y=> ?_⟩
  obtain⟨e,y⟩:=y
  subst e y
  exact hs i σ _ hlt p
 ·have e:i=n:=by omega
  subst e
  exact .inl ⟨Nat.le_refl _,hd σ H p⟩
theorem Dr {K:PySem.W.Frag}{a:Addr}{xs:List V}{g:TG}{tc:TT}{te:TE}{σ:St}{H:Hp}{D:Addr}{Q:VK} (Pv:Nat->St->Hp->Prop) (h0:Pv 0 σ (upd H D (.lst []))) (hl:∀i σ H,i<=xs.length->Pv i σ H->SqL K H a xs)
 (hs:∀i x σ' H',xs[i]? =some x->Pv i σ' H'->g x σ' H' fun σ3 H3=>tc σ3 H3 fun b H4=>
   if b=true then te σ3 H4 fun y H5=>∃ys,H5 D=some (.lst ys)/\ys.length<sizeLine/\Pv (i+1) σ3 (upd H5 D (.lst (ys++[y]))) else Pv (i+1) σ3 H4) (hd:∀σ' H',Pv xs.length σ' H'->Q (.ref D) H'):
 Jp (Itl K a) g tc te D σ (upd H D (.lst [])) Q:=by
 refine⟨fun i m σ H=>m=xs.length - i/\i<=xs.length/\Pv i σ H,⟨xs.length,by simp,Nat.zero_le _,h0⟩, ?_⟩
 rintro i m σ H ⟨rfl,hi,p⟩
 have q:=hl i σ H hi p
 by_cases hlt:i<xs.length
 ·refine .inr ⟨⟨xs,xs[i],q,by simp[hlt]⟩,Pv (i+1),fun σ' H' p'=>⟨xs.length - (i+1),by omega,rfl,hlt,p'⟩,fun x H' y=> ?_⟩
  obtain⟨e,y⟩:=y
  subst e
  exact hs i x σ _ (y xs q) p
 ·have e:i=xs.length:=by omega
  subst e
  exact .inl ⟨⟨xs,q,Nat.le_refl _⟩,hd σ H p⟩
end L2
namespace L2
open PySem PySem.Spec PyProof.Rows
def aF (sc:Scope) (x:Str):Prop:=Vis sc x/\(x==("__debug__":Str))=false/\(x==("__classdict__":Str))=false
instance {sc:Scope}{x:Str}:Decidable (aF sc x):=by unfold aF Vis;exact inferInstance
instance {sc:Scope}{x:Str}:Decidable (Loc sc x):=by unfold Loc;exact inferInstance
theorem pvx {X:Cx} (i:Nat) {x:Str}{pos:Pos} (v:aF X.env.scope x) (hN:X.N[i]? =some x:=by rfl):PE X (.Name x pos) (ZQ i):=ZR hN v.1 v.2.1 v.2.2
def lD (sc:Scope) (x:Str):Prop:=(sc.names.lookup x=some .local\/sc.names.lookup x=some .free)/\(x==("__debug__":Str))=false/\(x==("__classdict__":Str))=false
instance {sc:Scope}{x:Str}:Decidable (lD sc x):=by unfold lD;exact inferInstance
theorem lD.ok {sc:Scope}{env:Env}{x:Str} (h:lD sc x):aF (relabel sc env) x:=by
 obtain⟨h1,h2⟩:=h
 refine⟨?_,h2⟩
 rcases h1 with h1 | h1
 ·exact .inl (lookup_relabel_local h1)
 ·rcases u6 (env:=env) h1 with z | z
  ·exact .inr (.inl z)
  ·exact .inr (.inr z)
theorem Bv {env:Env}:∀{names:List (Str×NameKind)}{x:Str},names.lookup x=some .globalImplicit->
 (names.map fun(n,k)=>if(k==NameKind.free&&env.scope.kind== .function&&env.kindOf n==some .cell) then(n,NameKind.cell) else(n,k)).lookup x=some .globalImplicit
 |[],_,h=>by simp at h
 | (n,q)::r,x,h=>by
   have ih:=@Bv env r x
   rw[List.map_cons]
   cases hx:x==n with
   | true=>
     simp only[List.lookup_cons,hx,Option.some.injEq] at h
     subst h
     simp[List.lookup_cons,hx]
   | false=>
     simp only[List.lookup_cons,hx] at h
     by_cases hc:(q==NameKind.free&&env.scope.kind== .function&&env.kindOf n==some .cell)=true
     ·simpa only[hc,if_true,List.lookup_cons,hx] using ih h
     ·simpa only[hc,if_false,List.lookup_cons,hx,Bool.false_eq_true] using ih h
theorem glC {X:Cx}{N:List Str}{sc:Scope}{pins:List (Addr×Obj)}{C:Addr}{s₀:Shared}{H₀:Hp}{fp:List Addr}{x:Str} (h:sc.names.lookup x=some .globalImplicit):Gl (iD X N sc pins C s₀ H₀ fp) x:=Bv h
theorem pgx {X:Cx}{i:Nat}{x:Str}{pos:Pos} (hN:X.N.Nodup) (hx:X.env.scope.names.lookup x=some .local) (hi:X.N[i]? =some x:=by rfl):PG X (.Name x pos) (Bs i):=O2 hN hi (.inl hx) (.inr hx)
theorem JL {sc:Scope}{env:Env}{x:Str} (h:sc.names.lookup x=some .local):(relabel sc env).names.lookup x=some .local:=lookup_relabel_local h
end L2
set_option maxRecDepth 100000
namespace L2
open PySem PySem.Spec PyProof.Rows
def Yy (_ j:Int):Prop:=0<j/\j.natAbs.log2<9000
theorem Sy {X:Cx}:OpR X (binaryOp .FloorDiv) (rI Yy fun i j=> .int (i / j)):=opI fun i j _ _ _ _ _ hc q=>by
 have h1:(0:Int)<j:=hc.1
 exact floordiv_int (by omega) (by rw[Int.fdiv_eq_ediv_of_nonneg i (by omega)];exact q) (.inl (PyProof.noPylong_of_log2 hc.2))
mutual
inductive oE (K:PySem.W.Frag) (H:Hp):V->PyData->Prop where
 | non:oE K H .non .none
 | bl (b:Bool):oE K H (.bl b) (.bool b)
 | int (i:Int):oE K H (.int i) (.int i)
 | str (x:Str):oE K H (.str x) (.str x)
 | lst {a:Addr}{xs:List V}{ds:List PyData} (h:SqL K H a xs) (r:wG K H xs ds):oE K H (.ref a) (.list ds)
 | tup {a:Addr}{xs:List V}{ds:List PyData} (h:SqT K H a xs) (r:wG K H xs ds):oE K H (.ref a) (.tuple ds)
inductive wG (K:PySem.W.Frag) (H:Hp):List V->List PyData->Prop where
 | nil:wG K H [] []
 | cons {x:V}{d:PyData}{xs:List V}{ds:List PyData} (h:oE K H x d) (r:wG K H xs ds):wG K H (x::xs) (d::ds)
end
theorem lE {K:PySem.W.Frag}{H:Hp}:∀ns:List Str,wG K H (ns.map V.str) (ns.map PyData.str)
 |[]=> .nil
 | n::r=> .cons (.str n) (lE r)
section
variable {X:Cx}{pins:List (Addr×Obj)}{σ:St}{H:Hp}{s:Shared}
mutual
theorem oE.reads (I:Inv X pins σ H s):∀{x:V}{d:PyData}{u:Value},oE X.K H x d->RelV x u->∃as,Reads s.heap u d as
 | _,_,_, .non,r=>by cases(show _=Value.none from r);exact⟨_, .none⟩
 | _,_,_, .bl b,r=>by cases(show _=Value.bool b from r);exact⟨_, .bool b⟩
 | _,_,_, .int i,r=>by obtain⟨t,rfl⟩:=r;exact⟨_, .int i t⟩
 | _,_,_, .str x,r=>by obtain⟨t,rfl⟩:=r;exact⟨_, .str x t⟩
 | _,_,_, .lst h q,r=>by
   cases(show _=Value.ref _ from r)
   obtain⟨its,rv,⟨o,n,e,c,_,d⟩,_⟩:=I.list h
   obtain⟨as,hr⟩:=wG.reads I q rv
   exact⟨_, .list e c d (by simpa using hr)⟩
 | _,_,_, .tup h q,r=>by
   cases(show _=Value.ref _ from r)
   obtain⟨its,rv,⟨o,e,c,n,d⟩,_⟩:=I.tuple h
   obtain⟨as,hr⟩:=wG.reads I q rv
   exact⟨_, .tuple e c d (by simpa using hr)⟩
theorem wG.reads (I:Inv X pins σ H s):∀{xs:List V}{ds:List PyData}{us:List Value},wG X.K H xs ds->Vals xs us->∃as,ReadsAll s.heap us ds as
 | _,_,_, .nil, .nil=>⟨_, .nil⟩
 | _,_,_, .cons h r, .cons q t=>by
   obtain⟨as,h1⟩:=oE.reads I h q
   obtain⟨bs,h2⟩:=wG.reads I r t
   exact⟨_, .cons h1 h2⟩
end
end
def V6 (K:PySem.W.Frag) (neg:Bool):R2:=fun x y H Q=>∃d e,oE K H x d/\oE K H y e/\SeqAt.shaped d=true/\SeqAt.shaped e=true/\Q (.bl (if neg then !PyData.eqv d e else PyData.eqv d e)) H
theorem SM {X:Cx} (hu:X.A.units+64<cLine):OpR X (compareOp .Eq) (V6 X.K false):=by
 intro pins s σ H x y v u Q I rx ry h
 obtain⟨d,e,hd,he,sd,se,q⟩:=h
 obtain⟨as,h1⟩:=hd.reads I rx
 obtain⟨bs,h2⟩:=he.reads I ry
 exact eq_dataH h1 h2 sd se hu ⟨.bl _,H,I,rfl,q⟩
theorem SN {X:Cx} (hu:X.A.units+64<cLine):OpR X (compareOp .NotEq) (V6 X.K true):=by
 intro pins s σ H x y v u Q I rx ry h
 obtain⟨d,e,hd,he,sd,se,q⟩:=h
 obtain⟨as,h1⟩:=hd.reads I rx
 obtain⟨bs,h2⟩:=he.reads I ry
 exact ne_dataH h1 h2 sd se hu ⟨.bl _,H,I,rfl,q⟩
theorem SQ {X:Cx}:qL X (.builtin "isinstance") (fun xs H Q=>∃x T t b,xs=[x, .ty T]/\sX X.K H x t/\PySem.W.kitOne X.K t (.type T)=some b/\Q (.bl b) H):=by
 intro pins s σ H xs us Q I r h
 obtain⟨x,T,t,b,rfl,ty,e,q⟩:=h
 obtain⟨u,v,rfl,r1,r2⟩:=Vals.two r
 cases(show v=Value.type T from r2)
 exact QV I r1 ty e fun tk=>⟨.bl b,H,I.tok tk,rfl,q⟩
theorem pO:bootBuiltins "len"=some (.builtin "len"):=by decide +kernel
theorem jt:bootBuiltins "isinstance"=some (.builtin "isinstance"):=by decide +kernel
theorem Np:bootBuiltins "max"=some (.builtin "max"):=by decide +kernel
theorem Ds:bootBuiltins "sorted"=some (.builtin "sorted"):=by decide +kernel
theorem aaG:bootBuiltins "all"=some (.builtin "all"):=by decide +kernel
theorem Gm:bootBuiltins "int"=some (.type "int"):=by decide +kernel
theorem SX:bootBuiltins "str"=some (.type "str"):=by decide +kernel
theorem V7:bootBuiltins "bool"=some (.type "bool"):=by decide +kernel
theorem u9:bootBuiltins "list"=some (.type "list"):=by decide +kernel
theorem Bw:bootBuiltins "tuple"=some (.type "tuple"):=by decide +kernel
theorem yp:bootBuiltins "dict"=some (.type "dict"):=by decide +kernel
theorem aaH:bootBuiltins "zip"=some (.type "zip"):=by decide +kernel
end L2
set_option maxRecDepth 100000
namespace L2
open PySem PySem.Spec PyProof.Rows
structure QE (X:Cx) (e:Expr) (t:TE):Prop where
 h:PE X e t
structure QT (X:Cx) (e:Expr) (t:TT):Prop where
 h:PT X e t
structure QW (X:Cx) (e:Expr) (t:TT):Prop where
 h:PW X e t
structure QA (X:Cx) (es:List Expr) (t:TA):Prop where
 h:PA X es t
structure QS (X:Cx) (s:Stmt) (t:TS):Prop where
 h:PS X s t
structure QSs (X:Cx) (s:List Stmt) (t:TS):Prop where
 h:PSs X s t
structure QG (X:Cx) (e:Expr) (t:TG):Prop where
 h:PG X e t
structure QGs (X:Cx) (es:List Expr) (t:TGs):Prop where
 h:PGs X es t
structure QI (X:Cx) (tg e:Expr) (t:TI):Prop where
 h:PI X tg e t
structure QO (X:Cx) (e:Option Expr) (t:TO):Prop where
 h:PO X e t
structure V8 (X:Cx) (es:List Expr) (t:TT):Prop where
 h:Rc X es t
structure QPs (X:Cx) (pos:Pos) (ks:List (Option Expr)) (vs:List Expr) (t:List (TE×TE)):Prop where
 h:PPs X pos ks vs t
structure QOp (X:Cx) (f:Value->Value->Sem Value) (r:R2):Prop where
 h:OpR X f r
structure QUn (X:Cx) (f:Value->Sem Value) (r:V->Hp->VK->Prop):Prop where
 h:UnR X f r
structure QIx (X:Cx) (r:R2):Prop where
 h:IxR X r
structure QSl (X:Cx) (r:V->Option Int->Option Int->Hp->VK->Prop):Prop where
 h:SlR X r
structure QMt (X:Cx) (id:String) (r:V->List V->Hp->VK->Prop):Prop where
 h:MtR X id r
structure qN (X:Cx) (f:Value) (r:List V->Hp->VK->Prop):Prop where
 h:qL X f r
section
variable {X:Cx}{a b c e:Expr}{es:List Expr}{ta tb te:TE}{tA tB':TT}{pos p:Pos}{x:Str}
theorem aj (i:Nat) (v:aF X.env.scope x) (hN:X.N[i]? =some x:=by rfl):QE X (.Name x pos) (ZQ i):=⟨pvx i v hN⟩
theorem aA {i j pos}:QE X (.Constant (.int i) j pos) (tC (.int i)):=⟨ZS⟩
theorem Pn {b j pos}:QE X (.Constant (.bool b) j pos) (tC (.bl b)):=⟨ac1⟩
theorem Nq {j pos}:QE X (.Constant .none j pos) (tC .non):=⟨ZV⟩
theorem bY {x j pos}:QE X (.Constant (.str x) j pos) (tC (.str x)):=⟨ZW⟩
theorem vd {v:V}{u:Value} (hg:Gl X x) (hm:X.mg x=none) (hv:bootBuiltins x=some u) (r:RelV v u) (hn:x≠"__name__") (hd:(x==("__debug__":Str))=false):QE X (.Name x pos) (tC v):=⟨Vl hg hm hv r hn hd⟩
theorem cT {op:Operator}{r:R2} (ho:QOp X (binaryOp op) r) (ha:QE X a ta) (hb:QE X b tb):QE X (.BinOp a op b pos) (tOp r ta tb):=⟨ac9 ho.h ha.h hb.h⟩
theorem Yz {op:UnaryOp}{r:V->Hp->VK->Prop} (ho:QUn X (unaryOp op) r) (ha:QE X a ta):QE X (.UnaryOp op a pos) (tUn r ta):=⟨ada ho.h ha.h⟩
theorem pP {op:CmpOp}{r:R2} (ho:QOp X (compareOp op) r) (ha:QE X a ta) (hb:QE X b tb) (hm:behindInMarks op b=false):QE X (.Compare a [op] [b] pos) (tOp r ta tb):=⟨Vu ho.h ha.h hb.h hm⟩
theorem cD {op:CmpOp}{r:R2} (ho:QOp X (compareOp op) r) (ha:QE X a ta) (hb:QE X b tb) (hm:behindInMarks op b=false):QT X (.Compare a [op] [b] pos) (Yp (tOp r ta tb)):=⟨Vv ho.h ha.h hb.h hm⟩
theorem qO (h:QE X e te) (he:∀whole,isTrue e X.env whole=(do let v <-whole;standAt e.pos;holding [v] (truthy v)):=by intro _;rfl):QT X e (tB te):=⟨ZX h.h he⟩
theorem Gn (ha:QE X a ta) (he:∀whole,isTrue a X.env whole=(do let v <-whole;standAt a.pos;holding [v] (truthy v)):=by intro _;rfl):QT X a (fun σ H Q=>ta σ H fun x H1=>∃k,aal X.K x H1 k/\Q k H1):=⟨RW ha.h he⟩
theorem Nr (ha:QT X a tA):QT X (.UnaryOp .Not a pos) (ac3 tA):=⟨Z1 ha.h⟩
theorem aaI (ha:QE X a ta):QE X (.UnaryOp .Not a pos) (Yh ta):=⟨Z4 ha.h⟩
theorem Bx (ha:QT X a tA):QW X (.BoolOp .And [a] pos) tA:=⟨Vm ha.h⟩
theorem Gp (ha:QT X a tA):QW X (.BoolOp .Or [a] pos) tA:=⟨ZZ ha.h⟩
theorem Gq {rest:List Expr} (ha:QT X a tA) (hb:QW X (.BoolOp .And (b::rest) pos) tB'):QW X (.BoolOp .And (a::b::rest) pos) (ac2 tA tB'):=⟨Z0 ha.h hb.h⟩
theorem Jq {rest:List Expr} (ha:QT X a tA) (hb:QW X (.BoolOp .Or (b::rest) pos) tB'):QW X (.BoolOp .Or (a::b::rest) pos) (tOr tA tB'):=⟨ac4 ha.h hb.h⟩
theorem Il (h:QW X e tA):QT X e tA:=⟨h.h.pt⟩
theorem JM {op} (h:QE X a ta):QE X (.BoolOp op [a] pos) ta:=⟨Z2 h.h⟩
theorem Gr {rest:List Expr} (ha:QE X a ta) (hb:QE X (.BoolOp .And (b::rest) pos) tb):QE X (.BoolOp .And (a::b::rest) pos) (Yg ta tb):=⟨Z3 ha.h hb.h⟩
theorem S9 (hc:QT X c tA) (ha:QE X a ta) (hb:QE X b tb):QE X (.IfExp c a b pos) (tIf tA ta tb):=⟨RG hc.h ha.h hb.h⟩
theorem az:QA X [] Vy:=⟨aaq⟩
theorem mY {t:TA} (ha:QE X e te) (hr:QA X es t) (hs:starEach (e::es) X.env=(false,eval e X.env)::starEach es X.env:=by rfl):QA X (e::es) (sH te t):=⟨Vz ha.h hr.h hs⟩
theorem ie {x1}{t:TA} (h:QA X es t):QE X (.Tuple es x1 pos) (adm t):=⟨aar h.h⟩
theorem gB {t:TA} (h:QA X es t):QE X (.List es pos) (adn t):=⟨aas h.h⟩
theorem aK {r:R2} (hr:QIx X r) (ha:QE X a ta) (hb:QE X b tb) (hs:O8 b:=by intro _ _;rfl):QE X (.Subscript a b pos) (tOp r ta tb):=⟨adp hr.h ha.h hb.h hs⟩
theorem V9:QO X none O7:=⟨VG⟩
theorem Wa (h:QE X e te):QO X (some e) (Ys te):=⟨VH h.h⟩
theorem Tc {r:V->Option Int->Option Int->Hp->VK->Prop}{lo hi:Option Expr}{tl th:TO}{p2:Pos} (hr:QSl X r) (he:QE X e te) (hl:QO X lo tl) (hu:QO X hi th):QE X (.Subscript e (.Slice lo hi none p2) pos) (tSl r te tl th):=⟨R8 hr.h he.h hl.h hu.h⟩
theorem cU (hu:X.A.units+1<cLine) (ho:QE X a ta) (hi:QE X b tb) (hs:aaB b:=by intro _ _;rfl):QE X (.Subscript a b pos) (Yu ta tb):=⟨VR hu ho.h hi.h hs⟩
theorem aaJ:QPs X pos [] [] []:=⟨V1⟩
theorem JN {k v:Expr}{ks:List (Option Expr)}{vs:List Expr}{tk tv:TE}{trs:List (TE×TE)} (hk:QE X k tk) (hv:QE X v tv) (hr:QPs X pos ks vs trs):QPs X pos (some k::ks) (v::vs) ((tk,tv)::trs):=⟨Ss hk.h hv.h hr.h⟩
theorem Wb {keys:List (Option Expr)}{values:List Expr}{trs:List (TE×TE)} (h:QPs X pos keys values trs) (hall:keys.all (·.isSome)=true:=by rfl) (hl:keys.length=values.length:=by rfl) (h1:keys≠[]:=by intro z;cases z) (h2:keys.length<=15:=by decide):QE X (.Dict keys values pos) (Yw trs):=⟨V2 h.h hall hl h1 h2⟩
theorem aL {CX:CXT}{k:Nat}{f:Addr}{fd:FuncData}{ps:List Str}{sp:Sp}{dvs:List V}{ds:List Value}{E:XK}{t:TA} (F:bh X.prog X.w X.K X.mg X.base CX k f fd ps sp) (hr:mJ k X.A) (hg:Gl X x) (hm:X.mg x=some (.ref f)) (hk:PySem.W.keepIn X.K (.ref f)=true) (hb:Binds X.K fd ps ds) (hd:Vals dvs ds) (hx:Passes CX X E)
 (ha:QA X (e::es) t) (hdb:(x==("__debug__":Str))=false) (he:starEach (e::es) X.env=(false,eval e X.env)::starEach es X.env:=by rfl) (hpl:(backTo pos (starEach es X.env)).any (·.1)=false:=by rfl):
 QE X (.Call (.Name x p) (e::es) [] pos) (Yq sp dvs E t):=⟨VB F hr hg hm hk hb hd hx ha.h hdb he hpl⟩
theorem cX {id:String}{r:List V->Hp->VK->Prop}{t:TA} (hc:qN X (.builtin id) r) (hg:Gl X x) (hm:X.mg x=none) (hv:bootBuiltins x=some (.builtin id)) (ha:QA X (e::es) t) (hn:x≠"__name__") (hdb:(x==("__debug__":Str))=false)
 (he:starEach (e::es) X.env=(false,eval e X.env)::starEach es X.env:=by rfl) (hpl:(backTo pos (starEach es X.env)).any (·.1)=false:=by rfl):QE X (.Call (.Name x p) (e::es) [] pos) (tCB r t):=⟨R7 hc.h hg hm hv ha.h hn hdb he hpl⟩
theorem fj {T:String}{r:List V->Hp->VK->Prop}{t:TA} (hc:qN X (.type T) r) (hg:Gl X x) (hm:X.mg x=none) (hv:bootBuiltins x=some (.type T)) (ha:QA X (e::es) t) (hn:x≠"__name__") (hdb:(x==("__debug__":Str))=false)
 (he:starEach (e::es) X.env=(false,eval e X.env)::starEach es X.env:=by rfl) (hpl:(backTo pos (starEach es X.env)).any (·.1)=false:=by rfl):QE X (.Call (.Name x p) (e::es) [] pos) (tCB r t):=⟨QZ hc.h hg hm hv ha.h hn hdb he hpl⟩
theorem Dt {o:Expr}{to:TE}{name:Str}{apos cpos:Pos}{T id:String}{r:V->List V->Hp->VK->Prop} (pa:PlainAttrs T) (slot:Slot T name id) (hty:typeOf (.builtin id)=pure (.type "method_descriptor")) (hm:QMt X id r) (ho:QE X o to)
 (hbase:attributeBase o name X.env (eval o X.env)=eval o X.env:=by rfl) (hline:(apos.endLine==cpos.line)=true:=by rfl):QE X (.Call (.Attribute o name apos) [] [] cpos) (adu X.K T r to):=⟨aay pa slot hty hm.h ho.h hbase hline⟩
theorem qP {o:Expr}{to:TE}{name:Str}{apos cpos:Pos}{T id:String}{r:V->List V->Hp->VK->Prop}{t:TA} (pa:PlainAttrs T) (slot:Slot T name id) (hty:typeOf (.builtin id)=pure (.type "method_descriptor")) (hm:QMt X id r) (ho:QE X o to) (ha:QA X (e::es) t)
 (hbase:attributeBase o name X.env (eval o X.env)=eval o X.env:=by rfl)
 (hfew:((backTo cpos (starEach (e::es) X.env)).all (fun x=> !x.1)&&(backToKw cpos (keywordEach [] X.env)).all (fun x=>x.1.isSome)
   &&decide ((e::es).length+([]:List Keyword).length+(if([]:List Keyword).isEmpty then 0 else 1)<30))=true:=by rfl)
 (hline:(apos.endLine==cpos.line)=true:=by rfl) (hs:starEach (e::es) X.env=(false,eval e X.env)::starEach es X.env:=by rfl) (hplain:(backTo cpos (starEach es X.env)).any (·.1)=false:=by rfl):
 QE X (.Call (.Attribute o name apos) (e::es) [] cpos) (tBM X.K T r to t):=⟨adv pa slot hty hm.h ho.h ha.h hbase hfew hline hs hplain⟩
theorem yq {n:Nat}{fr:List Nat}{N:List Str}{sc:Scope}{elt tg iter:Expr}{ifs:List Expr}{wi:TI}{g:TG}{tc:TT} (hc:X.calm=true) (S:wF X n fr N sc) (hit:QI X tg iter wi)
 (hg:∀pins C s₀ H₀ fp,QG (iD X N sc pins C s₀ H₀ fp) tg g) (hi:∀pins C s₀ H₀ fp,V8 (iD X N sc pins C s₀ H₀ fp) ifs tc) (he:∀pins C s₀ H₀ fp,QE (iD X N sc pins C s₀ H₀ fp) elt te)
 (hs:∀x,foldedSetIterable iter X.env x=pure x:=by intro _;rfl):QE X (.ListComp elt [⟨tg,iter,ifs,0⟩] sc pos) (Pk wi n fr g tc te):=
 ⟨V5 hc S hit.h (fun a b c d e=>(hg a b c d e).h) (fun a b c d e=>(hi a b c d e).h) (fun a b c d e'=>(he a b c d e').h) hs⟩
theorem Gs {i:Nat}{pos' spos:Pos}{n:Nat}{fr:List Nat}{N:List Str}{sc:Scope}{elt tg iter:Expr}{ifs:List Expr}{wi:TI}{g:TG}{tc:TT} (hc:X.calm=true) (hN:X.N.Nodup) (hi':X.N[i]? =some x) (hx:Loc X.env.scope x) (S:wF X n fr N sc) (hit:QI X tg iter wi)
 (hg:∀pins C s₀ H₀ fp,QG (iD X N sc pins C s₀ H₀ fp) tg g) (hi:∀pins C s₀ H₀ fp,V8 (iD X N sc pins C s₀ H₀ fp) ifs tc) (he:∀pins C s₀ H₀ fp,QE (iD X N sc pins C s₀ H₀ fp) elt te)
 (hsw:swapsWith (.ListComp elt [⟨tg,iter,ifs,0⟩] sc pos) (some (.Name x pos')) spos.line X.env=pure true)
 (hs:∀x,foldedSetIterable iter X.env x=pure x:=by intro _;rfl) (hf:X.fn x=true\/X.env.scope.names.lookup x=some .local:=by first | exact .inl rfl | exact .inr rfl | assumption):
 QS X (.Assign [.Name x pos'] (.ListComp elt [⟨tg,iter,ifs,0⟩] sc pos) spos) (QB (Pk wi n fr g tc te) (Bs i)):=
 ⟨Nm hc hN hi' hx S hit.h (fun a b c d e=>(hg a b c d e).h) (fun a b c d e=>(hi a b c d e).h) (fun a b c d e'=>(he a b c d e').h) hsw hs hf⟩
theorem Nt:V8 X [] Yx:=⟨Sw⟩
theorem Gu {t:TT} (h:QT X c t):V8 X [c] t:=⟨Sx h.h⟩
theorem vf {tg l:Expr}{tl:TE} (hl:QE X l tl):QI X tg l (Ym X.K tl):=⟨Vs hl.h⟩
theorem Du {tg:Expr}{t:TA} (hg:Gl X "range") (hm:X.mg "range"=none) (ha:QA X [a] t) (hs:starEach [a] X.env=[(false,eval a X.env)]:=by rfl):QI X tg (.Call (.Name "range" p) [a] [] pos) (Yn t):=⟨QD hg hm ha.h hs⟩
theorem Rf {tg:Expr}{t:TA} (hg:Gl X "range") (hm:X.mg "range"=none) (ha:QA X [a,b] t) (hs:starEach [a,b] X.env=[(false,eval a X.env),(false,eval b X.env)]:=by rfl) (hs2:starEach [b] X.env=[(false,eval b X.env)]:=by rfl):QI X tg (.Call (.Name "range" p) [a,b] [] pos) (Yo t):=⟨QF hg hm ha.h hs hs2⟩
theorem nC {i:Nat} (hN:X.N.Nodup) (hi:X.N[i]? =some x) (hx:Loc X.env.scope x) (hf:X.fn x=true\/X.env.scope.names.lookup x=some .local:=by first | exact .inl rfl | exact .inr rfl | assumption):QG X (.Name x pos) (Bs i):=⟨O2 hN hi hx hf⟩
theorem qgx {i:Nat} (hN:X.N.Nodup) (hx:X.env.scope.names.lookup x=some .local) (hi:X.N[i]? =some x:=by rfl):QG X (.Name x pos) (Bs i):=⟨pgx hN hx hi⟩
theorem FJ:QGs X [] ac7:=⟨Vr⟩
theorem oZ {t:TG}{u:TGs} (h1:QG X e t) (h2:QGs X es u) (hs:(assignEach (e::es) X.env).map (·.2)=assign e X.env::(assignEach es X.env).map (·.2):=by rfl):QGs X (e::es) (Yl t u):=⟨RN h1.h h2.h hs⟩
theorem Td {k n:Nat}{t:TGs} (hc:X.calm=true) (h:QGs X es t) (hn:(assignEach es X.env).length=n:=by rfl) (hst:(assignEach es X.env).findIdx? (·.1)=none:=by rfl):QG X (.Tuple es k pos) (Z7 X.K n t):=⟨Z8 hc h.h hn hst⟩
theorem Te {tg:Expr}{g:TG} (he:QE X e te) (hg:QG X tg g) (hs:swapsWithSole [tg] e pos.line X.env=pure false:=by rfl) (hw:swappedStores [tg] e X.env=pure none:=by rfl)
 (h1:(assignEach [tg] X.env).map (·.2)=[assign tg X.env]:=by rfl):QS X (.Assign [tg] e pos) (QB te g):=⟨Z9 he.h hg.h hs hw h1⟩
theorem bK {i:Nat}{pos':Pos} (hN:X.N.Nodup) (hi:X.N[i]? =some x) (hx:Loc X.env.scope x) (he:QE X e te) (hs:swapsWith e (some (.Name x pos')) pos.line X.env=pure false:=by rfl) (hf:X.fn x=true\/X.env.scope.names.lookup x=some .local:=by first | exact .inl rfl | exact .inr rfl | assumption):
 QS X (.Assign [.Name x pos'] e pos) (QB te (Bs i)):=⟨aaa hN hi hx he.h hs hf⟩
theorem jc {o i v:Expr}{td ty tv:TE}{pos':Pos} (hu:X.A.units+1<cLine) (ho:QE X o td) (hi:QE X i ty) (hv:QE X v tv) (hs:swapsWith v (some (.Subscript o i pos')) pos.line X.env=pure false:=by rfl):QS X (.Assign [.Subscript o i pos'] v pos) (Yv td ty tv):=⟨V0 hu ho.h hi.h hv.h hs⟩
theorem eN (he:QE X e te) (hs:swapsWith e none pos.line X.env=pure false:=by rfl):QS X (.Expr e pos) (Yj te):=⟨Vq he.h hs⟩
theorem aZ (he:QE X e te):QS X (.Return (some e) pos) (ac6 te):=⟨Z5 he.h⟩
theorem Wd:QS X (.Pass pos) O1:=⟨Vp⟩
theorem K8:QS X (.Continue pos) Yi:=⟨KN⟩
theorem cN {s1 s2:List Stmt}{t u:TS} (hc:QT X c tA) (ha:QSs X s1 t) (hb:QSs X s2 u):QS X (.If c s1 s2 pos) (Z6 tA t u):=⟨Yk hc.h ha.h hb.h⟩
theorem Gv {body:List Stmt}{tb:TS} (hp:PassesOwn (model X.prog X.w) X.A X.env X.xe) (hc:QT X c tA) (hb:QSs X body tb):QS X (.While c body [] pos) (RP tA tb):=⟨RQ hp hc.h hb.h⟩
theorem Dv {tg iter:Expr}{body:List Stmt}{wi:TI}{g:TG}{tb:TS} (hp:PassesOwn (model X.prog X.w) X.A X.env X.xe) (hc:X.calm=true) (hi:QI X tg iter wi) (hg:QG X tg g) (hb:QSs X body tb)
 (hs:∀x,foldedSetIterable iter X.env x=pure x:=by intro _;rfl):QS X (.For tg iter body [] pos) (ac8 wi g tb):=⟨aab hp hc hi.h hg.h hb.h hs⟩
theorem bH:QSs X [] O1:=⟨Vn⟩
theorem aq {s:Stmt}{rest:List Stmt}{t u:TS} (h1:QS X s t) (h2:QSs X rest u):QSs X (s::rest) (ac5 t u):=⟨RK h1.h h2.h⟩
theorem aD {s:Stmt}{t:TS} (h1:QS X s t):QSs X [s] t:=⟨Vo h1.h⟩
theorem lX:QOp X (binaryOp .Add) (rI0 fun i j=> .int (i+j)):=⟨aad⟩
theorem mZ:QOp X (binaryOp .Sub) (rI0 fun i j=> .int (i - j)):=⟨aae⟩
theorem qm:QOp X (binaryOp .Mult) (rI Dp fun i j=> .int (i * j)):=⟨aaf⟩
theorem m5:QOp X (binaryOp .Mod) (rI (fun _ j=>0<j) fun i j=> .int (i % j)):=⟨aag⟩
theorem K9:QOp X (binaryOp .FloorDiv) (rI Yy fun i j=> .int (i / j)):=⟨Sy⟩
theorem Pq:QOp X (binaryOp .Pow) (rI Vt fun i j=> .int (i ^ j.toNat)):=⟨aah⟩
theorem La:QOp X (binaryOp .Add) (fun x y H Q=>∃i j,x= .str i/\y= .str j/\i.length+j.length<=sizeLine/\Q (.str (i++j)) H):=⟨M4⟩
theorem Pr:QOp X (binaryOp .Add) adx:=⟨aaA⟩
theorem Pu:QUn X (unaryOp .USub) (rU fun i=> .int (-i)):=⟨aai⟩
theorem di:QOp X (compareOp .Eq) rEq:=⟨adg⟩
theorem JP:QOp X (compareOp .NotEq) rNe:=⟨adh⟩
theorem Tf:QOp X (compareOp .Lt) (rI0 fun i j=> .bl (decide (i<j))):=⟨adi⟩
theorem Nu:QOp X (compareOp .Gt) (rI0 fun i j=> .bl (decide (j<i))):=⟨adk⟩
theorem We:QOp X (compareOp .Is) (fun x y H Q=>y= .non/\Q (.bl (decide (x= .non))) H):=⟨aaj⟩
theorem Wf (hu:X.A.units+64<cLine):QOp X (compareOp .Eq) (V6 X.K false):=⟨SM hu⟩
theorem Wg (hu:X.A.units+64<cLine):QOp X (compareOp .NotEq) (V6 X.K true):=⟨SN hu⟩
theorem Nv:QOp X (compareOp .In) (rIn X.K false):=⟨Q3⟩
theorem cL:QIx X (aat X.K):=⟨VL⟩
theorem aG:QIx X (aau X.K):=⟨aav⟩
theorem Px:QIx X adq:=⟨aaw⟩
theorem Tg:QSl X (adt X.K):=⟨VM⟩
theorem ig:QMt X "list.append" O9:=⟨Ji⟩
theorem zN:QMt X "list.extend" Pa:=⟨Q5⟩
theorem yr:QMt X "list.pop" adw:=⟨aaz⟩
theorem ju:qN X (.builtin "len") (fun xs H Q=>∃p ys,xs=[.ref p]/\(SqL X.K H p ys\/SqT X.K H p ys)/\Q (.int ys.length) H):=⟨JH⟩
theorem Wh:qN X (.builtin "len") (fun xs H Q=>∃a kvs,xs=[V.ref a]/\H a=some (.dK kvs)/\Q (.int kvs.length) H):=⟨Rb⟩
theorem zO:qN X (.builtin "isinstance") (fun xs H Q=>∃x T t b,xs=[x, .ty T]/\sX X.K H x t/\PySem.W.kitOne X.K t (.type T)=some b/\Q (.bl b) H):=⟨SQ⟩
theorem FN:qN X (.type "int") (fun xs H Q=>∃k,xs=[.bl k]/\Q (.int (if k then 1 else 0)) H):=⟨fun pins s σ H xs us Q I r h=>QK pins s σ H xs us Q I r (.inr h)⟩
theorem Gw:qN X (.type "list") (fun xs H Q=>∃p ys,xs=[.ref p]/\(SqL X.K H p ys\/SqT X.K H p ys)/\∀l,H l=none->Q (.ref l) (upd H l (.lst ys))):=⟨JK⟩
theorem Lb:qN X (.type "tuple") (fun xs H Q=>∃p ys,xs=[.ref p]/\SqL X.K H p ys/\∀l,H l=none->Q (.ref l) (upd H l (.tup ys))):=⟨fun pins s σ H xs us Q I r h=>Ij pins s σ H xs us Q I r (let ⟨p,ys,e,hs,q⟩:=h;⟨p,ys,e, .inl ⟨hs,q⟩⟩)⟩
theorem aU (b:Expr) {op:CmpOp} (h:op≠ .In:=by decide) (h2:op≠ .NotIn:=by decide):behindInMarks op b=false:=aak b h h2
theorem yt {K:PySem.W.Frag} (e:X.K=K):QIx X (aat K):=e▸cL
theorem By {K:PySem.W.Frag} (e:X.K=K):QIx X (aau K):=e▸aG
theorem Ex {K:PySem.W.Frag} (e:X.K=K):qN X (.builtin "len") (fun xs H Q=>∃p ys,xs=[.ref p]/\(SqL K H p ys\/SqT K H p ys)/\Q (.int ys.length) H):=e▸ju
end
end L2
set_option maxRecDepth 100000
namespace L2
open PySem PySem.Spec PyProof.Rows
theorem Rg {X:Cx} (hc:X.calm=true):qL X (.builtin "all") (fun xs H Q=>∃(p:Addr) (bs:List Bool),xs=[V.ref p]/\SqL X.K H p (bs.map V.bl)/\Q (.bl (bs.all id)) H):=by
 intro pins s σ H xs us Q I r h
 obtain⟨p,bs,rfl,hp,q⟩:=h
 obtain⟨u,rfl,ru⟩:=Vals.one r
 cases(show u=Value.ref p from ru)
 obtain⟨its,rv,pl,hz⟩:=I.list hp
 have hlt:p<s.heap.objs.size:=by obtain⟨o,n,e,_⟩:=pl;exact Heap.lt_size e
 have hlen:its.length=bs.length:=by rw[<-rv.length,List.length_map]
 refine call_all_walk (wpAny_pyIter_list pl.isList ?_)
 refine⟨s.heap.objs.size,_,_,its.toArray.size,(fun i v=>its.toArray[i]? =some v),_,(fun i=>bs.getD i false),rfl,Walks.list (A:=X.A.in1) (I.ok.hd hc) s.heap.objs.size p (Nat.ne_of_lt hlt) its.toArray,⟨⟨_,Heap.get?_push_size _ rfl,rfl,rfl⟩,pl.isList.push _⟩, ?_, ?_⟩
 ·intro i v s' Q' E' hv hq
  have hi:i<bs.length:=by
   rw[<-hlen]
   have:=(Array.getElem?_eq_some_iff.mp hv).1
   simpa using this
  obtain⟨u,hu,ru⟩:=rv.get (i:=i) (x:=V.bl bs[i]) (by rw[List.getElem?_map,List.getElem?_eq_getElem hi];rfl)
  have hv':its[i]? =some v:=by simpa using hv
  rw[hu] at hv'
  cases hv'
  cases(show v=Value.bool _ from ru)
  refine wpAny_truthy_bool ?_
  have e:bs.getD i false=bs[i]:=by rw[List.getD_eq_getElem?_getD,List.getElem?_eq_getElem hi];rfl
  have hq':Q' (bs.getD i false) s':=hq
  rw[e] at hq'
  exact hq'
 ·intro h' tk hk
  have e:(List.range its.toArray.size).all (fun i=>bs.getD i false)=bs.all id:=by
   rw[List.size_toArray,hlen]
   rw[Bool.eq_iff_iff,List.all_eq_true,List.all_eq_true]
   constructor
   ·intro h b hb
    obtain⟨i,hi,rfl⟩:=List.mem_iff_getElem.mp hb
    have:=h i (List.mem_range.mpr hi)
    rw[List.getD_eq_getElem?_getD,List.getElem?_eq_getElem hi] at this
    exact this
   ·intro h i hi
    have hi':=List.mem_range.mp hi
    rw[List.getD_eq_getElem?_getD,List.getElem?_eq_getElem hi']
    exact h _ (List.getElem_mem hi')
  rw[e]
  refine⟨.bl _,H,I.kept (t':=tk) fun b o eb=>hk b o ?_ (Heap.get?_push_of_some _ eb),rfl,q⟩
  intro z
  have:b=s.heap.objs.size:=by simpa using z
  exact absurd (Heap.lt_size eb) (by rw[this];exact Nat.lt_irrefl _)
section
variable {X:Cx}{a b c e:Expr}{ta tb tc te:TE}{pos:Pos}
theorem Wi (hc:X.calm=true):qN X (.builtin "all") (fun xs H Q=>∃(p:Addr) (bs:List Bool),xs=[V.ref p]/\SqL X.K H p (bs.map V.bl)/\Q (.bl (bs.all id)) H):=⟨Rg hc⟩
end
end L2
set_option maxRecDepth 100000
namespace RB
open PySem L2 PySem.Spec PyProof.Rows
def But (S:List Addr) (H H':Hp):Prop:=∀b o,b∉S->H b=some o->H' b=some o
theorem But.refl (S:List Addr) (H:Hp):But S H H:=fun _ _ _ h=>h
theorem But.trans {S:List Addr}{H H1 H2:Hp} (a:But S H H1) (b:But S H1 H2):But S H H2:=fun c o n h=>b c o n (a c o n h)
theorem But.mono {S S':List Addr}{H H':Hp} (a:But S H H') (h:∀b∈S,b∈S'):But S' H H':=fun c o n q=>a c o (fun z=>n (h c z)) q
theorem But.new {S:List Addr}{H:Hp}{p:Addr} (o:HO) (h:H p=none):But S H (upd H p o):=fun b u _ q=>by rw[au (aH q h)];exact q
theorem But.set {S:List Addr}{H:Hp}{p:Addr} (o:HO) (h:p∈S):But S H (upd H p o):=fun b u n q=>by rw[au (show b≠p from fun e=>n (by rw[e];exact h))];exact q
theorem But.of_same {S:List Addr}{H H':Hp} (h:aW H H'):But S H H':=fun b o _ q=>h b o q
theorem aC {H:Hp}{p:Addr} (o:HO) (h:H p=none):aW H (upd H p o):=fun b u q=>by rw[au (aH q h)];exact q
def mK (H H':Hp):Prop:=∀b xs,H b=some (.tup xs)->H' b=some (.tup xs)
theorem aW.tups {H H':Hp} (h:aW H H'):mK H H':=fun b xs q=>h b _ q
inductive Op where | plus | minus | times | most
 deriving DecidableEq
def Op.word:Op->Str
 | .plus=>"plus" | .minus=>"minus" | .times=>"times" | .most=>"most"
inductive R where
 | num (n:Int) | rd (x:Str) | bin (op:Op) (a b:R) | pick (a b c:R) | cho (a:R) (ns:List Str)
def R.depth:R->Nat
 | .num _=>1
 | .rd _=>1
 | .bin _ a b=>max a.depth b.depth+1
 | .pick a b c=>max a.depth (max b.depth c.depth)+1
 | .cho a _=>a.depth+1
def Py (c:Nat):Prop:=97<=c/\c<=122
def jT (x:Str):Prop:=1<=x.length/\x.length<=8/\∀c∈x.cps.toList,Py c
def R.Good:R->Prop
 | .num n=>n.natAbs<10 ^ 40
 | .rd x=>jT x
 | .bin _ a b=>a.Good/\b.Good
 | .pick a b c=>a.Good/\b.Good/\c.Good
 | .cho a ns=>a.Good/\1<=ns.length/\ns.length<=9/\∀x∈ns,jT x
inductive IsR (H:Hp):Addr->R->Prop where
 | num {a:Addr}{n:Int} (e:H a=some (.tup [.str "number", .int n])):IsR H a (.num n)
 | rd {a:Addr}{x:Str} (e:H a=some (.tup [.str "read", .str x])):IsR H a (.rd x)
 | bin {a b c:Addr}{op:Op}{r s:R} (e:H a=some (.tup [.str op.word, .ref b, .ref c])) (h1:IsR H b r) (h2:IsR H c s):IsR H a (.bin op r s)
 | pick {a b c d:Addr}{r s t:R} (e:H a=some (.tup [.str "pick", .ref b, .ref c, .ref d])) (h1:IsR H b r) (h2:IsR H c s) (h3:IsR H d t):IsR H a (.pick r s t)
 | cho {a b c:Addr}{r:R}{ns:List Str} (e:H a=some (.tup [.str "choose", .ref b, .ref c])) (h1:IsR H b r) (h2:H c=some (.tup (ns.map V.str))):IsR H a (.cho r ns)
theorem IsR.tups {H H':Hp} (t:mK H H') {a:Addr}{r:R} (h:IsR H a r):IsR H' a r:=by
 induction h with
 | num e=>exact .num (t _ _ e)
 | rd e=>exact .rd (t _ _ e)
 | bin e _ _ i1 i2=>exact .bin (t _ _ e) i1 i2
 | pick e _ _ _ i1 i2 i3=>exact .pick (t _ _ e) i1 i2 i3
 | cho e _ h2 i1=>exact .cho (t _ _ e) i1 (t _ _ h2)
theorem IsR.same {H H':Hp} (t:aW H H') {a:Addr}{r:R} (h:IsR H a r):IsR H' a r:=h.tups (aW.tups t)
theorem R.um (r:R):1<=r.depth:=by cases r<;>simp[R.depth]
def Pz (K:PySem.W.Frag):Sp:=fun vs H Q _=>∃(a:Addr) (ns:List Int),vs=[.ref a]/\SqL K H a (ns.map V.int)/\ns.length<=63/\∀H',Q (.bl true) H'
structure FnT (K:PySem.W.Frag) (mg:Str->Option Value) (x:Str) (st:Stmt) (ps:List Str) (f:Addr) (fd:FuncData):Prop where
 F:Fun K x x st f fd
 b:Binds K fd ps []
 m:mg x=some (.ref f)
structure Blt (mg:Str->Option Value):Prop where
 vU:mg "len"=none
 FP:mg "range"=none
 YB:mg "str"=none
 Ld:mg "int"=none
 zP:mg "list"=none
 FQ:mg "tuple"=none
 j0:mg "isinstance"=none
 aaK:mg "bool"=none
 Dw:mg "dict"=none
 aj2:mg "sum"=none
 adD:mg "all"=none
 aj3:mg "any"=none
 Ti:mg "max"=none
 aj4:mg "min"=none
 Gx:mg "sorted"=none
 aj5:mg "set"=none
 YC:mg "enumerate"=none
 adE:mg "zip"=none
 aaL:mg "reversed"=none
 aj6:mg "abs"=none
end RB
namespace RB
open PySem L2 PySem.Spec PyProof.Rows
theorem adF {xs:List Int}{i:Int} (h0:0<=i) (h1:i<((xs.map V.int).length:Int)):∃v j,atI (xs.map V.int) i=some (.int v)/\ixN (xs.map V.int).length i=some j/\j<xs.length/\∀u:Int,(xs.map V.int).set j (.int u)=(xs.set j u).map V.int:=by
 have hl:(xs.map V.int).length=xs.length:=List.length_map _
 obtain⟨j,rfl⟩:=Int.eq_ofNat_of_zero_le h0
 have hj:j<xs.length:=by omega
 refine⟨xs[j],j,jZ (by rw[List.getElem?_map,List.getElem?_eq_getElem hj];rfl), ?_,hj,fun u=> ?_⟩
 ·unfold ixN
  rw[if_pos h0,if_pos (by omega)]
  simp
 ·rw[List.map_set]
end RB
namespace RB
open PySem L2 PySem.Spec PyProof.Rows
theorem But.upd {S:List Addr}{H H':Hp}{p:Addr} (b:But S H H') (o:HO) (h:H p=none):But S H (upd H' p o):=fun c u n q=>by
 rw[au (aH q h)];exact b c u n q
instance (x:Str):Decidable (jT x):=by unfold jT Py;exact inferInstance
theorem Lf:(Str.ofString "abcdefghijklmnopqrstuvwxyz").cps.toList=(List.range 26).map (· +97):=by decide +kernel
theorem adG {c A B:Prop} [Decidable c] (hc:c) (h:A):if decide c=true then A else B:=by rw[if_pos (decide_eq_true hc)];exact h
theorem adH {c A B:Prop} [Decidable c] (hc:¬c) (h:B):if decide c=true then A else B:=by rw[if_neg (by simpa using hc)];exact h
theorem adI {c A B:Prop} [Decidable c] (hc:¬c) (h:A):if(!decide c)=true then A else B:=by rw[if_pos (by simpa using hc)];exact h
end RB
namespace RB
open PySem L2 PySem.Spec PyProof.Rows
theorem never {P:Program}{w:World}{K:PySem.W.Frag}{mg:Str->Option Value}{base:Heap}{k:Nat}{f:Addr}{fd:FuncData}{ps:List Str}{sp:Sp} (no:∀vs H Q E,¬sp vs H Q E):bh P w K mg base CX0 k f fd ps sp:=
 ⟨fun vs H Q E h=>absurd h (no vs H Q E),fun A outer s H args us vs Q E _ _ _ _ h=>absurd h (no vs H Q E)⟩
end RB
namespace RB
open PySem L2 PySem.Spec PyProof.Rows
end RB
namespace RB
open PySem L2 PySem.Spec PyProof.Rows
end RB
namespace RB
open PySem L2 PySem.Spec PyProof.Rows
end RB
namespace RB
open PySem L2 PySem.Spec PyProof.Rows
theorem fX {H H':Hp}{p:Addr} (o:HO) (h:H p=none) (s:aW H H'):aW H (upd H' p o):=fun b u q=>by
 rw[au (aH q h)];exact s b u q
end RB
namespace RB
open PySem L2 PySem.Spec PyProof.Rows
end RB
set_option maxRecDepth 100000
namespace RB
open PySem L2 PySem.Spec PyProof.Rows
inductive Th where
 | non | bl (b:Bool) | int (i:Int) | str (x:Str) | tup (xs:List Th) | oth (T:String)
mutual
inductive qp (K:PySem.W.Frag) (H:Hp):V->Th->Prop where
 | non:qp K H .non .non
 | bl (b:Bool):qp K H (.bl b) (.bl b)
 | int (i:Int):qp K H (.int i) (.int i)
 | str (x:Str):qp K H (.str x) (.str x)
 | tup {a:Addr}{vs:List V}{ts:List Th} (e:H a=some (.tup vs)) (h:oF K H vs ts):qp K H (.ref a) (.tup ts)
 | oth {a:Addr}{T:String} (h:sX K H (.ref a) (.type T)) (hT:T="list"\/T="dict") (keep:∀H',aW H H'->sX K H' (.ref a) (.type T)):qp K H (.ref a) (.oth T)
inductive oF (K:PySem.W.Frag) (H:Hp):List V->List Th->Prop where
 | nil:oF K H [] []
 | cons {v:V}{t:Th}{vs:List V}{ts:List Th} (h:qp K H v t) (r:oF K H vs ts):oF K H (v::vs) (t::ts)
end
mutual
theorem qp.same {K:PySem.W.Frag}{H H':Hp} (s:aW H H'):∀{v:V}{t:Th},qp K H v t->qp K H' v t
 | _,_, .non=> .non
 | _,_, .bl b=> .bl b
 | _,_, .int i=> .int i
 | _,_, .str x=> .str x
 | _,_, .tup e h=> .tup (s _ _ e) (oF.same s h)
 | _,_, .oth h hT k=> .oth (k _ s) hT fun H2 s2=>k _ (s.trans s2)
theorem oF.same {K:PySem.W.Frag}{H H':Hp} (s:aW H H'):∀{vs:List V}{ts:List Th},oF K H vs ts->oF K H' vs ts
 | _,_, .nil=> .nil
 | _,_, .cons h r=> .cons (qp.same s h) (oF.same s r)
end
theorem oF.length {K:PySem.W.Frag}{H:Hp}:∀{vs:List V}{ts:List Th},oF K H vs ts->vs.length=ts.length
 | _,_, .nil=>rfl
 | _,_, .cons _ r=>congrArg (· +1) (oF.length r)
theorem oF.get {K:PySem.W.Frag}{H:Hp}:∀{vs:List V}{ts:List Th}{i:Nat}{v:V},oF K H vs ts->vs[i]? =some v->∃t,ts[i]? =some t/\qp K H v t
 | _,_,_,_, .nil,e=>by simp at e
 | _,_,0,_, .cons h _,e=>by simp at e;subst e;exact⟨_,rfl,h⟩
 | _,_,i+1,v, .cons _ r,e=>by
   obtain⟨t,h1,h2⟩:=oF.get (i:=i) (v:=v) r (by simpa using e)
   exact⟨t,by simpa using h1,h2⟩
def Lg:Th->String
 | .non=>"NoneType" | .bl _=>"bool" | .int _=>"int" | .str _=>"str" | .tup _=>"tuple" | .oth T=>T
theorem qp.ty {K:PySem.W.Frag}{H:Hp}{v:V}{t:Th} (h:qp K H v t):sX K H v (.type (Lg t)):=by
 cases h with
 | non=>exact .non
 | bl b=>exact .bl b
 | int i=>exact .int i
 | str x=>exact .str x
 | tup e _=>exact .tup e
 | oth h _ _=>exact h
def tys:List String:=["NoneType","bool","int","str","tuple","list","dict"]
def Tj (t c:String):Bool:=t==c||(t=="bool"&&c=="int")
def Kinds (K:PySem.W.Frag):Prop:=∀t∈tys,∀c∈tys,PySem.W.kitOne K (.type t) (.type c)=some (Tj t c)
theorem Tn {K:PySem.W.Frag} (h:(tys.all fun t=>tys.all fun c=>PySem.W.kitOne K (.type t) (.type c)==some (Tj t c))=true):Kinds K:=fun t ht c hc=>by
 have h1:=List.all_eq_true.mp h t ht
 have h2:=List.all_eq_true.mp h1 c hc
 exact eq_of_beq h2
theorem aaM {K:PySem.W.Frag}{H:Hp}{v:V}{t:Th} (h:qp K H v t):Lg t∈tys:=by
 cases h with
 | oth _ hT _=>rcases hT with rfl | rfl<;>simp[Lg,tys]
 | _=>simp[Lg,tys]
theorem qp.isi {K:PySem.W.Frag}{H:Hp}{v:V}{t:Th} (h:qp K H v t) (k:Kinds K) {c:String} (hc:c∈tys):PySem.W.kitOne K (.type (Lg t)) (.type c)=some (Tj (Lg t) c):=k _ (aaM h) _ hc
def aaN:Th->Bool
 | .int _=>true
 | _=>false
def JQ (K:PySem.W.Frag):Sp:=fun vs H Q _=>∃v t,vs=[v]/\qp K H v t/\Q (.bl (aaN t)) H
theorem adJ {b:Bool}{A B:Prop} (h:b=true) (hA:A):if b=true then A else B:=by rw[if_pos h];exact hA
theorem adK {b:Bool}{A B:Prop} (h:b=false) (hB:B):if b=true then A else B:=by rw[if_neg (by rw[h];exact Bool.false_ne_true)];exact hB
structure Wr (p:Prop):Prop where
 h:p
end RB
set_option maxRecDepth 100000
namespace RB
open PySem L2 PySem.Spec PyProof.Rows
def R.gb:R->Th
 | .num n=> .tup [.str "number", .int n]
 | .rd x=> .tup [.str "read", .str x]
 | .bin op a b=> .tup [.str op.word,a.gb,b.gb]
 | .pick a b c=> .tup [.str "pick",a.gb,b.gb,c.gb]
 | .cho a ns=> .tup [.str "choose",a.gb, .tup (ns.map Th.str)]
def R.Lh:R->Prop
 | .num _=>True
 | .rd x=>x.length<=8/\∀c∈x.cps.toList,c<128
 | .bin _ a b=>a.Lh/\b.Lh
 | .pick a b c=>a.Lh/\b.Lh/\c.Lh
 | .cho a ns=>a.Lh/\1<=ns.length/\ns.length<=9/\∀x∈ns,jT x
theorem Gy {K:PySem.W.Frag}{H:Hp}:∀ns:List Str,oF K H (ns.map V.str) (ns.map Th.str)
 |[]=> .nil
 | x::r=> .cons (.str x) (Gy r)
theorem IsR.adL {K:PySem.W.Frag}{H:Hp}{a:Addr}{r:R} (h:IsR H a r):qp K H (.ref a) r.gb:=by
 induction h with
 | num e=>exact .tup e (.cons (.str _) (.cons (.int _) .nil))
 | rd e=>exact .tup e (.cons (.str _) (.cons (.str _) .nil))
 | bin e _ _ i1 i2=>exact .tup e (.cons (.str _) (.cons i1 (.cons i2 .nil)))
 | pick e _ _ _ i1 i2 i3=>exact .tup e (.cons (.str _) (.cons i1 (.cons i2 (.cons i3 .nil))))
 | cho e _ h2 i1=>exact .tup e (.cons (.str _) (.cons i1 (.cons (.tup h2 (Gy _)) .nil)))
theorem qQ:∀l:List Str,PyData.depthAll (l.map PyData.str)<=1
 |[]=>by simp[PyData.depthAll]
 | c::r=>by
   have:=qQ r
   simp[PyData.depthAll,PyData.depth]
   omega
end RB
set_option maxRecDepth 100000
namespace L2
open PySem PySem.Spec PyProof.Rows
theorem Fun.okQ {P:Program}{w:World}{K:PySem.W.Frag}{mg:Str->Option Value}{base:Heap}{x qual:Str}{st:Stmt}{f:Addr}{fd:FuncData}{N ps:List Str}{k:Nat}{sp:Sp} (F:Fun K x qual st f fd) (S:bR N ps (aa st)) (len:∀vs H Q E,sp vs H Q E->vs.length=ps.length)
 (hbody:∀(cdv:Value) (A:Around) (outer:List Env) (s:Shared) (H:Hp) (vs:List V) (Q:VK) (E:XK),mJ k (A.deeper (envOfC qual (aa st) s.heap.objs.size f cdv))->sp vs H Q E->
   ∃t,QSs (Ng CX0 P w K mg base N qual (aa st) f cdv A outer s H E).nox (bB st) t/\t {nx:=fun _ H'=>Q .non H',rt:=Q} (start N vs) H):bh P w K mg base CX0 (k+1) f fd ps sp:=
 F.ok S len fun cdv A outer s H vs Q E hr hsp=>let ⟨t,a,b⟩:=hbody cdv A outer s H vs Q E hr hsp;⟨t,a.h,b⟩
end L2
namespace RB
open PySem L2 PySem.Spec PyProof.Rows
theorem aaO (value:Const) (k:Nat) (p:Pos) (es:List Expr) (env:Env):starEach (.Constant value k p::es) env=(false,eval (.Constant value k p) env)::starEach es env:=rfl
theorem jw {X:Cx}{value:Const}{k:Nat}{p:Pos}{es:List Expr}{te:TE}{t:TA} (ha:QE X (.Constant value k p) te) (hr:QA X es t):QA X (.Constant value k p::es) (sH te t):=mY ha hr (aaO value k p _ _)
theorem aaP (x:Str) (p:Pos) (es:List Expr) (env:Env):starEach (.Name x p::es) env=(false,eval (.Name x p) env)::starEach es env:=rfl
theorem aJ {X:Cx}{x:Str}{p:Pos}{es:List Expr}{te:TE}{t:TA} (ha:QE X (.Name x p) te) (hr:QA X es t):QA X (.Name x p::es) (sH te t):=mY ha hr (aaP x p _ _)
theorem aaQ (a:Expr) (op:Operator) (b:Expr) (p:Pos) (es:List Expr) (env:Env):starEach (.BinOp a op b p::es) env=(false,eval (.BinOp a op b p) env)::starEach es env:=rfl
theorem zQ {X:Cx}{a:Expr}{op:Operator}{b:Expr}{p:Pos}{es:List Expr}{te:TE}{t:TA} (ha:QE X (.BinOp a op b p) te) (hr:QA X es t):QA X (.BinOp a op b p::es) (sH te t):=mY ha hr (aaQ a op b p _ _)
theorem aaR (a:Expr) (ops:List CmpOp) (cs:List Expr) (p:Pos) (es:List Expr) (env:Env):starEach (.Compare a ops cs p::es) env=(false,eval (.Compare a ops cs p) env)::starEach es env:=rfl
theorem Wj {X:Cx}{a:Expr}{ops:List CmpOp}{cs:List Expr}{p:Pos}{es:List Expr}{te:TE}{t:TA} (ha:QE X (.Compare a ops cs p) te) (hr:QA X es t):QA X (.Compare a ops cs p::es) (sH te t):=mY ha hr (aaR a ops cs p _ _)
theorem aaS (xs:List Expr) (k:Nat) (p:Pos) (es:List Expr) (env:Env):starEach (.Tuple xs k p::es) env=(false,eval (.Tuple xs k p) env)::starEach es env:=rfl
theorem JR {X:Cx}{xs:List Expr}{k:Nat}{p:Pos}{es:List Expr}{te:TE}{t:TA} (ha:QE X (.Tuple xs k p) te) (hr:QA X es t):QA X (.Tuple xs k p::es) (sH te t):=mY ha hr (aaS xs k p _ _)
theorem aaT (xs:List Expr) (p:Pos) (es:List Expr) (env:Env):starEach (.List xs p::es) env=(false,eval (.List xs p) env)::starEach es env:=rfl
theorem Nx {X:Cx}{xs:List Expr}{p:Pos}{es:List Expr}{te:TE}{t:TA} (ha:QE X (.List xs p) te) (hr:QA X es t):QA X (.List xs p::es) (sH te t):=mY ha hr (aaT xs p _ _)
theorem aaU (ks:List (Option Expr)) (xs:List Expr) (p:Pos) (es:List Expr) (env:Env):starEach (.Dict ks xs p::es) env=(false,eval (.Dict ks xs p) env)::starEach es env:=rfl
theorem aaV {X:Cx}{ks:List (Option Expr)}{xs:List Expr}{p:Pos}{es:List Expr}{te:TE}{t:TA} (ha:QE X (.Dict ks xs p) te) (hr:QA X es t):QA X (.Dict ks xs p::es) (sH te t):=mY ha hr (aaU ks xs p _ _)
theorem aaW (a b:Expr) (p:Pos) (es:List Expr) (env:Env):starEach (.Subscript a b p::es) env=(false,eval (.Subscript a b p) env)::starEach es env:=rfl
theorem fD {X:Cx}{a b:Expr}{p:Pos}{es:List Expr}{te:TE}{t:TA} (ha:QE X (.Subscript a b p) te) (hr:QA X es t):QA X (.Subscript a b p::es) (sH te t):=mY ha hr (aaW a b p _ _)
theorem aaX (f:Expr) (xs:List Expr) (ks:List Keyword) (p:Pos) (es:List Expr) (env:Env):starEach (.Call f xs ks p::es) env=(false,eval (.Call f xs ks p) env)::starEach es env:=rfl
theorem uo {X:Cx}{f:Expr}{xs:List Expr}{ks:List Keyword}{p:Pos}{es:List Expr}{te:TE}{t:TA} (ha:QE X (.Call f xs ks p) te) (hr:QA X es t):QA X (.Call f xs ks p::es) (sH te t):=mY ha hr (aaX f xs ks p _ _)
theorem aaY (a b c:Expr) (p:Pos) (es:List Expr) (env:Env):starEach (.IfExp a b c p::es) env=(false,eval (.IfExp a b c p) env)::starEach es env:=rfl
theorem ahw {X:Cx}{a b c:Expr}{p:Pos}{es:List Expr}{te:TE}{t:TA} (ha:QE X (.IfExp a b c p) te) (hr:QA X es t):QA X (.IfExp a b c p::es) (sH te t):=mY ha hr (aaY a b c p _ _)
theorem aaZ (e:Expr) (gs:List Comprehension) (sc:Scope) (p:Pos) (es:List Expr) (env:Env):starEach (.ListComp e gs sc p::es) env=(false,eval (.ListComp e gs sc p) env)::starEach es env:=rfl
theorem adM {X:Cx}{e:Expr}{gs:List Comprehension}{sc:Scope}{p:Pos}{es:List Expr}{te:TE}{t:TA} (ha:QE X (.ListComp e gs sc p) te) (hr:QA X es t):QA X (.ListComp e gs sc p::es) (sH te t):=mY ha hr (aaZ e gs sc p _ _)
theorem aa0 (e:Expr) (x:Str) (p:Pos) (es:List Expr) (env:Env):starEach (.Attribute e x p::es) env=(false,eval (.Attribute e x p) env)::starEach es env:=rfl
theorem Rh {X:Cx}{e:Expr}{x:Str}{p:Pos}{es:List Expr}{te:TE}{t:TA} (ha:QE X (.Attribute e x p) te) (hr:QA X es t):QA X (.Attribute e x p::es) (sH te t):=mY ha hr (aa0 e x p _ _)
end RB
set_option maxRecDepth 100000
namespace L2
open PySem PySem.Spec PyProof.Rows
section
variable {X:Cx}{pins:List (Addr×Obj)}{σ:L2.St}{H:Hp}{s:Shared}
end
section
variable {X:Cx}{o e value:Expr}{es:List Expr}{f m:Str}{pos pos' apos:Pos}{ta tv:TE}{t:TA}{C fa:Addr}{CX:CXT}{k:Nat}{fd:FuncData}{ps:List Str}{sp:Sp}{dvs:List V}{ds:List Value}{E:XK}
theorem bU (he:QE X e ta) (hb:attributeBase e f X.env (eval e X.env)=eval e X.env:=by rfl):QE X (.Attribute e f pos) (aan X.K ta f):=⟨aao he.h hb⟩
theorem mC (ha:QE X o ta) (hv:QE X value tv) (hs:swapsWith value (some (.Attribute o f pos')) pos.line X.env=pure false:=by rfl):QS X (.Assign [.Attribute o f pos'] value pos) (adl X.K ta tv f):=⟨aap ha.h hv.h hs⟩
theorem qt {pl:Sem Bool} (he:QE X o ta) (c:Cls X.K C) (hm:Meth X.K C m fa) (F:bh X.prog X.w X.K X.mg X.base CX k fa fd ps sp) (hr:mJ k X.A) (hb:Binds X.K fd ps ds) (hd:Vals dvs ds) (hx:Passes CX X E) (ha:QA X (e::es) t)
 (hst:starEach (e::es) X.env=(false,eval e X.env)::starEach es X.env:=by rfl) (hpl:(backTo pos (starEach es X.env)).any (·.1)=false:=by rfl)
 (ht:eval (.Call (.Attribute o m apos) (e::es) [] pos) X.env=(do
   let ov <-eval o X.env
   standAt apos.atName
   let (f,first) <-holding [ov] (getMethod ov m pl)
   callWith pos f first (backTo pos (starEach (e::es) X.env)) (backToKw pos (keywordEach [] X.env))):=by rfl):
 QE X (.Call (.Attribute o m apos) (e::es) [] pos) (O6 C m sp dvs E ta t):=⟨VD he.h c hm F hr hb hd hx ha.h hst hpl ht⟩
theorem wH {pl:Sem Bool} (he:QE X o ta) (c:Cls X.K C) (hm:Meth X.K C m fa) (F:bh X.prog X.w X.K X.mg X.base CX k fa fd ps sp) (hr:mJ k X.A) (hb:Binds X.K fd ps ds) (hd:Vals dvs ds) (hx:Passes CX X E)
 (ht:eval (.Call (.Attribute o m apos) [] [] pos) X.env=(do
   let ov <-eval o X.env
   standAt apos.atName
   let (f,first) <-holding [ov] (getMethod ov m pl)
   callWith pos f first (backTo pos (starEach [] X.env)) (backToKw pos (keywordEach [] X.env))):=by rfl):
 QE X (.Call (.Attribute o m apos) [] [] pos) (O6 C m sp dvs E ta Vy):=⟨R0 he.h c hm F hr hb hd hx ht⟩
theorem Li {st:Stmt}:QS X st RL:=⟨RM⟩
theorem FT {x:Str}{p:Pos} (M:Mk X.K C fa) (F:bh X.prog X.w X.K X.mg X.base CX k fa fd ps sp) (hr:mJ (k+1) X.A) (hg:Gl X x) (hm:X.mg x=some (.ref C)) (hb:Binds X.K fd ps ds) (hd:Vals dvs ds) (hx:Passes CX X E)
 (ha:QA X (e::es) t) (hdb:(x==("__debug__":Str))=false:=by decide) (he:starEach (e::es) X.env=(false,eval e X.env)::starEach es X.env:=by rfl) (hpl:(backTo pos (starEach es X.env)).any (·.1)=false:=by rfl):
 QE X (.Call (.Name x p) (e::es) [] pos) (Yr C sp dvs E t):=⟨VF M F hr hg hm hb hd hx ha.h hdb he hpl⟩
end
end L2
set_option maxRecDepth 100000
namespace L2
open PySem PySem.Spec PyProof.Rows
section
variable {X:Cx}{pins:List (Addr×Obj)}{σ:St}{H H':Hp}{s s':Shared}{a:Addr}{cls:Value}
end
section
variable {P:Program}{w:World}{K:PySem.W.Frag}{mg:Str->Option Value}{base:Heap}{N:List Str}{qual:Str}{scope:Scope}{f:Addr}{cd:Value}{A:Around}{outer:List Env}{s₀:Shared}{H₀:Hp}{E:XK}
end
end L2
set_option maxRecDepth 100000
namespace L2
open PySem PySem.Spec PyProof.Rows
section
variable {X:Cx}{pins:List (Addr×Obj)}{σ:St}{H H':Hp}{s s':Shared}{a:Addr}{cls:Value}
theorem Inv.track {o:HO} (I:Inv X pins σ H s) (hn:H a=none) (h0:X.s₀.heap.get? a=none) (hL:a≠X.env.locals) (hC:∀x c,X.env.cells.lookup x=some c->c≠a) (hp:∀p∈X.pn++pins,p.1≠a)
 (new:fH X.prog X.w (upd H a o) s.heap a o):Inv X pins σ (upd H a o) s:=by
 refine⟨I.ok,I.os,I.bare,⟨fun b u q n hb hx=>I.base.keep b u q n hb hx,fun b u q n hb hx=>I.base.slot b u q n hb hx,fun b u q n hx=> ?_,I.base.there,fun b xs q=> ?_,fun b u v q=> ?_,fun b ps q=> ?_⟩,I.loc,I.cell, ?_,fun x c e=> ?_,fun p q=> ?_,fun b u q=> ?_,I.len⟩
 ·rw[au (fun z=>by rw[z,h0] at q;cases q)];exact I.base.free b u q n hx
 ·have e:=I.base.tups b xs q
  rw[au (aH e hn)];exact e
 ·have e:=I.base.frzs b u v q
  rw[au (aH e hn)];exact e
 ·obtain⟨m,e⟩:=I.base.tbls b ps q
  exact⟨m,by rw[au (aH e hn)];exact e⟩
 ·rw[au (Ne.symm hL)];exact I.free
 ·rw[au (hC x c e)];exact I.wB x c e
 ·obtain⟨e,n,r⟩:=I.pin p q
  exact⟨e,by rw[au (hp p q)];exact n,r⟩
 ·by_cases hb:b=a
  ·subst hb;rw[ao] at q;cases q;exact new
  ·rw[au hb] at q
   exact(I.hok b u q).stay (fun c v _ r=>r) (fun c r=>by rw[au (aH r hn)];exact r) fun c xs r=>by rw[au (aH r hn)];exact r
end
section
variable {X:Cx}{x n:Str}{i:Nat}{C:Addr}{np hpos pos:Pos}{body suite:List Stmt}{b₀:Stmt}{tb:(St->XK)->TS}{th:TS}
end
end L2
set_option maxRecDepth 100000
namespace L2
open PySem PySem.Spec PyProof.Rows PySem.W
section
variable {prog:Program}{w:World}{A:Around}{E:Value->Shared->Prop}{h:Heap}{g:Array GenState}{d:Drawn}{t:Nat}{os:OsState}{K:PySem.W.Frag}{a C:Addr}{o:Obj}
end
end L2
set_option maxRecDepth 100000
namespace L2
open PySem PySem.Spec PyProof.Rows
section
variable {X:Cx}{pins:List (Addr×Obj)}{σ:St}{H H':Hp}{s s':Shared}
end
section
variable {P:Program}{w:World}{K:PySem.W.Frag}{mg:Str->Option Value}{base:Heap}{N:List Str}{qual:Str}{scope:Scope}{f:Addr}{cd:Value}{A:Around}{outer:List Env}{s₀:Shared}{H₀:Hp}{E:XK}
end
section
variable {X:Cx}{CX:CXT}{k:Nat}{f:Addr}{fd:FuncData}{ps:List Str}{sp:Sp}{dvs:List V}{ds:List Value}{E:St->XK}{x:Str}{p pos:Pos}{e:Expr}{es:List Expr}{t:TA}
end
end L2
namespace RB
open PySem L2 PySem.Spec PyProof.Rows
end RB
set_option maxRecDepth 100000
namespace L2
open PySem PySem.Spec PyProof.Rows
section
variable {X:Cx}{x:Str}{C:Addr}{np hpos pos:Pos}{body suite:List Stmt}{b₀:Stmt}{tb:(St->XK)->TS}{th:TS}
end
end L2
set_option maxRecDepth 100000
namespace L2
open PySem PySem.Spec PyProof.Rows
section
variable {X:Cx}{pins:List (Addr×Obj)}{σ:List (Option V)}{H:Hp}{s:Shared}{h':Heap}
theorem Inv.PB {t':Nat}{ch:List Addr} (I:Inv X pins σ H s) (hf:∀b∈ch,Dn X pins H b) (k:∀b o,b∉ch->s.heap.get? b=some o->h'.get? b=some o):Inv X pins σ H {s with heap:=h',toks:=t'}:=by
 have nit:∀b u,H b=some u->b∉ch:=fun b u e z=>by rw[(hf b z).1] at e;cases e
 refine I.step (g':=s.gens) (d':=s.drawn) (ch:=ch) (fun b hb=> ?_) (fun b o _ _ hc e _=>k b o hc e) (fun b o _ _ hc e _=>⟨o.slots,k b o hc e⟩) (fun _ _ _ _ n=>n)
  (fun b o hc e=>⟨o,k b o hc e⟩) (fun _ _ e=>e) (fun _ _ _ e=>e) (fun b ps e=>⟨#[],by rw[e];simp⟩) (fun m hm=> ?_) (fun b u e=> ?_) I.bare
 ·obtain⟨_,f1,_,f3,f4,f5⟩:=hf b hb
  exact⟨f3,f1,f4,f5⟩
 ·obtain⟨o,es,ep,ho,r⟩:=hm
  exact⟨o,es,ep,k _ o (fun z=>(hf _ z).2.1 rfl) ho,r⟩
 ·refine(I.hok b u e).stay (fun c v hc q=>k c v ?_ q) (fun _ q=>q) fun _ _ q=>q
  rcases hc with z | z
  ·rw[z];exact nit b u e
  ·exact nit c _ z
end
end L2
set_option maxRecDepth 100000
namespace RB
open PySem L2 PySem.Spec PyProof.Rows
section
variable {prog:Program}{w:World}{A:Around}{R:Result->Shared->Prop}{I:Addr}{fp wr:List Addr}{G:Array GenState->Array GenState->Prop}{n:Nat}{P:Nat->Value->Prop}{St:Nat->Shared->Prop}
end
end RB
set_option maxRecDepth 100000
namespace RB
open PySem L2 PySem.Spec PyProof.Rows
section
variable {prog:Program}{w:World}{A:Around}{E:Value->Shared->Prop}{s:Shared}
end
end RB
set_option maxRecDepth 100000
namespace L2
open PySem PySem.Spec PyProof.Rows RB
section
variable {X:Cx}
end
end L2
set_option maxRecDepth 100000
namespace RB
open PySem L2 PySem.Spec PyProof.Rows
structure gR (K:PySem.W.Frag) (C:Addr) (x qual:Str) (st:Stmt) (ps:List Str) (f:Addr) (fd:FuncData):Prop where
 F:Fun K x qual st f fd
 b:Binds K fd ps []
 m:Meth K C x f
end RB
set_option maxRecDepth 100000
namespace RB
open PySem L2 PySem.Spec PyProof.Rows
theorem adN (x:Str):x.cps.toList.length=x.length:=by simp[Str.length]
end RB
set_option maxRecDepth 100000
namespace RB
open PySem L2 PySem.Spec PyProof.Rows
end RB
set_option maxRecDepth 100000
namespace RB
open PySem L2 PySem.Spec PyProof.Rows
end RB
set_option maxRecDepth 100000
namespace RB
open PySem L2 PySem.Spec PyProof.Rows
theorem lF {X:Cx}{pos:Pos}:QE X (.Dict [] [] pos) Sh:=⟨Sq⟩
end RB
set_option maxRecDepth 100000
namespace RB
open PySem L2 PySem.Spec PyProof.Rows
end RB
set_option maxRecDepth 100000
namespace RB
open PySem L2 PySem.Spec PyProof.Rows
end RB
set_option maxRecDepth 100000
namespace RB
open PySem L2 PySem.Spec PyProof.Rows
def R.dat:R->PyData
 | .num n=> .tuple [.str "number", .int n]
 | .rd x=> .tuple [.str "read", .str x]
 | .bin op a b=> .tuple [.str op.word,a.dat,b.dat]
 | .pick a b c=> .tuple [.str "pick",a.dat,b.dat,c.dat]
 | .cho a ns=> .tuple [.str "choose",a.dat, .tuple (ns.map PyData.str)]
theorem IsR.dat {K:PySem.W.Frag}{H:Hp}{a:Addr}{r:R} (h:IsR H a r):oE K H (.ref a) r.dat:=by
 induction h with
 | num e=>exact .tup (SqT.of e) (.cons (.str _) (.cons (.int _) .nil))
 | rd e=>exact .tup (SqT.of e) (.cons (.str _) (.cons (.str _) .nil))
 | bin e _ _ i1 i2=>exact .tup (SqT.of e) (.cons (.str _) (.cons i1 (.cons i2 .nil)))
 | pick e _ _ _ i1 i2 i3=>exact .tup (SqT.of e) (.cons (.str _) (.cons i1 (.cons i2 (.cons i3 .nil))))
 | cho e _ h2 i1=>exact .tup (SqT.of e) (.cons (.str _) (.cons i1 (.cons (.tup (SqT.of h2) (lE _)) .nil)))
theorem Ri {x:Str} (h:∀c∈x.cps.toList,c<128):PyData.strOk x=true:=by
 show x.cps.all (· <0x110000)=true
 rw[<-Array.all_toList,List.all_eq_true]
 intro c hc
 exact decide_eq_true (by have:=h c hc;omega)
theorem zR {x:Str} (h:jT x):PyData.strOk x=true:=Ri fun c hc=>by have:=h.2.2 c hc;unfold Py at this;omega
theorem Ny (op:Op):PyData.strOk op.word=true:=by cases op<;>decide +kernel
theorem Dy:∀ns:List Str,(∀x∈ns,jT x)->PyData.canLayAll0 (ns.map PyData.str)=true
 |[],_=>rfl
 | x::r,h=>by
   show(PyData.canLay0 (.str x)&&PyData.canLayAll0 (r.map PyData.str))=true
   rw[Dy r fun y hy=>h y (List.mem_cons_of_mem _ hy)]
   show(PyData.strOk x&&true)=true
   rw[zR (h x List.mem_cons_self)];rfl
theorem R.lay:∀r:R,r.Good->r.dat.canLay0=true
 | .num n,_=>by show(PyData.strOk "number"&&(true&&true))=true;decide +kernel
 | .rd x,h=>by
   show(PyData.strOk "read"&&(PyData.strOk x&&true))=true
   rw[zR h];decide +kernel
 | .bin op a b,h=>by
   show(PyData.strOk op.word&&(a.dat.canLay0&&(b.dat.canLay0&&true)))=true
   rw[Ny,R.lay a h.1,R.lay b h.2];rfl
 | .pick a b c,h=>by
   show(PyData.strOk "pick"&&(a.dat.canLay0&&(b.dat.canLay0&&(c.dat.canLay0&&true))))=true
   rw[R.lay a h.1,R.lay b h.2.1,R.lay c h.2.2];decide +kernel
 | .cho a ns,h=>by
   show(PyData.strOk "choose"&&(a.dat.canLay0&&(PyData.canLayAll0 (ns.map PyData.str)&&true)))=true
   rw[R.lay a h.1,Dy ns h.2.2.2];decide +kernel
theorem R.oJ:∀r:R,r.dat.depth<=r.depth+2
 | .num n=>by simp[R.dat,R.depth,PyData.depth,PyData.depthAll]
 | .rd x=>by simp[R.dat,R.depth,PyData.depth,PyData.depthAll]
 | .bin op a b=>by
   have:=R.oJ a
   have:=R.oJ b
   simp only[R.dat,R.depth,PyData.depth,PyData.depthAll];omega
 | .pick a b c=>by
   have:=R.oJ a
   have:=R.oJ b
   have:=R.oJ c
   simp only[R.dat,R.depth,PyData.depth,PyData.depthAll];omega
 | .cho a ns=>by
   have:=R.oJ a
   have:=qQ ns
   have:=a.um
   simp only[R.dat,R.depth,PyData.depth,PyData.depthAll];omega
theorem R.shaped {r:R} (h:r.Good) (hd:r.depth<=8):SeqAt.shaped r.dat=true:=by
 show(r.dat.canLay0&&decide (r.dat.depth<=64))=true
 have:=r.oJ
 rw[r.lay h,decide_eq_true (by omega)];rfl
def YD (K:PySem.W.Frag) (neg:Bool):R2:=fun x y H Q=>∃d,oE K H x d/\oE K H y d/\SeqAt.shaped d=true/\Q (.bl (!neg)) H
theorem zT {d:PyData} (h:SeqAt.shaped d=true):d.canLay0=true:=by
 have h':(d.canLay0&&decide (d.depth<=64))=true:=h
 rw[Bool.and_eq_true] at h'
 exact h'.1
theorem Gz {X:Cx} (hu:X.A.units+64<cLine):QOp X (compareOp .Eq) (YD X.K false):=⟨fun pins s σ H x y v u Q I rx ry h=>by
 obtain⟨d,h1,h2,h3,q⟩:=h
 have e:=PySem.SeqAt.eqv_refl d (zT h3)
 exact SM hu pins s σ H x y v u Q I rx ry ⟨d,d,h1,h2,h3,h3,by rw[e];exact q⟩⟩
theorem GC {X:Cx} (hu:X.A.units+64<cLine):QOp X (compareOp .NotEq) (YD X.K true):=⟨fun pins s σ H x y v u Q I rx ry h=>by
 obtain⟨d,h1,h2,h3,q⟩:=h
 have e:=PySem.SeqAt.eqv_refl d (zT h3)
 exact SN hu pins s σ H x y v u Q I rx ry ⟨d,d,h1,h2,h3,h3,by rw[e];exact q⟩⟩
end RB
set_option maxRecDepth 100000
namespace RB
open PySem L2 PySem.Spec PyProof.Rows
end RB
set_option maxRecDepth 100000
namespace RB
open PySem L2 PySem.Spec PyProof.Rows
end RB
set_option maxRecDepth 100000
namespace RB
open PySem L2 PySem.Spec PyProof.Rows
end RB
set_option maxRecDepth 100000
namespace RB
open PySem L2 PySem.Spec PyProof.Rows
end RB
set_option maxRecDepth 100000
namespace RB
open PySem L2 PySem.Spec PyProof.Rows PySem.NumText
end RB
set_option maxRecDepth 100000
namespace RB
open PySem L2 PySem.Spec PyProof.Rows PySem.NumText
end RB
set_option maxRecDepth 100000
namespace L2
open PySem PySem.Spec PyProof.Rows
section
variable {prog:Program}{w:World}{A:Around}{E:Value->Shared->Prop}
theorem Lj {it l:Addr}{its:Array Value} (ne:l≠it):∀(n i:Nat) (s:Shared) (Q:List Value->Shared->Prop),i+n<=its.size->s.heap.IsListIter it l i->s.heap.IsList l its->
 (∀h',h'.IsListIter it l (i+n)->h'.IsList l its->(∀b o,b≠it->s.heap.get? b=some o->h'.get? b=some o)->Q ((its.toList.drop i).take n) {s with heap:=h'})->wpAny (model prog w) A (draw (.ref it) n) Q E s
 | 0,i,s,Q,_,st,hl,fin=>wpAny_pure (by simpa using fin s.heap st hl fun _ _ _ e=>e)
 | n+1,i,s,Q,le,st,hl,fin=>by
   have lt:i<its.size:=by omega
   show wpAny _ _ (pyNext (.ref it)>>=_) Q E s
   refine wpAny_bind (wpAny_pyNext_list_item st hl (x:=its[i]) (Array.getElem?_eq_getElem lt) fun h1 st1 sb=> ?_)
   have hl1:h1.IsList l its:=hl.at fun o e=>(sb.2 l ne).trans e
   refine wpAny_bind (wpAny_holding (Lj ne n (i+1) _ _ (by omega) st1 hl1 fun h2 st2 hl2 k2=>wpAny_pure ?_))
   have e1:its.toList.drop i=its[i]::its.toList.drop (i+1):=by simp[List.drop_eq_getElem_cons,lt]
   have q:=fin h2 (by rw[show i+(n+1)=i+1+n by omega];exact st2) hl2 fun b o hb e=>k2 b o hb ((sb.2 b hb).trans e)
   rw[e1,List.take_succ_cons] at q
   exact q
theorem Nz {l:Addr}{its:Array Value}{s:Shared}{targets:List (Bool×(Value->Sem Unit))}{Q:Unit->Shared->Prop} (calm:A.handled=none) (hl:s.heap.IsList l its) (hn:targets.length=its.size) (hs:targets.findIdx? (·.1)=none)
 (fin:∀h',(∀b o,s.heap.get? b=some o->h'.get? b=some o)->wpAny (model prog w) A (assignInOrder (targets.map (·.2)) its.toList) Q E {s with heap:=h'}):wpAny (model prog w) A (unpack (.ref l) targets) Q E s:=by
 have ne:l≠s.heap.objs.size:=by obtain⟨o,ho,_⟩:=hl;exact Nat.ne_of_lt (Heap.lt_size ho)
 unfold unpack
 rw[hn,hs]
 refine wpAny_bind (wpAny_holding ?_)
 unfold unpackItems
 refine wpAny_bind ?_
 unfold notIterableAtAll
 refine wpAny_bind (wpAny_specialOf hl.typeIs slot_list_iter.lookup (wpAny_pure ?_))
 rw[if_neg (by decide)]
 refine wpAny_bind (wpAny_holding (wpAny_pyIter_list hl ?_))
 refine wpAny_bind (wpAny_holding (Lj ne its.size 0 _ _ (by omega) ⟨_,Heap.get?_push_size _ rfl,rfl,rfl⟩ (hl.push _) fun h1 st1 hl1 k1=> ?_))
 have all:(its.toList.drop 0).take its.size=its.toList:=by simp[List.take_of_length_le]
 rw[all,if_neg (by simp)]
 refine wpAny_bind (wpAny_holding (wpAny_pyNext_list_end calm st1 hl1 (by simp) fun h2 k2=> ?_))
 rw[if_neg (by simp)]
 refine wpAny_pure (fin h2 fun b o e=> ?_)
 have nb:b≠s.heap.objs.size:=Nat.ne_of_lt (Heap.lt_size e)
 exact k2 b o nb (k1 b o nb (Heap.get?_push_of_some _ e))
end
section
variable {X:Cx}{pos:Pos}
def adO (K:PySem.W.Frag) (n:Nat) (t:TGs):TG:=fun v σ H Q=>∃a xs,v= .ref a/\SqL K H a xs/\xs.length=n/\t xs σ H Q
theorem aa1 {es:List Expr}{k:Nat}{t:TGs}{n:Nat} (hc:X.calm=true) (h:PGs X es t) (hn:(assignEach es X.env).length=n:=by rfl) (hst:(assignEach es X.env).findIdx? (·.1)=none:=by rfl):PG X (.Tuple es k pos) (adO X.K n t):=by
 intro pins s σ H v u Q I r hw
 obtain⟨a,xs,rfl,hq,hl,hw⟩:=hw
 cases r
 obtain⟨its,rv,pl,hz⟩:=I.list hq
 rw[assign_Tuple]
 refine wpAny_bind (wpAny_standAt (Nz (I.ok.hd hc) pl.isList (by simp[hn,<-hl,rv.length]) hst fun h' k=> ?_))
 exact h pins _ σ H xs _ Q (I.kept (t':=s.toks) k) (by simpa using rv) hw
theorem Tp {es:List Expr}{k:Nat}{t:TGs}{n:Nat} (hc:X.calm=true) (h:QGs X es t) (hn:(assignEach es X.env).length=n:=by rfl) (hst:(assignEach es X.env).findIdx? (·.1)=none:=by rfl):QG X (.Tuple es k pos) (adO X.K n t):=⟨aa1 hc h.h hn hst⟩
theorem JS (hc:X.calm=true):qN X (.builtin "max") (fun xs H Q=>∃i j,xs=[.int i, .int j]/\Q (.int (if j>i then j else i)) H):=⟨QJ hc⟩
end
end L2
namespace RB
open PySem L2 PySem.Spec PyProof.Rows
end RB
set_option maxRecDepth 100000
namespace L2
open PySem PySem.Spec PyProof.Rows
end L2
namespace RB
open PySem L2 PySem.Spec PyProof.Rows
end RB
set_option maxRecDepth 100000
namespace RB
open PySem L2 PySem.Spec PyProof.Rows
theorem Wk {α:Type}{l m:List α}{y:α} (h:l=m++[y]):atI l (-1)=some y:=by
 subst h
 unfold atI ixN
 have hl:(m++[y]).length=m.length+1:=by simp
 rw[hl,if_neg (by omega),if_pos (by omega)]
 show(m++[y])[((m.length+1:Nat)+(-1:Int)).toNat]? =some y
 rw[show(((m.length+1:Nat):Int)+(-1)).toNat=m.length by omega]
 simp
end RB
set_option maxRecDepth 100000
namespace RB
open PySem L2 PySem.Spec PyProof.Rows
end RB
set_option maxRecDepth 100000
namespace RB
open PySem L2 PySem.Spec PyProof.Rows
abbrev Rdp:=Str×Int
def rdV (p:Rdp):List V:=[.str p.1, .int p.2]
inductive iJ (H:Hp):List Addr->List Rdp->Prop where
 | nil:iJ H [] []
 | cons {a:Addr}{p:Rdp}{as:List Addr}{ps:List Rdp} (h:H a=some (.tup (rdV p))) (t:iJ H as ps):iJ H (a::as) (p::ps)
theorem iJ.tups {H H':Hp} (t:mK H H') {as:List Addr}{ps:List Rdp} (h:iJ H as ps):iJ H' as ps:=by
 induction h with
 | nil=>exact .nil
 | cons h _ ih=>exact .cons (t _ _ h) ih
theorem iJ.same {H H':Hp} (s:aW H H') {as:List Addr}{ps:List Rdp} (h:iJ H as ps):iJ H' as ps:=h.tups (aW.tups s)
theorem iJ.length {H:Hp}{as:List Addr}{ps:List Rdp} (h:iJ H as ps):as.length=ps.length:=by
 induction h with
 | nil=>rfl
 | cons _ _ ih=>simp[ih]
theorem iJ.snoc {H:Hp}{a:Addr}{p:Rdp} (h:H a=some (.tup (rdV p))):∀{as:List Addr}{ps:List Rdp},iJ H as ps->iJ H (as++[a]) (ps++[p])
 | _,_, .nil=> .cons h .nil
 | _,_, .cons h' t=> .cons h' (t.snoc h)
theorem iJ.get {H:Hp}{as:List Addr}{ps:List Rdp} (h:iJ H as ps):∀(i:Nat) (a:Addr),as[i]? =some a->∃p,ps[i]? =some p/\H a=some (.tup (rdV p)):=by
 induction h with
 | nil=>intro i a e;simp at e
 | @cons b p as ps h t ih=>
   intro i a e
   cases i with
   | zero=>have:b=a:=by simpa using e
           subst this;exact⟨_,rfl,h⟩
   | succ i=>exact ih i a (by simpa using e)
theorem Tq {as:List Addr}{i:Nat}{x:V} (h:(as.map V.ref)[i]? =some x):∃a,as[i]? =some a/\x= .ref a:=by
 rw[List.getElem?_map] at h
 cases e:as[i]? with
 | none=>rw[e] at h;cases h
 | some a=>rw[e] at h;cases h;exact⟨a,rfl,rfl⟩
end RB
namespace RB
open PySem L2 PySem.Spec PyProof.Rows
end RB
set_option maxRecDepth 100000
namespace L2
open PySem PySem.Spec PyProof.Rows
def GD (t:Str) (k:Nat):Str:=⟨((List.replicate k t.cps.toList).flatten).toArray⟩
theorem YF (t:Array Nat):∀(k:Nat) (acc:Array Nat),((List.replicate k t).foldl (· ++ ·) acc).toList=acc.toList++(List.replicate k t.toList).flatten
 | 0,acc=>by simp
 | k+1,acc=>by
   rw[List.replicate_succ,List.foldl_cons,YF t k,Array.toList_append,List.replicate_succ,List.flatten_cons,List.append_assoc]
theorem Wl {t:Str}{n:Int} (h:1<=n):Txt.mul t n=GD t n.toNat:=by
 unfold Txt.mul
 rw[if_neg (by omega)]
 split
 ·rename_i hc
  unfold GD
  rcases Bool.or_eq_true_iff.mp hc with z | z
  ·have:n=1:=by simpa using z
   subst this
   cases t;simp
  ·have z':t.length=0:=by simpa using z
   have e:t.cps.toList=[]:=by
    have:=z'
    unfold Str.length at this
    simpa using this
   rw[e]
   cases t with
   | mk c=>
     have e':c= #[]:=by simpa using e
     subst e'
     simp
 ·unfold GD
  have e:=YF t.cps n.toNat #[]
  generalize (List.replicate n.toNat t.cps).foldl (· ++ ·) #[]=A at e
  have:A=((List.replicate n.toNat t.cps.toList).flatten).toArray:=by
   have e2:=congrArg List.toArray e
   simpa using e2
  rw[this]
end L2
namespace RB
open PySem L2 PySem.Spec PyProof.Rows
theorem Tr (t:Str) (k:Nat):(GD t k).cps.toList=(List.replicate k t.cps.toList).flatten:=by unfold GD;simp
theorem Wm (t:Str) (k:Nat):(GD t k).length=k * t.length:=by
 rw[<-adN,Tr,len_rep,adN]
end RB
set_option maxRecDepth 100000
namespace L2
open PySem PySem.Spec PyProof.Rows
theorem Tt {t:Str}{n:Int} (h:0<=n):Txt.mul t n=GD t n.toNat:=by
 by_cases h1:1<=n
 ·exact Wl h1
 ·have e:n=0:=by omega
  subst e
  unfold Txt.mul
  rw[if_pos (by omega)]
  rfl
def YG:R2:=fun x y H Q=>∃t n,x= .str t/\y= .int n/\0<=n/\n<=1000/\t.length<=1000/\Q (.str (GD t n.toNat)) H
theorem Wn {X:Cx}:OpR X (binaryOp .Mult) YG:=by
 intro pins s σ H x y v u Q I rx ry h
 obtain⟨t,n,rfl,rfl,h1,h2,h3,q⟩:=h
 obtain⟨k,rfl⟩:=rx
 obtain⟨k',rfl⟩:=ry
 have e63:(2:Int)^ 63=9223372036854775808:=by decide
 refine SB.mul ⟨?_,fun hn _=> ?_,fun hn _=> ?_⟩ fun t' kk=>⟨.str _,H,I.tok kk,⟨t',rfl⟩,by rw[Tt h1];exact q⟩
 ·rw[e63]
  simp
  omega
 ·intro hgt
  have hle:(1000:Int)<=((2:Int)^ 63 - 1)/ n:=by
   rw[e63]
   exact Int.le_ediv_of_mul_le (by omega) (by omega)
  omega
 ·have:t.length * n.toNat<=1000 * 1000:=Nat.mul_le_mul h3 (by omega)
  exact decide_eq_false (by rw[sizeLine_eq];omega)
theorem Wo {X:Cx}{es:List Expr}{pos:Pos}{K:PySem.W.Frag}{k n:Nat}{t:TGs} (eK:X.K=K) (hc:X.calm=true) (h:QGs X es t) (hn:(assignEach es X.env).length=n:=by rfl) (hst:(assignEach es X.env).findIdx? (·.1)=none:=by rfl):QG X (.Tuple es k pos) (Z7 K n t):=eK▸Td hc h hn hst
theorem Tu {X:Cx}:QOp X (binaryOp .Mult) YG:=⟨Wn⟩
end L2
namespace RB
open PySem L2 PySem.Spec PyProof.Rows
theorem SqL.same {K:PySem.W.Frag}{H H':Hp}{a:Addr}{xs:List V} (s:aW H H') (h:SqL K H a xs):SqL K H' a xs:=by
 rcases h with(e | ⟨o,e⟩) | h
 ·exact .inl (.inl (s _ _ e))
 ·exact .inl (.inr ⟨o,s _ _ e⟩)
 ·exact .inr h
theorem iM {S:List Addr}{H0 H H':Hp} (s:aW H0 H) (hS:∀p∈S,H0 p=none) (b:But S H H'):aW H0 H':=fun a o e=>b a o (fun z=>by rw[hS a z] at e;cases e) (s a o e)
def Tv (K:PySem.W.Frag):Sp:=fun vs H Q _=>∃(a:Addr) (ns:List Int) (k:Int),vs=[.ref a, .int k]/\SqL K H a (ns.map V.int)/\0<=k/\∀n,Q (.int n) H
def qR (rest:Int) (mixed:Bool) (count:Int):List (Key×V):=[(.inr "rest", .int rest),(.inr "mixed", .bl mixed),(.inr "count", .int count)]
def fJ (H:Hp) (p:Addr) (c:Nat):Prop:=∃(rest:Int) (mixed:Bool) (count:Int),H p=some (.dK (qR rest mixed count))/\0<=count/\count<=(c:Int)
theorem fJ.keep {S:List Addr}{H H':Hp}{p:Addr}{c:Nat} (h:fJ H p c) (b:But S H H') (hp:p∉S):fJ H' p c:=by
 obtain⟨r,m,k,e,h⟩:=h
 exact⟨r,m,k,b _ _ hp e,h⟩
theorem fJ.same {H H':Hp}{p:Addr}{c:Nat} (h:fJ H p c) (b:aW H H'):fJ H' p c:=h.keep (S:=[]) (But.of_same b) (by simp)
theorem fJ.tups {H H':Hp}{p:Addr}{c:Nat} (h:fJ H p c) (b:But [p] H H'):mK H H':=fun q xs e=>b q _ (fun z=>by
 obtain⟨r,m,k,e',_⟩:=h
 have:q=p:=by simpa using z
 rw[this,e'] at e;cases e) e
def NB (K:PySem.W.Frag):Sp:=fun vs H Q _=>∃(a:Addr) (ns:List Int) (k:Int),vs=[.ref a, .int k]/\SqL K H a (ns.map V.int)/\0<=k/\k<=100/\∀p H',aW H H'->H p=none->fJ H' p 503->Q (.ref p) H'
def wI:Sp:=fun vs H Q _=>∃(p:Addr) (c:Nat) (many:Int),vs=[.ref p, .int many]/\fJ H p c/\c<=100000/\0<many/\many.natAbs.log2<9000/\∀n H',0<=n->n<many->But [p] H H'->fJ H' p (c+1)->Q (.int n) H'
def ltr (i:Nat):Str:=⟨#[i+97]⟩
def ak (k:Nat):Str:=ltr (k % 26)++GD (ltr (k * 7 % 26)) (k * 5 % 8)
def Lk:Sp:=fun vs H Q _=>∃k:Nat,vs=[.int (k:Int)]/\k<=1000/\Q (.str (ak k)) H
theorem Tw {n:Int}{i:Nat} (h:n=(i:Int)) (hi:i<26):atI (Str.ofString "abcdefghijklmnopqrstuvwxyz").cps.toList n=some (i+97):=by
 subst h
 exact jZ (by rw[Lf,List.getElem?_map,List.getElem?_range hi];rfl)
def names26:List Str:=(List.range 26).map ak
theorem JT:∀x∈names26++[("qz":Str),"xz","jz"],jT x:=by decide +kernel
theorem Jr {H:Hp}{p:Addr}{a c:Int}{b:Bool} (e:H p=some (.dK (qR a b c))):bM H p (.str "rest") (some (.int a)):=bM.k (k:= .inr "rest") e
theorem NK {H:Hp}{p:Addr}{a c:Int}{b:Bool} (e:H p=some (.dK (qR a b c))):bM H p (.str "mixed") (some (.bl b)):=bM.k (k:= .inr "mixed") e
theorem GF {H:Hp}{p:Addr}{a c:Int}{b:Bool} (e:H p=some (.dK (qR a b c))):bM H p (.str "count") (some (.int c)):=bM.k (k:= .inr "count") e
theorem zx {H:Hp}{p:Addr}{a c:Int}{b:Bool} (e:H p=some (.dK (qR a b c))) (x:Int):jD H p (.str "rest") (.int x) (upd H p (.dK (qR x b c))):=jD.k (k:= .inr "rest") e (aV (by show 3<=1000;decide))
theorem GJ {H:Hp}{p:Addr}{a c:Int}{b:Bool} (e:H p=some (.dK (qR a b c))) (x:Int):jD H p (.str "count") (.int x) (upd H p (.dK (qR a b x))):=jD.k (k:= .inr "count") e (aV (by show 3<=1000;decide))
end RB
set_option maxRecDepth 100000
namespace RB
open PySem L2 PySem.Spec PyProof.Rows
abbrev Kn:=Str->Option Int
def Kn.put (kn:Kn) (x:Str) (v:Int):Kn:=fun y=>if y=x then some v else kn y
def Kn.puts:Kn->List Rdp->Kn
 | kn,[]=>kn
 | kn,p::ps=>(kn.put p.1 p.2).puts ps
def Kn.Le (kn kn':Kn):Prop:=∀x v,kn x=some v->kn' x=some v
theorem Kn.Le.refl (kn:Kn):Kn.Le kn kn:=fun _ _ h=>h
theorem Kn.Le.trans {a b c:Kn} (h:Kn.Le a b) (g:Kn.Le b c):Kn.Le a c:=fun x v z=>g x v (h x v z)
theorem Kn.lG {kn:Kn}{x:Str}{v:Int} (h:kn x=none):Kn.Le kn (kn.put x v):=fun y u z=>by
 unfold Kn.put
 rw[if_neg (fun e=>by rw[e,h] at z;cases z)];exact z
def Op.ap:Op->Int->Int->Int
 | .plus,u,v=>u+v
 | .minus,u,v=>u - v
 | .times,u,v=>u * v
 | .most,u,v=>if v>u then v else u
def qT (ns:List Str) (u:Int):Option Str:=ns[(u % (ns.length:Int)).toNat]?
def look (kn:Kn) (x:Str):Str ⊕ Int:=match kn x with
 | some v=> .inr v
 | none=> .inl x
def ev (kn:Kn):R->Str ⊕ Int
 | .num n=> .inr n
 | .rd x=>look kn x
 | .bin op a b=>match ev kn a with
   | .inl x=> .inl x
   | .inr u=>match ev kn b with
     | .inl x=> .inl x
     | .inr v=> .inr (op.ap u v)
 | .pick a b c=>match ev kn a with
   | .inl x=> .inl x
   | .inr u=>if u>0 then ev kn b else ev kn c
 | .cho a ns=>match ev kn a with
   | .inl x=> .inl x
   | .inr u=>match qT ns u with
     | none=> .inr 0
     | some x=>look kn x
theorem PJ {kn kn':Kn} (h:Kn.Le kn kn') {x:Str}{v:Int} (e:look kn x= .inr v):look kn' x= .inr v:=by
 unfold look at e ⊢
 cases z:kn x with
 | none=>rw[z] at e;cases e
 | some u=>rw[z] at e;rw[h x u z];exact e
theorem ur {kn:Kn}{x y:Str} (e:look kn x= .inl y):y=x/\kn x=none:=by
 unfold look at e
 cases z:kn x with
 | none=>rw[z] at e;cases e;exact⟨rfl,rfl⟩
 | some u=>rw[z] at e;cases e
theorem qu {kn:Kn}:∀{r:R}{x:Str},ev kn r= .inl x->kn x=none
 | .num n,x,h=>by cases h
 | .rd y,x,h=>by obtain⟨rfl,h⟩:=ur h;exact h
 | .bin op a b,x,h=>by
   simp only[ev] at h
   cases ea:ev kn a with
   | inl y=>rw[ea] at h;cases h;exact qu ea
   | inr u=>
     rw[ea] at h
     cases eb:ev kn b with
     | inl y=>rw[eb] at h;cases h;exact qu eb
     | inr v=>rw[eb] at h;cases h
 | .pick a b c,x,h=>by
   simp only[ev] at h
   cases ea:ev kn a with
   | inl y=>rw[ea] at h;cases h;exact qu ea
   | inr u=>
     rw[ea] at h
     simp only at h
     split at h
     ·exact qu h
     ·exact qu h
 | .cho a ns,x,h=>by
   simp only[ev] at h
   cases ea:ev kn a with
   | inl y=>rw[ea] at h;cases h;exact qu ea
   | inr u=>
     rw[ea] at h
     simp only at h
     cases ep:qT ns u with
     | none=>rw[ep] at h;cases h
     | some y=>rw[ep] at h;obtain⟨rfl,h⟩:=ur h;exact h
theorem kO {kn kn':Kn} (hk:Kn.Le kn kn'):∀{r:R}{v:Int},ev kn r= .inr v->ev kn' r= .inr v
 | .num n,v,h=>h
 | .rd y,v,h=>PJ hk h
 | .bin op a b,v,h=>by
   simp only[ev] at h ⊢
   cases ea:ev kn a with
   | inl y=>rw[ea] at h;cases h
   | inr u=>
     rw[ea] at h;rw[kO hk ea]
     cases eb:ev kn b with
     | inl y=>rw[eb] at h;cases h
     | inr w=>rw[eb] at h;rw[kO hk eb];exact h
 | .pick a b c,v,h=>by
   simp only[ev] at h ⊢
   cases ea:ev kn a with
   | inl y=>rw[ea] at h;cases h
   | inr u=>
     rw[ea] at h;rw[kO hk ea]
     simp only at h ⊢
     split at h
     ·rw[if_pos (by assumption)];exact kO hk h
     ·rw[if_neg (by assumption)];exact kO hk h
 | .cho a ns,v,h=>by
   simp only[ev] at h ⊢
   cases ea:ev kn a with
   | inl y=>rw[ea] at h;cases h
   | inr u=>
     rw[ea] at h;rw[kO hk ea]
     simp only at h ⊢
     cases ep:qT ns u with
     | none=>rw[ep] at h;exact h
     | some y=>rw[ep] at h;exact PJ hk h
inductive Stp where
 | r (r:R) | branch (s t:R) | among (ns:List Str) | join (op:Op)
structure Cf where
 todo:List Stp
 found:List Int
 rds:List Rdp
def tD (ps:List Rdp) (x:Str) (v:Int):List Rdp:=
 if(ps.any fun p=>decide (p.1=x))=true then ps.map (fun p=>if p.1=x then(p.1,v) else p) else ps++[(x,v)]
inductive St1 (kn:Kn):Cf->Cf->Prop where
 | num {t f d n}:St1 kn ⟨t++[.r (.num n)],f,d⟩ ⟨t,f++[n],d⟩
 | rd {t f d x v} (h:kn x=some v):St1 kn ⟨t++[.r (.rd x)],f,d⟩ ⟨t,f++[v],tD d x v⟩
 | bin {t f d op a b}:St1 kn ⟨t++[.r (.bin op a b)],f,d⟩ ⟨t++[.join op, .r b, .r a],f,d⟩
 | pick {t f d a b c}:St1 kn ⟨t++[.r (.pick a b c)],f,d⟩ ⟨t++[.branch b c, .r a],f,d⟩
 | cho {t f d a ns}:St1 kn ⟨t++[.r (.cho a ns)],f,d⟩ ⟨t++[.among ns, .r a],f,d⟩
 | branch {t f d b c v}:St1 kn ⟨t++[.branch b c],f++[v],d⟩ ⟨t++[.r (if v>0 then b else c)],f,d⟩
 | among {t f d ns v x} (h:qT ns v=some x):St1 kn ⟨t++[.among ns],f++[v],d⟩ ⟨t++[.r (.rd x)],f,d⟩
 | join {t f d op u v} (h:op= .times->Dp u v):St1 kn ⟨t++[.join op],f++[u,v],d⟩ ⟨t,f++[op.ap u v],d⟩
inductive StN (kn:Kn):Nat->Cf->Cf->Prop where
 | zero {c}:StN kn 0 c c
 | succ {n c c1 c2} (h:St1 kn c c1) (t:StN kn n c1 c2):StN kn (n+1) c c2
theorem StN.add {kn:Kn}{n m:Nat}{a b c:Cf} (h:StN kn n a b) (g:StN kn m b c):StN kn (n+m) a c:=by
 induction h with
 | zero=>rw[Nat.zero_add];exact g
 | succ h _ ih=>rw[Nat.succ_add];exact .succ h (ih g)
theorem St1.le {kn kn':Kn} (hk:Kn.Le kn kn') {a b:Cf} (h:St1 kn a b):St1 kn' a b:=by
 cases h with
 | num=>exact .num
 | rd h=>exact .rd (hk _ _ h)
 | bin=>exact .bin
 | pick=>exact .pick
 | cho=>exact .cho
 | branch=>exact .branch
 | among h=>exact .among h
 | join h=>exact .join h
theorem StN.le {kn kn':Kn} (hk:Kn.Le kn kn') {n:Nat}{a b:Cf} (h:StN kn n a b):StN kn' n a b:=by
 induction h with
 | zero=>exact .zero
 | succ h _ ih=>exact .succ (h.le hk) ih
theorem kW {α:Type}{s t:List α}{x y:α} (h:s++[x]=t++[y]):s=t/\x=y:=by
 have:=List.append_inj' h rfl
 exact⟨this.1,by simpa using this.2⟩
theorem Rj {α:Type}{s t:List α}{x y u v:α} (h:s++[x,y]=t++[u,v]):s=t/\x=u/\y=v:=by
 have:=List.append_inj' h rfl
 exact⟨this.1,by simpa using this.2⟩
def St1.Inv (kn:Kn) (f:List Int) (d:List Rdp) (t:List Stp) (c':Cf):Stp->Prop
 | .r (.num n)=>c'=⟨t,f++[n],d⟩
 | .r (.rd x)=>∃v,kn x=some v/\c'=⟨t,f++[v],tD d x v⟩
 | .r (.bin op a b)=>c'=⟨t++[.join op, .r b, .r a],f,d⟩
 | .r (.pick a b c)=>c'=⟨t++[.branch b c, .r a],f,d⟩
 | .r (.cho a ns)=>c'=⟨t++[.among ns, .r a],f,d⟩
 | .branch b c=>∃g v,f=g++[v]/\c'=⟨t++[.r (if v>0 then b else c)],g,d⟩
 | .among ns=>∃g v x,f=g++[v]/\qT ns v=some x/\c'=⟨t++[.r (.rd x)],g,d⟩
 | .join op=>∃g u v,f=g++[u,v]/\(op= .times->Dp u v)/\c'=⟨t,g++[op.ap u v],d⟩
theorem St1.inv {kn:Kn}{c c':Cf} (h:St1 kn c c'):∀t s,c.todo=t++[s]->St1.Inv kn c.found c.rds t c' s:=by
 cases h with
 | num=>intro t s e;obtain⟨rfl,rfl⟩:=kW e;exact rfl
 | rd h=>intro t s e;obtain⟨rfl,rfl⟩:=kW e;exact⟨_,h,rfl⟩
 | bin=>intro t s e;obtain⟨rfl,rfl⟩:=kW e;exact rfl
 | pick=>intro t s e;obtain⟨rfl,rfl⟩:=kW e;exact rfl
 | cho=>intro t s e;obtain⟨rfl,rfl⟩:=kW e;exact rfl
 | branch=>intro t s e;obtain⟨rfl,rfl⟩:=kW e;exact⟨_,_,rfl,rfl⟩
 | among h=>intro t s e;obtain⟨rfl,rfl⟩:=kW e;exact⟨_,_,_,rfl,h,rfl⟩
 | join h=>intro t s e;obtain⟨rfl,rfl⟩:=kW e;exact⟨_,_,_,rfl,h,rfl⟩
theorem St1.det {kn:Kn}{a b c:Cf} (h:St1 kn a b) (g:St1 kn a c):b=c:=by
 cases h with
 | num=>exact(g.inv _ _ rfl).symm
 | rd h=>
   obtain⟨v,e,z⟩:=g.inv _ _ rfl
   rw[h] at e;cases e;exact z.symm
 | bin=>exact(g.inv _ _ rfl).symm
 | pick=>exact(g.inv _ _ rfl).symm
 | cho=>exact(g.inv _ _ rfl).symm
 | branch=>
   obtain⟨f,v,e,z⟩:=g.inv _ _ rfl
   obtain⟨rfl,rfl⟩:=kW e
   exact z.symm
 | among h=>
   obtain⟨f,v,x,e,hx,z⟩:=g.inv _ _ rfl
   obtain⟨rfl,rfl⟩:=kW e
   rw[h] at hx;cases hx;exact z.symm
 | join h=>
   obtain⟨f,u,v,e,_,z⟩:=g.inv _ _ rfl
   obtain⟨rfl,rfl,rfl⟩:=Rj e
   exact z.symm
def Halt (kn:Kn) (c:Cf):Prop:=c.todo=[]\/∃t x,c.todo=t++[.r (.rd x)]/\kn x=none
theorem Halt.no {kn:Kn}{c c':Cf} (h:Halt kn c) (g:St1 kn c c'):False:=by
 rcases h with h | ⟨t,x,h,hx⟩
 ·cases g<;>simp at h
 ·obtain⟨v,e,_⟩:=g.inv _ _ h
  rw[hx] at e;cases e
theorem StN.rest {kn:Kn}{n m:Nat}{a b c:Cf} (h:StN kn n a b) (g:StN kn m a c) (hc:Halt kn c):∃k,StN kn k b c:=by
 induction h generalizing m with
 | zero=>exact⟨m,g⟩
 | succ h _ ih=>
   cases g with
   | zero=>exact(hc.no h).elim
   | succ h' g'=>rw[<-h.det h'] at g';exact ih g'
theorem Dz {ns:List Str} (h:1<=ns.length) (u:Int):∃x,qT ns u=some x:=by
 unfold qT
 have h1:(u % (ns.length:Int)).toNat<ns.length:=by
  have:=Int.emod_nonneg u (show(ns.length:Int)≠0 by omega)
  have:=Int.emod_lt_of_pos u (show(0:Int)<ns.length by omega)
  omega
 exact⟨_,List.getElem?_eq_getElem h1⟩
end RB
namespace RB
open PySem L2 PySem.Spec PyProof.Rows
def Reach (kn:Kn) (r:R) (c:Cf):Prop:=∃n,StN kn n ⟨[.r r],[],[]⟩ c
theorem Reach.le {kn kn':Kn} (h:Kn.Le kn kn') {r:R}{c:Cf} (g:Reach kn r c):Reach kn' r c:=by
 obtain⟨n,g⟩:=g
 exact⟨n,g.le h⟩
def kn0:Kn:=fun _=>none
end RB
set_option maxRecDepth 100000
namespace L2
open PySem PySem.Spec PyProof.Rows
section
variable {X:Cx}{i o:Expr}{ty td:TE}{pos:Pos}
theorem tE (hu:X.A.units+1<cLine) (hi:QE X i ty) (ho:QE X o td) (h1:behindInMarks .In o=false:=by rfl):QT X (.Compare i [.In] [o] pos) (tB (adB ty td)):=⟨RD (aaC hu hi.h ho.h) h1⟩
theorem qK (hu:X.A.units+1<cLine) (hi:QE X i ty) (ho:QE X o td) (h1:behindInMarks .NotIn o=false:=by rfl):QT X (.Compare i [.NotIn] [o] pos) (tB (Pb ty td)):=⟨RD (Q8 hu hi.h ho.h) h1⟩
end
end L2
namespace RB
open PySem L2 PySem.Spec PyProof.Rows
inductive Fj (H:Hp):V->Stp->Prop where
 | r {a:Addr}{r:R} (h:IsR H a r):Fj H (.ref a) (.r r)
 | branch {a b c:Addr}{s t:R} (e:H a=some (.tup [.str "branch", .ref b, .ref c])) (h1:IsR H b s) (h2:IsR H c t):Fj H (.ref a) (.branch s t)
 | among {a b:Addr}{ns:List Str} (e:H a=some (.tup [.str "among", .ref b])) (h:H b=some (.tup (ns.map V.str))):Fj H (.ref a) (.among ns)
 | join {a:Addr}{op:Op} (e:H a=some (.tup [.str "join", .str op.word])):Fj H (.ref a) (.join op)
theorem Fj.tups {H H':Hp} (t:mK H H') {v:V}{s:Stp} (h:Fj H v s):Fj H' v s:=by
 cases h with
 | r h=>exact .r (h.tups t)
 | branch e h1 h2=>exact .branch (t _ _ e) (h1.tups t) (h2.tups t)
 | among e h=>exact .among (t _ _ e) (t _ _ h)
 | join e=>exact .join (t _ _ e)
inductive oG (H:Hp):List V->List Stp->Prop where
 | nil:oG H [] []
 | cons {v:V}{s:Stp}{vs:List V}{ss:List Stp} (h:Fj H v s) (t:oG H vs ss):oG H (v::vs) (s::ss)
theorem oG.tups {H H':Hp} (t:mK H H') {vs:List V}{ss:List Stp} (h:oG H vs ss):oG H' vs ss:=by
 induction h with
 | nil=>exact .nil
 | cons h _ ih=>exact .cons (h.tups t) ih
theorem oG.app {H:Hp}:∀{vs ws:List V}{ss ts:List Stp},oG H vs ss->oG H ws ts->oG H (vs++ws) (ss++ts)
 | _,_,_,_, .nil,h=>h
 | _,_,_,_, .cons h' t,h=> .cons h' (t.app h)
theorem oG.snoc {H:Hp}{s:Stp}:∀{ss:List Stp}{vs:List V},oG H vs (ss++[s])->∃us v,vs=us++[v]/\oG H us ss/\Fj H v s
 |[],_,h=>by
  cases h with
  | cons h t=>cases t;exact⟨[],_,rfl, .nil,h⟩
 | s0::ss,_,h=>by
   cases h with
   | cons h t=>
     obtain⟨us,v,rfl,h1,h2⟩:=oG.snoc (ss:=ss) t
     exact⟨_::us,v,rfl, .cons h h1,h2⟩
theorem oG.length {H:Hp}{vs:List V}{ss:List Stp} (h:oG H vs ss):vs.length=ss.length:=by
 induction h with
 | nil=>rfl
 | cons _ _ ih=>simp[ih]
def wR:R->Nat
 | .num _=>1
 | .rd _=>1
 | .bin _ a b=>wR a+wR b+2
 | .pick a b c=>wR a+wR b+wR c+2
 | .cho a _=>wR a+3
def wS:Stp->Nat
 | .r r=>wR r
 | .branch s t=>wR s+wR t+1
 | .among _=>2
 | .join _=>1
def wT (t:List Stp):Nat:=(t.map wS).sum
def Cf.w (c:Cf):Nat:=c.rds.length+c.found.length+2 * wT c.todo
theorem nH (s t:List Stp):wT (s++t)=wT s+wT t:=by unfold wT;rw[List.map_append,List.sum_append]
theorem aa2:∀r:R,1<=wR r
 | .num _=>Nat.le_refl _
 | .rd _=>Nat.le_refl _
 | .bin _ a b=>by show 1<=wR a+wR b+2;omega
 | .pick a b c=>by show 1<=wR a+wR b+wR c+2;omega
 | .cho a _=>by show 1<=wR a+3;omega
theorem aa3 (s:Stp):1<=wS s:=by
 cases s with
 | r r=>exact aa2 r
 | branch s t=>show 1<=wR s+wR t+1;omega
 | among ns=>exact(by decide:1<=2)
 | join op=>exact Nat.le_refl _
theorem NP:∀t:List Stp,t.length<=wT t
 |[]=>Nat.le_refl _
 | s::t=>by
   have:=NP t
   have:=aa3 s
   show t.length+1<=wS s+wT t
   omega
theorem Tz (d:List Rdp) (x:Str) (v:Int):(tD d x v).length<=d.length+1:=by
 unfold tD
 split
 ·rw[List.length_map];omega
 ·rw[List.length_append];exact Nat.le_refl _
theorem St1.w {kn:Kn}{a b:Cf} (h:St1 kn a b):b.w<=a.w:=by
 cases h with
 | @num t f d n=>
   show d.length+(f++[n]).length+2 * wT t<=d.length+f.length+2 * wT (t++[.r (.num n)])
   rw[nH,List.length_append];show _<=_+2 *(_+1);simp;omega
 | @rd t f d x v h=>
   have:=Tz d x v
   show(tD d x v).length+(f++[v]).length+2 * wT t<=d.length+f.length+2 * wT (t++[.r (.rd x)])
   rw[nH,List.length_append];show _<=_+2 *(_+1);simp;omega
 | @bin t f d op a b=>
   show d.length+f.length+2 * wT (t++[.join op, .r b, .r a])<=d.length+f.length+2 * wT (t++[.r (.bin op a b)])
   rw[nH,nH];show _+2 *(_+(1+(wR b+(wR a+0))))<=_+2 *(_+(wR a+wR b+2+0));omega
 | @pick t f d a b c=>
   show d.length+f.length+2 * wT (t++[.branch b c, .r a])<=d.length+f.length+2 * wT (t++[.r (.pick a b c)])
   rw[nH,nH];show _+2 *(_+(wR b+wR c+1+(wR a+0)))<=_+2 *(_+(wR a+wR b+wR c+2+0));omega
 | @cho t f d a ns=>
   show d.length+f.length+2 * wT (t++[.among ns, .r a])<=d.length+f.length+2 * wT (t++[.r (.cho a ns)])
   rw[nH,nH];show _+2 *(_+(2+(wR a+0)))<=_+2 *(_+(wR a+3+0));omega
 | @branch t f d b c v=>
   show d.length+f.length+2 * wT (t++[.r (if v>0 then b else c)])<=d.length+(f++[v]).length+2 * wT (t++[.branch b c])
   rw[nH,nH,List.length_append]
   have:wR (if v>0 then b else c)<=wR b+wR c:=by split<;>omega
   show _+2 *(_+(wR (if v>0 then b else c)+0))<=_+2 *(_+(wR b+wR c+1+0));omega
 | @among t f d ns v x h=>
   show d.length+f.length+2 * wT (t++[.r (.rd x)])<=d.length+(f++[v]).length+2 * wT (t++[.among ns])
   rw[nH,nH,List.length_append];show _+2 *(_+1)<=_+2 *(_+2);omega
 | @join t f d op u v h=>
   show d.length+(f++[op.ap u v]).length+2 * wT t<=d.length+(f++[u,v]).length+2 * wT (t++[.join op])
   rw[nH,List.length_append,List.length_append];show _+(_+1)+_<=_+(_+2)+2 *(_+1);omega
def rdK (d:List Rdp):List (Key×V):=d.map fun p=>(.inr p.1, .int p.2)
theorem Wq (d:List Rdp) (x:Str) (v:Int):putK (rdK d) (.inr x) (.int v)=rdK (tD d x v):=by
 unfold putK tD rdK
 rw[List.any_map]
 have e:((fun kv:Key×V=>decide (kv.1=(.inr x:Key)))∘fun p:Rdp=>((.inr p.1:Key),V.int p.2))=fun p:Rdp=>decide (p.1=x):=by
  funext p
  show decide ((Sum.inr p.1:Key)=Sum.inr x)=_
  by_cases h:p.1=x
  ·rw[decide_eq_true h,decide_eq_true (by rw[h])]
  ·rw[decide_eq_false h,decide_eq_false (fun z=>h (Sum.inr.inj z))]
 rw[e]
 by_cases hc:(d.any fun p=>decide (p.1=x))=true
 ·rw[if_pos hc,if_pos hc,List.map_map,List.map_map]
  apply List.map_congr_left
  intro p _
  show(if(Sum.inr p.1:Key)=Sum.inr x then((Sum.inr p.1:Key),V.int v) else((Sum.inr p.1:Key),V.int p.2))=_
  by_cases h:p.1=x
  ·rw[if_pos (by rw[h])]
   show _=((Sum.inr (if p.1=x then(p.1,v) else p).1:Key),V.int (if p.1=x then(p.1,v) else p).2)
   rw[if_pos h]
  ·rw[if_neg (fun z=>h (Sum.inr.inj z))]
   show _=((Sum.inr (if p.1=x then(p.1,v) else p).1:Key),V.int (if p.1=x then(p.1,v) else p).2)
   rw[if_neg h]
 ·rw[if_neg hc,if_neg hc,List.map_append];rfl
def rkF (a1 a2 a3:Addr):List (Str×V):=[("todo", .ref a1),("found", .ref a2),("reads", .ref a3)]
structure RcAt (H:Hp) (a C dx a1 a2 a3:Addr) (c:Cf):Prop where
 e:H a=some (.ins C dx (rkF a1 a2 a3))
 e1:∃ws,H a1=some (.lst ws)/\oG H ws c.todo
 e2:H a2=some (.lst (c.found.map V.int))
 e3:H a3=some (.dK (rdK c.rds))
 ne:a1≠a2
 hw:c.w<=10000
structure RkC (K:PySem.W.Frag) (C:Addr):Prop where
 cl:Cls K C
 nT:jE K C "todo"
 nF:jE K C "found"
 nR:jE K C "reads"
def TF (H:Hp) (d:Addr) (kn:Kn):Prop:=∃kvs,H d=some (.dK kvs)/\∀x,cO kvs (.inr x)=(kn x).map V.int
theorem JV (a1 a2 a3:Addr):List.lookup ("todo":Str) (rkF a1 a2 a3)=some (.ref a1):=rfl
theorem GK (a1 a2 a3:Addr):List.lookup ("found":Str) (rkF a1 a2 a3)=some (.ref a2):=rfl
theorem GP (a1 a2 a3:Addr):List.lookup ("reads":Str) (rkF a1 a2 a3)=some (.ref a3):=rfl
theorem YH (a1 a2 a3:Addr):List.lookup ("go_on":Str) (rkF a1 a2 a3)=none:=rfl
theorem BJ (a1 a2 a3:Addr):List.lookup ("lacking":Str) (rkF a1 a2 a3)=none:=rfl
def PK:Sp:=fun vs H Q _=>∃(op:Op) (u v:Int),vs=[.str op.word, .int u, .int v]/\(op= .times->Dp u v)/\Q (.int (op.ap u v)) H
def Ln (C:Addr):Sp:=fun vs H Q _=>∃(a dx b:Addr) (r:R),vs=[.ref a, .ref b]/\H a=some (.ins C dx [])/\IsR H b r/\wR r<=4000/\
 ∀a1 a2 a3 H',But [a] H H'->H a1=none->H a2=none->H a3=none->RcAt H' a C dx a1 a2 a3 ⟨[.r r],[],[]⟩->Q .non H'
def adP (C:Addr):Sp:=fun vs H Q _=>∃(a dx a1 a2 a3:Addr) (v:V) (s:Stp) (t:List Stp) (f:List Int) (d:List Rdp) (kn:Kn) (c:Cf),vs=[.ref a,v]/\RcAt H a C dx a1 a2 a3 ⟨t,f,d⟩/\Fj H v s/\(∀x,s≠ .r (.rd x))/\
 St1 kn ⟨t++[s],f,d⟩ c/\c.w<=10000/\∀H',But [a1,a2,a3] H H'->RcAt H' a C dx a1 a2 a3 c->Q .non H'
def TJ (C:Addr):Sp:=fun vs H Q _=>∃(a dx a1 a2 a3 d:Addr) (kn:Kn) (n:Nat) (c c':Cf),vs=[.ref a, .ref d]/\RcAt H a C dx a1 a2 a3 c/\TF H d kn/\d≠a3/\StN kn n c c'/\Halt kn c'/\
 ∀H',But [a1,a2,a3] H H'->RcAt H' a C dx a1 a2 a3 c'->(c'.todo=[]->Q .non H')/\∀t x,c'.todo=t++[.r (.rd x)]->Q (.str x) H'
theorem RcAt.lists {H:Hp}{a C dx a1 a2 a3:Addr}{c:Cf} (h:RcAt H a C dx a1 a2 a3 c) {H':Hp} (b:But [a1,a2,a3] H H'):mK H H':=fun p xs q=>b p _ (fun z=>by
 obtain⟨ws,e1,_⟩:=h.e1
 have:p=a1\/p=a2\/p=a3:=by simpa using z
 rcases this with rfl | rfl | rfl
 ·rw[e1] at q;cases q
 ·rw[h.e2] at q;cases q
 ·rw[h.e3] at q;cases q) q
end RB
namespace RB
open PySem L2 PySem.Spec PyProof.Rows
theorem dX {H:Hp}{p q:Addr}{o:HO} (h:upd H p o q=none):q≠p/\H q=none:=by
 by_cases e:q=p
 ·subst e;rw[ao] at h;cases h
 ·rw[au e] at h;exact⟨e,h⟩
theorem RcAt.ins {H:Hp}{a C dx a1 a2 a3:Addr}{c:Cf} (h:RcAt H a C dx a1 a2 a3 c):a∉[a1,a2,a3]:=fun z=>by
 obtain⟨ws,e1,_⟩:=h.e1
 have z:a=a1\/a=a2\/a=a3:=by simpa using z
 have e:=h.e
 rcases z with z | z | z
 ·rw[z,e1] at e;cases e
 ·rw[z,h.e2] at e;cases e
 ·rw[z,h.e3] at e;cases e
theorem RcAt.n13 {H:Hp}{a C dx a1 a2 a3:Addr}{c:Cf} (h:RcAt H a C dx a1 a2 a3 c):a1≠a3:=fun z=>by
 obtain⟨ws,e1,_⟩:=h.e1
 have e:=h.e3
 rw[<-z,e1] at e;cases e
theorem RcAt.n23 {H:Hp}{a C dx a1 a2 a3:Addr}{c:Cf} (h:RcAt H a C dx a1 a2 a3 c):a2≠a3:=fun z=>by
 have e:=h.e3
 rw[<-z,h.e2] at e;cases e
theorem RcAt.next {H H':Hp}{a C dx a1 a2 a3:Addr}{c c':Cf}{ws:List V} (h:RcAt H a C dx a1 a2 a3 c) (b:But [a1,a2,a3] H H') (g1:H' a1=some (.lst ws)) (s:oG H' ws c'.todo) (g2:H' a2=some (.lst (c'.found.map V.int))) (g3:H' a3=some (.dK (rdK c'.rds))) (hw:c'.w<=10000):RcAt H' a C dx a1 a2 a3 c':=
 ⟨b _ _ h.ins h.e,⟨ws,g1,s⟩,g2,g3,h.ne,hw⟩
theorem Fj.hd {H:Hp}{v:V}{s:Stp} (h:Fj H v s) (hno:∀x,s≠ .r (.rd x)):∃p k xs,v= .ref p/\H p=some (.tup (.str k::xs))/\k≠"read":=by
 cases h with
 | r h=>
   cases h with
   | num e=>exact⟨_,_,_,rfl,e,by decide +kernel⟩
   | rd e=>exact absurd rfl (hno _)
   | @bin _ _ _ op _ _ e _ _=>exact⟨_,_,_,rfl,e,by cases op<;>decide +kernel⟩
   | pick e _ _ _=>exact⟨_,_,_,rfl,e,by decide +kernel⟩
   | cho e _ _=>exact⟨_,_,_,rfl,e,by decide +kernel⟩
 | branch e _ _=>exact⟨_,_,_,rfl,e,by decide +kernel⟩
 | among e _=>exact⟨_,_,_,rfl,e,by decide +kernel⟩
 | join e=>exact⟨_,_,_,rfl,e,by decide +kernel⟩
theorem StN.halt {kn:Kn}{n:Nat}{c c':Cf} (h:StN kn n c c') (hc:Halt kn c):c=c':=by
 cases h with
 | zero=>rfl
 | succ h _=>exact(hc.no h).elim
theorem aa4 {H:Hp}{a:Addr}{o:HO} (h:H a=some o):upd H a o=H:=by
 funext b
 by_cases e:b=a
 ·subst e;rw[ao,h]
 ·rw[au e]
end RB
namespace RB
open PySem L2 PySem.Spec PyProof.Rows
end RB
namespace RB
open PySem L2 PySem.Spec PyProof.Rows
theorem same_none {H H':Hp}{p:Addr} (s:aW H H') (h:H' p=none):H p=none:=by
 cases z:H p with
 | none=>rfl
 | some o=>rw[s _ _ z] at h;cases h
end RB
set_option maxRecDepth 100000
namespace L2
open PySem PySem.Spec PyProof.Rows
theorem FW {k:Key}{v:Value} (h:Es k v=true):RelV (kV k) v:=by
 rcases iI h with⟨i,t,rfl,rfl⟩ | ⟨x,t,rfl,rfl⟩
 ·exact⟨t,rfl⟩
 ·exact⟨t,rfl⟩
theorem zU:∀{ys:List V}{its:List Value},its.length=ys.length->(∀(i:Nat) (v:Value),its[i]? =some v->∃y,ys[i]? =some y/\RelV y v)->Vals ys its
 |[],[],_,_=> .nil
 | y::ys,v::its,hl,h=>by
   obtain⟨y',e,r⟩:=h 0 v rfl
   cases e
   exact .cons r (zU (by simpa using hl) fun i u hu=>h (i+1) u (by simpa using hu))
 |[],_::_,hl,_=>by simp at hl
 | _::_,[],hl,_=>by simp at hl
theorem wJ {κ:Type}:∀{kvs:List (κ×V)}{vs:List (κ×Value)},KV kvs vs->kvs.length=vs.length/\∀(i:Nat) (k:κ) (x:Value),vs[i]? =some (k,x)->∃y,kvs[i]? =some (k,y)
 | _,_, .nil=>⟨rfl,fun i k x h=>by simp at h⟩
 | _,_, .cons (a:=p) (b:=q) h t=>by
   obtain⟨h1,h2⟩:=wJ t
   refine⟨by simp[h1],fun i k x e=> ?_⟩
   cases i with
   | zero=>cases e;exact⟨p.2,by rw[List.getElem?_cons_zero];cases p;simp only at h ⊢;rw[h.1]⟩
   | succ i=>exact h2 i k x (by simpa using e)
section
variable {X:Cx}
theorem NQ (hc:X.calm=true):qL X (.type "list") (fun xs H Q=>∃a kvs,xs=[.ref a]/\H a=some (.dK kvs)/\∀l,H l=none->Q (.ref l) (upd H l (.lst (kvs.map fun kv=>kV kv.1)))):=by
 intro pins s σ H xs us Q I r h
 obtain⟨a,kvs,rfl,ha,q⟩:=h
 obtain⟨u,rfl,rx⟩:=vals1 r
 cases rx
 obtain⟨hz,lo,vs,hkv,hd⟩:=(show fH X.prog X.w H s.heap a (.dK kvs) from I.hok a _ ha)
 obtain⟨ep,hat⟩:=hd.dictAt
 obtain⟨hl,hk⟩:=wJ hkv
 refine PySem.W.kdl_call (PySem.W.kdl_dict lo) (I.ok.hd hc) hat (by rw[<-hl];exact hz) fun h' tk acc c kp e hacc=> ?_
 have hv:Vals (kvs.map fun kv=>kV kv.1) acc.toList:=zU (by rw[List.length_map,Array.length_toList,hacc.1,hl]) fun i v hv=>by
  obtain⟨k,x,e1,e2⟩:=hacc.2 i v (by rw[<-Array.getElem?_toList];exact hv)
  obtain⟨y,hy⟩:=hk i k x e1
  exact⟨kV k,by rw[List.getElem?_map,hy];rfl,FW e2⟩
 exact⟨.ref s.heap.objs.size,_,I.laid (t':=tk) kp (Nat.le_refl _) (show fH X.prog X.w _ h' _ (.lst (kvs.map fun kv=>kV kv.1)) from⟨by rw[List.length_map];exact hz,acc.toList,c,hv,by simpa using e⟩),rfl,q _ (I.hok.fresh (Nat.le_refl _))⟩
theorem BK (hc:X.calm=true):qN X (.type "list") (fun xs H Q=>∃a kvs,xs=[.ref a]/\H a=some (.dK kvs)/\∀l,H l=none->Q (.ref l) (upd H l (.lst (kvs.map fun kv=>kV kv.1)))):=⟨NQ hc⟩
end
end L2
set_option maxRecDepth 100000
namespace RB
open PySem L2 PySem.Spec PyProof.Rows
def R.In (ns:List Str):R->Prop
 | .num _=>True
 | .rd x=>x∈ns
 | .bin _ a b=>a.In ns/\b.In ns
 | .pick a b c=>a.In ns/\b.In ns/\c.In ns
 | .cho a ms=>a.In ns/\∀x∈ms,x∈ns
end RB
namespace RB
open PySem L2 PySem.Spec PyProof.Rows
theorem iQ {S:List Addr}{H H':Hp}{q:Addr} (b:But S H H') (h:H' q=none) (hS:q∉S):H q=none:=by
 cases z:H q with
 | none=>rfl
 | some o=>rw[b _ _ hS z] at h;cases h
theorem qU {ns:List Str} (h:∀x∈ns,jT x):SeqAt.shaped (.list (ns.map PyData.str))=true:=by
 have:=qQ ns
 have h4:(PyData.list (ns.map PyData.str)).depth<=64:=by simp only[PyData.depth];omega
 have h5:(PyData.list (ns.map PyData.str)).canLay0=true:=by simp only[PyData.canLay0];exact Dy ns h
 show(_&&decide _)=true
 rw[h5,decide_eq_true h4];rfl
theorem PL {ns:List Str} (h:1<=ns.length):PyData.eqv (.list (ns.map PyData.str)) (.list [])=false:=by
 cases ns with
 | nil=>simp at h
 | cons n ns=>simp[PyData.eqv,PyData.eqvAll]
end RB
set_option maxRecDepth 100000
namespace L2
open PySem PySem.Spec PyProof.Rows
section
variable {X:Cx}{e st:Expr}{te ts:TE}{pos p2:Pos}
end
end L2
set_option maxRecDepth 100000
namespace RB
open PySem L2 PySem.Spec PyProof.Rows
def Chn (r:R):Kn->List Rdp->Prop
 | _,[]=>True
 | kn,p::us=>ev kn r= .inl p.1/\Chn r (kn.put p.1 p.2) us
theorem Chn.le {r:R}:∀{us:List Rdp}{kn:Kn},Chn r kn us->Kn.Le kn (kn.puts us)
 |[],kn,_=>Kn.Le.refl _
 | p::us,kn,h=>(Kn.lG (qu h.1)).trans (Chn.le (us:=us) h.2)
theorem Chn.up {a r:R}:∀{us:List Rdp}{kn:Kn},(∀kn' x,Kn.Le kn kn'->ev kn' a= .inl x->ev kn' r= .inl x)->Chn a kn us->Chn r kn us
 |[],_,_,_=>trivial
 | p::us,kn,h,g=>⟨h kn p.1 (Kn.Le.refl _) g.1,Chn.up (us:=us) (fun kn' x l e=>h kn' x ((Kn.lG (qu g.1)).trans l) e) g.2⟩
theorem Kn.fK (kn:Kn) (us vs:List Rdp):kn.puts (us++vs)=(kn.puts us).puts vs:=by
 induction us generalizing kn with
 | nil=>rfl
 | cons u us ih=>exact ih _
theorem Chn.app {r:R}:∀{us vs:List Rdp}{kn:Kn},Chn r kn us->Chn r (kn.puts us) vs->Chn r kn (us++vs)
 |[],_,_,_,h=>h
 | p::us,vs,kn,g,h=>⟨g.1,Chn.app (us:=us) g.2 h⟩
end RB
set_option maxRecDepth 100000
namespace L2
open PySem PySem.Spec PyProof.Rows
def Itd (a:Addr) (o:Obj) (kvs:List (Key×V)):It where
 go:=fun i H=>i<kvs.length/\H a=some (.frz o (.dK kvs))
 yld:=fun i H x H'=>H'=H/\∃k v,kvs[i]? =some (k,v)/\x=kV k
 stop:=fun i H=>kvs.length<=i/\H a=some (.frz o (.dK kvs))
theorem Js {P:Program}{w:World}{K:PySem.W.Frag}{tg:Expr}{a it:Addr}{o:Obj}{kvs:List (Key×V)}{vs:List (Key×Value)}{es:Array DictEntry}{ep:Nat} (hne:a≠it) (hkv:KV kvs vs) (hx:o.ExactDict) (hdat:o.data= .dict es ep) (hk:PySem.KeysOf (dH P w) es) (hp:Pairs (dH P w) es.toList vs) (hn:(vs.map (·.1)).Nodup):
 Turn P w K tg (Itd a o kvs) [it] it (fun i h=>h.IsKeyIter it a i kvs.length ep) where
 mem:=by simp
 obj:=fun i h st b hb=>by
  have e:b=it:=by simpa using hb
  subst e
  obtain⟨o,e,c,d⟩:=st
  exact⟨o,e,fun v z=>by rw[d] at z;cases z⟩
 keep:=fun i h h' st k=>st.at fun o e=>k it (by simp) o e
 item:=by
  intro X hP hw hK hc i pins s σ H E I hf st hg
  subst hP hw hK
  obtain⟨hi,hH⟩:=hg
  obtain⟨ho,_⟩:=(show fH X.prog X.w H s.heap a (.frz o (.dK kvs)) from I.hok a _ hH)
  have hm:s.heap.DictAt (dH X.prog X.w) a vs ep:=⟨o,es,ho,hx,hdat,hk,hp,hn⟩
  obtain⟨hl,hat⟩:=wJ hkv
  have hi':i<vs.length:=by rw[<-hl];exact hi
  obtain⟨⟨k,x⟩,hxk⟩:∃p,vs[i]? =some p:=⟨vs[i],by simp[hi']⟩
  obtain⟨y,hy⟩:=hat i k x hxk
  obtain⟨f0,f1,f2,f3,f4,f5⟩:=hf it (by simp)
  rw[hl] at st
  refine wpAny_pyNext_dict_item st hm hxk fun key h' hkey hit' hs'=> ?_
  have I1:Inv X pins σ H {s with heap:=h'}:=I.turned (t':=s.toks) (fun b o hb e=>hs'.extBut b o hb e) f0 f1 f3 f4 f5
  obtain⟨o',e',c',d'⟩:=id hit'
  exact⟨key,rfl,RT (s:={s with heap:=h'}) e' c' d' (by decide) ⟨kV k,H,I1,FW hkey,⟨rfl,k,y,hy,rfl⟩,by rw[hl];exact hit',fun b hb=>(hf b hb).1⟩⟩
 done:=by
  intro X hP hw hK hc i pins s σ H E I hf st hg
  subst hP hw hK
  obtain⟨hi,hH⟩:=hg
  obtain⟨ho,_⟩:=(show fH X.prog X.w H s.heap a (.frz o (.dK kvs)) from I.hok a _ hH)
  have hm:s.heap.DictAt (dH X.prog X.w) a vs ep:=⟨o,es,ho,hx,hdat,hk,hp,hn⟩
  obtain⟨hl,hat⟩:=wJ hkv
  obtain⟨f0,f1,f2,f3,f4,f5⟩:=hf it (by simp)
  rw[hl] at st
  exact wpAny_pyNext_dict_end (I.ok.hd hc) st hm (by rw[List.getElem?_eq_none_iff];omega) fun h' eb=>⟨rfl,I.turned (t':=s.toks) (fun b o hb e=>eb b o hb e) f0 f1 f3 f4 f5⟩
 self:=fun _ _ _ _ _ st h=>wpAny_pyIter_keyiter st h
section
variable {X:Cx}{tg:Expr}
def YJ (tl:TE):TI:=fun σ H R=>tl σ H fun x H1=>∃a kvs,x= .ref a/\H1 a=some (.dK kvs)/\∀o,R (Itd a o kvs) (upd H1 a (.frz o (.dK kvs)))
theorem Ws {l:Expr}{tl:TE} (hl:PE X l tl):PI X tg l (YJ tl):=by
 intro pins s σ H R I h
 refine thn (hl pins s σ H _ I h) fun v s1 ⟨x,H1,I1,r1,q1⟩=> ?_
 obtain⟨a,kvs,e,hq,q⟩:=q1
 subst e
 cases r1
 obtain⟨hz,lo,vs,hkv,hd⟩:=(show fH X.prog X.w H1 s1.heap a (.dK kvs) from I1.hok a _ hq)
 obtain⟨o,es,ep,ho,hx,hdat,hk,hp,hn⟩:=id hd
 have hl:=(wJ hkv).1
 have I2:Inv X pins σ (upd H1 a (.frz o (.dK kvs))) {s1 with heap:=s1.heap,toks:=s1.toks}:=I1.write (x:=a) (e:=a) (h':=s1.heap) (by rw[hq];exact trivial) (.inl rfl) (fun b u _ e=>e) ⟨o,ho⟩ ⟨ho,hz,lo,vs,hkv,hd⟩
 refine wpAny_pyIter_dict lo ⟨o,es,ho,hx,hdat,hk,hp,hn⟩ ?_
 have hlt:a<s1.heap.objs.size:=Heap.lt_size ho
 rw[<-hl]
 refine⟨s1.heap.objs.size,[s1.heap.objs.size],_,_,_,rfl,I2.kept (t':=s1.toks) fun b o e=>Heap.get?_push_of_some _ e,Js (Nat.ne_of_lt hlt) hkv hx hdat hk hp hn,⟨_,Heap.get?_push_size _ rfl,rfl,rfl⟩,fun b hb=> ?_,q o⟩
 have e:b=s1.heap.objs.size:=by simpa using hb
 subst e
 exact I2.MP (Nat.le_refl _) (I2.hok.fresh (Nat.le_refl _))
theorem Wt {l:Expr}{tl:TE} (hl:QE X l tl):QI X tg l (YJ tl):=⟨Ws hl.h⟩
end
section
variable {X:Cx}
theorem NT:qL X (.type "dict") (fun xs H Q=>∃a kvs,xs=[.ref a]/\Rd H a (.dK kvs)/\∀p,H p=none->Q (.ref p) (upd H p (.dK kvs))):=by
 intro pins s σ H xs us Q I r h
 obtain⟨a,kvs,rfl,ha,q⟩:=h
 obtain⟨u,rfl,rx⟩:=vals1 r
 cases rx
 obtain⟨hz,lo,vs,hkv,hd⟩:=(show fH X.prog X.w H s.heap a (.dK kvs) from ha.ok I.hok)
 have hl:=(wJ hkv).1
 refine kt_call_dict lo hd (Nat.le_trans (Nat.le_of_eq hl.symm) hz) fun h' hd' hs'=> ?_
 have keep:∀b u,s.heap.get? b=some u->h'.get? b=some u:=fun b u e=>by
  have hb:b≠s.heap.objs.size:=Nat.ne_of_lt (Heap.lt_size e)
  rw[hs'.2 b hb];exact Heap.get?_push_of_some _ e
 refine⟨.ref s.heap.objs.size,_,I.laid (t':=s.toks) keep (Nat.le_refl _) (show fH X.prog X.w _ h' _ (.dK kvs) from⟨hz, ?_,vs,hkv,hd'⟩),rfl,q _ (I.hok.fresh (Nat.le_refl _))⟩
 exact beq_eq_false_iff_ne.mpr (Nat.ne_of_gt I.big)
theorem uv:qN X (.type "dict") (fun xs H Q=>∃a kvs,xs=[.ref a]/\Rd H a (.dK kvs)/\∀p,H p=none->Q (.ref p) (upd H p (.dK kvs))):=⟨NT⟩
end
theorem TQ {κ:Type} [DecidableEq κ]:∀{vs:List (κ×Value)}{i:Nat}{k:κ}{u:Value},(vs.map (·.1)).Nodup->vs[i]? =some (k,u)->valueAt vs k=some u
 |[],i,k,u,_,h=>by simp at h
 | p::vs,i,k,u,hn,h=>by
   rw[List.map_cons,List.nodup_cons] at hn
   unfold valueAt
   cases i with
   | zero=>
     have:p=(k,u):=by simpa using h
     subst this
     simp
   | succ i=>
     have h':vs[i]? =some (k,u):=by simpa using h
     have hk:k∈vs.map (·.1):=List.mem_map.mpr ⟨(k,u),List.mem_of_getElem? h',rfl⟩
     have hne:¬p.1=k:=fun z=>hn.1 (z▸hk)
     have ih:=TQ hn.2 h'
     unfold valueAt at ih
     simp[hne] at ih ⊢
     exact ih
def wK:V->Bool
 | .byt _=>false
 | .flt _=>false
 | _=>true
theorem GQ {A:Around}{s:Shared}{x:V}{u v:Value} (hx:wK x=true) (r:RelV x u) (r':RelV x v):SeqAt.EqAt A s u v true:=by
 cases x with
 | int i=>obtain⟨t,rfl⟩:=r;obtain⟨t',rfl⟩:=r';have:=SeqAt.EqAt.int_int (A:=A) (s:=s) i t i t';simpa using this
 | str i=>obtain⟨t,rfl⟩:=r;obtain⟨t',rfl⟩:=r';have:=SeqAt.EqAt.str_str (A:=A) (s:=s) i t i t';simpa using this
 | non=>cases r;cases r';exact SeqAt.EqAt.same _
 | bl b=>cases r;cases r';exact SeqAt.EqAt.same _
 | ref a=>cases r;cases r';exact SeqAt.EqAt.same _
 | ty a=>cases r;cases r';exact SeqAt.EqAt.same _
 | byt a=>exact absurd (show false=true from hx) Bool.false_ne_true
 | flt a=>exact absurd (show false=true from hx) Bool.false_ne_true
theorem NZ {κ:Type}:∀{kvs:List (κ×V)}{vs:List (κ×Value)},KV kvs vs->∀(i:Nat) (k:κ) (x:Value),vs[i]? =some (k,x)->∃y,kvs[i]? =some (k,y)/\RelV y x
 | _,_, .nil=>fun i k x h=>by simp at h
 | _,_, .cons (a:=p) (b:=q) h t=>fun i k x e=>by
   cases i with
   | zero=>cases e;exact⟨p.2,by rw[List.getElem?_cons_zero];cases p;simp only at h ⊢;rw[h.1],h.2⟩
   | succ i=>exact NZ t i k x (by simpa using e)
theorem TV {κ:Type}:∀{kvs:List (κ×V)}{vs:List (κ×Value)},KV kvs vs->∀(i:Nat) (k:κ) (y:V),kvs[i]? =some (k,y)->∃x,vs[i]? =some (k,x)/\RelV y x
 | _,_, .nil=>fun i k x h=>by simp at h
 | _,_, .cons (a:=p) (b:=q) h t=>fun i k x e=>by
   cases i with
   | zero=>cases e;exact⟨q.2,by rw[List.getElem?_cons_zero];cases q;simp only at h ⊢;rw[h.1],h.2⟩
   | succ i=>exact TV t i k x (by simpa using e)
theorem PN {κ:Type} [DecidableEq κ] {A:Around}{s:Shared}{kb:List (κ×Value)}:∀{ka:List (κ×Value)},(∀k u,(k,u)∈ka->∃y,valueAt kb k=some y/\SeqAt.EqAt A s u y true)->PySem.W.KeqHits A s kb ka true
 |[],_=> .nil
 | (k,u)::r,h=>by
   obtain⟨y,h1,h2⟩:=h k u (by simp)
   exact PySem.W.KeqHits.hit (e:=true) (b:=true) h1 h2 (PN fun k u m=>h k u (by simp[m]))
def yH (P:Program) (w:World) (A:Around) (s:Shared) (y x:Value):Prop:=∀(E:Value->Shared->Prop) (Q:Bool->Shared->Prop),Q true s->wpAny (model P w) A (eqBool y x) Q E s
theorem yH.of {P:Program}{w:World}{A:Around}{s:Shared}{y x:Value} (h:SeqAt.EqAt A s y x true):yH P w A s y x:=fun E Q q=>h P w E Q q
theorem N5 {A:Around}{s:Shared}{P:Program}{w:World}{a b:Addr}{kvs:List (Key×V)}{va vb:List (Key×Value)} (la:(a==sysModules)=false) (lb:(b==sysModules)=false) (ka:KV kvs va) (kb:KV kvs vb) (da:s.heap.DictOf (dH P w) a va) (db:s.heap.DictOf (dH P w) b vb) (hpl:∀p∈kvs,wK p.2=true) (hu:A.units<cLine):yH P w A s (.ref a) (.ref b):=fun E Q q=>by
 by_cases hab:a=b
 ·subst hab;exact SeqAt.EqAt.same (.ref a) P w E Q q
 have hn:(vb.map (·.1)).Nodup:=let ⟨_,_,_,_,_,_,_,_,hn⟩:=db;hn
 have hl:va.length=vb.length:=by rw[<-(wJ ka).1,<-(wJ kb).1]
 unfold eqBool
 refine wpAny_holding (wpAny_ite_split (fun z=>absurd (by have:=eq_of_beq z;injection this) hab) fun _=>wpAny_bind ?_)
 refine PySem.W.keq_eq (r:=true) la lb da db hu (fun _=>PN fun k u m=> ?_) (wpAny_truthy_bool ?_)
 ·obtain⟨i,hi⟩:=List.getElem?_of_mem m
  obtain⟨y,hy,ry⟩:=NZ ka i k u hi
  obtain⟨x,hx,rx⟩:=TV kb i k y hy
  exact⟨x,TQ hn hx,GQ (hpl (k,y) (List.mem_of_getElem? hy)) ry rx⟩
 ·rw[hl];simpa using q
def EqV (H:Hp) (x y:V):Prop:=(x=y/\wK x=true)\/∃a b kvs,x= .ref a/\y= .ref b/\Rd H a (.dK kvs)/\Rd H b (.dK kvs)/\∀p∈kvs,wK p.2=true
section
variable {X:Cx}
theorem GR {ts:List Str}:∀{us:List Value},Vals (ts.map V.str) us->StrsAre us ts:=by
 induction ts with
 | nil=>intro us r;cases r;exact .nil
 | cons n ns ih=>
   intro us r
   rw[List.map_cons] at r
   cases r with
   | cons r1 r2=>
     obtain⟨t,e⟩:=r1
     subst e
     exact .cons n t (ih r2)
theorem DG:∀{us:List Value}{ts:List Str},StrsAre us ts->Vals (ts.map V.str) us
 | _,_, .nil=> .nil
 | _,_, .cons y t h=> .cons ⟨t,rfl⟩ (DG h)
theorem JW:qL X (.builtin "sorted") (fun xs H Q=>∃(a:Addr) (ts:List Str),xs=[.ref a]/\SqL X.K H a (ts.map V.str)/\ts.length<64/\∀(p:Addr) (us:List Str),H p=none->us.Perm ts->Q (.ref p) (upd H p (.lst (us.map V.str)))):=by
 intro pins s σ H xs us Q I r h
 obtain⟨a,ts,rfl,ha,hl,q⟩:=h
 obtain⟨u,rfl,rx⟩:=vals1 r
 cases rx
 obtain⟨its,rv,pl,_⟩:=I.list ha
 have hli:its.length=ts.length:=by have:=rv.length;rw[List.length_map] at this;exact this.symm
 refine sorted_strs pl.isList (GR rv) (by omega) fun out ss h1 h2 h3=> ?_
 obtain⟨e,he⟩:=sortedAll_at s.heap its out
 have hfr:H (s.heap.objs.size+1)=none:=I.hok.fresh (Nat.le_succ _)
 have hsl:=h2.length_eq
 have hz:(ss.map V.str).length<=sizeLine:=by rw[List.length_map,hsl,sizeLine_eq];omega
 exact⟨.ref (s.heap.objs.size+1),_,I.laid (t':=s.toks) (o:= .lst (ss.map V.str)) (fun b u e=>sortedAll_old e) (Nat.le_succ _) ⟨hz,out.toList,e,DG h1,by simpa [seqObj] using he⟩,rfl,q _ ss hfr h2⟩
theorem GX:qN X (.builtin "sorted") (fun xs H Q=>∃(a:Addr) (ts:List Str),xs=[.ref a]/\SqL X.K H a (ts.map V.str)/\ts.length<64/\∀(p:Addr) (us:List Str),H p=none->us.Perm ts->Q (.ref p) (upd H p (.lst (us.map V.str)))):=⟨JW⟩
end
end L2
namespace RB
open PySem L2 PySem.Spec PyProof.Rows
def rdT (p:Rdp):PyData:= .tuple [.str p.1, .int p.2]
theorem Wu (p t:Rdp):PyData.eqv (rdT p) (rdT t)=decide (p=t):=by
 obtain⟨a,i⟩:=p
 obtain⟨b,j⟩:=t
 simp only[rdT,PyData.eqv,PyData.eqvAll]
 by_cases h1:a=b
 ·by_cases h2:i=j
  ·simp[h1,h2]
  ·simp[h1,h2]
 ·simp[h1]
theorem GZ {p:Rdp} (h:jT p.1):SeqAt.shaped (rdT p)=true:=by
 have hs:=zR h
 have h5:(rdT p).canLay0=true:=by
  show(PyData.strOk p.1&&(true&&true))=true
  rw[hs];rfl
 have h4:(rdT p).depth<=64:=by simp only[rdT,PyData.depth,PyData.depthAll];omega
 show(_&&decide _)=true
 rw[h5,decide_eq_true h4];rfl
open Classical in
def isT (H:Hp) (t:Rdp):Value->Bool
 | .ref a=>decide (H a=some (.tup (rdV t)))
 | _=>false
open Classical in
theorem PX {H:Hp}{t:Rdp}{a:Addr} (h:H a=some (.tup (rdV t))):isT H t (.ref a)=true:=by
 unfold isT
 exact decide_eq_true h
open Classical in
theorem TX {H:Hp}{t:Rdp}{a:Addr} (h:¬H a=some (.tup (rdV t))):isT H t (.ref a)=false:=by
 unfold isT
 exact decide_eq_false h
theorem P0 {p t:Rdp} (h:rdV p=rdV t):p=t:=by
 obtain⟨a,i⟩:=p
 obtain⟨b,j⟩:=t
 unfold rdV at h
 simp only[List.cons.injEq,V.str.injEq,V.int.injEq,and_true] at h
 rw[h.1,h.2]
theorem Qa {H:Hp}{t:Rdp}:∀{as:List Addr}{ps:List Rdp}{its:List Value},iJ H as ps->Vals (as.map V.ref) its->its.any (isT H t)=decide (t∈ps)
 | _,_,_, .nil,r=>by cases r;simp
 | _,_,_, .cons (a:=a) (p:=p) (as:=as) (ps:=ps) h g,r=>by
   cases r with
   | cons r1 r2=>
     cases r1
     rw[List.any_cons,Qa g r2]
     have e:isT H t (.ref a)=decide (t=p):=by
      by_cases z:t=p
      ·rw[decide_eq_true z,PX (by rw[z];exact h)]
      ·rw[decide_eq_false z,TX (fun w=>z (P0 (by rw[h] at w;exact(HO.tup.inj (Option.some.inj w)).symm)))]
     rw[e]
     by_cases z:t=p
     ·simp[z]
     ·simp[z]
theorem Rk {X:Cx} (hu:X.A.units+64<cLine):OpR X (compareOp .NotIn) (fun x y H Q=>∃(a l:Addr) (as:List Addr) (ps:List Rdp) (t:Rdp),x= .ref a/\y= .ref l/\H a=some (.tup (rdV t))/\SqL X.K H l (as.map V.ref)/\iJ H as ps/\(∀p∈ps,jT p.1)/\jT t.1/\Q (.bl (!decide (t∈ps))) H):=by
 intro pins s σ H x y v u Q I rx ry h
 obtain⟨a,l,as,ps,t,rfl,rfl,ha,hl,hR,hg,ht,q⟩:=h
 cases rx
 cases ry
 obtain⟨its,r,pl,_⟩:=I.list hl
 have dt:oE X.K H (.ref a) (rdT t):= .tup (SqT.of ha) (.cons (.str _) (.cons (.int _) .nil))
 obtain⟨bs,rt⟩:=dt.reads I (show RelV (.ref a) (.ref a) from rfl)
 refine SeqAt.notIn_listAt (isT H t) pl.isList (fun y hy=> ?_) ⟨.bl _,H,I,rfl, ?_⟩
 ·have hy:y∈its:=by simpa using hy
  obtain⟨i,hi⟩:=List.getElem?_of_mem hy
  have hli:i<(as.map V.ref).length:=by
   have:=(List.getElem?_eq_some_iff.mp hi).1
   rw[r.length];exact this
  have hx:(as.map V.ref)[i]? =some ((as.map V.ref)[i]):=List.getElem?_eq_getElem hli
  obtain⟨c,hc,ec⟩:=Tq hx
  obtain⟨p,hp,ep⟩:=hR.get i c hc
  obtain⟨z,hz,rz⟩:=r.get hx
  rw[hi] at hz
  cases hz
  rw[ec] at rz
  cases rz
  have dp:oE X.K H (.ref c) (rdT p):= .tup (SqT.of ep) (.cons (.str _) (.cons (.int _) .nil))
  obtain⟨cs,rp⟩:=dp.reads I (show RelV (.ref c) (.ref c) from rfl)
  have k:SeqAt.EqAt X.A.in1 s (.ref c) (.ref a) (PyData.eqv (rdT p) (rdT t)):=SeqAt.eqAt_reads _ _ _ _ _ _ _ _ rp rt (SeqAt.canLay_of_shaped (GZ (hg p (List.mem_of_getElem? hp)))) (SeqAt.canLay_of_shaped (GZ ht)) (by
   have h1:(rdT p).depth<=4:=by simp only[rdT,PyData.depth,PyData.depthAll];omega
   have h2:min (rdT p).depth (rdT t).depth<=(rdT p).depth:=Nat.min_le_left _ _
   have h3:X.A.in1.units=X.A.units+1:=rfl
   omega)
  rw[Wu] at k
  have e:isT H t (.ref c)=decide (p=t):=by
   by_cases z:p=t
   ·rw[decide_eq_true z,PX (by rw[<-z];exact ep)]
   ·rw[decide_eq_false z,TX (fun w=>z (P0 (by rw[ep] at w;exact HO.tup.inj (Option.some.inj w))))]
  rw[e];exact k
 ·rw[show its.toArray.any (isT H t)=its.any (isT H t) by simp,Qa hR r]
  exact q
theorem N6 {X:Cx} (hu:X.A.units+64<cLine):QOp X (compareOp .NotIn) (fun x y H Q=>∃(a l:Addr) (as:List Addr) (ps:List Rdp) (t:Rdp),x= .ref a/\y= .ref l/\H a=some (.tup (rdV t))/\SqL X.K H l (as.map V.ref)/\iJ H as ps/\(∀p∈ps,jT p.1)/\jT t.1/\Q (.bl (!decide (t∈ps))) H):=⟨Rk hu⟩
end RB
namespace L2
open PySem PySem.Spec PyProof.Rows
section
variable {X:Cx}{o e:Expr}{td ty:TE}{apos cpos:Pos}
end
end L2
set_option maxRecDepth 100000
namespace RB
open PySem L2 PySem.Spec PyProof.Rows
def R.T3:R->Prop
 | .num _=>True
 | .rd _=>True
 | .bin op a b=>a.T3/\b.T3/\(op= .times->∃n,b= .num n/\ -100<=n/\n<=100)
 | .pick a b c=>a.T3/\b.T3/\c.T3
 | .cho a ns=>a.T3/\1<=ns.length
structure Rk3 (ns:List Str) (d:Nat) (r:R):Prop where
 g:r.Good
 t:r.T3
 i:r.In ns
 d:r.depth<=d
def Qc:Sp:=fun vs H Q _=>∃(p l:Addr) (c:Nat) (ns:List Str),vs=[.ref p, .ref l]/\fJ H p c/\c<=50000/\H l=some (.lst (ns.map V.str))/\1<=ns.length/\ns.length<=9/\(∀x∈ns,jT x)/\
 ∀a r H',But [p] H H'->fJ H' p (c+6)->IsR H' a r->Rk3 ns 1 r->Q (.ref a) H'
def tk3:Nat->Nat
 | 0=>10
 | d+1=>3 * tk3 d+20
theorem Wv (d:Nat):10<=tk3 d:=by
 induction d with
 | zero=>exact Nat.le_refl _
 | succ d ih=>show 10<=3 * tk3 d+20;omega
def TY (d:Nat):Sp:=fun vs H Q _=>∃(p l:Addr) (c:Nat) (ns:List Str) (deep:Int),vs=[.ref p, .ref l, .int deep]/\deep=(d:Int)/\d<=3/\fJ H p c/\c<=10000+1000 *(4 - d)/\H l=some (.lst (ns.map V.str))/\1<=ns.length/\ns.length<=9/\(∀x∈ns,jT x)/\
 ∀a r H',But [p] H H'->fJ H' p (c+tk3 d)->IsR H' a r->Rk3 ns (d+1) r->Q (.ref a) H'
theorem fJ.ne {H:Hp}{p q:Addr}{c:Nat} (h:fJ H p c) (hq:H q=none):q≠p:=fun z=>by
 obtain⟨r,m,k,e',_⟩:=h
 rw[<-z,hq] at e';cases e'
theorem fJ.nel {H:Hp}{p l:Addr}{c:Nat}{xs:List V} (h:fJ H p c) (hl:H l=some (.lst xs)):l∉[p]:=fun z=>by
 obtain⟨r,m,k,e',_⟩:=h
 have:l=p:=by simpa using z
 rw[this,e'] at hl;cases hl
theorem fJ.mono {H:Hp}{p:Addr}{c c':Nat} (h:fJ H p c) (hc:c<=c'):fJ H p c':=by
 obtain⟨r,m,k,e,h0,h1⟩:=h
 exact⟨r,m,k,e,h0,by omega⟩
def ahx:Nat->Sp
 | 0=>fun _ _ _ _=>False
 | d+1=>TY d
def YK:Sp:=fun vs H Q _=>∃(p l:Addr) (c:Nat) (ns:List Str) (deep:Int),vs=[.ref p, .ref l, .int deep]/\0<=deep/\deep<4/\fJ H p c/\c<=6000/\H l=some (.lst (ns.map V.str))/\1<=ns.length/\ns.length<=9/\(∀x∈ns,jT x)/\
 ∀a r H',But [p] H H'->fJ H' p (c+530)->IsR H' a r->Rk3 ns 4 r->Q (.ref a) H'
end RB
set_option maxRecDepth 100000
namespace RB
open PySem L2 PySem.Spec PyProof.Rows
theorem Jt {κ:Type} [DecidableEq κ] (kvs:List (κ×V)) (k:κ) (v:V):(putK kvs k v).map (·.1)=if(kvs.any fun kv=>decide (kv.1=k))=true then kvs.map (·.1) else kvs.map (·.1)++[k]:=by
 unfold putK
 split
 ·rw[List.map_map]
  apply List.map_congr_left
  intro p _
  show(if p.1=k then(p.1,v) else p).1=p.1
  split<;>rfl
 ·rw[List.map_append];rfl
theorem yu {kvs:List (Key×V)}{ns:List Str} (h:kvs.map (·.1)=ns.map Sum.inr):kvs.map (fun kv=>kV kv.1)=ns.map V.str:=by
 have:kvs.map (fun kv=>kV kv.1)=(kvs.map (·.1)).map kV:=by rw[List.map_map];rfl
 rw[this,h,List.map_map];rfl
end RB
set_option maxRecDepth 100000
namespace RB
open PySem L2 PySem.Spec PyProof.Rows
structure iz (kvs:List (Key×V)) (ks:List Str):Prop where
 k:kvs.map (·.1)=ks.map Sum.inr
 nd:ks.Nodup
theorem iz.len {kvs:List (Key×V)}{ks:List Str} (h:iz kvs ks):kvs.length=ks.length:=by
 have:=congrArg List.length h.k
 rwa [List.length_map,List.length_map] at this
theorem JX {kvs:List (Key×V)}{ks:List Str} (h:iz kvs ks) (x:Str):(kvs.any fun kv=>decide (kv.1=(.inr x:Key)))=decide (x∈ks):=by
 have e:(kvs.any fun kv=>decide (kv.1=(.inr x:Key)))=(kvs.map (·.1)).any (fun k=>decide (k=(.inr x:Key))):=by rw[List.any_map];rfl
 rw[e,h.k,List.any_map]
 clear e h
 induction ks with
 | nil=>rfl
 | cons y ks ih=>
   rw[List.any_cons,ih]
   by_cases hy:x=y
   ·subst hy;simp
   ·have:¬(y=x):=fun z=>hy z.symm
    simp[hy,this]
theorem iz.none {kvs:List (Key×V)}{ks:List Str} (h:iz kvs ks) {x:Str}:cO kvs (.inr x)=none ↔ x∉ks:=by
 have e:=JX h x
 rw[ug] at e
 constructor
 ·intro z m
  rw[z] at e
  simp[m] at e
 ·intro m
  cases z:cO kvs (.inr x) with
  | none=>rfl
  | some v=>rw[z] at e;simp[m] at e
theorem iz.oK {kvs:List (Key×V)}{ks:List Str} (h:iz kvs ks) {x:Str} (hx:x∉ks) (v:V):iz (putK kvs (.inr x) v) (ks++[x]):=by
 refine⟨?_, ?_⟩
 ·rw[Jt,JX h x,decide_eq_false hx,if_neg (by decide),h.k,List.map_append];rfl
 ·rw[List.nodup_append]
  exact⟨h.nd,by simp,fun a ha b hb=>by
   have:b=x:=by simpa using hb
   rw[this];exact fun z=>hx (z▸ha)⟩
theorem iz.JZ {kvs:List (Key×V)}{ks:List Str} (h:iz kvs ks) {x:Str} (hx:x∈ks) (v:V):iz (putK kvs (.inr x) v) ks:=by
 refine⟨?_,h.nd⟩
 rw[Jt,JX h x,decide_eq_true hx,if_pos rfl,h.k]
def nmK (n:Nat):List Str:=(List.range n).map ak
theorem G3 {k:Nat} (h:k<26):jT (ak k):=JT _ (List.mem_append_left _ (List.mem_map.mpr ⟨k,List.mem_range.mpr h,rfl⟩))
theorem N7:∀i j:Fin 26,ak i.1=ak j.1->i=j:=by decide +kernel
theorem jn {i j:Nat} (hi:i<26) (hj:j<26) (h:ak i=ak j):i=j:=by
 have:=N7 ⟨i,hi⟩ ⟨j,hj⟩ h
 exact Fin.mk.inj this
theorem bT {n:Nat}{x:Str}:x∈nmK n ↔∃k,k<n/\x=ak k:=by
 unfold nmK
 rw[List.mem_map]
 constructor
 ·rintro⟨k,hk,rfl⟩;exact⟨k,List.mem_range.mp hk,rfl⟩
 ·rintro⟨k,hk,rfl⟩;exact⟨k,List.mem_range.mpr hk,rfl⟩
theorem G4 (n:Nat):nmK (n+1)=nmK n++[ak n]:=by unfold nmK;rw[List.range_succ,List.map_append];rfl
theorem jd (n:Nat):(nmK n).length=n:=by unfold nmK;rw[List.length_map,List.length_range]
theorem BL {n:Nat} (h:n<=26):∀x∈nmK n,jT x:=fun x hx=>by
 obtain⟨k,hk,rfl⟩:=bT.mp hx
 exact G3 (by omega)
theorem R.In.mono {ns ms:List Str} (h:∀x∈ns,x∈ms):∀{r:R},r.In ns->r.In ms
 | .num _,_=>trivial
 | .rd _,i=>h _ i
 | .bin _ _ _,i=>⟨i.1.mono h,i.2.mono h⟩
 | .pick _ _ _,i=>⟨i.1.mono h,i.2.1.mono h,i.2.2.mono h⟩
 | .cho _ _,i=>⟨i.1.mono h,fun x hx=>h x (i.2 x hx)⟩
theorem Rk3.mono {ns ms:List Str}{d:Nat}{r:R} (k:Rk3 ns d r) (h:∀x∈ns,x∈ms):Rk3 ms d r:=⟨k.g,k.t,k.i.mono h,k.d⟩
abbrev Rn:=Str->Option R
def Rn.put (rc:Rn) (x:Str) (r:R):Rn:=fun y=>if y=x then some r else rc y
structure DK (n:Nat) (gv:Kn) (rc:Rn):Prop where
 dom:∀k,k<n->gv (ak k)≠none\/rc (ak k)≠none
 gk:∀x,gv x≠none->x∈nmK n
 rk:∀x r,rc x=some r->∃k,k<n/\x=ak k/\Rk3 (nmK k) 4 r
 dj:∀x,gv x≠none->rc x=none
 g0:0<n->gv (ak 0)≠none
theorem DK.fresh {n:Nat}{gv:Kn}{rc:Rn} (h:DK n gv rc) (hn:n<26):gv (ak n)=none/\rc (ak n)=none:=by
 constructor
 ·cases e:gv (ak n) with
  | none=>rfl
  | some v=>
    obtain⟨k,hk,ek⟩:=bT.mp (h.gk (ak n) (by rw[e];simp))
    have:=jn hn (by omega) ek
    omega
 ·cases e:rc (ak n) with
  | none=>rfl
  | some r=>
    obtain⟨k,hk,ek,_⟩:=h.rk _ _ e
    have:=jn hn (by omega) ek
    omega
theorem DK.Ww {n:Nat}{gv:Kn}{rc:Rn} (h:DK n gv rc) (hn:n<26) (v:Int):DK (n+1) (gv.put (ak n) v) rc:=by
 obtain⟨f1,f2⟩:=h.fresh hn
 refine⟨fun k hk=> ?_,fun x hx=> ?_,fun x r e=> ?_,fun x hx=> ?_,fun _=> ?_⟩
 ·unfold Kn.put
  by_cases e:k=n
  ·subst e;left;rw[if_pos rfl];simp
  ·rcases h.dom k (by omega) with z | z
   ·left;rw[if_neg (fun w=>e (jn (by omega) hn w))];exact z
   ·exact .inr z
 ·rw[G4]
  unfold Kn.put at hx
  by_cases e:x=ak n
  ·rw[e];simp
  ·rw[if_neg e] at hx;exact List.mem_append_left _ (h.gk x hx)
 ·obtain⟨k,hk,ek,o⟩:=h.rk x r e
  exact⟨k,by omega,ek,o⟩
 ·unfold Kn.put at hx
  by_cases e:x=ak n
  ·rw[e];exact f2
  ·rw[if_neg e] at hx;exact h.dj x hx
 ·unfold Kn.put
  by_cases e:ak 0=ak n
  ·rw[if_pos e];simp
  ·rw[if_neg e]
   by_cases z:n=0
   ·subst z;exact absurd rfl e
   ·exact h.g0 (by omega)
theorem DK.aa5 {n:Nat}{gv:Kn}{rc:Rn} (h:DK n gv rc) (hn:n<26) (h0:0<n) {r:R} (o:Rk3 (nmK n) 4 r):DK (n+1) gv (rc.put (ak n) r):=by
 obtain⟨f1,f2⟩:=h.fresh hn
 refine⟨fun k hk=> ?_,fun x hx=> ?_,fun x r' e=> ?_,fun x hx=> ?_,fun _=>h.g0 h0⟩
 ·unfold Rn.put
  by_cases e:k=n
  ·subst e;right;rw[if_pos rfl];simp
  ·rcases h.dom k (by omega) with z | z
   ·exact .inl z
   ·right;rw[if_neg (fun w=>e (jn (by omega) hn w))];exact z
 ·rw[G4];exact List.mem_append_left _ (h.gk x hx)
 ·unfold Rn.put at e
  by_cases z:x=ak n
  ·rw[if_pos z] at e;cases e;exact⟨n,by omega,z,o⟩
  ·rw[if_neg z] at e
   obtain⟨k,hk,ek,o⟩:=h.rk x r' e
   exact⟨k,by omega,ek,o⟩
 ·unfold Rn.put
  rw[if_neg (fun z=>by rw[z,f1] at hx;exact hx rfl)];exact h.dj x hx
end RB
namespace RB
open PySem L2 PySem.Spec PyProof.Rows
structure Bld (H:Hp) (kg kc:List (Key×V)) (n:Nat) (gv:Kn) (rc:Rn):Prop where
 ok:DK n gv rc
 k:∃gs cs,iz kg gs/\iz kc cs/\gs.length+cs.length=n
 g:∀x,cO kg (.inr x)=(gv x).map V.int
 r:∀x r,rc x=some r->∃b,cO kc (.inr x)=some (.ref b)/\IsR H b r
 rn:∀x,rc x=none->cO kc (.inr x)=none
theorem Bld.tups {H H':Hp}{kg kc:List (Key×V)}{n:Nat}{gv:Kn}{rc:Rn} (h:Bld H kg kc n gv rc) (t:mK H H'):Bld H' kg kc n gv rc:=
 ⟨h.ok,h.k,h.g,fun x r e=>let ⟨b,h1,h2⟩:=h.r x r e;⟨b,h1,h2.tups t⟩,h.rn⟩
def mD (H:Hp) (h g c:Addr) (n:Nat) (gv:Kn) (rc:Rn):Prop:=∃kg kc,H h=some (.tup [.ref g, .ref c])/\H g=some (.dK kg)/\H c=some (.dK kc)/\Bld H kg kc n gv rc
theorem mD.same {H H':Hp}{h g c:Addr}{n:Nat}{gv:Kn}{rc:Rn} (a:mD H h g c n gv rc) (s:aW H H'):mD H' h g c n gv rc:=by
 obtain⟨kg,kc,e,e1,e2,b⟩:=a
 exact⟨kg,kc,s _ _ e,s _ _ e1,s _ _ e2,b.tups (aW.tups s)⟩
theorem Bld.Ww {H:Hp}{kg kc:List (Key×V)}{n:Nat}{gv:Kn}{rc:Rn} (h:Bld H kg kc n gv rc) (hn:n<26) (v:Int):Bld H (putK kg (.inr (ak n)) (.int v)) kc (n+1) (gv.put (ak n) v) rc:=by
 obtain⟨gs,cs,h1,h2,h3⟩:=h.k
 have hx:ak n∉gs:=h1.none.mp (by rw[h.g,(h.ok.fresh hn).1];rfl)
 refine⟨h.ok.Ww hn v,⟨_,cs,h1.oK hx _,h2,by rw[List.length_append];simp;omega⟩,fun x=> ?_,h.r,h.rn⟩
 rw[jo]
 unfold Kn.put
 by_cases z:x=ak n
 ·rw[if_pos (by rw[z]),if_pos z];rfl
 ·rw[if_neg (fun w=>z (Sum.inr.inj w)),if_neg z];exact h.g x
theorem Bld.aa5 {H:Hp}{kg kc:List (Key×V)}{n:Nat}{gv:Kn}{rc:Rn} (h:Bld H kg kc n gv rc) (hn:n<26) (h0:0<n) {b:Addr}{r:R} (o:Rk3 (nmK n) 4 r) (hb:IsR H b r):Bld H kg (putK kc (.inr (ak n)) (.ref b)) (n+1) gv (rc.put (ak n) r):=by
 obtain⟨gs,cs,h1,h2,h3⟩:=h.k
 have hx:ak n∉cs:=h2.none.mp (h.rn _ (h.ok.fresh hn).2)
 refine⟨h.ok.aa5 hn h0 o,⟨gs,_,h1,h2.oK hx _,by rw[List.length_append];simp;omega⟩,h.g,fun x r' e=> ?_,fun x e=> ?_⟩
 ·rw[jo]
  unfold Rn.put at e
  by_cases z:x=ak n
  ·rw[if_pos z] at e;cases e
   exact⟨b,by rw[if_pos (by rw[z])],hb⟩
  ·rw[if_neg z] at e
   rw[if_neg (fun w=>z (Sum.inr.inj w))];exact h.r x r' e
 ·rw[jo]
  unfold Rn.put at e
  by_cases z:x=ak n
  ·rw[if_pos z] at e;cases e
  ·rw[if_neg z] at e
   rw[if_neg (fun w=>z (Sum.inr.inj w))];exact h.rn x e
def YL (K:PySem.W.Frag):Sp:=fun vs H Q _=>∃(a:Addr) (zs:List Int) (start:Int) (many:Nat),vs=[.ref a, .int start, .int many]/\SqL K H a (zs.map V.int)/\0<=start/\start<=50/\many<=17/\
 ∀h g c gv rc H',aW H H'->H h=none->H g=none->H c=none->mD H' h g c many gv rc->Q (.ref h) H'
theorem ahy {n:Nat} (h:1<=n):∃ns:List Str,Q0 ((nmK n).map V.str) (some (-9)) none=ns.map V.str/\1<=ns.length/\ns.length<=9/\∀x∈ns,x∈nmK n:=by
 unfold Q0
 have hl:((nmK n).map V.str).length=n:=by rw[List.length_map,jd]
 rw[hl]
 have e1:HT.sIx n 0 (some (-9))=n - 9:=by
  show(if(-9:Int)<0 then((-9:Int)+(n:Int)).toNat else min (-9:Int).toNat n)=_
  rw[if_pos (by decide)];omega
 have e2:HT.sIx n n none=n:=rfl
 rw[e1,e2,<-List.map_drop,<-List.map_take]
 refine⟨_,rfl, ?_, ?_,fun x hx=>List.mem_of_mem_drop (List.mem_of_mem_take hx)⟩
 ·rw[List.length_take,List.length_drop,jd];omega
 ·rw[List.length_take,List.length_drop,jd];omega
end RB
namespace RB
open PySem L2 PySem.Spec PyProof.Rows
section
variable {H:Hp}{kg kc:List (Key×V)}{n:Nat}{gv:Kn}{rc:Rn}
theorem zV {x y:Str} (h:¬x=y):¬(Sum.inr x:Key)=Sum.inr y:=fun z=>h (Sum.inr.inj z)
end
end RB
set_option maxRecDepth 100000
namespace RB
open PySem L2 PySem.Spec PyProof.Rows
structure o6 (r:R) (kn:Kn) (us:List Rdp) (v:Int):Prop where
 c:Chn r kn us
 e:ev (kn.puts us) r= .inr v
theorem Qd {n:Int}{kn:Kn}:o6 (.num n) kn [] n:=⟨trivial,rfl⟩
theorem Wx {kn:Kn}{x:Str}{v:Int} (h:kn x=some v):o6 (.rd x) kn [] v:=⟨trivial,by show look kn x=_;unfold look;rw[h]⟩
theorem Wy {kn:Kn}{x:Str}{v:Int} (h:kn x=none):o6 (.rd x) kn [(x,v)] v:=by
 refine⟨⟨by show look kn x=_;unfold look;rw[h],trivial⟩, ?_⟩
 show look (kn.put x v) x=_
 unfold look Kn.put
 rw[if_pos rfl]
theorem BP {op:Op}{a b:R}{kn:Kn}{us vs:List Rdp}{u v:Int} (ha:o6 a kn us u) (hb:o6 b (kn.puts us) vs v):o6 (.bin op a b) kn (us++vs) (op.ap u v):=by
 have ua:∀kn' x,ev kn' a= .inl x->ev kn' (.bin op a b)= .inl x:=fun kn' x e=>by simp only[ev];rw[e]
 have ub:∀kn' x,Kn.Le (kn.puts us) kn'->ev kn' b= .inl x->ev kn' (.bin op a b)= .inl x:=fun kn' x l e=>by simp only[ev];rw[kO l ha.e];simp only;rw[e]
 exact⟨(ha.c.up fun kn' x _ e=>ua kn' x e).app (hb.c.up ub),by rw[Kn.fK];simp only[ev];rw[kO hb.c.le ha.e];simp only;rw[hb.e]⟩
theorem G5 {a b c:R}{kn:Kn}{us vs:List Rdp}{u v:Int} (ha:o6 a kn us u) (hb:o6 (if u>0 then b else c) (kn.puts us) vs v):o6 (.pick a b c) kn (us++vs) v:=by
 have ua:∀kn' x,ev kn' a= .inl x->ev kn' (.pick a b c)= .inl x:=fun kn' x e=>by simp only[ev];rw[e]
 have e:∀kn':Kn,Kn.Le (kn.puts us) kn'->ev kn' (.pick a b c)=ev kn' (if u>0 then b else c):=fun kn' l=>by
  simp only[ev];rw[kO l ha.e];simp only;split<;>rfl
 exact⟨(ha.c.up fun kn' x _ e=>ua kn' x e).app (hb.c.up fun kn' x l z=>by rw[e kn' l];exact z),by rw[Kn.fK,e _ hb.c.le];exact hb.e⟩
theorem Qe {a:R}{ns:List Str}{x:Str}{kn:Kn}{us vs:List Rdp}{u v:Int} (ha:o6 a kn us u) (hx:qT ns u=some x) (hb:o6 (.rd x) (kn.puts us) vs v):o6 (.cho a ns) kn (us++vs) v:=by
 have ua:∀kn' x,ev kn' a= .inl x->ev kn' (.cho a ns)= .inl x:=fun kn' x e=>by simp only[ev];rw[e]
 have e:∀kn':Kn,Kn.Le (kn.puts us) kn'->ev kn' (.cho a ns)=ev kn' (.rd x):=fun kn' l=>by
  simp only[ev];rw[kO l ha.e];simp only;rw[hx]
 exact⟨(ha.c.up fun kn' x _ e=>ua kn' x e).app (hb.c.up fun kn' x l z=>by rw[e kn' l];exact z),by rw[Kn.fK,e _ hb.c.le];exact hb.e⟩
theorem BR {x:Str}{u:Int}:∀{ps:List Rdp}{kn:Kn},kn.puts ps x=some u->(x,u)∈ps\/kn x=some u
 |[],kn,h=> .inr h
 | p::ps,kn,h=>by
   rcases BR (ps:=ps) h with z | z
   ·exact .inl (List.mem_cons_of_mem _ z)
   ·unfold Kn.put at z
    by_cases e:x=p.1
    ·rw[if_pos e] at z
     left
     have:p=(x,u):=by rw[e];exact Prod.ext rfl (Option.some.inj z)
     rw[this];simp
    ·rw[if_neg e] at z;exact .inr z
theorem G6 {x:Str}:∀{ps:List Rdp}{kn:Kn},kn.puts ps x=none->x∉ps.map (·.1)/\kn x=none
 |[],kn,h=>⟨by simp,h⟩
 | p::ps,kn,h=>by
   obtain⟨z1,z2⟩:=G6 (ps:=ps) h
   unfold Kn.put at z2
   by_cases e:x=p.1
   ·rw[if_pos e] at z2;cases z2
   ·rw[if_neg e] at z2
    exact⟨by rw[List.map_cons,List.mem_cons];exact fun w=>w.elim e z1,z2⟩
structure Rows (kn:Kn) (ps:List Rdp):Prop where
 s:∀p∈ps,kn p.1=some p.2
 nd:(ps.map (·.1)).Nodup
theorem Rows.le {kn kn':Kn}{ps:List Rdp} (h:Rows kn ps) (l:Kn.Le kn kn'):Rows kn' ps:=⟨fun p hp=>l _ _ (h.s p hp),h.nd⟩
theorem gC:∀{ws ns:List Str},ws.Nodup->(∀x∈ws,x∈ns)->ws.length<=ns.length
 |[],_,_,_=>Nat.zero_le _
 | w::ws,ns,nd,h=>by
   rw[List.nodup_cons] at nd
   have hw:=h w (by simp)
   have ih:=gC (ws:=ws) (ns:=ns.erase w) nd.2 fun x hx=>by
    have hne:x≠w:=fun e=>nd.1 (by rw[<-e];exact hx)
    exact(List.mem_erase_of_ne hne).mpr (h x (by simp[hx]))
   rw[List.length_erase_of_mem hw] at ih
   have:=List.length_pos_of_mem hw
   simp only[List.length_cons]
   omega
theorem Rows.look {kn:Kn}{ps:List Rdp}{x:Str}{v:Int} (h:Rows kn ps) (hx:kn x=some v):if(x,v)∈ps then o6 (.rd x) (kn0.puts ps) [] v else o6 (.rd x) (kn0.puts ps) [(x,v)] v/\Rows kn (ps++[(x,v)]):=by
 by_cases hm:(x,v)∈ps
 ·rw[if_pos hm]
  cases e:kn0.puts ps x with
  | none=>exact absurd (List.mem_map.mpr ⟨_,hm,rfl⟩) (G6 e).1
  | some u=>
    rcases BR e with z | z
    ·have:=h.s _ z
     rw[hx] at this
     cases this
     exact Wx e
    ·cases z
 ·rw[if_neg hm]
  have hn:kn0.puts ps x=none:=by
   cases e:kn0.puts ps x with
   | none=>rfl
   | some u=>
     rcases BR e with z | z
     ·have:=h.s _ z
      rw[hx] at this
      cases this
      exact absurd z hm
     ·cases z
  refine⟨Wy hn,fun p hp=> ?_, ?_⟩
  ·rcases List.mem_append.mp hp with z | z
   ·exact h.s p z
   ·have:p=(x,v):=by simpa using z
    rw[this];exact hx
  ·rw[List.map_append,List.nodup_append]
   exact⟨h.nd,by simp,fun a ha b hb=>by
    have:b=x:=by simpa using hb
    rw[this];exact fun z=>(G6 hn).1 (z▸ha)⟩
abbrev Rm:=Str->Option (R×List Rdp×Int)
def Rm.put (rm:Rm) (x:Str) (q:R×List Rdp×Int):Rm:=fun y=>if y=x then some q else rm y
def vg (X:List Addr) (H:Hp) (b:Addr) (q:R×List Rdp×Int):Prop:=∃br l as,H b=some (.tup [.ref br, .ref l, .int q.2.2])/\IsR H br q.1/\H l=some (.lst (as.map V.ref))/\iJ H as q.2.1/\l∉X
structure J0 (n:Nat) (gv:Kn) (rc:Rn) (kn:Kn) (rm:Rm):Prop where
 a:∀x v,kn x=some v->x∈nmK n/\(gv x=some v\/(gv x=none/\∃r ps,rc x=some r/\rm x=some (r,ps,v)))
 b:∀x r ps v,rm x=some (r,ps,v)->rc x=some r/\gv x=none/\kn x=some v/\o6 r kn0 ps v/\Rows kn ps
structure StA (X:List Addr) (H:Hp) (st wd rd:Addr) (n:Nat) (gv:Kn) (rc:Rn) (kn:Kn) (rm:Rm):Prop where
 e:H st=some (.lst [.ref wd, .ref rd])
 ew:∃kw ws,H wd=some (.dK kw)/\iz kw ws/\∀x,cO kw (.inr x)=(kn x).map V.int
 er:∃kr rs,H rd=some (.dK kr)/\iz kr rs/\(∀x q,rm x=some q->∃b,cO kr (.inr x)=some (.ref b)/\vg X H b q)/\∀x,rm x=none->cO kr (.inr x)=none
 ne:wd≠rd
 ok:J0 n gv rc kn rm
section
variable {X:List Addr}{H H':Hp}{st wd rd:Addr}{n:Nat}{gv:Kn}{rc:Rn}{kn:Kn}{rm:Rm}
theorem vg.but {S:List Addr}{b:Addr}{q:R×List Rdp×Int} (h:vg X H b q) (bt:But S H H') (tp:mK H H') (hs:∀y∈S,y∈X\/∀xs,H y≠some (.lst xs)):vg X H' b q:=by
 obtain⟨br,l,as,e,r,el,rs,hx⟩:=h
 exact⟨br,l,as,tp _ _ e,r.tups tp,bt _ _ (fun z=>(hs l z).elim hx fun w=>w _ el) el,rs.tups tp,hx⟩
theorem StA.kl (h:StA X H st wd rd n gv rc kn rm) {kw:List (Key×V)} (e:H wd=some (.dK kw)):kw.length<=n:=by
 obtain⟨kw',ws,e',k,v⟩:=h.ew
 rw[e] at e';cases e'
 rw[k.len,<-jd n]
 refine gC k.nd fun x hx=> ?_
 cases z:kn x with
 | none=>exact absurd hx (k.none.mp (by rw[v,z];rfl))
 | some u=>exact(h.ok.a x u z).1
theorem StA.rl (h:StA X H st wd rd n gv rc kn rm) {kr:List (Key×V)} (e:H rd=some (.dK kr)):kr.length<=n:=by
 obtain⟨kr',rs,e',k,v,w⟩:=h.er
 rw[e] at e';cases e'
 rw[k.len,<-jd n]
 refine gC k.nd fun x hx=> ?_
 cases z:rm x with
 | none=>exact absurd hx (k.none.mp (w x z))
 | some q=>
   obtain⟨r,ps,v⟩:=q
   exact(h.ok.a x v (h.ok.b x r ps v z).2.2.1).1
theorem StA.tups (h:StA X H st wd rd n gv rc kn rm) {S:List Addr} (hS:∀y∈S,y=wd\/y=rd\/∃xs,H y=some (.lst xs)) (b:But S H H'):mK H H':=fun p xs e=>b p _ (fun z=>by
 obtain⟨kw,ws,e1,_⟩:=h.ew
 obtain⟨kr,rs,e2,_⟩:=h.er
 rcases hS p z with z | z | ⟨ys,z⟩
 ·rw[z,e1] at e;cases e
 ·rw[z,e2] at e;cases e
 ·rw[z] at e;cases e) e
theorem Rows.len {ps:List Rdp} (h:StA X H st wd rd n gv rc kn rm) (r:Rows kn ps):ps.length<=n:=by
 have:=gC r.nd (ns:=nmK n) fun x hx=>by
  obtain⟨p,hp,rfl⟩:=List.mem_map.mp hx
  exact(h.ok.a _ _ (r.s p hp)).1
 rw[List.length_map,jd] at this
 exact this
end
theorem mD.but {S:List Addr}{H H':Hp}{h g c:Addr}{n:Nat}{gv:Kn}{rc:Rn} (a:mD H h g c n gv rc) (b:But S H H') (t:mK H H') (hg:g∉S) (hc:c∉S):mD H' h g c n gv rc:=by
 obtain⟨kg,kc,e,e1,e2,bd⟩:=a
 exact⟨kg,kc,t _ _ e,b _ _ hg e1,b _ _ hc e2,bd.tups t⟩
structure Ctx (X:List Addr) (H:Hp) (h g c st wd rd:Addr) (n:Nat) (gv:Kn) (rc:Rn) (kn:Kn) (rm:Rm):Prop where
 ho:mD H h g c n gv rc
 sa:StA X H st wd rd n gv rc kn rm
 n17:n<=17
 gw:g≠wd
 gr:g≠rd
 cw:c≠wd
 cr:c≠rd
 xs:∀y∈X,H y≠none
 st:st∉X
def New (kn kn':Kn) (m:Nat):Prop:=Kn.Le kn kn'/\∀y,kn' y≠none->kn y≠none\/y∈nmK m
def J1 (f:Nat):Sp:=fun vs H Q _=>∃(X:List Addr) (h g c st wd rd:Addr) (n:Nat) (gv:Kn) (rc:Rn) (kn:Kn) (rm:Rm) (k:Nat),vs=[.ref h, .str (ak k), .ref st]/\Ctx X H h g c st wd rd n gv rc kn rm/\k<f/\k<n/\
 ∀kn' rm' v H',But [wd,rd] H H'->Ctx X H' h g c st wd rd n gv rc kn' rm'->New kn kn' (k+1)->kn' (ak k)=some v->Q (.int v) H'
def T4 (f:Nat):Sp:=fun vs H Q _=>∃(X:List Addr) (h g c st wd rd rl:Addr) (n:Nat) (gv:Kn) (rc:Rn) (kn:Kn) (rm:Rm) (as:List Addr) (ps:List Rdp) (k:Nat),vs=[.ref h, .str (ak k), .ref st, .ref rl]/\Ctx X H h g c st wd rd n gv rc kn rm/\k<f/\k<n/\
 H rl=some (.lst (as.map V.ref))/\iJ H as ps/\Rows kn ps/\rl∈X/\rl≠st/\
 ∀kn' rm' v us as' H',But [wd,rd,rl] H H'->Ctx X H' h g c st wd rd n gv rc kn' rm'->New kn kn' (k+1)->H' rl=some (.lst (as'.map V.ref))->iJ H' as' (ps++us)->Rows kn' (ps++us)->o6 (.rd (ak k)) (kn0.puts ps) us v->Q (.int v) H'
def Qf (f d:Nat):Sp:=fun vs H Q _=>∃(X:List Addr) (h g c st wd rd rl b:Addr) (n:Nat) (gv:Kn) (rc:Rn) (kn:Kn) (rm:Rm) (as:List Addr) (ps:List Rdp) (r:R) (m:Nat),vs=[.ref h, .ref b, .ref st, .ref rl]/\Ctx X H h g c st wd rd n gv rc kn rm/\
 IsR H b r/\Rk3 (nmK m) d r/\m<=f/\m<=n/\H rl=some (.lst (as.map V.ref))/\iJ H as ps/\Rows kn ps/\rl∈X/\rl≠st/\
 ∀kn' rm' v us as' H',But [wd,rd,rl] H H'->Ctx X H' h g c st wd rd n gv rc kn' rm'->New kn kn' m->H' rl=some (.lst (as'.map V.ref))->iJ H' as' (ps++us)->Rows kn' (ps++us)->o6 r (kn0.puts ps) us v->Q (.int v) H'
end RB
namespace RB
open PySem L2 PySem.Spec PyProof.Rows
theorem Ctx.same {X:List Addr}{H H':Hp}{h g c st wd rd:Addr}{n:Nat}{gv:Kn}{rc:Rn}{kn:Kn}{rm:Rm} (a:Ctx X H h g c st wd rd n gv rc kn rm) (s:aW H H'):Ctx X H' h g c st wd rd n gv rc kn rm:=by
 obtain⟨⟨kg,kc,e,e1,e2,bd⟩,⟨e3,⟨kw,ws,e4,k4,v4⟩,⟨kr,rs,e5,k5,v5,w5⟩,ne,ok⟩,n17,gw,gr,cw,cr,xs,st'⟩:=a
 exact⟨⟨kg,kc,s _ _ e,s _ _ e1,s _ _ e2,bd.tups (aW.tups s)⟩,⟨s _ _ e3,⟨kw,ws,s _ _ e4,k4,v4⟩,⟨kr,rs,s _ _ e5,k5,fun x q z=>let ⟨b,hb,ra⟩:=v5 x q z;⟨b,hb,ra.but (S:=[]) (But.of_same s) (aW.tups s) (by simp)⟩,w5⟩,ne,ok⟩,n17,gw,gr,cw,cr,fun y hy z=>xs y hy (same_none s z),st'⟩
theorem Ctx.row {X:List Addr}{H:Hp}{h g c st wd rd rl:Addr}{n:Nat}{gv:Kn}{rc:Rn}{kn:Kn}{rm:Rm} (a:Ctx X H h g c st wd rd n gv rc kn rm) {xs:List V} (el:H rl=some (.lst xs)) (hX:rl∈X) (hst:rl≠st) (ys:List V):Ctx X (upd H rl (.lst ys)) h g c st wd rd n gv rc kn rm:=by
 have t:mK H (upd H rl (.lst ys)):=fun y xs z=>(au (fun w=>by rw[w,el] at z;cases z)).trans z
 have hS:∀y∈[rl],y∈X\/∀xs,H y≠some (.lst xs):=fun y hy=> .inl (by
  have:y=rl:=by simpa using hy
  rw[this];exact hX)
 have nd:∀d kvs,H d=some (.dK kvs)->d≠rl:=fun d kvs e z=>by rw[z,el] at e;cases e
 obtain⟨⟨kg,kc,e,e1,e2,bd⟩,⟨e3,⟨kw,ws,e4,k4,v4⟩,⟨kr,rs,e5,k5,v5,w5⟩,ne,ok⟩,n17,gw,gr,cw,cr,xs',st'⟩:=a
 exact⟨⟨kg,kc,t _ _ e,(au (nd _ _ e1)).trans e1,(au (nd _ _ e2)).trans e2,bd.tups t⟩,⟨(au (Ne.symm hst)).trans e3,⟨kw,ws,(au (nd _ _ e4)).trans e4,k4,v4⟩,⟨kr,rs,(au (nd _ _ e5)).trans e5,k5,fun x q z=>let ⟨b,hb,ra⟩:=v5 x q z;⟨b,hb,ra.but (S:=[rl]) (But.set _ (by simp)) t hS⟩,w5⟩,ne,ok⟩,n17,gw,gr,cw,cr,fun y hy z=>xs' y hy (dX z).2,st'⟩
end RB
set_option maxRecDepth 100000
namespace RB
open PySem L2 PySem.Spec PyProof.Rows
section
variable {H:Hp}{s l h:Addr}{du wr:V}
end
section
variable {H H':Hp}{s l h:Addr}{kn:Kn}{ps:List Rdp}
end
end RB
namespace RB
open PySem L2 PySem.Spec PyProof.Rows
end RB
namespace RB
open PySem L2 PySem.Spec PyProof.Rows
end RB
set_option maxRecDepth 100000
namespace RB
open PySem L2 PySem.Spec PyProof.Rows
theorem Ey {ns:List Str}:∀{r:R}{kn:Kn}{x:Str},r.In ns->ev kn r= .inl x->x∈ns
 | .num n,kn,x,i,h=>by cases h
 | .rd y,kn,x,i,h=>by obtain⟨rfl,_⟩:=ur h;exact i
 | .bin op a b,kn,x,i,h=>by
   simp only[ev] at h
   cases ea:ev kn a with
   | inl y=>rw[ea] at h;cases h;exact Ey i.1 ea
   | inr u=>
     rw[ea] at h
     cases eb:ev kn b with
     | inl y=>rw[eb] at h;cases h;exact Ey i.2 eb
     | inr v=>rw[eb] at h;cases h
 | .pick a b c,kn,x,i,h=>by
   simp only[ev] at h
   cases ea:ev kn a with
   | inl y=>rw[ea] at h;cases h;exact Ey i.1 ea
   | inr u=>
     rw[ea] at h
     simp only at h
     split at h
     ·exact Ey i.2.1 h
     ·exact Ey i.2.2 h
 | .cho a ms,kn,x,i,h=>by
   simp only[ev] at h
   cases ea:ev kn a with
   | inl y=>rw[ea] at h;cases h;exact Ey i.1 ea
   | inr u=>
     rw[ea] at h
     simp only at h
     cases ep:qT ms u with
     | none=>rw[ep] at h;cases h
     | some y=>
       rw[ep] at h
       obtain⟨rfl,_⟩:=ur h
       exact i.2 _ (List.mem_of_getElem? ep)
end RB
set_option maxRecDepth 100000
namespace RB
open PySem L2 PySem.Spec PyProof.Rows
section
variable {X:List Addr}{H:Hp}{h g c st wd rd:Addr}{n:Nat}{gv:Kn}{rc:Rn}{kn:Kn}{rm:Rm}
theorem Ctx.less {rl:Addr} (a:Ctx (rl::X) H h g c st wd rd n gv rc kn rm):Ctx X H h g c st wd rd n gv rc kn rm:=by
 obtain⟨ho,⟨e3,ew,⟨kr,rs,e5,k5,v5,w5⟩,ne,ok⟩,n17,gw,gr,cw,cr,xs,st'⟩:=a
 exact⟨ho,⟨e3,ew,⟨kr,rs,e5,k5,fun x q z=>let ⟨b,hb,br,l,as,h1,h2,h3,h4,h5⟩:=v5 x q z;⟨b,hb,br,l,as,h1,h2,h3,h4,fun m=>h5 (List.mem_cons_of_mem _ m)⟩,w5⟩,ne,ok⟩,n17,gw,gr,cw,cr,fun y hy=>xs y (List.mem_cons_of_mem _ hy),fun m=>st' (List.mem_cons_of_mem _ m)⟩
theorem Ctx.more {rl:Addr} (a:Ctx X H h g c st wd rd n gv rc kn rm) (hn:H rl=none) (xs0:List V):Ctx (rl::X) (upd H rl (.lst xs0)) h g c st wd rd n gv rc kn rm:=by
 have s:=aC (.lst xs0) hn
 have nf:∀{l xs},H l=some xs->l≠rl:=fun e z=>by rw[z,hn] at e;cases e
 obtain⟨⟨kg,kc,e,e1,e2,bd⟩,⟨e3,⟨kw,ws,e4,k4,v4⟩,⟨kr,rs,e5,k5,v5,w5⟩,ne,ok⟩,n17,gw,gr,cw,cr,xs,st'⟩:=a
 refine⟨⟨kg,kc,s _ _ e,s _ _ e1,s _ _ e2,bd.tups (aW.tups s)⟩,⟨s _ _ e3,⟨kw,ws,s _ _ e4,k4,v4⟩,⟨kr,rs,s _ _ e5,k5,fun x q z=> ?_,w5⟩,ne,ok⟩,n17,gw,gr,cw,cr,fun y hy z=> ?_,fun m=> ?_⟩
 ·obtain⟨b,hb,br,l,as,h1,h2,h3,h4,h5⟩:=v5 x q z
  refine⟨b,hb,br,l,as,s _ _ h1,h2.same s,s _ _ h3,h4.same s,fun m=> ?_⟩
  rcases List.mem_cons.mp m with m | m
  ·exact nf h3 m
  ·exact h5 m
 ·rcases List.mem_cons.mp hy with m | m
  ·rw[m,ao] at z;cases z
  ·exact xs y m (dX z).2
 ·rcases List.mem_cons.mp m with m | m
  ·exact nf e3 m
  ·exact st' m
theorem J0.Wz {x:Str}{v:Int} (h:J0 n gv rc kn rm) (hx:x∈nmK n) (hk:kn x=none) (hg:gv x=some v):J0 n gv rc (kn.put x v) rm:=by
 refine⟨fun y u e=> ?_,fun y r ps u e=> ?_⟩
 ·unfold Kn.put at e
  by_cases z:y=x
  ·rw[if_pos z] at e;cases e;rw[z];exact⟨hx, .inl hg⟩
  ·rw[if_neg z] at e;exact h.a y u e
 ·obtain⟨h1,h2,h3,h4,h5⟩:=h.b y r ps u e
  exact⟨h1,h2,Kn.lG hk _ _ h3,h4,h5.le (Kn.lG hk)⟩
theorem J0.tD {x:Str}{r:R}{ps:List Rdp}{v:Int} (h:J0 n gv rc kn rm) (hx:x∈nmK n) (hk:kn x=none) (hg:gv x=none) (hr:rc x=some r) (got:o6 r kn0 ps v) (row:Rows kn ps):J0 n gv rc (kn.put x v) (rm.put x (r,ps,v)):=by
 refine⟨fun y u e=> ?_,fun y r' ps' u e=> ?_⟩
 ·unfold Kn.put at e
  by_cases z:y=x
  ·rw[if_pos z] at e;cases e
   refine⟨by rw[z];exact hx, .inr ⟨by rw[z];exact hg,r,ps,by rw[z];exact hr, ?_⟩⟩
   unfold Rm.put;rw[if_pos z]
  ·rw[if_neg z] at e
   obtain⟨h1,h2⟩:=h.a y u e
   refine⟨h1,h2.elim .inl fun⟨w0,r1,ps1,w1,w2⟩=> .inr ⟨w0,r1,ps1,w1, ?_⟩⟩
   unfold Rm.put;rw[if_neg z];exact w2
 ·unfold Rm.put at e
  by_cases z:y=x
  ·rw[if_pos z] at e;cases e
   refine⟨by rw[z];exact hr,by rw[z];exact hg, ?_,got,row.le (Kn.lG hk)⟩
   unfold Kn.put;rw[if_pos z]
  ·rw[if_neg z] at e
   obtain⟨h1,h2,h3,h4,h5⟩:=h.b y r' ps' u e
   exact⟨h1,h2,Kn.lG hk _ _ h3,h4,h5.le (Kn.lG hk)⟩
theorem BV {d:Addr}{kvs:List (Key×V)}{o:HO} (e:H d=some (.dK kvs)):mK H (upd H d o):=fun y xs z=>(au (fun w=>by rw[w,e] at z;cases z)).trans z
theorem vh {kw:List (Key×V)} (v4:∀y,cO kw (.inr y)=(kn y).map V.int) (x:Str) (v:Int):∀y,cO (putK kw (.inr x) (.int v)) (.inr y)=((kn.put x v) y).map V.int:=fun y=>by
 rw[jo]
 unfold Kn.put
 by_cases z:y=x
 ·rw[if_pos (by rw[z]),if_pos z];rfl
 ·rw[if_neg (zV z),if_neg z];exact v4 y
theorem vg.dk {b:Addr}{q:R×List Rdp×Int} (r:vg X H b q) {d:Addr}{kvs:List (Key×V)}{o:HO} (e:H d=some (.dK kvs)):vg X (upd H d o) b q:=r.but (S:=[d]) (But.set _ (by simp)) (BV e) (fun y hy=> .inr fun xs w=>by
 have:y=d:=by simpa using hy
 rw[this,e] at w;cases w)
theorem Ctx.Wz {x:Str}{v:Int}{kw:List (Key×V)} (a:Ctx X H h g c st wd rd n gv rc kn rm) (ew:H wd=some (.dK kw)) (hx:x∈nmK n) (hk:kn x=none) (hg:gv x=some v):Ctx X (upd H wd (.dK (putK kw (.inr x) (.int v)))) h g c st wd rd n gv rc (kn.put x v) rm:=by
 have t:=BV (o:= .dK (putK kw (.inr x) (.int v))) ew
 obtain⟨⟨kg,kc,e,e1,e2,bd⟩,⟨e3,⟨kw',ws,e4,k4,v4⟩,⟨kr,rs,e5,k5,v5,w5⟩,ne,ok⟩,n17,gw,gr,cw,cr,xs,st'⟩:=a
 rw[ew] at e4;cases e4
 have hst:st≠wd:=fun z=>by rw[z,ew] at e3;cases e3
 have hx':x∉ws:=k4.none.mp (by rw[v4,hk];rfl)
 exact⟨⟨kg,kc,t _ _ e,(au gw).trans e1,(au cw).trans e2,bd.tups t⟩,⟨(au hst).trans e3,⟨_,_,ao,k4.oK hx' _,vh v4 x v⟩,⟨kr,rs,(au (Ne.symm ne)).trans e5,k5,fun y q z=>let ⟨b,hb,ra⟩:=v5 y q z;⟨b,hb,ra.dk ew⟩,w5⟩,ne,ok.Wz hx hk hg⟩,n17,gw,gr,cw,cr,fun y hy z=>xs y hy (dX z).2,st'⟩
theorem Ctx.tD {x:Str}{r:R}{ps:List Rdp}{v:Int}{kw kr:List (Key×V)}{b:Addr} (a:Ctx X H h g c st wd rd n gv rc kn rm) (ew:H wd=some (.dK kw)) (er:H rd=some (.dK kr)) (hx:x∈nmK n) (hk:kn x=none) (hg:gv x=none) (hr:rc x=some r) (got:o6 r kn0 ps v) (row:Rows kn ps) (ra:vg X H b (r,ps,v)):
 Ctx X (upd (upd H rd (.dK (putK kr (.inr x) (.ref b)))) wd (.dK (putK kw (.inr x) (.int v)))) h g c st wd rd n gv rc (kn.put x v) (rm.put x (r,ps,v)):=by
 have t1:=BV (o:= .dK (putK kr (.inr x) (.ref b))) er
 obtain⟨⟨kg,kc,e,e1,e2,bd⟩,⟨e3,⟨kw',ws,e4,k4,v4⟩,⟨kr',rs,e5,k5,v5,w5⟩,ne,ok⟩,n17,gw,gr,cw,cr,xs,st'⟩:=a
 rw[ew] at e4;cases e4
 rw[er] at e5;cases e5
 have ew1:upd H rd (.dK (putK kr (.inr x) (.ref b))) wd=some (.dK kw):=(au ne).trans ew
 have t2:=BV (o:= .dK (putK kw (.inr x) (.int v))) ew1
 have hsw:st≠wd:=fun z=>by rw[z,ew] at e3;cases e3
 have hsr:st≠rd:=fun z=>by rw[z,er] at e3;cases e3
 have hx':x∉ws:=k4.none.mp (by rw[v4,hk];rfl)
 have hrm:rm x=none:=by
  cases z:rm x with
  | none=>rfl
  | some q=>
    obtain⟨r1,ps1,v1⟩:=q
    have:=(ok.b x r1 ps1 v1 z).2.2.1
    rw[hk] at this;cases this
 have hxr:x∉rs:=k5.none.mp (w5 x hrm)
 have up:∀{b q},vg X H b q->vg X (upd (upd H rd (.dK (putK kr (.inr x) (.ref b)))) wd (.dK (putK kw (.inr x) (.int v)))) b q:=fun z=>(z.dk er).dk ((au ne).trans ew)
 refine⟨⟨kg,kc,t2 _ _ (t1 _ _ e),(au gw).trans ((au gr).trans e1),(au cw).trans ((au cr).trans e2),(bd.tups t1).tups t2⟩,⟨(au hsw).trans ((au hsr).trans e3),⟨_,_,ao,k4.oK hx' _,vh v4 x v⟩,⟨_,_,(au (Ne.symm ne)).trans ao,k5.oK hxr _,fun y q z=> ?_,fun y z=> ?_⟩,ne,ok.tD hx hk hg hr got row⟩,n17,gw,gr,cw,cr,fun y hy z=>xs y hy (dX (dX z).2).2,st'⟩
 ·rw[jo]
  unfold Rm.put at z
  by_cases w:y=x
  ·rw[if_pos w] at z;cases z
   exact⟨b,by rw[if_pos (by rw[w])],(ra.dk er).dk ew1⟩
  ·rw[if_neg w] at z
   obtain⟨b',hb,ra'⟩:=v5 y q z
   exact⟨b',by rw[if_neg (zV w)];exact hb,(ra'.dk er).dk ew1⟩
 ·rw[jo]
  unfold Rm.put at z
  by_cases w:y=x
  ·rw[if_pos w] at z;cases z
  ·rw[if_neg w] at z
   rw[if_neg (zV w)];exact w5 y z
end
end RB
namespace RB
open PySem L2 PySem.Spec PyProof.Rows
def YM:Sp:=fun vs H Q _=>∃(h g c wl:Addr) (n:Nat) (gv:Kn) (rc:Rn) (ws:List Str),vs=[.ref h, .ref wl]/\mD H h g c n gv rc/\n<=17/\H wl=some (.lst (ws.map V.str))/\(∀x∈ws,x∈nmK n)/\
 ∀st wd rd kn rm H',aW H H'->H st=none->H wd=none->H rd=none->StA [] H' st wd rd n gv rc kn rm->(∀x∈ws,kn x≠none)->Q (.ref st) H'
def YQ:Sp:=fun vs H Q _=>∃(h g c p:Addr) (n cc:Nat) (gv:Kn) (rc:Rn),vs=[.ref h, .ref p]/\mD H h g c n gv rc/\1<=n/\n<=17/\fJ H p cc/\cc<=50000/\p≠g/\p≠c/\
 ∀(wl:Addr) (ws:List Str) (H':Hp),But [p] H H'->H wl=none->H' wl=some (.lst (ws.map V.str))->(∀x∈ws,x∈nmK n)->Q (.ref wl) H'
end RB
namespace RB
open PySem L2 PySem.Spec PyProof.Rows
theorem N8 {r:R}{ns:List Str} (hi:r.In ns):∀{ps:List Rdp}{kn:Kn},Chn r kn ps->∀p∈ps,p.1∈ns
 |[],_,_,p,hp=>by cases hp
 | q::ps,kn,c,p,hp=>by
   rcases List.mem_cons.mp hp with z | z
   ·rw[z];exact Ey hi c.1
   ·exact N8 hi (ps:=ps) c.2 p z
def ahz (n:Nat) (rm:Rm):Prop:=∀x r ps v,rm x=some (r,ps,v)->o6 r kn0 ps v/\∃k,k<n/\x=ak k/\Rk3 (nmK k) 4 r
structure pQ (H:Hp) (kr:List (Key×V)) (n:Nat) (rm:Rm):Prop where
 k:∃rs,iz kr rs/\∀x∈rs,x∈nmK n
 v:∀x q,rm x=some q->∃b,cO kr (.inr x)=some (.ref b)/\vg [] H b q
 w:∀x,rm x=none->cO kr (.inr x)=none
 ok:ahz n rm
theorem vg.same {X:List Addr}{H H':Hp}{b:Addr}{q:R×List Rdp×Int} (r:vg X H b q) (s:aW H H'):vg X H' b q:=r.but (S:=[]) (But.of_same s) (aW.tups s) (by simp)
theorem pQ.map {H H':Hp}{kr:List (Key×V)}{n:Nat}{rm:Rm} (h:pQ H kr n rm) (f:∀b q,vg [] H b q->vg [] H' b q):pQ H' kr n rm:=⟨h.k,fun x q e=>let ⟨b,h1,h2⟩:=h.v x q e;⟨b,h1,f b q h2⟩,h.w,h.ok⟩
theorem pQ.len {H:Hp}{kr:List (Key×V)}{n:Nat}{rm:Rm} (h:pQ H kr n rm):kr.length<=n:=by
 obtain⟨rs,k,hr⟩:=h.k
 rw[k.len,<-jd n]
 exact gC k.nd hr
theorem pQ.put {H:Hp}{kr:List (Key×V)}{n:Nat}{rm:Rm} (h:pQ H kr n rm) {x:Str}{q:R×List Rdp×Int}{b:Addr} (hx:x∈nmK n) (ra:vg [] H b q) (hq:o6 q.1 kn0 q.2.1 q.2.2/\∃k,k<n/\x=ak k/\Rk3 (nmK k) 4 q.1):pQ H (putK kr (.inr x) (.ref b)) n (rm.put x q):=by
 obtain⟨rs,k,hr⟩:=h.k
 refine⟨?_,fun y q' e=> ?_,fun y e=> ?_,fun y r ps v e=> ?_⟩
 ·by_cases hm:x∈rs
  ·exact⟨rs,k.JZ hm _,hr⟩
  ·exact⟨_,k.oK hm _,fun y hy=>by
    rcases List.mem_append.mp hy with z | z
    ·exact hr y z
    ·have:y=x:=by simpa using z
     rw[this];exact hx⟩
 ·rw[jo]
  unfold Rm.put at e
  by_cases z:y=x
  ·rw[if_pos z] at e;cases e
   exact⟨b,by rw[if_pos (by rw[z])],ra⟩
  ·rw[if_neg z] at e;rw[if_neg (zV z)];exact h.v y q' e
 ·rw[jo]
  unfold Rm.put at e
  by_cases z:y=x
  ·rw[if_pos z] at e;cases e
  ·rw[if_neg z] at e;rw[if_neg (zV z)];exact h.w y e
 ·unfold Rm.put at e
  by_cases z:y=x
  ·rw[if_pos z] at e;cases e
   rw[z];exact hq
  ·rw[if_neg z] at e;exact h.ok y r ps v e
theorem StA.ahA {X:List Addr}{H:Hp}{st wd rd:Addr}{n:Nat}{gv:Kn}{rc:Rn}{kn:Kn}{rm:Rm} (h:StA X H st wd rd n gv rc kn rm) (ho:DK n gv rc):∃kr,H rd=some (.dK kr)/\pQ H kr n rm:=by
 obtain⟨kr,rs,e,k,v,w⟩:=h.er
 refine⟨kr,e,⟨rs,k,fun x hx=> ?_⟩,fun x q z=>let ⟨b,hb,br,l,as,h1,h2,h3,h4,_⟩:=v x q z;⟨b,hb,br,l,as,h1,h2,h3,h4,by simp⟩,w,fun x r ps v z=> ?_⟩
 ·cases z:rm x with
  | none=>exact absurd hx (k.none.mp (w x z))
  | some q=>
    obtain⟨r,ps,v⟩:=q
    exact(h.ok.a x v (h.ok.b x r ps v z).2.2.1).1
 ·obtain⟨h1,h2,h3,h4,h5⟩:=h.ok.b x r ps v z
  exact⟨h4,ho.rk x r h1⟩
end RB
namespace RB
open PySem L2 PySem.Spec PyProof.Rows
theorem iz.at {kvs:List (Key×V)}{ks:List Str} (h:iz kvs ks) {i:Nat}{k:Key}{v:V} (e:kvs[i]? =some (k,v)):∃x,k= .inr x/\ks[i]? =some x:=by
 have h1:(kvs.map (·.1))[i]? =some k:=by rw[List.getElem?_map,e];rfl
 rw[h.k,List.getElem?_map] at h1
 cases z:ks[i]? with
 | none=>rw[z] at h1;cases h1
 | some x=>rw[z] at h1;exact⟨x,(Option.some.inj h1).symm,rfl⟩
end RB
set_option maxRecDepth 100000
namespace RB
open PySem L2 PySem.Spec PyProof.Rows
end RB
namespace RB
open PySem L2 PySem.Spec PyProof.Rows
theorem yw {r:R}:∀{ps:List Rdp}{kn:Kn},Chn r kn ps->(∀p∈ps,kn p.1=none)/\(ps.map (·.1)).Nodup
 |[],_,_=>⟨by simp,by simp⟩
 | q::ps,kn,c=>by
   obtain⟨h1,h2⟩:=yw (ps:=ps) c.2
   have h0:=qu c.1
   have h3:∀p∈ps,p.1≠q.1/\kn p.1=none:=fun p hp=>by
    have:=h1 p hp
    unfold Kn.put at this
    by_cases z:p.1=q.1
    ·rw[if_pos z] at this;cases this
    ·rw[if_neg z] at this;exact⟨z,this⟩
   refine⟨fun p hp=> ?_, ?_⟩
   ·rcases List.mem_cons.mp hp with z | z
    ·rw[z];exact h0
    ·exact(h3 p z).2
   ·rw[List.map_cons,List.nodup_cons]
    refine⟨fun hm=> ?_,h2⟩
    obtain⟨p,hp,e⟩:=List.mem_map.mp hm
    exact(h3 p hp).1 e
theorem Qg {r:R}{ps:List Rdp}{kn:Kn}{k:Nat} (c:Chn r kn ps) (hi:r.In (nmK k)):ps.length<=k:=by
 have:=gC (yw c).2 (ns:=nmK k) fun x hx=>by
  obtain⟨p,hp,rfl⟩:=List.mem_map.mp hx
  exact N8 hi c p hp
 rwa [List.length_map,jd] at this
end RB
set_option maxRecDepth 100000
namespace RB
open PySem L2 PySem.Spec PyProof.Rows
end RB
set_option maxRecDepth 100000
namespace RB
open PySem L2 PySem.Spec PyProof.Rows
theorem BW {kvs:List (Key×V)}{ks:List Str} (h:iz kvs ks) {k:Key}{v:V} (m:(k,v)∈kvs):cO kvs k=some v:=by
 obtain⟨i,hi⟩:=List.getElem?_of_mem m
 have nd:(kvs.map (·.1)).Nodup:=by
  rw[h.k]
  exact List.Pairwise.map _ (fun a b (e:a≠b) (z:(Sum.inr a:Key)=Sum.inr b)=>e (Sum.inr.inj z)) h.nd
 clear h
 induction kvs generalizing i with
 | nil=>cases m
 | cons q r ih=>
   rw[List.map_cons,List.nodup_cons] at nd
   rcases List.mem_cons.mp m with z | z
   ·rw[<-z];exact jF rfl
   ·have hne:¬q.1=k:=fun w=>nd.1 (by rw[w];exact List.mem_map.mpr ⟨_,z,rfl⟩)
    rw[jG hne]
    obtain⟨j,hj⟩:=List.getElem?_of_mem z
    exact ih z j hj nd.2
theorem pQ.plain {H:Hp}{kr:List (Key×V)}{n:Nat}{rm:Rm} (h:pQ H kr n rm):∀q∈kr,wK q.2=true:=fun q hq=>by
 obtain⟨ks,k,hk⟩:=h.k
 obtain⟨i,hi⟩:=List.getElem?_of_mem hq
 obtain⟨x,ex,_⟩:=k.at (k:=q.1) (v:=q.2) hi
 have hv:=BW k (k:=q.1) (v:=q.2) hq
 rw[ex] at hv
 cases e:rm x with
 | none=>rw[h.w x e] at hv;cases hv
 | some bp=>
   obtain⟨b,hb,_⟩:=h.v x bp e
   rw[hb] at hv
   rw[<-Option.some.inj hv];rfl
end RB
set_option maxRecDepth 100000
namespace L2
open PySem PySem.Spec PyProof.Rows
section
variable {prog:Program}{w:World}{A:Around}{E:Value->Shared->Prop}{s:Shared}
theorem J2 {j t:Addr}{k:Nat}{vs:Array Value}{v:Value}{Q:Value->Shared->Prop} (hj:IsTupIter s.heap j t k) (ht:IsTup s.heap t vs) (hv:vs[k]? =some v)
 (q:∀g,IsTupIter g j t (k+1)->Heap.SameBut j s.heap g->Q v {s with heap:=g}):wpAny (model prog w) A (Builtin.SmallTypes.nextOf (.ref j)) Q E s:=by
 have ty:=hj.typeIs
 obtain⟨oj,ej,cj,dj⟩:=hj
 obtain⟨ot,et,_,nt,dt⟩:=ht
 unfold Builtin.SmallTypes.nextOf
 refine wpAny_bind (wpAny_callSpecial?_slot (name:=Str.ofString "__next__") ty slot_tupleiter_next (wpAny_call_entry slot_tupleiter_next ty entry_tupleiter_next ?_ (args_tupleiter_next _)))
 show wpAny _ _ (field (.ref j) 0>>=_) _ _ s
 refine wpAny_bind (wpAny_field ej dj (x:= .ref t) rfl ?_)
 show wpAny _ _ (if(Value.ref t==Value.none)=true then _ else _) _ _ _
 rw[if_neg (by intro z;cases z)]
 show wpAny _ _ (field (.ref j) 1>>=_) _ _ s
 refine wpAny_bind (wpAny_field ej dj (x:= .int k 0) rfl ?_)
 show wpAny _ _ (seqItems? (.ref t)>>=_) _ _ _
 refine wpAny_bind (wpAny_seqItems et dt ?_)
 simp only[hv,Int.toNat_natCast]
 refine wpAny_bind (wpAny_setField ej dj (by simp) (wpAny_pure ⟨v,rfl,wpAny_pure (q _ ?_ (Heap.SameBut.update ..))⟩))
 refine⟨_,Heap.get?_update_self _ ej (Obj.isFreed_of_fields (Obj.data_mapFields dj _)),(Obj.cls_mapFields ..).trans cj, ?_⟩
 rw[Obj.data_mapFields dj];simp[rawInt]
theorem Qh {j t:Addr}{k:Nat}{vs:Array Value}{Q:Value->Shared->Prop} (hA:A.handled=none) (hj:IsTupIter s.heap j t k) (ht:IsTup s.heap t vs) (hv:vs[k]? =none)
 (q:∀g b,Heap.ExtBut j s.heap g->(∃ob,g.get? b=some ob/\ob.cls= .type "StopIteration")->E (.ref b) {s with heap:=g}):wpAny (model prog w) A (Builtin.SmallTypes.nextOf (.ref j)) Q E s:=by
 have ty:=hj.typeIs
 obtain⟨oj,ej,cj,dj⟩:=hj
 obtain⟨ot,et,_,nt,dt⟩:=ht
 unfold Builtin.SmallTypes.nextOf
 refine wpAny_bind (wpAny_callSpecial?_slot (name:=Str.ofString "__next__") ty slot_tupleiter_next (wpAny_call_entry slot_tupleiter_next ty entry_tupleiter_next ?_ (args_tupleiter_next _)))
 show wpAny _ _ (field (.ref j) 0>>=_) _ _ s
 refine wpAny_bind (wpAny_field ej dj (x:= .ref t) rfl ?_)
 show wpAny _ _ (if(Value.ref t==Value.none)=true then _ else _) _ _ _
 rw[if_neg (by intro z;cases z)]
 show wpAny _ _ (field (.ref j) 1>>=_) _ _ s
 refine wpAny_bind (wpAny_field ej dj (x:= .int k 0) rfl ?_)
 show wpAny _ _ (seqItems? (.ref t)>>=_) _ _ _
 refine wpAny_bind (wpAny_seqItems et dt ?_)
 simp only[hv,Int.toNat_natCast]
 refine wpAny_bind (wpAny_rule (wpAny_bind (wpAny_setField ej dj (by simp) ?_)))
 show wpAny _ _ (newExc (.type "StopIteration") []>>=_) _ _ _
 refine wpAny_bind ?_
 simp only[newTuple,newExc]
 refine wpAny_bind (wpAny_newObj_type ?_ (by size_fits))
 refine wpAny_bind (m:=firstArgMember _ _) (wpAny_of_eq (a:=Value.none) (by first | rfl | (unfold firstArgMember;rfl)) ?_)
 refine wpAny_newObj_type ?_ (by size_fits)
 simp only[raiseNew]
 refine wpAny_bind (wpAny_handled ?_)
 first | rw[hA] | rw[show A.in1.handled=none from hA]
 exact wpAny_bind (wpAny_pure (wpAny_throw (q _ _ (((Heap.SameBut.update ..).extBut.push _).push _) ⟨_,Heap.get?_push_size _ rfl,rfl⟩)))
theorem T8 {z TI TO i j a b:Addr}{k:Nat}{xs ys:Array Value}{x y p q:Value}{Q:Value->Shared->Prop} (D:ZipApart z TI TO i j a b)
 (ez:IsZip s.heap z TI TO .none) (eI:IsPair s.heap TI (.ref i) (.ref j)) (eO:IsPair s.heap TO p q) (ei:IsTupIter s.heap i a k) (ej:IsTupIter s.heap j b k) (ea:IsTup s.heap a xs) (eb:IsTup s.heap b ys)
 (hx:xs[k]? =some x) (hy:ys[k]? =some y)
 (r:∀g,IsZip g z TI TO (rawInt s.heap.objs.size)->IsPair g TO x y->IsTupIter g i a (k+1)->IsTupIter g j b (k+1)->IsPair g s.heap.objs.size x y->g.objs.size=s.heap.objs.size+1->
   (∀c o,c∉[z,TO,i,j]->s.heap.get? c=some o->g.get? c=some o)->Q (.ref s.heap.objs.size) {s with heap:=g}):
 wpAny (model prog w) A (Builtin.«zip.__next__» ⟨[.ref z],[]⟩) (fun f s'=>∃v,f= .done (.ret v)/\Q v s') E s:=by
 show wpAny _ _ (field (.ref z) 2>>=_) _ _ s
 refine wpAny_bind (wpAny_field ez rfl (x:= .bool false) rfl ?_)
 show wpAny _ _ (field (.ref z) 3>>=_) _ _ s
 refine wpAny_bind (wpAny_field ez rfl (x:= .ref TI) rfl (wpAny_bind (wpAny_seqItems eI rfl ?_)))
 show wpAny _ _ (Builtin.SmallTypes.ownedTupleIsFree (.ref z)>>=_) _ _ s
 refine wpAny_bind ?_
 unfold Builtin.SmallTypes.ownedTupleIsFree;refine wpAny_bind (wpAny_field ez rfl (x:= .none) rfl (wpAny_pure ?_))
 simp only[if_true]
 refine wpAny_bind (wpAny_rule (wpAny_bind (wpAny_field ez rfl (x:= .ref TO) rfl (wpAny_bind (wpAny_setField_rec ez (by simp) fun g1 z1 b1=> ?_)))))
 have z1':IsZip g1 z TI TO .ellipsis:=z1
 refine wpAny_bind ?_
 simp only[List.forIn_cons,List.forIn_nil,List.zipIdx_cons,List.zipIdx_nil]
 refine wpAny_bind (wpAny_bind (wpAny_onRaise ?_))
 show wpAny _ _ (Builtin.SmallTypes.nextOf (.ref i)>>=_) _ _ _
 refine wpAny_bind (J2 (ei.extBut b1.extBut D.i1z) (ea.extBut b1.extBut D.l1z) hx fun g2 i2 b2=>wpAny_pure ?_)
 have o2:IsPair g2 TO p q:=b2.extBut _ _ D.TOi1 (b1.extBut _ _ D.TOz eO)
 refine wpAny_bind (wpAny_seqItems o2 rfl (wpAny_bind (wpAny_updateSeq_pair o2 fun g3 o3 b3=> ?_)))
 have o3':IsPair g3 TO x q:=o3
 refine wpAny_bind (wpAny_letGo (wpAny_pure (wpAny_bind (wpAny_bind (wpAny_onRaise ?_)))))
 show wpAny _ _ (Builtin.SmallTypes.nextOf (.ref j)>>=_) _ _ _
 refine wpAny_bind (J2 (((ej.extBut b1.extBut D.i2z).extBut b2.extBut D.i12.symm).extBut b3.extBut D.TOi2.symm) (((eb.extBut b1.extBut D.l2z).extBut b2.extBut D.l2i1).extBut b3.extBut D.l2TO) hy fun g4 j4 b4=>wpAny_pure ?_)
 have o4:IsPair g4 TO x q:=b4.extBut _ _ D.TOi2 o3'
 refine wpAny_bind (wpAny_seqItems o4 rfl (wpAny_bind (wpAny_updateSeq_pair o4 fun g5 o5 b5=> ?_)))
 have o5':IsPair g5 TO x y:=o5
 refine wpAny_bind (wpAny_letGo (wpAny_pure (wpAny_pure (wpAny_bind (wpAny_seqItems o5' rfl (wpAny_bind (wpAny_newTuple ?_)))))))
 have sz:g5.objs.size=s.heap.objs.size:=by rw[b5.1,b4.1,b3.1,b2.1,b1.1]
 have z5:IsZip g5 z TI TO .ellipsis:=b5.extBut _ _ D.TOz.symm (b4.extBut _ _ D.i2z.symm (b3.extBut _ _ D.TOz.symm (b2.extBut _ _ D.i1z.symm z1')))
 have k5:∀c o,c∉[z,TO,i,j]->s.heap.get? c=some o->g5.get? c=some o:=fun c o hc e=>by
  simp only[List.mem_cons,List.not_mem_nil,or_false,not_or] at hc
  exact b5.extBut _ _ hc.2.1 (b4.extBut _ _ hc.2.2.2 (b3.extBut _ _ hc.2.1 (b2.extBut _ _ hc.2.2.1 (b1.extBut _ _ hc.1 e))))
 have i5:IsTupIter g5 i a (k+1):=((i2.extBut b3.extBut D.TOi1.symm).extBut b4.extBut D.i12).extBut b5.extBut D.TOi1.symm
 have j5:IsTupIter g5 j b (k+1):=j4.extBut b5.extBut D.TOi2.symm
 have lz:g5.objs.size≠z:=Nat.ne_of_gt (Heap.lt_size z5)
 show wpAny _ _ (Builtin.SmallTypes.ownedTupleHandOut (.ref z) (.ref g5.objs.size)>>=_) _ _ _
 refine wpAny_bind ?_
 unfold Builtin.SmallTypes.ownedTupleHandOut;refine wpAny_bind (wpAny_setField_rec (Heap.get?_push_of_some _ z5) (by simp) fun g7 z7 b7=> ?_)
 have z7':IsZip g7 z TI TO (rawInt g5.objs.size):=z7
 refine wpAny_setField_rec z7' (by simp) fun g8 z8 b8=> ?_
 have z8':IsZip g8 z TI TO (rawInt g5.objs.size):=z8
 have up:∀c o,c≠z->g5.get? c=some o->g8.get? c=some o:=fun c o hc e=>b8.extBut _ _ hc (b7.extBut _ _ hc (Heap.get?_push_of_some _ e))
 have t8:IsPair g8 g5.objs.size x y:=b8.extBut _ _ lz (b7.extBut _ _ lz (Heap.get?_push_size _ rfl))
 have s8:g8.objs.size=g5.objs.size+1:=by rw[b8.1,b7.1,Heap.size_push]
 rw[sz] at z8' t8 s8
 refine wpAny_pure ⟨_,rfl, ?_⟩
 show Q (.ref g5.objs.size) _
 rw[sz]
 obtain⟨oi,qi,ri⟩:=i5
 obtain⟨oj,qj,rj⟩:=j5
 exact r g8 z8' (up _ _ D.TOz o5') ⟨oi,up _ _ D.i1z qi,ri⟩ ⟨oj,up _ _ D.i2z qj,rj⟩ t8 s8 fun c o hc e=>up c o (fun h=>hc (by simp[h])) (k5 c o hc e)
theorem T9 {z TI TO i j a b:Addr}{k:Nat}{xs ys:Array Value}{p q:Value}{Q:Fin->Shared->Prop} (hA:A.handled=none) (D:ZipApart z TI TO i j a b)
 (ez:IsZip s.heap z TI TO .none) (eI:IsPair s.heap TI (.ref i) (.ref j)) (eO:IsPair s.heap TO p q) (ei:IsTupIter s.heap i a k) (ej:IsTupIter s.heap j b k) (ea:IsTup s.heap a xs) (eb:IsTup s.heap b ys)
 (hend:xs[k]? =none\/ys[k]? =none)
 (r:∀g u,(∀c o,c∉[z,TO,i,j]->s.heap.get? c=some o->g.get? c=some o)->(∃o,g.get? u=some o/\o.cls= .type "StopIteration")->E (.ref u) {s with heap:=g}):
 wpAny (model prog w) A (Builtin.«zip.__next__» ⟨[.ref z],[]⟩) Q E s:=by
 show wpAny _ _ (field (.ref z) 2>>=_) _ _ s
 refine wpAny_bind (wpAny_field ez rfl (x:= .bool false) rfl ?_)
 show wpAny _ _ (field (.ref z) 3>>=_) _ _ s
 refine wpAny_bind (wpAny_field ez rfl (x:= .ref TI) rfl (wpAny_bind (wpAny_seqItems eI rfl ?_)))
 show wpAny _ _ (Builtin.SmallTypes.ownedTupleIsFree (.ref z)>>=_) _ _ s
 refine wpAny_bind ?_
 unfold Builtin.SmallTypes.ownedTupleIsFree;refine wpAny_bind (wpAny_field ez rfl (x:= .none) rfl (wpAny_pure ?_))
 simp only[if_true]
 refine wpAny_bind (wpAny_rule (wpAny_bind (wpAny_field ez rfl (x:= .ref TO) rfl (wpAny_bind (wpAny_setField_rec ez (by simp) fun g1 z1 b1=> ?_)))))
 have z1':IsZip g1 z TI TO .ellipsis:=z1
 refine wpAny_bind ?_
 simp only[List.forIn_cons,List.forIn_nil,List.zipIdx_cons,List.zipIdx_nil]
 refine wpAny_bind (wpAny_bind (wpAny_onRaise ?_))
 show wpAny _ _ (Builtin.SmallTypes.nextOf (.ref i)>>=_) _ _ _
 have nz:∀{g:Heap}{u o},IsZip g z TI TO .ellipsis->g.get? u=some o->o.cls= .type "StopIteration"->u≠z:=fun hz hu hc h=>by subst h;rw[hz] at hu;cases hu;simp at hc
 cases hx:xs[k]? with
 | none=>
   refine wpAny_bind (Qh hA (ei.extBut b1.extBut D.i1z) (ea.extBut b1.extBut D.l1z) hx fun g2 u b2 ⟨ou,hou,hcu⟩=> ?_)
   have z2:IsZip g2 z TI TO .ellipsis:=b2 _ _ D.i1z.symm z1'
   refine wpAny_setField_rec z2 (by simp) fun g3 _ b3=>r g3 u (fun c o hc e=> ?_) ⟨ou,b3.extBut _ _ (nz z2 hou hcu) hou,hcu⟩
   simp only[List.mem_cons,List.not_mem_nil,or_false,not_or] at hc
   exact b3.extBut _ _ hc.1 (b2 _ _ hc.2.2.1 (b1.extBut _ _ hc.1 e))
 | some x=>
   have hy:ys[k]? =none:=by rcases hend with h | h;exact absurd (hx.symm.trans h) (by simp);exact h
   refine wpAny_bind (J2 (ei.extBut b1.extBut D.i1z) (ea.extBut b1.extBut D.l1z) hx fun g2 i2 b2=>wpAny_pure ?_)
   have o2:IsPair g2 TO p q:=b2.extBut _ _ D.TOi1 (b1.extBut _ _ D.TOz eO)
   refine wpAny_bind (wpAny_seqItems o2 rfl (wpAny_bind (wpAny_updateSeq_pair o2 fun g3 o3 b3=> ?_)))
   refine wpAny_bind (wpAny_letGo (wpAny_pure (wpAny_bind (wpAny_bind (wpAny_onRaise ?_)))))
   show wpAny _ _ (Builtin.SmallTypes.nextOf (.ref j)>>=_) _ _ _
   refine wpAny_bind (Qh hA (((ej.extBut b1.extBut D.i2z).extBut b2.extBut D.i12.symm).extBut b3.extBut D.TOi2.symm) (((eb.extBut b1.extBut D.l2z).extBut b2.extBut D.l2i1).extBut b3.extBut D.l2TO) hy fun g4 u b4 ⟨ou,hou,hcu⟩=> ?_)
   have z4:IsZip g4 z TI TO .ellipsis:=b4 _ _ D.i2z.symm (b3.extBut _ _ D.TOz.symm (b2.extBut _ _ D.i1z.symm z1'))
   refine wpAny_setField_rec z4 (by simp) fun g5 _ b5=>r g5 u (fun c o hc e=> ?_) ⟨ou,b5.extBut _ _ (nz z4 hou hcu) hou,hcu⟩
   simp only[List.mem_cons,List.not_mem_nil,or_false,not_or] at hc
   exact b5.extBut _ _ hc.1 (b4 _ _ hc.2.2.2 (b3.extBut _ _ hc.2.1 (b2.extBut _ _ hc.2.2.1 (b1.extBut _ _ hc.1 e))))
end
end L2
set_option maxRecDepth 100000
namespace L2
open PySem PySem.Spec PyProof.Rows
abbrev tzA (g:Heap) (a:Addr):Heap:=g.push {cls:= .type "tuple_iterator",data:= .fields #[.ref a, .int 0 0]}
abbrev tzB (g:Heap) (a b:Addr):Heap:=(tzA g a).push {cls:= .type "tuple_iterator",data:= .fields #[.ref b, .int 0 0]}
abbrev tzC (g:Heap) (a b:Addr):Heap:=(tzB g a b).push {cls:= .type "tuple",data:= .seq #[.ref g.objs.size, .ref (tzA g a).objs.size]}
abbrev tzD (g:Heap) (a b:Addr):Heap:=(tzC g a b).push {cls:= .type "tuple",data:= .seq #[.none, .none]}
abbrev tzE (g:Heap) (a b:Addr):Heap:=(tzD g a b).push {cls:= .type "zip",data:= .fields #[.none, .bool false, .bool false, .ref (tzB g a b).objs.size, .ref (tzC g a b).objs.size]}
theorem Ua (a b:Addr) (xs ys:Array Value):
 Meets (Builtin.«zip.__new__» ⟨[.type "zip", .ref a, .ref b],[]⟩) (fun _ R s=>IsTup s.heap a xs/\IsTup s.heap b ys/\
  R (.ok (.ret (.ref (tzD s.heap a b).objs.size))) {s with heap:=tzE s.heap a b}):=
 .of_wp fun prog w A R s h=>by
   obtain⟨hp,g,d,tk,os⟩:=s;obtain⟨ha,hb,h⟩:=h
   have hsub:=sub_zip
   have h1:IsTup (Shared.heap ⟨hp,g,d,tk,os⟩) a xs:=ha
   have h2:IsTup (Shared.heap ⟨hp.push {cls:= .type "tuple_iterator",data:= .fields #[.ref a, .int 0 0]},g,d,tk,os⟩) b ys:=hb.push _
   wp_walk using iter_tuple h1,iter_tuple h2
   exact⟨_,rfl,h⟩
section
variable {prog:Program}{w:World}{A:Around}{E:Value->Shared->Prop}{s:Shared}
theorem WD {a b:Addr}{xs ys:Array Value}{Q:Value->Shared->Prop} (ha:IsTup s.heap a xs) (hb:IsTup s.heap b ys)
 (q:∀g n,n=s.heap.objs.size->IsZip g (n+4) (n+2) (n+3) .none->IsPair g (n+2) (.ref n) (.ref (n+1))->
   IsPair g (n+3) .none .none->IsTupIter g n a 0->IsTupIter g (n+1) b 0->
   (∀c o,s.heap.get? c=some o->g.get? c=some o)->Q (.ref (n+4)) {s with heap:=g}):
 wpAny (model prog w) A (call (.type "zip") [.ref a, .ref b]) Q E s:=by
 refine callType_new F.called_zip (by decide) (F.typeCall_zip_2 _ _) (F.newCall_zip_2 _ _) (fun obj=>F.args_object_init_3 obj _ _) F.entry_zip_new
  (Ua a b xs ys) ⟨ha,hb, ?_⟩
 have n1:(tzA s.heap a).objs.size=s.heap.objs.size+1:=Heap.size_push ..
 have n2:(tzB s.heap a b).objs.size=s.heap.objs.size+2:=by rw[Heap.size_push,n1]
 have n3:(tzC s.heap a b).objs.size=s.heap.objs.size+3:=by rw[Heap.size_push,n2]
 have n4:(tzD s.heap a b).objs.size=s.heap.objs.size+4:=by rw[Heap.size_push,n3]
 have e5:(tzE s.heap a b).get? (tzD s.heap a b).objs.size=some _:=Heap.get?_push_size _ rfl
 have e4:(tzE s.heap a b).get? (tzC s.heap a b).objs.size=some _:=Heap.get?_push_of_some _ (Heap.get?_push_size _ rfl)
 have e3:(tzE s.heap a b).get? (tzB s.heap a b).objs.size=some _:=Heap.get?_push_of_some _ (Heap.get?_push_of_some _ (Heap.get?_push_size _ rfl))
 have e2:(tzE s.heap a b).get? (tzA s.heap a).objs.size=some _:=Heap.get?_push_of_some _ (Heap.get?_push_of_some _ (Heap.get?_push_of_some _ (Heap.get?_push_size _ rfl)))
 have e1:(tzE s.heap a b).get? s.heap.objs.size=some _:=Heap.get?_push_of_some _ (Heap.get?_push_of_some _ (Heap.get?_push_of_some _ (Heap.get?_push_of_some _ (Heap.get?_push_size _ rfl))))
 show _/\_
 rw[n2,n3,n4] at e5
 rw[n3] at e4
 rw[n1,n2] at e3
 rw[n1] at e2
 rw[n4]
 exact⟨⟨_,e5,rfl⟩,q _ _ rfl e5 e3 e4 ⟨_,e1,rfl,rfl⟩ ⟨_,e2,rfl,rfl⟩ fun c o x=>
  Heap.get?_push_of_some _ (Heap.get?_push_of_some _ (Heap.get?_push_of_some _ (Heap.get?_push_of_some _ (Heap.get?_push_of_some _ x))))⟩
theorem WK {z TI TO i j a b:Addr}{k:Nat}{xs ys:Array Value}{x y p q:Value}{Q:Option Value->Shared->Prop} (D:ZipApart z TI TO i j a b)
 (ez:IsZip s.heap z TI TO .none) (eI:IsPair s.heap TI (.ref i) (.ref j)) (eO:IsPair s.heap TO p q) (ei:IsTupIter s.heap i a k) (ej:IsTupIter s.heap j b k) (ea:IsTup s.heap a xs) (eb:IsTup s.heap b ys)
 (hx:xs[k]? =some x) (hy:ys[k]? =some y)
 (r:∀g,IsZip g z TI TO (rawInt s.heap.objs.size)->IsPair g TO x y->IsTupIter g i a (k+1)->IsTupIter g j b (k+1)->IsPair g s.heap.objs.size x y->g.objs.size=s.heap.objs.size+1->
   (∀c o,c∉[z,TO,i,j]->s.heap.get? c=some o->g.get? c=some o)->Q (some (.ref s.heap.objs.size)) {s with heap:=g}):
 wpAny (model prog w) A (pyNext (.ref z)) Q E s:=by
 have ty:s.TypeIs (.ref z) "zip":=⟨_,ez,rfl⟩
 unfold pyNext
 exact wpAny_bind (wpAny_attempt (wpAny_callSpecial?_slot (name:=Str.ofString "__next__") ty F.slot_zip_next (wpAny_call_entry F.slot_zip_next ty F.entry_zip_next
  (T8 D ez eI eO ei ej ea eb hx hy fun g a1 a2 a3 a4 a5 a6 a7=>wpAny_pure (r g a1 a2 a3 a4 a5 a6 a7)) (F.args_zip_next_1 _))))
theorem aa6 {z TI TO i j a b:Addr}{k:Nat}{xs ys:Array Value}{p q:Value}{Q:Option Value->Shared->Prop} (hA:A.handled=none) (D:ZipApart z TI TO i j a b)
 (ez:IsZip s.heap z TI TO .none) (eI:IsPair s.heap TI (.ref i) (.ref j)) (eO:IsPair s.heap TO p q) (ei:IsTupIter s.heap i a k) (ej:IsTupIter s.heap j b k) (ea:IsTup s.heap a xs) (eb:IsTup s.heap b ys)
 (hend:xs[k]? =none\/ys[k]? =none)
 (r:∀g,(∀c o,c∉[z,TO,i,j]->s.heap.get? c=some o->g.get? c=some o)->Q none {s with heap:=g}):
 wpAny (model prog w) A (pyNext (.ref z)) Q E s:=by
 have ty:s.TypeIs (.ref z) "zip":=⟨_,ez,rfl⟩
 unfold pyNext
 refine wpAny_bind (wpAny_attempt (wpAny_callSpecial?_slot (name:=Str.ofString "__next__") ty F.slot_zip_next (wpAny_call_entry F.slot_zip_next ty F.entry_zip_next
  (T9 hA D ez eI eO ei ej ea eb hend fun g u hk ⟨o,ho,hc⟩=> ?_) (F.args_zip_next_1 _))))
 exact wpAny_bind (wpAny_isInstance (T:="StopIteration") (b:=true) ⟨o,ho,hc⟩ isSubtype_stop (wpAny_pure (r _ hk)))
end
def aa7 (K:PySem.W.Frag) (l1 l2:Addr):It:=
 ⟨fun i H=>∃xs ys x y,SqT K H l1 xs/\SqT K H l2 ys/\xs[i]? =some x/\ys[i]? =some y,
  fun i H v H'=>∃T x y,v= .ref T/\H T=none/\H'=upd H T (.tup [x,y])/\(∀xs,SqT K H l1 xs->xs[i]? =some x)/\∀ys,SqT K H l2 ys->ys[i]? =some y,
  fun i H=>∃xs ys,SqT K H l1 xs/\SqT K H l2 ys/\min xs.length ys.length=i⟩
theorem WL {P:Program}{w:World}{K:PySem.W.Frag}{elts:List Expr}{k:Nat}{pos:Pos} (z TI TO i1 i2 l1 l2:Addr) (D:ZipApart z TI TO i1 i2 l1 l2):
 Turn P w K (.Tuple elts k pos) (aa7 K l1 l2) [z,TI,TO,i1,i2] z (fun i h=>IsZip h z TI TO .none/\IsPair h TI (.ref i1) (.ref i2)/\(∃a b,IsPair h TO a b)/\IsTupIter h i1 l1 i/\IsTupIter h i2 l2 i) where
 mem:=by simp
 obj:=fun i h st b hb=>by
  obtain⟨h1,h2,⟨a,c,h3⟩,⟨o4,e4,_,d4⟩,⟨o5,e5,_,d5⟩⟩:=st
  have hb':b=z\/b=TI\/b=TO\/b=i1\/b=i2:=by simpa using hb
  rcases hb' with rfl | rfl | rfl | rfl | rfl
  ·exact⟨_,h1,fun v e=>by cases e⟩
  ·exact⟨_,h2,fun v e=>by cases e⟩
  ·exact⟨_,h3,fun v e=>by cases e⟩
  ·exact⟨o4,e4,fun v e=>by rw[d4] at e;cases e⟩
  ·exact⟨o5,e5,fun v e=>by rw[d5] at e;cases e⟩
 keep:=fun i h h' st kp=>by
  obtain⟨h1,h2,⟨a,c,h3⟩,⟨o4,e4,r4⟩,⟨o5,e5,r5⟩⟩:=st
  exact⟨kp z (by simp) _ h1,kp TI (by simp) _ h2,⟨a,c,kp TO (by simp) _ h3⟩,⟨o4,kp i1 (by simp) _ e4,r4⟩,⟨o5,kp i2 (by simp) _ e5,r5⟩⟩
 item:=by
  intro X hP hw hK hc i pins s σ H E I hf st hg
  subst hP hw hK
  obtain⟨xs,ys,x,y,hq1,hq2,hx,hy⟩:=hg
  obtain⟨adQ,rv1,p1,hz1⟩:=I.tuple hq1
  obtain⟨its2,rv2,p2,hz2⟩:=I.tuple hq2
  obtain⟨u1,hu1,ru1⟩:=rv1.get hx
  obtain⟨u2,hu2,ru2⟩:=rv2.get hy
  obtain⟨s1,s2,⟨a3,b3,s3⟩,s4,s5⟩:=st
  refine WK D s1 s2 s3 s4 s5 p1 p2 (x:=u1) (y:=u2) (by simpa using hu1) (by simpa using hu2) fun g t1 t3 t4 t5 isT sz kp=> ?_
  have sub:∀c∈[z,TO,i1,i2],c∈[z,TI,TO,i1,i2]:=fun c hc=>by
   have:c=z\/c=TO\/c=i1\/c=i2:=by simpa using hc
   rcases this with rfl | rfl | rfl | rfl<;>simp
  have tI:IsPair g TI (.ref i1) (.ref i2):=kp TI _ (by simp[D.TIz,D.TITO,D.TIi1,D.TIi2]) s2
  refine⟨.ref s.heap.objs.size,rfl,wpAny_letOwnedTupleGo_zip t1 fun h3 t1' b3'=> ?_⟩
  have kp3:∀c o,c∉[z,TO,i1,i2]->s.heap.get? c=some o->h3.get? c=some o:=fun c o hc e=>b3'.extBut _ _ (fun h=>hc (by simp[h])) (kp c o hc e)
  have J:Inv X pins σ H {s with heap:=h3,toks:=s.toks}:=I.PB (ch:=[z,TO,i1,i2]) (fun b hb=>hf b (sub b hb)) kp3
  have hT0:H s.heap.objs.size=none:=I.hok.fresh (Nat.le_refl _)
  have nT:s.heap.objs.size∉[z,TI,TO,i1,i2]:=fun hm=>by
   obtain⟨o,e⟩:∃o,s.heap.get? s.heap.objs.size=some o:=by
    have:s.heap.objs.size=z\/s.heap.objs.size=TI\/s.heap.objs.size=TO\/s.heap.objs.size=i1\/s.heap.objs.size=i2:=by simpa using hm
    obtain⟨o4,e4,_⟩:=s4
    obtain⟨o5,e5,_⟩:=s5
    rcases this with h | h | h | h | h
    ·exact⟨_,h▸s1⟩
    ·exact⟨_,h▸s2⟩
    ·exact⟨_,h▸s3⟩
    ·exact⟨_,h▸e4⟩
    ·exact⟨_,h▸e5⟩
   exact absurd (Heap.lt_size e) (Nat.lt_irrefl _)
  have ahB:IsTup h3 s.heap.objs.size #[u1,u2]:=⟨_,b3'.extBut _ _ (fun h=>nT (by simp[h])) isT,rfl,_,rfl⟩
  have fp:=I.MP (H':=H) (Nat.le_refl _) hT0
  refine⟨.ref s.heap.objs.size,upd H s.heap.objs.size (.tup [x,y]),J.track hT0 ?_ fp.2.1 fp.2.2.2.2.1 fp.2.2.2.2.2 ?_,rfl,⟨_,x,y,rfl,hT0,rfl,fun zs hs=>by rw[I.Jc hs hq1];exact hx,fun zs hs=>by rw[I.Jc hs hq2];exact hy⟩,
   ⟨t1',b3'.extBut _ _ D.TIz tI,⟨_,_,b3'.extBut _ _ D.TOz t3⟩,t4.extBut b3'.extBut D.i1z,t5.extBut b3'.extBut D.i2z⟩,fun b hb=> ?_⟩
  ·cases e:X.s₀.heap.get? s.heap.objs.size with
   | none=>rfl
   | some o=>exact absurd (Heap.lt_size e) (Nat.not_lt.mpr I.sz)
  ·exact⟨by show 2<=sizeLine;rw[sizeLine_eq];decide,[u1,u2], .cons ru1 (.cons ru2 .nil),ahB⟩
  ·have nb:b≠s.heap.objs.size:=fun e=>nT (by rw[<-e];exact hb)
   rw[au nb];exact(hf b hb).1
 done:=by
  intro X hP hw hK hc i pins s σ H E I hf st hg
  subst hP hw hK
  obtain⟨xs,ys,hq1,hq2,hi⟩:=hg
  obtain⟨adQ,rv1,p1,hz1⟩:=I.tuple hq1
  obtain⟨its2,rv2,p2,hz2⟩:=I.tuple hq2
  obtain⟨s1,s2,⟨a3,b3,s3⟩,s4,s5⟩:=st
  have e1:=rv1.length
  have e2:=rv2.length
  refine aa6 (I.ok.hd hc) D s1 s2 s3 s4 s5 p1 p2 ?_ fun g kp=>⟨rfl,I.PB (t':=s.toks) (ch:=[z,TO,i1,i2]) (fun b hb=>hf b ?_) kp⟩
  ·rcases Nat.le_total xs.length ys.length with h | h
   ·exact .inl (by simp;omega)
   ·exact .inr (by simp;omega)
  ·have:b=z\/b=TO\/b=i1\/b=i2:=by simpa using hb
   rcases this with rfl | rfl | rfl | rfl<;>simp
 self:=fun _ _ _ _ _ st h=>wpAny_pyIter_zip st.1 h
def YS (K:PySem.W.Frag) (ta:TA):TI:=fun σ H R=>ta σ H fun vs H1=>∃l1 l2,vs=[.ref l1, .ref l2]/\(∃xs,SqT K H1 l1 xs)/\(∃ys,SqT K H1 l2 ys)/\R (aa7 K l1 l2) H1
theorem WM {X:Cx}{elts:List Expr}{k:Nat}{tp:Pos}{a b:Expr}{ta:TA}{p pos:Pos} (hg:Gl X "zip") (hm:X.mg "zip"=none) (ha:PA X [a,b] ta) (hs:starEach [a,b] X.env=[(false,eval a X.env),(false,eval b X.env)]:=by rfl) (hs2:starEach [b] X.env=[(false,eval b X.env)]:=by rfl):
 PI X (.Tuple elts k tp) (.Call (.Name "zip" p) [a,b] [] pos) (YS X.K ta):=by
 intro pins s σ H R I h
 refine Call_ (zL I hg hm aaH (PyProof.Rows.callWith_type1 (thn (ha pos pins s σ H _ I h) fun us s1 ⟨vs,H1,I1,r1,q1⟩=> ?_) (by rw[hs,hs2]) (by rw[hs2];rfl)))
 obtain⟨l1,l2,rfl,⟨xs,hq1⟩,⟨ys,hq2⟩,q⟩:=q1
 obtain⟨u,v,rfl,ru,rv⟩:=vals2 r1
 cases ru
 cases rv
 obtain⟨adQ,_,p1,_⟩:=I1.tuple hq1
 obtain⟨its2,_,p2,_⟩:=I1.tuple hq2
 have D:=PySem.W.ktu_apart s1.heap.objs.size l1 l2 p1.lt p2.lt
 refine WD p1 p2 fun h5 n en hz hTI hTO hi1 hi2 kp=> ?_
 subst en
 refine wpAny_pyIter_zip hz ?_
 have I2:Inv X pins σ H1 {s1 with heap:=h5}:=I1.kept (t':=s1.toks) kp
 refine⟨s1.heap.objs.size+4,[s1.heap.objs.size+4,s1.heap.objs.size+2,s1.heap.objs.size+3,s1.heap.objs.size,s1.heap.objs.size+1],_,_,H1,rfl,I2,WL _ _ _ _ _ l1 l2 D,⟨hz,hTI,⟨_,_,hTO⟩,hi1,hi2⟩,fun b hb=> ?_,q⟩
 have hle:s1.heap.objs.size<=b:=by
  have:b=s1.heap.objs.size+4\/b=s1.heap.objs.size+2\/b=s1.heap.objs.size+3\/b=s1.heap.objs.size\/b=s1.heap.objs.size+1:=by simpa using hb
  rcases this with rfl | rfl | rfl | rfl | rfl<;>first | exact Nat.le_refl _ | exact Nat.le_add_right _ _
 exact I1.MP hle (I1.hok.fresh hle)
theorem WN {X:Cx}{elts:List Expr}{k:Nat}{tp:Pos}{a b:Expr}{ta:TA}{p pos:Pos} (hg:Gl X "zip") (hm:X.mg "zip"=none) (ha:QA X [a,b] ta) (hs:starEach [a,b] X.env=[(false,eval a X.env),(false,eval b X.env)]:=by rfl) (hs2:starEach [b] X.env=[(false,eval b X.env)]:=by rfl):
 QI X (.Tuple elts k tp) (.Call (.Name "zip" p) [a,b] [] pos) (YS X.K ta):=⟨WM hg hm ha.h hs hs2⟩
theorem Ro {K:PySem.W.Frag}{a b:Addr}{xs ys:List V}{g:TG}{tc:TT}{te:TE}{σ:St}{H:Hp}{D:Addr}{Q:VK} (Pv:Nat->St->Hp->Prop) (hxy:xs.length=ys.length) (h0:Pv 0 σ (upd H D (.lst [])))
 (hl:∀i σ H,i<=xs.length->Pv i σ H->SqT K H a xs/\SqT K H b ys)
 (hs:∀i x y T σ' H',xs[i]? =some x->ys[i]? =some y->Pv i σ' H'->H' T=none->g (.ref T) σ' (upd H' T (.tup [x,y])) fun σ3 H3=>tc σ3 H3 fun b H4=>
   if b=true then te σ3 H4 fun y H5=>∃ys,H5 D=some (.lst ys)/\ys.length<sizeLine/\Pv (i+1) σ3 (upd H5 D (.lst (ys++[y]))) else Pv (i+1) σ3 H4) (hd:∀σ' H',Pv xs.length σ' H'->Q (.ref D) H'):
 Jp (aa7 K a b) g tc te D σ (upd H D (.lst [])) Q:=by
 refine⟨fun i m σ H=>m=xs.length - i/\i<=xs.length/\Pv i σ H,⟨xs.length,by simp,Nat.zero_le _,h0⟩, ?_⟩
 rintro i m σ H ⟨rfl,hi,p⟩
 have q:=hl i σ H hi p
 by_cases hlt:i<xs.length
 ·refine .inr ⟨⟨xs,ys,xs[i],ys[i]'(hxy▸hlt),q.1,q.2,by simp[hlt],by simp[hxy▸hlt]⟩,Pv (i+1),fun σ' H' p'=>⟨xs.length - (i+1),by omega,rfl,hlt,p'⟩,fun v H' y=> ?_⟩
  obtain⟨T,x,y',rfl,hT,rfl,y1,y2⟩:=y
  exact hs i x y' T σ _ (y1 xs q.1) (y2 ys q.2) p hT
 ·have e:i=xs.length:=by omega
  subst e
  exact .inl ⟨⟨xs,ys,q.1,q.2,by omega⟩,hd σ H p⟩
end L2
set_option maxRecDepth 100000
namespace RB
open PySem PySem.Spec PyProof.Rows L2
mutual
def dY:Th->Th->Bool
 | .tup xs, .tup ys=>kZ xs ys
 | .int i, .int j=>decide (i=j)
 | .str x, .str y=>decide (x=y)
 | _,_=>false
def kZ:List Th->List Th->Bool
 |[],[]=>true
 | x::xs,y::ys=>dY x y&&kZ xs ys
 | _,_=>false
end
def DpT:Nat->Th->Prop
 | 0, .tup _=>False
 | d+1, .tup ts=>ts.length<=1000/\∀t∈ts,DpT d t
 | _,_=>True
theorem G7:∀{xs ys:List Th},xs.length≠ys.length->kZ xs ys=false
 |[],[],h=>absurd rfl h
 |[],_::_,_=>by simp[kZ]
 | _::_,[],_=>by simp[kZ]
 | x::xs,y::ys,h=>by
   have:kZ xs ys=false:=G7 (by simpa using h)
   simp[kZ,this]
theorem G8:∀{xs ys:List Th},xs.length=ys.length->kZ xs ys=((List.zipWith dY xs ys).all id)
 |[],[],_=>by simp[kZ]
 | x::xs,y::ys,h=>by
   have:kZ xs ys=((List.zipWith dY xs ys).all id):=G8 (by simpa using h)
   simp[kZ,this]
def J3 (K:PySem.W.Frag) (d:Nat):Sp:=fun vs H Q _=>∃v t v' t',vs=[v,v']/\qp K H v t/\qp K H v' t'/\DpT d t/\∀H',aW H H'->Q (.bl (dY t t')) H'
theorem oF.at {K:PySem.W.Frag}{H:Hp}{vs:List V}{ts:List Th}{i:Nat}{v:V} (h:oF K H vs ts) (e:vs[i]? =some v):∃(hi:i<ts.length),qp K H v ts[i]:=by
 obtain⟨t,et,r⟩:=h.get e
 obtain⟨hi,rfl⟩:=List.getElem?_eq_some_iff.mp et
 exact⟨hi,r⟩
theorem Rp {α β γ:Type} (f:α->β->γ) {xs:List α}{ys:List β}{i:Nat} (h1:i<xs.length) (h2:i<ys.length):(List.zipWith f xs ys).take i++[f xs[i] ys[i]]=(List.zipWith f xs ys).take (i+1):=by
 rw[List.take_add_one,List.getElem?_eq_getElem (by simp;omega),List.getElem_zipWith];rfl
end RB
set_option maxRecDepth 100000
namespace RB
open PySem L2 PySem.Spec PyProof.Rows
theorem DpT.mono:∀{d e:Nat}{t:Th},d<=e->DpT d t->DpT e t
 | 0,0,_,_,h=>h
 | 0,e+1,t,_,h=>by cases t<;>first | trivial | exact h.elim
 | d+1,0,_,hl,_=>absurd hl (by omega)
 | d+1,e+1,t,hl,h=>by
   cases t with
   | tup ts=>exact⟨h.1,fun t ht=>DpT.mono (by omega) (h.2 t ht)⟩
   | _=>trivial
theorem yx {d:Nat}{x:Str}:DpT d (.str x):=by cases d<;>trivial
theorem WQ {d:Nat}{i:Int}:DpT d (.int i):=by cases d<;>trivial
theorem R.dpT:∀(r:R),r.Lh->DpT (r.depth+1) r.gb
 | .num n,_=>⟨by simp,fun t ht=>by
   have:t= .str "number"\/t= .int n:=by simpa using ht
   rcases this with rfl | rfl<;>first | exact yx | exact WQ⟩
 | .rd x,_=>⟨by simp,fun t ht=>by
   have:t= .str "read"\/t= .str x:=by simpa using ht
   rcases this with rfl | rfl<;>exact yx⟩
 | .bin op a b,h=>⟨by simp,fun t ht=>by
   have:t= .str op.word\/t=a.gb\/t=b.gb:=by simpa using ht
   have hd:(R.bin op a b).depth=max a.depth b.depth+1:=rfl
   rcases this with rfl | rfl | rfl
   ·exact yx
   ·exact(R.dpT a h.1).mono (by omega)
   ·exact(R.dpT b h.2).mono (by omega)⟩
 | .pick a b c,h=>⟨by simp,fun t ht=>by
   have:t= .str "pick"\/t=a.gb\/t=b.gb\/t=c.gb:=by simpa using ht
   have hd:(R.pick a b c).depth=max a.depth (max b.depth c.depth)+1:=rfl
   rcases this with rfl | rfl | rfl | rfl
   ·exact yx
   ·exact(R.dpT a h.1).mono (by omega)
   ·exact(R.dpT b h.2.1).mono (by omega)
   ·exact(R.dpT c h.2.2).mono (by omega)⟩
 | .cho a ns,h=>⟨by simp,fun t ht=>by
   have:t= .str "choose"\/t=a.gb\/t= .tup (ns.map Th.str):=by simpa using ht
   have hd:(R.cho a ns).depth=a.depth+1:=rfl
   rcases this with rfl | rfl | rfl
   ·exact yx
   ·exact(R.dpT a h.1).mono (by omega)
   ·refine⟨by have:=h.2;simp at *;omega,fun t ht=> ?_⟩
    obtain⟨x,_,rfl⟩:=List.mem_map.mp ht
    exact yx⟩
end RB
set_option maxRecDepth 100000
namespace RB
open PySem L2 PySem.Spec PyProof.Rows
mutual
theorem Lp:∀{t u:Th},dY t u=true->t=u
 | .tup xs, .tup ys,h=>by rw[dY] at h;rw[Ju h]
 | .int i, .int j,h=>by rw[dY] at h;rw[of_decide_eq_true h]
 | .str x, .str y,h=>by rw[dY] at h;rw[of_decide_eq_true h]
 | .tup _, .non,h=>by simp[dY] at h
 | .tup _, .bl _,h=>by simp[dY] at h
 | .tup _, .int _,h=>by simp[dY] at h
 | .tup _, .str _,h=>by simp[dY] at h
 | .tup _, .oth _,h=>by simp[dY] at h
 | .int _, .non,h=>by simp[dY] at h
 | .int _, .bl _,h=>by simp[dY] at h
 | .int _, .tup _,h=>by simp[dY] at h
 | .int _, .str _,h=>by simp[dY] at h
 | .int _, .oth _,h=>by simp[dY] at h
 | .str _, .non,h=>by simp[dY] at h
 | .str _, .bl _,h=>by simp[dY] at h
 | .str _, .tup _,h=>by simp[dY] at h
 | .str _, .int _,h=>by simp[dY] at h
 | .str _, .oth _,h=>by simp[dY] at h
 | .non,u,h=>by simp[dY] at h
 | .bl _,u,h=>by simp[dY] at h
 | .oth _,u,h=>by simp[dY] at h
theorem Ju:∀{ts us:List Th},kZ ts us=true->ts=us
 |[],[],_=>rfl
 | x::xs,y::ys,h=>by
   rw[kZ,Bool.and_eq_true] at h
   rw[Lp h.1,Ju h.2]
 |[],_::_,h=>by simp[kZ] at h
 | _::_,[],h=>by simp[kZ] at h
end
inductive PlT:Th->Prop where
 | int (i:Int):PlT (.int i)
 | str (x:Str):PlT (.str x)
 | tup {ts:List Th} (h:∀t∈ts,PlT t):PlT (.tup ts)
theorem Ez:∀{ts:List Th},(∀t∈ts,dY t t=true)->kZ ts ts=true
 |[],_=>by simp[kZ]
 | x::xs,h=>by
   rw[kZ,h x (by simp),Ez fun t ht=>h t (by simp[ht])];rfl
theorem PlT.refl {t:Th} (h:PlT t):dY t t=true:=by
 induction h with
 | int i=>simp[dY]
 | str x=>simp[dY]
 | tup h ih=>rw[dY];exact Ez ih
theorem R.plT:∀(r:R),PlT r.gb
 | .num n=> .tup fun t ht=>by
   have:t= .str "number"\/t= .int n:=by simpa using ht
   rcases this with rfl | rfl<;>constructor
 | .rd x=> .tup fun t ht=>by
   have:t= .str "read"\/t= .str x:=by simpa using ht
   rcases this with rfl | rfl<;>constructor
 | .bin op a b=> .tup fun t ht=>by
   have:t= .str op.word\/t=a.gb\/t=b.gb:=by simpa using ht
   rcases this with rfl | rfl | rfl
   ·constructor
   ·exact R.plT a
   ·exact R.plT b
 | .pick a b c=> .tup fun t ht=>by
   have:t= .str "pick"\/t=a.gb\/t=b.gb\/t=c.gb:=by simpa using ht
   rcases this with rfl | rfl | rfl | rfl
   ·constructor
   ·exact R.plT a
   ·exact R.plT b
   ·exact R.plT c
 | .cho a ns=> .tup fun t ht=>by
   have:t= .str "choose"\/t=a.gb\/t= .tup (ns.map Th.str):=by simpa using ht
   rcases this with rfl | rfl | rfl
   ·constructor
   ·exact R.plT a
   ·refine .tup fun t ht=> ?_
    obtain⟨x,_,rfl⟩:=List.mem_map.mp ht
    constructor
theorem Oa:∀{o o':Op},o.word=o'.word->o=o':=by
 intro o o' h;cases o<;>cases o'<;>first | rfl | exact absurd h (by decide)
theorem Jv (o:Op):o.word≠"choose":=by cases o<;>decide
theorem R.zW:∀{r s:R},r.gb=s.gb->r=s
 | .num n, .num m,h=>by simp[R.gb] at h;rw[h]
 | .rd x, .rd y,h=>by simp[R.gb] at h;rw[h]
 | .bin o a b, .bin o' a' b',h=>by
   simp only[R.gb,Th.tup.injEq,List.cons.injEq,Th.str.injEq,and_true] at h
   rw[Oa h.1,R.zW h.2.1,R.zW h.2.2]
 | .pick a b c, .pick a' b' c',h=>by
   simp only[R.gb,Th.tup.injEq,List.cons.injEq,and_true,true_and] at h
   rw[R.zW h.1,R.zW h.2.1,R.zW h.2.2]
 | .cho a ns, .cho a' ms,h=>by
   simp only[R.gb,Th.tup.injEq,List.cons.injEq,and_true,true_and] at h
   rw[R.zW h.1,(List.map_inj_right (fun x y e=>by cases e;rfl)).mp h.2]
 | .num n, .rd y,h=>by simp[R.gb] at h
 | .num n, .bin _ _ _,h=>by simp[R.gb] at h
 | .num n, .pick _ _ _,h=>by simp[R.gb] at h
 | .num n, .cho _ _,h=>by simp[R.gb] at h
 | .rd n, .num y,h=>by simp[R.gb] at h
 | .rd n, .bin _ _ _,h=>by simp[R.gb] at h
 | .rd n, .pick _ _ _,h=>by simp[R.gb] at h
 | .rd n, .cho _ _,h=>by simp[R.gb] at h
 | .bin _ _ _, .num y,h=>by simp[R.gb] at h
 | .bin _ _ _, .rd y,h=>by simp[R.gb] at h
 | .bin _ _ _, .pick _ _ _,h=>by simp[R.gb] at h
 | .bin o _ _, .cho _ _,h=>by
   simp only[R.gb,Th.tup.injEq,List.cons.injEq,Th.str.injEq,and_true] at h
   exact absurd h.1 (Jv o)
 | .pick _ _ _, .num y,h=>by simp[R.gb] at h
 | .pick _ _ _, .rd y,h=>by simp[R.gb] at h
 | .pick _ _ _, .bin _ _ _,h=>by simp[R.gb] at h
 | .pick _ _ _, .cho _ _,h=>by simp[R.gb] at h
 | .cho _ _, .num y,h=>by simp[R.gb] at h
 | .cho _ _, .rd y,h=>by simp[R.gb] at h
 | .cho _ _, .bin o _ _,h=>by
   simp only[R.gb,Th.tup.injEq,List.cons.injEq,Th.str.injEq,and_true] at h
   exact absurd h.1.symm (Jv o)
 | .cho _ _, .pick _ _ _,h=>by simp[R.gb] at h
theorem WR {r s:R} (e:r=s):dY r.gb s.gb=true:=by rw[e];exact s.plT.refl
theorem WT {r s:R} (e:r≠s):dY r.gb s.gb=false:=by
 cases h:dY r.gb s.gb with
 | false=>rfl
 | true=>exact absurd (R.zW (Lp h)) e
end RB
set_option maxRecDepth 100000
namespace L2
open PySem PySem.Spec PyProof.Rows
end L2
set_option maxRecDepth 100000
namespace RB
open PySem L2 PySem.Spec PyProof.Rows
theorem m8:∀{r:R},r.Good->r.Lh
 | .num _,_=>trivial
 | .rd x,h=>⟨h.2.1,fun c hc=>by have:=h.2.2 c hc;unfold Py at this;omega⟩
 | .bin _ a b,h=>⟨m8 h.1,m8 h.2⟩
 | .pick a b c,h=>⟨m8 h.1,m8 h.2.1,m8 h.2.2⟩
 | .cho a ns,h=>⟨m8 h.1,h.2⟩
end RB
set_option maxRecDepth 100000
namespace RB
open PySem L2 PySem.Spec PyProof.Rows
end RB
set_option maxRecDepth 100000
namespace RB
open PySem L2 PySem.Spec PyProof.Rows
end RB
set_option maxRecDepth 100000
namespace RB
open PySem L2 PySem.Spec PyProof.Rows
end RB
set_option maxRecDepth 100000
namespace L2
open PySem PySem.Spec PyProof.Rows RB
section
variable {prog:Program}{w:World}{A:Around}{E:Value->Shared->Prop}{s:Shared}
end
end L2
namespace RB
open PySem L2 PySem.Spec PyProof.Rows
end RB
set_option maxRecDepth 100000
namespace L2
open PySem PySem.Spec PyProof.Rows RB
theorem Ob {P:Program}{w:World} (a b:Addr) (x1 x2 y1 y2:Value) (n m:Nat) (d1 d2:Option Addr) (t1 t2:Array (Option Value)):
 MeetsIn P w (Builtin.«tuple.__eq__» ⟨[.ref a, .ref b],[]⟩)
  (fun A R s=>s.heap.get? a=some {cls:= .type "tuple",dict:=d1,data:= .seq #[x1,x2] n,slots:=t1}/\s.heap.get? b=some {cls:= .type "tuple",dict:=d2,data:= .seq #[y1,y2] m,slots:=t2}/\
    yH P w A.in1 s x1 y1/\yH P w A.in1 s x2 y2/\R (.ok (.ret (.bool true))) s):=by
 intro A R s z
 obtain⟨hp,g,d,tk,os⟩:=s
 obtain⟨z1,z2,e1,e2,z⟩:=z
 have f2:=AutoSeq1.sub_tuple_tuple
 wp_walk using AutoSeq1.wpAny_loadPart' z1,AutoSeq1.wpAny_loadPart' z2,wpAny_forIn_list _ (fun rest c s'=>c.1=none/\s'=⟨hp,g,d,tk,os⟩/\(rest=[(x1,y1),(x2,y2)]\/rest=[(x2,y2)]\/rest=[])) _
 case turn=>
  rintro⟨y,x⟩ rest c s' ⟨hc,rfl,h⟩
  rcases h with h | h | h
  ·cases h
   refine wpAny_bind (e1 _ _ ?_)
   wp_walk
   exact⟨rfl,rfl, .inr (.inl rfl)⟩
  ·cases h
   refine wpAny_bind (e2 _ _ ?_)
   wp_walk
   exact⟨rfl,rfl, .inr (.inr rfl)⟩
  ·cases h
 case fin=>
  rintro⟨c1,c2⟩ s' ⟨hc,rfl,_⟩
  simp only at hc
  subst hc
  wp_walk
  first | exact z | exact⟨_,rfl,z⟩
 case h=>exact⟨rfl,rfl, .inl rfl⟩
theorem Oc {P:Program}{w:World}{A:Around}{s:Shared}{a b:Addr}{x1 x2 y1 y2:Value} (ha:IsTup s.heap a #[x1,x2]) (hb:IsTup s.heap b #[y1,y2]) (h1:yH P w A.in1 s x1 y1) (h2:yH P w A.in1 s x2 y2) (hu:A.units<cLine):yH P w A s (.ref a) (.ref b):=fun E Q q=>by
 by_cases hab:a=b
 ·subst hab;exact SeqAt.EqAt.same (.ref a) P w E Q q
 obtain⟨⟨c1,d1,dt1,t1⟩,hp,hc1,n,hd1⟩:=ha
 obtain⟨⟨c2,d2,dt2,t2⟩,hq,hc2,m,hd2⟩:=hb
 simp only at hc1 hd1 hc2 hd2
 subst hc1 hd1 hc2 hd2
 have hT:s.TypeIs (.ref a) "tuple":=⟨_,hp,rfl⟩
 unfold eqBool
 refine wpAny_holding (wpAny_ite_split (fun z=>absurd (by have:=eq_of_beq z;injection this) hab) fun _=>wpAny_bind ?_)
 refine wpAny_richCompare_same_room (op:= .Eq) hT ⟨_,hq,rfl⟩ F.slot_tuple_eq (call_meetsIn F.slot_tuple_eq hT F.entry_tuple_eq (F.args_tuple_eq_2 _ _) (Ob a b x1 x2 y1 y2 n m d1 d2 t1 t2) ⟨hp,hq,h1,h2, ?_⟩) hu
 exact⟨(fun x=>nomatch x),wpAny_truthy_bool q⟩
theorem J4 {X:Cx}{pins:List (Addr×Obj)}{s:Shared}{σ:St}{H:Hp}{A:Around}{x y:V}{z z':Value} (I:Inv X pins σ H s) (rz:RelV x z) (rz':RelV y z') (h:EqV H x y) (hu:A.units<cLine):yH X.prog X.w A s z z':=by
 rcases h with⟨e,pv⟩ | ⟨p,q',kvs,e3,e4,hp,hq,hpl⟩
 ·rw[<-e] at rz'
  exact yH.of (GQ pv rz rz')
 ·rw[e3] at rz
  rw[e4] at rz'
  cases rz
  cases rz'
  obtain⟨_,lo,va,ka,da⟩:=(show fH X.prog X.w H s.heap p (.dK kvs) from hp.ok I.hok)
  obtain⟨_,lo',vb,kb,db⟩:=(show fH X.prog X.w H s.heap q' (.dK kvs) from hq.ok I.hok)
  exact N5 lo lo' ka kb da db hpl hu
def ahC (H:Hp) (x y:V):Prop:=EqV H x y\/∃a b x1 x2 y1 y2,x= .ref a/\y= .ref b/\H a=some (.tup [x1,x2])/\H b=some (.tup [y1,y2])/\EqV H x1 y1/\EqV H x2 y2
end L2
set_option maxRecDepth 100000
namespace RB
open PySem L2 PySem.Spec PyProof.Rows
section
variable {p h hg hc h2 g2 c2 rcd r2 wd w2 hd:Addr}{o:Obj}{n:Nat}{gv:Kn}{rc:Rn}{kg kc kr kw:List (Key×V)}{rm:Rm}{H H':Hp}
theorem Bld.plG (h:Bld H kg kc n gv rc):∀q∈kg,wK q.2=true:=fun q hq=>by
 obtain⟨gs,cs,k,_,_⟩:=h.k
 obtain⟨i,hi⟩:=List.getElem?_of_mem hq
 obtain⟨x,ex,_⟩:=k.at (k:=q.1) (v:=q.2) hi
 have hv:=BW k (k:=q.1) (v:=q.2) hq
 rw[ex,h.g] at hv
 cases e:gv x with
 | none=>rw[e] at hv;cases hv
 | some u=>rw[e] at hv;rw[<-Option.some.inj hv];rfl
theorem Bld.plC (h:Bld H kg kc n gv rc):∀q∈kc,wK q.2=true:=fun q hq=>by
 obtain⟨gs,cs,_,k,_⟩:=h.k
 obtain⟨i,hi⟩:=List.getElem?_of_mem hq
 obtain⟨x,ex,_⟩:=k.at (k:=q.1) (v:=q.2) hi
 have hv:=BW k (k:=q.1) (v:=q.2) hq
 rw[ex] at hv
 cases e:rc x with
 | none=>rw[h.rn x e] at hv;cases hv
 | some u=>
   obtain⟨b,hb,_⟩:=h.r x u e
   rw[hb] at hv;rw[<-Option.some.inj hv];rfl
end
end RB
set_option maxRecDepth 100000
namespace RB
open PySem L2 PySem.Spec PyProof.Rows
theorem Ub {kn:Kn}{d:List Rdp} (h:Rows kn d) {x:Str}{v:Int} (hx:kn x=some v) (m:(x,v)∈d):tD d x v=d:=by
 unfold tD
 rw[if_pos (List.any_eq_true.mpr ⟨(x,v),m,by simp⟩)]
 have:∀p∈d,(if p.1=x then(p.1,v) else p)=p:=fun p hp=>by
  by_cases z:p.1=x
  ·rw[if_pos z]
   have:=h.s p hp
   rw[z,hx] at this
   rw[Option.some.inj this]
  ·rw[if_neg z]
 rw[List.map_congr_left this]
 exact List.map_id _
theorem Uc {kn:Kn}{d:List Rdp} (h:Rows kn d) {x:Str}{v:Int} (hx:kn x=some v) (m:(x,v)∉d):tD d x v=d++[(x,v)]:=by
 unfold tD
 rw[if_neg]
 intro z
 obtain⟨p,hp,e⟩:=List.any_eq_true.mp z
 have e:=of_decide_eq_true e
 have:=h.s p hp
 rw[e,hx] at this
 exact m (by rw[<-e,Option.some.inj this];exact hp)
def wL (kn:Kn) (r:R) (t:List Stp) (f:List Int) (d:List Rdp):Prop:=match ev kn r with
 | .inr v=>∃n us,StN kn n ⟨t++[.r r],f,d⟩ ⟨t,f++[v],d++us⟩/\o6 r (kn0.puts d) us v/\Rows kn (d++us)
 | .inl x=>∃n t' f' us,StN kn n ⟨t++[.r r],f,d⟩ ⟨t'++[.r (.rd x)],f',d++us⟩/\kn x=none/\Chn r (kn0.puts d) us/\ev (kn0.puts (d++us)) r= .inl x/\Rows kn (d++us)
theorem Rq {kn:Kn}{d:List Rdp} (h:Rows kn d) {x:Str} (hx:kn x=none):kn0.puts d x=none:=by
 cases e:kn0.puts d x with
 | none=>rfl
 | some u=>
   rcases BR e with z | z
   ·have:=h.s _ z
    rw[hx] at this;cases this
   ·cases z
theorem Lq {kn:Kn}{x:Str}{t:List Stp}{f:List Int}{d:List Rdp} (hd:Rows kn d):wL kn (.rd x) t f d:=by
 unfold wL
 show match look kn x with
  | .inr v=>_
  | .inl y=>_
 unfold look
 cases e:kn x with
 | none=>
   refine⟨0,t,f,[], ?_,e,trivial, ?_,by rw[List.append_nil];exact hd⟩
   ·rw[List.append_nil];exact .zero
   ·rw[List.append_nil]
    show look _ x=_
    unfold look
    rw[Rq hd e]
 | some v=>
   have hl:=hd.look e
   by_cases m:(x,v)∈d
   ·rw[if_pos m] at hl
    refine⟨1,[], .succ (.rd e) ?_,hl,by rw[List.append_nil];exact hd⟩
    rw[Ub hd e m,List.append_nil];exact .zero
   ·rw[if_neg m] at hl
    refine⟨1,[(x,v)], .succ (.rd e) ?_,hl.1,hl.2⟩
    rw[Uc hd e m];exact .zero
theorem G9 {kn:Kn}:∀(r:R),r.T3->∀t f d,Rows kn d->wL kn r t f d
 | .num n,_,t,f,d,hd=>⟨1,[], .succ .num (by rw[List.append_nil];exact .zero),Qd,by rw[List.append_nil];exact hd⟩
 | .rd x,_,t,f,d,hd=>Lq hd
 | .bin op a b,h,t,f,d,hd=>by
   have ua:∀kn' x,ev kn' a= .inl x->ev kn' (.bin op a b)= .inl x:=fun kn' x e=>by simp only[ev];rw[e]
   have ha:=G9 (kn:=kn) a h.1 (t++[.join op, .r b]) f d hd
   unfold wL at ha ⊢
   rw[List.append_assoc] at ha
   simp only[ev]
   cases ea:ev kn a with
   | inl x=>
     rw[ea] at ha
     obtain⟨n,t',f',us,s,hx,c,e,hr⟩:=ha
     exact⟨n+1,t',f',us, .succ .bin s,hx,c.up fun kn' x _ e=>ua kn' x e,ua _ _ e,hr⟩
   | inr u=>
     rw[ea] at ha
     obtain⟨n,us,s,g,hr⟩:=ha
     have hb:=G9 (kn:=kn) b h.2.1 (t++[.join op]) (f++[u]) (d++us) hr
     unfold wL at hb
     rw[List.append_assoc] at hb
     have ub:∀kn' x,Kn.Le ((kn0.puts d).puts us) kn'->ev kn' b= .inl x->ev kn' (.bin op a b)= .inl x:=fun kn' x l e=>by simp only[ev];rw[kO l g.e];simp only;rw[e]
     cases eb:ev kn b with
     | inl x=>
       rw[eb] at hb
       obtain⟨m,t',f',vs,s2,hx,c,e,hr2⟩:=hb
       rw[Kn.fK] at c
       rw[List.append_assoc] at s2 e hr2
       refine⟨n+m+1,t',f',us++vs, .succ .bin (s.add s2),hx,(g.c.up fun kn' x _ e=>ua kn' x e).app (c.up ub), ?_,hr2⟩
       refine ub _ _ ?_ e
       rw[Kn.fK,Kn.fK]
       exact c.le
     | inr v=>
       rw[eb] at hb
       obtain⟨m,vs,s2,g2,hr2⟩:=hb
       rw[Kn.fK] at g2
       rw[List.append_assoc] at s2 hr2
       refine⟨n+(m+1)+1,us++vs, .succ .bin (s.add (s2.add (.succ ?_ .zero))),BP g g2,hr2⟩
       rw[List.append_assoc]
       exact .join fun z=> .inr (by
        obtain⟨k,rfl,h1,h2⟩:=h.2.2 z
        cases eb
        omega)
 | .pick a b c,h,t,f,d,hd=>by
   have ua:∀kn' x,ev kn' a= .inl x->ev kn' (.pick a b c)= .inl x:=fun kn' x e=>by simp only[ev];rw[e]
   have ha:=G9 (kn:=kn) a h.1 (t++[.branch b c]) f d hd
   unfold wL at ha ⊢
   rw[List.append_assoc] at ha
   simp only[ev]
   cases ea:ev kn a with
   | inl x=>
     rw[ea] at ha
     obtain⟨n,t',f',us,s,hx,c,e,hr⟩:=ha
     exact⟨n+1,t',f',us, .succ .pick s,hx,c.up fun kn' x _ e=>ua kn' x e,ua _ _ e,hr⟩
   | inr u=>
     rw[ea] at ha
     obtain⟨n,us,s,g,hr⟩:=ha
     have hb:wL kn (if u>0 then b else c) t f (d++us):=by
      split
      ·exact G9 b h.2.1 t f _ hr
      ·exact G9 c h.2.2 t f _ hr
     unfold wL at hb
     simp only
     have e:(if u>0 then ev kn b else ev kn c)=ev kn (if u>0 then b else c):=by split<;>rfl
     rw[e]
     have up:∀kn':Kn,Kn.Le ((kn0.puts d).puts us) kn'->ev kn' (.pick a b c)=ev kn' (if u>0 then b else c):=fun kn' l=>by
      simp only[ev];rw[kO l g.e];simp only;split<;>rfl
     cases eb:ev kn (if u>0 then b else c) with
     | inl x=>
       rw[eb] at hb
       obtain⟨m,t',f',vs,s2,hx,c2,e2,hr2⟩:=hb
       rw[Kn.fK] at c2
       rw[List.append_assoc] at s2 e2 hr2
       refine⟨n+(m+1)+1,t',f',us++vs, .succ .pick (s.add (.succ .branch s2)),hx,(g.c.up fun kn' x _ e=>ua kn' x e).app (c2.up fun kn' x l z=>by rw[up kn' l];exact z), ?_,hr2⟩
       rw[<-e2]
       have hl:=c2.le
       have:=up (kn0.puts (d++(us++vs))) (by rw[Kn.fK,Kn.fK];exact hl)
       simp only[ev] at this
       exact this
     | inr v=>
       rw[eb] at hb
       obtain⟨m,vs,s2,g2,hr2⟩:=hb
       rw[Kn.fK] at g2
       rw[List.append_assoc] at s2 hr2
       exact⟨n+(m+1)+1,us++vs, .succ .pick (s.add (.succ .branch s2)),G5 g g2,hr2⟩
 | .cho a ns,h,t,f,d,hd=>by
   have ua:∀kn' x,ev kn' a= .inl x->ev kn' (.cho a ns)= .inl x:=fun kn' x e=>by simp only[ev];rw[e]
   have ha:=G9 (kn:=kn) a h.1 (t++[.among ns]) f d hd
   unfold wL at ha ⊢
   rw[List.append_assoc] at ha
   simp only[ev]
   cases ea:ev kn a with
   | inl x=>
     rw[ea] at ha
     obtain⟨n,t',f',us,s,hx,c,e,hr⟩:=ha
     exact⟨n+1,t',f',us, .succ .cho s,hx,c.up fun kn' x _ e=>ua kn' x e,ua _ _ e,hr⟩
   | inr u=>
     rw[ea] at ha
     obtain⟨n,us,s,g,hr⟩:=ha
     obtain⟨y,ey⟩:=Dz h.2 u
     simp only
     rw[ey]
     have hb:=Lq (kn:=kn) (x:=y) (t:=t) (f:=f) hr
     unfold wL at hb
     simp only[ev] at hb
     simp only
     have up:∀kn':Kn,Kn.Le ((kn0.puts d).puts us) kn'->ev kn' (.cho a ns)=ev kn' (.rd y):=fun kn' l=>by
      simp only[ev];rw[kO l g.e];simp only;rw[ey]
     cases eb:look kn y with
     | inl x=>
       rw[eb] at hb
       obtain⟨m,t',f',vs,s2,hx,c2,e2,hr2⟩:=hb
       rw[Kn.fK] at c2
       rw[List.append_assoc] at s2 e2 hr2
       refine⟨n+(m+1)+1,t',f',us++vs, .succ .cho (s.add (.succ (.among ey) s2)),hx,(g.c.up fun kn' x _ e=>ua kn' x e).app (c2.up fun kn' x l z=>by rw[up kn' l];exact z), ?_,hr2⟩
       have hl:=c2.le
       have:=up (kn0.puts (d++(us++vs))) (by rw[Kn.fK,Kn.fK];exact hl)
       exact this.trans e2
     | inr v=>
       rw[eb] at hb
       obtain⟨m,vs,s2,g2,hr2⟩:=hb
       rw[Kn.fK] at g2
       rw[List.append_assoc] at s2 hr2
       exact⟨n+(m+1)+1,us++vs, .succ .cho (s.add (.succ (.among ey) s2)),Qe g ey g2,hr2⟩
def vV (kn:Kn) (r:R) (x:Str):Prop:=∃ps,Chn r kn0 ps/\ev (kn0.puts ps) r= .inl x/\Rows kn ps
def Goes (kn:Kn) (r:R) (c:Cf):Prop:=match ev kn r with
 | .inr v=>c.todo=[]/\c.found=[v]/\o6 r kn0 c.rds v/\Rows kn c.rds
 | .inl x=>(∃t,c.todo=t++[.r (.rd x)])/\kn x=none/\vV kn r x
theorem Ud {kn:Kn}:Rows kn []:=⟨by simp,by simp⟩
theorem Reach.adR {kn:Kn}{r:R} (hr:r.T3) {c:Cf} (g:Reach kn r c):∃n c',StN kn n c c'/\Halt kn c'/\Reach kn r c'/\Goes kn r c':=by
 have h:=G9 (kn:=kn) r hr [] [] [] Ud
 unfold wL at h
 unfold Goes
 obtain⟨m,g⟩:=g
 cases e:ev kn r with
 | inr v=>
   rw[e] at h
   obtain⟨n,us,s,gg,hr⟩:=h
   obtain⟨k,t⟩:=g.rest s (.inl rfl)
   exact⟨k,_,t, .inl rfl,⟨n,s⟩,rfl,rfl,gg,hr⟩
 | inl x=>
   rw[e] at h
   obtain⟨n,t',f',us,s,hx,c1,e1,hr⟩:=h
   have hh:Halt kn ⟨t'++[.r (.rd x)],f',[]++us⟩:= .inr ⟨t',x,rfl,hx⟩
   obtain⟨k,t⟩:=g.rest s hh
   exact⟨k,_,t,hh,⟨n,s⟩,⟨t',rfl⟩,hx,us,c1,e1,hr⟩
theorem um:∀r:R,1<=r.depth
 | .num _=>Nat.le_refl _
 | .rd _=>Nat.le_refl _
 | .bin _ a b=>by show 1<=max a.depth b.depth+1;omega
 | .pick a b c=>by show 1<=max a.depth (max b.depth c.depth)+1;omega
 | .cho a _=>by show 1<=a.depth+1;omega
theorem Hg:∀(r:R) (d:Nat),r.depth<=d->wR r+2<=3 ^ d
 | r,0,h=>absurd (um r) (by omega)
 | .num _,d+1,_=>by
   have:1<=3 ^ d:=Nat.one_le_pow _ _ (by decide)
   show 1+2<=3 ^(d+1)
   rw[Nat.pow_succ];omega
 | .rd _,d+1,_=>by
   have:1<=3 ^ d:=Nat.one_le_pow _ _ (by decide)
   show 1+2<=3 ^(d+1)
   rw[Nat.pow_succ];omega
 | .bin _ a b,d+1,h=>by
   have h:max a.depth b.depth+1<=d+1:=h
   have h1:=Hg a d (by omega)
   have h2:=Hg b d (by omega)
   show wR a+wR b+2+2<=3 ^(d+1)
   rw[Nat.pow_succ];omega
 | .pick a b c,d+1,h=>by
   have h:max a.depth (max b.depth c.depth)+1<=d+1:=h
   have h1:=Hg a d (by omega)
   have h2:=Hg b d (by omega)
   have h3:=Hg c d (by omega)
   show wR a+wR b+wR c+2+2<=3 ^(d+1)
   rw[Nat.pow_succ];omega
 | .cho a _,d+1,h=>by
   have h:a.depth+1<=d+1:=h
   have h1:=Hg a d (by omega)
   show wR a+3+2<=3 ^(d+1)
   rw[Nat.pow_succ];omega
end RB
set_option maxRecDepth 100000
namespace L2
open PySem PySem.Spec PyProof.Rows
theorem J5 {X:Cx}{e:Expr}{f:Str}{pos:Pos}{ta:TE}{K:PySem.W.Frag} (eK:X.K=K) (he:QE X e ta) (hb:attributeBase e f X.env (eval e X.env)=eval e X.env:=by rfl):QE X (.Attribute e f pos) (aan K ta f):=eK▸bU he hb
end L2
namespace RB
open PySem L2 PySem.Spec PyProof.Rows
structure NrC (K:PySem.W.Frag) (C:Addr):Prop where
 cl:Cls K C
 nB:jE K C "by_name"
def nrF (rcd:Addr):List (Str×V):=[("by_name", .ref rcd)]
def Lr (C:Addr):Sp:=fun vs H Q _=>∃(a dx rcd:Addr),vs=[.ref a, .ref rcd]/\H a=some (.ins C dx [])/\∀H',But [a] H H'->H' a=some (.ins C dx (nrF rcd))->Q .non H'
def Jw (rm:Rm) (y:Str) (r:R) (kn:Kn):Prop:=∀r' ps v,rm y=some (r',ps,v)->r'≠r\/∃p∈ps,∃u,kn p.1=some u/\u≠p.2
theorem Jw.le {rm:Rm}{y:Str}{r:R}{kn kn':Kn} (h:Jw rm y r kn) (l:Kn.Le kn kn'):Jw rm y r kn':=fun r' ps v e=>(h r' ps v e).imp id fun⟨p,hp,u,hu,hn⟩=>⟨p,hp,u,l _ _ hu,hn⟩
def Ls (H:Hp) (fl:Addr) (kr:List (Key×V)) (rm:Rm) (y:Str) (r:R) (kn:Kn) (k:Nat):Prop:=
 (∃rb ps v,H fl=some (.lst [.ref rb])/\cO kr (.inr y)=some (.ref rb)/\rm y=some (r,ps,v)/\k<=ps.length/\∀(j:Nat) p,j<k->ps[j]? =some p->kn p.1=some p.2)\/(H fl=some (.lst [])/\Jw rm y r kn)
theorem Ls.le {H:Hp}{fl:Addr}{kr:List (Key×V)}{rm:Rm}{y:Str}{r:R}{kn kn':Kn}{k:Nat} (h:Ls H fl kr rm y r kn k) (l:Kn.Le kn kn'):Ls H fl kr rm y r kn' k:=
 h.imp (fun⟨rb,ps,v,a,b,c,d,e⟩=>⟨rb,ps,v,a,b,c,d,fun j p hj hp=>l _ _ (e j p hj hp)⟩) fun⟨a,b⟩=>⟨a,b.le l⟩
theorem Ls.at {H H':Hp}{fl:Addr}{kr:List (Key×V)}{rm:Rm}{y:Str}{r:R}{kn:Kn}{k:Nat} (h:Ls H fl kr rm y r kn k) (f:∀o,H fl=some o->H' fl=some o):Ls H' fl kr rm y r kn k:=
 h.imp (fun⟨rb,ps,v,a,b⟩=>⟨rb,ps,v,f _ a,b⟩) fun⟨a,b⟩=>⟨f _ a,b⟩
def Ue (C:Addr):Sp:=fun vs H Q _=>∃(o dx rcd b:Addr) (kr:List (Key×V)) (n:Nat) (rm:Rm) (y:Str) (r:R),vs=[.ref o, .str y, .ref b]/\H o=some (.ins C dx (nrF rcd))/\H rcd=some (.dK kr)/\pQ H kr n rm/\IsR H b r/\r.Good/\r.depth<=8/\
 ∀fl H',aW H H'->H fl=none->(∀kn,Ls H' fl kr rm y r kn 0)->Q (.ref fl) H'
def YT:Sp:=fun vs H Q _=>(∃v w,vs=[v,w])/\Q .non H
structure SeD where
 s:Addr
 dx:Addr
 b:Addr
 fl:Addr
 rk:Addr
 dxr:Addr
 a1:Addr
 a2:Addr
 a3:Addr
 k:Nat
def SeD.ft (A:SeD):List Addr:=[A.s,A.fl,A.rk,A.a1,A.a2,A.a3]
def seF (b fl:Addr) (k:Nat) (rk:Addr):List (Str×V):=[("recipe", .ref b),("fitting", .ref fl),("place", .int k),("reckoning", .ref rk)]
structure SeC (K:PySem.W.Frag) (C:Addr):Prop where
 cl:Cls K C
 nR:jE K C "recipe"
 nF:jE K C "fitting"
 nP:jE K C "place"
 nK:jE K C "reckoning"
theorem yz (b fl:Addr) (k:Nat) (rk:Addr):List.lookup ("recipe":Str) (seF b fl k rk)=some (.ref b):=rfl
theorem vm (b fl:Addr) (k:Nat) (rk:Addr):List.lookup ("fitting":Str) (seF b fl k rk)=some (.ref fl):=rfl
theorem yC (b fl:Addr) (k:Nat) (rk:Addr):List.lookup ("place":Str) (seF b fl k rk)=some (.int k):=rfl
theorem qw (b fl:Addr) (k:Nat) (rk:Addr):List.lookup ("reckoning":Str) (seF b fl k rk)=some (.ref rk):=rfl
theorem ir (b fl:Addr) (k:Nat) (rk:Addr):List.lookup ("lacking":Str) (seF b fl k rk)=none/\List.lookup ("fit_on":Str) (seF b fl k rk)=none/\List.lookup ("was_reckoned":Str) (seF b fl k rk)=none/\List.lookup ("new_record":Str) (seF b fl k rk)=none:=⟨rfl,rfl,rfl,rfl⟩
structure vo (CS CR:Addr) (kr:List (Key×V)) (rm:Rm) (y:Str) (r:R) (kn:Kn) (A:SeD) (H:Hp):Prop where
 e:H A.s=some (.ins CS A.dx (seF A.b A.fl A.k A.rk))
 hr:IsR H A.b r
 c:∃c,RcAt H A.rk CR A.dxr A.a1 A.a2 A.a3 c/\Reach kn r c
 f:Ls H A.fl kr rm y r kn A.k
 n1:A.s≠A.rk
 n2:A.fl≠A.a1
 n3:A.fl≠A.a2
theorem RcAt.move {S:List Addr}{H H':Hp}{a C dx a1 a2 a3:Addr}{c:Cf} (h:RcAt H a C dx a1 a2 a3 c) (b:But S H H') (t:mK H H') (hs:∀z∈[a,a1,a2,a3],z∉S):RcAt H' a C dx a1 a2 a3 c:=by
 obtain⟨e,⟨ws,e1,hw⟩,e2,e3,ne,w⟩:=h
 exact⟨b _ _ (hs _ (by simp)) e,⟨ws,b _ _ (hs _ (by simp)) e1,hw.tups t⟩,b _ _ (hs _ (by simp)) e2,b _ _ (hs _ (by simp)) e3,ne,w⟩
section
variable {CS CR:Addr}{kr:List (Key×V)}{rm:Rm}{y:Str}{r:R}{kn kn':Kn}{A:SeD}{H H':Hp}
theorem vo.move {S:List Addr} (h:vo CS CR kr rm y r kn A H) (b:But S H H') (t:mK H H') (hs:∀z∈A.ft,z∉S):vo CS CR kr rm y r kn A H':=by
 obtain⟨c,h1,h2⟩:=h.c
 exact⟨b _ _ (hs _ (by simp[SeD.ft])) h.e,h.hr.tups t,⟨c,h1.move b t fun z hz=>hs z (by
  have:z=A.rk\/z=A.a1\/z=A.a2\/z=A.a3:=by simpa using hz
  unfold SeD.ft
  rcases this with rfl | rfl | rfl | rfl<;>simp),h2⟩,h.f.at fun o e=>b _ _ (hs _ (by simp[SeD.ft])) e,h.n1,h.n2,h.n3⟩
theorem vo.le (h:vo CS CR kr rm y r kn A H) (l:Kn.Le kn kn'):vo CS CR kr rm y r kn' A H:=by
 obtain⟨c,h1,h2⟩:=h.c
 exact⟨h.e,h.hr,⟨c,h1,h2.le l⟩,h.f.le l,h.n1,h.n2,h.n3⟩
def Ug (H:Hp) (CR:Addr) (kr:List (Key×V)) (rm:Rm) (y:Str) (r:R) (kn:Kn) (A:SeD):Prop:=
 (∃rb ps v,H A.fl=some (.lst [.ref rb])/\cO kr (.inr y)=some (.ref rb)/\rm y=some (r,ps,v)/\∀p∈ps,kn p.1=some p.2)\/
 (H A.fl=some (.lst [])/\Jw rm y r kn/\∃c v,RcAt H A.rk CR A.dxr A.a1 A.a2 A.a3 c/\c.found=[v]/\o6 r kn0 c.rds v/\Rows kn c.rds)
end
def Lw (CS CR:Addr):Sp:=fun vs H Q _=>∃(a dx b fl:Addr) (r:R),vs=[.ref a, .ref b, .ref fl]/\H a=some (.ins CS dx [])/\IsR H b r/\wR r<=4000/\
 ∀(A:SeD) H',But [a] H H'->A.s=a->A.b=b->A.fl=fl->A.k=0->H' a=some (.ins CS A.dx (seF b fl 0 A.rk))->RcAt H' A.rk CR A.dxr A.a1 A.a2 A.a3 ⟨[.r r],[],[]⟩->(∀z∈[A.rk,A.a1,A.a2,A.a3],H z=none)->Q .non H'
def YW (CS:Addr):Sp:=fun vs H Q _=>∃(s dx b fl rk rb br l:Addr) (k:Nat) (as:List Addr) (ps:List Rdp) (v w u:Int) (x:Str),vs=[.ref s, .int w]/\H s=some (.ins CS dx (seF b fl k rk))/\H fl=some (.lst [.ref rb])/\H rb=some (.tup [.ref br, .ref l, .int v])/\H l=some (.lst (as.map V.ref))/\iJ H as ps/\ps[k]? =some (x,u)/\
 ∀fl' H',But [s] H H'->H fl'=none->H' s=some (.ins CS dx (seF b fl' (k+1) rk))->H' fl'=some (.lst (if u=w then [.ref rb] else []))->Q .non H'
def Lx (CS CR:Addr):Sp:=fun vs H Q _=>∃(A:SeD) (d:Addr) (kr:List (Key×V)) (n:Nat) (rm:Rm) (y:Str) (r:R) (kn:Kn),vs=[.ref A.s, .ref d]/\vo CS CR kr rm y r kn A H/\pQ H kr n rm/\n<=17/\TF H d kn/\d≠A.a3/\r.T3/\
 ∀(A':SeD) H',But A.ft H H'->A'.s=A.s->A'.b=A.b->A'.rk=A.rk->A'.a1=A.a1->A'.a2=A.a2->A'.a3=A.a3->(A'.fl=A.fl\/H A'.fl=none)->vo CS CR kr rm y r kn A' H'->
  (Ug H' CR kr rm y r kn A'->Q .non H')/\∀x,kn x=none->vV kn r x->Q (.str x) H'
theorem Ly {r:R}:∀{ps:List Rdp}{kn:Kn}{k:Nat}{x:Str}{u:Int},Chn r kn ps->ps[k]? =some (x,u)->Chn r kn (ps.take k)/\ev (kn.puts (ps.take k)) r= .inl x
 |[],_,_,_,_,_,h=>by simp at h
 | p::ps,kn,0,x,u,c,h=>by cases h;exact⟨trivial,c.1⟩
 | p::ps,kn,k+1,x,u,c,h=>by
   obtain⟨h1,h2⟩:=Ly (ps:=ps) (k:=k) c.2 (by simpa using h)
   exact⟨⟨c.1,h1⟩,h2⟩
theorem Hh {r:R}{ps:List Rdp}{kn:Kn}{k:Nat}{x:Str}{u:Int} (c:Chn r kn0 ps) (h:ps[k]? =some (x,u)) (he:∀(j:Nat) p,j<k->ps[j]? =some p->kn p.1=some p.2):vV kn r x:=by
 obtain⟨h1,h2⟩:=Ly c h
 refine⟨ps.take k,h1,h2,fun p hp=> ?_, ?_⟩
 ·obtain⟨j,hj⟩:=List.getElem?_of_mem hp
  rw[List.getElem?_take] at hj
  split at hj
  ·exact he j p (by assumption) hj
  ·cases hj
 ·rw[List.map_take]
  exact((yw c).2).sublist (List.take_sublist _ _)
theorem Lz {H:Hp}:∀{as:List Addr}{ps:List Rdp},as.length=ps.length->(∀(j:Nat) (b:Addr) (p:Rdp),as[j]? =some b->ps[j]? =some p->H b=some (.tup (rdV p)))->iJ H as ps
 |[],[],_,_=> .nil
 | a::as,p::ps,hl,h=> .cons (h 0 a p rfl rfl) (Lz (by simpa using hl) fun j b q h1 h2=>h (j+1) b q (by simpa using h1) (by simpa using h2))
 |[],_::_,hl,_=>by simp at hl
 | _::_,[],hl,_=>by simp at hl
def Rcd (rm:Rm) (y:Str) (r:R) (kn:Kn) (ps:List Rdp) (v:Int) (made:Bool):Prop:=
 o6 r kn0 ps v/\Rows kn ps/\if made=true then Jw rm y r kn else rm y=some (r,ps,v)
def Uh (CS CR:Addr):Sp:=fun vs H Q _=>∃(A:SeD) (kr:List (Key×V)) (n:Nat) (rm:Rm) (y:Str) (r:R) (kn:Kn),vs=[.ref A.s]/\H A.s=some (.ins CS A.dx (seF A.b A.fl A.k A.rk))/\pQ H kr n rm/\n<=17/\Ug H CR kr rm y r kn A/\
 ∀(rb l:Addr) (as:List Addr) (ps:List Rdp) (v:Int) (made:Bool) (H':Hp),aW H H'->H' rb=some (.tup [.ref A.b, .ref l, .int v])->H l=none->H' l=some (.lst (as.map V.ref))->iJ H' as ps->Rcd rm y r kn ps v made->(∃xs,H' A.fl=some (.lst xs)/\decide (xs.length=0)=made)->Q (.ref rb) H'
end RB
set_option maxRecDepth 100000
namespace L2
open PySem PySem.Spec PyProof.Rows RB
theorem LC {P:Program}{w:World} (d:Addr) (od:Obj) (hl:(d==sysModules)=false) (hc:od.cls= .type "dict"):
 MeetsIn P w (Builtin.«dict.items» ⟨[.ref d],[]⟩)
  (fun A R s=>s.heap.get? d=some od/\R (.ok (.ret (.ref s.heap.objs.size))) ⟨s.heap.push {cls:= .type "dict_items",data:= .fields #[.ref d]},s.gens,s.drawn,s.toks,s.os⟩):=by
 intro A R s z
 obtain⟨hp,g,dr,tk,os⟩:=s
 obtain⟨z1,z⟩:=z
 obtain⟨c,dd,da,sl⟩:=od
 simp only at hc
 subst hc
 wp_walk
 exact z
theorem Inv.more {X:Cx}{pins:List (Addr×Obj)}{σ:St}{H H':Hp}{s:Shared}{h':Heap}{t':Nat} (I:Inv X pins σ H s) (k:∀b u,s.heap.get? b=some u->h'.get? b=some u) (sm:aW H H')
 (new:∀a o,H' a=some o->H a=some o\/(s.heap.objs.size<=a/\fH X.prog X.w H' h' a o)):Inv X pins σ H' {s with heap:=h',toks:=t'}:=by
 refine I.un ⟨fun b u q _ _ _=>k b u q,fun b u q _ _ _=>⟨u.slots,k b u q⟩,fun b u q n _=> ?_,fun b u q _=>⟨u,k b u q⟩,fun b xs q=>sm _ _ q,fun b u xs q=>sm _ _ q,fun b ps q=>⟨#[],by rw[sm _ _ q];simp⟩⟩ fun a o e=> ?_
 ·cases e:H' b with
  | none=>rfl
  | some o=>
    rcases new b o e with z | ⟨z,_⟩
    ·rw[n] at z;cases z
    ·exact absurd (Nat.lt_of_lt_of_le (Heap.lt_size q) z) (Nat.lt_irrefl _)
 ·rcases new a o e with z | ⟨_,z⟩
  ·exact(I.hok a o z).stay (fun c v _ q=>k c v q) (fun c q=>sm _ _ q) fun c xs q=>sm _ _ q
  ·exact z
def mkH:List Addr->List (Key×V)->Hp->Hp
 | a::as,kv::kvs,H=>upd (mkH as kvs H) a (.tup [kV kv.1,kv.2])
 | _,_,H=>H
theorem Qi:∀{as:List Addr}{kvs:List (Key×V)}{H:Hp}{b:Addr},b∉as->mkH as kvs H b=H b
 |[],_,_,_,_=>by cases ‹List (Key×V)›<;>rfl
 | a::as,[],_,_,_=>rfl
 | a::as,kv::kvs,H,b,h=>by
   show upd (mkH as kvs H) a _ b=_
   rw[au (fun z=>h (by simp[z]))]
   exact Qi fun z=>h (by simp[z])
theorem Ui:∀{as:List Addr}{kvs:List (Key×V)}{H:Hp}{j:Nat}{a:Addr}{kv:Key×V},as.Nodup->as[j]? =some a->kvs[j]? =some kv->mkH as kvs H a=some (.tup [kV kv.1,kv.2])
 |[],_,_,_,_,_,_,h,_=>by simp at h
 | a::as,[],_,_,_,_,_,_,h=>by simp at h
 | a::as,kv::kvs,H,0,b,kv',_,h1,h2=>by
   cases h1;cases h2
   exact ao
 | a::as,kv::kvs,H,j+1,b,kv',nd,h1,h2=>by
   rw[List.nodup_cons] at nd
   have hb:b∈as:=List.mem_of_getElem? (by simpa using h1)
   show upd (mkH as kvs H) a _ b=_
   rw[au (fun z:b=a=>nd.1 (by rw[<-z];exact hb))]
   exact Ui nd.2 (by simpa using h1) (by simpa using h2)
theorem Qj:∀{as:List Addr}{kvs:List (Key×V)}{H:Hp}{b:Addr}{o:HO},as.Nodup->mkH as kvs H b=some o->(b∉as/\H b=some o)\/(∃(j:Nat) (kv:Key×V),as[j]? =some b/\kvs[j]? =some kv/\o= .tup [kV kv.1,kv.2])\/(H b=some o)
 |[],kvs,H,b,o,_,h=> .inl ⟨by simp,by cases kvs<;>exact h⟩
 | a::as,[],H,b,o,_,h=> .inr (.inr h)
 | a::as,kv::kvs,H,b,o,nd,h=>by
   rw[List.nodup_cons] at nd
   have h:upd (mkH as kvs H) a _ b=some o:=h
   by_cases z:b=a
   ·subst z
    rw[ao] at h;cases h
    exact .inr (.inl ⟨0,kv,rfl,rfl,rfl⟩)
   ·rw[au z] at h
    rcases Qj nd.2 h with⟨h1,h2⟩ | ⟨j,kv',h1,h2,h3⟩ | h1
    ·exact .inl ⟨by simp[z,h1],h2⟩
    ·exact .inr (.inl ⟨j+1,kv',by simpa using h1,by simpa using h2,h3⟩)
    ·exact .inr (.inr h1)
def adS (to:TE):TE:=fun σ H Q=>to σ H fun x H1=>∃a kvs,x= .ref a/\H1 a=some (.dK kvs)/\∀(l:Addr) (as:List Addr) (H':Hp),aW H1 H'->H1 l=none->H' l=some (.lst (as.map V.ref))->as.length=kvs.length->(∀(j:Nat) (b:Addr) (kv:Key×V),as[j]? =some b->kvs[j]? =some kv->H' b=some (.tup [kV kv.1,kv.2]))->Q (.ref l) H'
theorem aa8 {X:Cx}{o:Expr}{to:TE}{p apos cpos pos:Pos} (hc:X.calm=true) (ho:PE X o to) (hg:Gl X "list") (hm:X.mg "list"=none) (hv:bootBuiltins "list"=some (.type "list"))
 (hbase:attributeBase o "items" X.env (eval o X.env)=eval o X.env:=by rfl) (hline:(apos.endLine==cpos.line)=true:=by rfl)
 (he:starEach [.Call (.Attribute o "items" apos) [] [] cpos] X.env=(false,eval (.Call (.Attribute o "items" apos) [] [] cpos) X.env)::starEach [] X.env:=by rfl) (hpl:(backTo pos (starEach [] X.env)).any (·.1)=false:=by rfl):
 PE X (.Call (.Name "list" p) [.Call (.Attribute o "items" apos) [] [] cpos] [] pos) (adS to):=by
 intro pins s σ H Q I h
 refine wpAny_Call_Name_kw (zL I hg hm hv ?_ (by decide) (by decide))
 refine PyProof.Rows.callWith_type1 ?_ he hpl
 rw[he]
 show wpAny _ _ (spliced ((false,eval (.Call (.Attribute o "items" apos) [] [] cpos) X.env)::backTo pos (starEach [] X.env))) _ _ s
 refine Calls.spliced_cons ?_
 refine wpAny_Call_method0_late hbase hline (thn (ho pins s σ H _ I h) fun v s1 ⟨x,H1,I1,r1,a,kvs,ex,ha,q⟩=> ?_)
 subst ex
 obtain rfl:v=Value.ref a:=r1
 obtain⟨t1,t2,hlo⟩:=Su I1 (.inl ⟨kvs, .inl ha⟩)
 refine⟨"dict","dict.items",PySem.F.plainAttrs_dict,PySem.F.slot_dict_items,PySem.F.type_dict_items,t1,t2,Calls.callWith_builtin rfl (PySem.evalArgs_none ?_)⟩
 obtain⟨hz,_,vs,hkv,hd⟩:=K1 I1.hok ha
 obtain⟨ep,hat⟩:=hd.dictAt
 obtain⟨od,hod,hocls⟩:=id t1
 refine call_meetsIn PySem.F.slot_dict_items t1 PySem.F.entry_dict_items (PySem.F.args_dict_items_1 _) (LC a od hlo hocls) ⟨hod, ?_⟩
 show wpAny (model X.prog X.w) X.A (spliced []) _ X.xe _
 refine Calls.spliced_nil ?_
 have hk1:∀b u,s1.heap.get? b=some u->(s1.heap.push {cls:= .type "dict_items",data:= .fields #[.ref a]}).get? b=some u:=fun b u e=>Heap.get?_push_of_some _ e
 have hsz:(s1.heap.push {cls:= .type "dict_items",data:= .fields #[.ref a]}).objs.size=s1.heap.objs.size+1:=by simp[Heap.push]
 obtain⟨_,_,vs',hkv',hd'⟩:=K1 (I1.hok.kept hk1) ha
 obtain⟨ep',hat'⟩:=hd'.dictAt
 obtain⟨hvl,hvk⟩:=wJ hkv'
 have hview:(s1.heap.push {cls:= .type "dict_items",data:= .fields #[.ref a]}).IsItemsView s1.heap.objs.size a:=⟨_,Heap.get?_push_size _ rfl,rfl,rfl⟩
 refine PySem.W.kdx_call (I1.ok.hd hc) hview hat' (by rw[<-hvl];exact hz) fun h' tk acc c as kp e hlen hG hacc=> ?_
 have hal:as.length=kvs.length:=hlen.trans hvl.symm
 have hnd:as.Nodup:=hG.rise.imp fun z=>Nat.ne_of_lt z
 have hlow:∀b∈as,s1.heap.objs.size+1<b:=fun b hb=>by rw[<-hsz];exact hG.above b hb
 have hfresh:∀{b:Addr}{o:HO},H1 b=some o->@LT.lt Nat _ b s1.heap.objs.size:=fun{b o} e=>I1.hok.lt e
 have hl:(s1.heap.push {cls:= .type "dict_items",data:= .fields #[.ref a]}).objs.size∉as:=fun z=>by have:=hlow _ z;rw[hsz] at this;exact absurd this (Nat.lt_irrefl _)
 have sm:aW H1 (upd (mkH as kvs H1) (s1.heap.push {cls:= .type "dict_items",data:= .fields #[.ref a]}).objs.size (.lst (as.map V.ref))):=fun b o eb=>by
  have h1:@LT.lt Nat _ b s1.heap.objs.size:=hfresh eb
  have n1:b∉as:=fun z=>absurd (Nat.lt_trans h1 (Nat.lt_of_succ_lt (hlow b z))) (Nat.lt_irrefl _)
  rw[au (by rw[hsz];exact Nat.ne_of_lt (Nat.lt_succ_of_lt h1)),Qi n1];exact eb
 have hpairs:∀(j:Nat) (b:Addr) (kv:Key×V),as[j]? =some b->kvs[j]? =some kv->mkH as kvs H1 b=some (.tup [kV kv.1,kv.2]):=fun j b kv h1 h2=>Ui hnd h1 h2
 have hne:∀{b:Addr},b∈as->b≠(s1.heap.push {cls:= .type "dict_items",data:= .fields #[.ref a]}).objs.size:=fun hb z=>hl (z▸hb)
 refine⟨.ref _,_,I1.more (t':=tk) (fun b u eb=>kp b u (hk1 b u eb)) sm (fun b o eb=> ?_),rfl,q _ as _ sm (I1.hok.fresh (by rw[hsz];omega)) ao hal fun j b kv h1 h2=> ?_⟩
 ·by_cases z:b=(s1.heap.push {cls:= .type "dict_items",data:= .fields #[.ref a]}).objs.size
  ·subst z
   rw[ao] at eb;cases eb
   refine .inr ⟨by rw[hsz];omega,by rw[List.length_map,hal];exact hz,acc.toList,c, ?_,by simpa using e⟩
   rw[hacc]
   clear e hacc q sm hpairs hG hlow hnd hal hlen hl hne
   induction as with
   | nil=>exact .nil
   | cons x as ih=>exact .cons rfl ih
  ·rw[au z] at eb
   rcases Qj hnd eb with⟨_,h2⟩ | ⟨j,kv,h1,h2,h3⟩ | h1
   ·exact .inl h2
   ·subst h3
    have hbm:=List.mem_of_getElem? h1
    have:=hlow b hbm
    obtain⟨key,k,x,e1,e2,e3⟩:=hG.pairs j b h1
    obtain⟨y,ey,ry⟩:=NZ hkv' j k x e1
    rw[h2] at ey
    cases ey
    exact .inr ⟨by omega,by show 2<=sizeLine;decide,[key,x], .cons (FW e2) (.cons ry .nil),⟨_,e3,rfl,_,rfl⟩⟩
   ·exact .inl h1
 ·rw[au (hne (List.mem_of_getElem? h1))]
  exact hpairs j b kv h1 h2
theorem aa9 {X:Cx}{o:Expr}{to:TE}{p apos cpos pos:Pos} (hc:X.calm=true) (ho:QE X o to) (hg:Gl X "list") (hm:X.mg "list"=none)
 (hbase:attributeBase o "items" X.env (eval o X.env)=eval o X.env:=by rfl) (hline:(apos.endLine==cpos.line)=true:=by rfl)
 (he:starEach [.Call (.Attribute o "items" apos) [] [] cpos] X.env=(false,eval (.Call (.Attribute o "items" apos) [] [] cpos) X.env)::starEach [] X.env:=by rfl) (hpl:(backTo pos (starEach [] X.env)).any (·.1)=false:=by rfl):
 QE X (.Call (.Name "list" p) [.Call (.Attribute o "items" apos) [] [] cpos] [] pos) (adS to):=⟨aa8 hc ho.h hg hm u9 hbase hline he hpl⟩
end L2
set_option maxRecDepth 100000
namespace RB
open PySem L2 PySem.Spec PyProof.Rows
theorem Qk {kn kn':Kn}{x y:Str} (e:look kn x= .inl y) (h:kn' y=none):look kn' x= .inl y:=by
 obtain⟨rfl,_⟩:=ur e
 unfold look
 rw[h]
theorem Hi {kn kn':Kn} (hk:Kn.Le kn kn'):∀{r:R}{x:Str},ev kn r= .inl x->kn' x=none->ev kn' r= .inl x
 | .num n,x,h,_=>by cases h
 | .rd y,x,h,hx=>Qk h hx
 | .bin op a b,x,h,hx=>by
   simp only[ev] at h ⊢
   cases ea:ev kn a with
   | inl y=>rw[ea] at h;cases h;rw[Hi hk ea hx]
   | inr u=>
     rw[ea] at h
     rw[kO hk ea]
     simp only at h ⊢
     cases eb:ev kn b with
     | inl y=>rw[eb] at h;cases h;rw[Hi hk eb hx]
     | inr v=>rw[eb] at h;cases h
 | .pick a b c,x,h,hx=>by
   simp only[ev] at h ⊢
   cases ea:ev kn a with
   | inl y=>rw[ea] at h;cases h;rw[Hi hk ea hx]
   | inr u=>
     rw[ea] at h
     rw[kO hk ea]
     simp only at h ⊢
     by_cases hu:u>0
     ·rw[if_pos hu] at h ⊢;exact Hi hk h hx
     ·rw[if_neg hu] at h ⊢;exact Hi hk h hx
 | .cho a ns,x,h,hx=>by
   simp only[ev] at h ⊢
   cases ea:ev kn a with
   | inl y=>rw[ea] at h;cases h;rw[Hi hk ea hx]
   | inr u=>
     rw[ea] at h
     rw[kO hk ea]
     simp only at h ⊢
     cases ep:qT ns u with
     | none=>rw[ep] at h;cases h
     | some y=>rw[ep] at h;exact Qk h hx
theorem FZ:∀{ps:List Rdp}{k kn:Kn},Kn.Le k kn->(∀p∈ps,kn p.1=some p.2)->Kn.Le (k.puts ps) kn
 |[],k,kn,h,_=>h
 | p::ps,k,kn,h,hp=>by
   refine FZ (ps:=ps) (k:=k.put p.1 p.2) (fun x v e=> ?_) fun q hq=>hp q (by simp[hq])
   unfold Kn.put at e
   by_cases z:x=p.1
   ·rw[if_pos z] at e;cases e;rw[z];exact hp p (by simp)
   ·rw[if_neg z] at e;exact h x v e
theorem Od {kn:Kn}:Kn.Le kn0 kn:=fun x v e=>by cases e
theorem vV.ev {kn:Kn}{r:R}{x:Str} (h:vV kn r x) (hx:kn x=none):ev kn r= .inl x:=let ⟨ps,_,b,c⟩:=h;Hi (FZ Od c.s) b hx
theorem aba {kn:Kn}{r:R}{ps:List Rdp}{v:Int} (g:o6 r kn0 ps v) (c:Rows kn ps):RB.ev kn r= .inr v:=kO (FZ Od c.s) g.2
abbrev Ms:Type:=List Str×Kn×List Str
def mv (gv:Kn) (rc:Rn):Ms->Option Ms
 | ([],_,_)=>none
 | (x::p,kn,od)=>match kn x with
   | some _=>some (p,kn,od)
   | none=>match gv x with
     | some v=>some (x::p,kn.put x v,od)
     | none=>match rc x with
       | none=>none
       | some r=>match ev kn r with
         | .inl y=>some (y::x::p,kn,od)
         | .inr v=>some (x::p,kn.put x v,od++[x])
def itM (gv:Kn) (rc:Rn):Nat->Ms->Option Ms
 | 0,s=>some s
 | k+1,s=>match mv gv rc s with
   | none=>none
   | some t=>itM gv rc k t
def Mvs (gv:Kn) (rc:Rn) (s t:Ms):Prop:=∃k,itM gv rc k s=some t
section
variable {gv:Kn}{rc:Rn}
theorem Uj {x:Str}{p od:List Str}{kn:Kn}{v:Int} (h2:kn x=none) (h:gv x=some v):mv gv rc (x::p,kn,od)=some (x::p,kn.put x v,od):=by unfold mv;simp only[h,h2]
theorem Hj {x:Str}{p od:List Str}{kn:Kn} (h2:kn x≠none):mv gv rc (x::p,kn,od)=some (p,kn,od):=by
 unfold mv
 cases e:kn x with
 | none=>exact absurd e h2
 | some v=>simp only[e]
theorem Ql {x y:Str}{p od:List Str}{kn:Kn}{r:R} (h:gv x=none) (h2:kn x=none) (h3:rc x=some r) (h4:ev kn r= .inl y):mv gv rc (x::p,kn,od)=some (y::x::p,kn,od):=by unfold mv;simp only[h,h2,h3,h4]
theorem Oe {x:Str}{p od:List Str}{kn:Kn}{r:R}{v:Int} (h:gv x=none) (h2:kn x=none) (h3:rc x=some r) (h4:ev kn r= .inr v):mv gv rc (x::p,kn,od)=some (x::p,kn.put x v,od++[x]):=by unfold mv;simp only[h,h2,h3,h4]
theorem Mvs.refl (s:Ms):Mvs gv rc s s:=⟨0,rfl⟩
theorem LK:∀{k:Nat}{s t u:Ms},itM gv rc k s=some t->mv gv rc t=some u->itM gv rc (k+1) s=some u
 | 0,s,t,u,h,h2=>by cases h;show(match mv gv rc s with | none=>none | some t=>itM gv rc 0 t)=some u;rw[h2];rfl
 | k+1,s,t,u,h,h2=>by
   unfold itM at h ⊢
   cases e:mv gv rc s with
   | none=>rw[e] at h;cases h
   | some w=>rw[e] at h;exact LK (k:=k) h h2
theorem Mvs.snoc {s t u:Ms} (h:Mvs gv rc s t) (h2:mv gv rc t=some u):Mvs gv rc s u:=let ⟨k,e⟩:=h;⟨k+1,LK e h2⟩
theorem Qm:∀{k:Nat}{l:Nat}{s t u:Ms},itM gv rc k s=some t->itM gv rc l t=some u->itM gv rc (k+l) s=some u
 | 0,l,s,t,u,h,h2=>by cases h;rw[Nat.zero_add];exact h2
 | k+1,l,s,t,u,h,h2=>by
   rw[Nat.add_right_comm]
   unfold itM at h ⊢
   cases e:mv gv rc s with
   | none=>rw[e] at h;cases h
   | some w=>rw[e] at h;exact Qm (k:=k) h h2
theorem Mvs.trans {s t u:Ms} (h:Mvs gv rc s t) (h2:Mvs gv rc t u):Mvs gv rc s u:=let ⟨k,e⟩:=h;let ⟨l,e2⟩:=h2;⟨k+l,Qm e e2⟩
theorem Qn:∀{k l:Nat}{s t u:Ms},itM gv rc k s=some t->mv gv rc t=none->itM gv rc l s=some u->mv gv rc u=none->t=u
 | 0,0,s,t,u,h,_,h2,_=>by cases h;cases h2;rfl
 | 0,l+1,s,t,u,h,n,h2,_=>by
   cases h
   unfold itM at h2
   rw[n] at h2;cases h2
 | k+1,0,s,t,u,h,_,h2,n=>by
   cases h2
   unfold itM at h
   rw[n] at h;cases h
 | k+1,l+1,s,t,u,h,n,h2,n2=>by
   unfold itM at h h2
   cases e:mv gv rc s with
   | none=>rw[e] at h;cases h
   | some w=>rw[e] at h h2;exact Qn h n h2 n2
theorem Mvs.det {s:Ms}{a b:Kn×List Str} (h:Mvs gv rc s ([],a)) (h2:Mvs gv rc s ([],b)):a=b:=by
 obtain⟨k,e⟩:=h
 obtain⟨l,e2⟩:=h2
 have:=Qn e rfl e2 rfl
 cases this;rfl
end
def Runs (gv:Kn) (rc:Rn):List Str->Kn×List Str->Kn×List Str->Prop
 |[],a,b=>a=b
 | x::ws,a,b=>∃c,Mvs gv rc ([x],a) ([],c)/\Runs gv rc ws c b
theorem Runs.det {gv:Kn}{rc:Rn}:∀{ws:List Str}{a b c:Kn×List Str},Runs gv rc ws a b->Runs gv rc ws a c->b=c
 |[],a,b,c,h,h2=>by cases h;cases h2;rfl
 | x::ws,a,b,c,⟨d,h,g⟩,⟨d',h',g'⟩=>by
   have:=h.det h'
   cases this
   exact Runs.det g g'
theorem Runs.snoc {gv:Kn}{rc:Rn}:∀{ws:List Str}{x:Str}{a b c:Kn×List Str},Runs gv rc ws a b->Mvs gv rc ([x],b) ([],c)->Runs gv rc (ws++[x]) a c
 |[],x,a,b,c,h,h2=>by cases h;exact⟨c,h2,rfl⟩
 | y::ws,x,a,b,c,⟨d,h,g⟩,h2=>⟨d,h,Runs.snoc g h2⟩
def stk (is:List Nat):List Str:=is.reverse.map ak
theorem yD (js:List Nat) (i:Nat):stk (js++[i])=ak i::stk js:=by unfold stk;rw[List.reverse_append];rfl
end RB
set_option maxRecDepth 100000
namespace RB
open PySem L2 PySem.Spec PyProof.Rows
structure SrD where
 so:Addr
 dx:Addr
 g:Addr
 c:Addr
 o:Addr
 dxo:Addr
 rcd:Addr
 kd:Addr
 sd:Addr
 rd:Addr
def srF (g c o kd sd rd:Addr):List (Str×V):=[("given", .ref g),("recipes", .ref c),("old", .ref o),("known", .ref kd),("settled", .ref sd),("reckoned", .ref rd)]
structure SrC (K:PySem.W.Frag) (C:Addr):Prop where
 cl:Cls K C
 nG:jE K C "given"
 nR:jE K C "recipes"
 nO:jE K C "old"
 nK:jE K C "known"
 nS:jE K C "settled"
 nM:jE K C "reckoned"
theorem wM (g c o kd sd rd:Addr):List.lookup ("given":Str) (srF g c o kd sd rd)=some (.ref g):=rfl
theorem qW (g c o kd sd rd:Addr):List.lookup ("recipes":Str) (srF g c o kd sd rd)=some (.ref c):=rfl
theorem Hl (g c o kd sd rd:Addr):List.lookup ("old":Str) (srF g c o kd sd rd)=some (.ref o):=rfl
theorem wN (g c o kd sd rd:Addr):List.lookup ("known":Str) (srF g c o kd sd rd)=some (.ref kd):=rfl
theorem qX (g c o kd sd rd:Addr):List.lookup ("settled":Str) (srF g c o kd sd rd)=some (.ref sd):=rfl
theorem o7 (g c o kd sd rd:Addr):List.lookup ("reckoned":Str) (srF g c o kd sd rd)=some (.ref rd):=rfl
theorem iu (g c o kd sd rd:Addr):List.lookup ("begin":Str) (srF g c o kd sd rd)=none/\List.lookup ("end":Str) (srF g c o kd sd rd)=none/\List.lookup ("made":Str) (srF g c o kd sd rd)=none/\List.lookup ("kept":Str) (srF g c o kd sd rd)=none/\List.lookup ("settle":Str) (srF g c o kd sd rd)=none:=⟨rfl,rfl,rfl,rfl,rfl⟩
theorem DN (rcd:Addr):List.lookup ("records_for":Str) (nrF rcd)=none/\List.lookup ("put_made":Str) (nrF rcd)=none:=⟨rfl,rfl⟩
def Mu (H:Hp) (z:Addr):Prop:=∃o,H z=some o/\∀xs,o≠ .tup xs
def adT:Option HO->Option HO->Option HO
 | some (.tup xs),_=>some (.tup xs)
 | _,d=>d
def grow (Hf H H1:Hp):Hp:=fun a=>if H a=none then H1 a else adT (H1 a) (Hf a)
theorem WW {Hf H H1:Hp} (s0:aW Hf H) (s1:aW H H1):aW Hf (grow Hf H H1):=fun a o e=>by
 have h0:=s0 _ _ e
 have h1:=s1 _ _ h0
 unfold grow
 rw[if_neg (by rw[h0];simp),h1]
 cases o<;>first | exact e | rfl
theorem WX {Hf H H1:Hp} (s0:aW Hf H) (s1:aW H H1):aW (grow Hf H H1) H1:=fun a o e=>by
 unfold grow at e
 split at e
 ·exact e
 ·cases h1:H1 a with
  | none=>
    rw[h1] at e
    have e:Hf a=some o:=e
    have:=s1 _ _ (s0 _ _ e)
    rw[h1] at this;cases this
  | some u=>
    rw[h1] at e
    cases u with
    | tup xs=>exact e
    | _=>
      have e:Hf a=some o:=e
      have:=s1 _ _ (s0 _ _ e)
      rw[h1] at this;exact this
theorem Rr {Hf H H1:Hp}:mK H1 (grow Hf H H1):=fun a xs e=>by
 unfold grow
 split
 ·exact e
 ·rw[e];rfl
theorem Uk {Hf H H1:Hp}{a:Addr} (h:H a=none):grow Hf H H1 a=H1 a:=by unfold grow;rw[if_pos h]
theorem Ga {Hf H H1:Hp} (s1:aW H H1) {z:Addr} (m:Mu H z) (hz:Hf z=none):grow Hf H H1 z=none:=by
 obtain⟨o,e,n⟩:=m
 have h1:=s1 _ _ e
 unfold grow
 rw[if_neg (by rw[e];simp),h1]
 cases o with
 | tup xs=>exact absurd rfl (n xs)
 | _=>exact hz
structure SrH (CSe CN:Addr) (D:SrD) (n:Nat) (gv:Kn) (rc:Rn) (kg kc kr:List (Key×V)) (rm:Rm) (Hf:Hp):Prop where
 e:Hf D.so=some (.ins CSe D.dx (srF D.g D.c D.o D.kd D.sd D.rd))
 eg:Hf D.g=some (.dK kg)
 ec:Hf D.c=some (.dK kc)
 bd:Bld Hf kg kc n gv rc
 eo:Hf D.o=some (.ins CN D.dxo (nrF D.rcd))
 er:Hf D.rcd=some (.dK kr)
 rD:pQ Hf kr n rm
 n17:n<=17
 ne:D.kd≠D.sd/\D.kd≠D.rd/\D.sd≠D.rd
theorem SrH.same {CSe CN:Addr}{D:SrD}{n:Nat}{gv:Kn}{rc:Rn}{kg kc kr:List (Key×V)}{rm:Rm}{Hf H:Hp} (h:SrH CSe CN D n gv rc kg kc kr rm Hf) (s:aW Hf H):SrH CSe CN D n gv rc kg kc kr rm H:=
 ⟨s _ _ h.e,s _ _ h.eg,s _ _ h.ec,h.bd.tups (aW.tups s),s _ _ h.eo,s _ _ h.er,h.rD.map fun _ _ z=>z.same s,h.n17,h.ne⟩
structure uw (D:SrD) (n:Nat) (gv:Kn) (rc:Rn) (rm:Rm) (kn:Kn) (rmN:Rm) (rkn:Str->Bool) (od:List Str) (Hf H:Hp):Prop where
 sm:aW Hf H
 fk:Hf D.kd=none
 fs:Hf D.sd=none
 fr:Hf D.rd=none
 ek:∃kw ws,H D.kd=some (.dK kw)/\iz kw ws/\∀x,cO kw (.inr x)=(kn x).map V.int
 es:∃ks,H D.sd=some (.dK ks)/\pQ Hf ks n rmN/\iz ks od
 er:∃kk rs,H D.rd=some (.dK kk)/\iz kk rs/\(∀x,cO kk (.inr x)=if rkn x=true then some (.bl true) else none)/\∀x,rkn x=true->rmN x≠none
 ok:J0 n gv rc kn rmN
 md:∀x r ps v,rmN x=some (r,ps,v)->Rcd rm x r kn ps v (rkn x)
theorem Rcd.le {rm:Rm}{y:Str}{r:R}{kn kn':Kn}{ps:List Rdp}{v:Int}{m:Bool} (h:Rcd rm y r kn ps v m) (l:Kn.Le kn kn'):Rcd rm y r kn' ps v m:=by
 obtain⟨h1,h2,h3⟩:=h
 refine⟨h1,h2.le l, ?_⟩
 cases m with
 | true=>rw[if_pos rfl] at h3 ⊢;exact h3.le l
 | false=>exact h3
theorem uw.kl {D:SrD}{n:Nat}{gv:Kn}{rc:Rn}{rm:Rm}{kn:Kn}{rmN:Rm}{rkn:Str->Bool}{od:List Str}{Hf H:Hp} (h:uw D n gv rc rm kn rmN rkn od Hf H) {kw:List (Key×V)}{ws:List Str} (k:iz kw ws) (hk:∀x,cO kw (.inr x)=(kn x).map V.int):kw.length<=n:=by
 rw[k.len,<-jd n]
 refine gC k.nd fun x hx=> ?_
 cases e:kn x with
 | none=>exact absurd hx (k.none.mp (by rw[hk,e];rfl))
 | some v=>exact(h.ok.a x v e).1
inductive Rch (gv:Kn) (rc:Rn) (kn:Kn) (x:Str):Str->Prop where
 | refl:Rch gv rc kn x x
 | step {y z:Str}{r:R} (h:Rch gv rc kn x y) (hg:gv y=none) (hr:rc y=some r) (hs:vV kn r z):Rch gv rc kn x z
theorem vV.le {kn kn':Kn}{r:R}{x:Str} (h:vV kn r x) (l:Kn.Le kn kn'):vV kn' r x:=let ⟨ps,a,b,c⟩:=h;⟨ps,a,b,c.le l⟩
theorem Rch.le {gv:Kn}{rc:Rn}{kn kn':Kn}{x y:Str} (h:Rch gv rc kn x y) (l:Kn.Le kn kn'):Rch gv rc kn' x y:=by
 induction h with
 | refl=>exact .refl
 | step _ hg hr hs ih=>exact .step ih hg hr (hs.le l)
def LQ (CSe:Addr):Sp:=fun vs H Q _=>∃(a dx h g c o:Addr),vs=[.ref a, .ref h, .ref o]/\H a=some (.ins CSe dx [])/\H h=some (.tup [.ref g, .ref c])/\
 ∀kd sd rd H',But [a] H H'->H' a=some (.ins CSe dx (srF g c o kd sd rd))->H kd=none->H sd=none->H rd=none->kd≠sd->kd≠rd->sd≠rd->H' kd=some (.dK [])->H' sd=some (.dK [])->H' rd=some (.dK [])->Q .non H'
def Qo (CSe CN CS CR:Addr):Sp:=fun vs H Q _=>∃(D:SrD) (n:Nat) (gv:Kn) (rc:Rn) (kg kc kr:List (Key×V)) (rm:Rm) (y:Str) (r:R),vs=[.ref D.so, .str y]/\SrH CSe CN D n gv rc kg kc kr rm H/\rc y=some r/\
 ∀(A:SeD) H',aW H H'->(∀z∈A.ft,H z=none)->(∀kn,vo CS CR kr rm y r kn A H')->Q (.ref A.s) H'
def Ul (CSe CN CS CR:Addr):Sp:=fun vs H Q _=>∃(D:SrD) (n:Nat) (gv:Kn) (rc:Rn) (kg kc kr:List (Key×V)) (rm:Rm) (kn:Kn) (rmN:Rm) (rkn:Str->Bool) (od:List Str) (Hf:Hp) (A:SeD) (y:Str) (r:R),vs=[.ref D.so, .str y, .ref A.s]/\SrH CSe CN D n gv rc kg kc kr rm Hf/\uw D n gv rc rm kn rmN rkn od Hf H/\
 H A.s=some (.ins CS A.dx (seF A.b A.fl A.k A.rk))/\IsR H A.b r/\Ug H CR kr rm y r kn A/\kn y=none/\gv y=none/\rc y=some r/\y∈nmK n/\(∀z∈A.ft,z∉[D.kd,D.sd,D.rd])/\
 ∀(v:Int) (ps:List Rdp) (made:Bool) (Hf' H':Hp),But [D.kd,D.sd,D.rd] H H'->aW Hf Hf'->(∀z,Mu H z->Hf z=none->Hf' z=none)->uw D n gv rc rm (kn.put y v) (rmN.put y (r,ps,v)) (fun x=>if x=y then made else rkn x) (od++[y]) Hf' H'->ev kn r= .inr v->Q .non H'
def LR (CSe CN:Addr):Sp:=fun vs H Q _=>∃(D:SrD) (n:Nat) (gv:Kn) (rc:Rn) (kg kc kr:List (Key×V)) (rm:Rm) (kn:Kn) (rmN:Rm) (rkn:Str->Bool) (od:List Str) (Hf:Hp) (x:Str),vs=[.ref D.so, .str x]/\SrH CSe CN D n gv rc kg kc kr rm Hf/\uw D n gv rc rm kn rmN rkn od Hf H/\x∈nmK n/\
 ∀(kn':Kn) (Ma:Rm) (rkn':Str->Bool) (od':List Str) (Hf' H':Hp),But [D.kd,D.sd,D.rd] H H'->aW Hf Hf'->(∀z,Mu H z->Hf z=none->Hf' z=none)->uw D n gv rc rm kn' Ma rkn' od' Hf' H'->Mvs gv rc ([x],kn,od) ([],kn',od')->Kn.Le kn kn'->kn' x≠none->(∀y,kn' y≠none->kn y≠none\/Rch gv rc kn' x y)->Q .non H'
def Og (kn:Kn) (n:Nat):Nat:=((List.range n).filter fun i=>(kn (ak i)).isNone).length
theorem Jx {p p':Nat->Bool}:∀{l:List Nat},(∀j∈l,p' j=true->p j=true)->∀{i:Nat},i∈l->p i=true->p' i=false->(l.filter p').length+1<=(l.filter p).length
 |[],_,i,hi,_,_=>by cases hi
 | a::l,h,i,hi,h1,h2=>by
   have hle:∀l:List Nat,(∀j∈l,p' j=true->p j=true)->(l.filter p').length<=(l.filter p).length:=by
    intro l
    induction l with
    | nil=>intro _;exact Nat.le_refl _
    | cons b l ih=>
      intro h
      have ih:=ih fun j hj=>h j (by simp[hj])
      rw[List.filter_cons,List.filter_cons]
      by_cases hb:p' b=true
      ·rw[if_pos hb,if_pos (h b (by simp) hb)];simp;exact ih
      ·rw[if_neg hb]
       split
       ·simp;omega
       ·exact ih
   rcases List.mem_cons.mp hi with z | z
   ·subst z
    rw[List.filter_cons,List.filter_cons,if_neg (by rw[h2];decide),if_pos h1]
    have:=hle l fun j hj=>h j (by simp[hj])
    simp;exact this
   ·have ih:=Jx (l:=l) (fun j hj=>h j (by simp[hj])) z h1 h2
    rw[List.filter_cons,List.filter_cons]
    by_cases hb:p' a=true
    ·rw[if_pos hb,if_pos (h a (by simp) hb)];simp;exact ih
    ·rw[if_neg hb]
     split
     ·simp;omega
     ·exact ih
theorem Ho {kn:Kn}{n i:Nat}{v:Int} (hi:i<n) (h:kn (ak i)=none):Og (kn.put (ak i) v) n+1<=Og kn n:=by
 refine Jx (fun j _ hj=> ?_) (List.mem_range.mpr hi) (by simp only[h];rfl) ?_
 ·unfold Kn.put at hj
  by_cases z:ak j=ak i
  ·rw[if_pos z] at hj;cases hj
  ·rw[if_neg z] at hj;exact hj
 ·unfold Kn.put;rw[if_pos rfl];rfl
end RB
set_option maxRecDepth 100000
namespace RB
open PySem L2 PySem.Spec PyProof.Rows
theorem Mf {S:List Addr}{H H':Hp} (b:But S H H') (m:∀z∈S,Mu H z):mK H H':=fun p xs e=>b p _ (fun w=>by
 obtain⟨o,h1,h2⟩:=m p w
 rw[e] at h1;cases h1;exact h2 _ rfl) e
theorem Mu.but {S:List Addr}{H H':Hp}{z:Addr} (m:Mu H z) (b:But S H H') (hz:z∉S):Mu H' z:=let ⟨o,h1,h2⟩:=m;⟨o,b _ _ hz h1,h2⟩
theorem Mu.some {H:Hp}{z:Addr} (m:Mu H z):H z≠none:=let ⟨o,h1,_⟩:=m;by rw[h1];simp
theorem uw.but {D:SrD}{n:Nat}{gv:Kn}{rc:Rn}{rm:Rm}{kn:Kn}{rmN:Rm}{rkn:Str->Bool}{od:List Str}{Hf H H':Hp}{S:List Addr} (h:uw D n gv rc rm kn rmN rkn od Hf H) (b:But S H H') (hf:∀z∈S,Hf z=none) (hk:D.kd∉S) (hs:D.sd∉S) (hr:D.rd∉S):uw D n gv rc rm kn rmN rkn od Hf H':=by
 obtain⟨sm,fk,fs,fr,⟨kw,ws,e1,r1⟩,⟨ks,e2,r2⟩,⟨kk,rs,e3,r3⟩,ok,md⟩:=h
 exact⟨fun z o e=>b z o (fun w=>by rw[hf z w] at e;cases e) (sm z o e),fk,fs,fr,⟨kw,ws,b _ _ hk e1,r1⟩,⟨ks,b _ _ hs e2,r2⟩,⟨kk,rs,b _ _ hr e3,r3⟩,ok,md⟩
theorem uw.same {D:SrD}{n:Nat}{gv:Kn}{rc:Rn}{rm:Rm}{kn:Kn}{rmN:Rm}{rkn:Str->Bool}{od:List Str}{Hf H H':Hp} (h:uw D n gv rc rm kn rmN rkn od Hf H) (s:aW H H'):uw D n gv rc rm kn rmN rkn od Hf H':=h.but (S:=[]) (But.of_same s) (by simp) (by simp) (by simp) (by simp)
structure BgI (CS CR:Addr) (D:SrD) (pth bgd:Addr) (n:Nat) (gv:Kn) (rc:Rn) (kr:List (Key×V)) (rm:Rm) (kn:Kn) (bg:Str->Option SeD) (Hf H:Hp):Prop where
 e:∃kb ks,H bgd=some (.dK kb)/\iz kb ks/\∀y,cO kb (.inr y)=(bg y).map fun A=>V.ref A.s
 nm:∀y,bg y≠none->y∈nmK n
 ok:∀y A,bg y=some A->kn y=none->∃r,rc y=some r/\gv y=none/\vo CS CR kr rm y r kn A H
 al:∀y A,bg y=some A->∀z∈A.ft,Mu H z/\Hf z=none/\z∉[pth,bgd,D.kd,D.sd,D.rd]
 dj:∀y y' A A',y≠y'->bg y=some A->bg y'=some A'->∀z∈A.ft,z∉A'.ft
section
variable {CS CR:Addr}{D:SrD}{pth bgd:Addr}{n:Nat}{gv:Kn}{rc:Rn}{kr:List (Key×V)}{rm:Rm}{kn kn':Kn}{bg:Str->Option SeD}{Hf Hf' H H':Hp}
theorem BgI.but {S:List Addr} (h:BgI CS CR D pth bgd n gv rc kr rm kn bg Hf H) (b:But S H H') (t:mK H H') (hb:bgd∉S) (hS:∀y A,bg y=some A->∀z∈A.ft,z∉S):BgI CS CR D pth bgd n gv rc kr rm kn bg Hf H':=by
 obtain⟨⟨kb,ks,e1,e2,e3⟩,nm,ok,al,dj⟩:=h
 exact⟨⟨kb,ks,b _ _ hb e1,e2,e3⟩,nm,fun y A h1 h2=>let ⟨r,a1,a2,a3⟩:=ok y A h1 h2;⟨r,a1,a2,a3.move b t (hS y A h1)⟩,fun y A h1 z hz=>⟨(al y A h1 z hz).1.but b (hS y A h1 z hz),(al y A h1 z hz).2⟩,dj⟩
theorem BgI.same (h:BgI CS CR D pth bgd n gv rc kr rm kn bg Hf H) (s:aW H H'):BgI CS CR D pth bgd n gv rc kr rm kn bg Hf H':=h.but (S:=[]) (But.of_same s) (aW.tups s) (by simp) (by simp)
theorem BgI.off {S:List Addr} (h:BgI CS CR D pth bgd n gv rc kr rm kn bg Hf H) (b:But S H H') (m:∀z∈S,Mu H z) (hS:∀z∈S,z∈[pth,D.kd,D.sd,D.rd]) (hb:bgd∉S):BgI CS CR D pth bgd n gv rc kr rm kn bg Hf H':=
 h.but b (Mf b m) hb fun y A h1 z hz w=>(h.al y A h1 z hz).2.2 (by
   have:=hS z w
   simp only[List.mem_cons,List.not_mem_nil,or_false] at this ⊢
   rcases this with q | q | q | q
   ·exact .inl q
   ·exact .inr (.inr (.inl q))
   ·exact .inr (.inr (.inr (.inl q)))
   ·exact .inr (.inr (.inr (.inr q))))
theorem BgI.le (h:BgI CS CR D pth bgd n gv rc kr rm kn bg Hf H) (l:Kn.Le kn kn'):BgI CS CR D pth bgd n gv rc kr rm kn' bg Hf H:=
 ⟨h.e,h.nm,fun y A h1 h2=>by
   have h0:kn y=none:=by
    cases z:kn y with
    | none=>rfl
    | some v=>rw[l y v z] at h2;cases h2
   obtain⟨r,a1,a2,a3⟩:=h.ok y A h1 h0
   exact⟨r,a1,a2,a3.le l⟩,h.al,h.dj⟩
theorem BgI.hf (h:BgI CS CR D pth bgd n gv rc kr rm kn bg Hf H) (f:∀z,Mu H z->Hf z=none->Hf' z=none):BgI CS CR D pth bgd n gv rc kr rm kn bg Hf' H:=
 ⟨h.e,h.nm,h.ok,fun y A h1 z hz=>let ⟨a,b,c⟩:=h.al y A h1 z hz;⟨a,f z a b,c⟩,h.dj⟩
theorem vo.mu {y:Str}{r:R}{A:SeD} (h:vo CS CR kr rm y r kn A H):∀z∈A.ft,Mu H z:=fun z hz=>by
 obtain⟨c,rc',_⟩:=h.c
 have hz:z=A.s\/z=A.fl\/z=A.rk\/z=A.a1\/z=A.a2\/z=A.a3:=by simpa [SeD.ft] using hz
 rcases hz with rfl | rfl | rfl | rfl | rfl | rfl
 ·exact⟨_,h.e,by simp⟩
 ·rcases h.f with⟨rb,ps,v,w1,_⟩ | ⟨w1,_⟩
  ·exact⟨_,w1,by simp⟩
  ·exact⟨_,w1,by simp⟩
 ·exact⟨_,rc'.e,by simp⟩
 ·obtain⟨ws,w1,_⟩:=rc'.e1
  exact⟨_,w1,by simp⟩
 ·exact⟨_,rc'.e2,by simp⟩
 ·exact⟨_,rc'.e3,by simp⟩
def mq (bg:Str->Option SeD) (y:Str) (A:SeD):Str->Option SeD:=fun x=>if x=y then some A else bg x
theorem BgI.new {H1:Hp}{y:Str}{r:R}{A:SeD}{kb:List (Key×V)} (h:BgI CS CR D pth bgd n gv rc kr rm kn bg Hf H) (s:aW H H1) (hA:∀z∈A.ft,H z=none) (so:vo CS CR kr rm y r kn A H1) (hr:rc y=some r) (hg:gv y=none) (hy:y∈nmK n) (hb:bg y=none)
 (ebd:H bgd=some (.dK kb)) (sf:aW Hf H) (al:∀z∈[pth,bgd,D.kd,D.sd,D.rd],H z≠none):BgI CS CR D pth bgd n gv rc kr rm kn (mq bg y A) Hf (upd H1 bgd (.dK (putK kb (.inr y) (.ref A.s)))):=by
 have h1:=h.same s
 have eb1:=s _ _ ebd
 have b1:But [bgd] H1 (upd H1 bgd (.dK (putK kb (.inr y) (.ref A.s)))):=But.set _ (by simp)
 have t1:mK H1 (upd H1 bgd (.dK (putK kb (.inr y) (.ref A.s)))):=BV eb1
 have nA:∀z∈A.ft,z∉[pth,bgd,D.kd,D.sd,D.rd]:=fun z hz w=>al z w (hA z hz)
 have nb:∀z∈A.ft,z∉[bgd]:=fun z hz w=>nA z hz (by simp at w ⊢;exact .inr (.inl w))
 obtain⟨⟨kb',ks,e1,e2,e3⟩,nm,ok,al1,dj⟩:=h1
 rw[eb1] at e1;cases e1
 have hyk:y∉ks:=e2.none.mp (by rw[e3,hb];rfl)
 refine⟨⟨_,_,ao,e2.oK hyk _,fun x=> ?_⟩,fun x hx=> ?_,fun x B h1 h2=> ?_,fun x B h1 z hz=> ?_,fun x x' B B' hne h1 h2 z hz=> ?_⟩
 ·rw[jo]
  unfold mq
  by_cases z:x=y
  ·rw[if_pos (by rw[z]),if_pos z];rfl
  ·rw[if_neg (zV z),if_neg z];exact e3 x
 ·unfold mq at hx
  by_cases z:x=y
  ·rw[z];exact hy
  ·rw[if_neg z] at hx;exact nm x hx
 ·unfold mq at h1
  by_cases z:x=y
  ·rw[if_pos z] at h1;cases h1
   rw[z];exact⟨r,hr,hg,so.move b1 t1 nb⟩
  ·rw[if_neg z] at h1
   obtain⟨r',a1,a2,a3⟩:=ok x B h1 h2
   exact⟨r',a1,a2,a3.move b1 t1 fun w hw q=>(al1 x B h1 w hw).2.2 (by simp at q ⊢;exact .inr (.inl q))⟩
 ·unfold mq at h1
  by_cases w:x=y
  ·rw[if_pos w] at h1;cases h1
   refine⟨(so.mu z hz).but b1 (nb z hz), ?_,nA z hz⟩
   cases q:Hf z with
   | none=>rfl
   | some o=>have:=sf _ _ q;rw[hA z hz] at this;cases this
  ·rw[if_neg w] at h1
   obtain⟨a1,a2,a3⟩:=al1 x B h1 z hz
   exact⟨a1.but b1 (fun q=>a3 (by simp at q ⊢;exact .inr (.inl q))),a2,a3⟩
 ·unfold mq at h1 h2
  by_cases w:x=y
  ·rw[if_pos w] at h1;cases h1
   rw[if_neg (fun q=>hne (w.trans q.symm))] at h2
   exact fun q=>((h.al x' B' h2 z q).1.some) (hA z hz)
  ·rw[if_neg w] at h1
   by_cases w':x'=y
   ·rw[if_pos w'] at h2;cases h2
    exact fun q=>((h.al x B h1 z hz).1.some) (hA z q)
   ·rw[if_neg w'] at h2
    exact dj x x' B B' hne h1 h2 z hz
theorem BgI.set {y:Str}{r:R}{A A':SeD} (h:BgI CS CR D pth bgd n gv rc kr rm kn bg Hf H) (hy:bg y=some A) (b:But A.ft H H') (so:vo CS CR kr rm y r kn A' H') (hr:rc y=some r) (hg:gv y=none)
 (es:A'.s=A.s) (erk:A'.rk=A.rk) (e1:A'.a1=A.a1) (e2:A'.a2=A.a2) (e3:A'.a3=A.a3) (efl:A'.fl=A.fl\/H A'.fl=none) (sf:aW Hf H) (al:∀z∈[pth,bgd,D.kd,D.sd,D.rd],H z≠none):BgI CS CR D pth bgd n gv rc kr rm kn (mq bg y A') Hf H':=by
 have hin:∀z∈A'.ft,z∈A.ft\/H z=none:=fun z hz=>by
  have hz:z=A'.s\/z=A'.fl\/z=A'.rk\/z=A'.a1\/z=A'.a2\/z=A'.a3:=by simpa [SeD.ft] using hz
  rcases hz with w | w | w | w | w | w
  ·exact .inl (by rw[w,es];simp[SeD.ft])
  ·rcases efl with q | q
   ·exact .inl (by rw[w,q];simp[SeD.ft])
   ·exact .inr (by rw[w];exact q)
  ·exact .inl (by rw[w,erk];simp[SeD.ft])
  ·exact .inl (by rw[w,e1];simp[SeD.ft])
  ·exact .inl (by rw[w,e2];simp[SeD.ft])
  ·exact .inl (by rw[w,e3];simp[SeD.ft])
 have mA:∀z∈A.ft,Mu H z:=fun z hz=>(h.al y A hy z hz).1
 have t:=Mf b mA
 have nbg:bgd∉A.ft:=fun z=>(h.al y A hy _ z).2.2 (by simp)
 obtain⟨⟨kb,ks,f1,f2,f3⟩,nm,ok,al1,dj⟩:=h
 refine⟨⟨kb,ks,b _ _ nbg f1,f2,fun x=> ?_⟩,fun x hx=> ?_,fun x B h1 h2=> ?_,fun x B h1 z hz=> ?_,fun x x' B B' hne h1 h2 z hz=> ?_⟩
 ·rw[f3]
  unfold mq
  by_cases z:x=y
  ·rw[if_pos z,z,hy];show some (V.ref A.s)=some (V.ref A'.s);rw[es]
  ·rw[if_neg z]
 ·unfold mq at hx
  by_cases z:x=y
  ·rw[z];exact nm y (by rw[hy];simp)
  ·rw[if_neg z] at hx;exact nm x hx
 ·unfold mq at h1
  by_cases z:x=y
  ·rw[if_pos z] at h1;cases h1
   rw[z];exact⟨r,hr,hg,so⟩
  ·rw[if_neg z] at h1
   obtain⟨r',a1,a2,a3⟩:=ok x B h1 h2
   exact⟨r',a1,a2,a3.move b t fun w hw=>dj x y B A z h1 hy w hw⟩
 ·unfold mq at h1
  by_cases w:x=y
  ·rw[if_pos w] at h1;cases h1
   refine⟨so.mu z hz, ?_, ?_⟩
   ·rcases hin z hz with q | q
    ·exact(al1 y A hy z q).2.1
    ·cases q':Hf z with
     | none=>rfl
     | some o=>have:=sf _ _ q';rw[q] at this;cases this
   ·rcases hin z hz with q | q
    ·exact(al1 y A hy z q).2.2
    ·exact fun w'=>al z w' q
  ·rw[if_neg w] at h1
   obtain⟨a1,a2,a3⟩:=al1 x B h1 z hz
   exact⟨a1.but b (dj x y B A w h1 hy z hz),a2,a3⟩
 ·unfold mq at h1 h2
  by_cases w:x=y
  ·rw[if_pos w] at h1;cases h1
   rw[if_neg (fun q=>hne (w.trans q.symm))] at h2
   rcases hin z hz with q | q
   ·exact dj y x' A B' (fun e=>hne (w.trans e)) hy h2 z q
   ·exact fun w'=>((al1 x' B' h2 z w').1.some) q
  ·rw[if_neg w] at h1
   by_cases w':x'=y
   ·rw[if_pos w'] at h2;cases h2
    intro q
    rcases hin z q with q' | q'
    ·exact dj x y B A w h1 hy z hz q'
    ·exact((al1 x B h1 z hz).1.some) q'
   ·rw[if_neg w'] at h2
    exact dj x x' B B' hne h1 h2 z hz
end
end RB
set_option maxRecDepth 100000
namespace RB
open PySem L2 PySem.Spec PyProof.Rows
theorem Qp:∀{is:List Nat}{n:Nat},is.Pairwise (fun a b=>b<a)->(∀i∈is,i<n)->is.length<=n
 |[],n,_,_=>Nat.zero_le _
 | a::l,n,h,hl=>by
   rw[List.pairwise_cons] at h
   have:=Qp (is:=l) (n:=a) h.2 h.1
   have:=hl a (by simp)
   simp;omega
theorem vV.in {kn:Kn}{r:R}{x:Str}{ns:List Str} (h:vV kn r x) (hi:r.In ns):x∈ns:=by
 obtain⟨ps,_,e,_⟩:=h
 exact Ey hi e
def EY (n:Nat) (kn:Kn) (is:List Nat):Nat:=match is.getLast? with
 | none=>0
 | some i=>if(kn (ak i)).isNone=true then 60 * Og kn n+20 - is.length else 60 * Og kn n+30
theorem o8 {n:Nat}{kn:Kn}{js:List Nat}{i:Nat} (h:kn (ak i)=none):EY n kn (js++[i])=60 * Og kn n+20 - (js.length+1):=by
 unfold EY
 rw[List.getLast?_concat]
 simp only[h]
 rw[List.length_append];rfl
theorem yE {n:Nat}{kn:Kn}{js:List Nat}{i:Nat} (h:kn (ak i)≠none):EY n kn (js++[i])=60 * Og kn n+30:=by
 unfold EY
 rw[List.getLast?_concat]
 simp only
 rw[if_neg]
 intro z
 exact h (Option.isNone_iff_eq_none.mp z)
structure LpI (CSe CN CS CR:Addr) (D:SrD) (pth bgd:Addr) (n:Nat) (gv:Kn) (rc:Rn) (kg kc kr:List (Key×V)) (rm:Rm) (knI:Kn) (odI:List Str) (HfI HI:Hp) (x:Str) (k0:Nat) (is:List Nat) (kn:Kn) (rmN:Rm) (rkn:Str->Bool) (od:List Str) (bg:Str->Option SeD) (Hf H:Hp):Prop where
 b:But [D.kd,D.sd,D.rd] HI H
 sf:aW HfI Hf
 fm:∀z,Mu HI z->HfI z=none->Hf z=none
 sh:SrH CSe CN D n gv rc kg kc kr rm Hf
 so:uw D n gv rc rm kn rmN rkn od Hf H
 ep:H pth=some (.lst (is.map fun i=>V.str (ak i)))
 fp:Hf pth=none
 fb:Hf bgd=none
 ip:HI pth=none
 ib:HI bgd=none
 np:pth∉[D.kd,D.sd,D.rd]
 nb:bgd∉[D.kd,D.sd,D.rd]
 nn:pth≠bgd
 dec:is.Pairwise (fun a b=>b<a)
 lt:∀i∈is,i<n
 un:∀i∈is.dropLast,kn (ak i)=none
 rch:∀i∈is,Rch gv rc kn x (ak i)
 le:Kn.Le knI kn
 new:∀y,kn y≠none->knI y≠none\/Rch gv rc kn x y
 bgi:BgI CS CR D pth bgd n gv rc kr rm kn bg Hf H
 hd:is.head?=some k0\/(is=[]/\kn x≠none)
 fr:∀y A,bg y=some A->∀z∈A.ft,HI z=none
 mv:Mvs gv rc ([x],knI,odI) (stk is,kn,od)
section
variable {CSe CN CS CR:Addr}{D:SrD}{pth bgd:Addr}{n:Nat}{gv:Kn}{rc:Rn}{kg kc kr:List (Key×V)}{rm:Rm}{knI:Kn}{odI od:List Str}{HfI HI:Hp}{x:Str}{k0:Nat}{is js:List Nat}{i:Nat}{kn:Kn}{rmN:Rm}{rkn:Str->Bool}{bg:Str->Option SeD}{Hf H H':Hp}
theorem LpI.len (h:LpI CSe CN CS CR D pth bgd n gv rc kg kc kr rm knI odI HfI HI x k0 is kn rmN rkn od bg Hf H):is.length<=17:=Nat.le_trans (Qp h.dec h.lt) h.sh.n17
theorem LpI.al (h:LpI CSe CN CS CR D pth bgd n gv rc kg kc kr rm knI odI HfI HI x k0 is kn rmN rkn od bg Hf H):∀z∈[pth,bgd,D.kd,D.sd,D.rd],Mu H z:=fun z hz=>by
 obtain⟨kb,ks,e1,_⟩:=h.bgi.e
 obtain⟨kw,ws,e2,_⟩:=h.so.ek
 obtain⟨ks',e3,_⟩:=h.so.es
 obtain⟨kk,rs,e4,_⟩:=h.so.er
 have hz:z=pth\/z=bgd\/z=D.kd\/z=D.sd\/z=D.rd:=by simpa using hz
 rcases hz with rfl | rfl | rfl | rfl | rfl
 ·exact⟨_,h.ep,by simp⟩
 ·exact⟨_,e1,by simp⟩
 ·exact⟨_,e2,by simp⟩
 ·exact⟨_,e3,by simp⟩
 ·exact⟨_,e4,by simp⟩
theorem LpI.path {is':List Nat} (h:LpI CSe CN CS CR D pth bgd n gv rc kg kc kr rm knI odI HfI HI x k0 is kn rmN rkn od bg Hf H) (dec:is'.Pairwise (fun a b=>b<a)) (lt:∀i∈is',i<n) (un:∀i∈is'.dropLast,kn (ak i)=none) (rch:∀i∈is',Rch gv rc kn x (ak i)) (hd:is'.head?=some k0\/(is'=[]/\kn x≠none)) (hm:RB.mv gv rc (stk is,kn,od)=some (stk is',kn,od)):
 LpI CSe CN CS CR D pth bgd n gv rc kg kc kr rm knI odI HfI HI x k0 is' kn rmN rkn od bg Hf (upd H pth (.lst (is'.map fun i=>V.str (ak i)))):=by
 have hb:But [pth] H (upd H pth (.lst (is'.map fun i=>V.str (ak i)))):=But.set _ (by simp)
 have np:=h.np
 simp only[List.mem_cons,List.not_mem_nil,or_false,not_or] at np
 refine⟨h.b.upd _ h.ip,h.sf,h.fm,h.sh,h.so.but hb (fun z hz=> ?_) (fun z=>np.1 (List.mem_singleton.mp z).symm) (fun z=> ?_) (fun z=> ?_),ao,h.fp,h.fb,h.ip,h.ib,h.np,h.nb,h.nn,dec,lt,un,rch,h.le,h.new,h.bgi.off hb (fun z hz=> ?_) (fun z hz=> ?_) (fun z=> ?_),hd,h.fr,h.mv.snoc hm⟩
 ·have:z=pth:=by simpa using hz
  rw[this];exact h.fp
 ·exact np.2.1 (by have:D.sd=pth:=by simpa using z
                   exact this.symm)
 ·exact np.2.2 (by have:D.rd=pth:=by simpa using z
                   exact this.symm)
 ·have:z=pth:=by simpa using hz
  rw[this];exact h.al pth (by simp)
 ·have:z=pth:=by simpa using hz
  rw[this];simp
 ·exact h.nn (by have:bgd=pth:=by simpa using z
                 exact this.symm)
theorem LpI.pop (h:LpI CSe CN CS CR D pth bgd n gv rc kg kc kr rm knI odI HfI HI x k0 (js++[i]) kn rmN rkn od bg Hf H) (hk:kn (ak i)≠none) (ex:x=ak k0):LpI CSe CN CS CR D pth bgd n gv rc kg kc kr rm knI odI HfI HI x k0 js kn rmN rkn od bg Hf (upd H pth (.lst (js.map fun i=>V.str (ak i)))):=by
 have un:=h.un
 rw[List.dropLast_concat] at un
 refine h.path (h.dec.sublist (List.sublist_append_left _ _)) (fun j hj=>h.lt j (by simp[hj])) (fun j hj=>un j ((List.dropLast_sublist _).subset hj)) (fun j hj=>h.rch j (by simp[hj])) ?_ (by rw[yD];exact Hj hk)
 rcases h.hd with z | ⟨z,_⟩
 ·cases js with
  | nil=>
    right
    have:i=k0:=by simpa using z
    exact⟨rfl,by rw[ex,<-this];exact hk⟩
  | cons a js=>left;simpa using z
 ·simp at z
theorem LpI.push {j:Nat}{r:R} (h:LpI CSe CN CS CR D pth bgd n gv rc kg kc kr rm knI odI HfI HI x k0 (js++[i]) kn rmN rkn od bg Hf H) (hk:kn (ak i)=none) (hji:j<i) (hg:gv (ak i)=none) (hr:rc (ak i)=some r) (hs:vV kn r (ak j)) (hz:kn (ak j)=none):LpI CSe CN CS CR D pth bgd n gv rc kg kc kr rm knI odI HfI HI x k0 (js++[i]++[j]) kn rmN rkn od bg Hf (upd H pth (.lst ((js++[i]++[j]).map fun i=>V.str (ak i)))):=by
 have hi:=h.lt i (by simp)
 have un:=h.un
 rw[List.dropLast_concat] at un
 have dec:=h.dec
 rw[List.pairwise_append] at dec
 refine h.path ?_ (fun k hk=> ?_) (fun k hk'=> ?_) (fun k hk'=> ?_) ?_ (by rw[yD (js++[i]),yD];exact Ql hg hk hr (hs.ev hz))
 ·rw[List.pairwise_append]
  refine⟨h.dec,by simp,fun a ha b hb=> ?_⟩
  have hb:b=j:=by simpa using hb
  rw[hb]
  rcases List.mem_append.mp ha with z | z
  ·exact Nat.lt_trans hji (dec.2.2 a z i (by simp))
  ·have:a=i:=by simpa using z
   rw[this];exact hji
 ·rcases List.mem_append.mp hk with z | z
  ·exact h.lt k z
  ·have:k=j:=by simpa using z
   rw[this];omega
 ·rw[List.dropLast_concat] at hk'
  rcases List.mem_append.mp hk' with z | z
  ·exact un k z
  ·have:k=i:=by simpa using z
   rw[this];exact hk
 ·rcases List.mem_append.mp hk' with z | z
  ·exact h.rch k z
  ·have:k=j:=by simpa using z
   rw[this];exact .step (h.rch i (by simp)) hg hr hs
 ·left
  rcases h.hd with z | ⟨z,_⟩
  ·cases js with
   | nil=>simpa using z
   | cons a js=>simpa using z
  ·simp at z
theorem LpI.know {kn':Kn}{Ma:Rm}{rkn':Str->Bool}{od':List Str}{Hf':Hp} (h:LpI CSe CN CS CR D pth bgd n gv rc kg kc kr rm knI odI HfI HI x k0 (js++[i]) kn rmN rkn od bg Hf H) (b:But [D.kd,D.sd,D.rd] H H') (sf:aW Hf Hf') (fm:∀z,Mu H z->Hf z=none->Hf' z=none) (so:uw D n gv rc rm kn' Ma rkn' od' Hf' H') (le:Kn.Le kn kn') (hn:∀y,kn' y≠none->kn y≠none\/y=ak i) (hun:∀y,y≠ak i->kn y=none->kn' y=none) (n26:n<=26) (hm:Mvs gv rc (stk (js++[i]),kn,od) (stk (js++[i]),kn',od')):LpI CSe CN CS CR D pth bgd n gv rc kg kc kr rm knI odI HfI HI x k0 (js++[i]) kn' Ma rkn' od' bg Hf' H':=by
 have hal:=h.al
 have hmu:∀z∈[D.kd,D.sd,D.rd],Mu H z:=fun z hz=>hal z (by simp at hz ⊢;rcases hz with q | q | q<;>simp[q])
 have un:=h.un
 rw[List.dropLast_concat] at un
 have dec:=h.dec
 rw[List.pairwise_append] at dec
 refine⟨h.b.trans b,h.sf.trans sf,fun z m hz=> ?_,h.sh.same sf,so,b _ _ h.np h.ep,fm _ (hal _ (by simp)) h.fp,fm _ (hal _ (by simp)) h.fb,h.ip,h.ib,h.np,h.nb,h.nn,h.dec,h.lt,fun j hj=> ?_,fun j hj=>(h.rch j hj).le le,h.le.trans le,fun y hy=> ?_,((h.bgi.hf fm).off b hmu (fun z hz=>by simp at hz ⊢;rcases hz with q | q | q<;>simp[q]) h.nb).le le, ?_,h.fr,h.mv.trans hm⟩
 ·have hz':=h.fm z m hz
  by_cases hS:z∈[D.kd,D.sd,D.rd]
  ·exact fm z (hmu z hS) hz'
  ·exact fm z (m.but h.b hS) hz'
 ·rw[List.dropLast_concat] at hj
  have hlt:i<j:=dec.2.2 j hj i (by simp)
  have hjn:=h.lt j (by simp[hj])
  exact hun _ (fun z=>by
   have:=jn (show j<26 by omega) (show i<26 by omega) z
   omega) (un j hj)
 ·rcases hn y hy with z | z
  ·exact(h.new y z).imp id fun w=>w.le le
  ·right;rw[z];exact(h.rch i (by simp)).le le
 ·exact h.hd.imp id fun⟨a,_⟩=>by simp at a
theorem LpI.bgs {S:List Addr}{bg':Str->Option SeD} (h:LpI CSe CN CS CR D pth bgd n gv rc kg kc kr rm knI odI HfI HI x k0 is kn rmN rkn od bg Hf H) (b:But S H H') (hS:∀z∈S,HI z=none/\Hf z=none/\z∉[pth,D.kd,D.sd,D.rd]) (hb:BgI CS CR D pth bgd n gv rc kr rm kn bg' Hf H') (hf:∀y A,bg' y=some A->∀z∈A.ft,HI z=none):LpI CSe CN CS CR D pth bgd n gv rc kg kc kr rm knI odI HfI HI x k0 is kn rmN rkn od bg' Hf H':=by
 refine⟨fun c o hc e=>b c o (fun w=>by rw[(hS c w).1] at e;cases e) (h.b c o hc e),h.sf,h.fm,h.sh,h.so.but b (fun z hz=>(hS z hz).2.1) (fun z=>(hS _ z).2.2 (by simp)) (fun z=>(hS _ z).2.2 (by simp)) (fun z=>(hS _ z).2.2 (by simp)),b _ _ (fun z=>(hS _ z).2.2 (by simp)) h.ep,h.fp,h.fb,h.ip,h.ib,h.np,h.nb,h.nn,h.dec,h.lt,h.un,h.rch,h.le,h.new,hb,h.hd,hf,h.mv⟩
theorem LpI.free (h:LpI CSe CN CS CR D pth bgd n gv rc kg kc kr rm knI odI HfI HI x k0 is kn rmN rkn od bg Hf H) {z:Addr} (hz:H z=none):HI z=none/\Hf z=none:=by
 refine⟨iQ h.b hz fun w=>(h.al z (by simp at w ⊢;rcases w with q | q | q<;>simp[q])).some hz, ?_⟩
 cases q:Hf z with
 | none=>rfl
 | some o=>have:=h.so.sm _ _ q;rw[hz] at this;cases this
theorem LpI.begun {H1:Hp}{y:Str}{r:R}{A:SeD}{kb:List (Key×V)} (h:LpI CSe CN CS CR D pth bgd n gv rc kg kc kr rm knI odI HfI HI x k0 is kn rmN rkn od bg Hf H) (s:aW H H1) (hA:∀z∈A.ft,H z=none) (so:vo CS CR kr rm y r kn A H1) (hr:rc y=some r) (hg:gv y=none) (hy:y∈nmK n) (hb:bg y=none) (ebd:H bgd=some (.dK kb)):
 LpI CSe CN CS CR D pth bgd n gv rc kg kc kr rm knI odI HfI HI x k0 is kn rmN rkn od (mq bg y A) Hf (upd H1 bgd (.dK (putK kb (.inr y) (.ref A.s)))):=by
 have nb:=h.nb
 refine h.bgs (S:=[bgd]) ((But.of_same s).trans (But.set _ (by simp))) (fun z hz=> ?_) (h.bgi.new s hA so hr hg hy hb ebd h.so.sm fun z hz=>(h.al z hz).some) (fun x B hB z hz=> ?_)
 ·have:z=bgd:=by simpa using hz
  rw[this]
  exact⟨h.ib,h.fb,fun w=>by
   rcases List.mem_cons.mp w with q | q
   ·exact h.nn q.symm
   ·exact nb q⟩
 ·unfold mq at hB
  by_cases w:x=y
  ·rw[if_pos w] at hB;cases hB
   exact(h.free (hA z hz)).1
  ·rw[if_neg w] at hB;exact h.fr x B hB z hz
theorem LpI.gone {y:Str}{r:R}{A A':SeD} (h:LpI CSe CN CS CR D pth bgd n gv rc kg kc kr rm knI odI HfI HI x k0 is kn rmN rkn od bg Hf H) (hy:bg y=some A) (b:But A.ft H H') (so:vo CS CR kr rm y r kn A' H') (hr:rc y=some r) (hg:gv y=none)
 (es:A'.s=A.s) (erk:A'.rk=A.rk) (e1:A'.a1=A.a1) (e2:A'.a2=A.a2) (e3:A'.a3=A.a3) (efl:A'.fl=A.fl\/H A'.fl=none):LpI CSe CN CS CR D pth bgd n gv rc kg kc kr rm knI odI HfI HI x k0 is kn rmN rkn od (mq bg y A') Hf H':=by
 refine h.bgs (S:=A.ft) b (fun z hz=> ?_) (h.bgi.set hy b so hr hg es erk e1 e2 e3 efl h.so.sm fun z hz=>(h.al z hz).some) (fun x B hB z hz=> ?_)
 ·obtain⟨a1,a2,a3⟩:=h.bgi.al y A hy z hz
  exact⟨h.fr y A hy z hz,a2,fun w=>a3 (by
   simp only[List.mem_cons,List.not_mem_nil,or_false] at w ⊢
   rcases w with q | q | q | q
   ·exact .inl q
   ·exact .inr (.inr (.inl q))
   ·exact .inr (.inr (.inr (.inl q)))
   ·exact .inr (.inr (.inr (.inr q))))⟩
 ·unfold mq at hB
  by_cases w:x=y
  ·rw[if_pos w] at hB;cases hB
   have hz:z=A'.s\/z=A'.fl\/z=A'.rk\/z=A'.a1\/z=A'.a2\/z=A'.a3:=by simpa [SeD.ft] using hz
   rcases hz with q | q | q | q | q | q
   ·rw[q,es];exact h.fr y A hy _ (by simp[SeD.ft])
   ·rcases efl with w | w
    ·rw[q,w];exact h.fr y A hy _ (by simp[SeD.ft])
    ·rw[q];exact(h.free w).1
   ·rw[q,erk];exact h.fr y A hy _ (by simp[SeD.ft])
   ·rw[q,e1];exact h.fr y A hy _ (by simp[SeD.ft])
   ·rw[q,e2];exact h.fr y A hy _ (by simp[SeD.ft])
   ·rw[q,e3];exact h.fr y A hy _ (by simp[SeD.ft])
  ·rw[if_neg w] at hB;exact h.fr x B hB z hz
theorem uw.giv {y:Str}{v:Int}{kw:List (Key×V)}{ws:List Str} (h:uw D n gv rc rm kn rmN rkn od Hf H) (ek:H D.kd=some (.dK kw)) (kk:iz kw ws) (hk:∀x,cO kw (.inr x)=(kn x).map V.int) (hy:y∈nmK n) (hg:gv y=some v) (ne:D.kd≠D.sd/\D.kd≠D.rd/\D.sd≠D.rd):uw D n gv rc rm (kn.put y v) rmN rkn od Hf (upd H D.kd (.dK (putK kw (.inr y) (.int v))))/\Kn.Le kn (kn.put y v):=by
 have hn:kn y=none\/kn y=some v:=by
  cases z:kn y with
  | none=>exact .inl rfl
  | some u=>
    rcases(h.ok.a y u z).2 with w | ⟨w,_⟩
    ·rw[hg] at w;cases w;exact .inr rfl
    ·rw[hg] at w;cases w
 obtain⟨sm,fk,fs,fr,_,⟨ks,e2,r2⟩,⟨kk',rs,e3,r3⟩,ok,md⟩:=h
 have hs:aW Hf (upd H D.kd (.dK (putK kw (.inr y) (.int v)))):=fun z o e=>(au (fun w=>by rw[w,fk] at e;cases e)).trans (sm z o e)
 rcases hn with z | z
 ·have le:=Kn.lG (v:=v) z
  have hyw:y∉ws:=kk.none.mp (by rw[hk,z];rfl)
  exact⟨⟨hs,fk,fs,fr,⟨_,_,ao,kk.oK hyw _,vh hk y v⟩,⟨ks,(au (Ne.symm ne.1)).trans e2,r2⟩,⟨kk',rs,(au (Ne.symm ne.2.1)).trans e3,r3⟩,ok.Wz hy z hg,fun x r ps u e=>(md x r ps u e).le le⟩,le⟩
 ·have hyw:y∈ws:=Decidable.byContradiction fun w=>by
   have:=kk.none.mpr w
   rw[hk,z] at this;cases this
  have eq:kn.put y v=kn:=by
   funext x
   unfold Kn.put
   by_cases w:x=y
   ·rw[if_pos w,w,z]
   ·rw[if_neg w]
  rw[eq]
  refine⟨⟨hs,fk,fs,fr,⟨_,_,ao,kk.JZ hyw _,fun x=> ?_⟩,⟨ks,(au (Ne.symm ne.1)).trans e2,r2⟩,⟨kk',rs,(au (Ne.symm ne.2.1)).trans e3,r3⟩,ok,md⟩,Kn.Le.refl _⟩
  have:=vh hk y v x
  rw[eq] at this;exact this
theorem Mg (hl:js.length<=17) (h:∀j∈js,kn (ak j)=none):EY n kn js<=60 * Og kn n+20 - js.length:=by
 rcases List.eq_nil_or_concat js with z | ⟨ks,j,z⟩
 ·subst z;exact Nat.zero_le _
 ·rw[List.concat_eq_append] at z
  subst z
  rw[o8 (h j (by simp)),List.length_append]
  exact Nat.le_refl _
end
end RB
set_option maxRecDepth 100000
namespace L2
open PySem PySem.Spec PyProof.Rows RB
section
variable {X:Cx}{tg:Expr}
def Um (tl:TE):TI:=fun σ H R=>tl σ H fun x H1=>∃a o kvs,x= .ref a/\H1 a=some (.frz o (.dK kvs))/\R (Itd a o kvs) H1
theorem Uo {l:Expr}{tl:TE} (hl:PE X l tl):PI X tg l (Um tl):=by
 intro pins s σ H R I h
 refine thn (hl pins s σ H _ I h) fun v s1 ⟨x,H1,I1,r1,q1⟩=> ?_
 obtain⟨a,o,kvs,e,hq,q⟩:=q1
 subst e
 cases r1
 obtain⟨ho,hz,lo,vs,hkv,hd⟩:=(show fH X.prog X.w H1 s1.heap a (.frz o (.dK kvs)) from I1.hok a _ hq)
 obtain⟨o',es,ep,ho',hx,hdat,hk,hp,hn⟩:=id hd
 rw[ho] at ho'
 cases ho'
 have hl:=(wJ hkv).1
 refine wpAny_pyIter_dict lo ⟨o,es,ho,hx,hdat,hk,hp,hn⟩ ?_
 have hlt:a<s1.heap.objs.size:=Heap.lt_size ho
 rw[<-hl]
 refine⟨s1.heap.objs.size,[s1.heap.objs.size],_,_,_,rfl,I1.kept (t':=s1.toks) fun b o e=>Heap.get?_push_of_some _ e,Js (Nat.ne_of_lt hlt) hkv hx hdat hk hp hn,⟨_,Heap.get?_push_size _ rfl,rfl,rfl⟩,fun b hb=> ?_,q⟩
 have e:b=s1.heap.objs.size:=by simpa using hb
 subst e
 exact I1.MP (Nat.le_refl _) (I1.hok.fresh (Nat.le_refl _))
theorem Up {l:Expr}{tl:TE} (hl:QE X l tl):QI X tg l (Um tl):=⟨Uo hl.h⟩
end
theorem Jy {a:Addr}{o:Obj}{kvs:List (Key×V)}{g:TG}{tc:TT}{te:TE}{σ:St}{H:Hp}{D:Addr}{Q:VK} (Pv:Nat->St->Hp->Prop) (h0:Pv 0 σ (upd H D (.lst []))) (hl:∀i σ H,i<=kvs.length->Pv i σ H->H a=some (.frz o (.dK kvs)))
 (hs:∀i k v σ' H',kvs[i]? =some (k,v)->Pv i σ' H'->g (kV k) σ' H' fun σ3 H3=>tc σ3 H3 fun b H4=>
   if b=true then te σ3 H4 fun y H5=>∃ys,H5 D=some (.lst ys)/\ys.length<sizeLine/\Pv (i+1) σ3 (upd H5 D (.lst (ys++[y]))) else Pv (i+1) σ3 H4) (hd:∀σ' H',Pv kvs.length σ' H'->Q (.ref D) H'):
 Jp (Itd a o kvs) g tc te D σ (upd H D (.lst [])) Q:=by
 refine⟨fun i m σ H=>m=kvs.length - i/\i<=kvs.length/\Pv i σ H,⟨kvs.length,by simp,Nat.zero_le _,h0⟩, ?_⟩
 rintro i m σ H ⟨rfl,hi,p⟩
 have q:=hl i σ H hi p
 by_cases hlt:i<kvs.length
 ·refine .inr ⟨⟨hlt,q⟩,Pv (i+1),fun σ' H' p'=>⟨kvs.length - (i+1),by omega,rfl,hlt,p'⟩,fun x H' y=> ?_⟩
  obtain⟨e,k,v,hk,ex⟩:=y
  subst e ex
  exact hs i k v σ _ hk p
 ·have e:i=kvs.length:=by omega
  subst e
  exact .inl ⟨⟨Nat.le_refl _,q⟩,hd σ H p⟩
end L2
namespace RB
open PySem L2 PySem.Spec PyProof.Rows
def Uq (CSe:Addr):Sp:=fun vs H Q _=>∃(D:SrD) (ks kk:List (Key×V)) (ss:List Str) (rkn:Str->Bool),vs=[.ref D.so]/\H D.so=some (.ins CSe D.dx (srF D.g D.c D.o D.kd D.sd D.rd))/\H D.sd=some (.dK ks)/\iz ks ss/\ss.length<=100/\D.sd≠D.rd/\H D.rd=some (.dK kk)/\(∀x,cO kk (.inr x)=if rkn x=true then some (.bl true) else none)/\
 ∀(l:Addr) (o:Obj) (H':Hp),But [D.sd] H H'->H' D.sd=some (.frz o (.dK ks))->H l=none->H' l=some (.lst ((ss.filter rkn).map V.str))->Q (.ref l) H'
def Ur (CSe:Addr):Sp:=fun vs H Q _=>∃(D:SrD) (o:Obj) (ks kk:List (Key×V)) (ss:List Str) (rkn:Str->Bool),vs=[.ref D.so]/\H D.so=some (.ins CSe D.dx (srF D.g D.c D.o D.kd D.sd D.rd))/\H D.sd=some (.frz o (.dK ks))/\iz ks ss/\ss.length<=100/\H D.rd=some (.dK kk)/\(∀x,cO kk (.inr x)=if rkn x=true then some (.bl true) else none)/\
 ∀(l:Addr) (H':Hp),aW H H'->H l=none->H' l=some (.lst ((ss.filter fun x=> !rkn x).map V.str))->Q (.ref l) H'
def Hq (CSe CN:Addr):Sp:=fun vs H Q _=>∃(h g c o dxo rcd wl:Addr) (n:Nat) (gv:Kn) (rc:Rn) (kg kc kr:List (Key×V)) (rm:Rm) (ws:List Str),vs=[.ref h, .ref o, .ref wl]/\H h=some (.tup [.ref g, .ref c])/\H g=some (.dK kg)/\H c=some (.dK kc)/\Bld H kg kc n gv rc/\n<=17/\H o=some (.ins CN dxo (nrF rcd))/\H rcd=some (.dK kr)/\pQ H kr n rm/\H wl=some (.lst (ws.map V.str))/\(∀x∈ws,x∈nmK n)/\
 ∀(D:SrD) (kn:Kn) (rmN:Rm) (rkn:Str->Bool) (od:List Str) (Hf H':Hp),aW H H'->aW H Hf->SrH CSe CN D n gv rc kg kc kr rm Hf->uw D n gv rc rm kn rmN rkn od Hf H'->Runs gv rc ws (kn0,[]) (kn,od)->H D.kd=none->H D.sd=none->H D.rd=none->(∀x∈ws,kn x≠none)->(∀y,kn y≠none->∃x∈ws,Rch gv rc kn x y)->Q (.ref D.so) H'
structure Built (n:Nat) (gv:Kn) (rc:Rn) (rm:Rm) (ws:List Str) (kn:Kn) (rmN:Rm) (rkn:Str->Bool):Prop where
 ok:J0 n gv rc kn rmN
 md:∀x r ps v,rmN x=some (r,ps,v)->Rcd rm x r kn ps v (rkn x)
 w:∀x∈ws,kn x≠none
 r:∀y,kn y≠none->∃x∈ws,Rch gv rc kn x y
 rn:∀x,rkn x=true->rmN x≠none
def Qq:Sp:=fun vs H Q _=>∃(h g c rcd wl:Addr) (n:Nat) (gv:Kn) (rc:Rn) (kr:List (Key×V)) (rm:Rm) (ws:List Str),vs=[.ref h, .ref rcd, .ref wl]/\mD H h g c n gv rc/\n<=17/\H rcd=some (.dK kr)/\pQ H kr n rm/\H wl=some (.lst (ws.map V.str))/\(∀x∈ws,x∈nmK n)/\
 ∀(t kd sd lm lk:Addr) (kw ks:List (Key×V)) (wn sn:List Str) (kn:Kn) (rmN:Rm) (rkn:Str->Bool) (o:Obj) (H':Hp),aW H H'->H' t=some (.tup [.ref kd, .ref sd, .ref lm, .ref lk])->H kd=none->H sd=none->H lm=none->H lk=none->kd≠sd->lm≠lk->H' kd=some (.dK kw)->iz kw wn->(∀x,cO kw (.inr x)=(kn x).map V.int)->H' sd=some (.frz o (.dK ks))->iz ks sn->pQ H' ks n rmN->H' lm=some (.lst ((sn.filter rkn).map V.str))->H' lk=some (.lst ((sn.filter fun x=> !rkn x).map V.str))->Built n gv rc rm ws kn rmN rkn->Runs gv rc ws (kn0,[]) (kn,sn)->Q (.ref t) H'
end RB
set_option maxRecDepth 100000
namespace RB
open PySem L2 PySem.Spec PyProof.Rows
section
variable {n:Nat}{gv:Kn}{rc:Rn}{kn1 kn2:Kn}{rm1 rm2:Rm}{ws:List Str}
end
end RB
set_option maxRecDepth 100000
namespace L2
open PySem PySem.Spec PyProof.Rows RB
section
variable {X:Cx}{A:Around}{E:Value->Shared->Prop}{pins:List (Addr×Obj)}{σ:St}{H:Hp}{s:Shared}{a b:Addr}{kvs more:List (Key×V)}
theorem Us {Q:Value->Shared->Prop} (I:Inv X pins σ H s) (e:H a=some (.dK kvs)) (e2:Rd H b (.dK more)) (hne:a≠b) (hz:kvs.length+more.length<=sizeLine) (h:∀s',Inv X pins σ (upd H a (.dK (jj kvs more))) s'->Q .none s'):wpAny (model X.prog X.w) A (call (.builtin "dict.update") [.ref a, .ref b]) Q E s:=by
 obtain⟨z,hd,vs,rel,dd⟩:=K1 I.hok e
 obtain⟨z2,hd2,ws,adU,dd2⟩:=Bu I.hok e2
 refine call_meetsIn PySem.F.slot_dict_update dd.typeIs PySem.F.entry_dict_update (PySem.F.args_dict_update_2 _ _) (meets_dict_update (dH X.prog X.w) a b hne hd2) ⟨vs,ws,dd,dd2,by rw[<-rel.length,<-adU.length];exact hz,fun h' dd' _ hs=>h _ ?_⟩
 have he:∃q,h'.get? a=some q:=let ⟨q,_,_,hq,_⟩:=dd';⟨q,hq⟩
 exact Fz (t':=s.toks) I (by rw[e];exact True.intro) hs he (Ni (Nat.le_trans (sY _ _) hz) hd (KV.merge adU rel) dd')
end
def YX (td ty:TE):TE:=fun σ H Q=>td σ H fun x H1=>∃a,x= .ref a/\IsD H1 a/\ty σ H1 fun y H2=>∃b kvs more,H2 a=some (.dK kvs)/\y= .ref b/\Rd H2 b (.dK more)/\a≠b/\kvs.length+more.length<=sizeLine/\Q .non (upd H2 a (.dK (jj kvs more)))
section
variable {X:Cx}{o e:Expr}{td ty:TE}{apos cpos:Pos}
theorem WY (ho:PE X o td) (he:PE X e ty) (m:M1 X o "update" apos e cpos):PE X (.Call (.Attribute o "update" apos) [e] [] cpos) (YX td ty):=by
 intro pins s σ H Q I h
 refine wpAny_Call_method m.base m.few m.line PySem.F.plainAttrs_dict PySem.F.slot_dict_update PySem.F.type_dict_update (thn (ho pins s σ H _ I h) fun u s1 ⟨x,H1,I1,rx,a,ex,d,q1⟩=> ?_)
 subst ex
 obtain rfl:u=Value.ref a:=rx
 obtain⟨t1,t2,_⟩:=Su I1 d
 refine⟨t1,t2, ?_⟩
 rw[m.trees]
 refine Calls.callWith_builtin rfl (Calls.evalArgs_plain (Calls.spliced_cons (thn (he pins s1 σ H1 _ I1 q1) fun iv s2 ⟨y,H2,I2,ry,b,kvs,more,ea,ey,eb,hne,hz,q2⟩=>Calls.spliced_nil ?_)))
 subst ey
 obtain rfl:iv=Value.ref b:=ry
 exact Us I2 ea eb hne hz fun s3 I3=>⟨.non,_,I3,rfl,q2⟩
theorem Qs (ho:QE X o td) (he:QE X e ty) (m:M1 X o "update" apos e cpos):QE X (.Call (.Attribute o "update" apos) [e] [] cpos) (YX td ty):=⟨WY ho.h he.h m⟩
end
end L2
namespace RB
open PySem L2 PySem.Spec PyProof.Rows
def Kn.over (a b:Kn):Kn:=fun x=>match b x with
 | some v=>some v
 | none=>a x
theorem Hr:∀{more kvs:List (Key×V)},(more.map (·.1)).Nodup->∀j,cO (jj kvs more) j=(match cO more j with | some v=>some v | none=>cO kvs j)
 |[],kvs,_,j=>by rw[uf];rfl
 | p::more,kvs,hn,j=>by
   rw[List.map_cons,List.nodup_cons] at hn
   have ih:=Hr (kvs:=putK kvs p.1 p.2) hn.2 j
   show cO (jj (putK kvs p.1 p.2) more) j=_
   rw[ih,jo]
   by_cases z:p.1=j
   ·have:cO more j=none:=by
     cases e:cO more j with
     | none=>rfl
     | some v=>exact absurd (z▸V4 e) hn.1
    rw[this,jF z,if_pos z.symm]
   ·rw[jG z]
    cases e:cO more j with
    | none=>simp only;rw[if_neg (Ne.symm z)]
    | some v=>rfl
theorem iz.nd1 {kvs:List (Key×V)}{ks:List Str} (h:iz kvs ks):(kvs.map (·.1)).Nodup:=by
 rw[h.k]
 exact(List.pairwise_map.mpr (h.nd.imp fun hab z=>hab (Sum.inr.inj z)))
theorem iz.merge:∀{more kvs:List (Key×V)}{ns gs:List Str},iz kvs gs->more.map (·.1)=ns.map Sum.inr->(∀x∈ns,x∈gs)->iz (jj kvs more) gs
 |[],kvs,ns,gs,h,_,_=>h
 | p::more,kvs,[],gs,h,hk,_=>by simp at hk
 | (k,v)::more,kvs,y::ns,gs,h,hk,hi=>by
   simp only[List.map_cons,List.cons.injEq] at hk
   obtain⟨rfl,h2⟩:=hk
   exact iz.merge (more:=more) (kvs:=putK kvs (.inr y) v) (ns:=ns) (h.JZ (hi y (by simp)) v) h2 fun x hx=>hi x (by simp[hx])
theorem Ut {kg kc:List (Key×V)}{gv ch:Kn}{ns:List Str} (hg:∀x,cO kg (.inr x)=(gv x).map V.int) (hc:∀x,cO kc (.inr x)=(ch x).map V.int) (k:iz kc ns):∀x,cO (jj kg kc) (.inr x)=(gv.over ch x).map V.int:=fun x=>by
 rw[Hr k.nd1,hc,hg]
 unfold Kn.over
 cases ch x<;>rfl
end RB
set_option maxRecDepth 100000
namespace L2
open PySem PySem.Spec PyProof.Rows RB
section
variable {X:Cx}{e lo hi st:Expr}{te tl th ts:TE}{pos p2:Pos}
end
end L2
set_option maxRecDepth 100000
namespace L2
open PySem PySem.Spec PyProof.Rows
end L2
set_option maxRecDepth 100000
namespace L2
open PySem PySem.Spec PyProof.Rows RB
theorem Uu {X:Cx}{pins:List (Addr×Obj)}{s:Shared}{σ:St}{H:Hp}{A:Around}{x y:V}{z z':Value}{d:PyData} (I:Inv X pins σ H s) (rz:RelV x z) (rz':RelV y z') (h1:oE X.K H x d) (h2:oE X.K H y d) (sh:SeqAt.shaped d=true) (hu:A.in1.units+64<cLine):SeqAt.EqAt A.in1 s z z' true:=by
 obtain⟨as,r1⟩:=h1.reads I rz
 obtain⟨bs,r2⟩:=h2.reads I rz'
 have:=PySem.W.keq_at r1 r2 sh sh hu
 rw[PySem.SeqAt.eqv_refl d (zT sh)] at this
 exact this
theorem abb {P:Program}{w:World} (p q:Addr) (xs ys:Array Value) (n m:Nat) (d1 d2:Option Addr) (t1 t2:Array (Option Value)) (hxy:xs.size=ys.size) (k:Nat):
 ∀i:Nat,xs.size - i=k->MeetsIn P w (Builtin.«list.__eq__.loop» ⟨[.ref p, .ref q,rawInt i,rawInt 3],[]⟩)
  (fun A R s=>s.heap.get? p=some {cls:= .type "list",dict:=d1,data:= .seq xs n,slots:=t1}/\s.heap.get? q=some {cls:= .type "list",dict:=d2,data:= .seq ys m,slots:=t2}/\
    (∀j (u:j<xs.size) (v:j<ys.size),yH P w A.in1 s xs[j] ys[j])/\R (.ok (.ret (.bool false))) s):=by
 induction k with
 | zero=>
   intro i hi A R s z
   obtain⟨hp,g,d,tk,os⟩:=s
   obtain⟨z1,z2,ze,z⟩:=z
   wp_walk using wpAny_loadPart' z1,wpAny_loadPart' z2
   have i1:xs[((i:Nat):Int).toNat]? =none:=by simp;omega
   have i2:ys[((i:Nat):Int).toNat]? =none:=by simp;omega
   rw[i1,i2]
   wp_walk using wpAny_loadPart' z1,wpAny_loadPart' z2
   show R (.ok (.ret (.bool (xs.size !=ys.size)))) _
   rw[hxy];simpa using z
 | succ k ih=>
   intro i hi A R s z
   obtain⟨hp,g,d,tk,os⟩:=s
   obtain⟨z1,z2,ze,z⟩:=z
   wp_walk using wpAny_loadPart' z1,wpAny_loadPart' z2
   have l1:i<xs.size:=by omega
   have l2:i<ys.size:=by omega
   have i1:xs[((i:Nat):Int).toNat]? =some xs[i]:=by simp[l1]
   have i2:ys[((i:Nat):Int).toNat]? =some ys[i]:=by simp[l2]
   rw[i1,i2]
   refine wpAny_bind (ze i l1 l2 _ _ ?_)
   wp_walk
   rw[show((i:Int)+1)=((i+1:Nat):Int) by push_cast;rfl]
   exact⟨plainId_quiet MeetsSeq3.plain_eq_loop _,codeAny_builtin MeetsSeq3.entry_eq_loop (by
    rw[Around.under_plainId MeetsSeq3.plain_eq_loop _]
    exact ih (i+1) (by omega) A R _ ⟨z1,z2,ze,z⟩)⟩
theorem Oh {P:Program}{w:World}{A:Around}{s:Shared}{E:Value->Shared->Prop}{Q:Value->Shared->Prop}{p q:Addr}{xs ys:Array Value} (hp:s.heap.IsList p xs) (hq:s.heap.IsList q ys) (hxy:xs.size=ys.size) (hu:A.units<cLine)
 (he:∀j (u:j<xs.size) (v:j<ys.size),yH P w A.in1 s xs[j] ys[j]) (h:Q (.bool false) s):wpAny (model P w) A (compareOp .NotEq (.ref p) (.ref q)) Q E s:=by
 obtain⟨⟨c1,d1,dt1,t1⟩,hp,hc1,n,hd1⟩:=hp
 obtain⟨⟨c2,d2,dt2,t2⟩,hq,hc2,m,hd2⟩:=hq
 simp only at hc1 hd1 hc2 hd2
 subst hc1 hd1 hc2 hd2
 have hne:¬(xs.size !=ys.size)=true:=by simp[hxy]
 have f3:=AutoSeq1.sub_list_list
 have g:MeetsIn P w (Builtin.«list.__ne__» ⟨[.ref p, .ref q],[]⟩) (fun A R s=>s.heap.get? p=some {cls:= .type "list",dict:=d1,data:= .seq xs n,slots:=t1}/\s.heap.get? q=some {cls:= .type "list",dict:=d2,data:= .seq ys m,slots:=t2}/\
       (∀j (u:j<xs.size) (v:j<ys.size),yH P w A.in1 s xs[j] ys[j])/\R (.ok (.ret (.bool false))) s):=by
  intro A R s z
  obtain⟨hp,g,d,tk,os⟩:=s
  obtain⟨z1,z2,ze,z⟩:=z
  wp_walk using AutoSeq1.wpAny_loadPart' z1,AutoSeq1.wpAny_loadPart' z2
  exact⟨plainId_quiet MeetsSeq3.plain_eq_loop _,codeAny_builtin MeetsSeq3.entry_eq_loop (by
   rw[Around.under_plainId MeetsSeq3.plain_eq_loop _]
   exact abb p q xs ys n m d1 d2 t1 t2 hxy _ 0 rfl A R _ ⟨z1,z2,ze,z⟩)⟩
 have hT:s.TypeIs (.ref p) "list":=⟨_,hp,rfl⟩
 refine wpAny_richCompare_same_room (op:= .NotEq) hT ⟨_,hq,rfl⟩ F.slot_list_ne (call_meetsIn F.slot_list_ne hT F.entry_list_ne (F.args_list_ne_2 _ _) g ⟨hp,hq,he, ?_⟩) hu
 exact⟨(fun x=>nomatch x),h⟩
def abd (K:PySem.W.Frag) (H:Hp) (x y:V):Prop:=ahC H x y\/∃d,oE K H x d/\oE K H y d/\SeqAt.shaped d=true
theorem abe {X:Cx}{pins:List (Addr×Obj)}{s:Shared}{σ:St}{H:Hp}{A:Around}{x y:V}{z z':Value} (I:Inv X pins σ H s) (rz:RelV x z) (rz':RelV y z') (h:abd X.K H x y) (hu:A.units+66<cLine):yH X.prog X.w A.in1 s z z':=by
 have k1:A.in1.units=A.units+1:=rfl
 have k2:A.in1.in1.units=A.units+2:=rfl
 rcases h with(h | ⟨a',b',x1,x2,y1,y2,e3,e4,ha',hb',h1,h2⟩) | ⟨d,h1,h2,sh⟩
 ·exact J4 I rz rz' h (by omega)
 ·rw[e3] at rz
  rw[e4] at rz'
  cases rz
  cases rz'
  obtain⟨us,ru,tu,_⟩:=I.tuple (SqT.of ha')
  obtain⟨ws,rw',tw,_⟩:=I.tuple (SqT.of hb')
  obtain⟨u1,u2,rfl,r1,r2⟩:=vals2 ru
  obtain⟨w1,w2,rfl,r3,r4⟩:=vals2 rw'
  exact Oc tu tw (J4 I r1 r3 h1 (by omega)) (J4 I r2 r4 h2 (by omega)) (by omega)
 ·exact yH.of (Uu I rz rz' h1 h2 sh (by omega))
def ahD (K:PySem.W.Frag) (neg:Bool):R2:=fun x y H Q=>∃a b xs ys,x= .ref a/\y= .ref b/\SqL K H a xs/\SqL K H b ys/\xs.length=ys.length/\(∀(i:Nat) x y,xs[i]? =some x->ys[i]? =some y->abd K H x y)/\Q (.bl (!neg)) H
theorem W0 {X:Cx}{pins:List (Addr×Obj)}{s:Shared}{σ:St}{H:Hp}{xs ys:List V}{its its':List Value} (I:Inv X pins σ H s) (r:Vals xs its) (r':Vals ys its') (he:∀(i:Nat) x y,xs[i]? =some x->ys[i]? =some y->abd X.K H x y) (hu:X.A.units+66<cLine):∀j (u:j<its.toArray.size) (v:j<its'.toArray.size),yH X.prog X.w X.A.in1 s its.toArray[j] its'.toArray[j]:=fun j u v=>by
 have l1:=r.length
 have l2:=r'.length
 have u':j<its.length:=by simpa using u
 have v':j<its'.length:=by simpa using v
 have hx:xs[j]? =some (xs[j]'(by omega)):=List.getElem?_eq_getElem _
 have hy:ys[j]? =some (ys[j]'(by omega)):=List.getElem?_eq_getElem _
 obtain⟨z,hz,rz⟩:=r.get hx
 obtain⟨z',hz',rz'⟩:=r'.get hy
 have e1:its.toArray[j]=z:=by
  have:its[j]? =some its[j]:=List.getElem?_eq_getElem u'
  rw[this] at hz;simpa using Option.some.inj hz
 have e2:its'.toArray[j]=z':=by
  have:its'[j]? =some its'[j]:=List.getElem?_eq_getElem v'
  rw[this] at hz';simpa using Option.some.inj hz'
 rw[e1,e2]
 exact abe I rz rz' (he j _ _ hx hy) hu
theorem Rt {X:Cx} (hu:X.A.units+66<cLine):QOp X (compareOp .NotEq) (ahD X.K true):=⟨fun pins s σ H x y v u Q I rx ry h=>by
 obtain⟨a,b,xs,ys,rfl,rfl,ha,hb,hl,he,q⟩:=h
 cases rx
 cases ry
 obtain⟨its,r,pl,_⟩:=I.list ha
 obtain⟨its',r',pl',_⟩:=I.list hb
 have l1:=r.length
 have l2:=r'.length
 exact Oh pl.isList pl'.isList (by simp;omega) (by omega) (W0 I r r' he hu) ⟨.bl false,H,I,rfl,q⟩⟩
end L2
set_option maxRecDepth 100000
namespace L2
open PySem PySem.Spec PyProof.Rows RB
theorem mJ.u66 {k:Nat}{A:Around} (r:mJ k A):A.units+66<cLine:=by have:=r.un;omega
section
variable {X:Cx}
end
end L2
namespace RB
open PySem L2 PySem.Spec PyProof.Rows
section
variable {H H':Hp}{kp kq:List (Key×V)}{gv:Kn}{rc:Rn}{rm:Rm}{kn:Kn}{ks qs:List Str}
end
theorem Uv {kw:List (Key×V)}{ws:List Str}{kn:Kn} (k:iz kw ws) (h:∀x,cO kw (.inr x)=(kn x).map V.int) (x:Str):x∈ws ↔ kn x≠none:=by
 constructor
 ·intro hx z
  exact k.none.mp (by rw[h,z];rfl) hx
 ·intro hx
  refine Decidable.byContradiction fun z=>hx ?_
  have:=k.none.mpr z
  rw[h] at this
  cases e:kn x with
  | none=>rfl
  | some u=>rw[e] at this;cases this
end RB
set_option maxRecDepth 100000
namespace RB
open PySem L2 PySem.Spec PyProof.Rows
namespace SJ
theorem ahE:typeLookup (.type "dict") "__len__"=pure (some (.builtin "dict.__len__")):=by
 rw[typeLookup_type,builtinLookup_eq_fast]
 kernel_rfl
theorem ahF:isSubtype (.type "dict") (.type "dict")=pure true:=by
 rw[isSubtype_type]
 kernel_rfl
end SJ
section
variable {prog:Program}{w:World}{A:Around}{E:Value->Shared->Prop}{s:Shared}
theorem Uw {a:Addr}{vs:List (Key×Value)}{ep:Nat}{Q:List Value->Shared->Prop} (hh:A.handled=none) (hlo:(a==sysModules)=false) (hD:s.heap.DictAt (dH prog w) a vs ep) (hz:vs.length<=sizeLine)
 (q:∀(us:List Value) (h':Heap) (tk:Nat),us.length=vs.length->(∀(i:Nat) u,us[i]? =some u->∃k x,vs[i]? =some (k,x)/\(dH prog w).is k u=true)->(∀b o,s.heap.get? b=some o->h'.get? b=some o)->s.heap.objs.size<h'.objs.size->Q us {s with heap:=h',toks:=tk}):
 wpAny (model prog w) A (collect (.ref a)) Q E s:=by
 obtain⟨o,es,ho,hx,hdat,hk,hp,hn⟩:=id hD
 have hlt:=Heap.lt_size ho
 unfold collect
 refine wpAny_bind (wpAny_runValue (codeAny_builtin PySem.F.entry_proto_collect ?_))
 rw[Around.under_plainId PySem.F.plain_proto_collect _]
 show wpAny _ A.in1 (newList []>>=fun l=>PySem.again (.builtin "list.__iadd__" ⟨[l, .ref a],[]⟩)) _ _ s
 refine wpAny_bind (wpAny_newObj_type (wpAny_pure ⟨plainId_quiet PySem.F.plain_list_iadd _,codeAny_builtin PySem.F.entry_list_iadd ?_⟩))
 rw[Around.under_plainId PySem.F.plain_list_iadd _]
 show wpAny _ A.in1 (Builtin.List.listExtendWith (.ref s.heap.objs.size) (.ref a) (.ref s.heap.objs.size)) _ _ _
 unfold Builtin.List.listExtendWith
 have hD1:(s.heap.push {cls:= .type "list",data:= .seq ([]:List Value).toArray}).DictAt (dH prog w) a vs ep:=hD.push _
 have hT:Shared.TypeIs {s with heap:=s.heap.push {cls:= .type "list",data:= .seq ([]:List Value).toArray}} (.ref a) "dict":=hD1.dictOf.typeIs
 refine wpAny_bind (wpAny_typeOf hT ?_)
 have e1:Builtin.List.listSameRef (.ref s.heap.objs.size) (.ref a)=false:=by simpa [Builtin.List.listSameRef] using Nat.ne_of_gt hlt
 rw[if_neg (by rw[e1];decide)]
 refine wpAny_bind (wpAny_pyIter_dict (knd:=dH prog w) hlo hD1 ?_)
 refine wpAny_bind (wpAny_holding ?_)
 unfold Builtin.List.listLengthHint
 have hD2:((s.heap.push {cls:= .type "list",data:= .seq ([]:List Value).toArray}).push {cls:= .type "dict_keyiterator",data:= .fields #[.ref a, .int 0 0, .int vs.length 0, .int ep 0]}).DictAt (dH prog w) a vs ep:=hD1.push _
 have hT2:Shared.TypeIs {s with heap:=(s.heap.push {cls:= .type "list",data:= .seq ([]:List Value).toArray}).push {cls:= .type "dict_keyiterator",data:= .fields #[.ref a, .int 0 0, .int vs.length 0, .int ep 0]}} (.ref a) "dict":=hD2.dictOf.typeIs
 refine wpAny_bind (wpAny_specialOf hT2 SJ.ahE ?_)
 generalize hid:("dict.__len__":String)=id0
 (fail_if_success (clear hid id0))
 wp_delta
 rw[show splitId id0=some ("dict","__len__") from by subst hid;decide +kernel]
 subst hid
 refine wpAny_bind (wpAny_isInstance (b:=true) hT2 SJ.ahF ?_)
 rw[if_neg (by decide),if_pos (by decide)]
 refine wpAny_bind (wpAny_typeOf hT2 (wpAny_pure ?_))
 rw[if_pos (by decide)]
 refine wpAny_bind (wpAny_rule ?_)
 have hS1:((s.heap.push {cls:= .type "list",data:= .seq ([]:List Value).toArray}).push {cls:= .type "dict_keyiterator",data:= .fields #[.ref a, .int 0 0, .int vs.length 0, .int ep 0]}).get? s.heap.objs.size=some {cls:= .type "list",dict:=none,data:= .seq #[] 0,slots:= #[]}:=Heap.get?_push_of_some _ (Heap.get?_push_size _ rfl)
 have hsz:(s.heap.push {cls:= .type "list",data:= .seq ([]:List Value).toArray}).objs.size=s.heap.objs.size+1:=Heap.size_push _ _
 have hIt:((s.heap.push {cls:= .type "list",data:= .seq ([]:List Value).toArray}).push {cls:= .type "dict_keyiterator",data:= .fields #[.ref a, .int 0 0, .int vs.length 0, .int ep 0]}).IsKeyIter (s.heap.push {cls:= .type "list",data:= .seq ([]:List Value).toArray}).objs.size a 0 vs.length ep:=⟨_,Heap.get?_push_size _ rfl,rfl,rfl⟩
 have hk2:∀b o,s.heap.get? b=some o->((s.heap.push {cls:= .type "list",data:= .seq ([]:List Value).toArray}).push {cls:= .type "dict_keyiterator",data:= .fields #[.ref a, .int 0 0, .int vs.length 0, .int ep 0]}).get? b=some o:=fun b o z=>Heap.get?_push_of_some _ (Heap.get?_push_of_some _ z)
 have W:=Walks.dictKeys (prog:=prog) (w:=w) (A:=A.in1) (knd:=dH prog w) hh (s.heap.push {cls:= .type "list",data:= .seq ([]:List Value).toArray}).objs.size a (by rw[hsz];exact Nat.ne_of_lt (Nat.lt_succ_of_lt hlt)) vs ep
 have hSf:s.heap.objs.size∉[(s.heap.push {cls:= .type "list",data:= .seq ([]:List Value).toArray}).objs.size,a]:=fun z=>by
  rw[hsz] at z
  rcases List.mem_cons.mp z with y | y
  ·exact absurd y (Nat.ne_of_lt (Nat.lt_succ_self _))
  ·exact absurd (List.mem_singleton.mp y) (Nat.ne_of_gt hlt)
 show wpAny _ A.in1 (Builtin.List.listTouch (.ref s.heap.objs.size)>>=fun _=>PySem.again (.builtin "list.extend.loop" ⟨[.ref s.heap.objs.size, .ref (s.heap.push {cls:= .type "list",data:= .seq ([]:List Value).toArray}).objs.size, .ref s.heap.objs.size],[]⟩)) _ _ _
 generalize (s.heap.push {cls:= .type "list",data:= .seq ([]:List Value).toArray}).push {cls:= .type "dict_keyiterator",data:= .fields #[.ref a, .int 0 0, .int vs.length 0, .int ep 0]}=h2 at *
 generalize hI:(s.heap.push {cls:= .type "list",data:= .seq ([]:List Value).toArray}).objs.size=I at *
 refine wpAny_bind ?_
 show wpAny _ A.in1 (updateSeq s.heap.objs.size (·.push .none)>>=fun _=>updateSeq s.heap.objs.size (·.pop)) _ _ {s with heap:=h2}
 refine wpAny_bind (wpAny_updateSeq hS1 rfl (wpAny_updateSeq (Heap.get?_update_self (Obj.mapSeq (·.push Value.none)) hS1 rfl) rfl ?_))
 have hS3:=Heap.get?_update_self (Obj.mapSeq (·.pop)) (Heap.get?_update_self (Obj.mapSeq (·.push Value.none)) hS1 rfl) rfl
 have oth:∀b o,b≠s.heap.objs.size->h2.get? b=some o->((h2.update s.heap.objs.size (Obj.mapSeq (·.push Value.none))).update s.heap.objs.size (Obj.mapSeq (·.pop))).get? b=some o:=
  fun b o hb e=>(Heap.get?_update_other _ _ (Ne.symm hb)).trans ((Heap.get?_update_other _ _ (Ne.symm hb)).trans e)
 have Wc:=W.toS
 refine wpAny_pure ⟨plainId_quiet PySem.F.plain_extend_loop _,codeAny_extend_loopS Wc hz _ hSf _ vs.length 0 _ _ _ rfl (Nat.zero_le _) (Wc.frame 0 {s with heap:=h2} _ s.toks ⟨hIt,hD2⟩ (Nat.le_refl _) fun b hb o e=>oth b o (fun y=>hSf (y▸hb)) e) hS3 (ItemsOf.nil _) fun s3 ac c' mv hS' hit=> ?_⟩
 show wpAny _ A (load s.heap.objs.size>>=_) _ _ s3
 refine wpAny_bind (wpAny_load hS' ?_)
 obtain⟨h5,g5,d5,tk5,os5⟩:=s3
 have g1:g5=s.gens:=mv.gens
 have g2:d5=s.drawn:=mv.drawn
 have g3:os5=s.os:=mv.os
 subst g1 g2 g3
 refine wpAny_pure (q ac.toList h5 tk5 (by rw[Array.length_toList];exact hit.1) (fun i u hu=> ?_) (fun b o' z=> ?_) (Heap.lt_size hS'))
 ·rw[Array.getElem?_toList] at hu
  exact hit.2 i u hu
 ·have hbl:=Heap.lt_size z
  refine mv.heap b o' (fun y=> ?_) (oth b o' (Nat.ne_of_lt hbl) (hk2 b o' z))
  rcases List.mem_cons.mp y with y | y
  ·exact Nat.lt_irrefl _ (y▸hbl)
  ·rw[List.mem_singleton.mp y,hsz] at hbl
   exact Nat.lt_irrefl _ (Nat.lt_of_succ_lt hbl)
end
end RB
namespace L2
open PySem PySem.Spec PyProof.Rows RB
section
variable {prog:Program}{w:World}{A:Around}{E:Value->Shared->Prop}{s:Shared}{κ:PyProof.Rows.KeyKind}
theorem Mh (hO:κ.OneLt) {v:Value}{Q:Value->Shared->Prop}
 (hc:∀A',A'.handled=A.handled->wpAny (model prog w) A' (collect v) (fun vs s1=>KeysOf κ (pairsOf vs)/\(∀x y r,vs=x::y::r->keyKind' (x::y::r).toArray=pure oneType')/\vs.length<64/\
   ∀t:SortSt,(arrOf t).Perm (pairsOf vs)->SortedToK κ (arrOf t) (pairsOf vs).size->Q (.ref s1.heap.objs.size) {s1 with heap:=sortedHeap (s1.heap.push (seqObj "list" vs.toArray 0)) s1.heap.objs.size vs ((arrOf t).map (·.2))}) E s):
 wpAny (model prog w) A (call (.builtin "sorted") [v]) Q E s:=by
 refine Calls.call_function_entry kind_sorted plain_sorted entry_sorted (args_sorted1 _) ?_
 unfold Builtin.«sorted»
 refine wpAny_bind (m:=checkCount "sorted" 1 1 _) (wpAny_pure ?_)
 refine wpAny_bind (wpAny_mono (hc _ ?_) (fun vs s1 h=> ?_) fun _ _ e=>e)
 ·simp
 obtain⟨h0,hkk,hz,h⟩:=h
 refine wpAny_bind (wpAny_newList ?_)
 have hoL:(s1.heap.push (seqObj "list" vs.toArray 0)).get? s1.heap.objs.size=some (seqObj "list" vs.toArray 0):=Heap.get?_push_size _ rfl
 refine wpAny_bind (wpAny_holding (wpAny_call_entry slot_list_sort ⟨_,hoL,rfl⟩ entry_list_sort (list_sort_treeK (κ:=κ) hO hoL h0 hkk hz fun t t1 t2=>⟨_,rfl, ?_⟩) (args_list_sort _)))
 exact wpAny_pure ⟨_,rfl,h t t1 t2⟩
end
section
variable {X:Cx}{pins:List (Addr×Obj)}{σ:St}{H:Hp}{s:Shared}
theorem Mi {vs:List Value}{ss:List Str}{ts:List Str}{Q:VK}{h1:Heap}{tk:Nat} (I:Inv X pins σ H s) (hk:∀b o,s.heap.get? b=some o->h1.get? b=some o) (hsz:s.heap.objs.size<=h1.objs.size) (hS:StrsAre vs ss) (hp:ss.Perm ts) (hz:ts.length<=sizeLine)
 (q:∀(p:Addr) (us:List Str),H p=none->us.Perm ts->sortedS us=true->Q (.ref p) (upd H p (.lst (us.map V.str)))) (t:SortSt) (t1:(arrOf t).Perm (pairsOf vs)) (t2:SortedToK PyProof.Rows.strKind (arrOf t) (pairsOf vs).size):
 EP X pins σ Q (.ref h1.objs.size) {s with heap:=sortedHeap (h1.push (seqObj "list" vs.toArray 0)) h1.objs.size vs ((arrOf t).map (·.2)),toks:=tk}:=by
 obtain⟨us,u1,u2,u3⟩:=sorted_out_str hS t1 t2
 have hn:(h1.push (seqObj "list" vs.toArray 0)).get? h1.objs.size=some (seqObj "list" vs.toArray 0):=Heap.get?_push_size _ rfl
 obtain⟨e,he⟩:=sortedHeap_at (out:=(arrOf t).map (·.2)) hn
 have kk:∀b o,s.heap.get? b=some o->(sortedHeap (h1.push (seqObj "list" vs.toArray 0)) h1.objs.size vs ((arrOf t).map (·.2))).get? b=some o:=fun b o z=>by
  have hb:=Heap.lt_size (hk b o z)
  rw[sortedHeap_old (Nat.ne_of_lt hb) (by rw[Heap.size_push];exact Nat.lt_succ_of_lt hb)]
  exact Heap.get?_push_of_some _ (hk b o z)
 have hl:(us.map V.str).length<=sizeLine:=by rw[List.length_map,u2.length_eq,hp.length_eq];exact hz
 exact⟨.ref h1.objs.size,_,(I.laid (t':=tk) (o:= .lst (us.map V.str)) kk hsz ⟨hl,_,e,DG u1,by rw[Array.toArray_toList];exact he⟩),rfl,q _ us (I.hok.fresh hsz) (u2.trans hp) u3⟩
end
section
variable {X:Cx}
theorem J6 (hc:X.calm=true):qL X (.builtin "sorted") (fun xs H Q=>∃(a:Addr) (kvs:List (Key×V)) (ts:List Str),xs=[.ref a]/\Rd H a (.dK kvs)/\kvs.length<64/\kvs.map (·.1)=ts.map Sum.inr/\∀(p:Addr) (us:List Str),H p=none->us.Perm ts->sortedS us=true->Q (.ref p) (upd H p (.lst (us.map V.str)))):=by
 intro pins s σ H xs us Q I r h
 obtain⟨a,kvs,ts,rfl,ha,h64,hts,q⟩:=h
 obtain⟨u,rfl,rx⟩:=vals1 r
 cases rx
 obtain⟨hz,lo,vs,hkv,hd⟩:=Bu I.hok ha
 obtain⟨ep,hat⟩:=hd.dictAt
 obtain⟨hl,hvk⟩:=wJ hkv
 have htl:ts.length=kvs.length:=by have:=congrArg List.length hts;simpa using this.symm
 refine Mh (κ:=PyProof.Rows.strKind) strKind_oneLt fun A' hA=>Uw (hA.trans (I.ok.hd hc)) lo hat (by rw[<-hl];exact hz) fun us h1 tk hul hus hk hlt=> ?_
 have hS:StrsAre us ts:=by
  refine GR (zU (by rw[List.length_map,hul,<-hl,htl]) fun i v hv=> ?_)
  obtain⟨k,x,hx,hkk⟩:=hus i v hv
  obtain⟨y,hy⟩:=hvk i k x hx
  have e1:(kvs.map (·.1))[i]? =some k:=by rw[List.getElem?_map,hy];rfl
  rw[hts,List.getElem?_map] at e1
  cases ht:ts[i]? with
  | none=>rw[ht] at e1;cases e1
  | some t=>
    rw[ht] at e1
    have ek:k=Sum.inr t:=(Option.some.inj e1).symm
    subst ek
    exact⟨.str t,by rw[List.getElem?_map,ht];rfl,FW (k:=Sum.inr t) (v:=v) (show Es (Sum.inr t) v=true from hkk)⟩
 have hvl:us.length=ts.length:=by rw[hul,<-hl,htl]
 have hz':ts.length<=sizeLine:=by rw[htl];exact hz
 refine⟨hS.keysOf,fun x y r e=>keyKind_strs (by rw[<-e];exact hS),by rw[hvl,htl];exact h64,fun t t1 t2=> ?_⟩
 exact Mi I hk (Nat.le_of_lt hlt) hS (List.Perm.refl _) hz' q t t1 t2
theorem Oi (hc:X.calm=true):qN X (.builtin "sorted") (fun xs H Q=>∃(a:Addr) (kvs:List (Key×V)) (ts:List Str),xs=[.ref a]/\Rd H a (.dK kvs)/\kvs.length<64/\kvs.map (·.1)=ts.map Sum.inr/\∀(p:Addr) (us:List Str),H p=none->us.Perm ts->sortedS us=true->Q (.ref p) (upd H p (.lst (us.map V.str)))):=⟨J6 hc⟩
end
end L2
set_option maxRecDepth 100000
namespace L2
open PySem PySem.Spec PyProof.Rows RB
end L2
namespace RB
open PySem L2 PySem.Spec PyProof.Rows
section
variable {n:Nat}{gv gv':Kn}{rc:Rn}{kn kn':Kn}{rm rm' rm1 rm2:Rm}
end
end RB
set_option maxRecDepth 100000
namespace L2
open PySem PySem.Spec PyProof.Rows RB
end L2
namespace RB
open PySem L2 PySem.Spec PyProof.Rows
theorem DK.like {n:Nat}{gv gv':Kn}{rc:Rn} (h:DK n gv rc) (e:∀x,gv' x=none ↔ gv x=none):DK n gv' rc:=
 ⟨fun k hk=>(h.dom k hk).imp (fun z w=>z ((e _).mp w)) id,fun x hx=>h.gk x (fun w=>hx ((e x).mpr w)),h.rk,fun x hx=>h.dj x (fun w=>hx ((e x).mpr w)),fun h0 w=>h.g0 h0 ((e _).mp w)⟩
theorem pQ.mem {H:Hp}{ks:List (Key×V)}{n:Nat}{rm:Rm} (h:pQ H ks n rm) {rs:List Str} (k:iz ks rs) (x:Str):x∈rs ↔ rm x≠none:=by
 constructor
 ·intro hx z
  exact k.none.mp (h.w x z) hx
 ·intro hx
  cases e:rm x with
  | none=>exact absurd e hx
  | some q=>
    obtain⟨b,hb,_⟩:=h.v x q e
    refine Decidable.byContradiction fun z=> ?_
    rw[k.none.mpr z] at hb;cases hb
end RB
set_option maxRecDepth 100000
namespace RB
open PySem L2 PySem.Spec PyProof.Rows
end RB
set_option maxRecDepth 100000
namespace RB
open PySem L2 PySem.Spec PyProof.Rows
open Classical in
def lY (rm:Rm) (rc:Rn) (kn:Kn) (x:Str):Bool:=match rm x with
 | none=>true
 | some q=>decide (rc x≠some q.1)||q.2.1.any fun p=>decide (kn p.1≠some p.2)
def ux (rm:Rm) (kn:Kn) (x:Str):Bool:=match rm x with
 | none=>false
 | some q=>decide (kn x≠some q.2.2)
open Classical in
theorem Built.rk {n:Nat}{gv:Kn}{rc:Rn}{rm rmN:Rm}{ws:List Str}{kn:Kn}{rkn:Str->Bool} (b:Built n gv rc rm ws kn rmN rkn) {x:Str} (h:rmN x≠none):rkn x=lY rm rc kn x:=by
 cases e:rmN x with
 | none=>exact absurd e h
 | some q=>
   obtain⟨r,ps,v⟩:=q
   obtain⟨hrc,_,_,_,_⟩:=b.ok.b _ _ _ _ e
   obtain⟨_,rows,md⟩:=b.md _ _ _ _ e
   unfold lY
   cases hk:rkn x with
   | true=>
     rw[hk,if_pos rfl] at md
     cases e2:rm x with
     | none=>rfl
     | some q2=>
       obtain⟨r2,ps2,v2⟩:=q2
       simp only
       rcases md _ _ _ e2 with z | ⟨p,hp,u,hu,hne⟩
       ·symm
        rw[Bool.or_eq_true]
        left
        rw[hrc]
        exact decide_eq_true fun w=>z (Option.some.inj w).symm
       ·symm
        rw[Bool.or_eq_true]
        right
        rw[List.any_eq_true]
        exact⟨p,hp,by rw[hu];simpa using hne⟩
   | false=>
     rw[hk,if_neg (by decide)] at md
     rw[md]
     symm
     simp only
     rw[Bool.or_eq_false_iff]
     refine⟨by rw[hrc];simp, ?_⟩
     rw[List.any_eq_false]
     intro p hp
     rw[rows.s p hp];simp
theorem Ru {gv ch:Kn} (h:∀x,ch x≠none->gv x≠none) (x:Str):gv.over ch x=none ↔ gv x=none:=by
 unfold Kn.over
 cases e:ch x with
 | none=>exact Iff.rfl
 | some v=>exact⟨fun z=>(nomatch z),fun z=>absurd z (h x (by rw[e];simp))⟩
def Qt:Sp:=fun vs H Q _=>∃(h g c rcd wl cd:Addr) (n:Nat) (gv ch:Kn) (rc:Rn) (kr kch:List (Key×V)) (rm:Rm) (ws ns:List Str),vs=[.ref h, .ref rcd, .ref wl, .ref cd]/\mD H h g c n gv rc/\n<=17/\H rcd=some (.dK kr)/\pQ H kr n rm/\H wl=some (.lst (ws.map V.str))/\(∀x∈ws,x∈nmK n)/\H cd=some (.dK kch)/\iz kch ns/\(∀x,cO kch (.inr x)=(ch x).map V.int)/\(∀x,ch x≠none->gv x≠none)/\
 ∀(t lm lo:Addr) (kn:Kn) (rmN:Rm) (rkn:Str->Bool) (sn:List Str) (H':Hp),aW H H'->H' t=some (.tup [.ref lm, .ref lo])->H lm=none->H lo=none->lm≠lo->H' lm=some (.lst ((sn.filter (lY rm rc kn)).map V.str))->H' lo=some (.lst (((sn.filter (lY rm rc kn)).filter (ux rm kn)).map V.str))->Built n (gv.over ch) rc rm ws kn rmN rkn->sn.Nodup->(∀x,x∈sn ↔ rmN x≠none)->Runs (gv.over ch) rc ws (kn0,[]) (kn,sn)->Q (.ref t) H'
theorem Mj {H H':Hp}{kg kc kch:List (Key×V)}{n:Nat}{gv ch:Kn}{rc:Rn}{ns:List Str} (bd:Bld H kg kc n gv rc) (s:aW H H') (k:iz kch ns) (hc:∀x,cO kch (.inr x)=(ch x).map V.int) (hs:∀x,ch x≠none->gv x≠none):Bld H' (jj kg kch) kc n (gv.over ch) rc:=by
 have b:=bd.tups (aW.tups s)
 obtain⟨gs,cs,kg1,kc1,hl⟩:=b.k
 refine⟨b.ok.like (Ru hs),⟨gs,cs,kg1.merge k.k fun x hx=> ?_,kc1,hl⟩,Ut b.g hc k,b.r,b.rn⟩
 refine Decidable.byContradiction fun w=> ?_
 have:=kg1.none.mpr w
 rw[b.g] at this
 cases e:gv x with
 | some v=>rw[e] at this;cases this
 | none=>
   cases e2:ch x with
   | some v=>exact hs x (by rw[e2];simp) e
   | none=>exact k.none.mp (by rw[hc,e2];rfl) hx
theorem Ux {kvs:List (Key×V)}{ns:List Str} (h:iz kvs ns) (x:Str) (v:V):∃ns',iz (putK kvs (.inr x) v) ns':=by
 by_cases z:x∈ns
 ·exact⟨_,h.JZ z v⟩
 ·exact⟨_,h.oK z v⟩
end RB
set_option maxRecDepth 100000
namespace RB
open PySem L2 PySem.Spec PyProof.Rows
section
variable {gv:Kn}{rc:Rn}{kn kn':Kn}{od od' p:List Str}{x y:Str}{r:R}
theorem Mvs.tail {s t u:Ms} (h:Mvs gv rc s t) (e:mv gv rc s=some u) (ne:s≠t):Mvs gv rc u t:=by
 obtain⟨k,h⟩:=h
 cases k with
 | zero=>cases h;exact absurd rfl ne
 | succ k=>
   unfold itM at h
   rw[e] at h
   exact⟨k,h⟩
theorem W2 {q:List Str}{a b:Kn×List Str}:((y::q,a):Ms)≠(q,b):=fun z=>by
 have:=congrArg (fun s:Ms=>s.1.length) z
 simp at this
theorem Hs (hg:gv x=none) (hk:kn x=none) (hr:rc x=some r) (he:kn y=none->ev kn r= .inl y) (h:Mvs gv rc (y::x::p,kn,od) (x::p,kn',od')):Mvs gv rc (x::p,kn,od) (x::p,kn',od'):=by
 cases e:kn y with
 | none=>
   have h1:Mvs gv rc (x::p,kn,od) (y::x::p,kn,od):=(Mvs.refl _).snoc (Ql hg hk hr (he e))
   exact h1.trans h
 | some v=>exact h.tail (Hj (by rw[e];simp)) W2
theorem J7 {v:Int} (hg:gv x=none) (hk:kn x=none) (hr:rc x=some r) (he:ev kn r= .inr v):Mvs gv rc (x::p,kn,od) (p,kn.put x v,od++[x]):=
 ((Mvs.refl _).snoc (Oe hg hk hr he)).snoc (Hj (by unfold Kn.put;rw[if_pos rfl];simp))
theorem W3 {v:Int} (hk:kn x=none) (hg:gv x=some v):Mvs gv rc (x::p,kn,od) (p,kn.put x v,od):=
 ((Mvs.refl _).snoc (Uj hk hg)).snoc (Hj (by unfold Kn.put;rw[if_pos rfl];simp))
end
def Fxd (rm:Rm) (kn:Kn) (x:Str):Prop:=rm x=none\/∃q,rm x=some q/\((∀p∈q.2.1,kn p.1=some p.2)\/∃p∈q.2.1,∃u,kn p.1=some u/\u≠p.2)
theorem Fxd.le {rm:Rm}{kn kn':Kn}{x:Str} (h:Fxd rm kn x) (l:Kn.Le kn kn'):Fxd rm kn' x:=by
 rcases h with h | ⟨q,e,h | ⟨p,hp,u,hu,hne⟩⟩
 ·exact .inl h
 ·exact .inr ⟨q,e, .inl fun p hp=>l _ _ (h p hp)⟩
 ·exact .inr ⟨q,e, .inr ⟨p,hp,u,l _ _ hu,hne⟩⟩
theorem Ht {rm:Rm}{rc:Rn}{kn:Kn}{x:Str}{q:R×List Rdp×Int} (e:rm x=some q) {p:Rdp} (hp:p∈q.2.1) {u:Int} (hu:kn p.1=some u) (hne:u≠p.2):lY rm rc kn x=true:=by
 unfold lY
 rw[e]
 simp only
 rw[Bool.or_eq_true]
 right
 rw[List.any_eq_true]
 exact⟨p,hp,by rw[hu];simpa using hne⟩
theorem J8 {rm:Rm}{rc:Rn}{kn:Kn}{x:Str}{q:R×List Rdp×Int} (e:rm x=some q) (hr:rc x=some q.1) (h:∀p∈q.2.1,kn p.1=some p.2):lY rm rc kn x=false:=by
 unfold lY
 rw[e]
 simp only
 rw[Bool.or_eq_false_iff]
 refine⟨by rw[hr];simp, ?_⟩
 rw[List.any_eq_false]
 intro p hp
 rw[h p hp];simp
theorem Fxd.same {rm:Rm}{rc:Rn}{kn kn':Kn}{x:Str} (h:Fxd rm kn x) (hr:∀q,rm x=some q->rc x=some q.1) (l:Kn.Le kn kn'):lY rm rc kn' x=lY rm rc kn x:=by
 rcases h with h | ⟨q,e,h | ⟨p,hp,u,hu,hne⟩⟩
 ·unfold lY;rw[h]
 ·rw[J8 e (hr q e) h,J8 e (hr q e) fun p hp=>l _ _ (h p hp)]
 ·rw[Ht e hp hu hne,Ht e hp (l _ _ hu) hne]
structure C9 (Hf:Hp) (h g c rcd st wd ml:Addr) (n:Nat) (gv:Kn) (rc:Rn) (kr:List (Key×V)) (rm:Rm) (kn:Kn) (od:List Str) (H:Hp):Prop where
 sm:aW Hf H
 fw:Hf wd=none
 fm:Hf ml=none
 ne:wd≠ml
 ho:mD Hf h g c n gv rc
 er:Hf rcd=some (.dK kr)
 rD:pQ Hf kr n rm
 es:Hf st=some (.lst [.ref wd, .ref ml])
 n17:n<=17
 ew:∃kw ws,H wd=some (.dK kw)/\iz kw ws/\∀x,cO kw (.inr x)=(kn x).map V.int
 em:H ml=some (.lst ((od.filter (lY rm rc kn)).map V.str))
 kd:∀x,kn x≠none->x∈nmK n
 on:od.Nodup
 ok:∀x∈od,kn x≠none
 fx:∀x∈od,Fxd rm kn x
 hr:∀x r ps v,rm x=some (r,ps,v)->rc x=some r
section
variable {Hf:Hp}{h g c rcd st wd ml:Addr}{n:Nat}{gv:Kn}{rc:Rn}{kr:List (Key×V)}{rm:Rm}{kn:Kn}{od:List Str}{H H':Hp}
theorem C9.same (a:C9 Hf h g c rcd st wd ml n gv rc kr rm kn od H) (s:aW H H'):C9 Hf h g c rcd st wd ml n gv rc kr rm kn od H':=by
 obtain⟨sm,fw,fm,ne,ho,er,rD,es,n17,⟨kw,ws,e1,e2⟩,em,kd,on,ok,fx,hr⟩:=a
 exact⟨sm.trans s,fw,fm,ne,ho,er,rD,es,n17,⟨kw,ws,s _ _ e1,e2⟩,s _ _ em,kd,on,ok,fx,hr⟩
theorem C9.kl (a:C9 Hf h g c rcd st wd ml n gv rc kr rm kn od H) {kw:List (Key×V)}{ws:List Str} (k:iz kw ws) (v:∀x,cO kw (.inr x)=(kn x).map V.int):kw.length<=n:=by
 rw[k.len,<-jd n]
 exact gC k.nd fun x hx=>a.kd x ((Uv k v x).mp hx)
theorem C9.ol (a:C9 Hf h g c rcd st wd ml n gv rc kr rm kn od H):od.length<=n:=by
 rw[<-jd n]
 exact gC a.on fun x hx=>a.kd x (a.ok x hx)
theorem C9.fil (a:C9 Hf h g c rcd st wd ml n gv rc kr rm kn od H) {kn':Kn} (l:Kn.Le kn kn'):od.filter (lY rm rc kn')=od.filter (lY rm rc kn):=List.filter_congr fun x hx=>(a.fx x hx).same (fun q e=>a.hr _ _ _ _ e) l
theorem C9.put (a:C9 Hf h g c rcd st wd ml n gv rc kr rm kn od H) {x:Str}{v:Int}{kw:List (Key×V)}{ws:List Str} (e:H wd=some (.dK kw)) (k:iz kw ws) (hv:∀x,cO kw (.inr x)=(kn x).map V.int) (hx:x∈nmK n) (hk:kn x=none):C9 Hf h g c rcd st wd ml n gv rc kr rm (kn.put x v) od (upd H wd (.dK (putK kw (.inr x) (.int v)))):=by
 have le:Kn.Le kn (kn.put x v):=Kn.lG hk
 refine⟨fun z o q=>(au (fun w=>by rw[w,a.fw] at q;cases q)).trans (a.sm z o q),a.fw,a.fm,a.ne,a.ho,a.er,a.rD,a.es,a.n17, ?_, ?_,fun y hy=> ?_,a.on,fun y hy z=> ?_,fun y hy=>(a.fx y hy).le le,a.hr⟩
 ·have hxw:x∉ws:=k.none.mp (by rw[hv,hk];rfl)
  exact⟨_,_,ao,k.oK hxw _,vh hv x v⟩
 ·rw[au (Ne.symm a.ne),a.em,a.fil le]
 ·unfold Kn.put at hy
  by_cases z:y=x
  ·rw[z];exact hx
  ·rw[if_neg z] at hy;exact a.kd y hy
 ·cases e2:kn y with
  | none=>exact a.ok y hy e2
  | some u=>rw[le y u e2] at z;cases z
theorem C9.kept (a:C9 Hf h g c rcd st wd ml n gv rc kr rm kn od H) {x:Str} (hx:kn x≠none) (ho:x∉od) (f:Fxd rm kn x) (hc:lY rm rc kn x=false):C9 Hf h g c rcd st wd ml n gv rc kr rm kn (od++[x]) H:=by
 obtain⟨sm,fw,fm,ne,ho',er,rD,es,n17,ew,em,kd,on,ok,fx,hr⟩:=a
 refine⟨sm,fw,fm,ne,ho',er,rD,es,n17,ew, ?_,kd, ?_, ?_, ?_,hr⟩
 ·rw[List.filter_append,em];simp[List.filter_cons,hc]
 ·rw[List.nodup_append]
  exact⟨on,by simp,fun a ha b hb=>by
   have:b=x:=by simpa using hb
   rw[this];exact fun z=>ho (z▸ha)⟩
 ·intro y hy
  rcases List.mem_append.mp hy with z | z
  ·exact ok y z
  ·rw[List.mem_singleton.mp z];exact hx
 ·intro y hy
  rcases List.mem_append.mp hy with z | z
  ·exact fx y z
  ·rw[List.mem_singleton.mp z];exact f
theorem C9.made (a:C9 Hf h g c rcd st wd ml n gv rc kr rm kn od H) {x:Str} (hx:kn x≠none) (ho:x∉od) (f:Fxd rm kn x) (hc:lY rm rc kn x=true):C9 Hf h g c rcd st wd ml n gv rc kr rm kn (od++[x]) (upd H ml (.lst ((od.filter (lY rm rc kn)).map V.str++[.str x]))):=by
 obtain⟨sm,fw,fm,ne,ho',er,rD,es,n17,⟨kw,ws,e1,e2⟩,em,kd,on,ok,fx,hr⟩:=a
 refine⟨fun z o q=>(au (fun w=>by rw[w,fm] at q;cases q)).trans (sm z o q),fw,fm,ne,ho',er,rD,es,n17,⟨kw,ws,(au ne).trans e1,e2⟩, ?_,kd, ?_, ?_, ?_,hr⟩
 ·rw[ao,List.filter_append,List.map_append];simp[List.filter_cons,hc]
 ·rw[List.nodup_append]
  exact⟨on,by simp,fun a ha b hb=>by
   have:b=x:=by simpa using hb
   rw[this];exact fun z=>ho (z▸ha)⟩
 ·intro y hy
  rcases List.mem_append.mp hy with z | z
  ·exact ok y z
  ·rw[List.mem_singleton.mp z];exact hx
 ·intro y hy
  rcases List.mem_append.mp hy with z | z
  ·exact fx y z
  ·rw[List.mem_singleton.mp z];exact f
end
def DP (f:Nat):Sp:=fun vs H Q _=>∃(Hf:Hp) (h g c rcd st wd ml:Addr) (n:Nat) (gv:Kn) (rc:Rn) (kr:List (Key×V)) (rm:Rm) (kn:Kn) (od:List Str) (k:Nat),vs=[.ref h, .ref rcd, .str (ak k), .ref st]/\C9 Hf h g c rcd st wd ml n gv rc kr rm kn od H/\k<f/\k<n/\
 ∀kn' od' v H',C9 Hf h g c rcd st wd ml n gv rc kr rm kn' od' H'->New kn kn' (k+1)->kn' (ak k)=some v->(∀p,Mvs gv rc (ak k::p,kn,od) (p,kn',od'))->Q (.int v) H'
def Qu (f d:Nat):Sp:=fun vs H Q _=>∃(Hf:Hp) (h g c rcd st wd ml b:Addr) (n:Nat) (gv:Kn) (rc:Rn) (kr:List (Key×V)) (rm:Rm) (kn:Kn) (od:List Str) (r:R) (m:Nat),vs=[.ref h, .ref b, .ref rcd, .ref st]/\C9 Hf h g c rcd st wd ml n gv rc kr rm kn od H/\
 IsR Hf b r/\Rk3 (nmK m) d r/\m<=f/\m<=n/\
 ∀kn' od' v H',C9 Hf h g c rcd st wd ml n gv rc kr rm kn' od' H'->New kn kn' m->ev kn' r= .inr v->(∀x R p,gv x=none->rc x=some R->kn' x=none->(∀kn1,Kn.Le kn kn1->∀y,ev kn1 r= .inl y->ev kn1 R= .inl y)->Mvs gv rc (x::p,kn,od) (x::p,kn',od'))->Q (.int v) H'
theorem le_none {kn kn':Kn} (l:Kn.Le kn kn') {x:Str} (h:kn' x=none):kn x=none:=by
 cases e:kn x with
 | none=>rfl
 | some v=>rw[l x v e] at h;cases h
section
variable {kn:Kn}{a b c:R}{op:Op}{y x:Str}{u v:Int}{ns:List Str}
theorem YZ (h:kn x=some v):ev kn (.rd x)= .inr v:=by unfold ev look;rw[h]
theorem Y0 (h:kn x=none):ev kn (.rd x)= .inl x:=by unfold ev look;rw[h]
theorem adV (h:ev kn a= .inl y):ev kn (.bin op a b)= .inl y:=by simp only[ev,h]
theorem adW (h:ev kn a= .inr u) (h2:ev kn b= .inl y):ev kn (.bin op a b)= .inl y:=by simp only[ev,h,h2]
theorem W4 (h:ev kn a= .inr u) (h2:ev kn b= .inr v):ev kn (.bin op a b)= .inr (op.ap u v):=by simp only[ev,h,h2]
theorem Y4 (h:ev kn a= .inl y):ev kn (.pick a b c)= .inl y:=by simp only[ev,h]
theorem W5 (h:ev kn a= .inr u):ev kn (.pick a b c)=if u>0 then ev kn b else ev kn c:=by simp only[ev,h]
theorem adX (h:ev kn a= .inl y):ev kn (.cho a ns)= .inl y:=by simp only[ev,h]
theorem adY (h:ev kn a= .inr u) (h2:qT ns u=some x):ev kn (.cho a ns)=ev kn (.rd x):=by simp only[ev,h,h2]
end
end RB
namespace L2
open PySem PySem.Spec PyProof.Rows RB
def ahG:R2:=fun x y H Q=>∃a o,y= .ref a/\bM H a x o/\Q (.bl o.isSome) H
theorem W6 {X:Cx} (hu:X.A.units+1<cLine):QOp X (compareOp .In) ahG:=⟨fun pins s σ H x y v u Q I rx ry h=>by
 obtain⟨a,o,rfl,g,q⟩:=h
 cases ry
 exact adz hu I g rx fun s' I'=>⟨.bl _,H,I',rfl,q⟩⟩
end L2
set_option maxRecDepth 100000
namespace RB
open PySem L2 PySem.Spec PyProof.Rows
end RB
set_option maxRecDepth 100000
namespace RB
open PySem L2 PySem.Spec PyProof.Rows
end RB
set_option maxRecDepth 100000
namespace RB
open PySem L2 PySem.Spec PyProof.Rows
section
variable {CS CR:Addr}{D:SrD}{pth bgd:Addr}{gv:Kn}{rc:Rn}{kr:List (Key×V)}{rm:Rm}{kn kn':Kn}{bg:Str->Option SeD}{Hf Hf' H H':Hp}
end
end RB
set_option maxRecDepth 100000
namespace RB
open PySem L2 PySem.Spec PyProof.Rows
section
variable {H0:Hp}{CSe CN CS CR:Addr}{D:SrD}{pth bgd:Addr}{gs cs:List Str}{gv:Kn}{rc:Rn}{kg kc kr:List (Key×V)}{rm:Rm}{knI:Kn}{odI od:List Str}{HfI HI:Hp}{x:Str}{is js:List Str}{i:Str}{kn:Kn}{rmN:Rm}{rkn:Str->Bool}{bg:Str->Option SeD}{Hf H H':Hp}
end
end RB
set_option maxRecDepth 100000
namespace RB
open PySem L2 PySem.Spec PyProof.Rows
end RB
set_option maxRecDepth 100000
namespace RB
open PySem L2 PySem.Spec PyProof.Rows
section
variable {H0 Hf Hf':Hp}{h g c st:Addr}{A:S1}{gs cs:List Str}{gv:Kn}{rc:Rn}{ops:List Str}{ls:List Addr}{kn:Kn}{rm:Rm}{od:List Str}{H H':Hp}
end
section
variable {H0 Hf:Hp}{h g c st:Addr}{A:S1}{gs cs:List Str}{gv:Kn}{rc:Rn}{ops:List Str}{ls:List Addr}{kn:Kn}{rm:Rm}{od:List Str}{H:Hp}
end
end RB
set_option maxRecDepth 100000
namespace RB
open PySem L2 PySem.Spec PyProof.Rows
section
variable {gv gv':Kn}{rc:Rn}{kn kn':Kn}{rm rm' rm1 rm2:Rm}
end
end RB
set_option maxRecDepth 100000
namespace L2
open PySem PySem.Spec PyProof.Rows RB PySem.W
section
variable {prog:Program}{w:World}{A:Around}{E:Value->Shared->Prop}{s:Shared}
end
end L2
set_option maxRecDepth 100000
namespace L2
open PySem PySem.Spec PyProof.Rows RB
def ahH (c:TT) (t u:TS):TS:=fun D σ H=>∃N:St->Hp->Prop,(∀σ' H',N σ' H'->D.nx σ' H')/\Z6 c t u {D with nx:=N} σ H
theorem abf {X:Cx}{c:Expr}{pos:Pos}{tA:TT}{s1 s2:List Stmt}{t u:TS} (hc:QT X c tA) (ha:QSs X s1 t) (hb:QSs X s2 u):QS X (.If c s1 s2 pos) (ahH tA t u):=⟨by
 intro pins s σ H D I ⟨N,hN,h⟩
 refine thn (Yk hc.h ha.h hb.h pins s σ H _ I h) fun f s' q=> ?_
 cases f with
 | next=>obtain⟨σ',H',J,q⟩:=q;exact⟨σ',H',J,hN σ' H' q⟩
 | brk=>exact q
 | cont=>exact q
 | ret u=>exact q⟩
end L2
namespace RB
open PySem L2 PySem.Spec PyProof.Rows
end RB
set_option maxHeartbeats 4000000
namespace K39
open PySem L2 PySem.Spec PyProof.Rows RB
local macro_rules | `(tactic| walk_at "ne") => `(tactic| first | assumption | exact Ne.symm (by assumption) | exact aH (by assumption) (by assumption) | exact Ne.symm (aH (by assumption) (by assumption)))
local macro_rules | `(tactic| walk_at "heap") => `(tactic| first | assumption | exact ao | (refine (au (by walk_at "ne")).trans ?_; walk_at "heap"))
local macro_rules | `(tactic| walk_at "side") => `(tactic| first | with_reducible rfl | rfl | assumption | exact SqL.of (by walk_at "heap") | exact SqT.of (by walk_at "heap") | exact Or.inl (SqL.of (by walk_at "heap")) | exact Or.inr (SqT.of (by walk_at "heap")) | exact sX.str _ | exact sX.int _ | exact sX.bl _ | exact sX.tup (by walk_at "heap") | exact Or.inl ⟨rfl, _, SqL.of (by walk_at "heap")⟩ | exact Or.inl ⟨_, SqL.of (by walk_at "heap"), rfl⟩ | exact adZ _ | exact Or.inl (by assumption) | exact Or.inr (by assumption) | walk_at "heap" | omega | (show _ ≤ sizeLine; decide) | (show _ < sizeLine; decide) | exact Or.inr ⟨by decide, by decide⟩ | exact Or.inl ⟨by decide, by decide⟩ | exact Or.inl ⟨by omega, by omega⟩ | exact Or.inr ⟨by omega, by omega⟩ | exact ⟨by omega, by decide⟩ | exact ⟨by omega, by assumption⟩ | exact ⟨by decide, by decide, by decide⟩ | exact ⟨_, SqT.of (by walk_at "heap")⟩ | exact ⟨_, SqL.of (by walk_at "heap")⟩ | (intro z; exact absurd (show (1 : Nat) = 0 from z.1) (by decide)) | (show Nat.log2 _ < 9000; decide +kernel) | ((rw [sizeLine_eq]); (try simp only [len_app]); omega) | exact Nat.le_of_lt (aV (by (simp only [List.length_cons, List.length_nil]); omega)) | decide +kernel)
local macro_rules | `(tactic| walk_at "v") => `(tactic| first
 | ((apply Exists.intro); (repeat apply Exists.intro); (refine And.intro ?_ ?_); walk_at "side")
 | ((refine And.intro ?_ ?_); walk_at "side"))
local macro_rules | `(tactic| walk_at "vs") => `(tactic| repeat walk_at "v")
def top (i:Nat):Stmt:=PySem.Challenge.pw_madeagain_k39_reach.main.body.getD i (.Pass ⟨0,0,0,0⟩)
def wO (i j:Nat):Stmt:=match top i with
 | .ClassDef _ _ _ b _ _ _ _ _ _ _=>b.getD j (.Pass ⟨0,0,0,0⟩)
 | _=> .Pass ⟨0,0,0,0⟩
section
local macro_rules | `(tactic| walk_at "side") => `(tactic| first | exact JV _ _ _ | exact GK _ _ _ | exact GP _ _ _ | exact YH _ _ _ | exact BJ _ _ _ | exact Nat.le_of_ble_eq_true rfl)
variable {P:Program}{w:World}{K:PySem.W.Frag}{mg:Str->Option Value}{base:Heap}{C:Addr}
abbrev lH:Stmt:=top 5
theorem Rv:bR ["kind","r","s"] ["kind","r","s"] (aa lH):=⟨rfl,rfl,rfl,by decide +kernel,rfl,by decide +kernel,by decide +kernel⟩
theorem qY:aF (aa lH) "kind":=by decide +kernel
theorem sI:aF (aa lH) "r":=by decide +kernel
theorem sJ:aF (aa lH) "s":=by decide +kernel
theorem Im:(aa lH).names.lookup ("max":Str)=some NameKind.globalImplicit:=by decide +kernel
theorem Io:("max":Str)≠"__name__":=by decide +kernel
theorem Ip:(("max":Str)==("__debug__":Str))=false:=by decide +kernel
theorem Rw {f:Addr}{fd:FuncData} (o9:FnT K mg "joined" lH ["kind","r","s"] f fd) (T:Blt mg):bh P w K mg base CX0 1 f fd ["kind","r","s"] PK:=by
 refine o9.F.okQ Rv (fun vs H Q E h=> ?_) (fun cdv A outer s H vs Q E hr h=> ?_)
 ·obtain⟨op,u,v,rfl,_⟩:=h
  rfl
 obtain⟨op,u,v,rfl,hm,q⟩:=h
 refine⟨_,(aq (cN (cD di (aj 0 qY) bY (aU _)) (aD (aZ (cT lX (aj 1 sI) (aj 2 sJ)))) bH)
  (aq (cN (cD di (aj 0 qY) bY (aU _)) (aD (aZ (cT mZ (aj 1 sI) (aj 2 sJ)))) bH)
  (aq (cN (cD di (aj 0 qY) bY (aU _)) (aD (aZ (cT qm (aj 1 sI) (aj 2 sJ)))) bH)
  (aD (aZ (cX (JS rfl) Im T.Ti Np (aJ (aj 1 sI) (aJ (aj 2 sJ) az)) Io Ip)))))), ?_⟩
 cases op with
 | plus=>walk_at "vs";exact q
 | minus=>walk_at "vs";exact q
 | times=>
   have hm:=hm rfl
   walk_at "vs";exact q
 | most=>walk_at "vs";exact q
abbrev cM:Stmt:=wO 6 0
theorem vZ:bR ["self","r"] ["self","r"] (aa cM):=⟨rfl,rfl,rfl,by decide +kernel,rfl,by decide +kernel,by decide +kernel⟩
theorem iR:aF (aa cM) "self":=by decide +kernel
theorem uy:aF (aa cM) "r":=by decide +kernel
theorem v7 {f:Addr}{fd:FuncData} (fu:gR K C "__init__" "Reckoning.__init__" cM ["self","r"] f fd) (rc:RkC K C):bh P w K mg base CX0 1 f fd ["self","r"] (Ln C):=by
 refine fu.F.okQ vZ (fun vs H Q E h=> ?_) (fun cdv A outer s H vs Q E hr h=> ?_)
 ·obtain⟨a,dx,b,r,rfl,_⟩:=h
  rfl
 obtain⟨a,dx,b,r,rfl,e,hR,hw,q⟩:=h
 have m9:=rc.cl
 have nT:=rc.nT
 have nF:=rc.nF
 have nR:=rc.nR
 refine⟨_,(aq (mC (aj 0 iR) (gB (aJ (aj 1 uy) az)))
  (aq (mC (aj 0 iR) (gB az))
  (aD (mC (aj 0 iR) lF)))), ?_⟩
 walk_at "vs"
 intro a1 h1
 have e1:upd H a1 (.lst [V.ref b]) a=some (.ins C dx []):=(au (aH e h1)).trans e
 walk_at "vs"
 intro a2 h2
 obtain⟨n2a,h2⟩:=dX h2
 obtain⟨n21,h2⟩:=dX h2
 have e2:upd (upd (upd H a1 (.lst [V.ref b])) a (.ins C dx (bf "todo" (.ref a1) []))) a2 (.lst []) a=some (.ins C dx (bf "todo" (.ref a1) [])):=(au (Ne.symm n2a)).trans ao
 walk_at "vs"
 intro a3 h3
 obtain⟨n3a,h3⟩:=dX h3
 obtain⟨n32,h3⟩:=dX h3
 obtain⟨_,h3⟩:=dX h3
 obtain⟨n31,h3⟩:=dX h3
 have e3:upd (upd (upd (upd (upd H a1 (.lst [V.ref b])) a (.ins C dx (bf "todo" (.ref a1) []))) a2 (.lst [])) a (.ins C dx (bf "found" (.ref a2) (bf "todo" (.ref a1) [])))) a3 (.dK []) a=some (.ins C dx (bf "found" (.ref a2) (bf "todo" (.ref a1) []))):=(au (Ne.symm n3a)).trans ao
 walk_at "vs"
 have n1a:a1≠a:=fun z=>by rw[z,e] at h1;cases h1
 refine q a1 a2 a3 _ (fun p o hp z=> ?_) h1 h2 h3 ⟨ao,⟨[.ref b], ?_, .cons (.r ?_) .nil⟩, ?_, ?_,Ne.symm n21, ?_⟩
 ·have hp:p≠a:=by simpa using hp
  rw[au hp,au (aH z h3),au hp,au (aH z h2),au hp,au (aH z h1)];exact z
 ·rw[au n1a,au (Ne.symm n31),au n1a,au (Ne.symm n21),au n1a];exact ao
 ·refine hR.tups fun p xs z=> ?_
  have hp:p≠a:=fun y=>by rw[y,e] at z;cases z
  rw[au hp,au (aH z h3),au hp,au (aH z h2),au hp,au (aH z h1)];exact z
 ·rw[au n2a,au (Ne.symm n32),au n2a];exact ao
 ·rw[au n3a];exact ao
 ·show 0+0+2 *(wR r+0)<=10000;omega
abbrev aM:Stmt:=wO 6 2
theorem iT:bR ["self","step","kind","names","s","r"] ["self","step"] (aa aM):=⟨rfl,rfl,rfl,by decide +kernel,rfl,by decide +kernel,by decide +kernel⟩
theorem uz:Loc (aa aM) "kind":=by decide +kernel
theorem aP:aF (aa aM) "step":=by decide +kernel
theorem cP:aF (aa aM) "kind":=by decide +kernel
theorem bu:aF (aa aM) "self":=by decide +kernel
theorem tG:Loc (aa aM) "names":=by decide +kernel
theorem mL:aF (aa aM) "names":=by decide +kernel
theorem vp:(aa aM).names.lookup ("len":Str)=some NameKind.globalImplicit:=by decide +kernel
theorem vq:("len":Str)≠"__name__":=by decide +kernel
theorem vz:(("len":Str)==("__debug__":Str))=false:=by decide +kernel
theorem wQ:Loc (aa aM) "s":=by decide +kernel
theorem wU:Loc (aa aM) "r":=by decide +kernel
theorem rQ:(aa aM).names.lookup ("joined":Str)=some NameKind.globalImplicit:=by decide +kernel
theorem wV:aF (aa aM) "s":=by decide +kernel
theorem wW:aF (aa aM) "r":=by decide +kernel
theorem rR:(("joined":Str)==("__debug__":Str))=false:=by decide +kernel
theorem zX {f g:Addr}{fd gd:FuncData} (fL:gR K C "go_on" "Reckoning.go_on" aM ["self","step"] f fd) (o9:FnT K mg "joined" lH ["kind","r","s"] g gd) (Uy:bh P w K mg base CX0 1 g gd ["kind","r","s"] PK)
 (T:Blt mg) (rc:RkC K C):bh P w K mg base CX0 2 f fd ["self","step"] (adP C):=by
 refine fL.F.okQ iT (fun vs H Q E h=> ?_) (fun cdv A outer s H vs Q E hr h=> ?_)
 ·obtain⟨a,dx,a1,a2,a3,v,s,t,f,d,kn,c,rfl,_⟩:=h
  rfl
 obtain⟨a,dx,a1,a2,a3,v,st,t,fo,d,kn,c,rfl,rca,hst,hno,h1,hw,q⟩:=h
 have m9:=rc.cl
 have nT:=rc.nT
 have nF:=rc.nF
 have nR:=rc.nR
 have n13:=rca.n13
 have n23:=rca.n23
 obtain⟨e,⟨ws,e1,hws⟩,e2,e3,ne,hw0⟩:=id rca
 have e2:H a2=some (.lst (fo.map V.int)):=e2
 have e3:H a3=some (.dK (rdK d)):=e3
 refine⟨_,(aq (bK (i:=2) iT.nd rfl uz (aK aG (aj 1 aP) aA))
  (aD (cN (cD di (aj 2 cP) bY (aU _)) (aD (eN (qP PySem.F.plainAttrs_list PySem.F.slot_list_append PySem.F.type_list_append ig (bU (aj 0 bu)) (fD (aK aG (aj 1 aP) aA) az)))) (aD (cN (cD di (aj 2 cP) bY (aU _)) (aD (eN (qP PySem.F.plainAttrs_list PySem.F.slot_list_extend PySem.F.type_list_extend zN (bU (aj 0 bu)) (Nx (gB (JR (ie (jw bY (fD (aK aG (aj 1 aP) aA) (fD (aK aG (aj 1 aP) aA) az)))) (fD (aK aG (aj 1 aP) aA) az))) az)))) (aD (cN (cD di (aj 2 cP) bY (aU _)) (aD (eN (qP PySem.F.plainAttrs_list PySem.F.slot_list_extend PySem.F.type_list_extend zN (bU (aj 0 bu)) (Nx (gB (JR (ie (jw bY (fD (aK aG (aj 1 aP) aA) az))) (fD (aK aG (aj 1 aP) aA) az))) az)))) (aD (cN (cD di (aj 2 cP) bY (aU _)) (aD (eN (qP PySem.F.plainAttrs_list PySem.F.slot_list_append PySem.F.type_list_append ig (bU (aj 0 bu)) (ahw (S9 (cD Nu (Dt PySem.F.plainAttrs_list PySem.F.slot_list_pop PySem.F.type_list_pop yr (bU (aj 0 bu))) aA (aU _)) (aK aG (aj 1 aP) aA) (aK aG (aj 1 aP) aA)) az)))) (aD (cN (cD di (aj 2 cP) bY (aU _)) (aq (bK (i:=3) iT.nd rfl tG (aK aG (aj 1 aP) aA))
  (aD (eN (qP PySem.F.plainAttrs_list PySem.F.slot_list_append PySem.F.type_list_append ig (bU (aj 0 bu)) (JR (ie (jw bY (fD (aK aG (aj 3 mL) (cT m5 (Dt PySem.F.plainAttrs_list PySem.F.slot_list_pop PySem.F.type_list_pop yr (bU (aj 0 bu))) (cX ju vp T.vU pO (aJ (aj 3 mL) az) vq vz))) az))) az))))) (aD (cN (cD di (aj 2 cP) bY (aU _)) (aq (bK (i:=4) iT.nd rfl wQ (Dt PySem.F.plainAttrs_list PySem.F.slot_list_pop PySem.F.type_list_pop yr (bU (aj 0 bu))))
  (aq (bK (i:=5) iT.nd rfl wU (Dt PySem.F.plainAttrs_list PySem.F.slot_list_pop PySem.F.type_list_pop yr (bU (aj 0 bu))))
  (aD (eN (qP PySem.F.plainAttrs_list PySem.F.slot_list_append PySem.F.type_list_append ig (bU (aj 0 bu)) (uo (aL (Uy.mono (by omega)) hr rQ o9.m o9.F.kp o9.b .nil bz (fD (aK aG (aj 1 aP) aA) (aJ (aj 5 wW) (aJ (aj 4 wV) az))) rR) az)))))) (aD (eN (qP PySem.F.plainAttrs_list PySem.F.slot_list_extend PySem.F.type_list_extend zN (bU (aj 0 bu)) (Nx (gB (JR (ie (jw bY (aJ (aj 2 cP) az))) (fD (aK aG (aj 1 aP) aA) (fD (aK aG (aj 1 aP) aA) az)))) az))))))))))))))))), ?_⟩
 have hi:=h1.inv _ _ rfl
 have hlw:ws.length=t.length:=hws.length
 have hlt:=NP t
 have hw1:d.length+fo.length+2 * wT t<=10000:=hw0
 cases hst with
 | @r b r hr'=>
   cases hr' with
   | @num _ n eb=>
     have hi:c=⟨t,fo++[n],d⟩:=hi
     have hz:(fo.map V.int).length<sizeLine:=by rw[List.length_map,sizeLine_eq];omega
     subst hi
     walk_at "vs"
     have b:But [a1,a2,a3] H (upd H a2 (.lst (fo.map V.int++[V.int n]))):=But.set _ (by simp)
     exact q _ b (rca.next b ((au ne).trans e1) (hws.tups (rca.lists b)) (by rw[ao,List.map_append];rfl) ((au (Ne.symm n23)).trans e3) hw)
   | rd eb=>exact absurd rfl (hno _)
   | @bin _ x y op ra rb eb hx hy=>
     have hi:c=⟨t++[.join op, .r rb, .r ra],fo,d⟩:=hi
     subst hi
     have hz:∀p:Addr,ws.length+[V.ref p,V.ref y,V.ref x].length<=sizeLine:=fun p=>by rw[sizeLine_eq];show ws.length+3<=_;omega
     have ad0:atI [V.str op.word,V.ref x,V.ref y] 0=some (.str op.word):=jZ (j:=0) rfl
     have ad1:atI [V.str op.word,V.ref x,V.ref y] 1=some (.ref x):=jZ (j:=1) rfl
     have akk:atI [V.str op.word,V.ref x,V.ref y] 2=some (.ref y):=jZ (j:=2) rfl
     have fin:∀p1 p2,H p1=none->upd H p1 (.tup [V.str "join",V.str op.word]) p2=none->Q .non (upd (upd (upd H p1 (.tup [V.str "join",V.str op.word])) p2 (.lst [V.ref p1,V.ref y,V.ref x])) a1 (.lst (ws++[V.ref p1,V.ref y,V.ref x]))):=fun p1 p2 h1 h2=>by
      have b:But [a1,a2,a3] H (upd (upd (upd H p1 (.tup [V.str "join",V.str op.word])) p2 (.lst [V.ref p1,V.ref y,V.ref x])) a1 (.lst (ws++[V.ref p1,V.ref y,V.ref x]))):=(But.new _ h1).trans ((But.new _ h2).trans (But.set _ (by simp)))
      have tp:=rca.lists b
      have n1:p1≠a1:=fun z=>by rw[z,e1] at h1;cases h1
      have n2:p1≠p2:=fun z=>by rw[<-z,ao] at h2;cases h2
      have h2':=(dX h2).2
      refine q _ b (rca.next b ao ((hws.tups tp).app (.cons (.join ?_) (.cons (.r (hy.tups tp)) (.cons (.r (hx.tups tp)) .nil)))) ?_ ?_ hw)
      ·rw[au n1,au n2];exact ao
      ·rw[au (Ne.symm ne),au (aH e2 h2'),au (aH e2 h1)];exact e2
      ·rw[au (Ne.symm n13),au (aH e3 h2'),au (aH e3 h1)];exact e3
     have ex1:∀p1,H p1=none->upd H p1 (.tup [V.str "join",V.str op.word]) a1=some (.lst ws):=fun p1 h1=>(au (aH e1 h1)).trans e1
     have ex2:∀p1 p2,H p1=none->upd H p1 (.tup [V.str "join",V.str op.word]) p2=none->upd (upd H p1 (.tup [V.str "join",V.str op.word])) p2 (.lst [V.ref p1,V.ref y,V.ref x]) a1=some (.lst ws):=fun p1 p2 h1 h2=>(au (aH (ex1 p1 h1) h2)).trans (ex1 p1 h1)
     have ez:∀p1,H p1=none->upd H p1 (.tup [V.str "join",V.str op.word]) b=some (.tup [V.str op.word,V.ref x,V.ref y]):=fun p1 h1=>(au (aH eb h1)).trans eb
     cases op with
     | plus=>
       walk_at "vs"
       intro p1 h1
       have ez1:=ez p1 h1
       walk_at "vs"
       intro p2 h2
       have ex:=ex2 p1 p2 h1 h2
       have hz1:=hz p1
       walk_at "vs"
       exact fin p1 p2 h1 h2
     | minus=>
       walk_at "vs"
       intro p1 h1
       have ez1:=ez p1 h1
       walk_at "vs"
       intro p2 h2
       have ex:=ex2 p1 p2 h1 h2
       have hz1:=hz p1
       walk_at "vs"
       exact fin p1 p2 h1 h2
     | times=>
       walk_at "vs"
       intro p1 h1
       have ez1:=ez p1 h1
       walk_at "vs"
       intro p2 h2
       have ex:=ex2 p1 p2 h1 h2
       have hz1:=hz p1
       walk_at "vs"
       exact fin p1 p2 h1 h2
     | most=>
       walk_at "vs"
       intro p1 h1
       have ez1:=ez p1 h1
       walk_at "vs"
       intro p2 h2
       have ex:=ex2 p1 p2 h1 h2
       have hz1:=hz p1
       walk_at "vs"
       exact fin p1 p2 h1 h2
   | @pick _ x y z ra rb rc eb hx hy hz0=>
     have hi:c=⟨t++[.branch rb rc, .r ra],fo,d⟩:=hi
     subst hi
     have hz:∀p:Addr,ws.length+[V.ref p,V.ref x].length<=sizeLine:=fun p=>by rw[sizeLine_eq];show ws.length+2<=_;omega
     walk_at "vs"
     intro p1 h1
     have ez1:upd H p1 (.tup [V.str "branch",V.ref y,V.ref z]) b=some (.tup [V.str "pick",V.ref x,V.ref y,V.ref z]):=(au (aH eb h1)).trans eb
     walk_at "vs"
     intro p2 h2
     have ex:upd (upd H p1 (.tup [V.str "branch",V.ref y,V.ref z])) p2 (.lst [V.ref p1,V.ref x]) a1=some (.lst ws):=(au (aH e1 (dX h2).2)).trans ((au (aH e1 h1)).trans e1)
     have hz1:=hz p1
     walk_at "vs"
     have b:But [a1,a2,a3] H (upd (upd (upd H p1 (.tup [V.str "branch",V.ref y,V.ref z])) p2 (.lst [V.ref p1,V.ref x])) a1 (.lst (ws++[V.ref p1,V.ref x]))):=(But.new _ h1).trans ((But.new _ h2).trans (But.set _ (by simp)))
     have tp:=rca.lists b
     have n1:p1≠a1:=fun z=>by rw[z,e1] at h1;cases h1
     have n2:p1≠p2:=fun z=>by rw[<-z,ao] at h2;cases h2
     have h2':=(dX h2).2
     refine q _ b (rca.next b ao ((hws.tups tp).app (.cons (.branch (by rw[au n1,au n2];exact ao) (hy.tups tp) (hz0.tups tp)) (.cons (.r (hx.tups tp)) .nil))) ?_ ?_ hw)
     ·rw[au (Ne.symm ne),au (aH e2 h2'),au (aH e2 h1)];exact e2
     ·rw[au (Ne.symm n13),au (aH e3 h2'),au (aH e3 h1)];exact e3
   | @cho _ x y ra ns eb hx hy=>
     have hi:c=⟨t++[.among ns, .r ra],fo,d⟩:=hi
     subst hi
     have hz:∀p:Addr,ws.length+[V.ref p,V.ref x].length<=sizeLine:=fun p=>by rw[sizeLine_eq];show ws.length+2<=_;omega
     walk_at "vs"
     intro p1 h1
     have ez1:upd H p1 (.tup [V.str "among",V.ref y]) b=some (.tup [V.str "choose",V.ref x,V.ref y]):=(au (aH eb h1)).trans eb
     walk_at "vs"
     intro p2 h2
     have ex:upd (upd H p1 (.tup [V.str "among",V.ref y])) p2 (.lst [V.ref p1,V.ref x]) a1=some (.lst ws):=(au (aH e1 (dX h2).2)).trans ((au (aH e1 h1)).trans e1)
     have hz1:=hz p1
     walk_at "vs"
     have b:But [a1,a2,a3] H (upd (upd (upd H p1 (.tup [V.str "among",V.ref y])) p2 (.lst [V.ref p1,V.ref x])) a1 (.lst (ws++[V.ref p1,V.ref x]))):=(But.new _ h1).trans ((But.new _ h2).trans (But.set _ (by simp)))
     have tp:=rca.lists b
     have n1:p1≠a1:=fun z=>by rw[z,e1] at h1;cases h1
     have n2:p1≠p2:=fun z=>by rw[<-z,ao] at h2;cases h2
     have h2':=(dX h2).2
     refine q _ b (rca.next b ao ((hws.tups tp).app (.cons (.among (by rw[au n1,au n2];exact ao) (tp _ _ hy)) (.cons (.r (hx.tups tp)) .nil))) ?_ ?_ hw)
     ·rw[au (Ne.symm ne),au (aH e2 h2'),au (aH e2 h1)];exact e2
     ·rw[au (Ne.symm n13),au (aH e3 h2'),au (aH e3 h1)];exact e3
 | @branch b x y ra rb eb hx hy=>
   obtain⟨g,v,hf,hi⟩:=hi
   have hf:fo=g++[v]:=hf
   subst hf
   subst hi
   have hl:((g++[v]).map V.int)[((g++[v]).map V.int).length - 1]? =some (.int v):=by rw[List.map_append,List.length_append];exact List.getElem?_concat_length
   have hd:((g++[v]).map V.int).dropLast=g.map V.int:=by rw[List.map_append];exact List.dropLast_concat
   have hz:ws.length<sizeLine:=by rw[sizeLine_eq];omega
   walk_at "vs"
   rw[hd]
   have nb:b≠a2:=fun z=>by rw[z,e2] at eb;cases eb
   have eb1:upd H a2 (.lst (g.map V.int)) b=some (.tup [V.str "branch",V.ref x,V.ref y]):=(au nb).trans eb
   have e11:upd H a2 (.lst (g.map V.int)) a1=some (.lst ws):=(au ne).trans e1
   have fin:∀(z:Addr) (rz:R),IsR H z rz->rz=(if v>0 then ra else rb)->Q .non (upd (upd H a2 (.lst (g.map V.int))) a1 (.lst (ws++[V.ref z]))):=fun z rz hz1 hz2=>by
    subst hz2
    have b:But [a1,a2,a3] H (upd (upd H a2 (.lst (g.map V.int))) a1 (.lst (ws++[V.ref z]))):=(But.set _ (by simp)).trans (But.set _ (by simp))
    have tp:=rca.lists b
    exact q _ b (rca.next b ao ((hws.tups tp).app (.cons (.r (hz1.tups tp)) .nil)) ((au (Ne.symm ne)).trans ao) ((au (Ne.symm n13)).trans ((au (Ne.symm n23)).trans e3)) hw)
   by_cases hv:0<v
   ·refine adG hv ?_
    walk_at "vs"
    exact fin x ra hx (if_pos hv).symm
   ·refine adH hv ?_
    walk_at "vs"
    exact fin y rb hy (if_neg hv).symm
 | @among b x ns eb hx=>
   obtain⟨g,v,y,hf,hy,hi⟩:=hi
   have hf:fo=g++[v]:=hf
   subst hf
   subst hi
   have hl:((g++[v]).map V.int)[((g++[v]).map V.int).length - 1]? =some (.int v):=by rw[List.map_append,List.length_append];exact List.getElem?_concat_length
   have hd:((g++[v]).map V.int).dropLast=g.map V.int:=by rw[List.map_append];exact List.dropLast_concat
   have hz:ws.length<sizeLine:=by rw[sizeLine_eq];omega
   have hln:(ns.map V.str).length=ns.length:=List.length_map _
   have hpos:0<((ns.map V.str).length:Int):=by
    rw[hln]
    cases ns with
    | nil=>simp[qT] at hy
    | cons n ns=>simp only[List.length_cons];omega
   have hat:atI (ns.map V.str) (v % ((ns.map V.str).length:Int))=some (.str y):=by
    rw[hln] at hpos ⊢
    have z0:=Int.emod_nonneg v (show(ns.length:Int)≠0 by omega)
    obtain⟨k,hk⟩:=Int.eq_ofNat_of_zero_le z0
    unfold qT at hy
    rw[hk] at hy ⊢
    exact jZ (by rw[List.getElem?_map,show ns[k]? =some y from hy];rfl)
   have nx:x≠a2:=fun z=>by rw[z,e2] at hx;cases hx
   have ex1:upd H a2 (.lst (((g++[v]).map V.int).dropLast)) x=some (.tup (ns.map V.str)):=(au nx).trans hx
   have e11:upd H a2 (.lst (((g++[v]).map V.int).dropLast)) a1=some (.lst ws):=(au ne).trans e1
   walk_at "vs"
   intro p1 h1
   have e12:upd (upd H a2 (.lst (((g++[v]).map V.int).dropLast))) p1 (.tup [V.str "read",V.str y]) a1=some (.lst ws):=(au (aH e11 h1)).trans e11
   walk_at "vs"
   have n1:p1≠a1:=fun z=>by rw[z,e11] at h1;cases h1
   obtain⟨n2,h1'⟩:=dX h1
   have b:But [a1,a2,a3] H (upd (upd (upd H a2 (.lst (((g++[v]).map V.int).dropLast))) p1 (.tup [V.str "read",V.str y])) a1 (.lst (ws++[V.ref p1]))):=(But.set _ (by simp)).trans ((But.new _ h1).trans (But.set _ (by simp)))
   have tp:=rca.lists b
   refine q _ b (rca.next b ao ((hws.tups tp).app (.cons (.r (.rd ((au n1).trans ao))) .nil)) ?_ ?_ hw)
   ·rw[au (Ne.symm ne),au (Ne.symm n2),ao,hd]
   ·rw[au (Ne.symm n13),au (aH e3 h1'),au (Ne.symm n23)];exact e3
 | @join b op eb=>
   obtain⟨g,u,v,hf,hm,hi⟩:=hi
   have hf:fo=g++[u,v]:=hf
   subst hf
   subst hi
   have hl:((g++[u,v]).map V.int)[((g++[u,v]).map V.int).length - 1]? =some (.int v):=by simp
   have hd:((g++[u,v]).map V.int).dropLast=(g++[u]).map V.int:=by simp
   have hl2:((g++[u]).map V.int)[((g++[u]).map V.int).length - 1]? =some (.int u):=by simp
   have hd2:((g++[u]).map V.int).dropLast=g.map V.int:=by simp
   have hz:(g.map V.int).length<sizeLine:=by
    rw[List.length_map,sizeLine_eq]
    have:(g++[u,v]).length=g.length+2:=by rw[List.length_append];rfl
    omega
   have nb:b≠a2:=fun z=>by rw[z,e2] at eb;cases eb
   have na2:a≠a2:=fun z=>rca.ins (by simp[z])
   have hl3:(((g++[u,v]).map V.int).dropLast)[(((g++[u,v]).map V.int).dropLast).length - 1]? =some (.int u):=by rw[hd];exact hl2
   have hd3:(((g++[u,v]).map V.int).dropLast).dropLast=g.map V.int:=by rw[hd];exact hd2
   have hz3:((((g++[u,v]).map V.int).dropLast).dropLast).length<sizeLine:=by rw[hd3];exact hz
   walk_at "vs"
   have b:But [a1,a2,a3] H (upd H a2 (.lst (g.map V.int++[V.int (op.ap u v)]))):=But.set _ (by simp)
   have q1:=q _ b (rca.next b ((au ne).trans e1) (hws.tups (rca.lists b)) (by rw[ao,List.map_append];rfl) ((au (Ne.symm n23)).trans e3) hw)
   have eq:upd (upd (upd H a2 (.lst (((g++[u,v]).map V.int).dropLast))) a2 (.lst ((((g++[u,v]).map V.int).dropLast).dropLast))) a2 (.lst ((((g++[u,v]).map V.int).dropLast).dropLast++[V.int (op.ap u v)]))=upd H a2 (.lst (g.map V.int++[V.int (op.ap u v)])):=by rw[uY,uY,hd3]
   show Q .non (upd (upd (upd H a2 (.lst (((g++[u,v]).map V.int).dropLast))) a2 (.lst ((((g++[u,v]).map V.int).dropLast).dropLast))) a2 (.lst ((((g++[u,v]).map V.int).dropLast).dropLast++[V.int (op.ap u v)])))
   rw[eq]
   exact q1
end
section
local macro_rules | `(tactic| walk_at "side") => `(tactic| first | exact JV _ _ _ | exact GK _ _ _ | exact GP _ _ _ | exact YH _ _ _ | exact BJ _ _ _ | exact Nat.le_of_ble_eq_true rfl)
variable {P:Program}{w:World}{K:PySem.W.Frag}{mg:Str->Option Value}{base:Heap}{C:Addr}
abbrev cz:Stmt:=wO 6 1
theorem pA:bR ["self","known","step"] ["self","known"] (aa cz):=⟨rfl,rfl,rfl,by decide +kernel,rfl,by decide +kernel,by decide +kernel⟩
theorem dh:aF (aa cz) "self":=by decide +kernel
theorem rT:Loc (aa cz) "step":=by decide +kernel
theorem bZ:aF (aa cz) "step":=by decide +kernel
theorem iU:aF (aa cz) "known":=by decide +kernel
theorem wX {f g:Addr}{fd gd:FuncData} (dZ:gR K C "lacking" "Reckoning.lacking" cz ["self","known"] f fd) (fL:gR K C "go_on" "Reckoning.go_on" aM ["self","step"] g gd) (BX:bh P w K mg base CX0 2 g gd ["self","step"] (adP C))
 (T:Blt mg) (rc:RkC K C):bh P w K mg base CX0 3 f fd ["self","known"] (TJ C):=by
 refine dZ.F.okQ pA (fun vs H Q E h=> ?_) (fun cdv A outer s H vs Q E hr h=> ?_)
 ·obtain⟨a,dx,a1,a2,a3,d,kn,n,c,c',rfl,_⟩:=h
  rfl
 obtain⟨a,dx,a1,a2,a3,dd,kn,n0,c0,c',rfl,abg,⟨kvs,ed,hkn⟩,nd3,hn0,hhalt,q⟩:=h
 have m9:=rc.cl
 have nT:=rc.nT
 have nF:=rc.nF
 have nR:=rc.nR
 have hdS:dd∉[a1,a2,a3]:=fun z=>by
  obtain⟨ws,e1,_⟩:=abg.e1
  have z:dd=a1\/dd=a2\/dd=a3:=by simpa using z
  rcases z with z | z | z
  ·rw[z,e1] at ed;cases ed
  ·rw[z,abg.e2] at ed;cases ed
  ·exact nd3 z
 refine⟨_,(aq (Gv PassesOwn.never (Gn (bU (aj 0 dh))) (aq (bK (i:=2) pA.nd rfl rT (Dt PySem.F.plainAttrs_list PySem.F.slot_list_pop PySem.F.type_list_pop yr (bU (aj 0 dh))))
  (aD (cN (cD JP (aK aG (aj 2 bZ) aA) bY (aU _)) (aD (eN (qt (aj 0 dh) m9 fL.m (BX.mono (by omega)) hr fL.b .nil bz (aJ (aj 2 bZ) az)))) (aD (cN (tE (cg hr) (aK aG (aj 2 bZ) aA) (aj 1 iU)) (aq (jc (cg hr) (bU (aj 0 dh)) (aK aG (aj 2 bZ) aA) (cU (cg hr) (aj 1 iU) (aK aG (aj 2 bZ) aA)))
  (aD (eN (qP PySem.F.plainAttrs_list PySem.F.slot_list_append PySem.F.type_list_append ig (bU (aj 0 dh)) (fD (cU (cg hr) (aj 1 iU) (aK aG (aj 2 bZ) aA)) az))))) (aq (eN (qP PySem.F.plainAttrs_list PySem.F.slot_list_append PySem.F.type_list_append ig (bU (aj 0 dh)) (aJ (aj 2 bZ) az)))
  (aD (aZ (aK aG (aj 2 bZ) aA))))))))))
  (aD (aZ Nq))), ?_⟩
 refine⟨fun n σ H'=>∃c t,σ=[some (.ref a),some (.ref dd),t]/\But [a1,a2,a3] H H'/\RcAt H' a C dx a1 a2 a3 c/\StN kn n c c',
  ⟨n0,c0,none,rfl,But.refl _ _,abg,hn0⟩, ?_⟩
 rintro n σ H1 ⟨c,t0,rfl,b1,rca,hst⟩
 have n13:=rca.n13
 have n23:=rca.n23
 have na:a∉[a1,a2,a3]:=rca.ins
 have na1:a≠a1:=fun z=>na (by simp[z])
 have na2:a≠a2:=fun z=>na (by simp[z])
 have na3:a≠a3:=fun z=>na (by simp[z])
 obtain⟨e,⟨ws,e1,hws⟩,e2,e3,ne,hw0⟩:=id rca
 have ed1:=b1 _ _ hdS ed
 rcases List.eq_nil_or_concat c.todo with hnil | ⟨t,st,hs⟩
 ·rw[hnil] at hws
  cases hws
  have ec:=hst.halt (.inl hnil)
  subst ec
  walk_at "vs"
  exact(q H1 b1 rca).1 hnil
 ·rw[List.concat_eq_append] at hs
  rw[hs] at hws
  obtain⟨us,v,rfl,hus,hv⟩:=hws.snoc
  have hlu:=hus.length
  have hlt:=NP t
  have hw1:c.rds.length+c.found.length+2 * wT (t++[st])<=10000:=by have:=hw0;unfold Cf.w at this;rw[hs] at this;exact this
  rw[nH] at hw1
  have hl:(us++[v])[(us++[v]).length - 1]? =some v:=by simp
  have hd:(us++[v]).dropLast=us:=List.dropLast_concat
  have hne:(us++[v]).isEmpty=false:=by simp
  have hz:us.length<sizeLine:=by rw[sizeLine_eq];omega
  refine⟨_,rfl,a,C,dx,_, .ref a1,rfl,e,m9,nT,JV _ _ _,true, .inl ⟨us++[v],SqL.of e1,by simp⟩, ?_⟩
  refine(if_pos (rfl:true=true)).mpr ?_
  cases hst with
  | zero=>
    rcases hhalt with h | ⟨t',x,h,hx⟩
    ·rw[hs] at h;simp at h
    ·rw[hs] at h
     obtain⟨rfl,rfl⟩:=kW h
     refine⟨fun _ _=>False,fun _ _ z=>z.elim, ?_⟩
     cases hv with
     | @r p _ hr'=>
     cases hr' with
     | rd ep=>
     have np:p≠a1:=fun z=>by rw[z,e1] at ep;cases ep
     have nda:dd≠a1:=fun z=>hdS (by simp[z])
     have g1:bM (upd H1 a1 (.lst (us++[V.ref p]).dropLast)) dd (.str x) none:=by
      have:=bM.k (H:=upd H1 a1 (.lst (us++[V.ref p]).dropLast)) (k:= .inr x) ((au nda).trans ed1)
      rw[hkn,hx] at this
      exact this
     have hzd:((us++[V.ref p]).dropLast).length<sizeLine:=by rw[hd];exact hz
     walk_at "vs"
     have hq:=(q H1 b1 rca).2 _ x hs
     have eq:upd (upd H1 a1 (.lst (us++[V.ref p]).dropLast)) a1 (.lst ((us++[V.ref p]).dropLast++[V.ref p]))=H1:=by rw[uY,hd,aa4 e1]
     show Q (.str x) (upd (upd H1 a1 (.lst (us++[V.ref p]).dropLast)) a1 (.lst ((us++[V.ref p]).dropLast++[V.ref p])))
     rw[eq]
     exact hq
  | @succ n _ c1 _ h1 ht=>
    have hi:=h1.inv _ _ hs
    refine⟨fun σ' H'=>Wr (∃c t,σ'=[some (.ref a),some (.ref dd),t]/\But [a1,a2,a3] H H'/\RcAt H' a C dx a1 a2 a3 c/\StN kn n c c'), ?_, ?_⟩
    ·rintro σ' H' ⟨h⟩
     exact⟨n,by omega,h⟩
    by_cases hrd:∃x,st= .r (.rd x)
    ·obtain⟨x,rfl⟩:=hrd
     obtain⟨val,hx,rfl⟩:=hi
     cases hv with
     | @r p _ hr'=>
     cases hr' with
     | rd ep=>
     have np:p≠a1:=fun z=>by rw[z,e1] at ep;cases ep
     have np3:p≠a3:=fun z=>by rw[z,e3] at ep;cases ep
     have nda:dd≠a1:=fun z=>hdS (by simp[z])
     have ahI:dd≠a3:=fun z=>hdS (by simp[z])
     have ne2:a2≠a1:=Ne.symm ne
     have ahJ:a3≠a1:=Ne.symm n13
     have ahK:a3≠a2:=Ne.symm n23
     have hv0:cO kvs (.inr x)=some (.int val):=by rw[hkn,hx];rfl
     have ed2:upd H1 a1 (.lst (us++[V.ref p]).dropLast) dd=some (.dK kvs):=(au nda).trans ed1
     have e32:upd H1 a1 (.lst (us++[V.ref p]).dropLast) a3=some (.dK (rdK c.rds)):=(au ahJ).trans e3
     have g1:bM (upd H1 a1 (.lst (us++[V.ref p]).dropLast)) dd (.str x) (some (.int val)):=by
      have:=bM.k (k:= .inr x) ed2
      rw[hv0] at this
      exact this
     have hlr:(rdK c.rds).length<sizeLine:=by rw[show(rdK c.rds).length=c.rds.length from List.length_map _,sizeLine_eq];omega
     have pt:jD (upd H1 a1 (.lst (us++[V.ref p]).dropLast)) a3 (.str x) (.int val) (upd (upd H1 a1 (.lst (us++[V.ref p]).dropLast)) a3 (.dK (rdK (tD c.rds x val)))):=by
      have:=jD.k (k:= .inr x) (v:= .int val) e32 hlr
      rw[Wq] at this
      exact this
     have ed3:upd (upd H1 a1 (.lst (us++[V.ref p]).dropLast)) a3 (.dK (rdK (tD c.rds x val))) dd=some (.dK kvs):=(au ahI).trans ed2
     have g2:bM (upd (upd H1 a1 (.lst (us++[V.ref p]).dropLast)) a3 (.dK (rdK (tD c.rds x val)))) dd (.str x) (some (.int val)):=by
      have:=bM.k (k:= .inr x) ed3
      rw[hv0] at this
      exact this
     have hzf:(c.found.map V.int).length<sizeLine:=by rw[List.length_map,sizeLine_eq];omega
     walk_at "vs"
     have b2:But [a1,a2,a3] H1 (upd (upd (upd H1 a1 (.lst (us++[V.ref p]).dropLast)) a3 (.dK (rdK (tD c.rds x val)))) a2 (.lst (c.found.map V.int++[V.int val]))):=(But.set _ (by simp)).trans ((But.set _ (by simp)).trans (But.set _ (by simp)))
     have tp:=rca.lists b2
     refine⟨⟨⟨t,c.found++[val],tD c.rds x val⟩,_,rfl,b1.trans b2,rca.next b2 (ws:=us) ?_ (hus.tups tp) ?_ ?_ (Nat.le_trans h1.w hw0),ht⟩⟩
     ·rw[au ne,au n13,ao,hd]
     ·rw[ao,List.map_append];rfl
     ·rw[au ahK,ao]
    ·have hno:∀x,st≠ .r (.rd x):=fun x z=>hrd ⟨x,z⟩
     obtain⟨p,k,xs,rfl,ep,hk⟩:=hv.hd hno
     have np:p≠a1:=fun z=>by rw[z,e1] at ep;cases ep
     have at0:atI (V.str k::xs) 0=some (.str k):=jZ (j:=0) rfl
     walk_at "vs"
     refine adI (fun z=>hk (V.str.inj z)) ?_
     have b2:But [a1,a2,a3] H1 (upd H1 a1 (.lst (us++[V.ref p]).dropLast)):=But.set _ (by simp)
     have tp:=rca.lists b2
     have rc2:RcAt (upd H1 a1 (.lst (us++[V.ref p]).dropLast)) a C dx a1 a2 a3 ⟨t,c.found,c.rds⟩:=rca.next b2 (ws:=us) (by rw[ao,hd]) (hus.tups tp) ((au (Ne.symm ne)).trans e2) ((au (Ne.symm n13)).trans e3) (by show c.rds.length+c.found.length+2 * wT t<=10000;omega)
     have h1':St1 kn ⟨t++[st],c.found,c.rds⟩ c1:=by rw[<-hs];exact h1
     have hv2:=hv.tups tp
     have hwc:=Nat.le_trans h1.w hw0
     walk_at "vs"
     intro H3 b3 rc3
     exact⟨⟨c1,_,rfl,b1.trans (b2.trans b3),rc3,ht⟩⟩
end
section
variable {P:Program}{w:World}{K:PySem.W.Frag}{mg:Str->Option Value}{base:Heap}
abbrev cC:Stmt:=top 8
theorem zY:bR ["thing"] ["thing"] (aa cC):=⟨rfl,rfl,rfl,by decide +kernel,rfl,by decide +kernel,by decide +kernel⟩
theorem jU:(aa cC).names.lookup ("isinstance":Str)=some NameKind.globalImplicit:=by decide +kernel
theorem uA:(aa cC).names.lookup ("bool":Str)=some NameKind.globalImplicit:=by decide +kernel
theorem uB:("bool":Str)≠"__name__":=by decide +kernel
theorem uC:(("bool":Str)==("__debug__":Str))=false:=by decide +kernel
theorem mO:aF (aa cC) "thing":=by decide +kernel
theorem jV:("isinstance":Str)≠"__name__":=by decide +kernel
theorem jW:(("isinstance":Str)==("__debug__":Str))=false:=by decide +kernel
theorem vA:(aa cC).names.lookup ("int":Str)=some NameKind.globalImplicit:=by decide +kernel
theorem vB:("int":Str)≠"__name__":=by decide +kernel
theorem vC:(("int":Str)==("__debug__":Str))=false:=by decide +kernel
theorem zZ {f:Addr}{fd:FuncData} (bC:FnT K mg "is_whole_number" cC ["thing"] f fd) (T:Blt mg) (kd:Kinds K):bh P w K mg base CX0 1 f fd ["thing"] (JQ K):=by
 refine bC.F.okQ zY (fun vs H Q E h=> ?_) (fun cdv A outer s H vs Q E hr h=> ?_)
 ·obtain⟨v,t,rfl,_⟩:=h
  rfl
 obtain⟨v,t,rfl,ht,q⟩:=h
 refine⟨_,(aD (aZ (Gr (cX zO jU T.j0 jt (aJ (aj 0 mO) (aJ (vd (v:= .ty "int") vA T.Ld Gm rfl vB vC) az)) jV jW) (JM (aaI (cX zO jU T.j0 jt (aJ (aj 0 mO) (aJ (vd (v:= .ty "bool") uA T.aaK V7 rfl uB uC) az)) jV jW)))))), ?_⟩
 have h1:=ht.ty
 have h2:=ht.isi kd (c:="int") (by simp[tys])
 have h3:=ht.isi kd (c:="bool") (by simp[tys])
 walk_at "vs"
 cases ht with
 | bl b=>walk_at "vs";exact q
 | int i=>walk_at "vs";exact q
 | non=>exact q
 | str x=>exact q
 | tup e h=>exact q
 | oth h hT k=>rcases hT with rfl | rfl<;>exact q
abbrev eE:Stmt:=top 9
theorem Oj:bR ["told","thing"] ["told","thing"] (aa eE):=⟨rfl,rfl,rfl,by decide +kernel,rfl,by decide +kernel,by decide +kernel⟩
theorem je:(aa eE).names.lookup ("isinstance":Str)=some NameKind.globalImplicit:=by decide +kernel
theorem uD:(aa eE).names.lookup ("tuple":Str)=some NameKind.globalImplicit:=by decide +kernel
theorem uE:("tuple":Str)≠"__name__":=by decide +kernel
theorem uF:(("tuple":Str)==("__debug__":Str))=false:=by decide +kernel
theorem iw:aF (aa eE) "told":=by decide +kernel
theorem jf:("isinstance":Str)≠"__name__":=by decide +kernel
theorem jg:(("isinstance":Str)==("__debug__":Str))=false:=by decide +kernel
theorem wY:(aa eE).names.lookup ("len":Str)=some NameKind.globalImplicit:=by decide +kernel
theorem wZ:("len":Str)≠"__name__":=by decide +kernel
theorem w6:(("len":Str)==("__debug__":Str))=false:=by decide +kernel
theorem gD:aF (aa eE) "thing":=by decide +kernel
theorem Hu:(aa eE).names.lookup ("all":Str)=some NameKind.globalImplicit:=by decide +kernel
theorem Hv:(aa eE).names.lookup ("zip":Str)=some NameKind.globalImplicit:=by decide +kernel
theorem Aa:(("is_same":Str)==("__debug__":Str))=false:=by decide +kernel
theorem Hw:("all":Str)≠"__name__":=by decide +kernel
theorem Hx:(("all":Str)==("__debug__":Str))=false:=by decide +kernel
theorem lJ:(aa eE).names.lookup ("is_whole_number":Str)=some NameKind.globalImplicit:=by decide +kernel
theorem lK:(("is_whole_number":Str)==("__debug__":Str))=false:=by decide +kernel
theorem xg:(aa eE).names.lookup ("str":Str)=some NameKind.globalImplicit:=by decide +kernel
theorem xj:("str":Str)≠"__name__":=by decide +kernel
theorem xm:(("str":Str)==("__debug__":Str))=false:=by decide +kernel
theorem BZ {d:Nat}{f g0:Addr}{fd gd0:FuncData} (gF:FnT K mg "is_same" eE ["told","thing"] f fd) (DQ:bh P w K mg base CX0 (d+1) f fd ["told","thing"] (fun vs H Q E=>0<d/\J3 K (d - 1) vs H Q E))
 (bC:FnT K mg "is_whole_number" cC ["thing"] g0 gd0) (gU:bh P w K mg base CX0 1 g0 gd0 ["thing"] (JQ K)) (T:Blt mg) (kd:Kinds K):
 bh P w K mg base CX0 (d+2) f fd ["told","thing"] (J3 K d):=by
 refine gF.F.okQ Oj (fun vs H Q E h=> ?_) (fun cdv A outer s H vs Q E hr h=> ?_)
 ·obtain⟨v,t,v',t',rfl,_⟩:=h
  rfl
 obtain⟨v,t,v',t',rfl,ht,hu,hd,q⟩:=h
 refine⟨_,(aq (cN (qO (cX zO je T.j0 jt (aJ (aj 0 iw) (aJ (vd (v:= .ty "tuple") uD T.FQ Bw rfl uE uF) az)) jf jg)) (aq (cN (Il (Jq (Nr (qO (cX zO je T.j0 jt (aJ (aj 1 gD) (aJ (vd (v:= .ty "tuple") uD T.FQ Bw rfl uE uF) az)) jf jg))) (Gp (cD JP (cX ju wY T.vU pO (aJ (aj 0 iw) az) wZ w6) (cX ju wY T.vU pO (aJ (aj 1 gD) az) wZ w6) (aU _))))) (aD (aZ Pn)) bH)
  (aD (aZ (cX (Wi rfl) Hu T.adD aaG (adM (yq rfl (n:=2) (fr:=[]) (N:=["part","other"]) (Ew (scX:=aa eE) (NX:=["told","thing"]) rfl rfl (by decide +kernel)) (WN Hv T.adE (aJ (aj 0 iw) (aJ (aj 1 gD) az))) (fun _ _ _ _ _=>(Wo (K:=K) (n:=2) rfl rfl (oZ (qgx (i:=0) (show List.Nodup (α:=Str) ["part","other"] by decide) (JL (by decide +kernel))) (oZ (qgx (i:=1) (show List.Nodup (α:=Str) ["part","other"] by decide) (JL (by decide +kernel))) FJ)))) (fun _ _ _ _ _=>Nt) (fun _ _ _ _ _=>(aL (DQ.mono (by omega)) hr (glC (by decide +kernel)) gF.m gF.F.kp gF.b .nil bz (aJ (aj 0 (lD.ok (by decide +kernel))) (aJ (aj 1 (lD.ok (by decide +kernel))) az)) Aa))) az) Hw Hx)))) bH)
  (aq (cN (qO (aL (gU.mono (by omega)) hr lJ bC.m bC.F.kp bC.b .nil bz (aJ (aj 0 iw) az) lK)) (aD (aZ (Gr (aL (gU.mono (by omega)) hr lJ bC.m bC.F.kp bC.b .nil bz (aJ (aj 1 gD) az) lK) (JM (pP di (aj 0 iw) (aj 1 gD) (aU _)))))) bH)
  (aD (aZ (Gr (cX zO je T.j0 jt (aJ (aj 0 iw) (aJ (vd (v:= .ty "str") xg T.YB SX rfl xj xm) az)) jf jg) (Gr (cX zO je T.j0 jt (aJ (aj 1 gD) (aJ (vd (v:= .ty "str") xg T.YB SX rfl xj xm) az)) jf jg) (JM (pP di (aj 0 iw) (aj 1 gD) (aU _))))))))), ?_⟩
 have h1:=ht.ty
 have h2:=ht.isi kd (c:="tuple") (by simp[tys])
 have h3:=ht.isi kd (c:="str") (by simp[tys])
 have g1:=hu.ty
 have g2:=hu.isi kd (c:="tuple") (by simp[tys])
 have g3:=hu.isi kd (c:="str") (by simp[tys])
 walk_at "vs"
 have ht2:=ht
 cases ht2 with
 | @tup a vs ts ea ha=>
   have ct:Tj (Lg (.tup ts)) "tuple"=true:=rfl
   rw[ct]
   walk_at "vs"
   have hu2:=hu
   cases hu2 with
   | @tup b us rs eb hb=>
     have cu:Tj (Lg (.tup rs)) "tuple"=true:=rfl
     rw[cu]
     walk_at "vs"
     have l1:=ha.length
     have l2:=hb.length
     by_cases hl:vs.length=us.length
     ·refine adK (by rw[hl];simp) ?_
      walk_at "vs"
      intro D hD
      have hd0:0<d:=by
       cases d with
       | zero=>exact absurd hd (by simp[DpT])
       | succ d=>omega
      obtain⟨d,rfl⟩:∃e,d=e+1:=⟨d - 1,by omega⟩
      obtain⟨hd1,hd2⟩:ts.length<=1000/\∀t∈ts,DpT d t:=hd
      have nDa:a≠D:=fun z=>by rw[z,hD] at ea;cases ea
      have nDb:b≠D:=fun z=>by rw[z,hD] at eb;cases eb
      refine Ro (fun i σ' H'=>(∃t1 t2,σ'=[t1,t2])/\H' D=some (.lst (((List.zipWith dY ts rs).take i).map V.bl))/\aW H H') hl ?_ ?_ ?_ ?_
      ·exact⟨⟨none,none,rfl⟩,ao,aC _ hD⟩
      ·intro i σ' H' hi hP
       exact⟨SqT.of (hP.2.2 _ _ ea),SqT.of (hP.2.2 _ _ eb)⟩
      ·intro i x y T0 σ' H' hx hy hP hT
       obtain⟨⟨t1,t2,rfl⟩,eD,kp⟩:=hP
       obtain⟨hi1,tx⟩:=ha.at hx
       obtain⟨hi2,ty⟩:=hb.at hy
       have S0:=kp.trans (aC (.tup [x,y]) hT)
       have tx0:=tx.same S0
       have ty0:=ty.same S0
       have dx:=hd2 _ (List.getElem_mem hi1)
       have eT:upd H' T0 (.tup [x,y]) T0=some (.tup [x,y]):=ao
       have eD0:=(aC (.tup [x,y]) hT) _ _ eD
       generalize upd H' T0 (.tup [x,y])=H0 at *
       walk_at "vs"
       intro H5 S5
       have eD5:=S5 _ _ eD0
       refine⟨_,eD5, ?_,⟨_,_,rfl⟩, ?_, ?_⟩
       ·rw[List.length_map,List.length_take];exact aV (by omega)
       ·rw[ao,<-Rp dY hi1 hi2,List.map_append];rfl
       ·exact fX _ hD (S0.trans S5)
      ·intro σ' H' hP
       obtain⟨_,eD,kp⟩:=hP
       rw[List.take_of_length_le (by simp;omega)] at eD
       have eq:dY (.tup ts) (.tup rs)=((List.zipWith dY ts rs).all id):=by rw[dY];exact G8 (by omega)
       rw[eq] at q
       walk_at "vs"
       exact q _ kp
     ·refine adJ (by simp;omega) ?_
      rw[show dY (.tup ts) (.tup rs)=false from by rw[dY];exact G7 (by omega)] at q
      walk_at "vs"
      exact q _ (aW.refl _)
   | non=>walk_at "vs";exact q _ (aW.refl _)
   | bl b=>walk_at "vs";exact q _ (aW.refl _)
   | int i=>walk_at "vs";exact q _ (aW.refl _)
   | str x=>walk_at "vs";exact q _ (aW.refl _)
   | oth h hT k=>rcases hT with rfl | rfl<;>walk_at "vs"<;>exact q _ (aW.refl _)
 | non=>walk_at "vs";exact q _ (aW.refl _)
 | bl b=>walk_at "vs";exact q _ (aW.refl _)
 | int i=>
   walk_at "vs"
   have hu2:=hu
   cases hu2 with
   | int j=>
     have ej:dY (.int i) (.int j)=decide (V.int i=V.int j):=by simp[dY]
     rw[ej] at q
     walk_at "vs";exact q _ (aW.refl _)
   | non=>walk_at "vs";exact q _ (aW.refl _)
   | bl b=>walk_at "vs";exact q _ (aW.refl _)
   | str x=>walk_at "vs";exact q _ (aW.refl _)
   | tup e h=>walk_at "vs";exact q _ (aW.refl _)
   | oth h hT k=>rcases hT with rfl | rfl<;>walk_at "vs"<;>exact q _ (aW.refl _)
 | str x=>
   walk_at "vs"
   have hu2:=hu
   cases hu2 with
   | str y=>
     have ej:dY (.str x) (.str y)=decide (V.str x=V.str y):=by simp[dY]
     rw[ej] at q
     walk_at "vs";exact q _ (aW.refl _)
   | non=>walk_at "vs";exact q _ (aW.refl _)
   | bl b=>walk_at "vs";exact q _ (aW.refl _)
   | int j=>walk_at "vs";exact q _ (aW.refl _)
   | tup e h=>walk_at "vs";exact q _ (aW.refl _)
   | oth h hT k=>rcases hT with rfl | rfl<;>walk_at "vs"<;>exact q _ (aW.refl _)
 | oth h hT k=>rcases hT with rfl | rfl<;>walk_at "vs"<;>exact q _ (aW.refl _)
theorem Hy {f g0:Addr}{fd gd0:FuncData} (gF:FnT K mg "is_same" eE ["told","thing"] f fd)
 (bC:FnT K mg "is_whole_number" cC ["thing"] g0 gd0) (gU:bh P w K mg base CX0 1 g0 gd0 ["thing"] (JQ K)) (T:Blt mg) (kd:Kinds K):
 ∀d,bh P w K mg base CX0 (d+2) f fd ["told","thing"] (J3 K d)
 | 0=>BZ gF (never fun vs H Q E h=>absurd h.1 (by omega)) bC gU T kd
 | d+1=>BZ gF ((Hy gF bC gU T kd d).imp fun vs H Q E h=>h.2) bC gU T kd
end
section
local macro_rules | `(tactic| walk_at "side") => `(tactic| first | exact yz _ _ _ _ | exact vm _ _ _ _ | exact yC _ _ _ _ | exact qw _ _ _ _ | exact (ir _ _ _ _).1 | exact (ir _ _ _ _).2.1 | exact (ir _ _ _ _).2.2.1 | exact (ir _ _ _ _).2.2.2 | exact Nat.le_of_ble_eq_true rfl)
variable {P:Program}{w:World}{K:PySem.W.Frag}{mg:Str->Option Value}{base:Heap}{CN CS CR:Addr}
abbrev bV:Stmt:=wO 11 0
theorem tH:bR ["self","records"] ["self","records"] (aa bV):=⟨rfl,rfl,rfl,by decide +kernel,rfl,by decide +kernel,by decide +kernel⟩
theorem pB:aF (aa bV) "self":=by decide +kernel
theorem nJ:aF (aa bV) "records":=by decide +kernel
theorem tK {f:Addr}{fd:FuncData} (dJ:gR K CN "__init__" "NamedRecords.__init__" bV ["self","records"] f fd) (nc:NrC K CN):bh P w K mg base CX0 1 f fd ["self","records"] (Lr CN):=by
 refine dJ.F.okQ tH (fun vs H Q E h=> ?_) (fun cdv A outer s H vs Q E hr h=> ?_)
 ·obtain⟨a,dx,rcd,rfl,_⟩:=h
  rfl
 obtain⟨a,dx,rcd,rfl,e,q⟩:=h
 have mQ:=nc.cl
 have nB:=nc.nB
 refine⟨_,(aD (mC (aj 0 pB) (aj 1 nJ))), ?_⟩
 walk_at "vs"
 exact q _ (But.set _ (by simp)) ao
abbrev cQ:Stmt:=wO 11 2
theorem tL:bR ["self","record"] ["self","record"] (aa cQ):=⟨rfl,rfl,rfl,by decide +kernel,rfl,by decide +kernel,by decide +kernel⟩
theorem tM {f:Addr}{fd:FuncData} (cR:gR K CN "put_made" "NamedRecords.put_made" cQ ["self","record"] f fd):bh P w K mg base CX0 1 f fd ["self","record"] YT:=by
 refine cR.F.okQ tL (fun vs H Q E h=> ?_) (fun cdv A outer s H vs Q E hr h=> ?_)
 ·obtain⟨⟨v,w,rfl⟩,_⟩:=h
  rfl
 obtain⟨⟨v,w,rfl⟩,q⟩:=h
 refine⟨_,(aD Wd), ?_⟩
 exact q
abbrev aQ:Stmt:=wO 11 1
theorem qx:bR ["self","name","r"] ["self","name","r"] (aa aQ):=⟨rfl,rfl,rfl,by decide +kernel,rfl,by decide +kernel,by decide +kernel⟩
theorem mR:(aa aQ).names.lookup ("is_same":Str)=some NameKind.globalImplicit:=by decide +kernel
theorem fM:aF (aa aQ) "self":=by decide +kernel
theorem fO:aF (aa aQ) "name":=by decide +kernel
theorem pC:aF (aa aQ) "r":=by decide +kernel
theorem mU:(("is_same":Str)==("__debug__":Str))=false:=by decide +kernel
theorem qy {f g0:Addr}{fd gd0:FuncData} (cF:gR K CN "records_for" "NamedRecords.records_for" aQ ["self","name","r"] f fd)
 (gF:FnT K mg "is_same" eE ["told","thing"] g0 gd0) (DQ:bh P w K mg base CX0 12 g0 gd0 ["told","thing"] (J3 K 10)) (T:Blt mg) (nc:NrC K CN):bh P w K mg base CX0 13 f fd ["self","name","r"] (Ue CN):=by
 refine cF.F.okQ qx (fun vs H Q E h=> ?_) (fun cdv A outer s H vs Q E hr h=> ?_)
 ·obtain⟨o,dx,rcd,b,kr,n,rm,y,r,rfl,_⟩:=h
  rfl
 obtain⟨o,dx,rcd,b,kr,n,rm,y,r,rfl,eo,er,rD,hR,hg,hdp,q⟩:=h
 have mQ:=nc.cl
 have nB:=nc.nB
 have lkB:List.lookup ("by_name":Str) (nrF rcd)=some (.ref rcd):=rfl
 refine⟨_,(aq (cN (Il (Gq (tE (cg hr) (aj 1 fO) (bU (aj 0 fM))) (Bx (qO (aL (DQ.mono (by omega)) hr mR gF.m gF.F.kp gF.b .nil bz (aJ (aj 2 pC) (fD (aK aG (cU (cg hr) (bU (aj 0 fM)) (aj 1 fO)) aA) az)) mU))))) (aD (aZ (gB (fD (cU (cg hr) (bU (aj 0 fM)) (aj 1 fO)) az)))) bH)
  (aD (aZ (gB az)))), ?_⟩
 have dr:bM H rcd (.str y) (cO kr (.inr y)):=bM.k (k:= .inr y) er
 cases erm:rm y with
 | none=>
   rw[rD.w y erm] at dr
   walk_at "vs"
   intro fl hfl
   exact q fl _ (aC _ hfl) hfl fun kn=> .inr ⟨ao,fun r' ps v e=>by rw[erm] at e;cases e⟩
 | some qq=>
   obtain⟨r',ps,v'⟩:=qq
   obtain⟨bb,hbb,br,l,as,e1,R1,el,hRs,_⟩:=rD.v y _ erm
   rw[hbb] at dr
   have e1:H bb=some (.tup [.ref br, .ref l, .int v']):=e1
   have R1:IsR H br r':=R1
   have hat:atI [V.ref br, .ref l, .int v'] 0=some (.ref br):=rfl
   have t1:qp K H (.ref b) r.gb:=hR.adL
   have t2:qp K H (.ref br) r'.gb:=R1.adL
   have dp:DpT 10 r.gb:=(r.dpT (m8 hg)).mono (by omega)
   walk_at "vs"
   intro H1 s1
   have dr1:bM H1 rcd (.str y) (some (.ref bb)):=by rw[<-hbb];exact bM.k (k:= .inr y) (s1 _ _ er)
   have eo1:=s1 _ _ eo
   by_cases hrr:r=r'
   ·rw[WR hrr]
    subst hrr
    walk_at "vs"
    intro fl hfl
    exact q fl _ (s1.trans (aC _ hfl)) (same_none s1 hfl) fun kn=> .inl ⟨bb,ps,v',ao,hbb,erm,Nat.zero_le _,fun j p hj=>by omega⟩
   ·rw[WT hrr]
    walk_at "vs"
    intro fl hfl
    exact q fl _ (s1.trans (aC _ hfl)) (same_none s1 hfl) fun kn=> .inr ⟨ao,fun r2 ps2 v2 e=>by
     rw[erm] at e;cases e;exact .inl (Ne.symm hrr)⟩
abbrev cA:Stmt:=wO 12 0
theorem xq:bR ["self","r","records"] ["self","r","records"] (aa cA):=⟨rfl,rfl,rfl,by decide +kernel,rfl,by decide +kernel,by decide +kernel⟩
theorem gf:aF (aa cA) "self":=by decide +kernel
theorem nQ:aF (aa cA) "r":=by decide +kernel
theorem pR:aF (aa cA) "records":=by decide +kernel
theorem oM:(aa cA).names.lookup ("Reckoning":Str)=some NameKind.globalImplicit:=by decide +kernel
theorem oN:(("Reckoning":Str)==("__debug__":Str))=false:=by decide +kernel
theorem xr {f g0:Addr}{fd gd0:FuncData} (fY:gR K CS "__init__" "Settling.__init__" cA ["self","r","records"] f fd)
 (fu:gR K CR "__init__" "Reckoning.__init__" cM ["self","r"] g0 gd0) (xu:bh P w K mg base CX0 1 g0 gd0 ["self","r"] (Ln CR))
 (xx:Mk K CR g0) (xF:mg "Reckoning"=some (.ref CR)) (sc:SeC K CS):bh P w K mg base CX0 3 f fd ["self","r","records"] (Lw CS CR):=by
 refine fY.F.okQ xq (fun vs H Q E h=> ?_) (fun cdv A outer s H vs Q E hr h=> ?_)
 ·obtain⟨a,dx,b,fl,r,rfl,_⟩:=h
  rfl
 obtain⟨a,dx,b,fl,r,rfl,e,hR,hw,q⟩:=h
 have jH:=sc.cl
 have nR:=sc.nR
 have nF:=sc.nF
 have nP:=sc.nP
 have nK:=sc.nK
 refine⟨_,(aq (mC (aj 0 gf) (aj 1 nQ))
  (aq (mC (aj 0 gf) (aj 2 pR))
  (aq (mC (aj 0 gf) aA)
  (aD (mC (aj 0 gf) (FT xx (xu.mono (by omega)) hr oM xF fu.b .nil bz (aJ (aj 1 nQ) az) oN)))))), ?_⟩
 walk_at "vs"
 have F3:upd (upd (upd H a (.ins CS dx (bf "recipe" (.ref b) []))) a (.ins CS dx (bf "fitting" (.ref fl) (bf "recipe" (.ref b) [])))) a (.ins CS dx (bf "place" (.int 0) (bf "fitting" (.ref fl) (bf "recipe" (.ref b) []))))=upd H a (.ins CS dx (bf "place" (.int 0) (bf "fitting" (.ref fl) (bf "recipe" (.ref b) [])))):=by rw[uY,uY]
 rw[F3]
 have b1:But [a] H (upd H a (.ins CS dx (bf "place" (.int 0) (bf "fitting" (.ref fl) (bf "recipe" (.ref b) []))))):=But.set _ (by simp)
 have t1:mK H (upd H a (.ins CS dx (bf "place" (.int 0) (bf "fitting" (.ref fl) (bf "recipe" (.ref b) []))))):=fun p xs z=>(au (fun y=>by rw[y,e] at z;cases z)).trans z
 have e1:upd H a (.ins CS dx (bf "place" (.int 0) (bf "fitting" (.ref fl) (bf "recipe" (.ref b) [])))) a=some (.ins CS dx (bf "place" (.int 0) (bf "fitting" (.ref fl) (bf "recipe" (.ref b) [])))):=ao
 have n1:∀{z},upd H a (.ins CS dx (bf "place" (.int 0) (bf "fitting" (.ref fl) (bf "recipe" (.ref b) [])))) z=none->H z=none:=fun z=>(dX z).2
 generalize upd H a (.ins CS dx (bf "place" (.int 0) (bf "fitting" (.ref fl) (bf "recipe" (.ref b) []))))=H1 at *
 intro rk dxr hrk hdxr hne
 have ahL:(upd H1 dxr (.own rk)) rk=none:=(au (Ne.symm hne)).trans hrk
 have S1:=(aC (.own rk) hdxr).trans (aC (.ins CR dxr []) ahL)
 refine⟨rk,dxr,b,r,rfl,ao,(hR.tups t1).same S1,hw,fun a1 a2 a3 H2 b2 h1 h2 h3 rc2=>⟨rfl, ?_⟩⟩
 have h1:=same_none S1 h1
 have h2:=same_none S1 h2
 have h3:=same_none S1 h3
 have S2:aW H1 H2:=iM S1 (fun p hp=>by
  have:p=rk:=by simpa using hp
  rw[this];exact hrk) b2
 have e2:=S2 _ _ e1
 have nak:a≠rk:=fun z=>by rw[<-z,e1] at hrk;cases hrk
 have na1:a≠a1:=fun z=>by rw[<-z,e1] at h1;cases h1
 have na2:a≠a2:=fun z=>by rw[<-z,e1] at h2;cases h2
 have na3:a≠a3:=fun z=>by rw[<-z,e1] at h3;cases h3
 walk_at "vs"
 have t3:mK H2 (upd H2 a (.ins CS dx (bf "reckoning" (.ref rk) (bf "place" (.int 0) (bf "fitting" (.ref fl) (bf "recipe" (.ref b) [])))))):=fun p xs z=>(au (fun y=>by rw[y,e2] at z;cases z)).trans z
 refine q ⟨a,dx,b,fl,rk,dxr,a1,a2,a3,0⟩ _ ((b1.trans (But.of_same S2)).trans (But.set _ (by simp))) rfl rfl rfl rfl ao (rc2.move (S:=[a]) (But.set _ (by simp)) t3 ?_) ?_
 ·intro z hz w
  have w:z=a:=by simpa using w
  have hz:z=rk\/z=a1\/z=a2\/z=a3:=by simpa using hz
  rcases hz with y | y | y | y
  ·exact nak (w.symm.trans y)
  ·exact na1 (w.symm.trans y)
  ·exact na2 (w.symm.trans y)
  ·exact na3 (w.symm.trans y)
 ·intro z hz
  have hz:z=rk\/z=a1\/z=a2\/z=a3:=by simpa using hz
  rcases hz with rfl | rfl | rfl | rfl
  ·exact n1 hrk
  ·exact n1 h1
  ·exact n1 h2
  ·exact n1 h3
end
section
local macro_rules | `(tactic| walk_at "side") => `(tactic| first | exact yz _ _ _ _ | exact vm _ _ _ _ | exact yC _ _ _ _ | exact qw _ _ _ _ | exact (ir _ _ _ _).1 | exact (ir _ _ _ _).2.1 | exact (ir _ _ _ _).2.2.1 | exact (ir _ _ _ _).2.2.2 | exact BJ _ _ _ | exact Nat.le_of_ble_eq_true rfl)
variable {P:Program}{w:World}{K:PySem.W.Frag}{mg:Str->Option Value}{base:Heap}{CN CS CR:Addr}
abbrev bL:Stmt:=wO 12 3
theorem tO:bR ["self"] ["self"] (aa bL):=⟨rfl,rfl,rfl,by decide +kernel,rfl,by decide +kernel,by decide +kernel⟩
theorem pU:(aa bL).names.lookup ("len":Str)=some NameKind.globalImplicit:=by decide +kernel
theorem pD:aF (aa bL) "self":=by decide +kernel
theorem pW:("len":Str)≠"__name__":=by decide +kernel
theorem pX:(("len":Str)==("__debug__":Str))=false:=by decide +kernel
def Uz (CS:Addr):Sp:=fun vs H Q _=>∃(s dx b fl rk:Addr) (k:Nat) (xs:List V),vs=[.ref s]/\H s=some (.ins CS dx (seF b fl k rk))/\H fl=some (.lst xs)/\Q (.bl (decide (xs.length=0))) H
theorem tQ {f:Addr}{fd:FuncData} (bw:gR K CS "was_reckoned" "Settling.was_reckoned" bL ["self"] f fd) (T:Blt mg) (sc:SeC K CS):bh P w K mg base CX0 1 f fd ["self"] (Uz CS):=by
 refine bw.F.okQ tO (fun vs H Q E h=> ?_) (fun cdv A outer s H vs Q E hr h=> ?_)
 ·obtain⟨a,dx,b,fl,rk,k,xs,rfl,_⟩:=h
  rfl
 obtain⟨a,dx,b,fl,rk,k,xs,rfl,e,ef,q⟩:=h
 have jH:=sc.cl
 have nF:=sc.nF
 refine⟨_,(aD (aZ (pP di (cX ju pU T.vU pO (Rh (bU (aj 0 pD)) az) pW pX) aA (aU _)))), ?_⟩
 walk_at "vs"
 have:decide (V.int (xs.length:Int)=V.int 0)=decide (xs.length=0):=by
  by_cases z:xs.length=0
  ·rw[decide_eq_true z,z];rfl
  ·rw[decide_eq_false z]
   exact decide_eq_false fun w=>z (by have:=V.int.inj w;omega)
 rw[this]
 exact q
abbrev dI:Stmt:=wO 12 2
theorem Ab:bR ["self","worth"] ["self","worth"] (aa dI):=⟨rfl,rfl,rfl,by decide +kernel,rfl,by decide +kernel,by decide +kernel⟩
theorem gW:aF (aa dI) "self":=by decide +kernel
theorem Ac {f:Addr}{fd:FuncData} (fP:gR K CS "fit_on" "Settling.fit_on" dI ["self","worth"] f fd) (sc:SeC K CS):bh P w K mg base CX0 1 f fd ["self","worth"] (YW CS):=by
 refine fP.F.okQ Ab (fun vs H Q E h=> ?_) (fun cdv A outer s H vs Q E hr h=> ?_)
 ·obtain⟨a,dx,b,fl,rk,rb,br,l,k,as,ps,v,w',u,x,rfl,_⟩:=h
  rfl
 obtain⟨a,dx,b,fl,rk,rb,br,l,k,as,ps,v,w',u,x,rfl,e,ef,erb,el,hRs,hk,q⟩:=h
 have jH:=sc.cl
 have nF:=sc.nF
 have nP:=sc.nP
 refine⟨_,(aq (mC (aj 0 gW) (yq rfl (n:=1) (fr:=[1,0]) (N:=["record","worth","self"]) (Ew (scX:=aa dI) (NX:=["self","worth"]) rfl rfl (by decide +kernel)) (vf (bU (aj 0 gW))) (fun _ _ _ _ _=>(qgx (i:=0) (show List.Nodup (α:=Str) ["record","worth","self"] by decide) (JL (by decide +kernel)))) (fun _ _ _ _ _=>(Gu (cD di (aK (By (K:=K) rfl) (aK (yt (K:=K) rfl) (aK (By (K:=K) rfl) (aj 0 (lD.ok (by decide +kernel))) aA) (J5 (K:=K) rfl (aj 2 (lD.ok (by decide +kernel))))) aA) (aj 1 (lD.ok (by decide +kernel))) (aU _)))) (fun _ _ _ _ _=>(aj 0 (lD.ok (by decide +kernel))))))
  (aD (mC (aj 0 gW) (cT lX (bU (aj 0 gW)) aA)))), ?_⟩
 have hkl:k<ps.length:=(List.getElem?_eq_some_iff.mp hk).1
 have hka:k<as.length:=by rw[hRs.length];exact hkl
 have hae:as[k]? =some as[k]:=List.getElem?_eq_getElem hka
 obtain⟨p,hp,ep⟩:=hRs.get k _ hae
 rw[hk] at hp
 cases hp
 have ep:H as[k]=some (.tup [.str x, .int u]):=ep
 have a1:atI [V.ref br, .ref l, .int v] 1=some (.ref l):=rfl
 have a2:atI (as.map V.ref) (k:Int)=some (.ref as[k]):=jZ (by rw[List.getElem?_map,hae];rfl)
 have a3:atI [V.str x, .int u] 1=some (.int u):=rfl
 walk_at "vs"
 intro D hD
 have sD:=aC (.lst []) hD
 refine Dr (xs:=[.ref rb]) (fun i σ' H'=>(∃t,σ'=[t,some (.int w'),some (.ref a)])/\aW H H'/\H' D=some (.lst (if i=0 then [] else if u=w' then [.ref rb] else []))) ?_ ?_ ?_ ?_
 ·exact⟨⟨none,rfl⟩,sD,ao⟩
 ·intro i σ' H' _ hP
  exact SqL.of (hP.2.1 _ _ ef)
 ·intro i y σ' H' hy hP
  obtain⟨⟨t,rfl⟩,S1,eD⟩:=hP
  obtain⟨rfl,rfl⟩:i=0/\y= .ref rb:=by
   match i,hy with
   | 0,hy=>exact⟨rfl,(Option.some.inj hy).symm⟩
   | i+1,hy=>simp at hy
  rw[if_pos rfl] at eD
  have e1:=S1 _ _ e
  have akl:=S1 _ _ erb
  have el1:=S1 _ _ el
  have ep1:=S1 _ _ ep
  have hz:([]:List V).length<sizeLine:=aV (by simp)
  walk_at "vs"
  refine zM (fun c=> ?_) (fun c=> ?_)
  ·have c:u=w':=V.int.inj (of_decide_eq_true c)
   walk_at "vs"
   refine⟨⟨_,rfl⟩,fX _ hD S1, ?_⟩
   rw[if_neg (by decide),if_pos c];exact ao
  ·have c:¬u=w':=fun z=>c (decide_eq_true (by rw[z]))
   refine⟨⟨_,rfl⟩,S1, ?_⟩
   rw[if_neg (by decide),if_neg c];exact eD
 ·intro σ' H1 hP
  obtain⟨_,S1,eD⟩:=hP
  rw[show(if([V.ref rb]:List V).length=0 then([]:List V) else if u=w' then [.ref rb] else [])=if u=w' then [.ref rb] else [] from if_neg (by simp)] at eD
  have e1:=S1 _ _ e
  have naD:a≠D:=fun z=>by rw[z,hD] at e;cases e
  walk_at "vs"
  refine q D _ ((But.of_same S1).trans ((But.set _ (by simp)).trans (But.set _ (by simp)))) hD ao ?_
  rw[au (Ne.symm naD),au (Ne.symm naD)];exact eD
end
section
local macro_rules | `(tactic| walk_at "side") => `(tactic| first | exact yz _ _ _ _ | exact vm _ _ _ _ | exact yC _ _ _ _ | exact qw _ _ _ _ | exact (ir _ _ _ _).1 | exact (ir _ _ _ _).2.1 | exact (ir _ _ _ _).2.2.1 | exact (ir _ _ _ _).2.2.2 | exact BJ _ _ _ | exact Nat.le_of_ble_eq_true rfl)
variable {P:Program}{w:World}{K:PySem.W.Frag}{mg:Str->Option Value}{base:Heap}{CN CS CR:Addr}
abbrev bD:Stmt:=wO 12 1
theorem mF:bR ["self","known","reads","name"] ["self","known"] (aa bD):=⟨rfl,rfl,rfl,by decide +kernel,rfl,by decide +kernel,by decide +kernel⟩
theorem dD:aF (aa bD) "self":=by decide +kernel
theorem rW:Loc (aa bD) "reads":=by decide +kernel
theorem uG:(aa bD).names.lookup ("len":Str)=some NameKind.globalImplicit:=by decide +kernel
theorem mz:aF (aa bD) "reads":=by decide +kernel
theorem uH:("len":Str)≠"__name__":=by decide +kernel
theorem uI:(("len":Str)==("__debug__":Str))=false:=by decide +kernel
theorem tR:Loc (aa bD) "name":=by decide +kernel
theorem jx:aF (aa bD) "name":=by decide +kernel
theorem jk:aF (aa bD) "known":=by decide +kernel
theorem yI {f g0 g1:Addr}{fd gd0 gd1:FuncData} (eY:gR K CS "lacking" "Settling.lacking" bD ["self","known"] f fd)
 (fP:gR K CS "fit_on" "Settling.fit_on" dI ["self","worth"] g0 gd0) (Ca:bh P w K mg base CX0 1 g0 gd0 ["self","worth"] (YW CS))
 (dZ:gR K CR "lacking" "Reckoning.lacking" cz ["self","known"] g1 gd1) (yJ:bh P w K mg base CX0 3 g1 gd1 ["self","known"] (TJ CR))
 (T:Blt mg) (sc:SeC K CS) (rcC:RkC K CR):bh P w K mg base CX0 4 f fd ["self","known"] (Lx CS CR):=by
 refine eY.F.okQ mF (fun vs H Q E h=> ?_) (fun cdv A0 outer s H vs Q E hr h=> ?_)
 ·obtain⟨A,d,kr,n,rm,y,r,kn,rfl,_⟩:=h
  rfl
 obtain⟨A,d,kr,n,rm,y,r,kn,rfl,se,rD,n17,⟨kvs,ed,hkn⟩,nd3,hT3,q⟩:=h
 have jH:=sc.cl
 have nR:=sc.nR
 have nF:=sc.nF
 have nP:=sc.nP
 have nK:=sc.nK
 have m9:=rcC.cl
 refine⟨_,(aq (Gv PassesOwn.never (Gn (bU (aj 0 dD))) (aq (bK (i:=2) mF.nd rfl rW (aK aG (aK cL (bU (aj 0 dD)) aA) aA))
  (aq (cN (cD di (bU (aj 0 dD)) (cX ju uG T.vU pO (aJ (aj 2 mz) az) uH uI) (aU _)) (aD (aZ Nq)) bH)
  (aq (bK (i:=3) mF.nd rfl tR (aK aG (aK cL (aj 2 mz) (bU (aj 0 dD))) aA))
  (aq (cN (qK (cg hr) (aj 3 jx) (aj 1 jk)) (aD (aZ (aj 3 jx))) bH)
  (aD (eN (qt (aj 0 dD) jH fP.m (Ca.mono (by omega)) hr fP.b .nil bz (fD (cU (cg hr) (aj 1 jk) (aj 3 jx)) az)))))))))
  (aD (aZ (qt (bU (aj 0 dD)) m9 dZ.m (yJ.mono (by omega)) hr dZ.b .nil bz (aJ (aj 1 jk) az))))), ?_⟩
 have nds:d∉[A.s]:=fun z=>by
  have z:d=A.s:=by simpa using z
  have:=se.e
  rw[<-z,ed] at this;cases this
 refine⟨fun m σ H'=>∃(A1:SeD) (t1 t2:Option V),σ=[some (.ref A.s),some (.ref d),t1,t2]/\But [A.s] H H'/\vo CS CR kr rm y r kn A1 H'/\A1.s=A.s/\A1.b=A.b/\A1.rk=A.rk/\A1.a1=A.a1/\A1.a2=A.a2/\A1.a3=A.a3/\A1.dx=A.dx/\(A1.fl=A.fl\/H A1.fl=none)/\m=1000 - A1.k,
  ⟨_,A,none,none,rfl,But.refl _ _,se,rfl,rfl,rfl,rfl,rfl,rfl,rfl, .inl rfl,rfl⟩, ?_⟩
 rintro m σ H1 ⟨A1,t1,t2,rfl,b1,se1,es,eb,erk,ea1,ea2,ea3,edx,efl,rfl⟩
 have e1:=se1.e
 rw[es] at e1
 have tp1:mK H H1:=fun p xs z=>b1 p _ (fun w=>by
  have w:p=A.s:=by simpa using w
  have:=se.e
  rw[<-w,z] at this;cases this) z
 have ed1:=b1 _ _ nds ed
 have rD1:pQ H1 kr n rm:=rD.map fun b' q' z=>z.but b1 tp1 (fun y hy=> .inr fun xs w=>by
  have w':y=A.s:=by simpa using hy
  have:=se.e
  rw[<-w',w] at this;cases this)
 have fin:∀H2,But [A.s] H1 H2->But A.ft H H2:=fun H2 b=>(b1.trans b).mono (by simp[SeD.ft])
 rcases se1.f with⟨rb,ps,v,Ir,hval,hrm,hkle,hall⟩ | ⟨Ir,nof⟩
 ·obtain⟨bb,hbb,br,l,as,f1,R1,el,hRs,_⟩:=rD1.v y _ hrm
  rw[hval] at hbb
  cases hbb
  have f1:H1 rb=some (.tup [.ref br, .ref l, .int v]):=f1
  have hRs:iJ H1 as ps:=hRs
  obtain⟨got,k0,hk0,ek0,rk0⟩:=rD1.ok y r ps v hrm
  have hpl:ps.length<=k0:=Qg got.c rk0.i
  have a0:atI [V.ref rb] 0=some (.ref rb):=rfl
  have a1:atI [V.ref br, .ref l, .int v] 1=some (.ref l):=rfl
  have hlm:(as.map V.ref).length=ps.length:=by rw[List.length_map];exact hRs.length
  walk_at "vs"
  refine⟨fun σ' H'=>∃(A2:SeD) (t1 t2:Option V),σ'=[some (.ref A.s),some (.ref d),t1,t2]/\But [A.s] H H'/\vo CS CR kr rm y r kn A2 H'/\A2.s=A.s/\A2.b=A.b/\A2.rk=A.rk/\A2.a1=A.a1/\A2.a2=A.a2/\A2.a3=A.a3/\A2.dx=A.dx/\(A2.fl=A.fl\/H A2.fl=none)/\A2.k=A1.k+1,fun σ' H' ⟨A2,t1,t2,z1,z2,z3,z4,z5,z6,z7,z8,z9,z10,z11,z12⟩=>⟨1000 - A2.k,by omega,A2,t1,t2,z1,z2,z3,z4,z5,z6,z7,z8,z9,z10,z11,rfl⟩, ?_⟩
  walk_at "vs"
  refine zM (fun c=> ?_) (fun c=> ?_)
  ·have c:A1.k=ps.length:=by have:=V.int.inj (of_decide_eq_true c);omega
   walk_at "vs"
   refine(q A1 H1 (fin H1 (But.refl _ _)) es eb erk ea1 ea2 ea3 efl se1).1 (.inl ⟨rb,ps,v,Ir,hval,hrm,fun p hp=> ?_⟩)
   obtain⟨j,hj⟩:=List.getElem?_of_mem hp
   exact hall j p (by rw[c];exact(List.getElem?_eq_some_iff.mp hj).1) hj
  ·have c:A1.k<ps.length:=by
    have:¬A1.k=ps.length:=fun z=>c (decide_eq_true (by rw[hlm,z]))
    omega
   have hka:A1.k<as.length:=by rw[hRs.length];exact c
   have hae:as[A1.k]? =some as[A1.k]:=List.getElem?_eq_getElem hka
   obtain⟨⟨x,u⟩,hp,ep⟩:=hRs.get A1.k _ hae
   have ep:H1 as[A1.k]=some (.tup [.str x, .int u]):=ep
   have a2:atI (as.map V.ref) (A1.k:Int)=some (.ref as[A1.k]):=jZ (by rw[List.getElem?_map,hae];rfl)
   have a3:atI [V.str x, .int u] 0=some (.str x):=rfl
   have dw:bM H1 d (.str x) ((kn x).map V.int):=by rw[<-hkn];exact bM.k (k:= .inr x) ed1
   cases ekn:kn x with
   | none=>
     rw[ekn] at dw
     have dw:bM H1 d (.str x) none:=dw
     walk_at "vs"
     exact(q A1 H1 (fin H1 (But.refl _ _)) es eb erk ea1 ea2 ea3 efl se1).2 x ekn (Hh got.c hp hall)
   | some w'=>
     rw[ekn] at dw
     have dw:bM H1 d (.str x) (some (.int w')):=dw
     walk_at "vs"
     intro fl' H2 b2 hfl' e2 Rx
     have hs1:∀xs,H1 A.s≠some (.lst xs):=fun xs z=>by rw[e1] at z;cases z
     have tp2:mK H1 H2:=fun p xs z=>b2 p _ (fun w=>by
      have w:p=A.s:=by simpa using w
      rw[w,e1] at z;cases z) z
     obtain⟨cf,rc1,rch⟩:=se1.c
     have hns:∀{z:Addr},z≠A.s->z∉[A.s]:=fun h w=>h (by simpa using w)
     have nrk:A1.rk≠A.s:=fun z=>se1.n1 (by rw[es,z])
     have n1:A1.a1≠A.s:=fun z=>by obtain⟨ws,w1,_⟩:=rc1.e1;rw[z,e1] at w1;cases w1
     have n2:A1.a2≠A.s:=fun z=>by have w1:=rc1.e2;rw[z,e1] at w1;cases w1
     have n3:A1.a3≠A.s:=fun z=>by have w1:=rc1.e3;rw[z,e1] at w1;cases w1
     have f1n:fl'≠A1.a1:=fun z=>by obtain⟨ws,w1,_⟩:=rc1.e1;rw[<-z,hfl'] at w1;cases w1
     have f2n:fl'≠A1.a2:=fun z=>by have w1:=rc1.e2;rw[<-z,hfl'] at w1;cases w1
     refine⟨⟨A.s,A1.dx,A1.b,fl',A1.rk,A1.dxr,A1.a1,A1.a2,A1.a3,A1.k+1⟩,_,_,rfl,b1.trans b2,⟨e2,se1.hr.tups tp2,⟨cf,rc1.move b2 tp2 (fun z hz=> ?_),rch⟩, ?_,fun z=>nrk z.symm,f1n,f2n⟩,rfl,eb,erk,ea1,ea2,ea3,edx, .inr ?_,rfl⟩
     ·have hz:z=A1.rk\/z=A1.a1\/z=A1.a2\/z=A1.a3:=by simpa using hz
      rcases hz with rfl | rfl | rfl | rfl
      ·exact hns nrk
      ·exact hns n1
      ·exact hns n2
      ·exact hns n3
     ·by_cases huw:u=w'
      ·rw[if_pos huw] at Rx
       refine .inl ⟨rb,ps,v,Rx,hval,hrm,c,fun j p hj hpj=> ?_⟩
       have hj:j<A1.k+1:=hj
       by_cases hjk:j=A1.k
       ·rw[hjk,hp] at hpj;cases hpj
        rw[ekn,huw]
       ·exact hall j p (by omega) hpj
      ·rw[if_neg huw] at Rx
       refine .inr ⟨Rx,fun r2 ps2 v2 e=> ?_⟩
       rw[hrm] at e;cases e
       exact .inr ⟨(x,u),List.mem_of_getElem? hp,w',ekn,fun z=>huw z.symm⟩
     ·exact iQ b1 hfl' (hns (show fl'≠A.s from fun z=>by rw[z,e1] at hfl';cases hfl'))
 ·obtain⟨cf,rc1,rch⟩:=se1.c
  have akm:=rc1.e
  obtain⟨nn,cf',hst,hhalt,rch',gg⟩:=rch.adR hT3
  have knA:TF H1 d kn:=⟨kvs,ed1,hkn⟩
  have akn:d≠A1.a3:=by rw[ea3];exact nd3
  walk_at "vs"
  intro H2 b2 rc2
  have tp2:=rc1.lists b2
  have nss:A1.s∉[A1.a1,A1.a2,A1.a3]:=fun z=>by
   have e1:=se1.e
   have z:A1.s=A1.a1\/A1.s=A1.a2\/A1.s=A1.a3:=by simpa using z
   rcases z with z | z | z
   ·obtain⟨ws,w1,_⟩:=rc1.e1;rw[z,w1] at e1;cases e1
   ·rw[z,rc1.e2] at e1;cases e1
   ·rw[z,rc1.e3] at e1;cases e1
  have nfl:A1.fl∉[A1.a1,A1.a2,A1.a3]:=fun z=>by
   have z:A1.fl=A1.a1\/A1.fl=A1.a2\/A1.fl=A1.a3:=by simpa using z
   rcases z with z | z | z
   ·exact se1.n2 z
   ·exact se1.n3 z
   ·rw[z,rc1.e3] at Ir;cases Ir
  have se2:vo CS CR kr rm y r kn A1 H2:=⟨b2 _ _ nss se1.e,se1.hr.tups tp2,⟨cf',rc2,rch'⟩, .inr ⟨b2 _ _ nfl Ir,nof⟩,se1.n1,se1.n2,se1.n3⟩
  have bb:But A.ft H H2:=(b1.mono (by simp[SeD.ft])).trans (b2.mono (by rw[ea1,ea2,ea3];simp[SeD.ft]))
  have qq:=q A1 H2 bb es eb erk ea1 ea2 ea3 efl se2
  unfold Goes at gg
  cases eev:ev kn r with
  | inr v=>
    rw[eev] at gg
    obtain⟨g1,g2,g3,g4⟩:=gg
    exact⟨fun _=>qq.1 (.inr ⟨b2 _ _ nfl Ir,nof,cf',v,rc2,g2,g3,g4⟩),fun t x z=>by rw[g1] at z;simp at z⟩
  | inl x=>
    rw[eev] at gg
    obtain⟨⟨t,g1⟩,g2,g3⟩:=gg
    refine⟨fun z=>by rw[g1] at z;simp at z,fun t' x' z=> ?_⟩
    rw[g1] at z
    obtain⟨_,z⟩:=kW z
    cases z
    exact qq.2 x g2 g3
end
section
local macro_rules | `(tactic| walk_at "side") => `(tactic| first | exact yz _ _ _ _ | exact vm _ _ _ _ | exact yC _ _ _ _ | exact qw _ _ _ _ | exact (ir _ _ _ _).1 | exact (ir _ _ _ _).2.1 | exact (ir _ _ _ _).2.2.1 | exact (ir _ _ _ _).2.2.2 | exact BJ _ _ _ | exact GK _ _ _ | exact GP _ _ _ | exact Nat.le_of_ble_eq_true rfl)
variable {P:Program}{w:World}{K:PySem.W.Frag}{mg:Str->Option Value}{base:Heap}{CN CS CR:Addr}
abbrev cH:Stmt:=wO 12 4
theorem vD:bR ["self"] ["self"] (aa cH):=⟨rfl,rfl,rfl,by decide +kernel,rfl,by decide +kernel,by decide +kernel⟩
theorem cB:aF (aa cH) "self":=by decide +kernel
theorem lq:(aa cH).names.lookup ("list":Str)=some NameKind.globalImplicit:=by decide +kernel
theorem qz:("list":Str)≠"__name__":=by decide +kernel
theorem qC:(("list":Str)==("__debug__":Str))=false:=by decide +kernel
theorem vG {f g0:Addr}{fd gd0:FuncData} (dF:gR K CS "new_record" "Settling.new_record" cH ["self"] f fd)
 (bw:gR K CS "was_reckoned" "Settling.was_reckoned" bL ["self"] g0 gd0) (jJ:bh P w K mg base CX0 1 g0 gd0 ["self"] (Uz CS))
 (T:Blt mg) (sc:SeC K CS) (rcC:RkC K CR):bh P w K mg base CX0 2 f fd ["self"] (Uh CS CR):=by
 refine dF.F.okQ vD (fun vs H Q E h=> ?_) (fun cdv A0 outer s H vs Q E hr h=> ?_)
 ·obtain⟨A,kr,n,rm,y,r,kn,rfl,_⟩:=h
  rfl
 obtain⟨A,kr,n,rm,y,r,kn,rfl,e,rD,n17,se,q⟩:=h
 have jH:=sc.cl
 have nR:=sc.nR
 have nF:=sc.nF
 have nP:=sc.nP
 have nK:=sc.nK
 have m9:=rcC.cl
 have nFo:=rcC.nF
 have nRe:=rcC.nR
 refine⟨_,(aq (cN (qO (wH (aj 0 cB) jH bw.m (jJ.mono (by omega)) hr bw.b .nil bz)) (aD (aZ (ie (Rh (bU (aj 0 cB)) (uo (aa9 rfl (bU (bU (aj 0 cB))) lq T.zP) (fD (aK cL (bU (bU (aj 0 cB))) aA) az)))))) bH)
  (aD (aZ (ie (Rh (bU (aj 0 cB)) (uo (fj Gw lq T.zP u9 (fD (aK aG (aK cL (bU (aj 0 cB)) aA) aA) az) qz qC) (fD (aK aG (aK cL (bU (aj 0 cB)) aA) aA) az))))))), ?_⟩
 rcases se with⟨rb,ps,v,efl,hval,hrm,hall⟩ | ⟨efl,nof,c,v,rc1,hfo,got,rows⟩
 ·obtain⟨bb,hbb,br,l,as,f1,R1,el,hRs,_⟩:=rD.v y _ hrm
  rw[hval] at hbb
  cases hbb
  have f1:H rb=some (.tup [.ref br, .ref l, .int v]):=f1
  have hRs:iJ H as ps:=hRs
  obtain⟨got,k0,hk0,ek0,rk0⟩:=rD.ok y r ps v hrm
  have hpl:ps.length<=k0:=Qg got.c rk0.i
  have a0:atI [V.ref rb] 0=some (.ref rb):=rfl
  have a1:atI [V.ref br, .ref l, .int v] 1=some (.ref l):=rfl
  have a2:atI [V.ref br, .ref l, .int v] 2=some (.int v):=rfl
  walk_at "vs"
  intro l' hl'
  have s1:=aC (.lst (as.map V.ref)) hl'
  have el1:upd H l' (.lst (as.map V.ref)) l'=some (.lst (as.map V.ref)):=ao
  have e1:=s1 _ _ e
  have Ir:=s1 _ _ efl
  have f11:=s1 _ _ f1
  generalize upd H l' (.lst (as.map V.ref))=H1 at *
  walk_at "vs"
  intro rb' hrb'
  have s2:=aC (.tup [.ref A.b, .ref l', .int v]) hrb'
  exact q rb' l' as ps v false _ (s1.trans s2) ao hl' (s2 _ _ el1) (hRs.same (s1.trans s2)) ⟨got,⟨hall,(yw got.c).2⟩,hrm⟩ ⟨_,s2 _ _ Ir,rfl⟩
 ·have e1:=rc1.e
  have e2:=rc1.e2
  rw[hfo] at e2
  have e3:=rc1.e3
  have a0:atI [V.int v] 0=some (.int v):=rfl
  walk_at "vs"
  intro l' as H1 s1 hl' el1 hal hit
  have e1':=s1 _ _ e1
  have e2':H1 A.a2=some (.lst [.int v]):=s1 _ _ e2
  have eS:=s1 _ _ e
  have Ir:=s1 _ _ efl
  walk_at "vs"
  intro rb' hrb'
  have s2:=aC (.tup [.ref A.b, .ref l', .int v]) hrb'
  have hR:iJ H1 as c.rds:=Lz (by rw[hal];unfold rdK;rw[List.length_map]) fun j b p h1 h2=>by
   have h3:(rdK c.rds)[j]? =some (.inr p.1, .int p.2):=by unfold rdK;rw[List.getElem?_map,h2];rfl
   exact hit j b _ h1 h3
  exact q rb' l' as c.rds v true _ (s1.trans s2) ao hl' (s2 _ _ el1) (hR.same s2) ⟨got,rows,nof⟩ ⟨_,s2 _ _ Ir,rfl⟩
end
section
local macro_rules | `(tactic| walk_at "side") => `(tactic| first | exact wM _ _ _ _ _ _ | exact qW _ _ _ _ _ _ | exact Hl _ _ _ _ _ _ | exact wN _ _ _ _ _ _ | exact qX _ _ _ _ _ _ | exact o7 _ _ _ _ _ _ | exact (iu _ _ _ _ _ _).1 | exact (iu _ _ _ _ _ _).2.1 | exact (iu _ _ _ _ _ _).2.2.1 | exact (iu _ _ _ _ _ _).2.2.2.1 | exact (iu _ _ _ _ _ _).2.2.2.2 | exact (DN _).1 | exact (DN _).2 | exact (ir _ _ _ _).1 | exact (ir _ _ _ _).2.2.1 | exact (ir _ _ _ _).2.2.2 | exact Nat.le_of_ble_eq_true rfl)
variable {P:Program}{w:World}{K:PySem.W.Frag}{mg:Str->Option Value}{base:Heap}{CSe CN CS CR:Addr}
abbrev cV:Stmt:=wO 13 0
theorem Ad:bR ["self","house","old"] ["self","house","old"] (aa cV):=⟨rfl,rfl,rfl,by decide +kernel,rfl,by decide +kernel,by decide +kernel⟩
theorem dM:aF (aa cV) "self":=by decide +kernel
theorem mV:aF (aa cV) "house":=by decide +kernel
theorem vH:aF (aa cV) "old":=by decide +kernel
theorem Ae {f:Addr}{fd:FuncData} (gY:gR K CSe "__init__" "Search.__init__" cV ["self","house","old"] f fd) (sc:SrC K CSe):bh P w K mg base CX0 1 f fd ["self","house","old"] (LQ CSe):=by
 refine gY.F.okQ Ad (fun vs H Q E h=> ?_) (fun cdv A outer s H vs Q E hr h=> ?_)
 ·obtain⟨a,dx,h,g,c,o,rfl,_⟩:=h
  rfl
 obtain⟨a,dx,h,g,c,o,rfl,e,eh,q⟩:=h
 have m6:=sc.cl
 have nG:=sc.nG
 have nR:=sc.nR
 have nO:=sc.nO
 have nK:=sc.nK
 have nS:=sc.nS
 have nM:=sc.nM
 refine⟨_,(aq (mC (aj 0 dM) (aK aG (aj 1 mV) aA))
  (aq (mC (aj 0 dM) (aK aG (aj 1 mV) aA))
  (aq (mC (aj 0 dM) (aj 2 vH))
  (aq (mC (aj 0 dM) lF)
  (aq (mC (aj 0 dM) lF)
  (aD (mC (aj 0 dM) lF))))))), ?_⟩
 have nha:h≠a:=fun z=>by rw[z,e] at eh;cases eh
 have a0:atI [V.ref g, .ref c] 0=some (.ref g):=rfl
 have a1:atI [V.ref g, .ref c] 1=some (.ref c):=rfl
 walk_at "vs"
 rw[uY,uY]
 have b1:But [a] H (upd H a (.ins CSe dx (bf "old" (.ref o) (bf "recipes" (.ref c) (bf "given" (.ref g) []))))):=But.set _ (by simp)
 have e1:upd H a (.ins CSe dx (bf "old" (.ref o) (bf "recipes" (.ref c) (bf "given" (.ref g) [])))) a=some (.ins CSe dx (bf "old" (.ref o) (bf "recipes" (.ref c) (bf "given" (.ref g) [])))):=ao
 have n1:∀{z},upd H a (.ins CSe dx (bf "old" (.ref o) (bf "recipes" (.ref c) (bf "given" (.ref g) [])))) z=none->H z=none:=fun z=>(dX z).2
 generalize upd H a (.ins CSe dx (bf "old" (.ref o) (bf "recipes" (.ref c) (bf "given" (.ref g) []))))=H1 at *
 walk_at "vs"
 intro kd hkd
 have s2:=aC (.dK []) hkd
 have ek2:upd H1 kd (.dK []) kd=some (.dK []):=ao
 have e2:=s2 _ _ e1
 generalize upd H1 kd (.dK [])=H2 at *
 have nka:kd≠a:=fun z=>by rw[z,e2] at ek2;cases ek2
 walk_at "vs"
 have b3:But [a] H2 (upd H2 a (.ins CSe dx (bf "known" (.ref kd) (bf "old" (.ref o) (bf "recipes" (.ref c) (bf "given" (.ref g) [])))))):=But.set _ (by simp)
 have e3:upd H2 a (.ins CSe dx (bf "known" (.ref kd) (bf "old" (.ref o) (bf "recipes" (.ref c) (bf "given" (.ref g) []))))) a=some (.ins CSe dx (bf "known" (.ref kd) (bf "old" (.ref o) (bf "recipes" (.ref c) (bf "given" (.ref g) []))))):=ao
 have ek3:upd H2 a (.ins CSe dx (bf "known" (.ref kd) (bf "old" (.ref o) (bf "recipes" (.ref c) (bf "given" (.ref g) []))))) kd=some (.dK []):=(au nka).trans ek2
 have n3:∀{z},upd H2 a (.ins CSe dx (bf "known" (.ref kd) (bf "old" (.ref o) (bf "recipes" (.ref c) (bf "given" (.ref g) []))))) z=none->H2 z=none:=fun z=>(dX z).2
 generalize upd H2 a (.ins CSe dx (bf "known" (.ref kd) (bf "old" (.ref o) (bf "recipes" (.ref c) (bf "given" (.ref g) [])))))=H3 at *
 intro sd hsd
 have s4:=aC (.dK []) hsd
 have es4:upd H3 sd (.dK []) sd=some (.dK []):=ao
 have nks:kd≠sd:=fun z=>by rw[<-z,ek3] at hsd;cases hsd
 have ek4:=s4 _ _ ek3
 have e4:=s4 _ _ e3
 generalize upd H3 sd (.dK [])=H4 at *
 have nsa:sd≠a:=fun z=>by rw[z,e4] at es4;cases es4
 walk_at "vs"
 have b5:But [a] H4 (upd H4 a (.ins CSe dx (bf "settled" (.ref sd) (bf "known" (.ref kd) (bf "old" (.ref o) (bf "recipes" (.ref c) (bf "given" (.ref g) []))))))):=But.set _ (by simp)
 have e5:upd H4 a (.ins CSe dx (bf "settled" (.ref sd) (bf "known" (.ref kd) (bf "old" (.ref o) (bf "recipes" (.ref c) (bf "given" (.ref g) [])))))) a=some (.ins CSe dx (bf "settled" (.ref sd) (bf "known" (.ref kd) (bf "old" (.ref o) (bf "recipes" (.ref c) (bf "given" (.ref g) [])))))):=ao
 have ek5:upd H4 a (.ins CSe dx (bf "settled" (.ref sd) (bf "known" (.ref kd) (bf "old" (.ref o) (bf "recipes" (.ref c) (bf "given" (.ref g) [])))))) kd=some (.dK []):=(au nka).trans ek4
 have es5:upd H4 a (.ins CSe dx (bf "settled" (.ref sd) (bf "known" (.ref kd) (bf "old" (.ref o) (bf "recipes" (.ref c) (bf "given" (.ref g) [])))))) sd=some (.dK []):=(au nsa).trans es4
 have n5:∀{z},upd H4 a (.ins CSe dx (bf "settled" (.ref sd) (bf "known" (.ref kd) (bf "old" (.ref o) (bf "recipes" (.ref c) (bf "given" (.ref g) [])))))) z=none->H4 z=none:=fun z=>(dX z).2
 generalize upd H4 a (.ins CSe dx (bf "settled" (.ref sd) (bf "known" (.ref kd) (bf "old" (.ref o) (bf "recipes" (.ref c) (bf "given" (.ref g) []))))))=H5 at *
 intro rd hrd
 have s6:=aC (.dK []) hrd
 have er6:upd H5 rd (.dK []) rd=some (.dK []):=ao
 have nkr:kd≠rd:=fun z=>by rw[<-z,ek5] at hrd;cases hrd
 have nsr:sd≠rd:=fun z=>by rw[<-z,es5] at hrd;cases hrd
 have ek6:=s6 _ _ ek5
 have es6:=s6 _ _ es5
 have e6:=s6 _ _ e5
 generalize upd H5 rd (.dK [])=H6 at *
 have nra:rd≠a:=fun z=>by rw[z,e6] at er6;cases er6
 walk_at "vs"
 have hk0:H kd=none:=n1 hkd
 have hs0:H sd=none:=n1 (same_none s2 (n3 hsd))
 have hr0:H rd=none:=n1 (same_none s2 (n3 (same_none s4 (n5 hrd))))
 exact q kd sd rd _ ((b1.trans (But.of_same s2)).trans (b3.trans ((But.of_same s4).trans (b5.trans ((But.of_same s6).trans (But.set _ (by simp))))))) ao hk0 hs0 hr0 nks nkr nsr ((au nka).trans ek6) ((au nsa).trans es6) ((au nra).trans er6)
abbrev dB:Stmt:=wO 13 1
theorem vW:bR ["self","name","r"] ["self","name"] (aa dB):=⟨rfl,rfl,rfl,by decide +kernel,rfl,by decide +kernel,by decide +kernel⟩
theorem lM:aF (aa dB) "name":=by decide +kernel
theorem lN:aF (aa dB) "self":=by decide +kernel
theorem Cd:Loc (aa dB) "r":=by decide +kernel
theorem tU:(aa dB).names.lookup ("Settling":Str)=some NameKind.globalImplicit:=by decide +kernel
theorem sO:aF (aa dB) "r":=by decide +kernel
theorem tV:(("Settling":Str)==("__debug__":Str))=false:=by decide +kernel
theorem Fl {f g0 g1:Addr}{fd gd0 gd1:FuncData} (iV:gR K CSe "begin" "Search.begin" dB ["self","name"] f fd)
 (cF:gR K CN "records_for" "NamedRecords.records_for" aQ ["self","name","r"] g0 gd0) (qZ:bh P w K mg base CX0 13 g0 gd0 ["self","name","r"] (Ue CN))
 (fY:gR K CS "__init__" "Settling.__init__" cA ["self","r","records"] g1 gd1) (yK:bh P w K mg base CX0 3 g1 gd1 ["self","r","records"] (Lw CS CR))
 (Af:Mk K CS g1) (Ag:mg "Settling"=some (.ref CS)) (T:Blt mg) (sc:SrC K CSe) (nc:NrC K CN):bh P w K mg base CX0 14 f fd ["self","name"] (Qo CSe CN CS CR):=by
 refine iV.F.okQ vW (fun vs H Q E h=> ?_) (fun cdv A0 outer s H vs Q E hr h=> ?_)
 ·obtain⟨D,n,gv,rc,kg,kc,kr,rm,y,r,rfl,_⟩:=h
  rfl
 obtain⟨D,n,gv,rc,kg,kc,kr,rm,y,r,rfl,sh,hrc,q⟩:=h
 have m6:=sc.cl
 have nR:=sc.nR
 have nO:=sc.nO
 have mQ:=nc.cl
 have e:=sh.e
 have ec:=sh.ec
 have eo:=sh.eo
 have er:=sh.er
 have rD:=sh.rD
 obtain⟨br,hbr,hR⟩:=sh.bd.r y r hrc
 obtain⟨k0,hk0,ek0,rk0⟩:=sh.bd.ok.rk y r hrc
 have hg:=rk0.g
 have hd8:r.depth<=8:=by have:=rk0.d;omega
 have hw:wR r<=4000:=by
  have:=Hg r 4 rk0.d
  have:(3:Nat)^ 4=81:=by decide
  omega
 have dc:bM H D.c (.str y) (some (.ref br)):=by rw[<-hbr];exact bM.k (k:= .inr y) ec
 refine⟨_,(aq (cN (qK (cg hr) (aj 1 lM) (bU (aj 0 lN))) (aD Li) bH)
  (aq (bK (i:=2) vW.nd rfl Cd (cU (cg hr) (bU (aj 0 lN)) (aj 1 lM)))
  (aD (aZ (FT Af (yK.mono (by omega)) hr tU Ag fY.b .nil bz (aJ (aj 2 sO) (uo (qt (bU (aj 0 lN)) mQ cF.m (qZ.mono (by omega)) hr cF.b .nil bz (aJ (aj 1 lM) (aJ (aj 2 sO) az))) az)) tV))))), ?_⟩
 walk_at "vs"
 intro fl H1 s1 hfl fit
 have hR1:=hR.same s1
 walk_at "vs"
 intro a dx ha hdx hne
 have haH:(upd H1 dx (.own a)) a=none:=(au (Ne.symm hne)).trans ha
 have S1:=(aC (.own a) hdx).trans (aC (.ins CS dx []) haH)
 refine⟨a,dx,br,fl,r,rfl,ao,hR1.same S1,hw,fun A H2 b2 eA eb efl ek e2 rc2 hfr=>⟨rfl, ?_⟩⟩
 have S2:aW H1 H2:=iM S1 (fun p hp=>by
  have:p=a:=by simpa using hp
  rw[this];exact ha) b2
 have Ry:∀z∈[A.rk,A.a1,A.a2,A.a3],H1 z=none:=fun z hz=>same_none S1 (hfr z hz)
 have ad2:H1 fl≠none:=fun z=>by
  rcases fit kn0 with⟨rb,ps,v,w1,_⟩ | ⟨w1,_⟩
  ·rw[z] at w1;cases w1
  ·rw[z] at w1;cases w1
 rw[<-eA]
 refine q A H2 (s1.trans S2) (fun z hz=> ?_) (fun kn=>⟨?_, ?_,⟨_,rc2,⟨0, .zero⟩⟩, ?_,fun z=> ?_,fun z=> ?_,fun z=> ?_⟩)
 ·have hz:z=A.s\/z=A.fl\/z=A.rk\/z=A.a1\/z=A.a2\/z=A.a3:=by simpa [SeD.ft] using hz
  rcases hz with w | w | w | w | w | w
  ·rw[w,eA];exact same_none s1 ha
  ·rw[w,efl];exact hfl
  ·exact same_none s1 (Ry z (by simp[w]))
  ·exact same_none s1 (Ry z (by simp[w]))
  ·exact same_none s1 (Ry z (by simp[w]))
  ·exact same_none s1 (Ry z (by simp[w]))
 ·rw[eA,eb,efl,ek];exact e2
 ·rw[eb];exact hR1.same S2
 ·rw[efl,ek];exact(fit kn).at fun o e=>S2 _ _ e
 ·have:=hfr A.rk (by simp)
  rw[<-z,eA,ao] at this;cases this
 ·exact ad2 (by rw[<-efl,z];exact Ry _ (by simp))
 ·exact ad2 (by rw[<-efl,z];exact Ry _ (by simp))
end
section
local macro_rules | `(tactic| walk_at "side") => `(tactic| first | exact wM _ _ _ _ _ _ | exact qW _ _ _ _ _ _ | exact Hl _ _ _ _ _ _ | exact wN _ _ _ _ _ _ | exact qX _ _ _ _ _ _ | exact o7 _ _ _ _ _ _ | exact (iu _ _ _ _ _ _).1 | exact (iu _ _ _ _ _ _).2.1 | exact (iu _ _ _ _ _ _).2.2.1 | exact (iu _ _ _ _ _ _).2.2.2.1 | exact (iu _ _ _ _ _ _).2.2.2.2 | exact (DN _).1 | exact (DN _).2 | exact (ir _ _ _ _).1 | exact (ir _ _ _ _).2.2.1 | exact (ir _ _ _ _).2.2.2 | exact Nat.le_of_ble_eq_true rfl)
variable {P:Program}{w:World}{K:PySem.W.Frag}{mg:Str->Option Value}{base:Heap}{CSe CN CS CR:Addr}
abbrev eU:Stmt:=wO 13 2
theorem zy:bR ["self","name","settling","record"] ["self","name","settling"] (aa eU):=⟨rfl,rfl,rfl,by decide +kernel,rfl,by decide +kernel,by decide +kernel⟩
theorem xG:Loc (aa eU) "record":=by decide +kernel
theorem nU:aF (aa eU) "settling":=by decide +kernel
theorem j6:aF (aa eU) "self":=by decide +kernel
theorem ni:aF (aa eU) "name":=by decide +kernel
theorem lO:aF (aa eU) "record":=by decide +kernel
theorem Iu {f g0 g1 g2:Addr}{fd gd0 gd1 gd2:FuncData} (j7:gR K CSe "end" "Search.end" eU ["self","name","settling"] f fd)
 (dF:gR K CS "new_record" "Settling.new_record" cH ["self"] g0 gd0) (v8:bh P w K mg base CX0 2 g0 gd0 ["self"] (Uh CS CR))
 (bw:gR K CS "was_reckoned" "Settling.was_reckoned" bL ["self"] g1 gd1) (jJ:bh P w K mg base CX0 1 g1 gd1 ["self"] (Uz CS))
 (cR:gR K CN "put_made" "NamedRecords.put_made" cQ ["self","record"] g2 gd2) (uJ:bh P w K mg base CX0 1 g2 gd2 ["self","record"] YT)
 (T:Blt mg) (sr:SrC K CSe) (sc:SeC K CS) (nc:NrC K CN):bh P w K mg base CX0 3 f fd ["self","name","settling"] (Ul CSe CN CS CR):=by
 refine j7.F.okQ zy (fun vs H Q E h=> ?_) (fun cdv A0 outer s H vs Q E hr h=> ?_)
 ·obtain⟨D,n,gv,rc,kg,kc,kr,rm,kn,rmN,rkn,od,Hf,A,y,r,rfl,_⟩:=h
  rfl
 obtain⟨D,n,gv,rc,kg,kc,kr,rm,kn,rmN,rkn,od,Hf,A,y,r,rfl,sh,so,e,hR,se,hkn,hgv,hrc,hy,hft,q⟩:=h
 have m6:=sr.cl
 have nK:=sr.nK
 have nS:=sr.nS
 have nM:=sr.nM
 have nO:=sr.nO
 have jH:=sc.cl
 have mQ:=nc.cl
 obtain⟨e0,_,_,_,eo0,_,rD0,n17,nks,nkr,nsr⟩:=sh.same so.sm
 refine⟨_,(aq (bK (i:=3) zy.nd rfl xG (wH (aj 2 nU) jH dF.m (v8.mono (by omega)) hr dF.b .nil bz))
  (aq (jc (cg hr) (bU (aj 0 j6)) (aj 1 ni) (aK aG (aj 3 lO) aA))
  (aq (jc (cg hr) (bU (aj 0 j6)) (aj 1 ni) (aj 3 lO))
  (aD (cN (qO (wH (aj 2 nU) jH bw.m (jJ.mono (by omega)) hr bw.b .nil bz)) (aq (jc (cg hr) (bU (aj 0 j6)) (aj 1 ni) Pn)
  (aD (eN (qt (bU (aj 0 j6)) mQ cR.m (uJ.mono (by omega)) hr cR.b .nil bz (aJ (aj 3 lO) az))))) bH))))), ?_⟩
 walk_at "vs"
 intro rb l as ps v made H1 s1 erb hl el hRs rcd ⟨xs,efl,exs⟩
 obtain⟨kw,ws,ek,kk1,hkw⟩:=so.ek
 obtain⟨ks,es,rDs,kod⟩:=so.es
 obtain⟨kk,rs,er,kk3,hkk,hrn⟩:=so.er
 have hkl:kw.length<=n:=so.kl kk1 hkw
 have hsl:ks.length<=n:=rDs.len
 have hrm:rmN y=none:=by
  cases z:rmN y with
  | none=>rfl
  | some q'=>
    obtain⟨r1,ps1,v1⟩:=q'
    have:=(so.ok.b y r1 ps1 v1 z).2.2.1
    rw[hkn] at this;cases this
 have hry:rkn y=false:=by
  cases z:rkn y with
  | false=>rfl
  | true=>exact absurd hrm (hrn y z)
 have hrl:kk.length<=n:=by
  rw[kk3.len,<-jd n]
  refine gC kk3.nd fun x hx=> ?_
  cases z:rmN x with
  | none=>
    have:rkn x=false:=by
     cases w:rkn x with
     | false=>rfl
     | true=>exact absurd z (hrn x w)
    exact absurd hx (kk3.none.mp (by rw[hkk,this];rfl))
  | some q'=>
    obtain⟨r1,ps1,v1⟩:=q'
    exact(so.ok.a x v1 (so.ok.b x r1 ps1 v1 z).2.2.1).1
 have e1:=s1 _ _ e
 have e01:=s1 _ _ e0
 have ek1:=s1 _ _ ek
 have es1:=s1 _ _ es
 have er1:=s1 _ _ er
 have eo1:=s1 _ _ eo0
 have a2:atI [V.ref A.b, .ref l, .int v] 2=some (.int v):=rfl
 obtain⟨H2,eH2⟩:∃H2,H2=upd H1 D.kd (.dK (putK kw (.inr y) (.int v))):=⟨_,rfl⟩
 have dp1:jD H1 D.kd (.str y) (.int v) H2:=by rw[eH2];exact jD.k (k:= .inr y) ek1 (aV (by omega))
 have k2:∀{z:Addr}{o:HO},z≠D.kd->H1 z=some o->H2 z=some o:=fun h h'=>by rw[eH2];exact(au h).trans h'
 have j2:∀{z:Addr}{o:HO},H1 z=some o->(∀ks',o≠ .dK ks')->H2 z=some o:=fun{z o} h1 h2=>k2 (fun w=>by rw[w,ek1] at h1;cases h1;exact h2 _ rfl) h1
 have ek2:H2 D.kd=some (.dK (putK kw (.inr y) (.int v))):=by rw[eH2];exact ao
 have es2:=k2 (Ne.symm nks) es1
 have er2:=k2 (Ne.symm nkr) er1
 have b2:But [D.kd,D.sd,D.rd] H1 H2:=by rw[eH2];exact But.set _ (by simp)
 have e02:=j2 e01 (by simp)
 have e2:=j2 e1 (by simp)
 have eo2:=j2 eo1 (by simp)
 have Rx:=j2 efl (by simp)
 have ako:=j2 erb (by simp)
 clear eH2
 obtain⟨H3,eH3⟩:∃H3,H3=upd H2 D.sd (.dK (putK ks (.inr y) (.ref rb))):=⟨_,rfl⟩
 have dp2:jD H2 D.sd (.str y) (.ref rb) H3:=by rw[eH3];exact jD.k (k:= .inr y) es2 (aV (by omega))
 have k3:∀{z:Addr}{o:HO},z≠D.sd->H2 z=some o->H3 z=some o:=fun h h'=>by rw[eH3];exact(au h).trans h'
 have j3:∀{z:Addr}{o:HO},H2 z=some o->(∀ks',o≠ .dK ks')->H3 z=some o:=fun{z o} h1 h2=>k3 (fun w=>by rw[w,es2] at h1;cases h1;exact h2 _ rfl) h1
 have es3:H3 D.sd=some (.dK (putK ks (.inr y) (.ref rb))):=by rw[eH3];exact ao
 have ek3:=k3 nks ek2
 have er3:=k3 (Ne.symm nsr) er2
 have b3:But [D.kd,D.sd,D.rd] H2 H3:=by rw[eH3];exact But.set _ (by simp)
 have e03:=j3 e02 (by simp)
 have e3:=j3 e2 (by simp)
 have eo3:=j3 eo2 (by simp)
 have akp:=j3 Rx (by simp)
 have B3:But [D.kd,D.sd,D.rd] H H3:=(But.of_same s1).trans (b2.trans b3)
 clear eH3
 have gs:=WW so.sm s1
 have gi:=WX so.sm s1
 have gt:mK H1 (grow Hf H H1):=Rr
 have gk:=Ga (Hf:=Hf) s1 ⟨_,ek,by simp⟩ so.fk
 have gss:=Ga (Hf:=Hf) s1 ⟨_,es,by simp⟩ so.fs
 have gr:=Ga (Hf:=Hf) s1 ⟨_,er,by simp⟩ so.fr
 have gl:grow Hf H H1 l=some (.lst (as.map V.ref)):=(Uk hl).trans el
 have ra:vg [] (grow Hf H H1) rb (r,ps,v):=⟨A.b,l,as,gt _ _ erb,(hR.same s1).tups gt,gl,hRs.tups gt,by simp⟩
 have hgot:=rcd.1
 have hrows:=rcd.2.1
 obtain⟨k0,hk0,ek0,rk0⟩:=sh.bd.ok.rk y r hrc
 have rD':=(rDs.map (H':=grow Hf H H1) fun _ _ z=>z.same gs).put hy ra ⟨hgot,k0,hk0,ek0,rk0⟩
 have ok':=so.ok.tD hy hkn hgv hrc hgot hrows
 have lek:Kn.Le kn (kn.put y v):=Kn.lG hkn
 have md':∀x r1 ps1 v1,(rmN.put y (r,ps,v)) x=some (r1,ps1,v1)->Rcd rm x r1 (kn.put y v) ps1 v1 (if x=y then made else rkn x):=fun x r1 ps1 v1 h=>by
  unfold Rm.put at h
  by_cases z:x=y
  ·rw[if_pos z] at h ⊢
   cases h
   rw[z];exact rcd.le lek
  ·rw[if_neg z] at h ⊢
   exact(so.md x r1 ps1 v1 h).le lek
 have hev:=aba hgot hrows
 have hyo:y∉od:=kod.none.mp (rDs.w y hrm)
 have hyw:y∉ws:=kk1.none.mp (by rw[hkw,hkn];rfl)
 have hyr:y∉rs:=kk3.none.mp (by rw[hkk,hry];rfl)
 have ad3:∀{H'},But [D.kd,D.sd,D.rd] H1 H'->aW (grow Hf H H1) H':=fun b z o h=>b z o (fun w=>by
  have w:z=D.kd\/z=D.sd\/z=D.rd:=by simpa using w
  rcases w with w | w | w
  ·rw[w,gk] at h;cases h
  ·rw[w,gss] at h;cases h
  ·rw[w,gr] at h;cases h) (gi z o h)
 have fin:∀H' kk' rs',But [D.kd,D.sd,D.rd] H1 H'->H' D.kd=some (.dK (putK kw (.inr y) (.int v)))->H' D.sd=some (.dK (putK ks (.inr y) (.ref rb)))->H' D.rd=some (.dK kk')->iz kk' rs'->(∀x,cO kk' (.inr x)=if(if x=y then made else rkn x)=true then some (.bl true) else none)->Q .non H':=fun H' kk' rs' bb h1 h2 h3 h4 h5=>by
  refine q v ps made (grow Hf H H1) H' ((But.of_same s1).trans bb) gs (fun z m hz=>Ga s1 m hz) ⟨ad3 bb,gk,gss,gr,⟨_,_,h1,kk1.oK hyw _,vh hkw y v⟩,⟨_,h2,rD',kod.oK hyo _⟩,⟨_,_,h3,h4,h5,fun x hx=> ?_⟩,ok',md'⟩ hev
  unfold Rm.put
  by_cases z:x=y
  ·rw[if_pos z];simp
  ·rw[if_neg z] at hx ⊢;exact hrn x hx
 cases hm:made with
 | false=>
   rw[hm] at exs
   have hxs:decide (xs.length=0)=false:=exs
   walk_at "vs"
   rw[hxs]
   walk_at "vs"
   refine fin H3 kk rs (b2.trans b3) ek3 es3 er3 kk3 fun x=> ?_
   rw[hkk,hm]
   by_cases z:x=y
   ·rw[if_pos z,z,hry]
   ·rw[if_neg z]
 | true=>
   rw[hm] at exs
   have hxs:decide (xs.length=0)=true:=exs
   obtain⟨H4,eH4⟩:∃H4,H4=upd H3 D.rd (.dK (putK kk (.inr y) (.bl true))):=⟨_,rfl⟩
   have dp3:jD H3 D.rd (.str y) (.bl true) H4:=by rw[eH4];exact jD.k (k:= .inr y) er3 (aV (by omega))
   have k4:∀{z:Addr}{o:HO},z≠D.rd->H3 z=some o->H4 z=some o:=fun h h'=>by rw[eH4];exact(au h).trans h'
   have j4:∀{z:Addr}{o:HO},H3 z=some o->(∀ks',o≠ .dK ks')->H4 z=some o:=fun{z o} h1 h2=>k4 (fun w=>by rw[w,er3] at h1;cases h1;exact h2 _ rfl) h1
   have er4:H4 D.rd=some (.dK (putK kk (.inr y) (.bl true))):=by rw[eH4];exact ao
   have ek4:=k4 nkr ek3
   have es4:=k4 nsr es3
   have b4:But [D.kd,D.sd,D.rd] H3 H4:=by rw[eH4];exact But.set _ (by simp)
   have e04:=j4 e03 (by simp)
   have eo4:=j4 eo3 (by simp)
   clear eH4
   walk_at "vs"
   rw[hxs]
   walk_at "vs"
   refine⟨⟨_,_,rfl⟩, ?_⟩
   refine fin H4 _ _ (b2.trans (b3.trans b4)) ek4 es4 er4 (kk3.oK hyr _) fun x=> ?_
   rw[jo,hm]
   by_cases z:x=y
   ·rw[if_pos (by rw[z]),if_pos z];rfl
   ·rw[if_neg (zV z),if_neg z];exact hkk x
end
section
local macro_rules | `(tactic| walk_at "side") => `(tactic| first | exact wM _ _ _ _ _ _ | exact qW _ _ _ _ _ _ | exact Hl _ _ _ _ _ _ | exact wN _ _ _ _ _ _ | exact qX _ _ _ _ _ _ | exact o7 _ _ _ _ _ _ | exact (iu _ _ _ _ _ _).1 | exact (iu _ _ _ _ _ _).2.1 | exact (iu _ _ _ _ _ _).2.2.1 | exact (iu _ _ _ _ _ _).2.2.2.1 | exact (iu _ _ _ _ _ _).2.2.2.2 | exact (DN _).1 | exact (DN _).2 | exact (ir _ _ _ _).1 | exact (ir _ _ _ _).2.2.1 | exact (ir _ _ _ _).2.2.2 | exact Nat.le_of_ble_eq_true rfl)
variable {P:Program}{w:World}{K:PySem.W.Frag}{mg:Str->Option Value}{base:Heap}{CSe CN CS CR:Addr}
abbrev bI:Stmt:=wO 13 5
theorem jK:bR ["self","name","path","begun","last","other"] ["self","name"] (aa bI):=⟨rfl,rfl,rfl,by decide +kernel,rfl,by decide +kernel,by decide +kernel⟩
theorem v9:Loc (aa bI) "path":=by decide +kernel
theorem wg:aF (aa bI) "name":=by decide +kernel
theorem vI:Loc (aa bI) "begun":=by decide +kernel
theorem gh:aF (aa bI) "path":=by decide +kernel
theorem wj:Loc (aa bI) "last":=by decide +kernel
theorem bW:aF (aa bI) "last":=by decide +kernel
theorem dG:aF (aa bI) "self":=by decide +kernel
theorem iG:aF (aa bI) "begun":=by decide +kernel
theorem vJ:Loc (aa bI) "other":=by decide +kernel
theorem j8:aF (aa bI) "other":=by decide +kernel
theorem DR {f g0 g1 g2:Addr}{fd gd0 gd1 gd2:FuncData} (iy:gR K CSe "settle" "Search.settle" bI ["self","name"] f fd)
 (iV:gR K CSe "begin" "Search.begin" dB ["self","name"] g0 gd0) (Hz:bh P w K mg base CX0 14 g0 gd0 ["self","name"] (Qo CSe CN CS CR))
 (eY:gR K CS "lacking" "Settling.lacking" bD ["self","known"] g1 gd1) (Ah:bh P w K mg base CX0 4 g1 gd1 ["self","known"] (Lx CS CR))
 (j7:gR K CSe "end" "Search.end" eU ["self","name","settling"] g2 gd2) (Ka:bh P w K mg base CX0 3 g2 gd2 ["self","name","settling"] (Ul CSe CN CS CR))
 (T:Blt mg) (sr:SrC K CSe) (sc:SeC K CS):bh P w K mg base CX0 15 f fd ["self","name"] (LR CSe CN):=by
 refine iy.F.okQ jK (fun vs H Q E h=> ?_) (fun cdv A0 outer s H vs Q E hr h=> ?_)
 ·obtain⟨D,n,gv,rc,kg,kc,kr,rm,kn,rmN,rkn,od,Hf,x,rfl,_⟩:=h
  rfl
 obtain⟨D,n,gv,rc,kg,kc,kr,rm,knI,ad4,ad5,odI,HfI,x,rfl,shI,soI,hx,q⟩:=h
 obtain⟨k0,hk0,ex⟩:=bT.mp hx
 have m6:=sr.cl
 have nG:=sr.nG
 have nK:=sr.nK
 have jH:=sc.cl
 have n17:=shI.n17
 have e0:=soI.sm _ _ shI.e
 refine⟨_,(aq (bK (i:=2) jK.nd rfl v9 (gB (aJ (aj 1 wg) az)))
  (aq (bK (i:=3) jK.nd rfl vI lF)
  (aD (Gv PassesOwn.never (Gn (aj 2 gh)) (aq (bK (i:=4) jK.nd rfl wj (aK cL (aj 2 gh) (Yz Pu aA)))
  (aq (cN (tE (cg hr) (aj 4 bW) (bU (aj 0 dG))) (aD (jc (cg hr) (bU (aj 0 dG)) (aj 4 bW) (cU (cg hr) (bU (aj 0 dG)) (aj 4 bW)))) bH)
  (aq (cN (tE (cg hr) (aj 4 bW) (bU (aj 0 dG))) (aq (eN (Dt PySem.F.plainAttrs_list PySem.F.slot_list_pop PySem.F.type_list_pop yr (aj 2 gh)))
  (aD K8)) bH)
  (aq (cN (qK (cg hr) (aj 4 bW) (aj 3 iG)) (aD (jc (cg hr) (aj 3 iG) (aj 4 bW) (qt (aj 0 dG) m6 iV.m (Hz.mono (by omega)) hr iV.b .nil bz (aJ (aj 4 bW) az)))) bH)
  (aq (bK (i:=5) jK.nd rfl vJ (qt (cU (cg hr) (aj 3 iG) (aj 4 bW)) jH eY.m (Ah.mono (by omega)) hr eY.b .nil bz (Rh (bU (aj 0 dG)) az)))
  (aD (cN (cD We (aj 5 j8) Nq (aU _)) (aD (eN (qt (aj 0 dG) m6 j7.m (Ka.mono (by omega)) hr j7.b .nil bz (aJ (aj 4 bW) (fD (cU (cg hr) (aj 3 iG) (aj 4 bW)) az))))) (aD (cN (cD Nv (aj 5 j8) (aj 2 gh) rfl) (aD Li) (aD (eN (qP PySem.F.plainAttrs_list PySem.F.slot_list_append PySem.F.type_list_append ig (aj 2 gh) (aJ (aj 5 j8) az))))))))))))))))), ?_⟩
 walk_at "vs"
 intro pth hpth
 have s1:=aC (.lst [.str x]) hpth
 have ep1:upd H pth (.lst [.str x]) pth=some (.lst [.str x]):=ao
 have so1:=soI.same s1
 generalize upd H pth (.lst [.str x])=H1 at *
 walk_at "vs"
 intro bgd hbgd
 have s2:=aC (.dK []) hbgd
 have eb2:upd H1 bgd (.dK []) bgd=some (.dK []):=ao
 have so2:=so1.same s2
 have ep2:=s2 _ _ ep1
 have S2:=s1.trans s2
 have nn:pth≠bgd:=fun z=>by rw[<-z,ep1] at hbgd;cases hbgd
 have fI:∀{z:Addr},H z=none->HfI z=none:=fun{z} h=>by
  cases q':HfI z with
  | none=>rfl
  | some o=>have:=soI.sm _ _ q';rw[h] at this;cases this
 have hb0:=same_none s1 hbgd
 have alI:∀z∈[D.kd,D.sd,D.rd],H z≠none:=fun z hz=>by
  obtain⟨kw,ws,e2,_⟩:=soI.ek
  obtain⟨ks',e3,_⟩:=soI.es
  obtain⟨kk,rs,e4,_⟩:=soI.er
  have hz:z=D.kd\/z=D.sd\/z=D.rd:=by simpa using hz
  rcases hz with rfl | rfl | rfl
  ·rw[e2];simp
  ·rw[e3];simp
  ·rw[e4];simp
 generalize upd H1 bgd (.dK [])=H2 at *
 have lp0:LpI CSe CN CS CR D pth bgd n gv rc kg kc kr rm knI odI HfI H x k0 [k0] knI ad4 ad5 odI (fun _=>none) HfI H2:=
  ⟨But.of_same S2,aW.refl _,fun _ _ z=>z,shI,so2,by rw[ex] at ep2;exact ep2,fI hpth,fI hb0,hpth,hb0,fun z=>alI _ z hpth,fun z=>alI _ z hb0,nn,by simp,by simpa using hk0,by simp,fun i hi=>by
    have:i=k0:=by simpa using hi
    rw[this,<-ex];exact .refl,Kn.Le.refl _,fun y hy=> .inl hy,⟨⟨[],[],eb2,⟨rfl,by simp⟩,fun y=>by rw[uf];rfl⟩,fun y hy=>absurd rfl hy,fun y A hy=>(nomatch hy),fun y A hy=>(nomatch hy),fun y y' A A' _ hy=>(nomatch hy)⟩, .inl rfl,fun y A hy=>(nomatch hy),by rw[ex];exact Mvs.refl _⟩
 refine⟨fun m σ H'=>∃(is:List Nat) (kn:Kn) (rmN:Rm) (rkn:Str->Bool) (od:List Str) (bg:Str->Option SeD) (Hf:Hp) (t1 t2:Option V),σ=[some (.ref D.so),some (.str x),some (.ref pth),some (.ref bgd),t1,t2]/\LpI CSe CN CS CR D pth bgd n gv rc kg kc kr rm knI odI HfI H x k0 is kn rmN rkn od bg Hf H'/\m=EY n kn is,
  ⟨_,[k0],knI,ad4,ad5,odI,fun _=>none,HfI,none,none,rfl,lp0,rfl⟩, ?_⟩
 rintro m σ H3 ⟨is,kn,rmN,rkn,od,bg,Hf,t1,t2,rfl,lp,rfl⟩
 have ep:=lp.ep
 have e3:=lp.so.sm _ _ lp.sh.e
 have hlen:=lp.len
 rcases List.eq_nil_or_concat is with hnil | ⟨js,i,his⟩
 ·subst hnil
  have ep:H3 pth=some (.lst []):=ep
  walk_at "vs"
  have hkx:kn x≠none:=by
   rcases lp.hd with z | ⟨_,z⟩
   ·cases z
   ·exact z
  exact q kn rmN rkn od Hf H3 lp.b lp.sf lp.fm lp.so lp.mv lp.le hkx lp.new
 ·rw[List.concat_eq_append] at his
  subst his
  have hi:i<n:=lp.lt i (by simp)
  have hne:((js++[i]).map fun i=>V.str (ak i)).isEmpty=false:=by simp
  have hla:atI ((js++[i]).map fun i=>V.str (ak i)) (-1)=some (.str (ak i)):=Wk (by rw[List.map_append];rfl)
  have hdl:((js++[i]).map fun i=>V.str (ak i)).dropLast=js.map fun i=>V.str (ak i):=by rw[List.map_append];exact List.dropLast_concat
  have hll:((js++[i]).map fun i=>V.str (ak i))[((js++[i]).map fun i=>V.str (ak i)).length - 1]? =some (.str (ak i)):=by simp
  have hjl:js.length+1<=17:=by rw[List.length_append] at hlen;exact hlen
  have un:=lp.un
  rw[List.dropLast_concat] at un
  refine⟨_,rfl,true, .inl ⟨_,SqL.of ep,by simp⟩, ?_⟩
  refine(if_pos (rfl:true=true)).mpr ?_
  refine⟨fun σ' H'=>Wr (∃(is:List Nat) (kn':Kn) (rmN:Rm) (rkn:Str->Bool) (od:List Str) (bg:Str->Option SeD) (Hf:Hp) (t1 t2:Option V),σ'=[some (.ref D.so),some (.str x),some (.ref pth),some (.ref bgd),t1,t2]/\LpI CSe CN CS CR D pth bgd n gv rc kg kc kr rm knI odI HfI H x k0 is kn' rmN rkn od bg Hf H'/\EY n kn' is<EY n kn (js++[i])),fun σ' H' ⟨⟨is',kn',Ma,rkn',od',bg',Hf',t1',t2',z1,z2,z3⟩⟩=>⟨_,z3,is',kn',Ma,rkn',od',bg',Hf',t1',t2',z1,z2,rfl⟩, ?_⟩
  obtain⟨kw,ws,ek,kkw,hkw⟩:=lp.so.ek
  have hkl:=lp.so.kl kkw hkw
  have eg3:=lp.so.sm _ _ lp.sh.eg
  have hbd:=lp.sh.bd
  have hy:ak i∈nmK n:=bT.mpr ⟨i,hi,rfl⟩
  have dg:bM H3 D.g (.str (ak i)) ((gv (ak i)).map V.int):=by rw[<-hbd.g];exact bM.k (k:= .inr (ak i)) eg3
  have np:=lp.np
  simp only[List.mem_cons,List.not_mem_nil,or_false,not_or] at np
  cases hgv:gv (ak i) with
  | some v=>
    rw[hgv] at dg
    have dg:bM H3 D.g (.str (ak i)) (some (.int v)):=dg
    obtain⟨so4,le4⟩:=lp.so.giv ek kkw hkw hy hgv lp.sh.ne
    have b4:But [D.kd,D.sd,D.rd] H3 (upd H3 D.kd (.dK (putK kw (.inr (ak i)) (.int v)))):=But.set _ (by simp)
    obtain⟨H4,eH4⟩:∃H4,H4=upd H3 D.kd (.dK (putK kw (.inr (ak i)) (.int v))):=⟨_,rfl⟩
    have dp:jD H3 D.kd (.str (ak i)) (.int v) H4:=by rw[eH4];exact jD.k (k:= .inr (ak i)) ek (aV (by omega))
    rw[<-eH4] at so4 b4
    have hmv:Mvs gv rc (stk (js++[i]),kn,od) (stk (js++[i]),kn.put (ak i) v,od):=by
     cases hkn:kn (ak i) with
     | none=>exact(Mvs.refl _).snoc (by rw[yD];exact Uj hkn hgv)
     | some u=>
       have e:kn.put (ak i) v=kn:=by
        have:=le4 _ _ hkn
        unfold Kn.put at this
        rw[if_pos rfl] at this
        funext y
        unfold Kn.put
        by_cases w:y=ak i
        ·rw[if_pos w,w,hkn,this]
        ·rw[if_neg w]
       rw[e];exact Mvs.refl _
    have lp4:=lp.know b4 (aW.refl _) (fun _ _ z=>z) so4 le4 (fun y hy=>by
     unfold Kn.put at hy
     by_cases w:y=ak i
     ·exact .inr w
     ·rw[if_neg w] at hy;exact .inl hy) (fun y hne h=>by unfold Kn.put;rw[if_neg hne];exact h) (by omega) hmv
    have e4:=lp4.so.sm _ _ lp4.sh.e
    have ep4:=lp4.ep
    have dk4:bM H4 D.kd (.str (ak i)) (some (.int v)):=by
     obtain⟨kw4,ws4,ek4,_,hk4⟩:=lp4.so.ek
     have:cO kw4 (.inr (ak i))=some (.int v):=by rw[hk4];unfold Kn.put;rw[if_pos rfl];rfl
     rw[<-this];exact bM.k (k:= .inr (ak i)) ek4
    have hk4:(kn.put (ak i) v) (ak i)≠none:=by unfold Kn.put;rw[if_pos rfl];simp
    have lp5:=lp4.pop hk4 ex
    have un4:=lp4.un
    rw[List.dropLast_concat] at un4
    have hm:=Mg (n:=n) (js:=js) (by omega) un4
    walk_at "vs"
    rw[hdl]
    refine⟨js,_,_,_,_,_,_,_,_,rfl,lp5, ?_⟩
    cases hkn:kn (ak i) with
    | none=>
      have hu:=Ho (v:=v) hi hkn
      rw[o8 hkn]
      omega
    | some u=>
      have e:kn.put (ak i) v=kn:=by
       have:=le4 _ _ hkn
       unfold Kn.put at this
       rw[if_pos rfl] at this
       funext y
       unfold Kn.put
       by_cases w:y=ak i
       ·rw[if_pos w,w,hkn,this]
       ·rw[if_neg w]
      rw[e] at hm ⊢
      rw[yE (by rw[hkn];simp)]
      omega
  | none=>
    rw[hgv] at dg
    have dg:bM H3 D.g (.str (ak i)) none:=dg
    cases hkn:kn (ak i) with
    | some u=>
      have hk4:kn (ak i)≠none:=by rw[hkn];simp
      have dk4:bM H3 D.kd (.str (ak i)) (some (.int u)):=by
       have:cO kw (.inr (ak i))=some (.int u):=by rw[hkw,hkn];rfl
       rw[<-this];exact bM.k (k:= .inr (ak i)) ek
      have lp5:=lp.pop hk4 ex
      have hm:=Mg (n:=n) (js:=js) (by omega) un
      walk_at "vs"
      rw[hdl]
      refine⟨js,_,_,_,_,_,_,_,_,rfl,lp5, ?_⟩
      rw[yE hk4]
      omega
    | none=>
      have dk4:bM H3 D.kd (.str (ak i)) none:=by
       have:cO kw (.inr (ak i))=none:=by rw[hkw,hkn];rfl
       rw[<-this];exact bM.k (k:= .inr (ak i)) ek
      obtain⟨r,hrc⟩:∃r,rc (ak i)=some r:=by
       rcases hbd.ok.dom i hi with z | z
       ·exact absurd hgv z
       ·cases w:rc (ak i) with
        | none=>exact absurd w z
        | some r=>exact⟨r,rfl⟩
      obtain⟨k',hk',ek',rk'⟩:=hbd.ok.rk _ _ hrc
      have hik:i=k':=jn (by omega) (by omega) ek'
      subst hik
      have rki:=rk'.i
      have hT3:=rk'.t
      obtain⟨kb,ks,eb,kkb,hkb⟩:=lp.bgi.e
      cases hA:bg (ak i) with
      | some A=>
        have db:bM H3 bgd (.str (ak i)) (some (.ref A.s)):=by
         have:cO kb (.inr (ak i))=some (.ref A.s):=by rw[hkb,hA];rfl
         rw[<-this];exact bM.k (k:= .inr (ak i)) eb
        have lp6:=lp
        obtain⟨kb6,ks6,eb6,kk6,abh⟩:=lp6.bgi.e
        obtain⟨r',hr',_,seo⟩:=lp6.bgi.ok (ak i) A hA hkn
        rw[hrc] at hr'
        cases hr'
        have e6:=lp6.so.sm _ _ lp6.sh.e
        have rD6:=lp6.sh.rD.map fun _ _ z=>z.same lp6.so.sm
        obtain⟨kw6,ws6,ek6,ahM,abi⟩:=lp6.so.ek
        have knA:TF H3 D.kd kn:=⟨kw6,ek6,abi⟩
        have nd3:D.kd≠A.a3:=fun z=>(lp6.bgi.al (ak i) A hA A.a3 (by simp[SeD.ft])).2.2 (by rw[<-z];simp)
        have db6:bM H3 bgd (.str (ak i)) (some (.ref A.s)):=by
         have:cO kb6 (.inr (ak i))=some (.ref A.s):=by rw[abh,hA];rfl
         rw[<-this];exact bM.k (k:= .inr (ak i)) eb6
        have eA6:=seo.e
        walk_at "vs"
        intro A' H7 b7 es eb' erk e1' e2' e3' efl so7
        have lp7:=lp6.gone hA b7 so7 hrc hgv es erk e1' e2' e3' efl
        have e7:=lp7.so.sm _ _ lp7.sh.e
        have ep7:=lp7.ep
        refine⟨fun hend=> ?_,fun z hzn hsk=> ?_⟩
        ·obtain⟨kb7,ks7,eb7,kk7,abj⟩:=lp7.bgi.e
         have db7:bM H7 bgd (.str (ak i)) (some (.ref A'.s)):=by
          have:cO kb7 (.inr (ak i))=some (.ref A'.s):=by rw[abj];unfold mq;rw[if_pos rfl];rfl
          rw[<-this];exact bM.k (k:= .inr (ak i)) eb7
         have ahN:=lp7.so
         have sh7:=lp7.sh
         have eA7:=so7.e
         have hR7:=so7.hr
         have hy:ak i∈nmK n:=bT.mpr ⟨i,hi,rfl⟩
         have hft:∀z∈A'.ft,z∉[D.kd,D.sd,D.rd]:=fun z hz w=>(lp7.bgi.al (ak i) A' (by unfold mq;rw[if_pos rfl]) z hz).2.2 (by
          simp only[List.mem_cons,List.not_mem_nil,or_false] at w ⊢
          rcases w with q | q | q
          ·exact .inr (.inr (.inl q))
          ·exact .inr (.inr (.inr (.inl q)))
          ·exact .inr (.inr (.inr (.inr q))))
         walk_at "vs"
         intro v ps made Hf' H8 b8 sf8 fm8 so8 hev
         have lp8:=lp7.know b8 sf8 fm8 so8 (Kn.lG hkn) (fun y hy=>by
          unfold Kn.put at hy
          by_cases w:y=ak i
          ·exact .inr w
          ·rw[if_neg w] at hy;exact .inl hy) (fun y hne h=>by unfold Kn.put;rw[if_neg hne];exact h) (by omega) ((Mvs.refl _).snoc (by rw[yD];exact Oe hgv hkn hrc hev))
         walk_at "vs"
         refine⟨_,_,_,_,_,_,_,_,_,rfl,lp8, ?_⟩
         have hu:=Ho (v:=v) hi hkn
         rw[o8 hkn,yE (by unfold Kn.put;rw[if_pos rfl];simp)]
         omega
        ·obtain⟨j,hj,ez⟩:=bT.mp (hsk.in rki)
         subst ez
         have hin:inV (.str (ak j)) ((js++[i]).map fun i=>V.str (ak i))=false:=by
          unfold inV
          rw[List.any_eq_false]
          intro u hu
          obtain⟨k,hk,rfl⟩:=List.mem_map.mp hu
          have hkn':=lp7.lt k hk
          have hki:i<=k:=by
           rcases List.mem_append.mp hk with z | z
           ·have dec:=lp7.dec
            rw[List.pairwise_append] at dec
            exact Nat.le_of_lt (dec.2.2 k z i (by simp))
           ·have:k=i:=by simpa using z
            omega
          intro z
          have z:(ak k==ak j)=true:=z
          have:=jn (show k<26 by omega) (show j<26 by omega) (eq_of_beq z)
          omega
         have hfl:((js++[i]).map fun i=>V.str (ak i)).all zu=true:=by
          rw[List.all_eq_true]
          intro u hu
          obtain⟨k,hk,rfl⟩:=List.mem_map.mp hu
          rfl
         have hsz:((js++[i]).map fun i=>V.str (ak i)).length<sizeLine:=by rw[List.length_map];exact aV (by omega)
         walk_at "vs"
         rw[hin]
         walk_at "vs"
         have em:((js++[i]).map fun i=>V.str (ak i))++[V.str (ak j)]=(js++[i]++[j]).map fun i=>V.str (ak i):=by rw[List.map_append (l₁:=js++[i])];rfl
         rw[em]
         refine⟨js++[i]++[j],_,_,_,_,_,_,_,_,rfl,lp7.push hkn hj hgv hrc hsk hzn, ?_⟩
         rw[o8 hkn,o8 hzn,List.length_append]
         simp only[List.length_cons,List.length_nil]
         omega
      | none=>
        have db:bM H3 bgd (.str (ak i)) none:=by
         have:cO kb (.inr (ak i))=none:=by rw[hkb,hA];rfl
         rw[<-this];exact bM.k (k:= .inr (ak i)) eb
        have sh3:=lp.sh.same lp.so.sm
        have hkbl:kb.length<=n:=by
         rw[kkb.len,<-jd n]
         refine gC kkb.nd fun y hy=>lp.bgi.nm y fun z=> ?_
         exact kkb.none.mp (by rw[hkb,z];rfl) hy
        walk_at "vs"
        intro A H4 s4 hA4 so4
        have lp6:=lp.begun s4 hA4 (so4 kn) hrc hgv hy hA eb
        have dpb:jD H4 bgd (.str (ak i)) (.ref A.s) (upd H4 bgd (.dK (putK kb (.inr (ak i)) (.ref A.s)))):=jD.k (k:= .inr (ak i)) (s4 _ _ eb) (aV (by omega))
        have hA:mq bg (ak i) A (ak i)=some A:=by unfold mq;rw[if_pos rfl]
        generalize upd H4 bgd (.dK (putK kb (.inr (ak i)) (.ref A.s)))=H5 at *
        obtain⟨kb6,ks6,eb6,kk6,abh⟩:=lp6.bgi.e
        obtain⟨r',hr',_,seo⟩:=lp6.bgi.ok (ak i) A hA hkn
        rw[hrc] at hr'
        cases hr'
        have e6:=lp6.so.sm _ _ lp6.sh.e
        have rD6:=lp6.sh.rD.map fun _ _ z=>z.same lp6.so.sm
        obtain⟨kw6,ws6,ek6,ahM,abi⟩:=lp6.so.ek
        have knA:TF H5 D.kd kn:=⟨kw6,ek6,abi⟩
        have nd3:D.kd≠A.a3:=fun z=>(lp6.bgi.al (ak i) A hA A.a3 (by simp[SeD.ft])).2.2 (by rw[<-z];simp)
        have db6:bM H5 bgd (.str (ak i)) (some (.ref A.s)):=by
         have:cO kb6 (.inr (ak i))=some (.ref A.s):=by rw[abh,hA];rfl
         rw[<-this];exact bM.k (k:= .inr (ak i)) eb6
        have eA6:=seo.e
        walk_at "vs"
        intro A' H7 b7 es eb' erk e1' e2' e3' efl so7
        have lp7:=lp6.gone hA b7 so7 hrc hgv es erk e1' e2' e3' efl
        have e7:=lp7.so.sm _ _ lp7.sh.e
        have ep7:=lp7.ep
        refine⟨fun hend=> ?_,fun z hzn hsk=> ?_⟩
        ·obtain⟨kb7,ks7,eb7,kk7,abj⟩:=lp7.bgi.e
         have db7:bM H7 bgd (.str (ak i)) (some (.ref A'.s)):=by
          have:cO kb7 (.inr (ak i))=some (.ref A'.s):=by rw[abj];unfold mq;rw[if_pos rfl];rfl
          rw[<-this];exact bM.k (k:= .inr (ak i)) eb7
         have ahN:=lp7.so
         have sh7:=lp7.sh
         have eA7:=so7.e
         have hR7:=so7.hr
         have hy:ak i∈nmK n:=bT.mpr ⟨i,hi,rfl⟩
         have hft:∀z∈A'.ft,z∉[D.kd,D.sd,D.rd]:=fun z hz w=>(lp7.bgi.al (ak i) A' (by unfold mq;rw[if_pos rfl]) z hz).2.2 (by
          simp only[List.mem_cons,List.not_mem_nil,or_false] at w ⊢
          rcases w with q | q | q
          ·exact .inr (.inr (.inl q))
          ·exact .inr (.inr (.inr (.inl q)))
          ·exact .inr (.inr (.inr (.inr q))))
         walk_at "vs"
         intro v ps made Hf' H8 b8 sf8 fm8 so8 hev
         have lp8:=lp7.know b8 sf8 fm8 so8 (Kn.lG hkn) (fun y hy=>by
          unfold Kn.put at hy
          by_cases w:y=ak i
          ·exact .inr w
          ·rw[if_neg w] at hy;exact .inl hy) (fun y hne h=>by unfold Kn.put;rw[if_neg hne];exact h) (by omega) ((Mvs.refl _).snoc (by rw[yD];exact Oe hgv hkn hrc hev))
         walk_at "vs"
         refine⟨_,_,_,_,_,_,_,_,_,rfl,lp8, ?_⟩
         have hu:=Ho (v:=v) hi hkn
         rw[o8 hkn,yE (by unfold Kn.put;rw[if_pos rfl];simp)]
         omega
        ·obtain⟨j,hj,ez⟩:=bT.mp (hsk.in rki)
         subst ez
         have hin:inV (.str (ak j)) ((js++[i]).map fun i=>V.str (ak i))=false:=by
          unfold inV
          rw[List.any_eq_false]
          intro u hu
          obtain⟨k,hk,rfl⟩:=List.mem_map.mp hu
          have hkn':=lp7.lt k hk
          have hki:i<=k:=by
           rcases List.mem_append.mp hk with z | z
           ·have dec:=lp7.dec
            rw[List.pairwise_append] at dec
            exact Nat.le_of_lt (dec.2.2 k z i (by simp))
           ·have:k=i:=by simpa using z
            omega
          intro z
          have z:(ak k==ak j)=true:=z
          have:=jn (show k<26 by omega) (show j<26 by omega) (eq_of_beq z)
          omega
         have hfl:((js++[i]).map fun i=>V.str (ak i)).all zu=true:=by
          rw[List.all_eq_true]
          intro u hu
          obtain⟨k,hk,rfl⟩:=List.mem_map.mp hu
          rfl
         have hsz:((js++[i]).map fun i=>V.str (ak i)).length<sizeLine:=by rw[List.length_map];exact aV (by omega)
         walk_at "vs"
         rw[hin]
         walk_at "vs"
         have em:((js++[i]).map fun i=>V.str (ak i))++[V.str (ak j)]=(js++[i]++[j]).map fun i=>V.str (ak i):=by rw[List.map_append (l₁:=js++[i])];rfl
         rw[em]
         refine⟨js++[i]++[j],_,_,_,_,_,_,_,_,rfl,lp7.push hkn hj hgv hrc hsk hzn, ?_⟩
         rw[o8 hkn,o8 hzn,List.length_append]
         simp only[List.length_cons,List.length_nil]
         omega
end
section
local macro_rules | `(tactic| walk_at "side") => `(tactic| first | exact wM _ _ _ _ _ _ | exact qW _ _ _ _ _ _ | exact Hl _ _ _ _ _ _ | exact wN _ _ _ _ _ _ | exact qX _ _ _ _ _ _ | exact o7 _ _ _ _ _ _ | exact (iu _ _ _ _ _ _).1 | exact (iu _ _ _ _ _ _).2.1 | exact (iu _ _ _ _ _ _).2.2.1 | exact (iu _ _ _ _ _ _).2.2.2.1 | exact (iu _ _ _ _ _ _).2.2.2.2 | exact Nat.le_of_ble_eq_true rfl)
variable {P:Program}{w:World}{K:PySem.W.Frag}{mg:Str->Option Value}{base:Heap}{CSe CN CS CR:Addr}
abbrev gJ:Stmt:=wO 13 3
theorem HB:bR ["self"] ["self"] (aa gJ):=⟨rfl,rfl,rfl,by decide +kernel,rfl,by decide +kernel,by decide +kernel⟩
theorem yL:aF (aa gJ) "self":=by decide +kernel
theorem HD {f:Addr}{fd:FuncData} (jy:gR K CSe "made" "Search.made" gJ ["self"] f fd) (T:Blt mg) (sr:SrC K CSe):bh P w K mg base CX0 1 f fd ["self"] (Uq CSe):=by
 refine jy.F.okQ HB (fun vs H Q E h=> ?_) (fun cdv A outer s H vs Q E hr h=> ?_)
 ·obtain⟨D,ks,kk,ss,rkn,rfl,_⟩:=h
  rfl
 obtain⟨D,ks,kk,ss,rkn,rfl,e,es,hks,hsl,nsr,er,hkk,q⟩:=h
 have m6:=sr.cl
 have nS:=sr.nS
 have nM:=sr.nM
 refine⟨_,(aD (aZ (yq rfl (n:=1) (fr:=[0]) (N:=["name","self"]) (Ew (scX:=aa gJ) (NX:=["self"]) rfl rfl (by decide +kernel)) (Wt (bU (aj 0 yL))) (fun _ _ _ _ _=>(qgx (i:=0) (show List.Nodup (α:=Str) ["name","self"] by decide) (JL (by decide +kernel)))) (fun _ _ _ _ _=>(Gu (tE (cg hr) (aj 0 (lD.ok (by decide +kernel))) (J5 (K:=K) rfl (aj 1 (lD.ok (by decide +kernel))))))) (fun _ _ _ _ _=>(aj 0 (lD.ok (by decide +kernel))))))), ?_⟩
 walk_at "vs"
 intro o
 have b1:But [D.sd] H (upd H D.sd (.frz o (.dK ks))):=But.set _ (by simp)
 have e1:upd H D.sd (.frz o (.dK ks)) D.so=some (.ins CSe D.dx (srF D.g D.c D.o D.kd D.sd D.rd)):=(au (fun z=>by rw[z,es] at e;cases e)).trans e
 have er1:upd H D.sd (.frz o (.dK ks)) D.rd=some (.dK kk):=(au (Ne.symm nsr)).trans er
 have es1:upd H D.sd (.frz o (.dK ks)) D.sd=some (.frz o (.dK ks)):=ao
 have n1:∀{z},upd H D.sd (.frz o (.dK ks)) z=none->H z=none:=fun z=>(dX z).2
 generalize upd H D.sd (.frz o (.dK ks))=H1 at *
 intro L hL
 refine Jy (fun i σ' H'=>(∃t,σ'=[t,some (.ref D.so)])/\aW H1 H'/\H' L=some (.lst (((ss.take i).filter rkn).map V.str))) ?_ ?_ ?_ ?_
 ·exact⟨⟨none,rfl⟩,aC _ hL,ao⟩
 ·intro i σ' H' _ hP
  exact hP.2.1 _ _ es1
 ·intro i k v σ' H' hkv hP
  obtain⟨⟨t,rfl⟩,S2,eL⟩:=hP
  obtain⟨x,rfl,hxi⟩:=hks.at hkv
  have hi:i<ss.length:=(List.getElem?_eq_some_iff.mp hxi).1
  have e2:=S2 _ _ e1
  have dg:bM H' D.rd (.str x) (if rkn x=true then some (.bl true) else none):=by rw[<-hkk];exact bM.k (k:= .inr x) (S2 _ _ er1)
  have hz:(((ss.take i).filter rkn).map V.str).length<sizeLine:=by
   rw[List.length_map]
   have h1:=List.length_filter_le (rkn) (ss.take i)
   have h2:=List.length_take_le i ss
   exact aV (by omega)
  have ht:ss.take (i+1)=ss.take i++[x]:=by rw[List.take_add_one,hxi];rfl
  cases hrx:rkn x with
  | true=>
    rw[hrx,if_pos rfl] at dg
    walk_at "vs"
    refine⟨⟨_,rfl⟩,fX _ hL S2, ?_⟩
    rw[ht,List.filter_append,List.map_append,ao]
    simp[List.filter_cons,hrx]
    rfl
  | false=>
    rw[hrx,if_neg (by decide)] at dg
    walk_at "vs"
    refine⟨⟨_,rfl⟩,S2, ?_⟩
    rw[ht,List.filter_append,eL]
    simp[List.filter_cons,hrx]
 ·intro σ' H' hP
  obtain⟨_,S2,eL⟩:=hP
  rw[show ss.take ks.length=ss by rw[hks.len];exact List.take_length] at eL
  exact q L o H' (b1.trans (But.of_same S2)) (S2 _ _ es1) (n1 hL) eL
abbrev gK:Stmt:=wO 13 4
theorem HF:bR ["self"] ["self"] (aa gK):=⟨rfl,rfl,rfl,by decide +kernel,rfl,by decide +kernel,by decide +kernel⟩
theorem yM:aF (aa gK) "self":=by decide +kernel
theorem HH {f:Addr}{fd:FuncData} (jz:gR K CSe "kept" "Search.kept" gK ["self"] f fd) (T:Blt mg) (sr:SrC K CSe):bh P w K mg base CX0 1 f fd ["self"] (Ur CSe):=by
 refine jz.F.okQ HF (fun vs H Q E h=> ?_) (fun cdv A outer s H vs Q E hr h=> ?_)
 ·obtain⟨D,o,ks,kk,ss,rkn,rfl,_⟩:=h
  rfl
 obtain⟨D,o,ks,kk,ss,rkn,rfl,e,es,hks,hsl,er,hkk,q⟩:=h
 have m6:=sr.cl
 have nS:=sr.nS
 have nM:=sr.nM
 refine⟨_,(aD (aZ (yq rfl (n:=1) (fr:=[0]) (N:=["name","self"]) (Ew (scX:=aa gK) (NX:=["self"]) rfl rfl (by decide +kernel)) (Up (bU (aj 0 yM))) (fun _ _ _ _ _=>(qgx (i:=0) (show List.Nodup (α:=Str) ["name","self"] by decide) (JL (by decide +kernel)))) (fun _ _ _ _ _=>(Gu (qK (cg hr) (aj 0 (lD.ok (by decide +kernel))) (J5 (K:=K) rfl (aj 1 (lD.ok (by decide +kernel))))))) (fun _ _ _ _ _=>(aj 0 (lD.ok (by decide +kernel))))))), ?_⟩
 have e1:=e
 have er1:=er
 have es1:=es
 walk_at "vs"
 intro L hL
 refine Jy (fun i σ' H'=>(∃t,σ'=[t,some (.ref D.so)])/\aW H H'/\H' L=some (.lst (((ss.take i).filter (fun x=> !rkn x)).map V.str))) ?_ ?_ ?_ ?_
 ·exact⟨⟨none,rfl⟩,aC _ hL,ao⟩
 ·intro i σ' H' _ hP
  exact hP.2.1 _ _ es1
 ·intro i k v σ' H' hkv hP
  obtain⟨⟨t,rfl⟩,S2,eL⟩:=hP
  obtain⟨x,rfl,hxi⟩:=hks.at hkv
  have hi:i<ss.length:=(List.getElem?_eq_some_iff.mp hxi).1
  have e2:=S2 _ _ e1
  have dg:bM H' D.rd (.str x) (if rkn x=true then some (.bl true) else none):=by rw[<-hkk];exact bM.k (k:= .inr x) (S2 _ _ er1)
  have hz:(((ss.take i).filter (fun x=> !rkn x)).map V.str).length<sizeLine:=by
   rw[List.length_map]
   have h1:=List.length_filter_le ((fun x=> !rkn x)) (ss.take i)
   have h2:=List.length_take_le i ss
   exact aV (by omega)
  have ht:ss.take (i+1)=ss.take i++[x]:=by rw[List.take_add_one,hxi];rfl
  cases hrx:rkn x with
  | true=>
    rw[hrx,if_pos rfl] at dg
    walk_at "vs"
    refine⟨⟨_,rfl⟩,S2, ?_⟩
    rw[ht,List.filter_append,eL]
    simp[List.filter_cons,hrx]
  | false=>
    rw[hrx,if_neg (by decide)] at dg
    walk_at "vs"
    refine⟨⟨_,rfl⟩,fX _ hL S2, ?_⟩
    rw[ht,List.filter_append,List.map_append,ao]
    simp[List.filter_cons,hrx]
    rfl
 ·intro σ' H' hP
  obtain⟨_,S2,eL⟩:=hP
  rw[show ss.take ks.length=ss by rw[hks.len];exact List.take_length] at eL
  exact q L H' S2 hL eL
end
section
local macro_rules | `(tactic| walk_at "side") => `(tactic| first | exact wM _ _ _ _ _ _ | exact qW _ _ _ _ _ _ | exact Hl _ _ _ _ _ _ | exact wN _ _ _ _ _ _ | exact qX _ _ _ _ _ _ | exact o7 _ _ _ _ _ _ | exact (iu _ _ _ _ _ _).1 | exact (iu _ _ _ _ _ _).2.1 | exact (iu _ _ _ _ _ _).2.2.1 | exact (iu _ _ _ _ _ _).2.2.2.1 | exact (iu _ _ _ _ _ _).2.2.2.2 | exact Nat.le_of_ble_eq_true rfl)
variable {P:Program}{w:World}{K:PySem.W.Frag}{mg:Str->Option Value}{base:Heap}{CSe CN CS CR:Addr}
abbrev eZ:Stmt:=top 14
theorem xH:bR ["house","old","wishes","search","name"] ["house","old","wishes"] (aa eZ):=⟨rfl,rfl,rfl,by decide +kernel,rfl,by decide +kernel,by decide +kernel⟩
theorem Ai:Loc (aa eZ) "search":=by decide +kernel
theorem Aj:(aa eZ).names.lookup ("Search":Str)=some NameKind.globalImplicit:=by decide +kernel
theorem Fo:aF (aa eZ) "old":=by decide +kernel
theorem Ce:aF (aa eZ) "house":=by decide +kernel
theorem Ak:(("Search":Str)==("__debug__":Str))=false:=by decide +kernel
theorem Al:aF (aa eZ) "wishes":=by decide +kernel
theorem DW:Loc (aa eZ) "name":=by decide +kernel
theorem rA:aF (aa eZ) "search":=by decide +kernel
theorem DX:aF (aa eZ) "name":=by decide +kernel
theorem Ml {f g0 g1:Addr}{fd gd0 gd1:FuncData} (lQ:FnT K mg "searched" eZ ["house","old","wishes"] f fd)
 (gY:gR K CSe "__init__" "Search.__init__" cV ["self","house","old"] g0 gd0) (Cg:bh P w K mg base CX0 1 g0 gd0 ["self","house","old"] (LQ CSe))
 (iy:gR K CSe "settle" "Search.settle" bI ["self","name"] g1 gd1) (Fp:bh P w K mg base CX0 15 g1 gd1 ["self","name"] (LR CSe CN))
 (HJ:Mk K CSe g0) (HN:mg "Search"=some (.ref CSe)) (T:Blt mg) (sr:SrC K CSe):bh P w K mg base CX0 16 f fd ["house","old","wishes"] (Hq CSe CN):=by
 refine lQ.F.okQ xH (fun vs H Q E h=> ?_) (fun cdv A outer s H vs Q E hr h=> ?_)
 ·obtain⟨h,g,c,o,dxo,rcd,wl,n,gv,rc,kg,kc,kr,rm,ws,rfl,_⟩:=h
  rfl
 obtain⟨h,g,c,o,dxo,rcd,wl,n,gv,rc,kg,kc,kr,rm,ws,rfl,eh,eg,ec,bd,n17,eo,er,rD,ewl,hws,q⟩:=h
 have m6:=sr.cl
 refine⟨_,(aq (bK (i:=3) xH.nd rfl Ai (FT HJ (Cg.mono (by omega)) hr Aj HN gY.b .nil bz (aJ (aj 0 Ce) (aJ (aj 1 Fo) az)) Ak))
  (aq (Dv PassesOwn.never rfl (vf (aj 2 Al)) (nC (i:=4) xH.nd rfl DW) (aD (eN (qt (aj 3 rA) m6 iy.m (Fp.mono (by omega)) hr iy.b .nil bz (aJ (aj 4 DX) az)))))
  (aD (aZ (aj 3 rA))))), ?_⟩
 walk_at "vs"
 intro a dx ha hdx hne
 have haH:(upd H dx (.own a)) a=none:=(au (Ne.symm hne)).trans ha
 have S1:=(aC (.own a) hdx).trans (aC (.ins CSe dx []) haH)
 refine⟨a,dx,h,g,c,o,rfl,ao,S1 _ _ eh,fun kd sd rd H2 b2 e2 hk hs hr' nks nkr nsr ek2 es2 er2=>⟨rfl, ?_⟩⟩
 have hk0:=same_none S1 hk
 have hs0:=same_none S1 hs
 have hr0:=same_none S1 hr'
 have S2:aW H H2:=iM S1 (fun p hp=>by
  have:p=a:=by simpa using hp
  rw[this];exact ha) b2
 have nka:kd≠a:=fun z=>by rw[z,ao] at hk;cases hk
 have nsa:sd≠a:=fun z=>by rw[z,ao] at hs;cases hs
 have nra:rd≠a:=fun z=>by rw[z,ao] at hr';cases hr'
 have sf0:aW H (upd H a (.ins CSe dx (srF g c o kd sd rd))):=aC _ ha
 have sm0:aW (upd H a (.ins CSe dx (srF g c o kd sd rd))) H2:=fun z ob e=>by
  by_cases w:z=a
  ·subst w;rw[ao] at e;cases e;exact e2
  ·rw[au w] at e;exact S2 _ _ e
 have shf:SrH CSe CN ⟨a,dx,g,c,o,dxo,rcd,kd,sd,rd⟩ n gv rc kg kc kr rm (upd H a (.ins CSe dx (srF g c o kd sd rd))):=
  ⟨ao,sf0 _ _ eg,sf0 _ _ ec,bd.tups (aW.tups sf0),sf0 _ _ eo,sf0 _ _ er,rD.map fun _ _ z=>z.same sf0,n17,nks,nkr,nsr⟩
 have so2:uw ⟨a,dx,g,c,o,dxo,rcd,kd,sd,rd⟩ n gv rc rm kn0 (fun _=>none) (fun _=>false) [] (upd H a (.ins CSe dx (srF g c o kd sd rd))) H2:=
  ⟨sm0,(au nka).trans hk0,(au nsa).trans hs0,(au nra).trans hr0,⟨[],[],ek2,⟨rfl,by simp⟩,fun x=>by rw[uf];rfl⟩,⟨[],es2,⟨⟨[],⟨rfl,by simp⟩,by simp⟩,fun x q e=>(nomatch e),fun x _=>uf,fun x r ps v e=>(nomatch e)⟩,⟨rfl,by simp⟩⟩,⟨[],[],er2,⟨rfl,by simp⟩,fun x=>by rw[uf];rfl,fun x h=>(nomatch h)⟩,⟨fun x v e=>(nomatch e),fun x r ps v e=>(nomatch e)⟩,fun x r ps v e=>(nomatch e)⟩
 have ahO:=S2 _ _ ewl
 walk_at "vs"
 refine Bt (xs:=ws.map V.str) (fun i σ H'=>∃(kn:Kn) (rmN:Rm) (rkn:Str->Bool) (od:List Str) (Hf:Hp) (t:Option V),σ=[some (.ref h),some (.ref o),some (.ref wl),some (.ref a),t]/\aW H H'/\aW H Hf/\SrH CSe CN ⟨a,dx,g,c,o,dxo,rcd,kd,sd,rd⟩ n gv rc kg kc kr rm Hf/\uw ⟨a,dx,g,c,o,dxo,rcd,kd,sd,rd⟩ n gv rc rm kn rmN rkn od Hf H'/\Runs gv rc (ws.take i) (kn0,[]) (kn,od)/\(∀x∈ws.take i,kn x≠none)/\∀y,kn y≠none->∃x∈ws,Rch gv rc kn x y) ?_ ?_ ?_ ?_
 ·exact⟨_,_,_,_,_,none,rfl,S2,sf0,shf,so2,rfl,by simp,fun y hy=>absurd rfl hy⟩
 ·rintro i σ H' _ ⟨kn,rmN,rkn,od,Hf,t,_,S3,_⟩
  exact SqL.of (S3 _ _ ewl)
 ·rintro i v σ H3 hv ⟨kn,rmN,rkn,od,Hf,t,rfl,S3,sf3,sh3,so3,ru3,hw3,hr3⟩
  obtain⟨x,hxi,rfl⟩:∃x,ws[i]? =some x/\v=V.str x:=by
   rw[List.getElem?_map] at hv
   cases e:ws[i]? with
   | none=>rw[e] at hv;cases hv
   | some x=>rw[e] at hv;exact⟨x,rfl,(Option.some.inj hv).symm⟩
  have hxm:x∈ws:=List.mem_of_getElem? hxi
  have hxn:=hws x hxm
  have e3:H3 a=some (.ins CSe dx (srF g c o kd sd rd)):=so3.sm _ _ sh3.e
  walk_at "vs"
  refine⟨⟨a,dx,g,c,o,dxo,rcd,kd,sd,rd⟩,n,gv,rc,kg,kc,kr,rm,kn,rmN,rkn,od,Hf,x,rfl,sh3,so3,hxn,fun kn' Ma rkn' od' Hf' H4 b4 sf4 fm4 so4 mv4 le4 hx4 hr4=> ?_⟩
  refine⟨kn',Ma,rkn',od',Hf',_,rfl,iM S3 (fun p hp=> ?_) b4,sf3.trans sf4,sh3.same sf4,so4,by rw[List.take_add_one,hxi];exact ru3.snoc mv4,fun y hy=> ?_,fun y hy=> ?_⟩
  ·have hp:p=kd\/p=sd\/p=rd:=by simpa using hp
   rcases hp with rfl | rfl | rfl
   ·exact hk0
   ·exact hs0
   ·exact hr0
  ·rw[List.take_add_one,hxi] at hy
   rcases List.mem_append.mp hy with z | z
   ·intro w
    cases e:kn y with
    | none=>exact hw3 y z e
    | some u=>rw[le4 y u e] at w;cases w
   ·have:y=x:=by simpa using z
    rw[this];exact hx4
  ·rcases hr4 y hy with z | z
   ·obtain⟨x',hx',r'⟩:=hr3 y z
    exact⟨x',hx',r'.le le4⟩
   ·exact⟨x,hxm,z⟩
 ·rintro σ H3 ⟨kn,rmN,rkn,od,Hf,t,rfl,S3,sf3,sh3,so3,ru3,hw3,hr3⟩
  walk_at "vs"
  rw[show ws.take (ws.map V.str).length=ws by rw[List.length_map];exact List.take_length] at hw3 ru3
  exact q ⟨a,dx,g,c,o,dxo,rcd,kd,sd,rd⟩ kn rmN rkn od Hf H3 S3 sf3 sh3 so3 ru3 hk0 hs0 hr0 hw3 hr3
abbrev cW:Stmt:=top 16
theorem xJ:bR ["house","records","wishes","search"] ["house","records","wishes"] (aa cW):=⟨rfl,rfl,rfl,by decide +kernel,rfl,by decide +kernel,by decide +kernel⟩
theorem wk:Loc (aa cW) "search":=by decide +kernel
theorem uK:(aa cW).names.lookup ("searched":Str)=some NameKind.globalImplicit:=by decide +kernel
theorem wu:aF (aa cW) "wishes":=by decide +kernel
theorem qD:(aa cW).names.lookup ("NamedRecords":Str)=some NameKind.globalImplicit:=by decide +kernel
theorem vK:aF (aa cW) "records":=by decide +kernel
theorem qF:(("NamedRecords":Str)==("__debug__":Str))=false:=by decide +kernel
theorem xK:aF (aa cW) "house":=by decide +kernel
theorem uL:(("searched":Str)==("__debug__":Str))=false:=by decide +kernel
theorem jh:aF (aa cW) "search":=by decide +kernel
theorem HQ {f g0 g1 g2 g3:Addr}{fd gd0 gd1 gd2 gd3:FuncData} (iK:FnT K mg "build_again" cW ["house","records","wishes"] f fd)
 (lQ:FnT K mg "searched" eZ ["house","old","wishes"] g0 gd0) (Ol:bh P w K mg base CX0 16 g0 gd0 ["house","old","wishes"] (Hq CSe CN))
 (dJ:gR K CN "__init__" "NamedRecords.__init__" bV ["self","records"] g1 gd1) (uM:bh P w K mg base CX0 1 g1 gd1 ["self","records"] (Lr CN))
 (rB:Mk K CN g1) (rC:mg "NamedRecords"=some (.ref CN))
 (jy:gR K CSe "made" "Search.made" gJ ["self"] g2 gd2) (Iv:bh P w K mg base CX0 1 g2 gd2 ["self"] (Uq CSe))
 (jz:gR K CSe "kept" "Search.kept" gK ["self"] g3 gd3) (Iw:bh P w K mg base CX0 1 g3 gd3 ["self"] (Ur CSe))
 (T:Blt mg) (sr:SrC K CSe):bh P w K mg base CX0 17 f fd ["house","records","wishes"] Qq:=by
 refine iK.F.okQ xJ (fun vs H Q E h=> ?_) (fun cdv A outer s H vs Q E hr h=> ?_)
 ·obtain⟨h,g,c,rcd,wl,n,gv,rc,kr,rm,ws,rfl,_⟩:=h
  rfl
 obtain⟨h,g,c,rcd,wl,n,gv,rc,kr,rm,ws,rfl,⟨kg,kc,eh,eg,ec,bd⟩,n17,er,rD,ewl,hws,q⟩:=h
 have m6:=sr.cl
 have nK:=sr.nK
 have nS:=sr.nS
 refine⟨_,(aq (bK (i:=3) xJ.nd rfl wk (aL (Ol.mono (by omega)) hr uK lQ.m lQ.F.kp lQ.b .nil bz (aJ (aj 0 xK) (uo (FT rB (uM.mono (by omega)) hr qD rC dJ.b .nil bz (aJ (aj 1 vK) az) qF) (aJ (aj 2 wu) az))) uL))
  (aD (aZ (ie (Rh (bU (aj 3 jh)) (Rh (bU (aj 3 jh)) (uo (wH (aj 3 jh) m6 jy.m (Iv.mono (by omega)) hr jy.b .nil bz) (uo (wH (aj 3 jh) m6 jz.m (Iw.mono (by omega)) hr jz.b .nil bz) az)))))))), ?_⟩
 walk_at "vs"
 intro o dxo ho hdxo hne
 have hoH:(upd H dxo (.own o)) o=none:=(au (Ne.symm hne)).trans ho
 have S1:=(aC (.own o) hdxo).trans (aC (.ins CN dxo []) hoH)
 refine⟨o,dxo,rcd,rfl,ao,fun H2 b2 e2=>⟨rfl, ?_⟩⟩
 have S2:aW H H2:=iM S1 (fun p hp=>by
  have:p=o:=by simpa using hp
  rw[this];exact ho) b2
 have eh2:=S2 _ _ eh
 have eg2:=S2 _ _ eg
 have ec2:=S2 _ _ ec
 have bd2:=bd.tups (aW.tups S2)
 have er2:=S2 _ _ er
 have rD2:=rD.map fun _ _ z=>z.same S2
 have ahO:=S2 _ _ ewl
 walk_at "vs"
 intro D kn rmN rkn sn Hf H3 s3 sf3 sh3 so3 ru3 hk3 hs3 hr3 hw3 hrch
 have S3:=S2.trans s3
 have e3:=so3.sm _ _ sh3.e
 obtain⟨kw,wn,ek,kkw,hkw⟩:=so3.ek
 obtain⟨ks,es,rDs,kks⟩:=so3.es
 obtain⟨kk,rs,er3,kkr,hkk,hrn⟩:=so3.er
 have hsl:sn.length<=100:=by
  have:=rDs.len
  rw[kks.len] at this;omega
 obtain⟨nks,nkr,nsr⟩:=sh3.ne
 have hk0:=same_none S2 hk3
 have hs0:=same_none S2 hs3
 have hr0:=same_none S2 hr3
 walk_at "vs"
 intro lm o' H4 b4 es4 hlm elm
 have k4:∀{z:Addr}{u:HO},z≠D.sd->H3 z=some u->H4 z=some u:=fun h e=>b4 _ _ (by simpa using h) e
 have e4:=k4 (fun z=>by rw[z,es] at e3;cases e3) e3
 have er4:=k4 (Ne.symm nsr) er3
 have ek4:=k4 nks ek
 have sf4:aW Hf H4:=fun z u e=>k4 (fun w=>by rw[w,so3.fs] at e;cases e) (so3.sm _ _ e)
 walk_at "vs"
 intro lk H5 s5 hlk elk
 have ahP:=s5 _ _ elm
 have es5:=s5 _ _ es4
 have ek5:=s5 _ _ ek4
 have hnl:lm≠lk:=fun z=>by rw[<-z,elm] at hlk;cases hlk
 walk_at "vs"
 intro t ht
 have s6:=aC (.tup [.ref D.kd, .ref D.sd, .ref lm, .ref lk]) ht
 have S4:aW H H4:=iM S3 (fun p hp=>by
  have:p=D.sd:=by simpa using hp
  rw[this];exact hs0) b4
 have ahQ:=same_none S3 hlm
 have ahR:=same_none S4 hlk
 exact q t D.kd D.sd lm lk kw ks wn sn kn rmN rkn o' _ (S4.trans (s5.trans s6)) ao hk0 hs0 ahQ ahR nks hnl (s6 _ _ ek5) kkw hkw (s6 _ _ es5) kks (rDs.map fun _ _ z=>z.same (sf4.trans (s5.trans s6))) (s6 _ _ ahP) (s6 _ _ elk) ⟨so3.ok,so3.md,hw3,hrch,hrn⟩ ru3
end
section
variable {P:Program}{w:World}{K:PySem.W.Frag}{mg:Str->Option Value}{base:Heap}
abbrev fG:Stmt:=top 20
theorem HR:bR ["script","k"] ["script","k"] (aa fG):=⟨rfl,rfl,rfl,by decide +kernel,rfl,by decide +kernel,by decide +kernel⟩
theorem uN:aF (aa fG) "k":=by decide +kernel
theorem Am:(aa fG).names.lookup ("len":Str)=some NameKind.globalImplicit:=by decide +kernel
theorem oH:aF (aa fG) "script":=by decide +kernel
theorem An:("len":Str)≠"__name__":=by decide +kernel
theorem Ao:(("len":Str)==("__debug__":Str))=false:=by decide +kernel
theorem HS {f:Addr}{fd:FuncData} (eG:FnT K mg "_law_cell_at" fG ["script","k"] f fd) (T:Blt mg):bh P w K mg base CX0 1 f fd ["script","k"] (Tv K):=by
 refine eG.F.okQ HR (fun vs H Q E h=> ?_) (fun cdv A outer s H vs Q E hr h=> ?_)
 ·obtain⟨a,ns,k,rfl,_⟩:=h
  rfl
 obtain⟨a,ns,k,rfl,hS,h0,q⟩:=h
 refine⟨_,(aq (cN (cD Tf (aj 1 uN) (cX ju Am T.vU pO (aJ (aj 0 oH) az) An Ao) (aU _)) (aD (aZ (aK cL (aj 0 oH) (aj 1 uN)))) bH)
  (aD (aZ aA))), ?_⟩
 walk_at "vs"
 refine zM (fun c1=> ?_) (fun c1=> ?_)
 ·have c1':k<((ns.map V.int).length:Int):=by simpa using c1
  obtain⟨v,j,hv,_⟩:=adF h0 c1'
  walk_at "vs"
  exact q _
 ·walk_at "vs"
  exact q _
abbrev iW:Stmt:=top 21
theorem Mm:bR ["script","k"] ["script","k"] (aa iW):=⟨rfl,rfl,rfl,by decide +kernel,rfl,by decide +kernel,by decide +kernel⟩
theorem zA:aF (aa iW) "k":=by decide +kernel
theorem mW:(aa iW).names.lookup ("_law_cell_at":Str)=some NameKind.globalImplicit:=by decide +kernel
theorem rE:aF (aa iW) "script":=by decide +kernel
theorem mX:(("_law_cell_at":Str)==("__debug__":Str))=false:=by decide +kernel
theorem Mp {f g:Addr}{fd gd:FuncData} (dm:FnT K mg "_law_pool" iW ["script","k"] f fd) (eG:FnT K mg "_law_cell_at" fG ["script","k"] g gd) (zB:bh P w K mg base CX0 1 g gd ["script","k"] (Tv K)) (T:Blt mg):
 bh P w K mg base CX0 2 f fd ["script","k"] (NB K):=by
 refine dm.F.okQ Mm (fun vs H Q E h=> ?_) (fun cdv A outer s H vs Q E hr h=> ?_)
 ·obtain⟨a,ns,k,rfl,_⟩:=h
  rfl
 obtain⟨a,ns,k,rfl,hS,h0,h1,q⟩:=h
 refine⟨_,(aD (aZ (Wb (JN bY (aL (zB.mono (by omega)) hr mW eG.m eG.F.kp eG.b .nil bz (aJ (aj 0 rE) (aJ (aj 1 zA) az)) mX) (JN bY (pP di (cT m5 (aL (zB.mono (by omega)) hr mW eG.m eG.F.kp eG.b .nil bz (aJ (aj 0 rE) (jw aA az)) mX) aA) aA (aU _)) (JN bY (cT lX aA (cT qm aA (aj 1 zA))) aaJ)))))), ?_⟩
 walk_at "vs"
 intro p hp
 have s1:=aC (.dK []) hp
 have hS1:=SqL.same s1 hS
 have e1:upd H p (.dK []) p=some (.dK []):=ao
 generalize upd H p (.dK [])=H1 at *
 walk_at "vs"
 intro n1
 walk_at "vs"
 intro n2
 walk_at "vs"
 refine⟨qR n1 (decide (V.int (n2 % 2)=V.int 1)) (3+5 * k),rfl,by show 3<=15;decide, ?_⟩
 have em:jj [] (qR n1 (decide (V.int (n2 % 2)=V.int 1)) (3+5 * k))=qR n1 (decide (V.int (n2 % 2)=V.int 1)) (3+5 * k):=rfl
 rw[em]
 exact q p _ (fX _ hp s1) hp ⟨_,_,_,ao,by omega,by omega⟩
abbrev dN:Stmt:=top 22
theorem pF:bR ["pool","many","rest"] ["pool","many"] (aa dN):=⟨rfl,rfl,rfl,by decide +kernel,rfl,by decide +kernel,by decide +kernel⟩
theorem lZ:Loc (aa dN) "rest":=by decide +kernel
theorem gG:aF (aa dN) "pool":=by decide +kernel
theorem dW:aF (aa dN) "rest":=by decide +kernel
theorem oO:aF (aa dN) "many":=by decide +kernel
theorem Mq {f:Addr}{fd:FuncData} (aB:FnT K mg "_law_take" dN ["pool","many"] f fd) (T:Blt mg):bh P w K mg base CX0 1 f fd ["pool","many"] wI:=by
 refine aB.F.okQ pF (fun vs H Q E h=> ?_) (fun cdv A outer s H vs Q E hr h=> ?_)
 ·obtain⟨p,c,many,rfl,_⟩:=h
  rfl
 obtain⟨p,c,many,rfl,⟨rest,mixed,count,e,h0,h1⟩,hc,hm,hlg,q⟩:=h
 refine⟨_,(aq (bK (i:=2) pF.nd rfl lZ (cU (cg hr) (aj 0 gG) bY))
  (aq (cN (Nr (qO (cU (cg hr) (aj 0 gG) bY))) (aq (jc (cg hr) (aj 0 gG) bY (cT K9 (aj 2 dW) (aj 1 oO)))
  (aD (aZ (cT m5 (aj 2 dW) (aj 1 oO))))) bH)
  (aq (jc (cg hr) (aj 0 gG) bY (cT lX (cU (cg hr) (aj 0 gG) bY) aA))
  (aq (bK (i:=2) pF.nd rfl lZ (cT lX (cT m5 (aj 2 dW) aA) (cT qm aA (cU (cg hr) (aj 0 gG) bY))))
  (aq (bK (i:=2) pF.nd rfl lZ (cT m5 (cT qm (aj 2 dW) (cT lX (aj 2 dW) aA)) aA))
  (aq (bK (i:=2) pF.nd rfl lZ (cT m5 (cT qm (aj 2 dW) (aj 2 dW)) aA))
  (aq (jc (cg hr) (aj 0 gG) bY (aj 2 dW))
  (aD (aZ (cT m5 (cT K9 (aj 2 dW) aA) (aj 1 oO))))))))))), ?_⟩
 have d1:=Jr e
 have d2:=NK e
 have d3:=GF e
 walk_at "vs"
 cases mixed with
 | false=>
   walk_at "vs"
   refine And.intro (zx e _) ?_
   walk_at "vs"
   exact q _ _ (Int.emod_nonneg _ (by omega)) (Int.emod_lt_of_pos _ hm) (But.set _ (by simp)) ⟨_,_,_,ao,h0,by omega⟩
 | true=>
   walk_at "vs"
   refine And.intro (GJ e _) ?_
   have e2:upd H p (.dK (qR rest true (count+1))) p=some (.dK (qR rest true (count+1))):=ao
   have b2:But [p] H (upd H p (.dK (qR rest true (count+1)))):=But.set _ (by simp)
   clear d1 d2 d3
   generalize upd H p (.dK (qR rest true (count+1)))=H2 at *
   have d1:=Jr e2
   have d3:=GF e2
   have r0:=Int.emod_nonneg rest (show(1000000000163:Int)≠0 by decide)
   have r1:=Int.emod_lt_of_pos rest (show(0:Int)<1000000000163 by decide)
   have m1:Dp 70001 (count+1):= .inl ⟨by decide,by decide⟩
   have m2:Dp (rest % 1000000000163+70001 *(count+1)) (rest % 1000000000163+70001 *(count+1)+29):= .inl ⟨by omega,by omega⟩
   have z1:=Int.emod_nonneg ((rest % 1000000000163+70001 *(count+1))*(rest % 1000000000163+70001 *(count+1)+29)) (show(1000000000193:Int)≠0 by decide)
   have z2:=Int.emod_lt_of_pos ((rest % 1000000000163+70001 *(count+1))*(rest % 1000000000163+70001 *(count+1)+29)) (show(0:Int)<1000000000193 by decide)
   walk_at "vs"
   refine And.intro (zx e2 _) ?_
   walk_at "vs"
   exact q _ _ (Int.emod_nonneg _ (by omega)) (Int.emod_lt_of_pos _ hm) (b2.trans (But.set _ (by simp))) ⟨_,_,_,ao,by omega,by omega⟩
abbrev jA:Stmt:=top 23
theorem Fb:bR ["k","letters"] ["k"] (aa jA):=⟨rfl,rfl,rfl,by decide +kernel,rfl,by decide +kernel,by decide +kernel⟩
theorem yN:Loc (aa jA) "letters":=by decide +kernel
theorem p6:aF (aa jA) "letters":=by decide +kernel
theorem tW:aF (aa jA) "k":=by decide +kernel
theorem Mr {f:Addr}{fd:FuncData} (fQ:FnT K mg "_law_name" jA ["k"] f fd) (T:Blt mg):bh P w K mg base CX0 1 f fd ["k"] Lk:=by
 refine fQ.F.okQ Fb (fun vs H Q E h=> ?_) (fun cdv A outer s H vs Q E hr h=> ?_)
 ·obtain⟨k,rfl,_⟩:=h
  rfl
 obtain⟨k,rfl,hk,q⟩:=h
 refine⟨_,(aq (bK (i:=1) Fb.nd rfl yN bY)
  (aD (aZ (cT La (aK Px (aj 1 p6) (cT m5 (aj 0 tW) aA)) (cT Tu (aK Px (aj 1 p6) (cT m5 (cT qm (aj 0 tW) aA) aA)) (cT m5 (cT qm (aj 0 tW) aA) aA)))))), ?_⟩
 have l1:=Tw (n:=(k:Int) % 26) (i:=k % 26) (by omega) (by omega)
 have l2:=Tw (n:=(k:Int)* 7 % 26) (i:=k * 7 % 26) (by omega) (by omega)
 have zl:("abcdefghijklmnopqrstuvwxyz":Str).length<=sizeLine:=by decide +kernel
 have m1:Dp (k:Int) 7:= .inr ⟨by decide,by decide⟩
 have m2:Dp (k:Int) 5:= .inr ⟨by decide,by decide⟩
 have n0:0<=(k:Int)* 5 % 8:=by omega
 have n1:(k:Int)* 5 % 8<=1000:=by omega
 have o1:(⟨#[k * 7 % 26+97]⟩:Str).length<=1000:=by show 1<=1000;decide
 have en:((k:Int)* 5 % 8).toNat=k * 5 % 8:=by omega
 have q':Q (.str (ltr (k % 26)++GD (ltr (k * 7 % 26)) ((k:Int)* 5 % 8).toNat)) H:=by rw[en];exact q
 have zz:(⟨#[k % 26+97]⟩:Str).length+(GD (⟨#[k * 7 % 26+97]⟩:Str) ((k:Int)* 5 % 8).toNat).length<=sizeLine:=by
  rw[Wm,en,sizeLine_eq]
  show 1+k * 5 % 8 * 1<=_
  omega
 walk_at "vs"
 exact q'
end
section
variable {P:Program}{w:World}{K:PySem.W.Frag}{mg:Str->Option Value}{base:Heap}
abbrev gH:Stmt:=top 24
theorem Mt:bR ["pool","names"] ["pool","names"] (aa gH):=⟨rfl,rfl,rfl,by decide +kernel,rfl,by decide +kernel,by decide +kernel⟩
theorem gj:(aa gH).names.lookup ("_law_take":Str)=some NameKind.globalImplicit:=by decide +kernel
theorem jL:aF (aa gH) "pool":=by decide +kernel
theorem gm:(("_law_take":Str)==("__debug__":Str))=false:=by decide +kernel
theorem nW:aF (aa gH) "names":=by decide +kernel
theorem Fq:(aa gH).names.lookup ("len":Str)=some NameKind.globalImplicit:=by decide +kernel
theorem Ft:("len":Str)≠"__name__":=by decide +kernel
theorem Fv:(("len":Str)==("__debug__":Str))=false:=by decide +kernel
theorem Mv {f g:Addr}{fd gd:FuncData} (fU:FnT K mg "_law_leaf" gH ["pool","names"] f fd) (aB:FnT K mg "_law_take" dN ["pool","many"] g gd) (bF:bh P w K mg base CX0 1 g gd ["pool","many"] wI) (T:Blt mg):
 bh P w K mg base CX0 2 f fd ["pool","names"] Qc:=by
 refine fU.F.okQ Mt (fun vs H Q E h=> ?_) (fun cdv A outer s H vs Q E hr h=> ?_)
 ·obtain⟨p,l,c,ns,rfl,_⟩:=h
  rfl
 obtain⟨p,l,c,ns,rfl,hp,hc,el,hn1,hn9,hg,q⟩:=h
 refine⟨_,(aq (cN (Il (Jq (cD (Wf hr.units) (aj 1 nW) (gB az) (aU _)) (Gp (cD di (aL (bF.mono (by omega)) hr gj aB.m aB.F.kp aB.b .nil bz (aJ (aj 0 jL) (jw aA az)) gm) aA (aU _))))) (aD (aZ (ie (jw bY (fD (aK cL (gB (zQ (cT mZ (aL (bF.mono (by omega)) hr gj aB.m aB.F.kp aB.b .nil bz (aJ (aj 0 jL) (jw aA az)) gm) aA) (zQ (cT mZ (aL (bF.mono (by omega)) hr gj aB.m aB.F.kp aB.b .nil bz (aJ (aj 0 jL) (zQ (cT Pq aA aA) az)) gm) (cT Pq aA aA)) az))) (aL (bF.mono (by omega)) hr gj aB.m aB.F.kp aB.b .nil bz (aJ (aj 0 jL) (jw aA az)) gm)) az))))) bH)
  (aD (aZ (ie (jw bY (fD (aK cL (aj 1 nW) (aL (bF.mono (by omega)) hr gj aB.m aB.F.kp aB.b .nil bz (aJ (aj 0 jL) (uo (cX ju Fq T.vU pO (aJ (aj 1 nW) az) Ft Fv) az)) gm)) az)))))), ?_⟩
 have nlp:=hp.nel el
 have cp1:Vt 10 20:=⟨by decide,by decide,by decide⟩
 have cp2:Vt 10 19:=⟨by decide,by decide,by decide⟩
 have p20:(10:Int)^(20:Int).toNat=100000000000000000000:=by decide +kernel
 have p19:(10:Int)^(19:Int).toNat=10000000000000000000:=by decide +kernel
 have hq0:0<(10:Int)^(20:Int).toNat:=by rw[p20];omega
 have hql:((10:Int)^(20:Int).toNat).natAbs.log2<9000:=by rw[p20];decide +kernel
 walk_at "vs"
 intro pe hpe
 have npe:pe∉[p]:=fun z=>hp.ne hpe (by simpa using z)
 have S1:=aC (.lst []) hpe
 have B1:But [p] H (upd H pe (.lst [])):=But.of_same S1
 have pl1:=hp.same S1
 have el1:=S1 _ _ el
 have e1:upd H pe (.lst []) pe=some (.lst []):=ao
 generalize upd H pe (.lst [])=H1 at *
 refine⟨_,_, .lst (SqL.of el1) (lE _), .lst (SqL.of e1) .nil,qU hg,by decide, ?_⟩
 rw[PL hn1]
 walk_at "vs"
 intro n2 H2 n20 n21 b2 pl2
 have B2:=B1.trans b2
 have el2:=B2 _ _ nlp el
 walk_at "vs"
 refine zM (fun c1=> ?_) (fun c1=> ?_)
 ·walk_at "vs"
  intro n3 H3 n30 n31 b3 pl3
  walk_at "vs"
  intro n4 H4 n40 n41 b4 pl4
  have ahS:n4<(10:Int)^(20:Int).toNat:=n41
  rw[p20] at ahS
  have B4:=B2.trans (b3.trans b4)
  walk_at "vs"
  intro ps hps
  have nps:ps∉[p]:=fun z=>pl4.ne hps (by simpa using z)
  have ahT:=iQ B4 hps nps
  have S5:=aC (.lst [V.int (n3 - 4),V.int (n4 - (10:Int)^(19:Int).toNat)]) hps
  have e5:upd H4 ps (.lst [V.int (n3 - 4),V.int (n4 - (10:Int)^(19:Int).toNat)]) ps=some (.lst [V.int (n3 - 4),V.int (n4 - 10000000000000000000)]):=by rw[p19];exact ao
  have B5:But [p] H (upd H4 ps (.lst [V.int (n3 - 4),V.int (n4 - (10:Int)^(19:Int).toNat)])):=B4.upd _ ahT
  have pl5:=pl4.same S5
  generalize upd H4 ps (.lst [V.int (n3 - 4),V.int (n4 - (10:Int)^(19:Int).toNat)])=H5 at *
  walk_at "vs"
  intro n6 H6 n60 n61 b6 pl6
  have B6:=B5.trans b6
  have e6:=b6 _ _ nps e5
  obtain⟨v,hv,hv1⟩:∃v:Int,atI [V.int (n3 - 4),V.int (n4 - 10000000000000000000)] n6=some (.int v)/\v.natAbs<10 ^ 40:=by
   have:n6=0\/n6=1:=by omega
   rcases this with rfl | rfl
   ·exact⟨n3 - 4,rfl,by omega⟩
   ·exact⟨n4 - 10000000000000000000,rfl,by omega⟩
  walk_at "vs"
  intro p8 hp8
  have ahU:=iQ B6 hp8 (fun z=>pl6.ne hp8 (by simpa using z))
  exact q p8 (.num v) _ (B6.upd _ ahU) ((pl6.same (aC _ hp8)).mono (by omega)) (.num ao) ⟨hv1,trivial,trivial,Nat.le_refl _⟩
 ·have hlm:(ns.map V.str).length=ns.length:=List.length_map _
  have hl0:0<((ns.map V.str).length:Int):=by rw[hlm];omega
  have hlog:((ns.map V.str).length:Int).natAbs.log2<9000:=by
   rw[hlm]
   exact Nat.lt_of_le_of_lt (Nat.log2_le_self _) (by omega)
  walk_at "vs"
  intro n6 H8 n60 n61 b8 pl8
  have B8:=B2.trans b8
  have el8:=B8 _ _ nlp el
  obtain⟨x,hx,hxm⟩:∃x,atI (ns.map V.str) n6=some (.str x)/\x∈ns:=by
   obtain⟨j,rfl⟩:=Int.eq_ofNat_of_zero_le n60
   have hj:j<ns.length:=by rw[hlm] at n61;omega
   exact⟨ns[j],jZ (by rw[List.getElem?_map,List.getElem?_eq_getElem hj];rfl),List.getElem_mem hj⟩
  walk_at "vs"
  intro p9 hp9
  have Kc:=iQ B8 hp9 (fun z=>pl8.ne hp9 (by simpa using z))
  exact q p9 (.rd x) _ (B8.upd _ Kc) ((pl8.same (aC _ hp9)).mono (by omega)) (.rd ao) ⟨hg x hxm,trivial,hxm,Nat.le_refl _⟩
end
section
variable {P:Program}{w:World}{K:PySem.W.Frag}{mg:Str->Option Value}{base:Heap}
abbrev bx:Stmt:=top 25
theorem oW:bR ["pool","names","deep","way","one","other"] ["pool","names","deep"] (aa bx):=⟨rfl,rfl,rfl,by decide +kernel,rfl,by decide +kernel,by decide +kernel⟩
theorem Ci:Loc (aa bx) "way":=by decide +kernel
theorem jM:(aa bx).names.lookup ("_law_take":Str)=some NameKind.globalImplicit:=by decide +kernel
theorem fc:aF (aa bx) "pool":=by decide +kernel
theorem gZ:(("_law_take":Str)==("__debug__":Str))=false:=by decide +kernel
theorem jq:aF (aa bx) "way":=by decide +kernel
theorem j9:aF (aa bx) "deep":=by decide +kernel
theorem uO:(aa bx).names.lookup ("_law_leaf":Str)=some NameKind.globalImplicit:=by decide +kernel
theorem iB:aF (aa bx) "names":=by decide +kernel
theorem uP:(("_law_leaf":Str)==("__debug__":Str))=false:=by decide +kernel
theorem Cj:Loc (aa bx) "one":=by decide +kernel
theorem jl:(aa bx).names.lookup ("_law_recipe":Str)=some NameKind.globalImplicit:=by decide +kernel
theorem jm:(("_law_recipe":Str)==("__debug__":Str))=false:=by decide +kernel
theorem lu:aF (aa bx) "one":=by decide +kernel
theorem yO:(aa bx).names.lookup ("tuple":Str)=some NameKind.globalImplicit:=by decide +kernel
theorem yP:(aa bx).names.lookup ("range":Str)=some NameKind.globalImplicit:=by decide +kernel
theorem Ck:("len":Str)≠"__name__":=by decide +kernel
theorem Cm:(("len":Str)==("__debug__":Str))=false:=by decide +kernel
theorem yQ:("tuple":Str)≠"__name__":=by decide +kernel
theorem yR:(("tuple":Str)==("__debug__":Str))=false:=by decide +kernel
theorem yS:Loc (aa bx) "other":=by decide +kernel
theorem p7:aF (aa bx) "other":=by decide +kernel
theorem vX {d:Nat}{f g0 g1:Addr}{fd gd0 gd1:FuncData} (bG:FnT K mg "_law_recipe" bx ["pool","names","deep"] f fd) (aB:FnT K mg "_law_take" dN ["pool","many"] g0 gd0) (bF:bh P w K mg base CX0 1 g0 gd0 ["pool","many"] wI)
 (fU:FnT K mg "_law_leaf" gH ["pool","names"] g1 gd1) (nj:bh P w K mg base CX0 2 g1 gd1 ["pool","names"] Qc) (nY:bh P w K mg base CX0 (d+2) f fd ["pool","names","deep"] (ahx d)) (T:Blt mg):
 bh P w K mg base CX0 (d+3) f fd ["pool","names","deep"] (TY d):=by
 refine bG.F.okQ oW (fun vs H Q E h=> ?_) (fun cdv A outer s H vs Q E hr h=> ?_)
 ·obtain⟨p,l,c,ns,deep,rfl,_⟩:=h
  rfl
 obtain⟨p,l,c,ns,deep,rfl,hdeep,hd3,hp,hc,el,hn1,hn9,hg,q⟩:=h
 refine⟨_,(aq (bK (i:=3) oW.nd rfl Ci (aL (bF.mono (by omega)) hr jM aB.m aB.F.kp aB.b .nil bz (aJ (aj 0 fc) (jw aA az)) gZ))
  (aq (cN (Il (Jq (cD di (aj 2 j9) aA (aU _)) (Gp (cD di (aj 3 jq) aA (aU _))))) (aD (aZ (aL (nj.mono (by omega)) hr uO fU.m fU.F.kp fU.b .nil bz (aJ (aj 0 fc) (aJ (aj 1 iB) az)) uP))) bH)
  (aq (bK (i:=4) oW.nd rfl Cj (aL (nY.mono (by omega)) hr jl bG.m bG.F.kp bG.b .nil bz (aJ (aj 0 fc) (aJ (aj 1 iB) (zQ (cT mZ (aj 2 j9) aA) az))) jm))
  (aq (cN (cD di (aj 3 jq) aA (aU _)) (aD (aZ (ie (jw bY (aJ (aj 4 lu) (JR (ie (jw bY (zQ (cT mZ (aL (bF.mono (by omega)) hr jM aB.m aB.F.kp aB.b .nil bz (aJ (aj 0 fc) (jw aA az)) gZ) aA) az))) az)))))) bH)
  (aq (cN (Il (Gq (cD di (aj 3 jq) aA (aU _)) (Bx (cD (Wg hr.units) (aj 1 iB) (gB az) (aU _))))) (aD (aZ (ie (jw bY (aJ (aj 4 lu) (uo (fj Lb yO T.FQ Bw (adM (yq rfl (n:=1) (fr:=[1,0]) (N:=["k","names","pool"]) (Ew (scX:=aa bx) (NX:=["pool","names","deep","way","one","other"]) rfl rfl (by decide +kernel)) (Du yP T.FP (zQ (cT lX aA (aL (bF.mono (by omega)) hr jM aB.m aB.F.kp aB.b .nil bz (aJ (aj 0 fc) (jw aA az)) gZ)) az)) (fun _ _ _ _ _=>(qgx (i:=0) (show List.Nodup (α:=Str) ["k","names","pool"] by decide) (JL (by decide +kernel)))) (fun _ _ _ _ _=>Nt) (fun _ _ _ _ _=>(aK (yt (K:=K) rfl) (aj 1 (lD.ok (by decide +kernel))) (aL (bF.mono (by omega)) hr (glC (by decide +kernel)) aB.m aB.F.kp aB.b .nil bz (aJ (aj 2 (lD.ok (by decide +kernel))) (uo (cX (Ex (K:=K) rfl) (glC (by decide +kernel)) T.vU pO (aJ (aj 1 (lD.ok (by decide +kernel))) az) Ck Cm) az)) gZ)))) az) yQ yR) az)))))) bH)
  (aq (bK (i:=5) oW.nd rfl yS (aL (nY.mono (by omega)) hr jl bG.m bG.F.kp bG.b .nil bz (aJ (aj 0 fc) (aJ (aj 1 iB) (zQ (cT mZ (aj 2 j9) aA) az))) jm))
  (aq (cN (cD Tf (aj 3 jq) aA (aU _)) (aD (aZ (ie (jw bY (aJ (aj 4 lu) (aJ (aj 5 p7) (uo (aL (nY.mono (by omega)) hr jl bG.m bG.F.kp bG.b .nil bz (aJ (aj 0 fc) (aJ (aj 1 iB) (zQ (cT mZ (aj 2 j9) aA) az))) jm) az))))))) bH)
  (aD (aZ (ie (fD (aK cL (gB (jw bY (jw bY (jw bY (jw bY az))))) (cT mZ (aj 3 jq) aA)) (aJ (aj 4 lu) (aJ (aj 5 p7) az))))))))))))), ?_⟩
 have ht:=Wv d
 have nlp:=hp.nel el
 walk_at "vs"
 intro kind H1 k0 k1 b1 pl1
 have el1:=b1 _ _ nlp el
 have leafq:∀a r H',But [p] H1 H'->fJ H' p (c+1+6)->IsR H' a r->Rk3 ns 1 r->Q (.ref a) H':=fun a r H' b pl R ok=>
  q a r H' (b1.trans b) (pl.mono (by omega)) R ⟨ok.g,ok.t,ok.i,by have:=ok.d;omega⟩
 cases d with
 | zero=>
   have hdeep:deep=0:=hdeep
   subst hdeep
   walk_at "vs"
   exact leafq
 | succ d=>
   have hdeep:deep=(d:Int)+1:=hdeep
   have hnd:¬(deep=0):=by omega
   walk_at "vs"
   refine zM (fun c0=>absurd (V.int.inj (of_decide_eq_true c0)) hnd) (fun _=> ?_)
   walk_at "vs"
   refine zM (fun c0=> ?_) (fun c0=> ?_)
   ·walk_at "vs"
    exact leafq
   ·have c0':¬(kind=0):=fun z=>c0 (by rw[z];rfl)
    walk_at "vs"
    intro a1 r1 H2 b2 pl2 R1 ok1
    have B2:=b1.trans b2
    have el2:=B2 _ _ nlp el
    have htd:tk3 d<=170:=by
     have:d=0\/d=1\/d=2:=by omega
     rcases this with rfl | rfl | rfl<;>decide
    have et:tk3 (d+1)=3 * tk3 d+20:=rfl
    have od1:=ok1.d
    walk_at "vs"
    refine zM (fun c1=> ?_) (fun c1=> ?_)
    ·walk_at "vs"
     intro n3 H3 n30 n31 b3 pl3
     have B3:=B2.trans b3
     have R13:=R1.tups (pl2.tups b3)
     walk_at "vs"
     intro p4 hp4
     have ahV:=iQ B3 hp4 (fun z=>pl3.ne hp4 (by simpa using z))
     have S4:=aC (.tup [V.str "number",V.int (n3 - 3)]) hp4
     have R4:IsR (upd H3 p4 (.tup [V.str "number",V.int (n3 - 3)])) p4 (.num (n3 - 3)):= .num ao
     have B4:But [p] H (upd H3 p4 (.tup [V.str "number",V.int (n3 - 3)])):=B3.upd _ ahV
     have pl4:=pl3.same S4
     have R14:=R13.same S4
     generalize upd H3 p4 (.tup [V.str "number",V.int (n3 - 3)])=H4 at *
     walk_at "vs"
     intro p9 hp9
     have Kc:=iQ B4 hp9 (fun z=>pl4.ne hp9 (by simpa using z))
     have S:=aC (.tup [V.str "times", .ref a1, .ref p4]) hp9
     exact q p9 (.bin .times r1 (.num (n3 - 3))) _ (B4.upd _ Kc) ((pl4.same S).mono (by omega)) (.bin ao (R14.same S) (R4.same S)) ⟨⟨ok1.g,show(n3 - 3).natAbs<10 ^ 40 by omega⟩,⟨ok1.t,trivial,fun _=>⟨_,rfl,by omega,by omega⟩⟩,⟨ok1.i,trivial⟩,by show max r1.depth 1+1<=_;omega⟩
    ·have c1':¬(kind=1):=fun z=>c1 (by rw[z];rfl)
     have rest:∀(a2:Addr) (r2:R) (H3:Hp),But [p] H H3->fJ H3 p (c+1+tk3 d+tk3 d)->IsR H3 a1 r1->IsR H3 a2 r2->Rk3 ns (d+1) r2->∀(op:Op),op≠ .times->∀p9,H3 p9=none->Q (.ref p9) (upd H3 p9 (.tup [.str op.word, .ref a1, .ref a2])):=by
      intro a2 r2 H3 b3 pl3 R1 R2 ok2 op hop p9 hp9
      have Kc:=iQ b3 hp9 (fun z=>pl3.ne hp9 (by simpa using z))
      have S:=aC (.tup [.str op.word, .ref a1, .ref a2]) hp9
      have od2:=ok2.d
      exact q p9 (.bin op r1 r2) _ (b3.upd _ Kc) ((pl3.same S).mono (by omega)) (.bin ao (R1.same S) (R2.same S)) ⟨⟨ok1.g,ok2.g⟩,⟨ok1.t,ok2.t,fun z=>absurd z hop⟩,⟨ok1.i,ok2.i⟩,by show max r1.depth r2.depth+1<=_;omega⟩
     walk_at "vs"
     refine zM (fun c2=> ?_) (fun c2=> ?_)
     ·walk_at "vs"
      intro pe hpe
      have npe:pe∉[p]:=fun z=>pl2.ne hpe (by simpa using z)
      have ahW:=iQ B2 hpe npe
      have S2:=aC (.lst []) hpe
      have B3:But [p] H (upd H2 pe (.lst [])):=B2.upd _ ahW
      have pl3:=pl2.same S2
      have el3:=S2 _ _ el2
      have R13:=R1.same S2
      have e3:upd H2 pe (.lst []) pe=some (.lst []):=ao
      generalize upd H2 pe (.lst [])=H3 at *
      refine⟨_,_, .lst (SqL.of el3) (lE _), .lst (SqL.of e3) .nil,qU hg,by decide, ?_⟩
      rw[PL hn1]
      walk_at "vs"
      intro n9 H4 n90 n91 b4 pl4
      have B4:=B3.trans b4
      have el4:=B4 _ _ nlp el
      have R14:=R13.tups (pl3.tups b4)
      walk_at "vs"
      have hlm:(ns.map V.str).length=ns.length:=List.length_map _
      have hl0:0<((ns.map V.str).length:Int):=by rw[hlm];omega
      have hlog:((ns.map V.str).length:Int).natAbs.log2<9000:=by
       rw[hlm]
       exact Nat.lt_of_le_of_lt (Nat.log2_le_self _) (by omega)
      intro D hD
      have nD:D∉[p]:=fun z=>pl4.ne hD (by simpa using z)
      have nDp:D≠p:=by simpa using nD
      have hD0:=iQ B4 hD nD
      refine Gk (fun i σ' H'=>(∃t,σ'=t::[some (.ref l),some (.ref p)])/\∃ts:List Str,H' D=some (.lst (ts.map V.str))/\ts.length=i/\(∀x∈ts,x∈ns)/\But [p] H H'/\fJ H' p (c+1+tk3 d+1+i)/\IsR H' a1 r1) ?_ ?_ ?_
      ·exact⟨⟨none,rfl⟩,[],ao,rfl,by simp,B4.upd _ hD0,pl4.same (aC _ hD),R14.same (aC _ hD)⟩
      ·intro i σ' H' hi hP
       obtain⟨⟨t,rfl⟩,ts,e,et',ho,hb,hpl,hR⟩:=hP
       have elH:=hb _ _ nlp el
       have hi9:(i:Int)<10:=by omega
       walk_at "vs"
       intro n6 H5 n60 n61 b5 pl5
       have hb5:=hb.trans b5
       have el5:=hb5 _ _ nlp el
       have e5:=b5 _ _ nD e
       have R5:=hR.tups (hpl.tups b5)
       obtain⟨x,hx,hxm⟩:∃x,atI (ns.map V.str) n6=some (.str x)/\x∈ns:=by
        obtain⟨j,rfl⟩:=Int.eq_ofNat_of_zero_le n60
        have hj:j<ns.length:=by rw[hlm] at n61;omega
        exact⟨ns[j],jZ (by rw[List.getElem?_map,List.getElem?_eq_getElem hj];rfl),List.getElem_mem hj⟩
       have hz:(ts.map V.str).length<sizeLine:=by rw[List.length_map];exact aV (by omega)
       walk_at "vs"
       have ahX:mK H5 (upd H5 D (.lst (ts.map V.str++[.str x]))):=fun q xs e'=>(au (fun z=>by rw[z,e5] at e';cases e')).trans e'
       refine⟨⟨_,rfl⟩,ts++[x], ?_,by rw[List.length_append,et'];rfl, ?_,hb5.upd _ hD0,pl5.keep (But.set _ (by simp)) (S:=[D]) (by simpa using Ne.symm nDp),R5.tups ahX⟩
       ·rw[List.map_append];exact ao
       ·intro y hy
        rcases List.mem_append.mp hy with z | z
        ·exact ho y z
        ·have:y=x:=by simpa using z
         rw[this];exact hxm
      ·intro σ' H' hP
       obtain⟨_,ts,e,et',ho,hb,hpl,hR⟩:=hP
       walk_at "vs"
       intro pt hpt
       have ahY:=iQ hb hpt (fun z=>hpl.ne hpt (by simpa using z))
       have S5:=aC (.tup (ts.map V.str)) hpt
       walk_at "vs"
       intro p9 hp9
       have hb5:=hb.upd (.tup (ts.map V.str)) ahY
       have pl5:=hpl.same S5
       have Kc:=iQ hb5 hp9 (fun z=>pl5.ne hp9 (by simpa using z))
       have S6:=aC (.tup [.str "choose", .ref a1, .ref pt]) hp9
       exact q p9 (.cho r1 ts) _ (hb5.upd _ Kc) ((pl5.same S6).mono (by omega)) (.cho ao ((hR.same S5).same S6) (S6 _ _ ao)) ⟨⟨ok1.g,by omega,by omega,fun x hx=>hg x (ho x hx)⟩,⟨ok1.t,by omega⟩,⟨ok1.i,ho⟩,by show r1.depth+1<=_;omega⟩
     ·walk_at "vs"
      intro a2 r2 H3 b3 pl3 R2 ok2
      have B3:=B2.trans b3
      have el3:=B3 _ _ nlp el
      have R13:=R1.tups (pl2.tups b3)
      have od2:=ok2.d
      walk_at "vs"
      refine zM (fun c3=> ?_) (fun c3=> ?_)
      ·walk_at "vs"
       intro a3 r3 H4 b4 pl4 R3 ok3
       have B4:=B3.trans b4
       have R14:=R13.tups (pl3.tups b4)
       have R24:=R2.tups (pl3.tups b4)
       have od3:=ok3.d
       walk_at "vs"
       intro p9 hp9
       have Kc:=iQ B4 hp9 (fun z=>pl4.ne hp9 (by simpa using z))
       have S:=aC (.tup [.str "pick", .ref a1, .ref a2, .ref a3]) hp9
       exact q p9 (.pick r1 r2 r3) _ (B4.upd _ Kc) ((pl4.same S).mono (by omega)) (.pick ao (R14.same S) (R24.same S) (R3.same S)) ⟨⟨ok1.g,ok2.g,ok3.g⟩,⟨ok1.t,ok2.t,ok3.t⟩,⟨ok1.i,ok2.i,ok3.i⟩,by show max r1.depth (max r2.depth r3.depth)+1<=_;omega⟩
      ·have c3':¬kind<5:=by simpa using c3
       obtain⟨op,hop,hat⟩:∃op:Op,op≠ .times/\atI [V.str "plus",V.str "minus",V.str "most",V.str "plus"] (kind - 5)=some (.str op.word):=by
        have hm:kind - 5=0\/kind - 5=1\/kind - 5=2\/kind - 5=3:=by omega
        rcases hm with hm | hm | hm | hm
        ·rw[hm];exact⟨.plus,by decide,rfl⟩
        ·rw[hm];exact⟨.minus,by decide,rfl⟩
        ·rw[hm];exact⟨.most,by decide,rfl⟩
        ·rw[hm];exact⟨.plus,by decide,rfl⟩
       walk_at "vs"
       intro pz hpz
       have npz:pz∉[p]:=fun z=>pl3.ne hpz (by simpa using z)
       have ahZ:=iQ B3 hpz npz
       have S3:=aC (.lst [.str "plus", .str "minus", .str "most", .str "plus"]) hpz
       walk_at "vs"
       exact rest a2 r2 _ (B3.upd _ ahZ) (pl3.same S3) (R13.same S3) (R2.same S3) ok2 op hop
theorem zE {f g0 g1:Addr}{fd gd0 gd1:FuncData} (bG:FnT K mg "_law_recipe" bx ["pool","names","deep"] f fd) (aB:FnT K mg "_law_take" dN ["pool","many"] g0 gd0) (bF:bh P w K mg base CX0 1 g0 gd0 ["pool","many"] wI)
 (fU:FnT K mg "_law_leaf" gH ["pool","names"] g1 gd1) (nj:bh P w K mg base CX0 2 g1 gd1 ["pool","names"] Qc) (T:Blt mg):∀d,bh P w K mg base CX0 (d+3) f fd ["pool","names","deep"] (TY d)
 | 0=>vX bG aB bF fU nj (never fun vs H Q E h=>h) T
 | d+1=>vX bG aB bF fU nj (zE bG aB bF fU nj T d) T
theorem HW {f g0 g1:Addr}{fd gd0 gd1:FuncData} (bG:FnT K mg "_law_recipe" bx ["pool","names","deep"] f fd) (aB:FnT K mg "_law_take" dN ["pool","many"] g0 gd0) (bF:bh P w K mg base CX0 1 g0 gd0 ["pool","many"] wI)
 (fU:FnT K mg "_law_leaf" gH ["pool","names"] g1 gd1) (nj:bh P w K mg base CX0 2 g1 gd1 ["pool","names"] Qc) (T:Blt mg):bh P w K mg base CX0 6 f fd ["pool","names","deep"] YK:=by
 have ok:=zE bG aB bF fU nj T
 refine⟨fun vs H Q E h=> ?_,fun A outer s H args us vs Q E hr he hb hv hs=> ?_⟩
 ·obtain⟨p,l,c,ns,deep,rfl,_⟩:=h
  rfl
 ·obtain⟨p,l,c,ns,deep,rfl,h0,h4,hp,hc,el,hn1,hn9,hg,q⟩:=hs
  obtain⟨d,rfl⟩:=Int.eq_ofNat_of_zero_le h0
  have hd:d=0\/d=1\/d=2\/d=3:=by omega
  have ht:tk3 d<=530:=by rcases hd with rfl | rfl | rfl | rfl<;>decide
  exact((ok d).mono (by omega)).run A outer s H args us _ Q E hr he hb hv ⟨p,l,c,ns,_,rfl,rfl,by omega,hp,by omega,el,hn1,hn9,hg,fun a r H' b pl R o=>q a r H' b (pl.mono (by omega)) R ⟨o.g,o.t,o.i,by have:=o.d;omega⟩⟩
end
section
variable {P:Program}{w:World}{K:PySem.W.Frag}{mg:Str->Option Value}{base:Heap}
abbrev bJ:Stmt:=top 26
theorem mj:bR ["script","start","many","given","recipes","names","k","pool"] ["script","start","many"] (aa bJ):=⟨rfl,rfl,rfl,by decide +kernel,rfl,by decide +kernel,by decide +kernel⟩
theorem Aq:Loc (aa bJ) "given":=by decide +kernel
theorem xM:Loc (aa bJ) "recipes":=by decide +kernel
theorem Ar:Loc (aa bJ) "names":=by decide +kernel
theorem Av:(aa bJ).names.lookup ("range":Str)=some NameKind.globalImplicit:=by decide +kernel
theorem Cp:aF (aa bJ) "many":=by decide +kernel
theorem HX:Loc (aa bJ) "k":=by decide +kernel
theorem Cq:Loc (aa bJ) "pool":=by decide +kernel
theorem vL:(aa bJ).names.lookup ("_law_pool":Str)=some NameKind.globalImplicit:=by decide +kernel
theorem Aw:aF (aa bJ) "start":=by decide +kernel
theorem lR:aF (aa bJ) "k":=by decide +kernel
theorem yU:aF (aa bJ) "script":=by decide +kernel
theorem vM:(("_law_pool":Str)==("__debug__":Str))=false:=by decide +kernel
theorem kh:(aa bJ).names.lookup ("_law_take":Str)=some NameKind.globalImplicit:=by decide +kernel
theorem lA:aF (aa bJ) "pool":=by decide +kernel
theorem kj:(("_law_take":Str)==("__debug__":Str))=false:=by decide +kernel
theorem rF:aF (aa bJ) "given":=by decide +kernel
theorem kE:(aa bJ).names.lookup ("_law_name":Str)=some NameKind.globalImplicit:=by decide +kernel
theorem kI:(("_law_name":Str)==("__debug__":Str))=false:=by decide +kernel
theorem pG:aF (aa bJ) "recipes":=by decide +kernel
theorem tX:(aa bJ).names.lookup ("_law_recipe":Str)=some NameKind.globalImplicit:=by decide +kernel
theorem rG:aF (aa bJ) "names":=by decide +kernel
theorem tY:(("_law_recipe":Str)==("__debug__":Str))=false:=by decide +kernel
theorem Kd {f g0 g1 g2 g3:Addr}{fd gd0 gd1 gd2 gd3:FuncData} (jX:FnT K mg "_law_house" bJ ["script","start","many"] f fd) (aB:FnT K mg "_law_take" dN ["pool","many"] g0 gd0) (bF:bh P w K mg base CX0 1 g0 gd0 ["pool","many"] wI)
 (dm:FnT K mg "_law_pool" iW ["script","k"] g1 gd1) (rH:bh P w K mg base CX0 2 g1 gd1 ["script","k"] (NB K)) (fQ:FnT K mg "_law_name" jA ["k"] g2 gd2) (Ax:bh P w K mg base CX0 1 g2 gd2 ["k"] Lk)
 (bG:FnT K mg "_law_recipe" bx ["pool","names","deep"] g3 gd3) (nY:bh P w K mg base CX0 6 g3 gd3 ["pool","names","deep"] YK) (T:Blt mg):bh P w K mg base CX0 7 f fd ["script","start","many"] (YL K):=by
 refine jX.F.okQ mj (fun vs H Q E h=> ?_) (fun cdv A outer s H vs Q E hr h=> ?_)
 ·obtain⟨a,zs,start,many,rfl,_⟩:=h
  rfl
 obtain⟨a,zs,start,many,rfl,hS,h0,h50,hm,q⟩:=h
 refine⟨_,(aq (bK (i:=3) mj.nd rfl Aq lF)
  (aq (bK (i:=4) mj.nd rfl xM lF)
  (aq (bK (i:=5) mj.nd rfl Ar (gB az))
  (aq (Dv PassesOwn.never rfl (Du Av T.FP (aJ (aj 2 Cp) az)) (nC (i:=6) mj.nd rfl HX) (aq (bK (i:=7) mj.nd rfl Cq (aL (rH.mono (by omega)) hr vL dm.m dm.F.kp dm.b .nil bz (aJ (aj 0 yU) (zQ (cT lX (aj 1 Aw) (aj 6 lR)) az)) vM))
  (aq (cN (Il (Jq (cD di (aj 6 lR) aA (aU _)) (Gp (cD di (aL (bF.mono (by omega)) hr kh aB.m aB.F.kp aB.b .nil bz (aJ (aj 7 lA) (jw aA az)) kj) aA (aU _))))) (aD (jc (cg hr) (aj 3 rF) (aL (Ax.mono (by omega)) hr kE fQ.m fQ.F.kp fQ.b .nil bz (aJ (aj 6 lR) az) kI) (cT mZ (aL (bF.mono (by omega)) hr kh aB.m aB.F.kp aB.b .nil bz (aJ (aj 7 lA) (jw aA az)) kj) aA))) (aD (jc (cg hr) (aj 4 pG) (aL (Ax.mono (by omega)) hr kE fQ.m fQ.F.kp fQ.b .nil bz (aJ (aj 6 lR) az) kI) (aL (nY.mono (by omega)) hr tX bG.m bG.F.kp bG.b .nil bz (aJ (aj 7 lA) (fD (Tc Tg (aj 5 rG) (Wa (Yz Pu aA)) V9) (fD (aK cL (gB (jw aA (jw aA (jw aA az)))) (aL (bF.mono (by omega)) hr kh aB.m aB.F.kp aB.b .nil bz (aJ (aj 7 lA) (jw aA az)) kj)) az))) tY))))
  (aD (eN (qP PySem.F.plainAttrs_list PySem.F.slot_list_append PySem.F.type_list_append ig (aj 5 rG) (uo (aL (Ax.mono (by omega)) hr kE fQ.m fQ.F.kp fQ.b .nil bz (aJ (aj 6 lR) az) kI) az)))))))
  (aD (aZ (ie (aJ (aj 3 rF) (aJ (aj 4 pG) az))))))))), ?_⟩
 walk_at "vs"
 intro g hg0
 have s1:=aC (.dK []) hg0
 have e1:upd H g (.dK []) g=some (.dK []):=ao
 generalize upd H g (.dK [])=H1 at *
 walk_at "vs"
 intro c hc1
 have s2:=aC (.dK []) hc1
 have e12:=s2 _ _ e1
 have e2:upd H1 c (.dK []) c=some (.dK []):=ao
 have ngc:g≠c:=fun z=>by rw[<-z,e1] at hc1;cases hc1
 have hc0:=same_none s1 hc1
 have S2:=s1.trans s2
 generalize upd H1 c (.dK [])=H2 at *
 walk_at "vs"
 intro l hl2
 have s3:=aC (.lst []) hl2
 have e13:=s3 _ _ e12
 have e23:=s3 _ _ e2
 have e3:upd H2 l (.lst []) l=some (.lst ((nmK 0).map V.str)):=ao
 have hl0:=same_none S2 hl2
 have S3:=S2.trans s3
 generalize upd H2 l (.lst [])=H3 at *
 clear s1 s2 s3 S2 e12 e1 e2 hc1 hl2
 refine⟨_,rfl,_,rfl,by omega,by omega, ?_⟩
 refine Jd (fun i σ H'=>(∃t u,σ=[some (.ref a),some (.int start),some (.int many),some (.ref g),some (.ref c),some (.ref l),t,u])/\aW H H'/\∃gv rc kg kc,H' g=some (.dK kg)/\H' c=some (.dK kc)/\H' l=some (.lst ((nmK i).map V.str))/\Bld H' kg kc i gv rc) ?_ ?_ ?_
 ·exact⟨⟨none,none,rfl⟩,S3,kn0,fun _=>none,[],[],e13,e23,e3,⟨fun k hk=>by omega,fun x hx=>absurd rfl hx,fun x r e=>(by cases e),fun x hx=>absurd rfl hx,fun z=>by omega⟩,⟨[],[],⟨rfl,by simp⟩,⟨rfl,by simp⟩,rfl⟩,fun x=>rfl,fun x r e=>(by cases e),fun x _=>rfl⟩
 ·intro i σ H4 hi hP
  obtain⟨⟨t,u,rfl⟩,S4,gv,rc,kg,kc,eg4,ec4,el4,bd⟩:=hP
  have akq:i<17:=by
   have:i<(many:Int).toNat:=hi
   omega
  have hS4:=SqL.same S4 hS
  have ei:(0+(i:Int))=(i:Int):=by omega
  obtain⟨gs,cs,kgk,kck,hlen⟩:=bd.k
  have lg:=kgk.len
  have lc:=kck.len
  rw[ei]
  walk_at "vs"
  intro p H5 s5 hp5 pl5
  have S5:=S4.trans s5
  have hp0:=same_none S4 hp5
  have eg5:=s5 _ _ eg4
  have ec5:=s5 _ _ ec4
  have el5:=s5 _ _ el4
  have bd5:=bd.tups (aW.tups s5)
  have fr:∀y∈[p],H y=none:=fun y hy=>by
   have:y=p:=by simpa using hy
   rw[this];exact hp0
  have ngp:g∉[p]:=fun z=>by
   have:g=p:=by simpa using z
   rw[<-this,eg4] at hp5;cases hp5
  have ncp:c∉[p]:=fun z=>by
   have:c=p:=by simpa using z
   rw[<-this,ec4] at hp5;cases hp5
  have nlp:=pl5.nel el5
  have ngl:g≠l:=fun z=>by rw[z,el5] at eg5;cases eg5
  have ncl:c≠l:=fun z=>by rw[z,el5] at ec5;cases ec5
  have hzl:((nmK i).map V.str).length<sizeLine:=by rw[List.length_map,jd];exact aV (by omega)
  have done:∀(H6:Hp) (σ6:L2.St) gv rc kg kc,(∃t u,σ6=[some (.ref a),some (.int start),some (.int many),some (.ref g),some (.ref c),some (.ref l),t,u])->aW H H6->H6 g=some (.dK kg)->H6 c=some (.dK kc)->H6 l=some (.lst ((nmK i).map V.str))->Bld H6 kg kc (i+1) gv rc->
   (∃t u,σ6=[some (.ref a),some (.int start),some (.int many),some (.ref g),some (.ref c),some (.ref l),t,u])/\aW H (upd H6 l (.lst ((nmK i).map V.str++[.str (ak i)])))/\∃gv rc kg kc,(upd H6 l (.lst ((nmK i).map V.str++[.str (ak i)]))) g=some (.dK kg)/\(upd H6 l (.lst ((nmK i).map V.str++[.str (ak i)]))) c=some (.dK kc)/\(upd H6 l (.lst ((nmK i).map V.str++[.str (ak i)]))) l=some (.lst ((nmK (i+1)).map V.str))/\Bld (upd H6 l (.lst ((nmK i).map V.str++[.str (ak i)]))) kg kc (i+1) gv rc:=by
   intro H6 σ6 gv rc kg kc hσ S6 e1 e2 e3 b
   refine⟨hσ,fX _ hl0 S6,gv,rc,kg,kc,(au ngl).trans e1,(au ncl).trans e2, ?_,b.tups fun y xs z=>(au (fun w=>by rw[w,e3] at z;cases z)).trans z⟩
   rw[ao,G4,List.map_append];rfl
  walk_at "vs"
  refine zM (fun c1=> ?_) (fun c1=> ?_)
  ·walk_at "vs"
   intro n7 H7 n70 n71 b7 pl7
   have B7:=b7
   have S7:=iM S5 fr B7
   have eg7:=B7 _ _ ngp eg5
   have ec7:=B7 _ _ ncp ec5
   have el7:=B7 _ _ nlp el5
   have bd7:=bd5.tups (pl5.tups B7)
   have dp:jD H7 g (.str (ak i)) (.int (n7 - 6)) (upd H7 g (.dK (putK kg (.inr (ak i)) (.int (n7 - 6))))):=jD.k (k:= .inr (ak i)) eg7 (aV (by omega))
   walk_at "vs"
   have t8:mK H7 (upd H7 g (.dK (putK kg (.inr (ak i)) (.int (n7 - 6))))):=fun y xs z=>(au (fun w=>by rw[w,eg7] at z;cases z)).trans z
   have el8:upd H7 g (.dK (putK kg (.inr (ak i)) (.int (n7 - 6)))) l=some (.lst ((nmK i).map V.str)):=(au (Ne.symm ngl)).trans el7
   have ec8:upd H7 g (.dK (putK kg (.inr (ak i)) (.int (n7 - 6)))) c=some (.dK kc):=(au (Ne.symm ngc)).trans ec7
   have S8:=fX (.dK (putK kg (.inr (ak i)) (.int (n7 - 6)))) hg0 S7
   have eg8:upd H7 g (.dK (putK kg (.inr (ak i)) (.int (n7 - 6)))) g=some (.dK (putK kg (.inr (ak i)) (.int (n7 - 6)))):=ao
   have bd8:=(bd7.tups t8).Ww (by omega) (n7 - 6)
   exact done _ _ _ _ _ _ ⟨_,_,rfl⟩ S8 eg8 ec8 el8 bd8
  ·have c1':0<i:=by
    rcases Nat.eq_zero_or_pos i with z | z
    ·subst z;exact absurd rfl c1
    ·exact z
   walk_at "vs"
   intro n6 H6 n60 n61 b6 pl6
   walk_at "vs"
   refine zM (fun c2=> ?_) (fun c2=> ?_)
   ·walk_at "vs"
    intro n7 H7 n70 n71 b7 pl7
    have B7:=b6.trans b7
    have S7:=iM S5 fr B7
    have eg7:=B7 _ _ ngp eg5
    have ec7:=B7 _ _ ncp ec5
    have el7:=B7 _ _ nlp el5
    have bd7:=bd5.tups (pl5.tups B7)
    have dp:jD H7 g (.str (ak i)) (.int (n7 - 6)) (upd H7 g (.dK (putK kg (.inr (ak i)) (.int (n7 - 6))))):=jD.k (k:= .inr (ak i)) eg7 (aV (by omega))
    walk_at "vs"
    have t8:mK H7 (upd H7 g (.dK (putK kg (.inr (ak i)) (.int (n7 - 6))))):=fun y xs z=>(au (fun w=>by rw[w,eg7] at z;cases z)).trans z
    have el8:upd H7 g (.dK (putK kg (.inr (ak i)) (.int (n7 - 6)))) l=some (.lst ((nmK i).map V.str)):=(au (Ne.symm ngl)).trans el7
    have ec8:upd H7 g (.dK (putK kg (.inr (ak i)) (.int (n7 - 6)))) c=some (.dK kc):=(au (Ne.symm ngc)).trans ec7
    have S8:=fX (.dK (putK kg (.inr (ak i)) (.int (n7 - 6)))) hg0 S7
    have eg8:upd H7 g (.dK (putK kg (.inr (ak i)) (.int (n7 - 6)))) g=some (.dK (putK kg (.inr (ak i)) (.int (n7 - 6)))):=ao
    have bd8:=(bd7.tups t8).Ww (by omega) (n7 - 6)
    exact done _ _ _ _ _ _ ⟨_,_,rfl⟩ S8 eg8 ec8 el8 bd8
   ·have el6:=b6 _ _ nlp el5
    obtain⟨ns,ecut,hn1,hn9,hns⟩:=ahy c1'
    have hgn:∀x∈ns,jT x:=fun x hx=>BL (by omega) x (hns x hx)
    walk_at "vs"
    intro pc hpc
    rw[ecut]
    have s7:=aC (.lst (ns.map V.str)) hpc
    have e7:upd H6 pc (.lst (ns.map V.str)) pc=some (.lst (ns.map V.str)):=ao
    have pl7:=pl6.same s7
    have B7:But [p] H5 (upd H6 pc (.lst (ns.map V.str))):=b6.trans (But.of_same s7)
    have npc:pc∉[p]:=fun z=>pl6.ne hpc (by simpa using z)
    generalize upd H6 pc (.lst (ns.map V.str))=H7 at *
    walk_at "vs"
    intro pz hpz
    have npz:pz∉[p]:=fun z=>pl7.ne hpz (by simpa using z)
    have s8:=aC (.lst [V.int 1,V.int 2,V.int 3]) hpz
    have e8:upd H7 pz (.lst [V.int 1,V.int 2,V.int 3]) pz=some (.lst [V.int 1,V.int 2,V.int 3]):=ao
    have e78:=s8 _ _ e7
    have pl8:=pl7.same s8
    have B8:=B7.trans (But.of_same (S:=[p]) s8)
    generalize upd H7 pz (.lst [V.int 1,V.int 2,V.int 3])=H8 at *
    walk_at "vs"
    intro n9 H9 n90 n91 b9 pl9
    have e9:=b9 _ _ npz e8
    have e79:=b9 _ _ npc e78
    obtain⟨dd,hdd,hd0,hd1⟩:∃dd:Int,atI [V.int 1,V.int 2,V.int 3] n9=some (.int dd)/\0<=dd/\dd<4:=by
     have:n9=0\/n9=1\/n9=2:=by omega
     rcases this with rfl | rfl | rfl
     ·exact⟨1,rfl,by omega,by omega⟩
     ·exact⟨2,rfl,by omega,by omega⟩
     ·exact⟨3,rfl,by omega,by omega⟩
    walk_at "vs"
    intro br r H10 b10 akr R10 ah0
    have B10:=B8.trans (b9.trans b10)
    have S10:=iM S5 fr B10
    have ah1:=B10 _ _ ngp eg5
    have ad6:=B10 _ _ ncp ec5
    have ah2:=B10 _ _ nlp el5
    have ah3:=bd5.tups (pl5.tups B10)
    have dp:jD H10 c (.str (ak i)) (.ref br) (upd H10 c (.dK (putK kc (.inr (ak i)) (.ref br)))):=jD.k (k:= .inr (ak i)) ad6 (aV (by omega))
    walk_at "vs"
    have t11:mK H10 (upd H10 c (.dK (putK kc (.inr (ak i)) (.ref br)))):=fun y xs z=>(au (fun w=>by rw[w,ad6] at z;cases z)).trans z
    have ah4:upd H10 c (.dK (putK kc (.inr (ak i)) (.ref br))) l=some (.lst ((nmK i).map V.str)):=(au (Ne.symm ncl)).trans ah2
    have W7:upd H10 c (.dK (putK kc (.inr (ak i)) (.ref br))) g=some (.dK kg):=(au ngc).trans ah1
    have S11:=fX (.dK (putK kc (.inr (ak i)) (.ref br))) hc0 S10
    have ah5:upd H10 c (.dK (putK kc (.inr (ak i)) (.ref br))) c=some (.dK (putK kc (.inr (ak i)) (.ref br))):=ao
    have ah6:=(ah3.tups t11).aa5 (by omega) c1' (ah0.mono hns) (R10.tups t11)
    exact done _ _ _ _ _ _ ⟨_,_,rfl⟩ S11 W7 ah5 ah4 ah6
 ·intro σ H4 hP
  obtain⟨⟨t,u,rfl⟩,S4,gv,rc,kg,kc,eg4,ec4,el4,bd⟩:=hP
  have em:(many:Int).toNat=many:=by omega
  rw[em] at bd
  walk_at "vs"
  intro h hh
  have s5:=aC (.tup [.ref g, .ref c]) hh
  exact q h g c gv rc _ (S4.trans s5) (same_none S4 hh) hg0 hc0 ⟨kg,kc,ao,s5 _ _ eg4,s5 _ _ ec4,bd.tups (aW.tups s5)⟩
end
section
variable {P:Program}{w:World}{K:PySem.W.Frag}{mg:Str->Option Value}{base:Heap}
abbrev bA:Stmt:=top 30
theorem lU:bR ["house","name","state","worths","records","reads","worth"] ["house","name","state"] (aa bA):=⟨rfl,rfl,rfl,by decide +kernel,rfl,by decide +kernel,by decide +kernel⟩
theorem pH:aF (aa bA) "state":=by decide +kernel
theorem vN:Loc (aa bA) "records":=by decide +kernel
theorem wz:Loc (aa bA) "worths":=by decide +kernel
theorem cI:aF (aa bA) "name":=by decide +kernel
theorem gM:aF (aa bA) "house":=by decide +kernel
theorem gn:aF (aa bA) "worths":=by decide +kernel
theorem xN:Loc (aa bA) "reads":=by decide +kernel
theorem xO:Loc (aa bA) "worth":=by decide +kernel
theorem rY:(aa bA).names.lookup ("_law_value":Str)=some NameKind.globalImplicit:=by decide +kernel
theorem pI:aF (aa bA) "reads":=by decide +kernel
theorem rZ:(("_law_value":Str)==("__debug__":Str))=false:=by decide +kernel
theorem vO:aF (aa bA) "records":=by decide +kernel
theorem pJ:aF (aa bA) "worth":=by decide +kernel
abbrev d7:Stmt:=top 29
theorem Fd:bR ["house","name","state","reads","worth"] ["house","name","state","reads"] (aa d7):=⟨rfl,rfl,rfl,by decide +kernel,rfl,by decide +kernel,by decide +kernel⟩
theorem Cr:Loc (aa d7) "worth":=by decide +kernel
theorem tZ:(aa d7).names.lookup ("_law_settled":Str)=some NameKind.globalImplicit:=by decide +kernel
theorem Cu:aF (aa d7) "state":=by decide +kernel
theorem oR:aF (aa d7) "name":=by decide +kernel
theorem Cv:aF (aa d7) "house":=by decide +kernel
theorem t6:(("_law_settled":Str)==("__debug__":Str))=false:=by decide +kernel
theorem nZ:aF (aa d7) "worth":=by decide +kernel
theorem sS:aF (aa d7) "reads":=by decide +kernel
theorem Mw {k0:Nat}{f g:Addr}{fd gd:FuncData} (dO:FnT K mg "_law_look" d7 ["house","name","state","reads"] f fd) (cJ:FnT K mg "_law_settled" bA ["house","name","state"] g gd) (uc:bh P w K mg base CX0 (8 * k0+1) g gd ["house","name","state"] (J1 k0)) (T:Blt mg):
 bh P w K mg base CX0 (8 * k0+2) f fd ["house","name","state","reads"] (T4 k0):=by
 refine dO.F.okQ Fd (fun vs H Q E h=> ?_) (fun cdv A outer s H vs Q E hr h=> ?_)
 ·obtain⟨X,h,g,c,st,wd,rd,rl,n,gv,rc,kn,rm,as,ps,k,rfl,_⟩:=h
  rfl
 obtain⟨X,h,hg,hc,st,wd,rd,rl,n,gv,rc,kn,rm,as,ps,k,rfl,cx,hkf,hkn,el,hRs,hrow,hrX,hrs,q⟩:=h
 refine⟨_,(aq (bK (i:=4) Fd.nd rfl Cr (aL (uc.mono (by omega)) hr tZ cJ.m cJ.F.kp cJ.b .nil bz (aJ (aj 0 Cv) (aJ (aj 1 oR) (aJ (aj 2 Cu) az))) t6))
  (aq (cN (cD (N6 hr.units) (ie (aJ (aj 1 oR) (aJ (aj 4 nZ) az))) (aj 3 sS) rfl) (aD (eN (qP PySem.F.plainAttrs_list PySem.F.slot_list_append PySem.F.type_list_append ig (aj 3 sS) (JR (ie (aJ (aj 1 oR) (aJ (aj 4 nZ) az))) az)))) bH)
  (aD (aZ (aj 4 nZ))))), ?_⟩
 have n17:=cx.n17
 have hlw:rl∉[wd,rd]:=fun z=>by
  obtain⟨kw,ws,e1,_⟩:=cx.sa.ew
  obtain⟨kr,rs,e2,_⟩:=cx.sa.er
  have z:rl=wd\/rl=rd:=by simpa using z
  rcases z with z | z
  ·rw[z,e1] at el;cases el
  ·rw[z,e2] at el;cases el
 walk_at "vs"
 intro kn1 rm1 v H1 b1 cx1 nw1 hv
 have t1:mK H H1:=cx.sa.tups (S:=[wd,rd]) (fun y hy=>by
  have z:y=wd\/y=rd:=by simpa using hy
  exact z.elim .inl fun z=> .inr (.inl z)) b1
 have el1:=b1 _ _ hlw el
 have Om:=hRs.tups t1
 have Cw:=hrow.le nw1.1
 have lk:=Cw.look hv
 have hgn:∀p∈ps,jT p.1:=fun p hp=>BL (by omega) _ (cx1.sa.ok.a _ _ (Cw.s p hp)).1
 walk_at "vs"
 intro pt hpt
 have s2:=aC (.tup [.str (ak k), .int v]) hpt
 have ept:upd H1 pt (.tup [.str (ak k), .int v]) pt=some (.tup (rdV (ak k,v))):=ao
 have el2:=s2 _ _ el1
 have Fw:=Om.same s2
 have b2:But [wd,rd,rl] H (upd H1 pt (.tup [.str (ak k), .int v])):=(b1.mono (by simp)).trans (But.of_same s2)
 have cx2:Ctx X (upd H1 pt (.tup [.str (ak k), .int v])) h hg hc st wd rd n gv rc kn1 rm1:=cx1.same s2
 generalize upd H1 pt (.tup [.str (ak k), .int v])=H2 at *
 refine⟨_,rfl,pt,rl,as,ps,(ak k,v),rfl,rfl,ept,SqL.of el2,Fw,hgn,G3 (k:=k) (by omega), ?_⟩
 by_cases hm:(ak k,v)∈ps
 ·rw[if_pos hm] at lk
  rw[decide_eq_true hm]
  walk_at "vs"
  exact q kn1 rm1 v [] as H2 b2 cx2 nw1 el2 (by rw[List.append_nil];exact Fw) (by rw[List.append_nil];exact Cw) lk
 ·rw[if_neg hm] at lk
  rw[decide_eq_false hm]
  have hz:(as.map V.ref).length<sizeLine:=by
   rw[List.length_map,hRs.length]
   have:=Rows.len cx1.sa Cw
   exact aV (by omega)
  walk_at "vs"
  intro pu hpu
  have s3:=aC (.tup [.str (ak k), .int v]) hpu
  have epu:upd H2 pu (.tup [.str (ak k), .int v]) pu=some (.tup (rdV (ak k,v))):=ao
  have el3:=s3 _ _ el2
  have Iz:=iJ.snoc epu (Fw.same s3)
  have b3:=b2.trans (But.of_same (S:=[wd,rd,rl]) s3)
  have cx3:=cx2.same s3
  generalize upd H2 pu (.tup [.str (ak k), .int v])=H3 at *
  walk_at "vs"
  have t4:mK H3 (upd H3 rl (.lst (as.map V.ref++[V.ref pu]))):=fun y xs z=>(au (fun w=>by rw[w,el3] at z;cases z)).trans z
  exact q kn1 rm1 v [(ak k,v)] (as++[pu]) _ (b3.trans (But.set _ (by simp))) (cx3.row el3 hrX hrs _) nw1 (by rw[ao,List.map_append];rfl) (Iz.tups t4) lk.2 lk.1
abbrev bO:Stmt:=top 28
theorem qG:bR ["house","r","state","reads","word","one","other"] ["house","r","state","reads"] (aa bO):=⟨rfl,rfl,rfl,by decide +kernel,rfl,by decide +kernel,by decide +kernel⟩
theorem Cy:Loc (aa bO) "word":=by decide +kernel
theorem gO:aF (aa bO) "r":=by decide +kernel
theorem fV:aF (aa bO) "word":=by decide +kernel
theorem n8:(aa bO).names.lookup ("_law_look":Str)=some NameKind.globalImplicit:=by decide +kernel
theorem iY:aF (aa bO) "reads":=by decide +kernel
theorem iZ:aF (aa bO) "state":=by decide +kernel
theorem jb:aF (aa bO) "house":=by decide +kernel
theorem oh:(("_law_look":Str)==("__debug__":Str))=false:=by decide +kernel
theorem DY:Loc (aa bO) "one":=by decide +kernel
theorem jN:(aa bO).names.lookup ("_law_value":Str)=some NameKind.globalImplicit:=by decide +kernel
theorem jO:(("_law_value":Str)==("__debug__":Str))=false:=by decide +kernel
theorem jP:aF (aa bO) "one":=by decide +kernel
theorem Ea:(aa bO).names.lookup ("len":Str)=some NameKind.globalImplicit:=by decide +kernel
theorem Eb:("len":Str)≠"__name__":=by decide +kernel
theorem Ec:(("len":Str)==("__debug__":Str))=false:=by decide +kernel
theorem uQ:(aa bO).names.lookup ("int":Str)=some NameKind.globalImplicit:=by decide +kernel
theorem uR:("int":Str)≠"__name__":=by decide +kernel
theorem uT:(("int":Str)==("__debug__":Str))=false:=by decide +kernel
theorem Ay:Loc (aa bO) "other":=by decide +kernel
theorem kJ:aF (aa bO) "other":=by decide +kernel
theorem Ed:(aa bO).names.lookup ("max":Str)=some NameKind.globalImplicit:=by decide +kernel
theorem Ef:("max":Str)≠"__name__":=by decide +kernel
theorem Eg:(("max":Str)==("__debug__":Str))=false:=by decide +kernel
theorem HY {k0 d:Nat}{f g:Addr}{fd gd:FuncData} (bQ:FnT K mg "_law_value" bO ["house","r","state","reads"] f fd) (dO:FnT K mg "_law_look" d7 ["house","name","state","reads"] g gd) (rJ:bh P w K mg base CX0 (8 * k0+2) g gd ["house","name","state","reads"] (T4 k0))
 (pK:bh P w K mg base CX0 (8 * k0+2+d) f fd ["house","r","state","reads"] (Qf k0 d)) (T:Blt mg):bh P w K mg base CX0 (8 * k0+2+d+1) f fd ["house","r","state","reads"] (Qf k0 (d+1)):=by
 refine bQ.F.okQ qG (fun vs H Q E h=> ?_) (fun cdv A outer s H vs Q E hr h=> ?_)
 ·obtain⟨X,h,g,c,st,wd,rd,rl,b,n,gv,rc,kn,rm,as,ps,r,m,rfl,_⟩:=h
  rfl
 obtain⟨X,h,hg,hc,st,wd,rd,rl,b,n,gv,rc,kn,rm,as,ps,r,m,rfl,cx,hR,hrk,hmf,hmn,el,hRs,hrow,hrX,hrs,q⟩:=h
 refine⟨_,(aq (bK (i:=4) qG.nd rfl Cy (aK aG (aj 1 gO) aA))
  (aq (cN (cD di (aj 4 fV) bY (aU _)) (aD (aZ (aK aG (aj 1 gO) aA))) bH)
  (aq (cN (cD di (aj 4 fV) bY (aU _)) (aD (aZ (aL (rJ.mono (by omega)) hr n8 dO.m dO.F.kp dO.b .nil bz (aJ (aj 0 jb) (fD (aK aG (aj 1 gO) aA) (aJ (aj 2 iZ) (aJ (aj 3 iY) az)))) oh))) bH)
  (aq (bK (i:=5) qG.nd rfl DY (aL (pK.mono (by omega)) hr jN bQ.m bQ.F.kp bQ.b .nil bz (aJ (aj 0 jb) (fD (aK aG (aj 1 gO) aA) (aJ (aj 2 iZ) (aJ (aj 3 iY) az)))) jO))
  (aq (cN (cD di (aj 4 fV) bY (aU _)) (aD (aZ (aL (rJ.mono (by omega)) hr n8 dO.m dO.F.kp dO.b .nil bz (aJ (aj 0 jb) (fD (aK aG (aK aG (aj 1 gO) aA) (cT m5 (aj 5 jP) (cX ju Ea T.vU pO (fD (aK aG (aj 1 gO) aA) az) Eb Ec))) (aJ (aj 2 iZ) (aJ (aj 3 iY) az)))) oh))) bH)
  (aq (cN (cD di (aj 4 fV) bY (aU _)) (aD (aZ (aL (pK.mono (by omega)) hr jN bQ.m bQ.F.kp bQ.b .nil bz (aJ (aj 0 jb) (fD (aK aG (aj 1 gO) (aK cL (gB (jw aA (jw aA az))) (fj FN uQ T.Ld Gm (Wj (pP Nu (aj 5 jP) aA (aU _)) az) uR uT))) (aJ (aj 2 iZ) (aJ (aj 3 iY) az)))) jO))) bH)
  (aq (bK (i:=6) qG.nd rfl Ay (aL (pK.mono (by omega)) hr jN bQ.m bQ.F.kp bQ.b .nil bz (aJ (aj 0 jb) (fD (aK aG (aj 1 gO) aA) (aJ (aj 2 iZ) (aJ (aj 3 iY) az)))) jO))
  (aq (cN (cD di (aj 4 fV) bY (aU _)) (aD (aZ (cT qm (aj 5 jP) (aj 6 kJ)))) bH)
  (aq (cN (cD di (aj 4 fV) bY (aU _)) (aD (aZ (cX (JS rfl) Ed T.Ti Np (aJ (aj 5 jP) (aJ (aj 6 kJ) az)) Ef Eg))) bH)
  (aD (aZ (cT lX (aj 5 jP) (aK cL (gB (aJ (aj 6 kJ) (zQ (cT mZ aA (aj 6 kJ)) az))) (fj FN uQ T.Ld Gm (Wj (pP di (aj 4 fV) bY (aU _)) az) uR uT)))))))))))))), ?_⟩
 have n17:=cx.n17
 have tp:∀{H0 H':Hp}{kn0 rm0}{as0:List Addr},Ctx X H0 h hg hc st wd rd n gv rc kn0 rm0->H0 rl=some (.lst (as0.map V.ref))->But [wd,rd,rl] H0 H'->mK H0 H':=fun cx0 e0 b0=>cx0.sa.tups (S:=[wd,rd,rl]) (fun y hy=>by
  have z:y=wd\/y=rd\/y=rl:=by simpa using hy
  rcases z with z | z | z
  ·exact .inl z
  ·exact .inr (.inl z)
  ·exact .inr (.inr ⟨_,by rw[z];exact e0⟩)) b0
 have new2:∀{a b c:Kn}{i j:Nat},New a b i->New b c j->i<=m->j<=m->New a c m:=fun n1 n2 h1 h2=>⟨n1.1.trans n2.1,fun y hy=>by
  rcases n2.2 y hy with z | z
  ·rcases n1.2 y z with z | z
   ·exact .inl z
   ·obtain⟨k,hk,e⟩:=bT.mp z
    exact .inr (bT.mpr ⟨k,by omega,e⟩)
  ·obtain⟨k,hk,e⟩:=bT.mp z
   exact .inr (bT.mpr ⟨k,by omega,e⟩)⟩
 have newm:∀{a b:Kn}{i:Nat},New a b i->i<=m->New a b m:=fun n1 h1=>⟨n1.1,fun y hy=>by
  rcases n1.2 y hy with z | z
  ·exact .inl z
  ·obtain⟨k,hk,e⟩:=bT.mp z
   exact .inr (bT.mpr ⟨k,by omega,e⟩)⟩
 obtain⟨rg,rt,ri,rdp⟩:=hrk
 cases hR with
 | @num _ nn e=>
   walk_at "vs"
   exact q kn rm nn [] as H (But.refl _ _) cx ⟨Kn.Le.refl _,fun y hy=> .inl hy⟩ el (by rw[List.append_nil];exact hRs) (by rw[List.append_nil];exact hrow) Qd
 | @rd _ x e=>
   obtain⟨k,hk,rfl⟩:=bT.mp ri
   walk_at "vs"
   intro kn1 rm1 v us as1 H1 b1 cx1 nw1 el1 Om Cw got
   exact q kn1 rm1 v us as1 H1 b1 cx1 (newm nw1 (by omega)) el1 Om Cw got
 | @bin _ x y op r1 r2 e h1 h2=>
   have hd':max r1.depth r2.depth+1<=d+1:=rdp
   have k1:Rk3 (nmK m) d r1:=⟨rg.1,rt.1,ri.1,by omega⟩
   have k2:Rk3 (nmK m) d r2:=⟨rg.2,rt.2.1,ri.2,by omega⟩
   have UG:=rt.2.2
   cases op
   all_goals
    walk_at "vs"
    intro kn1 rm1 u us as1 H1 b1 cx1 nw1 el1 Om Cw Ke
    have t1:=tp cx el b1
    have e1:=t1 _ _ e
    have h21:=h2.tups t1
    walk_at "vs"
    intro kn2 rm2 v vs as2 H2 b2 cx2 nw2 el2 Fw Ia xP
    rw[Kn.fK] at xP
    rw[List.append_assoc] at Fw Ia
    have b12:=b1.trans b2
   ·walk_at "vs"
    intro pz hpz
    have s3:=aC (.lst [V.int v,V.int (0 - v)]) hpz
    have hat:atI [V.int v,V.int (0 - v)] 0=some (.int v):=rfl
    walk_at "vs"
    exact q kn2 rm2 (u+v) (us++vs) as2 _ (b12.trans (But.of_same s3)) (cx2.same s3) (new2 nw1 nw2 (Nat.le_refl _) (Nat.le_refl _)) (s3 _ _ el2) (Fw.same s3) Ia (BP (op:= .plus) Ke xP)
   ·walk_at "vs"
    intro pz hpz
    have s3:=aC (.lst [V.int v,V.int (0 - v)]) hpz
    have hat:atI [V.int v,V.int (0 - v)] 1=some (.int (0 - v)):=rfl
    walk_at "vs"
    have:=q kn2 rm2 (u - v) (us++vs) as2 _ (b12.trans (But.of_same s3)) (cx2.same s3) (new2 nw1 nw2 (Nat.le_refl _) (Nat.le_refl _)) (s3 _ _ el2) (Fw.same s3) Ia (BP (op:= .minus) Ke xP)
    rw[show u - v=u+(0 - v) by omega] at this
    exact this
   ·obtain⟨n0,rfl,hn0,hn1⟩:=UG rfl
    have hv:v=n0:=by have:=xP.e;cases this;rfl
    have cm:Dp u v:= .inr ⟨by omega,by omega⟩
    walk_at "vs"
    exact q kn2 rm2 (u * v) (us++vs) as2 _ b12 cx2 (new2 nw1 nw2 (Nat.le_refl _) (Nat.le_refl _)) el2 Fw Ia (BP (op:= .times) Ke xP)
   ·walk_at "vs"
    exact q kn2 rm2 (if v>u then v else u) (us++vs) as2 _ b12 cx2 (new2 nw1 nw2 (Nat.le_refl _) (Nat.le_refl _)) el2 Fw Ia (BP (op:= .most) Ke xP)
 | @pick _ x y z r1 r2 r3 e h1 h2 h3=>
   have hd':max r1.depth (max r2.depth r3.depth)+1<=d+1:=rdp
   have k1:Rk3 (nmK m) d r1:=⟨rg.1,rt.1,ri.1,by omega⟩
   have k2:Rk3 (nmK m) d r2:=⟨rg.2.1,rt.2.1,ri.2.1,by omega⟩
   have k3:Rk3 (nmK m) d r3:=⟨rg.2.2,rt.2.2,ri.2.2,by omega⟩
   walk_at "vs"
   intro kn1 rm1 u us as1 H1 b1 cx1 nw1 el1 Om Cw Ke
   have t1:=tp cx el b1
   have e1:=t1 _ _ e
   walk_at "vs"
   intro pl hpl
   have s2:=aC (.lst [V.int 3,V.int 2]) hpl
   have e2:upd H1 pl (.lst [V.int 3,V.int 2]) pl=some (.lst [V.int 3,V.int 2]):=ao
   have b2:=b1.trans (But.of_same (S:=[wd,rd,rl]) s2)
   have cx2:=cx1.same s2
   have el2:=s2 _ _ el1
   have Fw:=Om.same s2
   have e12:=s2 _ _ e1
   have h22:=(h2.tups t1).same s2
   have h32:=(h3.tups t1).same s2
   generalize upd H1 pl (.lst [V.int 3,V.int 2])=H2 at *
   by_cases hu:u>0
   ·have hat:atI [V.int 3,V.int 2] (if decide (u>0)=true then 1 else 0)=some (.int 2):=by rw[if_pos (decide_eq_true hu)];rfl
    walk_at "vs"
    intro kn2 rm2 v vs as2 H3 b3 cx3 nw2 el3 Iz Fe xP
    rw[Kn.fK] at xP
    rw[List.append_assoc] at Iz Fe
    exact q kn2 rm2 v (us++vs) as2 H3 (b2.trans b3) cx3 (new2 nw1 nw2 (Nat.le_refl _) (Nat.le_refl _)) el3 Iz Fe (G5 Ke (by rw[if_pos hu];exact xP))
   ·have hat:atI [V.int 3,V.int 2] (if decide (u>0)=true then 1 else 0)=some (.int 3):=by rw[if_neg (by rw[decide_eq_false hu];decide)];rfl
    walk_at "vs"
    intro kn2 rm2 v vs as2 H3 b3 cx3 nw2 el3 Iz Fe xP
    rw[Kn.fK] at xP
    rw[List.append_assoc] at Iz Fe
    exact q kn2 rm2 v (us++vs) as2 H3 (b2.trans b3) cx3 (new2 nw1 nw2 (Nat.le_refl _) (Nat.le_refl _)) el3 Iz Fe (G5 Ke (by rw[if_neg hu];exact xP))
 | @cho _ x y r1 ns e h1 h2=>
   have hd':r1.depth+1<=d+1:=rdp
   have k1:Rk3 (nmK m) d r1:=⟨rg.1,rt.1,ri.1,by omega⟩
   walk_at "vs"
   intro kn1 rm1 u us as1 H1 b1 cx1 nw1 el1 Om Cw Ke
   have t1:=tp cx el b1
   have e1:=t1 _ _ e
   have h21:=t1 _ _ h2
   obtain⟨nm,hnm⟩:=Dz rt.2 u
   have hmem:nm∈ns:=List.mem_of_getElem? hnm
   obtain⟨k,hk,rfl⟩:=bT.mp (ri.2 nm hmem)
   have hlm:(ns.map V.str).length=ns.length:=List.length_map _
   have hn1:=rt.2
   have hl0:0<((ns.map V.str).length:Int):=by rw[hlm];omega
   have hat:atI (ns.map V.str) (u % ((ns.map V.str).length:Int))=some (.str (ak k)):=by
    rw[hlm]
    have hnm':=hnm
    unfold qT at hnm'
    obtain⟨j,ej⟩:=Int.eq_ofNat_of_zero_le (Int.emod_nonneg u (show(ns.length:Int)≠0 by omega))
    rw[ej] at hnm' ⊢
    exact jZ (by rw[List.getElem?_map];rw[Int.toNat_natCast] at hnm';rw[hnm'];rfl)
   walk_at "vs"
   intro kn2 rm2 v vs as2 H3 b3 cx3 nw2 el3 Iz Fe xP
   rw[Kn.fK] at xP
   rw[List.append_assoc] at Iz Fe
   exact q kn2 rm2 v (us++vs) as2 H3 (b1.trans b3) cx3 (new2 nw1 nw2 (Nat.le_refl _) (by omega)) el3 Iz Fe (Qe Ke hnm xP)
theorem Cz {k0:Nat}{f g:Addr}{fd gd:FuncData} (bQ:FnT K mg "_law_value" bO ["house","r","state","reads"] f fd) (dO:FnT K mg "_law_look" d7 ["house","name","state","reads"] g gd) (rJ:bh P w K mg base CX0 (8 * k0+2) g gd ["house","name","state","reads"] (T4 k0)) (T:Blt mg):∀d,bh P w K mg base CX0 (8 * k0+2+d) f fd ["house","r","state","reads"] (Qf k0 d)
 | 0=>never fun vs H Q E h=>by
   obtain⟨X,h,g,c,st,wd,rd,rl,b,n,gv,rc,kn,rm,as,ps,r,m,_,_,_,hrk,_⟩:=h
   have:=r.um
   have:=hrk.d
   omega
 | d+1=>HY bQ dO rJ (Cz bQ dO rJ T d) T
end
section
variable {P:Program}{w:World}{K:PySem.W.Frag}{mg:Str->Option Value}{base:Heap}
theorem Eh {k0:Nat}{f g:Addr}{fd gd:FuncData} (cJ:FnT K mg "_law_settled" bA ["house","name","state"] f fd) (bQ:FnT K mg "_law_value" bO ["house","r","state","reads"] g gd) (pK:bh P w K mg base CX0 (8 * k0+6) g gd ["house","r","state","reads"] (Qf k0 4)) (T:Blt mg):
 bh P w K mg base CX0 (8 * k0+8+1) f fd ["house","name","state"] (J1 (k0+1)):=by
 refine cJ.F.okQ lU (fun vs H Q E h=> ?_) (fun cdv A outer s H vs Q E hr h=> ?_)
 ·obtain⟨X,h,g,c,st,wd,rd,n,gv,rc,kn,rm,k,rfl,_⟩:=h
  rfl
 obtain⟨X,h,hg,hc,st,wd,rd,n,gv,rc,kn,rm,k,rfl,cx,hkf,hkn,q⟩:=h
 refine⟨_,(aq (Te (aj 2 pH) (Tp rfl (oZ (nC (i:=3) lU.nd rfl wz) (oZ (nC (i:=4) lU.nd rfl vN) FJ))))
  (aq (cN (Il (Gq (qK (cg hr) (aj 1 cI) (aj 3 gn)) (Bx (tE (cg hr) (aj 1 cI) (aK aG (aj 0 gM) aA))))) (aD (jc (cg hr) (aj 3 gn) (aj 1 cI) (cU (cg hr) (aK aG (aj 0 gM) aA) (aj 1 cI)))) bH)
  (aq (cN (qK (cg hr) (aj 1 cI) (aj 3 gn)) (aq (bK (i:=5) lU.nd rfl xN (gB az))
  (aq (bK (i:=6) lU.nd rfl xO (aL (pK.mono (by omega)) hr rY bQ.m bQ.F.kp bQ.b .nil bz (aJ (aj 0 gM) (fD (cU (cg hr) (aK aG (aj 0 gM) aA) (aj 1 cI)) (aJ (aj 2 pH) (aJ (aj 5 pI) az)))) rZ))
  (aq (jc (cg hr) (aj 4 vO) (aj 1 cI) (ie (fD (cU (cg hr) (aK aG (aj 0 gM) aA) (aj 1 cI)) (aJ (aj 5 pI) (aJ (aj 6 pJ) az)))))
  (aD (jc (cg hr) (aj 3 gn) (aj 1 cI) (aj 6 pJ)))))) bH)
  (aD (aZ (cU (cg hr) (aj 3 gn) (aj 1 cI))))))), ?_⟩
 have n17:=cx.n17
 obtain⟨kg,kc,eh,eg,ec,bd⟩:=cx.ho
 obtain⟨kw,ws,ew,k4,v4⟩:=cx.sa.ew
 have hkl:=cx.sa.kl ew
 have est:=cx.sa.e
 have dw:bM H wd (.str (ak k)) ((kn (ak k)).map V.int):=by rw[<-v4];exact bM.k (k:= .inr (ak k)) ew
 have dg:bM H hg (.str (ak k)) ((gv (ak k)).map V.int):=by rw[<-bd.g];exact bM.k (k:= .inr (ak k)) eg
 have hx:ak k∈nmK n:=bT.mpr ⟨k,hkn,rfl⟩
 cases ek:kn (ak k) with
 | some v=>
   rw[ek] at dw
   have dw:bM H wd (.str (ak k)) (some (.int v)):=dw
   walk_at "vs"
   exact q kn rm v H (But.refl _ _) cx ⟨Kn.Le.refl _,fun y hy=> .inl hy⟩ ek
 | none=>
   rw[ek] at dw
   have dw:bM H wd (.str (ak k)) none:=dw
   cases egv:gv (ak k) with
   | some v=>
     rw[egv] at dg
     have dg:bM H hg (.str (ak k)) (some (.int v)):=dg
     have dp:jD H wd (.str (ak k)) (.int v) (upd H wd (.dK (putK kw (.inr (ak k)) (.int v)))):=jD.k (k:= .inr (ak k)) ew (aV (by omega))
     have dw1:bM (upd H wd (.dK (putK kw (.inr (ak k)) (.int v)))) wd (.str (ak k)) (some (.int v)):=by
      have:=bM.k (H:=upd H wd (.dK (putK kw (.inr (ak k)) (.int v)))) (a:=wd) (k:= .inr (ak k)) ao
      rw[jo,if_pos rfl] at this
      exact this
     walk_at "vs"
     exact q (kn.put (ak k) v) rm v _ (But.set _ (by simp)) (cx.Wz ew hx ek egv) ⟨Kn.lG ek,fun y hy=>by
      unfold Kn.put at hy
      by_cases z:y=ak k
      ·exact .inr (bT.mpr ⟨k,by omega,z⟩)
      ·rw[if_neg z] at hy;exact .inl hy⟩ (by unfold Kn.put;rw[if_pos rfl])
   | none=>
     rw[egv] at dg
     have dg:bM H hg (.str (ak k)) none:=dg
     have hrc:∃r,rc (ak k)=some r:=by
      cases z:rc (ak k) with
      | some r=>exact⟨r,rfl⟩
      | none=>
        rcases bd.ok.dom k hkn with w | w
        ·exact absurd egv w
        ·exact absurd z w
     obtain⟨r,hr'⟩:=hrc
     obtain⟨br,hbr,hRr⟩:=bd.r _ _ hr'
     obtain⟨k',hk',ek',ok'⟩:=bd.ok.rk _ _ hr'
     have:k=k':=jn (by omega) (by omega) ek'
     subst this
     have dc:bM H hc (.str (ak k)) (some (.ref br)):=by rw[<-hbr];exact bM.k (k:= .inr (ak k)) ec
     walk_at "vs"
     intro rl hrl
     have cx1:=cx.more hrl []
     have s1:=aC (.lst []) hrl
     have el1:upd H rl (.lst []) rl=some (.lst (([]:List Addr).map V.ref)):=ao
     have eh1:=s1 _ _ eh
     have ec1:=s1 _ _ ec
     have R1:=hRr.same s1
     have dc1:bM (upd H rl (.lst [])) hc (.str (ak k)) (some (.ref br)):=by rw[<-hbr];exact bM.k (k:= .inr (ak k)) ec1
     have hrst:rl≠st:=fun z=>by rw[z,est] at hrl;cases hrl
     have hrX:rl∉X:=fun z=>cx.xs rl z hrl
     have hrw:rl≠wd:=fun z=>by rw[z,ew] at hrl;cases hrl
     have hrr:rl≠rd:=fun z=>by
      obtain⟨kr,rs,er,_⟩:=cx.sa.er
      rw[z,er] at hrl;cases hrl
     have hr0:=hrl
     generalize upd H rl (.lst [])=H1 at *
     have aks:iJ H1 [] []:= .nil
     have akt:Rows kn []:=⟨by simp,by simp⟩
     have hin:rl∈rl::X:=by simp
     walk_at "vs"
     intro kn1 rm1 v us as2 H2 b2 cx2 nw2 el2 Fw Ia xP
     have t2:mK H1 H2:=cx1.sa.tups (S:=[wd,rd,rl]) (fun y hy=>by
      have z:y=wd\/y=rd\/y=rl:=by simpa using hy
      rcases z with z | z | z
      ·exact .inl z
      ·exact .inr (.inl z)
      ·exact .inr (.inr ⟨_,by rw[z];exact el1⟩)) b2
     have ek1:kn1 (ak k)=none:=by
      cases z:kn1 (ak k) with
      | none=>rfl
      | some u=>
        rcases nw2.2 (ak k) (by rw[z];simp) with w | w
        ·exact absurd ek w
        ·obtain⟨j,hj,ej⟩:=bT.mp w
         have:=jn (by omega) (by omega) ej
         omega
     obtain⟨kg2,kc2,eh2,eg2,ec2,bd2⟩:=cx2.ho
     obtain⟨kw2,ws2,ew2,k42,v42⟩:=cx2.sa.ew
     obtain⟨kr2,rs2,er2,k52,v52,w52⟩:=cx2.sa.er
     have ad7:=cx2.sa.kl ew2
     have aku:=cx2.sa.rl er2
     have ah7:H2 hc=some (.dK kc):=b2 _ _ (by
      simp only[List.mem_cons,List.not_mem_nil,or_false,not_or]
      exact⟨cx.cw,cx.cr,fun z=>by rw[z,el1] at ec1;cases ec1⟩) ec1
     have dc2:bM H2 hc (.str (ak k)) (some (.ref br)):=by rw[<-hbr];exact bM.k (k:= .inr (ak k)) ah7
     walk_at "vs"
     intro pb hpb
     have s3:=aC (.tup [.ref br, .ref rl, .int v]) hpb
     have epb:upd H2 pb (.tup [.ref br, .ref rl, .int v]) pb=some (.tup [.ref br, .ref rl, .int v]):=ao
     have cx3:=(cx2.same s3).less
     have ew3:=s3 _ _ ew2
     have er3:=s3 _ _ er2
     have ra3:vg X (upd H2 pb (.tup [.ref br, .ref rl, .int v])) pb (r,us,v):=⟨br,rl,as2,epb,(R1.tups t2).same s3,s3 _ _ el2,Fw.same s3,hrX⟩
     have b3:But [wd,rd,rl] H1 (upd H2 pb (.tup [.ref br, .ref rl, .int v])):=b2.trans (But.of_same s3)
     generalize upd H2 pb (.tup [.ref br, .ref rl, .int v])=H3 at *
     have dp1:jD H3 rd (.str (ak k)) (.ref pb) (upd H3 rd (.dK (putK kr2 (.inr (ak k)) (.ref pb)))):=jD.k (k:= .inr (ak k)) er3 (aV (by omega))
     have ew4:upd H3 rd (.dK (putK kr2 (.inr (ak k)) (.ref pb))) wd=some (.dK kw2):=(au cx3.sa.ne).trans ew3
     have dp2:jD (upd H3 rd (.dK (putK kr2 (.inr (ak k)) (.ref pb)))) wd (.str (ak k)) (.int v) (upd (upd H3 rd (.dK (putK kr2 (.inr (ak k)) (.ref pb)))) wd (.dK (putK kw2 (.inr (ak k)) (.int v)))):=jD.k (k:= .inr (ak k)) ew4 (aV (by omega))
     have dw5:bM (upd (upd H3 rd (.dK (putK kr2 (.inr (ak k)) (.ref pb)))) wd (.dK (putK kw2 (.inr (ak k)) (.int v)))) wd (.str (ak k)) (some (.int v)):=by
      have:=bM.k (H:=upd (upd H3 rd (.dK (putK kr2 (.inr (ak k)) (.ref pb)))) wd (.dK (putK kw2 (.inr (ak k)) (.int v)))) (a:=wd) (k:= .inr (ak k)) ao
      rw[jo,if_pos rfl] at this
      exact this
     walk_at "vs"
     have cx5:=cx3.tD ew3 er3 hx ek1 egv hr' xP Ia ra3
     refine q (kn1.put (ak k) v) (rm1.put (ak k) (r,us,v)) v _ ?_ cx5 ⟨nw2.1.trans (Kn.lG ek1),fun y hy=> ?_⟩ (by unfold Kn.put;rw[if_pos rfl])
     ·intro y o hy e
      have hyw:y≠wd:=fun z=>hy (by simp[z])
      have hyr:y≠rd:=fun z=>hy (by simp[z])
      have hyl:y≠rl:=fun z=>by rw[z,hr0] at e;cases e
      refine(au hyw).trans ((au hyr).trans (b3 _ _ (by simp only[List.mem_cons,List.not_mem_nil,or_false,not_or];exact⟨hyw,hyr,hyl⟩) (s1 _ _ e)))
     ·unfold Kn.put at hy
      by_cases z:y=ak k
      ·exact .inr (bT.mpr ⟨k,by omega,z⟩)
      ·rw[if_neg z] at hy
       rcases nw2.2 y hy with w | w
       ·exact .inl w
       ·obtain⟨j,hj,ej⟩:=bT.mp w
        exact .inr (bT.mpr ⟨j,by omega,ej⟩)
end
section
variable {P:Program}{w:World}{K:PySem.W.Frag}{mg:Str->Option Value}{base:Heap}
theorem xQ {f g1 g2:Addr}{fd gd1 gd2:FuncData} (cJ:FnT K mg "_law_settled" bA ["house","name","state"] f fd) (bQ:FnT K mg "_law_value" bO ["house","r","state","reads"] g1 gd1) (dO:FnT K mg "_law_look" d7 ["house","name","state","reads"] g2 gd2) (T:Blt mg):
 ∀k0,bh P w K mg base CX0 (8 * k0+1) f fd ["house","name","state"] (J1 k0)
 | 0=>never fun vs H Q E h=>by
   obtain⟨X,h,g,c,st,wd,rd,n,gv,rc,kn,rm,k,_,_,hk,_⟩:=h
   omega
 | k0+1=>Eh cJ bQ (Cz bQ dO (Mw dO cJ (xQ cJ bQ dO T k0) T) T 4) T
abbrev d8:Stmt:=top 31
theorem vP:bR ["house","wishes","state","name"] ["house","wishes"] (aa d8):=⟨rfl,rfl,rfl,by decide +kernel,rfl,by decide +kernel,by decide +kernel⟩
theorem Az:Loc (aa d8) "state":=by decide +kernel
theorem yV:aF (aa d8) "wishes":=by decide +kernel
theorem CG:Loc (aa d8) "name":=by decide +kernel
theorem su:(aa d8).names.lookup ("_law_settled":Str)=some NameKind.globalImplicit:=by decide +kernel
theorem rK:aF (aa d8) "state":=by decide +kernel
theorem CJ:aF (aa d8) "name":=by decide +kernel
theorem Ba:aF (aa d8) "house":=by decide +kernel
theorem sy:(("_law_settled":Str)==("__debug__":Str))=false:=by decide +kernel
theorem Kf {f g1:Addr}{fd gd1:FuncData} (jY:FnT K mg "_law_fresh" d8 ["house","wishes"] f fd) (cJ:FnT K mg "_law_settled" bA ["house","name","state"] g1 gd1) (uc:bh P w K mg base CX0 137 g1 gd1 ["house","name","state"] (J1 17)) (T:Blt mg):
 bh P w K mg base CX0 138 f fd ["house","wishes"] YM:=by
 refine jY.F.okQ vP (fun vs H Q E h=> ?_) (fun cdv A outer s H vs Q E hr h=> ?_)
 ·obtain⟨h,g,c,wl,n,gv,rc,ws,rfl,_⟩:=h
  rfl
 obtain⟨h,hg,hc,wl,n,gv,rc,ws,rfl,ho,n17,ewl,hws,q⟩:=h
 refine⟨_,(aq (bK (i:=2) vP.nd rfl Az (gB (aaV lF (aaV lF az))))
  (aq (Dv PassesOwn.never rfl (vf (aj 1 yV)) (nC (i:=3) vP.nd rfl CG) (aD (eN (aL (uc.mono (by omega)) hr su cJ.m cJ.F.kp cJ.b .nil bz (aJ (aj 0 Ba) (aJ (aj 3 CJ) (aJ (aj 2 rK) az))) sy))))
  (aD (aZ (aj 2 rK))))), ?_⟩
 obtain⟨kg,kc,eh,eg,ec,bd⟩:=id ho
 walk_at "vs"
 intro wd hwd
 have s1:=aC (.dK []) hwd
 have e1:upd H wd (.dK []) wd=some (.dK []):=ao
 generalize upd H wd (.dK [])=H1 at *
 walk_at "vs"
 intro rd hrd
 have s2:=aC (.dK []) hrd
 have e12:=s2 _ _ e1
 have e2:upd H1 rd (.dK []) rd=some (.dK []):=ao
 have ad8:=same_none s1 hrd
 have nwr:wd≠rd:=fun z=>by rw[<-z,e1] at hrd;cases hrd
 have S2:=s1.trans s2
 generalize upd H1 rd (.dK [])=H2 at *
 walk_at "vs"
 intro st hst
 have s3:=aC (.lst [.ref wd, .ref rd]) hst
 have e13:=s3 _ _ e12
 have e23:=s3 _ _ e2
 have e3:upd H2 st (.lst [.ref wd, .ref rd]) st=some (.lst [.ref wd, .ref rd]):=ao
 have W8:=same_none S2 hst
 have S3:=S2.trans s3
 generalize upd H2 st (.lst [.ref wd, .ref rd])=H3 at *
 have ne0:∀{y o},H y=some o->y≠wd/\y≠rd/\y≠st:=fun e=>⟨fun z=>(by rw[z,hwd] at e;cases e),fun z=>(by rw[z,ad8] at e;cases e),fun z=>(by rw[z,W8] at e;cases e)⟩
 have ah8:=S3 _ _ ewl
 have cx3:Ctx [] H3 h hg hc st wd rd n gv rc kn0 (fun _=>none):=⟨⟨kg,kc,S3 _ _ eh,S3 _ _ eg,S3 _ _ ec,bd.tups (aW.tups S3)⟩,⟨e3,⟨[],[],e13,⟨rfl,by simp⟩,fun _=>rfl⟩,⟨[],[],e23,⟨rfl,by simp⟩,fun x q z=>(by cases z),fun _ _=>rfl⟩,nwr,⟨fun x v z=>(by cases z),fun x r ps v z=>(by cases z)⟩⟩,n17,(ne0 eg).1,(ne0 eg).2.1,(ne0 ec).1,(ne0 ec).2.1,by simp,by simp⟩
 walk_at "vs"
 refine Bt (K:=K) (xs:=ws.map V.str) (fun i σ H'=>(∃t,σ=[some (.ref h),some (.ref wl),some (.ref st),t])/\aW H H'/\∃kn rm,Ctx [] H' h hg hc st wd rd n gv rc kn rm/\∀x∈ws.take i,kn x≠none) ?_ ?_ ?_ ?_
 ·exact⟨⟨none,rfl⟩,S3,kn0,_,cx3,by simp⟩
 ·intro i σ H' _ hP
  exact SqL.of (hP.2.1 _ _ ewl)
 ·intro i xv σ H4 hxv hP
  obtain⟨⟨t,rfl⟩,S4,kn,rm,cx,hk⟩:=hP
  have hi:i<(ws.map V.str).length:=(List.getElem?_eq_some_iff.mp hxv).1
  rw[List.length_map] at hi
  have hxe:ws[i]? =some (ws[i]):=List.getElem?_eq_getElem hi
  obtain⟨k,hkn,ek⟩:=bT.mp (hws _ (List.getElem_mem hi))
  have hxv':xv= .str (ak k):=by
   rw[List.getElem?_map,hxe] at hxv
   rw[<-ek];exact(Option.some.inj hxv).symm
  subst hxv'
  walk_at "vs"
  intro kn1 rm1 v H5 b5 cx5 nw5 hv
  refine⟨⟨_,rfl⟩,fun y o e=>b5 _ _ (by simp only[List.mem_cons,List.not_mem_nil,or_false,not_or];exact⟨(ne0 e).1,(ne0 e).2.1⟩) (S4 _ _ e),kn1,rm1,cx5,fun x hx=> ?_⟩
  rw[List.take_add_one,hxe] at hx
  rcases List.mem_append.mp hx with z | z
  ·have:=hk x z
   cases e:kn x with
   | none=>exact absurd e this
   | some u=>rw[nw5.1 _ _ e];simp
  ·have:x=ws[i]:=by simpa using z
   rw[this,ek,hv];simp
 ·intro σ H4 hP
  obtain⟨⟨t,rfl⟩,S4,kn,rm,cx,hk⟩:=hP
  rw[List.length_map,List.take_length] at hk
  walk_at "vs"
  exact q st wd rd kn rm H4 S4 W8 hwd ad8 cx.sa hk
end
section
variable {P:Program}{w:World}{K:PySem.W.Frag}{mg:Str->Option Value}{base:Heap}
abbrev dz:Stmt:=top 32
theorem zF:bR ["house","pool","names"] ["house","pool"] (aa dz):=⟨rfl,rfl,rfl,by decide +kernel,rfl,by decide +kernel,by decide +kernel⟩
theorem yW:Loc (aa dz) "names":=by decide +kernel
theorem xR:(aa dz).names.lookup ("sorted":Str)=some NameKind.globalImplicit:=by decide +kernel
theorem rM:(aa dz).names.lookup ("list":Str)=some NameKind.globalImplicit:=by decide +kernel
theorem qb:aF (aa dz) "house":=by decide +kernel
theorem rN:("list":Str)≠"__name__":=by decide +kernel
theorem rO:(("list":Str)==("__debug__":Str))=false:=by decide +kernel
theorem xT:("sorted":Str)≠"__name__":=by decide +kernel
theorem xU:(("sorted":Str)==("__debug__":Str))=false:=by decide +kernel
theorem yX:(aa dz).names.lookup ("range":Str)=some NameKind.globalImplicit:=by decide +kernel
theorem uU:(aa dz).names.lookup ("_law_take":Str)=some NameKind.globalImplicit:=by decide +kernel
theorem Bb:aF (aa dz) "pool":=by decide +kernel
theorem nq:(("_law_take":Str)==("__debug__":Str))=false:=by decide +kernel
theorem CP:("len":Str)≠"__name__":=by decide +kernel
theorem CQ:(("len":Str)==("__debug__":Str))=false:=by decide +kernel
theorem acZ:("sorted":Str)≠"__name__":=by decide +kernel
theorem IK {f g1:Addr}{fd gd1:FuncData} (jr:FnT K mg "_law_wishes" dz ["house","pool"] f fd) (aB:FnT K mg "_law_take" dN ["pool","many"] g1 gd1) (bF:bh P w K mg base CX0 1 g1 gd1 ["pool","many"] wI) (T:Blt mg):
 bh P w K mg base CX0 2 f fd ["house","pool"] YQ:=by
 refine jr.F.okQ zF (fun vs H Q E h=> ?_) (fun cdv A outer s H vs Q E hr h=> ?_)
 ·obtain⟨h,g,c,p,n,cc,gv,rc,rfl,_⟩:=h
  rfl
 obtain⟨h,hg,hc,p,n,cc,gv,rc,rfl,ho,n1,n17,pl,hcc,npg,npc,q⟩:=h
 refine⟨_,(aq (bK (i:=2) zF.nd rfl yW (cX GX xR T.Gx Ds (zQ (cT Pr (fj (BK rfl) rM T.zP u9 (fD (aK aG (aj 0 qb) aA) az) rN rO) (fj (BK rfl) rM T.zP u9 (fD (aK aG (aj 0 qb) aA) az) rN rO)) az) xT xU))
  (aD (aZ (yq rfl (n:=1) (fr:=[2,1]) (N:=["k","names","pool"]) (Ew (scX:=aa dz) (NX:=["house","pool","names"]) rfl rfl (by decide +kernel)) (Du yX T.FP (zQ (cT lX aA (aL (bF.mono (by omega)) hr uU aB.m aB.F.kp aB.b .nil bz (aJ (aj 1 Bb) (jw aA az)) nq)) az)) (fun _ _ _ _ _=>(qgx (i:=0) (show List.Nodup (α:=Str) ["k","names","pool"] by decide) (JL (by decide +kernel)))) (fun _ _ _ _ _=>Nt) (fun _ _ _ _ _=>(aK (yt (K:=K) rfl) (aj 1 (lD.ok (by decide +kernel))) (aL (bF.mono (by omega)) hr (glC (by decide +kernel)) aB.m aB.F.kp aB.b .nil bz (aJ (aj 2 (lD.ok (by decide +kernel))) (uo (cX (Ex (K:=K) rfl) (glC (by decide +kernel)) T.vU pO (aJ (aj 1 (lD.ok (by decide +kernel))) az) CP CQ) az)) nq))))))), ?_⟩
 obtain⟨kg,kc,eh,eg,ec,bd⟩:=id ho
 obtain⟨gs,cs,kgk,kck,hlen⟩:=bd.k
 walk_at "vs"
 intro l1 hl1
 rw[yu kgk.k]
 have s1:=aC (.lst (gs.map V.str)) hl1
 have e1:upd H l1 (.lst (gs.map V.str)) l1=some (.lst (gs.map V.str)):=ao
 have eh1:=s1 _ _ eh
 have ec1:=s1 _ _ ec
 have pl1:=pl.same s1
 have hn1:l1≠p:=pl.ne hl1
 generalize upd H l1 (.lst (gs.map V.str))=H1 at *
 walk_at "vs"
 intro l2 hl2
 rw[yu kck.k]
 have s2:=aC (.lst (cs.map V.str)) hl2
 have e12:=s2 _ _ e1
 have e2:upd H1 l2 (.lst (cs.map V.str)) l2=some (.lst (cs.map V.str)):=ao
 have S2:=s1.trans s2
 have pl2:=pl1.same s2
 generalize upd H1 l2 (.lst (cs.map V.str))=H2 at *
 have hz:(gs.map V.str).length+(cs.map V.str).length<=sizeLine:=by rw[List.length_map,List.length_map];exact Nat.le_of_lt (aV (by omega))
 walk_at "vs"
 intro l3 hl3
 rw[<-List.map_append]
 have s3:=aC (.lst ((gs++cs).map V.str)) hl3
 have e3:upd H2 l3 (.lst ((gs++cs).map V.str)) l3=some (.lst ((gs++cs).map V.str)):=ao
 have S3:=S2.trans s3
 have pl3:=pl2.same s3
 generalize upd H2 l3 (.lst ((gs++cs).map V.str))=H3 at *
 refine⟨l3,gs++cs,rfl,SqL.of e3,by rw[List.length_append];omega,fun l4 us hl4 hperm=> ?_⟩
 have s4:=aC (.lst (us.map V.str)) hl4
 have e4:upd H3 l4 (.lst (us.map V.str)) l4=some (.lst (us.map V.str)):=ao
 have S4:=S3.trans s4
 have pl4:=pl3.same s4
 have n4p:l4∉[p]:=fun z=>pl3.ne hl4 (by simpa using z)
 generalize upd H3 l4 (.lst (us.map V.str))=H4 at *
 have hul:us.length=n:=by rw[hperm.length_eq,List.length_append];exact hlen
 have hus:∀x∈us,x∈nmK n:=fun x hx=>by
  rcases List.mem_append.mp (hperm.mem_iff.mp hx) with z | z
  ·refine bd.ok.gk x fun e=> ?_
   exact kgk.none.mp (by rw[bd.g,e];rfl) z
  ·cases e:rc x with
   | none=>exact absurd z (kck.none.mp (bd.rn x e))
   | some r=>
     obtain⟨k,hk,ek,_⟩:=bd.ok.rk x r e
     exact bT.mpr ⟨k,hk,ek⟩
 walk_at "vs"
 intro n5 H5 n50 n51 b5 pl5
 have B5:But [p] H H5:=(But.of_same S4).trans b5
 have hlm:(us.map V.str).length=us.length:=List.length_map _
 have hl0:0<((us.map V.str).length:Int):=by rw[hlm];omega
 have hlog:((us.map V.str).length:Int).natAbs.log2<9000:=by
  rw[hlm]
  exact Nat.lt_of_le_of_lt (Nat.log2_le_self _) (by omega)
 have e5:=b5 _ _ n4p e4
 walk_at "vs"
 intro D hD
 have nD:D∉[p]:=fun z=>pl5.ne hD (by simpa using z)
 have nDp:D≠p:=by simpa using nD
 have nD4:l4≠D:=fun z=>by rw[z,hD] at e5;cases e5
 have hD0:=iQ B5 hD nD
 refine Gk (fun i σ' H'=>(∃t,σ'=t::[some (.ref l4),some (.ref p)])/\∃ts:List Str,H' D=some (.lst (ts.map V.str))/\ts.length=i/\(∀x∈ts,x∈nmK n)/\But [p] H H'/\fJ H' p (cc+1+i)/\H' l4=some (.lst (us.map V.str))) ?_ ?_ ?_
 ·exact⟨⟨none,rfl⟩,[],ao,rfl,by simp,B5.upd _ hD0,pl5.same (aC _ hD),(aC _ hD) _ _ e5⟩
 ·intro i σ' H' hi hP
  obtain⟨⟨t,rfl⟩,ts,e,et,hts,hb,hpl,el4⟩:=hP
  have hi9:(i:Int)<10:=by omega
  walk_at "vs"
  intro n6 H6 n60 n61 b6 pl6
  have hb6:=hb.trans b6
  have e6:=b6 _ _ nD e
  have el6:=b6 _ _ n4p el4
  obtain⟨x,hx,hxm⟩:∃x,atI (us.map V.str) n6=some (.str x)/\x∈us:=by
   obtain⟨j,rfl⟩:=Int.eq_ofNat_of_zero_le n60
   have hj:j<us.length:=by rw[hlm] at n61;omega
   exact⟨us[j],jZ (by rw[List.getElem?_map,List.getElem?_eq_getElem hj];rfl),List.getElem_mem hj⟩
  have hz:(ts.map V.str).length<sizeLine:=by rw[List.length_map];exact aV (by omega)
  walk_at "vs"
  refine⟨⟨_,rfl⟩,ts++[x], ?_,by rw[List.length_append,et];rfl, ?_,hb6.upd _ hD0,pl6.keep (But.set _ (by simp)) (S:=[D]) (by simpa using Ne.symm nDp),(au nD4).trans el6⟩
  ·rw[List.map_append];exact ao
  ·intro y hy
   rcases List.mem_append.mp hy with z | z
   ·exact hts y z
   ·have:y=x:=by simpa using z
    rw[this];exact hus x hxm
 ·intro σ' H' hP
  obtain⟨_,ts,e,et,hts,hb,hpl,el4⟩:=hP
  walk_at "vs"
  exact q D ts H' hb hD0 e hts
end
section
variable {P:Program}{w:World}{K:PySem.W.Frag}{mg:Str->Option Value}{base:Heap}
abbrev cG:Stmt:=top 18
theorem nu:bR ["house","records","wishes","changes","given","build","worths","made","other"] ["house","records","wishes","changes"] (aa cG):=⟨rfl,rfl,rfl,by decide +kernel,rfl,by decide +kernel,by decide +kernel⟩
theorem CT:Loc (aa cG) "given":=by decide +kernel
theorem Ei:(aa cG).names.lookup ("dict":Str)=some NameKind.globalImplicit:=by decide +kernel
theorem sU:aF (aa cG) "house":=by decide +kernel
theorem Ej:("dict":Str)≠"__name__":=by decide +kernel
theorem Ek:(("dict":Str)==("__debug__":Str))=false:=by decide +kernel
theorem sV:aF (aa cG) "given":=by decide +kernel
theorem yZ:aF (aa cG) "changes":=by decide +kernel
theorem CV:Loc (aa cG) "build":=by decide +kernel
theorem uV:(aa cG).names.lookup ("build_again":Str)=some NameKind.globalImplicit:=by decide +kernel
theorem Bc:aF (aa cG) "wishes":=by decide +kernel
theorem za:aF (aa cG) "records":=by decide +kernel
theorem uW:(("build_again":Str)==("__debug__":Str))=false:=by decide +kernel
theorem Bd:Loc (aa cG) "worths":=by decide +kernel
theorem sW:aF (aa cG) "build":=by decide +kernel
theorem El:Loc (aa cG) "made":=by decide +kernel
theorem CW:Loc (aa cG) "other":=by decide +kernel
theorem uX:aF (aa cG) "made":=by decide +kernel
theorem CZ:aF (aa cG) "other":=by decide +kernel
theorem Mx {f g0:Addr}{fd gd0:FuncData} (fW:FnT K mg "reach_of" cG ["house","records","wishes","changes"] f fd)
 (iK:FnT K mg "build_again" cW ["house","records","wishes"] g0 gd0) (IV:bh P w K mg base CX0 17 g0 gd0 ["house","records","wishes"] Qq)
 (T:Blt mg):bh P w K mg base CX0 18 f fd ["house","records","wishes","changes"] Qt:=by
 refine fW.F.okQ nu (fun vs H Q E h=> ?_) (fun cdv A outer s H vs Q E hr h=> ?_)
 ·obtain⟨h,g,c,rcd,wl,cd,n,gv,ch,rc,kr,kch,rm,ws,ns,rfl,_⟩:=h
  rfl
 obtain⟨h,g,c,rcd,wl,cd,n,gv,ch,rc,kr,kch,rm,ws,ns,rfl,ho,n17,er,rD,ewl,hws,ecd,kkc,hch,hsub,q⟩:=h
 refine⟨_,(aq (bK (i:=4) nu.nd rfl CT (fj uv Ei T.Dw yp (fD (aK aG (aj 0 sU) aA) az) Ej Ek))
  (aq (eN (Qs (aj 4 sV) (aj 3 yZ) ⟨rfl,rfl,rfl,rfl⟩))
  (aq (bK (i:=5) nu.nd rfl CV (aL (IV.mono (by omega)) hr uV iK.m iK.F.kp iK.b .nil bz (JR (ie (aJ (aj 4 sV) (fD (aK aG (aj 0 sU) aA) az))) (aJ (aj 1 za) (aJ (aj 2 Bc) az))) uW))
  (aq (bK (i:=6) nu.nd rfl Bd (aK aG (aj 5 sW) aA))
  (aq (bK (i:=7) nu.nd rfl El (aK aG (aj 5 sW) aA))
  (aq (Gs (i:=8) rfl nu.nd rfl CW (n:=1) (fr:=[1,6]) (N:=["name","records","worths"]) (Ew (scX:=aa cG) (NX:=["house","records","wishes","changes","given","build","worths","made","other"]) rfl rfl (by decide +kernel)) (vf (aj 7 uX)) (fun _ _ _ _ _=>(qgx (i:=0) (show List.Nodup (α:=Str) ["name","records","worths"] by decide) (JL (by decide +kernel)))) (fun _ _ _ _ _=>(Gu (Il (Gq (tE (cg hr) (aj 0 (lD.ok (by decide +kernel))) (aj 1 (lD.ok (by decide +kernel)))) (Bx (cD JP (aK (By (K:=K) rfl) (cU (cg hr) (aj 1 (lD.ok (by decide +kernel))) (aj 0 (lD.ok (by decide +kernel)))) aA) (cU (cg hr) (aj 2 (lD.ok (by decide +kernel))) (aj 0 (lD.ok (by decide +kernel)))) (aU _))))))) (fun _ _ _ _ _=>(aj 0 (lD.ok (by decide +kernel)))) rfl)
  (aD (aZ (ie (aJ (aj 7 uX) (aJ (aj 8 CZ) az))))))))))), ?_⟩
 obtain⟨kg,kc,eh,eg,ec,bd⟩:=id ho
 have rg:Rd H g (.dK kg):= .inl eg
 walk_at "vs"
 intro gd hgd
 have s1:=aC (.dK kg) hgd
 have egd:upd H gd (.dK kg) gd=some (.dK kg):=ao
 have akv:=s1 _ _ ecd
 have ncd:gd≠cd:=fun z=>by rw[z,ecd] at hgd;cases hgd
 generalize upd H gd (.dK kg)=H1 at *
 have isd:IsD H1 gd:= .inl ⟨_, .inl egd⟩
 have hns:∀x∈ns,gv x≠none:=fun x hx=>hsub x fun z=>kkc.none.mp (by rw[hch,z];rfl) hx
 have hz:kg.length+kch.length<=sizeLine:=by
  obtain⟨gs,cs,k1,k2,hl⟩:=bd.k
  have h1:kch.length<=n:=by
   rw[kkc.len,<-jd n]
   exact gC kkc.nd fun x hx=>bd.ok.gk x (hns x hx)
  have h2:=k1.len
  exact Nat.le_of_lt (aV (by omega))
 walk_at "vs"
 have ah9:upd H1 gd (.dK (jj kg kch)) gd=some (.dK (jj kg kch)):=ao
 have S2:aW H (upd H1 gd (.dK (jj kg kch))):=fX _ hgd s1
 generalize upd H1 gd (.dK (jj kg kch))=H2 at *
 have eh2:=S2 _ _ eh
 walk_at "vs"
 intro h2 hh2
 have s3:=aC (.tup [.ref gd, .ref c]) hh2
 have eh3:upd H2 h2 (.tup [.ref gd, .ref c]) h2=some (.tup [.ref gd, .ref c]):=ao
 have S3:=S2.trans s3
 have aia:=s3 _ _ ah9
 generalize upd H2 h2 (.tup [.ref gd, .ref c])=H3 at *
 have ho3:mD H3 h2 gd c n (gv.over ch) rc:=⟨_,_,eh3,aia,S3 _ _ ec,Mj bd S3 kkc hch hsub⟩
 have er3:=S3 _ _ er
 have rD3:=rD.map fun b q z=>z.same S3
 have ah8:=S3 _ _ ewl
 walk_at "vs"
 intro t kd sd lm lk kw ks wn sn kn rmN rkn o H4 s4 et hkd hsd hlm hlk nks nll ekd kkw hkw esd kks rDs elm elk bt ru
 have S4:=S3.trans s4
 have er4:=S4 _ _ er
 have rD4:=rD.map fun b q z=>z.same S4
 have efil:sn.filter rkn=sn.filter (lY rm rc kn):=List.filter_congr fun x hx=>bt.rk ((rDs.mem kks x).mp hx)
 rw[efil] at elm
 have hsnl:sn.length<=n:=by
  have:=rDs.len
  rw[kks.len] at this;exact this
 have hml:(sn.filter (lY rm rc kn)).length<=n:=Nat.le_trans (List.length_filter_le _ _) hsnl
 have hmem:∀x∈sn.filter (lY rm rc kn),rmN x≠none:=fun x hx=>(rDs.mem kks x).mp (List.mem_filter.mp hx).1
 generalize hM:sn.filter (lY rm rc kn)=M at *
 walk_at "vs"
 intro D hD
 refine Dr (xs:=M.map V.str) (fun i σ' H'=>(∃a,σ'=[a,some (.ref rcd),some (.ref kd)])/\H' D=some (.lst (((M.take i).filter (ux rm kn)).map V.str))/\aW H4 H') ?_ ?_ ?_ ?_
 ·exact⟨⟨none,rfl⟩,ao,aC _ hD⟩
 ·intro j σ' H' _ hP
  exact SqL.of (hP.2.2 _ _ elm)
 ·intro j v σ' H5 hv hP
  obtain⟨⟨a1,rfl⟩,eD,S5⟩:=hP
  obtain⟨x,hxi,rfl⟩:∃x,M[j]? =some x/\v=V.str x:=by
   rw[List.getElem?_map] at hv
   cases e:M[j]? with
   | none=>rw[e] at hv;cases hv
   | some x=>rw[e] at hv;exact⟨x,rfl,(Option.some.inj hv).symm⟩
  have hxm:=hmem x (List.mem_of_getElem? hxi)
  obtain⟨r,ps,v0,hrm⟩:∃r ps v0,rmN x=some (r,ps,v0):=by
   cases e:rmN x with
   | none=>exact absurd e hxm
   | some qq=>exact⟨qq.1,qq.2.1,qq.2.2,rfl⟩
  have hkx:kn x=some v0:=(bt.ok.b _ _ _ _ hrm).2.2.1
  have hil:j<M.length:=(List.getElem?_eq_some_iff.mp hxi).1
  have ht:M.take (j+1)=M.take j++[x]:=by rw[List.take_add_one,hxi];rfl
  have hzl:(((M.take j).filter (ux rm kn)).map V.str).length<sizeLine:=by
   rw[List.length_map]
   have h1:=List.length_filter_le (ux rm kn) (M.take j)
   have h2:=List.length_take_le j M
   exact aV (by omega)
  have er5:=S5 _ _ er4
  have dw:bM H5 kd (.str x) (some (.int v0)):=by
   have:cO kw (.inr x)=some (.int v0):=by rw[hkw,hkx];rfl
   rw[<-this];exact bM.k (k:= .inr x) (S5 _ _ ekd)
  cases hr0:rm x with
  | none=>
    have dr:bM H5 rcd (.str x) none:=by rw[<-rD4.w x hr0];exact bM.k (k:= .inr x) er5
    walk_at "vs"
    refine⟨⟨_,rfl⟩, ?_,S5⟩
    rw[ht,List.filter_append,eD]
    simp[List.filter_cons,ux,hr0]
  | some q0=>
    obtain⟨r0,ps0,u0⟩:=q0
    obtain⟨rb,hrb,br,l,as,eb,hR,el,hRs,_⟩:=rD4.v x _ hr0
    have dr:bM H5 rcd (.str x) (some (.ref rb)):=by rw[<-hrb];exact bM.k (k:= .inr x) er5
    have eb5:=S5 _ _ eb
    have a2:atI [V.ref br, .ref l, .int u0] 2=some (.int u0):=rfl
    walk_at "vs"
    refine zM (fun c1=> ?_) (fun c1=> ?_)
    ·walk_at "vs"
     refine⟨⟨_,rfl⟩, ?_,fX _ hD S5⟩
     rw[ao,ht,List.filter_append,List.map_append]
     have:ux rm kn x=true:=by
      unfold ux;rw[hr0,hkx]
      simp at c1 ⊢
      exact fun z=>c1 z.symm
     simp[List.filter_cons,this]
    ·walk_at "vs"
     refine⟨⟨_,rfl⟩, ?_,S5⟩
     rw[eD,ht,List.filter_append]
     have:ux rm kn x=false:=by
      unfold ux;rw[hr0,hkx]
      simp at c1 ⊢
      exact c1.symm
     simp[List.filter_cons,this]
 ·intro σ' H5 hP
  obtain⟨_,eD,S5⟩:=hP
  rw[show M.take (M.map V.str).length=M by rw[List.length_map];exact List.take_length] at eD
  walk_at "vs"
  intro tt htt
  have s6:=aC (.tup [.ref lm, .ref D]) htt
  have nlD:lm≠D:=fun z=>by rw[<-z,elm] at hD;cases hD
  subst hM
  exact q tt lm D kn rmN rkn sn _ (S4.trans (S5.trans s6)) ao (same_none S3 hlm) (same_none S4 hD) nlD (s6 _ _ (S5 _ _ elm)) (s6 _ _ eD) bt kks.nd (rDs.mem kks) ru
end
section
variable {P:Program}{w:World}{K:PySem.W.Frag}{mg:Str->Option Value}{base:Heap}
abbrev aX:Stmt:=top 33
theorem jB:bR ["house","records","name","state","worths","made","alike","read","number"] ["house","records","name","state"] (aa aX):=⟨rfl,rfl,rfl,by decide +kernel,rfl,by decide +kernel,by decide +kernel⟩
theorem mG:aF (aa aX) "state":=by decide +kernel
theorem Be:Loc (aa aX) "made":=by decide +kernel
theorem xV:Loc (aa aX) "worths":=by decide +kernel
theorem aR:aF (aa aX) "name":=by decide +kernel
theorem cY:aF (aa aX) "worths":=by decide +kernel
theorem fZ:aF (aa aX) "house":=by decide +kernel
theorem qd:Loc (aa aX) "alike":=by decide +kernel
theorem eF:aF (aa aX) "records":=by decide +kernel
theorem mH:aF (aa aX) "alike":=by decide +kernel
theorem xW:Loc (aa aX) "number":=by decide +kernel
theorem Bf:Loc (aa aX) "read":=by decide +kernel
theorem sE:(aa aX).names.lookup ("_law_settle":Str)=some NameKind.globalImplicit:=by decide +kernel
theorem Bg:aF (aa aX) "read":=by decide +kernel
theorem sG:(("_law_settle":Str)==("__debug__":Str))=false:=by decide +kernel
theorem xX:aF (aa aX) "number":=by decide +kernel
theorem qH:(aa aX).names.lookup ("_law_reckoned":Str)=some NameKind.globalImplicit:=by decide +kernel
theorem qI:(("_law_reckoned":Str)==("__debug__":Str))=false:=by decide +kernel
theorem Bh:aF (aa aX) "made":=by decide +kernel
abbrev aN:Stmt:=top 34
theorem m7:bR ["house","r","records","state","word","one","other"] ["house","r","records","state"] (aa aN):=⟨rfl,rfl,rfl,by decide +kernel,rfl,by decide +kernel,by decide +kernel⟩
theorem xY:Loc (aa aN) "word":=by decide +kernel
theorem d9:aF (aa aN) "r":=by decide +kernel
theorem dR:aF (aa aN) "word":=by decide +kernel
theorem lB:(aa aN).names.lookup ("_law_settle":Str)=some NameKind.globalImplicit:=by decide +kernel
theorem gq:aF (aa aN) "state":=by decide +kernel
theorem fB:aF (aa aN) "records":=by decide +kernel
theorem gA:aF (aa aN) "house":=by decide +kernel
theorem lC:(("_law_settle":Str)==("__debug__":Str))=false:=by decide +kernel
theorem zb:Loc (aa aN) "one":=by decide +kernel
theorem gP:(aa aN).names.lookup ("_law_reckoned":Str)=some NameKind.globalImplicit:=by decide +kernel
theorem gQ:(("_law_reckoned":Str)==("__debug__":Str))=false:=by decide +kernel
theorem iC:aF (aa aN) "one":=by decide +kernel
theorem zc:(aa aN).names.lookup ("len":Str)=some NameKind.globalImplicit:=by decide +kernel
theorem zf:("len":Str)≠"__name__":=by decide +kernel
theorem zg:(("len":Str)==("__debug__":Str))=false:=by decide +kernel
theorem qe:(aa aN).names.lookup ("int":Str)=some NameKind.globalImplicit:=by decide +kernel
theorem qg:("int":Str)≠"__name__":=by decide +kernel
theorem ql:(("int":Str)==("__debug__":Str))=false:=by decide +kernel
theorem wA:Loc (aa aN) "other":=by decide +kernel
theorem ji:aF (aa aN) "other":=by decide +kernel
theorem zj:(aa aN).names.lookup ("max":Str)=some NameKind.globalImplicit:=by decide +kernel
theorem zm:("max":Str)≠"__name__":=by decide +kernel
theorem zp:(("max":Str)==("__debug__":Str))=false:=by decide +kernel
theorem Dc {k0 d:Nat}{f g:Addr}{fd gd:FuncData} (aO:FnT K mg "_law_reckoned" aN ["house","r","records","state"] f fd) (aY:FnT K mg "_law_settle" aX ["house","records","name","state"] g gd) (iH:bh P w K mg base CX0 (8 * k0+1) g gd ["house","records","name","state"] (DP k0))
 (lV:bh P w K mg base CX0 (8 * k0+1+d) f fd ["house","r","records","state"] (Qu k0 d)) (T:Blt mg):bh P w K mg base CX0 (8 * k0+1+d+1) f fd ["house","r","records","state"] (Qu k0 (d+1)):=by
 refine aO.F.okQ m7 (fun vs H Q E h=> ?_) (fun cdv A outer s H vs Q E hr h=> ?_)
 ·obtain⟨Hf,h,g,c,rcd,st,wd,ml,b,n,gv,rc,kr,rm,kn,od,r,m,rfl,_⟩:=h
  rfl
 obtain⟨Hf,h,hg,hc,rcd,st,wd,ml,b,n,gv,rc,kr,rm,kn,od,r,m,rfl,cx,hR,hrk,hmf,hmn,q⟩:=h
 refine⟨_,(aq (bK (i:=4) m7.nd rfl xY (aK aG (aj 1 d9) aA))
  (aq (cN (cD di (aj 4 dR) bY (aU _)) (aD (aZ (aK aG (aj 1 d9) aA))) bH)
  (aq (cN (cD di (aj 4 dR) bY (aU _)) (aD (aZ (aL (iH.mono (by omega)) hr lB aY.m aY.F.kp aY.b .nil bz (aJ (aj 0 gA) (aJ (aj 2 fB) (fD (aK aG (aj 1 d9) aA) (aJ (aj 3 gq) az)))) lC))) bH)
  (aq (bK (i:=5) m7.nd rfl zb (aL (lV.mono (by omega)) hr gP aO.m aO.F.kp aO.b .nil bz (aJ (aj 0 gA) (fD (aK aG (aj 1 d9) aA) (aJ (aj 2 fB) (aJ (aj 3 gq) az)))) gQ))
  (aq (cN (cD di (aj 4 dR) bY (aU _)) (aD (aZ (aL (iH.mono (by omega)) hr lB aY.m aY.F.kp aY.b .nil bz (aJ (aj 0 gA) (aJ (aj 2 fB) (fD (aK aG (aK aG (aj 1 d9) aA) (cT m5 (aj 5 iC) (cX ju zc T.vU pO (fD (aK aG (aj 1 d9) aA) az) zf zg))) (aJ (aj 3 gq) az)))) lC))) bH)
  (aq (cN (cD di (aj 4 dR) bY (aU _)) (aD (aZ (aL (lV.mono (by omega)) hr gP aO.m aO.F.kp aO.b .nil bz (aJ (aj 0 gA) (fD (aK aG (aj 1 d9) (aK cL (gB (jw aA (jw aA az))) (fj FN qe T.Ld Gm (Wj (pP Nu (aj 5 iC) aA (aU _)) az) qg ql))) (aJ (aj 2 fB) (aJ (aj 3 gq) az)))) gQ))) bH)
  (aq (bK (i:=6) m7.nd rfl wA (aL (lV.mono (by omega)) hr gP aO.m aO.F.kp aO.b .nil bz (aJ (aj 0 gA) (fD (aK aG (aj 1 d9) aA) (aJ (aj 2 fB) (aJ (aj 3 gq) az)))) gQ))
  (aq (cN (cD di (aj 4 dR) bY (aU _)) (aD (aZ (cT qm (aj 5 iC) (aj 6 ji)))) bH)
  (aq (cN (cD di (aj 4 dR) bY (aU _)) (aD (aZ (cX (JS rfl) zj T.Ti Np (aJ (aj 5 iC) (aJ (aj 6 ji) az)) zm zp))) bH)
  (aD (aZ (cT lX (aj 5 iC) (aK cL (gB (aJ (aj 6 ji) (zQ (cT mZ aA (aj 6 ji)) az))) (fj FN qe T.Ld Gm (Wj (pP di (aj 4 dR) bY (aU _)) az) qg ql)))))))))))))), ?_⟩
 have n17:=cx.n17
 have new2:∀{a b c:Kn}{i j:Nat},New a b i->New b c j->i<=m->j<=m->New a c m:=fun n1 n2 h1 h2=>⟨n1.1.trans n2.1,fun y hy=>by
  rcases n2.2 y hy with z | z
  ·rcases n1.2 y z with z | z
   ·exact .inl z
   ·obtain⟨k,hk,e⟩:=bT.mp z
    exact .inr (bT.mpr ⟨k,by omega,e⟩)
  ·obtain⟨k,hk,e⟩:=bT.mp z
   exact .inr (bT.mpr ⟨k,by omega,e⟩)⟩
 have newm:∀{a b:Kn}{i:Nat},New a b i->i<=m->New a b m:=fun n1 h1=>⟨n1.1,fun y hy=>by
  rcases n1.2 y hy with z | z
  ·exact .inl z
  ·obtain⟨k,hk,e⟩:=bT.mp z
   exact .inr (bT.mpr ⟨k,by omega,e⟩)⟩
 obtain⟨rg,rt,ri,rdp⟩:=hrk
 cases hR with
 | @num _ nn e=>
   have e0:=cx.sm _ _ e
   walk_at "vs"
   exact q kn od nn H cx ⟨Kn.Le.refl _,fun y hy=> .inl hy⟩ rfl fun _ _ _ _ _ _ _=>Mvs.refl _
 | @rd _ x e=>
   have e0:=cx.sm _ _ e
   obtain⟨k,hk,rfl⟩:=bT.mp ri
   walk_at "vs"
   intro kn1 od1 v H1 cx1 nw1 hv mv1
   exact q kn1 od1 v H1 cx1 (newm nw1 (by omega)) (YZ hv) fun x R p hg hr hk hcx=>Hs hg (le_none nw1.1 hk) hr (fun hy=>hcx kn (Kn.Le.refl _) _ (Y0 hy)) (mv1 (x::p))
 | @bin _ x y op r1 r2 e h1 h2=>
   have hd':max r1.depth r2.depth+1<=d+1:=rdp
   have k1:Rk3 (nmK m) d r1:=⟨rg.1,rt.1,ri.1,by omega⟩
   have k2:Rk3 (nmK m) d r2:=⟨rg.2,rt.2.1,ri.2,by omega⟩
   have UG:=rt.2.2
   have e0:=cx.sm _ _ e
   cases op
   all_goals
    walk_at "vs"
    intro kn1 od1 u H1 cx1 nw1 ev1 mv1
    have e1:=cx1.sm _ _ e
    walk_at "vs"
    intro kn2 od2 v H2 cx2 nw2 ev2 mv2
    have W9:=kO nw2.1 ev1
    have Xa:∀(op:Op) x R p,gv x=none->rc x=some R->kn2 x=none->(∀kn1,Kn.Le kn kn1->∀y,ev kn1 (.bin op r1 r2)= .inl y->ev kn1 R= .inl y)->Mvs gv rc (x::p,kn,od) (x::p,kn2,od2):=fun op x R p hg hr hk hcx=>(mv1 x R p hg hr (le_none nw2.1 hk) fun k3 l3 y hy=>hcx k3 l3 y (adV hy)).trans (mv2 x R p hg hr hk fun k3 l3 y hy=>hcx k3 (nw1.1.trans l3) y (adW (kO l3 ev1) hy))
   ·walk_at "vs"
    intro pz hpz
    have s3:=aC (.lst [V.int v,V.int (0 - v)]) hpz
    have hat:atI [V.int v,V.int (0 - v)] 0=some (.int v):=rfl
    walk_at "vs"
    exact q kn2 od2 (u+v) _ (cx2.same s3) (new2 nw1 nw2 (Nat.le_refl _) (Nat.le_refl _)) (W4 (op:= .plus) W9 ev2) (Xa .plus)
   ·walk_at "vs"
    intro pz hpz
    have s3:=aC (.lst [V.int v,V.int (0 - v)]) hpz
    have hat:atI [V.int v,V.int (0 - v)] 1=some (.int (0 - v)):=rfl
    walk_at "vs"
    have:=q kn2 od2 (u - v) _ (cx2.same s3) (new2 nw1 nw2 (Nat.le_refl _) (Nat.le_refl _)) (W4 (op:= .minus) W9 ev2) (Xa .minus)
    rw[show u - v=u+(0 - v) by omega] at this
    exact this
   ·obtain⟨n0,rfl,hn0,hn1⟩:=UG rfl
    have hv:v=n0:=by cases ev2;rfl
    have cm:Dp u v:= .inr ⟨by omega,by omega⟩
    walk_at "vs"
    exact q kn2 od2 (u * v) _ cx2 (new2 nw1 nw2 (Nat.le_refl _) (Nat.le_refl _)) (W4 (op:= .times) W9 ev2) (Xa .times)
   ·walk_at "vs"
    exact q kn2 od2 (if v>u then v else u) _ cx2 (new2 nw1 nw2 (Nat.le_refl _) (Nat.le_refl _)) (W4 (op:= .most) W9 ev2) (Xa .most)
 | @pick _ x y z r1 r2 r3 e h1 h2 h3=>
   have hd':max r1.depth (max r2.depth r3.depth)+1<=d+1:=rdp
   have k1:Rk3 (nmK m) d r1:=⟨rg.1,rt.1,ri.1,by omega⟩
   have k2:Rk3 (nmK m) d r2:=⟨rg.2.1,rt.2.1,ri.2.1,by omega⟩
   have k3:Rk3 (nmK m) d r3:=⟨rg.2.2,rt.2.2,ri.2.2,by omega⟩
   have e0:=cx.sm _ _ e
   walk_at "vs"
   intro kn1 od1 u H1 cx1 nw1 ev1 mv1
   have e1:=cx1.sm _ _ e
   walk_at "vs"
   intro pl hpl
   have s2:=aC (.lst [V.int 3,V.int 2]) hpl
   have e2:upd H1 pl (.lst [V.int 3,V.int 2]) pl=some (.lst [V.int 3,V.int 2]):=ao
   have cx2:=cx1.same s2
   have e12:=s2 _ _ e1
   generalize upd H1 pl (.lst [V.int 3,V.int 2])=H2 at *
   by_cases hu:u>0
   ·have hat:atI [V.int 3,V.int 2] (if decide (u>0)=true then 1 else 0)=some (.int 2):=by rw[if_pos (decide_eq_true hu)];rfl
    walk_at "vs"
    intro kn2 od2 v H3 cx3 nw2 ev2 mv2
    exact q kn2 od2 v H3 cx3 (new2 nw1 nw2 (Nat.le_refl _) (Nat.le_refl _)) (by rw[W5 (kO nw2.1 ev1),if_pos hu];exact ev2) fun x R p hg hr hk hcx=>(mv1 x R p hg hr (le_none nw2.1 hk) fun k3 l3 y hy=>hcx k3 l3 y (Y4 hy)).trans (mv2 x R p hg hr hk fun k3 l3 y hy=>hcx k3 (nw1.1.trans l3) y (by rw[W5 (kO l3 ev1),if_pos hu];exact hy))
   ·have hat:atI [V.int 3,V.int 2] (if decide (u>0)=true then 1 else 0)=some (.int 3):=by rw[if_neg (by rw[decide_eq_false hu];decide)];rfl
    walk_at "vs"
    intro kn2 od2 v H3 cx3 nw2 ev2 mv2
    exact q kn2 od2 v H3 cx3 (new2 nw1 nw2 (Nat.le_refl _) (Nat.le_refl _)) (by rw[W5 (kO nw2.1 ev1),if_neg hu];exact ev2) fun x R p hg hr hk hcx=>(mv1 x R p hg hr (le_none nw2.1 hk) fun k3 l3 y hy=>hcx k3 l3 y (Y4 hy)).trans (mv2 x R p hg hr hk fun k3 l3 y hy=>hcx k3 (nw1.1.trans l3) y (by rw[W5 (kO l3 ev1),if_neg hu];exact hy))
 | @cho _ x y r1 ns e h1 h2=>
   have hd':r1.depth+1<=d+1:=rdp
   have k1:Rk3 (nmK m) d r1:=⟨rg.1,rt.1,ri.1,by omega⟩
   have e0:=cx.sm _ _ e
   walk_at "vs"
   intro kn1 od1 u H1 cx1 nw1 ev1 mv1
   have e1:=cx1.sm _ _ e
   have h21:=cx1.sm _ _ h2
   obtain⟨nm,hnm⟩:=Dz rt.2 u
   have hmem:nm∈ns:=List.mem_of_getElem? hnm
   obtain⟨k,hk,rfl⟩:=bT.mp (ri.2 nm hmem)
   have hlm:(ns.map V.str).length=ns.length:=List.length_map _
   have hn1:=rt.2
   have hl0:0<((ns.map V.str).length:Int):=by rw[hlm];omega
   have hat:atI (ns.map V.str) (u % ((ns.map V.str).length:Int))=some (.str (ak k)):=by
    rw[hlm]
    have hnm':=hnm
    unfold qT at hnm'
    obtain⟨j,ej⟩:=Int.eq_ofNat_of_zero_le (Int.emod_nonneg u (show(ns.length:Int)≠0 by omega))
    rw[ej] at hnm' ⊢
    exact jZ (by rw[List.getElem?_map];rw[Int.toNat_natCast] at hnm';rw[hnm'];rfl)
   walk_at "vs"
   intro kn2 od2 v H3 cx3 nw2 hv mv2
   exact q kn2 od2 v H3 cx3 (new2 nw1 nw2 (Nat.le_refl _) (by omega)) (by rw[adY (kO nw2.1 ev1) hnm];exact YZ hv) fun x R p hg hr hk hcx=>(mv1 x R p hg hr (le_none nw2.1 hk) fun k3 l3 y hy=>hcx k3 l3 y (adX hy)).trans (Hs hg (le_none nw2.1 hk) hr (fun hy=>hcx kn1 nw1.1 _ (by rw[adY ev1 hnm];exact Y0 hy)) (mv2 (x::p)))
theorem vY {k0:Nat}{f g:Addr}{fd gd:FuncData} (aO:FnT K mg "_law_reckoned" aN ["house","r","records","state"] f fd) (aY:FnT K mg "_law_settle" aX ["house","records","name","state"] g gd) (iH:bh P w K mg base CX0 (8 * k0+1) g gd ["house","records","name","state"] (DP k0)) (T:Blt mg):∀d,bh P w K mg base CX0 (8 * k0+1+d) f fd ["house","r","records","state"] (Qu k0 d)
 | 0=>never fun vs H Q E h=>by
   obtain⟨Hf,h,g,c,rcd,st,wd,ml,b,n,gv,rc,kr,rm,kn,od,r,m,_,_,_,hrk,_⟩:=h
   have:=r.um
   have:=hrk.d
   omega
 | d+1=>Dc aO aY iH (vY aO aY iH T d) T
theorem Fx {k0:Nat}{f g:Addr}{fd gd:FuncData} (aY:FnT K mg "_law_settle" aX ["house","records","name","state"] f fd) (aO:FnT K mg "_law_reckoned" aN ["house","r","records","state"] g gd)
 (iH:bh P w K mg base CX0 (8 * k0+1) f fd ["house","records","name","state"] (DP k0)) (lV:bh P w K mg base CX0 (8 * k0+5) g gd ["house","r","records","state"] (Qu k0 4)) (T:Blt mg):
 bh P w K mg base CX0 (8 * k0+8+1) f fd ["house","records","name","state"] (DP (k0+1)):=by
 refine aY.F.okQ jB (fun vs H Q E h=> ?_) (fun cdv A outer s H vs Q E hr h=> ?_)
 ·obtain⟨Hf,h,g,c,rcd,st,wd,ml,n,gv,rc,kr,rm,kn,od,k,rfl,_⟩:=h
  rfl
 obtain⟨Hf,h,hg,hc,rcd,st,wd,ml,n,gv,rc,kr,rm,kn,od,k,rfl,cx,hkf,hkn,q⟩:=h
 refine⟨_,(aq (Te (aj 3 mG) (Tp rfl (oZ (nC (i:=4) jB.nd rfl xV) (oZ (nC (i:=5) jB.nd rfl Be) FJ))))
  (aq (cN (tE (cg hr) (aj 2 aR) (aj 4 cY)) (aD (aZ (cU (cg hr) (aj 4 cY) (aj 2 aR)))) bH)
  (aq (cN (tE (cg hr) (aj 2 aR) (aK aG (aj 0 fZ) aA)) (aq (jc (cg hr) (aj 4 cY) (aj 2 aR) (cU (cg hr) (aK aG (aj 0 fZ) aA) (aj 2 aR)))
  (aD (aZ (cU (cg hr) (aj 4 cY) (aj 2 aR))))) bH)
  (aq (bK (i:=6) jB.nd rfl qd (Gr (pP (W6 (cg hr)) (aj 2 aR) (aj 1 eF) rfl) (JM (pP (Gz hr.units) (aK aG (cU (cg hr) (aj 1 eF) (aj 2 aR)) aA) (cU (cg hr) (aK aG (aj 0 fZ) aA) (aj 2 aR)) (aU _)))))
  (aq (cN (qO (aj 6 mH)) (aD (Dv PassesOwn.never rfl (vf (aK aG (cU (cg hr) (aj 1 eF) (aj 2 aR)) aA)) (Td rfl (oZ (nC (i:=7) jB.nd rfl Bf) (oZ (nC (i:=8) jB.nd rfl xW) FJ))) (aD (cN (qO (aj 6 mH)) (aD (bK (i:=6) jB.nd rfl qd (pP di (aL (iH.mono (by omega)) hr sE aY.m aY.F.kp aY.b .nil bz (aJ (aj 0 fZ) (aJ (aj 1 eF) (aJ (aj 7 Bg) (aJ (aj 3 mG) az)))) sG) (aj 8 xX) (aU _)))) bH)))) bH)
  (aq (cN (qO (aj 6 mH)) (aq (jc (cg hr) (aj 4 cY) (aj 2 aR) (aK aG (cU (cg hr) (aj 1 eF) (aj 2 aR)) aA))
  (aD (aZ (cU (cg hr) (aj 4 cY) (aj 2 aR))))) bH)
  (aq (jc (cg hr) (aj 4 cY) (aj 2 aR) (aL (lV.mono (by omega)) hr qH aO.m aO.F.kp aO.b .nil bz (aJ (aj 0 fZ) (fD (cU (cg hr) (aK aG (aj 0 fZ) aA) (aj 2 aR)) (aJ (aj 1 eF) (aJ (aj 3 mG) az)))) qI))
  (aq (eN (qP PySem.F.plainAttrs_list PySem.F.slot_list_append PySem.F.type_list_append ig (aj 5 Bh) (aJ (aj 2 aR) az)))
  (aD (aZ (cU (cg hr) (aj 4 cY) (aj 2 aR)))))))))))), ?_⟩
 have n17:=cx.n17
 obtain⟨kg,kc,eh,eg,ec,bd⟩:=cx.ho
 obtain⟨kw,ws,ew,k4,v4⟩:=cx.ew
 have hkl:=cx.kl k4 v4
 have est:=cx.sm _ _ cx.es
 have eh0:=cx.sm _ _ eh
 have eg0:=cx.sm _ _ eg
 have er0:=cx.sm _ _ cx.er
 have dw:bM H wd (.str (ak k)) ((kn (ak k)).map V.int):=by rw[<-v4];exact bM.k (k:= .inr (ak k)) ew
 have dg:bM H hg (.str (ak k)) ((gv (ak k)).map V.int):=by rw[<-bd.g];exact bM.k (k:= .inr (ak k)) eg0
 have hx:ak k∈nmK n:=bT.mpr ⟨k,hkn,rfl⟩
 have akx:∀{a b:Kn}{v:Int},New a b k->New a (b.put (ak k) v) (k+1)->True:=fun _ _=>trivial
 have hv':∀(a:Kn) (v:Int),(a.put (ak k) v) (ak k)=some v:=fun a v=>by unfold Kn.put;rw[if_pos rfl]
 have newput:∀{a:Kn}{v:Int},New kn a k->a (ak k)=none->New kn (a.put (ak k) v) (k+1):=fun{a v} n1 h0=>⟨n1.1.trans (Kn.lG h0),fun y hy=>by
  unfold Kn.put at hy
  by_cases z:y=ak k
  ·exact .inr (bT.mpr ⟨k,by omega,z⟩)
  ·rw[if_neg z] at hy
   rcases n1.2 y hy with w | w
   ·exact .inl w
   ·obtain⟨j,hj,ej⟩:=bT.mp w
    exact .inr (bT.mpr ⟨j,by omega,ej⟩)⟩
 have unk:∀{a b:Kn},New a b k->a (ak k)=none->b (ak k)=none:=fun{a b} n1 h0=>by
  cases z:b (ak k) with
  | none=>rfl
  | some u=>
    rcases n1.2 (ak k) (by rw[z];simp) with w | w
    ·exact absurd h0 w
    ·obtain⟨j,hj,ej⟩:=bT.mp w
     have:=jn (by omega) (by omega) ej
     omega
 cases ek:kn (ak k) with
 | some v=>
   rw[ek] at dw
   have dw:bM H wd (.str (ak k)) (some (.int v)):=dw
   walk_at "vs"
   exact q kn od v H cx ⟨Kn.Le.refl _,fun y hy=> .inl hy⟩ ek fun p=>(Mvs.refl _).snoc (Hj (by rw[ek];simp))
 | none=>
   rw[ek] at dw
   have dw:bM H wd (.str (ak k)) none:=dw
   have ad9:New kn kn k:=⟨Kn.Le.refl _,fun y hy=> .inl hy⟩
   cases egv:gv (ak k) with
   | some v=>
     rw[egv] at dg
     have dg:bM H hg (.str (ak k)) (some (.int v)):=dg
     have dp:jD H wd (.str (ak k)) (.int v) (upd H wd (.dK (putK kw (.inr (ak k)) (.int v)))):=jD.k (k:= .inr (ak k)) ew (aV (by omega))
     have dw1:bM (upd H wd (.dK (putK kw (.inr (ak k)) (.int v)))) wd (.str (ak k)) (some (.int v)):=by
      have:=bM.k (H:=upd H wd (.dK (putK kw (.inr (ak k)) (.int v)))) (a:=wd) (k:= .inr (ak k)) ao
      rw[jo,if_pos rfl] at this
      exact this
     walk_at "vs"
     exact q (kn.put (ak k) v) od v _ (cx.put ew k4 v4 hx ek) (newput ad9 ek) (hv' _ _) fun p=>W3 ek egv
   | none=>
     rw[egv] at dg
     have dg:bM H hg (.str (ak k)) none:=dg
     have hrc:∃r,rc (ak k)=some r:=by
      cases z:rc (ak k) with
      | some r=>exact⟨r,rfl⟩
      | none=>
        rcases bd.ok.dom k hkn with w | w
        ·exact absurd egv w
        ·exact absurd z w
     obtain⟨r,hr'⟩:=hrc
     obtain⟨br,hbr,hRr⟩:=bd.r _ _ hr'
     obtain⟨k',hk',ek',ok'⟩:=bd.ok.rk _ _ hr'
     have:k=k':=jn (by omega) (by omega) ek'
     subst this
     have aky:k<=k0:=by omega
     have hkn':k<=n:=by omega
     have dcx:∀{a o H'},C9 Hf h hg hc rcd st wd ml n gv rc kr rm a o H'->bM H' hc (.str (ak k)) (some (.ref br)):=fun c=>by rw[<-hbr];exact bM.k (k:= .inr (ak k)) (c.sm _ _ ec)
     cases hrm:rm (ak k) with
     | none=>
       have dr:bM H rcd (.str (ak k)) none:=by rw[<-cx.rD.w _ hrm];exact bM.k (k:= .inr (ak k)) er0
       have dc:=dcx cx
       walk_at "vs"
       intro kn2 od2 v H2 cx2 nw2 ev2 mv2
       have ek2:=unk nw2 ek
       obtain⟨kw2,ws2,ew2,k42,v42⟩:=cx2.ew
       have ad7:=cx2.kl k42 v42
       have dp2:jD H2 wd (.str (ak k)) (.int v) (upd H2 wd (.dK (putK kw2 (.inr (ak k)) (.int v)))):=jD.k (k:= .inr (ak k)) ew2 (aV (by omega))
       have cx3:=cx2.put (v:=v) ew2 k42 v42 hx ek2
       generalize upd H2 wd (.dK (putK kw2 (.inr (ak k)) (.int v)))=H3 at *
       have em3:=cx3.em
       have hz:((od2.filter (lY rm rc (kn2.put (ak k) v))).map V.str).length<sizeLine:=by
        rw[List.length_map]
        have h1:=List.length_filter_le (lY rm rc (kn2.put (ak k) v)) od2
        have h2:=cx3.ol
        exact aV (by omega)
       have hc3:lY rm rc (kn2.put (ak k) v) (ak k)=true:=by unfold lY;rw[hrm]
       have cx4:=cx3.made (x:=ak k) (by rw[hv'];simp) (fun z=>cx2.ok _ z ek2) (.inl hrm) hc3
       have dw4:bM (upd H3 ml (.lst ((od2.filter (lY rm rc (kn2.put (ak k) v))).map V.str++[.str (ak k)]))) wd (.str (ak k)) (some (.int v)):=by
        obtain⟨kw4,ws4,ew4,_,v44⟩:=cx4.ew
        have:cO kw4 (.inr (ak k))=some (.int v):=by rw[v44,hv'];rfl
        rw[<-this];exact bM.k (k:= .inr (ak k)) ew4
       walk_at "vs"
       exact q (kn2.put (ak k) v) (od2++[ak k]) v _ cx4 (newput nw2 ek2) (hv' _ _) fun p=>(mv2 _ _ p egv hr' ek2 fun _ _ y hy=>hy).trans (J7 egv ek2 hr' ev2)
     | some qq=>
       obtain⟨r',ps,v0⟩:=qq
       have:r'=r:=by
        have:=cx.hr _ _ _ _ hrm
        rw[hr'] at this;exact(Option.some.inj this).symm
       subst this
       obtain⟨got,_⟩:=cx.rD.ok _ _ _ _ hrm
       obtain⟨rb,hrb,bq,l,as,eb,hRq,el,hRs,_⟩:=cx.rD.v _ _ hrm
       have dr:bM H rcd (.str (ak k)) (some (.ref rb)):=by rw[<-hrb];exact bM.k (k:= .inr (ak k)) er0
       have dc:=dcx cx
       have eb0:=cx.sm _ _ eb
       have el0:=cx.sm _ _ el
       have a0:atI [V.ref bq, .ref l, .int v0] 0=some (.ref bq):=rfl
       have a1:atI [V.ref bq, .ref l, .int v0] 1=some (.ref l):=rfl
       have a2:atI [V.ref bq, .ref l, .int v0] 2=some (.int v0):=rfl
       walk_at "vs"
       refine⟨r'.dat,(hRq.same cx.sm).dat,(hRr.same cx.sm).dat,R.shaped ok'.g (by have:=ok'.d;omega), ?_⟩
       walk_at "vs"
       refine Bt (xs:=as.map V.ref) (fun i σ H'=>∃(al:Bool) (kni:Kn) (odi:List Str) (t7 t8:Option V),σ=[some (.ref h),some (.ref rcd),some (.str (ak k)),some (.ref st),some (.ref wd),some (.ref ml),some (.bl al),t7,t8]/\C9 Hf h hg hc rcd st wd ml n gv rc kr rm kni odi H'/\New kn kni k/\(∀p,Mvs gv rc (ak k::p,kn,od) (ak k::p,kni,odi))/\(if al=true then∀(j:Nat) p,j<i->ps[j]? =some p->kni p.1=some p.2 else∃p∈ps,∃u,kni p.1=some u/\u≠p.2)) ?_ ?_ ?_ ?_
       ·exact⟨true,kn,od,none,none,rfl,cx,ad9,fun p=>Mvs.refl _,by rw[if_pos rfl];intro j p hj;omega⟩
       ·rintro i σ H' _ ⟨al,kni,odi,t7,t8,_,cxi,_⟩
        exact SqL.of (cxi.sm _ _ el)
       ·rintro i v σ H3 hv ⟨al,kni,odi,t7,t8,rfl,cxi,nwi,mvi,hal⟩
        obtain⟨ai,hae,ey⟩:=Tq hv
        subst ey
        obtain⟨pp,hp,ep⟩:=hRs.get i _ hae
        have ep3:H3 ai=some (.tup [.str pp.1, .int pp.2]):=cxi.sm _ _ ep
        cases al with
        | false=>
          rw[if_neg (by decide)] at hal
          walk_at "vs"
          exact hal
        | true=>
          rw[if_pos rfl] at hal
          have hpm:=List.mem_of_getElem? hp
          obtain⟨j,hj,ej⟩:=bT.mp (N8 ok'.i got.c pp hpm)
          rw[ej] at ep3
          have hj0:j<k0:=by omega
          have hjn:j<n:=by omega
          walk_at "vs"
          intro kn4 od4 u4 H4 cx4 nw4 hu4 mv4
          have hkx:=unk nwi ek
          have hps:ps[i]? =some (ak j,pp.2):=by rw[hp,<-ej]
          have sk:=fun hy=>(Hh got.c hps hal).ev (kn:=kni) hy
          have nw5:New kn kn4 k:=⟨nwi.1.trans nw4.1,fun y hy=>by
           rcases nw4.2 y hy with z | z
           ·exact nwi.2 y z
           ·obtain⟨j',hj',e'⟩:=bT.mp z
            exact .inr (bT.mpr ⟨j',by omega,e'⟩)⟩
          have mv5:∀p,Mvs gv rc (ak k::p,kn,od) (ak k::p,kn4,od4):=fun p=>(mvi p).trans (Hs egv hkx hr' sk (mv4 (ak k::p)))
          walk_at "vs"
          by_cases hu:u4=pp.2
          ·rw[if_pos (by simp[hu])]
           intro j' p' hj' hp'
           by_cases z:j'=i
           ·rw[z,hp] at hp'
            cases hp'
            rw[ej,hu4,hu]
           ·exact nw4.1 _ _ (hal j' p' (by omega) hp')
          ·rw[if_neg (by simp[hu])]
           exact⟨pp,hpm,u4,by rw[ej];exact hu4,hu⟩
       ·rintro σ H3 ⟨al,kni,odi,t7,t8,rfl,cxi,nwi,mvi,hal⟩
        have hkx:=unk nwi ek
        have er3:=cxi.sm _ _ cx.er
        have dr3:bM H3 rcd (.str (ak k)) (some (.ref rb)):=by rw[<-hrb];exact bM.k (k:= .inr (ak k)) er3
        have eb3:=cxi.sm _ _ eb
        have eh3:=cxi.sm _ _ eh
        have dc3:=dcx cxi
        cases al with
        | true=>
          rw[if_pos rfl] at hal
          have hall:∀p∈ps,kni p.1=some p.2:=fun p hp=>by
           obtain⟨j,hj⟩:=List.getElem?_of_mem hp
           exact hal j p (by rw[List.length_map,hRs.length];exact(List.getElem?_eq_some_iff.mp hj).1) hj
          have ev3:ev kni r'= .inr v0:=kO (FZ Od hall) got.2
          obtain⟨kw3,ws3,ew3,k43,v43⟩:=cxi.ew
          have akz:=cxi.kl k43 v43
          have dp3:jD H3 wd (.str (ak k)) (.int v0) (upd H3 wd (.dK (putK kw3 (.inr (ak k)) (.int v0)))):=jD.k (k:= .inr (ak k)) ew3 (aV (by omega))
          have cx4:=cxi.put (v:=v0) ew3 k43 v43 hx hkx
          have le4:Kn.Le kni (kni.put (ak k) v0):=Kn.lG hkx
          have Y5:∀p∈ps,(kni.put (ak k) v0) p.1=some p.2:=fun p hp=>le4 _ _ (hall p hp)
          generalize upd H3 wd (.dK (putK kw3 (.inr (ak k)) (.int v0)))=H4 at *
          have dw4:bM H4 wd (.str (ak k)) (some (.int v0)):=by
           obtain⟨kw4,ws4,ew4,_,v44⟩:=cx4.ew
           have:cO kw4 (.inr (ak k))=some (.int v0):=by rw[v44,hv'];rfl
           rw[<-this];exact bM.k (k:= .inr (ak k)) ew4
          walk_at "vs"
          exact q (kni.put (ak k) v0) (odi++[ak k]) v0 _ (cx4.kept (by rw[hv'];simp) (fun z=>cxi.ok _ z hkx) (.inr ⟨_,hrm, .inl Y5⟩) (J8 hrm hr' Y5)) (newput nwi hkx) (hv' _ _) fun p=>(mvi p).trans (J7 egv hkx hr' ev3)
        | false=>
          rw[if_neg (by decide)] at hal
          obtain⟨pq,hpq,uq,huq,hneq⟩:=hal
          walk_at "vs"
          intro kn2 od2 v H4 cx2 nw2 ev2 mv2
          have ek2:=unk nw2 hkx
          obtain⟨kw2,ws2,ew2,k42,v42⟩:=cx2.ew
          have ad7:=cx2.kl k42 v42
          have dp2:jD H4 wd (.str (ak k)) (.int v) (upd H4 wd (.dK (putK kw2 (.inr (ak k)) (.int v)))):=jD.k (k:= .inr (ak k)) ew2 (aV (by omega))
          have cx3:=cx2.put (v:=v) ew2 k42 v42 hx ek2
          have le3:Kn.Le kni (kn2.put (ak k) v):=nw2.1.trans (Kn.lG ek2)
          have nwk:New kn kn2 k:=⟨nwi.1.trans nw2.1,fun y hy=>by
           rcases nw2.2 y hy with z | z
           ·exact nwi.2 y z
           ·exact .inr z⟩
          generalize upd H4 wd (.dK (putK kw2 (.inr (ak k)) (.int v)))=H5 at *
          have em3:=cx3.em
          have hz:((od2.filter (lY rm rc (kn2.put (ak k) v))).map V.str).length<sizeLine:=by
           rw[List.length_map]
           have h1:=List.length_filter_le (lY rm rc (kn2.put (ak k) v)) od2
           have h2:=cx3.ol
           exact aV (by omega)
          have cx4:=cx3.made (x:=ak k) (by rw[hv'];simp) (fun z=>cx2.ok _ z ek2) (.inr ⟨_,hrm, .inr ⟨pq,hpq,uq,le3 _ _ huq,hneq⟩⟩) (Ht hrm hpq (le3 _ _ huq) hneq)
          have dw4:bM (upd H5 ml (.lst ((od2.filter (lY rm rc (kn2.put (ak k) v))).map V.str++[.str (ak k)]))) wd (.str (ak k)) (some (.int v)):=by
           obtain⟨kw4,ws4,ew4,_,v44⟩:=cx4.ew
           have:cO kw4 (.inr (ak k))=some (.int v):=by rw[v44,hv'];rfl
           rw[<-this];exact bM.k (k:= .inr (ak k)) ew4
          walk_at "vs"
          exact q (kn2.put (ak k) v) (od2++[ak k]) v _ cx4 (newput nwk ek2) (hv' _ _) fun p=>((mvi p).trans (mv2 _ _ p egv hr' ek2 fun _ _ y hy=>hy)).trans (J7 egv ek2 hr' ev2)
theorem ud {f g:Addr}{fd gd:FuncData} (aY:FnT K mg "_law_settle" aX ["house","records","name","state"] f fd) (aO:FnT K mg "_law_reckoned" aN ["house","r","records","state"] g gd) (T:Blt mg):∀k0,bh P w K mg base CX0 (8 * k0+1) f fd ["house","records","name","state"] (DP k0)
 | 0=>never fun vs H Q E h=>by
   obtain⟨Hf,h,g,c,rcd,st,wd,ml,n,gv,rc,kr,rm,kn,od,k,_,_,hk,_⟩:=h
   omega
 | k0+1=>Fx aY aO (ud aY aO T k0) (vY aO aY (ud aY aO T k0) T 4) T
end
section
variable {P:Program}{w:World}{K:PySem.W.Frag}{mg:Str->Option Value}{base:Heap}
open Classical in
def hole (H:Hp) (a b:Addr):Hp:=fun z=>if z=a\/z=b then none else H z
theorem Kg {H:Hp}{a b z:Addr} (h1:z≠a) (h2:z≠b):hole H a b z=H z:=by unfold hole;rw[if_neg (fun w=>w.elim h1 h2)]
theorem abk {H:Hp}{a b:Addr}:hole H a b a=none:=by unfold hole;rw[if_pos (.inl rfl)]
theorem abl {H:Hp}{a b:Addr}:hole H a b b=none:=by unfold hole;rw[if_pos (.inr rfl)]
theorem Rz {H:Hp}{a b:Addr}:aW (hole H a b) H:=fun z o e=>by
 unfold hole at e
 by_cases c:z=a\/z=b
 ·rw[if_pos c] at e;cases e
 ·rw[if_neg c] at e;exact e
theorem Jz {H0 H:Hp}{a b:Addr} (s:aW H0 H) (ha:H0 a=none) (hb:H0 b=none):aW H0 (hole H a b):=fun z o e=>by
 rw[Kg (fun w=>by rw[w,ha] at e;cases e) (fun w=>by rw[w,hb] at e;cases e)]
 exact s _ _ e
theorem plK {kvs:List (Key×V)}{ns:List Str}{ch:Kn} (k:iz kvs ns) (h:∀x,cO kvs (.inr x)=(ch x).map V.int):∀q∈kvs,wK q.2=true:=fun q hq=>by
 obtain⟨i,hi⟩:=List.getElem?_of_mem hq
 obtain⟨x,ex,_⟩:=k.at (k:=q.1) (v:=q.2) hi
 have hv:=BW k (k:=q.1) (v:=q.2) hq
 rw[ex,h] at hv
 cases e:ch x with
 | none=>rw[e] at hv;cases hv
 | some u=>rw[e] at hv;rw[<-Option.some.inj hv];rfl
theorem Bj {ns ms:List Str} (h:∀x∈ns,jT x) (h2:∀x∈ms,jT x):SeqAt.shaped (.tuple [.list (ns.map PyData.str), .list (ms.map PyData.str)])=true:=by
 have l1:=qQ ns
 have l2:=qQ ms
 have h4:(PyData.tuple [.list (ns.map PyData.str), .list (ms.map PyData.str)]).depth<=64:=by simp only[PyData.depth,PyData.depthAll];omega
 have h5:(PyData.tuple [.list (ns.map PyData.str), .list (ms.map PyData.str)]).canLay0=true:=by
  have a1:=SeqAt.canLay_of_shaped (qU h)
  have a2:=SeqAt.canLay_of_shaped (qU h2)
  simp only[PyData.canLay0] at a1 a2
  simp[PyData.canLay0,PyData.canLayAll0,a1,a2]
 show(_&&decide _)=true
 rw[h5,decide_eq_true h4];rfl
theorem yF {H:Hp}{t a b:Addr}{ns ms:List Str} (h1:H t=some (.tup [.ref a, .ref b])) (h2:H a=some (.lst (ns.map V.str))) (h3:H b=some (.lst (ms.map V.str))):oE K H (.ref t) (.tuple [.list (ns.map PyData.str), .list (ms.map PyData.str)]):=
 .tup (SqT.of h1) (.cons (.lst (SqL.of h2) (lE ns)) (.cons (.lst (SqL.of h3) (lE ms)) .nil))
structure J9 (H0:Hp) (st wd ml:Addr) (n:Nat) (gv:Kn) (rc:Rn) (rm:Rm) (us:List Str) (kn:Kn) (od:List Str) (H:Hp):Prop where
 sm:aW H0 H
 es:H st=some (.lst [.ref wd, .ref ml])
 ew:∃kw ws,H wd=some (.dK kw)/\iz kw ws/\∀x,cO kw (.inr x)=(kn x).map V.int
 em:H ml=some (.lst ((od.filter (lY rm rc kn)).map V.str))
 kd:∀x,kn x≠none->x∈nmK n
 on:od.Nodup
 ok:∀x∈od,kn x≠none
 fx:∀x∈od,Fxd rm kn x
 ru:Runs gv rc us (kn0,[]) (kn,od)
section
variable {H0 H H':Hp}{st wd ml h2 gd hc rd:Addr}{n:Nat}{gv:Kn}{rc:Rn}{rm:Rm}{us od:List Str}{kn:Kn}{kg kc kr:List (Key×V)}
theorem J9.same (j:J9 H0 st wd ml n gv rc rm us kn od H) (s:aW H H'):J9 H0 st wd ml n gv rc rm us kn od H':=by
 obtain⟨sm,es,⟨kw,ws,e1,e2⟩,em,kd,on,ok,fx,ru⟩:=j
 exact⟨sm.trans s,s _ _ es,⟨kw,ws,s _ _ e1,e2⟩,s _ _ em,kd,on,ok,fx,ru⟩
theorem J9.c9 (j:J9 H0 st wd ml n gv rc rm us kn od H) (fw:H0 wd=none) (fm:H0 ml=none) (ne:wd≠ml) (nsw:st≠wd) (nsm:st≠ml) (eh:H h2=some (.tup [.ref gd, .ref hc])) (eg:H0 gd=some (.dK kg)) (ec:H0 hc=some (.dK kc)) (bd:Bld H0 kg kc n gv rc) (er:H0 rd=some (.dK kr)) (rD:pQ H0 kr n rm) (n17:n<=17) (hr:∀x r ps v,rm x=some (r,ps,v)->rc x=some r):C9 (hole H wd ml) h2 gd hc rd st wd ml n gv rc kr rm kn od H:=by
 have S:=Jz j.sm fw fm
 obtain⟨kw,ws,e1,e2⟩:=id j.ew
 have n1:h2≠wd:=fun z=>by rw[z,e1] at eh;cases eh
 have n2:h2≠ml:=fun z=>by rw[z,j.em] at eh;cases eh
 exact⟨Rz,abk,abl,ne,⟨kg,kc,(Kg n1 n2).trans eh,S _ _ eg,S _ _ ec,bd.tups (aW.tups S)⟩,S _ _ er,rD.map fun b q z=>z.same S,(Kg nsw nsm).trans j.es,n17,j.ew,j.em,j.kd,j.on,j.ok,j.fx,hr⟩
theorem J9.of {kn':Kn}{od':List Str}{x:Str} (j:J9 H0 st wd ml n gv rc rm us kn od H) (fw:H0 wd=none) (fm:H0 ml=none) (c:C9 (hole H wd ml) h2 gd hc rd st wd ml n gv rc kr rm kn' od' H') (m:Mvs gv rc ([x],kn,od) ([],kn',od')):J9 H0 st wd ml n gv rc rm (us++[x]) kn' od' H':=
 ⟨(Jz j.sm fw fm).trans c.sm,c.sm _ _ c.es,c.ew,c.em,c.kd,c.on,c.ok,c.fx,j.ru.snoc m⟩
end
abbrev cZ:Stmt:=top 35
theorem lW:bR ["script","pool","house","wishes","records","changes","k","cell","name","given","state","made","other","handed","found"] ["script"] (aa cZ):=⟨rfl,rfl,rfl,by decide +kernel,rfl,by decide +kernel,by decide +kernel⟩
theorem Mz:Loc (aa cZ) "pool":=by decide +kernel
theorem oU:(aa cZ).names.lookup ("_law_pool":Str)=some NameKind.globalImplicit:=by decide +kernel
theorem oX:aF (aa cZ) "script":=by decide +kernel
theorem oV:(("_law_pool":Str)==("__debug__":Str))=false:=by decide +kernel
theorem Kh:Loc (aa cZ) "house":=by decide +kernel
theorem Dd:(aa cZ).names.lookup ("_law_house":Str)=some NameKind.globalImplicit:=by decide +kernel
theorem jQ:(aa cZ).names.lookup ("_law_take":Str)=some NameKind.globalImplicit:=by decide +kernel
theorem Ff:aF (aa cZ) "pool":=by decide +kernel
theorem jR:(("_law_take":Str)==("__debug__":Str))=false:=by decide +kernel
theorem De:(("_law_house":Str)==("__debug__":Str))=false:=by decide +kernel
theorem zG:Loc (aa cZ) "wishes":=by decide +kernel
theorem Bk:(aa cZ).names.lookup ("_law_wishes":Str)=some NameKind.globalImplicit:=by decide +kernel
theorem eV:aF (aa cZ) "house":=by decide +kernel
theorem Bl:(("_law_wishes":Str)==("__debug__":Str))=false:=by decide +kernel
theorem zH:(aa cZ).names.lookup ("sorted":Str)=some NameKind.globalImplicit:=by decide +kernel
theorem xZ:(aa cZ).names.lookup ("list":Str)=some NameKind.globalImplicit:=by decide +kernel
theorem yc:("list":Str)≠"__name__":=by decide +kernel
theorem yd:(("list":Str)==("__debug__":Str))=false:=by decide +kernel
theorem zJ:("sorted":Str)≠"__name__":=by decide +kernel
theorem zK:(("sorted":Str)==("__debug__":Str))=false:=by decide +kernel
theorem Ib:Loc (aa cZ) "records":=by decide +kernel
theorem Df:(aa cZ).names.lookup ("_law_fresh":Str)=some NameKind.globalImplicit:=by decide +kernel
theorem oY:aF (aa cZ) "wishes":=by decide +kernel
theorem Dg:(("_law_fresh":Str)==("__debug__":Str))=false:=by decide +kernel
theorem Ie:Loc (aa cZ) "changes":=by decide +kernel
theorem Kl:(aa cZ).names.lookup ("range":Str)=some NameKind.globalImplicit:=by decide +kernel
theorem UJ:Loc (aa cZ) "k":=by decide +kernel
theorem MF:Loc (aa cZ) "cell":=by decide +kernel
theorem UL:aF (aa cZ) "k":=by decide +kernel
theorem ye:aF (aa cZ) "cell":=by decide +kernel
theorem Fg:Loc (aa cZ) "name":=by decide +kernel
theorem Oo:(aa cZ).names.lookup ("len":Str)=some NameKind.globalImplicit:=by decide +kernel
theorem Oq:("len":Str)≠"__name__":=by decide +kernel
theorem Ot:(("len":Str)==("__debug__":Str))=false:=by decide +kernel
theorem oA:aF (aa cZ) "changes":=by decide +kernel
theorem yf:aF (aa cZ) "name":=by decide +kernel
theorem Km:Loc (aa cZ) "given":=by decide +kernel
theorem pL:(aa cZ).names.lookup ("dict":Str)=some NameKind.globalImplicit:=by decide +kernel
theorem pM:("dict":Str)≠"__name__":=by decide +kernel
theorem pN:(("dict":Str)==("__debug__":Str))=false:=by decide +kernel
theorem Dh:aF (aa cZ) "given":=by decide +kernel
theorem Ko:Loc (aa cZ) "state":=by decide +kernel
theorem Bm:(aa cZ).names.lookup ("_law_settle":Str)=some NameKind.globalImplicit:=by decide +kernel
theorem Di:aF (aa cZ) "state":=by decide +kernel
theorem rP:aF (aa cZ) "records":=by decide +kernel
theorem Bo:(("_law_settle":Str)==("__debug__":Str))=false:=by decide +kernel
theorem MJ:Loc (aa cZ) "made":=by decide +kernel
theorem Kp:Loc (aa cZ) "other":=by decide +kernel
theorem yg:aF (aa cZ) "made":=by decide +kernel
theorem IW:Loc (aa cZ) "handed":=by decide +kernel
theorem Kq:Loc (aa cZ) "found":=by decide +kernel
theorem pY:(aa cZ).names.lookup ("reach_of":Str)=some NameKind.globalImplicit:=by decide +kernel
theorem dU:aF (aa cZ) "handed":=by decide +kernel
theorem pZ:(("reach_of":Str)==("__debug__":Str))=false:=by decide +kernel
theorem qJ:aF (aa cZ) "found":=by decide +kernel
theorem Dj:aF (aa cZ) "other":=by decide +kernel
theorem Dk:(aa cZ).names.lookup ("isinstance":Str)=some NameKind.globalImplicit:=by decide +kernel
theorem Kr:(aa cZ).names.lookup ("tuple":Str)=some NameKind.globalImplicit:=by decide +kernel
theorem Ks:("tuple":Str)≠"__name__":=by decide +kernel
theorem Ku:(("tuple":Str)==("__debug__":Str))=false:=by decide +kernel
theorem Dl:("isinstance":Str)≠"__name__":=by decide +kernel
theorem Dm:(("isinstance":Str)==("__debug__":Str))=false:=by decide +kernel
theorem abm {f g1 g2 g3 g4 g5 g6 g7:Addr}{fd gd1 gd2 gd3 gd4 gd5 gd6 gd7:FuncData} (UT:FnT K mg "law" cZ ["script"] f fd)
 (dm:FnT K mg "_law_pool" iW ["script","k"] g1 gd1) (rH:bh P w K mg base CX0 2 g1 gd1 ["script","k"] (NB K))
 (aB:FnT K mg "_law_take" dN ["pool","many"] g2 gd2) (bF:bh P w K mg base CX0 1 g2 gd2 ["pool","many"] wI)
 (jX:FnT K mg "_law_house" bJ ["script","start","many"] g3 gd3) (MK:bh P w K mg base CX0 7 g3 gd3 ["script","start","many"] (YL K))
 (jr:FnT K mg "_law_wishes" dz ["house","pool"] g4 gd4) (Kv:bh P w K mg base CX0 2 g4 gd4 ["house","pool"] YQ)
 (jY:FnT K mg "_law_fresh" d8 ["house","wishes"] g5 gd5) (MN:bh P w K mg base CX0 138 g5 gd5 ["house","wishes"] YM)
 (aY:FnT K mg "_law_settle" aX ["house","records","name","state"] g6 gd6) (iH:bh P w K mg base CX0 137 g6 gd6 ["house","records","name","state"] (DP 17))
 (fW:FnT K mg "reach_of" cG ["house","records","wishes","changes"] g7 gd7) (Bp:bh P w K mg base CX0 18 g7 gd7 ["house","records","wishes","changes"] Qt)
 (T:Blt mg):bh P w K mg base CX0 139 f fd ["script"] (Pz K):=by
 refine UT.F.okQ lW (fun vs H Q E h=> ?_) (fun cdv A outer s H vs Q E hr h=> ?_)
 ·obtain⟨a,ns,rfl,_⟩:=h
  rfl
 obtain⟨a,zs,rfl,hS,h63,q⟩:=h
 refine⟨_,(aq (bK (i:=1) lW.nd rfl Mz (aL (rH.mono (by omega)) hr oU dm.m dm.F.kp dm.b .nil bz (aJ (aj 0 oX) (jw aA az)) oV))
  (aq (bK (i:=2) lW.nd rfl Kh (aL (MK.mono (by omega)) hr Dd jX.m jX.F.kp jX.b .nil bz (aJ (aj 0 oX) (jw aA (zQ (cT lX aA (aL (bF.mono (by omega)) hr jQ aB.m aB.F.kp aB.b .nil bz (aJ (aj 1 Ff) (jw aA az)) jR)) az))) De))
  (aq (bK (i:=3) lW.nd rfl zG (aL (Kv.mono (by omega)) hr Bk jr.m jr.F.kp jr.b .nil bz (aJ (aj 2 eV) (uo (aL (rH.mono (by omega)) hr oU dm.m dm.F.kp dm.b .nil bz (aJ (aj 0 oX) (jw aA az)) oV) az)) Bl))
  (aq (abf (cD di (aL (bF.mono (by omega)) hr jQ aB.m aB.F.kp aB.b .nil bz (aJ (aj 1 Ff) (jw aA az)) jR) aA (aU _)) (aD (bK (i:=3) lW.nd rfl zG (cX GX zH T.Gx Ds (zQ (cT Pr (fj (BK rfl) xZ T.zP u9 (fD (aK aG (aj 2 eV) aA) az) yc yd) (fj (BK rfl) xZ T.zP u9 (fD (aK aG (aj 2 eV) aA) az) yc yd)) az) zJ zK))) bH)
  (aq (bK (i:=4) lW.nd rfl Ib (aK cL (aL (MN.mono (by omega)) hr Df jY.m jY.F.kp jY.b .nil bz (aJ (aj 2 eV) (aJ (aj 3 oY) az)) Dg) aA))
  (aq (bK (i:=5) lW.nd rfl Ie lF)
  (aq (Dv PassesOwn.never rfl (Rf Kl T.FP (jw aA (jw aA az))) (nC (i:=6) lW.nd rfl UJ) (aq (bK (i:=7) lW.nd rfl MF (aL (rH.mono (by omega)) hr oU dm.m dm.F.kp dm.b .nil bz (aJ (aj 0 oX) (aJ (aj 6 UL) az)) oV))
  (aD (cN (cD di (aL (bF.mono (by omega)) hr jQ aB.m aB.F.kp aB.b .nil bz (aJ (aj 7 ye) (jw aA az)) jR) aA (aU _)) (aq (bK (i:=8) lW.nd rfl Fg (aK cL (cX (Oi rfl) zH T.Gx Ds (fD (aK aG (aj 2 eV) aA) az) zJ zK) (aL (bF.mono (by omega)) hr jQ aB.m aB.F.kp aB.b .nil bz (aJ (aj 7 ye) (uo (cX Wh Oo T.vU pO (fD (aK aG (aj 2 eV) aA) az) Oq Ot) az)) jR)))
  (aD (jc (cg hr) (aj 5 oA) (aj 8 yf) (cT mZ (cT lX (cU (cg hr) (aK aG (aj 2 eV) aA) (aj 8 yf)) (aL (bF.mono (by omega)) hr jQ aB.m aB.F.kp aB.b .nil bz (aJ (aj 7 ye) (jw aA az)) jR)) aA)))) bH))))
  (aq (bK (i:=9) lW.nd rfl Km (fj uv pL T.Dw yp (fD (aK aG (aj 2 eV) aA) az) pM pN))
  (aq (eN (Qs (aj 9 Dh) (aj 5 oA) ⟨rfl,rfl,rfl,rfl⟩))
  (aq (bK (i:=10) lW.nd rfl Ko (gB (aaV lF (Nx (gB az) az))))
  (aq (Dv PassesOwn.never rfl (vf (aj 3 oY)) (nC (i:=8) lW.nd rfl Fg) (aD (eN (aL (iH.mono (by omega)) hr Bm aY.m aY.F.kp aY.b .nil bz (JR (ie (aJ (aj 9 Dh) (fD (aK aG (aj 2 eV) aA) az))) (aJ (aj 4 rP) (aJ (aj 8 yf) (aJ (aj 10 Di) az)))) Bo))))
  (aq (bK (i:=11) lW.nd rfl MJ (aK cL (aj 10 Di) aA))
  (aq (Gs (i:=12) rfl lW.nd rfl Kp (n:=1) (fr:=[4,10]) (N:=["name","records","state"]) (Ew (scX:=aa cZ) (NX:=["script","pool","house","wishes","records","changes","k","cell","name","given","state","made","other","handed","found"]) rfl rfl (by decide +kernel)) (vf (aj 11 yg)) (fun _ _ _ _ _=>(qgx (i:=0) (show List.Nodup (α:=Str) ["name","records","state"] by decide) (JL (by decide +kernel)))) (fun _ _ _ _ _=>(Gu (Il (Gq (tE (cg hr) (aj 0 (lD.ok (by decide +kernel))) (aj 1 (lD.ok (by decide +kernel)))) (Bx (cD JP (aK (By (K:=K) rfl) (cU (cg hr) (aj 1 (lD.ok (by decide +kernel))) (aj 0 (lD.ok (by decide +kernel)))) aA) (cU (cg hr) (aK (yt (K:=K) rfl) (aj 2 (lD.ok (by decide +kernel))) aA) (aj 0 (lD.ok (by decide +kernel)))) (aU _))))))) (fun _ _ _ _ _=>(aj 0 (lD.ok (by decide +kernel)))) rfl)
  (aq (bK (i:=13) lW.nd rfl IW (gB (JR (ie (uo (fj uv pL T.Dw yp (fD (aK aG (aj 2 eV) aA) az) pM pN) (uo (fj uv pL T.Dw yp (fD (aK aG (aj 2 eV) aA) az) pM pN) az))) (uo (fj uv pL T.Dw yp (aJ (aj 4 rP) az) pM pN) (uo (fj Gw xZ T.zP u9 (aJ (aj 3 oY) az) yc yd) (uo (fj uv pL T.Dw yp (aJ (aj 5 oA) az) pM pN) az))))))
  (aq (bK (i:=14) lW.nd rfl Kq (aL (Bp.mono (by omega)) hr pY fW.m fW.F.kp fW.b .nil bz (fD (aK cL (aj 13 dU) aA) (fD (aK cL (aj 13 dU) aA) (fD (aK cL (aj 13 dU) aA) (fD (aK cL (aj 13 dU) aA) az)))) pZ))
  (aq (cN (Il (Jq (Nr (qO (cX zO Dk T.j0 jt (aJ (aj 14 qJ) (aJ (vd (v:= .ty "tuple") Kr T.FQ Bw rfl Ks Ku) az)) Dl Dm))) (Jq (cD (GC hr.units) (aj 14 qJ) (ie (aJ (aj 11 yg) (aJ (aj 12 Dj) az))) (aU _)) (Gp (cD (Rt hr.u66) (aj 13 dU) (gB (aJ (aj 2 eV) (aJ (aj 4 rP) (aJ (aj 3 oY) (aJ (aj 5 oA) az))))) (aU _)))))) (aD (aZ Pn)) bH)
  (aq (eN (qP PySem.F.plainAttrs_list PySem.F.slot_list_append PySem.F.type_list_append ig (aK aG (aj 14 qJ) aA) (jw bY az)))
  (aq (eN (qP PySem.F.plainAttrs_list PySem.F.slot_list_append PySem.F.type_list_append ig (aK aG (aj 14 qJ) aA) (jw bY az)))
  (aq (cN (cD (GC hr.units) (aL (Bp.mono (by omega)) hr pY fW.m fW.F.kp fW.b .nil bz (fD (aK cL (aj 13 dU) aA) (fD (aK cL (aj 13 dU) aA) (Nx (gB az) (fD (aK cL (aj 13 dU) aA) az)))) pZ) (ie (Nx (gB az) (Nx (gB az) az))) (aU _)) (aD (aZ Pn)) bH)
  (aD (aZ (pP (Gz hr.units) (aL (Bp.mono (by omega)) hr pY fW.m fW.F.kp fW.b .nil bz (fD (aK cL (aj 13 dU) aA) (fD (aK cL (aj 13 dU) aA) (fD (aK cL (aj 13 dU) aA) (fD (aK cL (aj 13 dU) aA) az)))) pZ) (ie (aJ (aj 11 yg) (aJ (aj 12 Dj) az))) (aU _))))))))))))))))))))))), ?_⟩
 walk_at "vs"
 intro p H1 s1 hp0 pl1
 have fr:∀y∈[p],H y=none:=fun y hy=>by
  have:y=p:=by simpa using hy
  rw[this];exact hp0
 have hS1:=SqL.same s1 hS
 walk_at "vs"
 intro n2 H2 n20 n21 b2 pl2
 have S2:=iM s1 fr b2
 have hS2:=SqL.same S2 hS
 obtain⟨m,rfl⟩:=Int.eq_ofNat_of_zero_le n20
 have em:(2+(m:Int))=((2+m:Nat):Int):=by omega
 have hm:m<15:=by omega
 refine⟨2,(m:Int),rfl,rfl, ?_⟩
 obtain⟨n,hn⟩:∃n,n=2+m:=⟨_,rfl⟩
 have n17:n<=17:=by omega
 have n1:1<=n:=by omega
 refine⟨a,zs,1,n,by show [V.ref a,V.int 1,V.int (2+(m:Int))]=_;rw[em,hn],hS2,by omega,by omega,n17,fun h hg hc gv rc H3 s3 hh3 hg3 hc3 ho3=> ?_⟩
 have S3:=S2.trans s3
 have hS3:=SqL.same S3 hS
 have pl3:=pl2.same s3
 have npg:p≠hg:=fun z=>by
  obtain⟨_,_,_,e,_⟩:=pl2
  rw[z,hg3] at e;cases e
 have npc:p≠hc:=fun z=>by
  obtain⟨_,_,_,e,_⟩:=pl2
  rw[z,hc3] at e;cases e
 walk_at "vs"
 intro p2 H4 s4 hp2 pl4
 have fr2:∀y∈[p2],H3 y=none:=fun y hy=>by
  have:y=p2:=by simpa using hy
  rw[this];exact hp2
 have akA:p2≠hg:=fun z=>by
  obtain⟨_,_,_,e,_⟩:=ho3
  rw[z,e] at hp2;cases hp2
 have akB:p2≠hc:=fun z=>by
  obtain⟨_,_,_,_,e,_⟩:=ho3
  rw[z,e] at hp2;cases hp2
 have ho4:=ho3.same s4
 walk_at "vs"
 intro wl0 ws0 H5 b5 aea aeb aec
 have s5:=iM s4 fr2 b5
 have ho5:=ho3.same s5
 have pl5:=pl3.same s5
 have nwp:wl0∉[p]:=fun z=>by
  have z:wl0=p:=by simpa using z
  have aib:=pl3.same s4
  obtain⟨_,_,_,e,_⟩:=aib
  rw[<-z,aea] at e;cases e
 walk_at "vs"
 obtain⟨N,hN⟩:∃N:L2.St->Hp->Prop,N=fun σ' H'=>∃(H6:Hp) (wl:Addr) (ws:List Str),aW H H6/\mD H6 h hg hc n gv rc/\aW H6 H'/\σ'=[some (.ref a),some (.ref p),some (.ref h),some (.ref wl),none,none,none,none,none,none,none,none,none,none,none]/\H' wl=some (.lst (ws.map V.str))/\∀x∈ws,x∈nmK n:=⟨_,rfl⟩
 refine⟨N, ?_, ?_⟩
 rotate_left
 ·walk_at "vs"
  intro n6 H6 n60 n61 b6 pl6
  have S6:=iM (S3.trans s5) fr b6
  have ho6:=ho5.but b6 (pl5.tups b6) (by simpa using Ne.symm npg) (by simpa using Ne.symm npc)
  have aic:=b6 _ _ nwp aeb
  walk_at "vs"
  refine zM (fun c1=> ?_) (fun c1=> ?_)
  ·obtain⟨kg,kc,eh,eg,ec,bd⟩:=id ho6
   obtain⟨gs,cs,kgk,kck,hlen⟩:=bd.k
   walk_at "vs"
   intro l1 hl1
   rw[yu kgk.k]
   have s4:=aC (.lst (gs.map V.str)) hl1
   have e4:upd H6 l1 (.lst (gs.map V.str)) l1=some (.lst (gs.map V.str)):=ao
   have eh4:=s4 _ _ eh
   have ec4:=s4 _ _ ec
   generalize upd H6 l1 (.lst (gs.map V.str))=H7 at *
   walk_at "vs"
   intro l2 hl2
   rw[yu kck.k]
   have s5:=aC (.lst (cs.map V.str)) hl2
   have e45:=s5 _ _ e4
   have e5:upd H7 l2 (.lst (cs.map V.str)) l2=some (.lst (cs.map V.str)):=ao
   have T5:=s4.trans s5
   generalize upd H7 l2 (.lst (cs.map V.str))=H8 at *
   have hz:(gs.map V.str).length+(cs.map V.str).length<=sizeLine:=by rw[List.length_map,List.length_map];exact Nat.le_of_lt (aV (by omega))
   walk_at "vs"
   intro l3 hl3
   rw[<-List.map_append]
   have s6:=aC (.lst ((gs++cs).map V.str)) hl3
   have e6:upd H8 l3 (.lst ((gs++cs).map V.str)) l3=some (.lst ((gs++cs).map V.str)):=ao
   have T6:=T5.trans s6
   generalize upd H8 l3 (.lst ((gs++cs).map V.str))=H9 at *
   refine⟨l3,gs++cs,rfl,SqL.of e6,by rw[List.length_append];omega,fun l4 us hl4 hperm=> ?_⟩
   have s7:=aC (.lst (us.map V.str)) hl4
   have T7:=T6.trans s7
   walk_at "vs"
   rw[hN]
   refine⟨H6,l4,us,S6,ho6,T7,rfl,ao,fun x hx=> ?_⟩
   rcases List.mem_append.mp (hperm.mem_iff.mp hx) with z | z
   ·refine bd.ok.gk x fun e=> ?_
    exact kgk.none.mp (by rw[bd.g,e];rfl) z
   ·cases e:rc x with
    | none=>exact absurd z (kck.none.mp (bd.rn x e))
    | some r=>
      obtain⟨k,hk,ek,_⟩:=bd.ok.rk x r e
      exact bT.mpr ⟨k,hk,ek⟩
  ·walk_at "vs"
   rw[hN]
   exact⟨H6,wl0,ws0,S6,ho6,fun _ _ e=>e,rfl,aic,aec⟩
 intro σ' H7 hx7
 rw[hN] at hx7
 obtain⟨H6,wl,ws,S6,ho6,s7,rfl,aed,hws⟩:=hx7
 clear hN N
 clear b5 s5 s4 hS1 hS2 hS3 pl4 pl5 ho4 ho5 aeb aec aea b2 s1 s3 pl2 pl3 nwp pl1
 have ho7:=ho6.same s7
 have S7:=S6.trans s7
 clear ho6 s7 S6 ho3 S2 S3
 walk_at "vs"
 intro st0 wd0 rd knF rm H8 s8 W8 aid hrd sa hk
 have aie:=sa.e
 have sok:=sa.ok
 have ho8:=ho7.same s8
 obtain⟨kg,kc,eh,eg,ec,bd⟩:=id ho8
 obtain⟨gs,cs,kgk,kck,hlen⟩:=bd.k
 obtain⟨kr,er,rD⟩:=sa.ahA bd.ok
 have hat:atI [V.ref wd0,V.ref rd] 1=some (.ref rd):=rfl
 have abn:=s8 _ _ aed
 have SH8:=S7.trans s8
 have x0g:∃y,y∈gs:=⟨ak 0,Decidable.byContradiction fun w=>by
  have:=kgk.none.mpr w
  rw[bd.g] at this
  cases e:gv (ak 0) with
  | none=>exact bd.ok.g0 (by omega) e
  | some u=>rw[e] at this;cases this⟩
 have hgsl:0<gs.length:=by
  obtain⟨y,hy⟩:=x0g
  exact List.length_pos_of_mem hy
 clear ho7 aed S7 W8 aid hrd sa hk
 walk_at "vs"
 intro cd hcd
 have s9:=aC (.dK []) hcd
 have ecd:upd H8 cd (.dK []) cd=some (.dK []):=ao
 generalize upd H8 cd (.dK [])=H9 at *
 have kk0:iz [] []:=⟨rfl,by simp⟩
 have aee:∀x,cO ([]:List (Key×V)) (.inr x)=((kn0:Kn) x).map V.int:=fun x=>by rw[uf];rfl
 have aef:∀x,(kn0:Kn) x≠none->gv x≠none:=fun x hx=>absurd rfl hx
 walk_at "vs"
 refine Jd (fun i σ H'=>(∃t1 t2 t3,σ=[some (.ref a),some (.ref p),some (.ref h),some (.ref wl),some (.ref rd),some (.ref cd),t1,t2,t3,none,none,none,none,none,none])/\aW H8 H'/\∃(kch:List (Key×V)) (ch:Kn) (ns:List Str),H' cd=some (.dK kch)/\iz kch ns/\(∀x,cO kch (.inr x)=(ch x).map V.int)/\(∀x,ch x≠none->gv x≠none)) ?_ ?_ ?_
 ·exact⟨⟨none,none,none,rfl⟩,s9,[],kn0,[],ecd,kk0,aee,aef⟩
 ·intro i σ H11 hi hP
  obtain⟨⟨t1,t2,t3,rfl⟩,S11,kch,ch,ns,W7,kkc,hch,hsub⟩:=hP
  have akC:i<42:=hi
  have akD:=SqL.same (SH8.trans S11) hS
  have aj7:gs.length<=17:=by omega
  walk_at "vs"
  intro pc H12 s12 hpc plc
  have S12:=S11.trans s12
  have aif:=same_none S11 hpc
  have fr8:∀y∈[pc],H8 y=none:=fun y hy=>by
   have:y=pc:=by simpa using hy
   rw[this];exact aif
  have npd:cd∉[pc]:=fun z=>by
   have:cd=pc:=by simpa using z
   rw[<-this,W7] at hpc;cases hpc
  have aih:=s12 _ _ W7
  walk_at "vs"
  intro n13 H13 akE akF b13 Y6
  have S13:=iM S12 fr8 b13
  have aeg:=b13 _ _ npd aih
  walk_at "vs"
  refine zM (fun c1=> ?_) (fun c1=> ?_)
  ·have akG:=S13 _ _ eh
   have akH:Rd H13 hg (.dK kg):= .inl (S13 _ _ eg)
   have h64:kg.length<64:=by rw[kgk.len];omega
   have hkk:=kgk.k
   walk_at "vs"
   intro lso us2 hlso UW _
   have s14:=aC (.lst (us2.map V.str)) hlso
   have eso:upd H13 lso (.lst (us2.map V.str)) lso=some (.lst (us2.map V.str)):=ao
   have S14:=S13.trans s14
   have aii:=s14 _ _ aeg
   have aj8:=Y6.same s14
   have nso:lso∉[pc]:=fun z=>Y6.ne hlso (by simpa using z)
   generalize upd H13 lso (.lst (us2.map V.str))=H14 at *
   have akI:=S14 _ _ eh
   have aj9:=S14 _ _ eg
   have hl0:0<(kg.length:Int):=by rw[kgk.len];omega
   have hlog:(kg.length:Int).natAbs.log2<9000:=Nat.lt_of_le_of_lt (Nat.log2_le_self _) (by rw[kgk.len];omega)
   walk_at "vs"
   intro n15 H15 aij akJ b15 aka
   have S15:=iM S14 fr8 b15
   have aik:=b15 _ _ npd aii
   have akb:=b15 _ _ nso eso
   obtain⟨x,hx,hxm⟩:∃x,atI (us2.map V.str) n15=some (.str x)/\x∈us2:=by
    obtain⟨j,rfl⟩:=Int.eq_ofNat_of_zero_le aij
    have hj:j<us2.length:=by
     rw[UW.length_eq,<-kgk.len];omega
    exact⟨us2[j],jZ (by rw[List.getElem?_map,List.getElem?_eq_getElem hj];rfl),List.getElem_mem hj⟩
   have hxg:x∈gs:=UW.mem_iff.mp hxm
   obtain⟨g0,hg0⟩:∃g0,gv x=some g0:=by
    cases e:gv x with
    | none=>exact absurd hxg (kgk.none.mp (by rw[bd.g,e];rfl))
    | some u=>exact⟨u,rfl⟩
   have akK:=S15 _ _ eh
   have akL:bM H15 hg (.str x) (some (.int g0)):=by
    have:cO kg (.inr x)=some (.int g0):=by rw[bd.g,hg0];rfl
    rw[<-this];exact bM.k (k:= .inr x) (S15 _ _ eg)
   walk_at "vs"
   intro n16 H16 akM akN b16 akc
   have S16:=iM S15 fr8 b16
   have ail:=b16 _ _ npd aik
   have hkl:kch.length<=17:=by
    have:kch.length<=n:=by
     rw[kkc.len,<-jd n]
     exact gC kkc.nd fun y hy=>bd.ok.gk y (hsub y fun z=>kkc.none.mp (by rw[hch,z];rfl) hy)
    omega
   have dput:jD H16 cd (.str x) (.int (g0+n16 - 20)) (upd H16 cd (.dK (putK kch (.inr x) (.int (g0+n16 - 20))))):=jD.k (k:= .inr x) ail (aV (by omega))
   walk_at "vs"
   obtain⟨ns',kkc'⟩:=Ux kkc x (.int (g0+n16 - 20))
   refine⟨⟨_,_,_,rfl⟩,fX _ hcd S16,_,ch.put x (g0+n16 - 20),ns',ao,kkc',vh hch x (g0+n16 - 20),fun y hy=> ?_⟩
   unfold Kn.put at hy
   by_cases z:y=x
   ·rw[z,hg0];simp
   ·rw[if_neg z] at hy;exact hsub y hy
  ·walk_at "vs"
   exact⟨⟨_,_,_,rfl⟩,S13,kch,ch,ns,aeg,kkc,hch,hsub⟩
 ·intro σ H10 hP
  obtain⟨⟨t1,t2,t3,rfl⟩,S10,kch,ch,ns,Qv,kkc,hch,hsub⟩:=hP
  have aim:=S10 _ _ eh
  have ain:Rd H10 hg (.dK kg):= .inl (S10 _ _ eg)
  have hkl:kch.length<=17:=by
   have:kch.length<=n:=by
    rw[kkc.len,<-jd n]
    exact gC kkc.nd fun y hy=>bd.ok.gk y (hsub y fun z=>kkc.none.mp (by rw[hch,z];rfl) hy)
   omega
  walk_at "vs"
  intro gd hgd
  have s11:=aC (.dK kg) hgd
  have egd:upd H10 gd (.dK kg) gd=some (.dK kg):=ao
  have aeh:=s11 _ _ Qv
  have ncd:gd≠cd:=fun z=>by rw[z,Qv] at hgd;cases hgd
  generalize upd H10 gd (.dK kg)=H11 at *
  have isd:IsD H11 gd:= .inl ⟨_, .inl egd⟩
  have hz:kg.length+kch.length<=sizeLine:=by
   have h2:=kgk.len
   exact Nat.le_of_lt (aV (by omega))
  walk_at "vs"
  have Y7:upd H11 gd (.dK (jj kg kch)) gd=some (.dK (jj kg kch)):=ao
  have s12:aW H10 (upd H11 gd (.dK (jj kg kch))):=fX _ hgd s11
  generalize upd H11 gd (.dK (jj kg kch))=H12 at *
  have S12:=S10.trans s12
  have aei:Bld H12 (jj kg kch) kc n (gv.over ch) rc:=Mj bd S12 kkc hch hsub
  have aej:=S12 _ _ ec
  have aek:=S12 _ _ er
  have ael:=rD.map fun b q z=>z.same S12
  clear egd aeh isd hz s11
  walk_at "vs"
  intro wd hwd
  have s13:=aC (.dK []) hwd
  have ewd:upd H12 wd (.dK []) wd=some (.dK []):=ao
  generalize upd H12 wd (.dK [])=H13 at *
  walk_at "vs"
  intro ml hml
  have s14:=aC (.lst []) hml
  have eml:upd H13 ml (.lst []) ml=some (.lst []):=ao
  have U0:=s14 _ _ ewd
  have Y8:=same_none s13 hml
  have nwm:wd≠ml:=fun z=>by rw[<-z,ewd] at hml;cases hml
  generalize upd H13 ml (.lst [])=H14 at *
  walk_at "vs"
  intro st hst
  have s15:=aC (.lst [.ref wd, .ref ml]) hst
  have est:upd H14 st (.lst [.ref wd, .ref ml]) st=some (.lst [.ref wd, .ref ml]):=ao
  have Y9:=s15 _ _ U0
  have Za:=s15 _ _ eml
  have nsw:st≠wd:=fun z=>by rw[z,U0] at hst;cases hst
  have nsm:st≠ml:=fun z=>by rw[z,eml] at hst;cases hst
  have U3:=s13.trans (s14.trans s15)
  generalize upd H14 st (.lst [.ref wd, .ref ml])=H15 at *
  have j15:J9 H12 st wd ml n (gv.over ch) rc rm [] kn0 [] H15:=⟨U3,est,⟨[],[],Y9,kk0,aee⟩,Za,fun x hx=>absurd rfl hx,by simp,by simp,by simp,rfl⟩
  clear s13 s14 s15 ewd eml U0 hst hml est Y9 Za
  have hrc:∀x r ps v,rm x=some (r,ps,v)->rc x=some r:=fun x r ps v e=>(sok.b _ _ _ _ e).1
  have aem:=(S12.trans U3) _ _ abn
  walk_at "vs"
  refine Bt (xs:=ws.map V.str) (fun i σ H'=>(∃t1 t2 t3,σ=[some (.ref a),some (.ref p),some (.ref h),some (.ref wl),some (.ref rd),some (.ref cd),t1,t2,t3,some (.ref gd),some (.ref st),none,none,none,none])/\∃kn od,J9 H12 st wd ml n (gv.over ch) rc rm (ws.take i) kn od H') ?_ ?_ ?_ ?_
  ·exact⟨⟨_,_,_,rfl⟩,kn0,[],j15⟩
  ·intro i σ H' _ hP
   obtain⟨_,kn,od,j⟩:=hP
   exact SqL.of ((S12.trans j.sm) _ _ abn)
  ·intro i v σ H16 hv hP
   obtain⟨⟨t1,t2,t3,rfl⟩,kn,od,j⟩:=hP
   obtain⟨x,hxi,rfl⟩:∃x,ws[i]? =some x/\v=V.str x:=by
    rw[List.getElem?_map] at hv
    cases e:ws[i]? with
    | none=>rw[e] at hv;cases hv
    | some x=>rw[e] at hv;exact⟨x,rfl,(Option.some.inj hv).symm⟩
   obtain⟨k,hk,rfl⟩:=bT.mp (hws x (List.mem_of_getElem? hxi))
   have akO:=(S12.trans j.sm) _ _ eh
   walk_at "vs"
   intro h2 hh2
   have s17:=aC (.tup [.ref gd, .ref hc]) hh2
   have aio:upd H16 h2 (.tup [.ref gd, .ref hc]) h2=some (.tup [.ref gd, .ref hc]):=ao
   have j17:=j.same s17
   generalize upd H16 h2 (.tup [.ref gd, .ref hc])=H17 at *
   have c17:=j17.c9 hwd Y8 nwm nsw nsm aio Y7 aej aei aek ael n17 hrc
   have akP:k<17:=by omega
   walk_at "vs"
   intro kn' od' v H18 c18 nw hv mvs
   walk_at "vs"
   refine⟨⟨_,_,_,rfl⟩,kn',od', ?_⟩
   rw[show ws.take (i+1)=ws.take i++[ak k] by rw[List.take_add_one,hxi];rfl]
   exact j17.of hwd Y8 c18 (mvs [])
  ·intro σ H16 hP
   obtain⟨⟨t1,t2,t3,rfl⟩,kn,od,j⟩:=hP
   rw[show ws.take (ws.map V.str).length=ws by rw[List.length_map];exact List.take_length] at j
   clear j15 aem U3
   have S16:=S12.trans j.sm
   have Zb:=j.es
   have Qw:=j.em
   obtain⟨kw,wn,Zc,kkw,hkw⟩:=id j.ew
   have aen:=S16 _ _ er
   have abo:=rD.map fun b q z=>z.same S16
   have ad1:atI [V.ref wd,V.ref ml] 1=some (.ref ml):=rfl
   have ad0:atI [V.ref wd,V.ref ml] 0=some (.ref wd):=rfl
   have hMl:(od.filter (lY rm rc kn)).length<=n:=Nat.le_trans (List.length_filter_le _ _) (by
    rw[<-jd n]
    exact gC j.on fun x hx=>j.kd x (j.ok x hx))
   have hMk:∀x∈od.filter (lY rm rc kn),kn x≠none:=fun x hx=>j.ok x (List.mem_filter.mp hx).1
   have hMg:∀x∈od.filter (lY rm rc kn),jT x:=fun x hx=>BL (by omega) x (j.kd x (hMk x hx))
   have ru0:=j.ru
   obtain⟨M,hM⟩:∃M,M=od.filter (lY rm rc kn):=⟨_,rfl⟩
   rw[<-hM] at Qw hMl hMk hMg
   walk_at "vs"
   intro D hD
   refine Dr (xs:=M.map V.str) (fun i σ' H'=>(∃a,σ'=[a,some (.ref rd),some (.ref st)])/\H' D=some (.lst (((M.take i).filter (ux rm kn)).map V.str))/\aW H16 H') ?_ ?_ ?_ ?_
   ·exact⟨⟨none,rfl⟩,ao,aC _ hD⟩
   ·intro j σ' H' _ hP
    exact SqL.of (hP.2.2 _ _ Qw)
   ·intro j v σ' H17 hv hP
    obtain⟨⟨a1,rfl⟩,eD,S17⟩:=hP
    obtain⟨x,hxi,rfl⟩:∃x,M[j]? =some x/\v=V.str x:=by
     rw[List.getElem?_map] at hv
     cases e:M[j]? with
     | none=>rw[e] at hv;cases hv
     | some x=>rw[e] at hv;exact⟨x,rfl,(Option.some.inj hv).symm⟩
    obtain⟨v0,hkx⟩:∃v0,kn x=some v0:=by
     cases e:kn x with
     | none=>exact absurd e (hMk x (List.mem_of_getElem? hxi))
     | some u=>exact⟨u,rfl⟩
    have hil:j<M.length:=(List.getElem?_eq_some_iff.mp hxi).1
    have ht:M.take (j+1)=M.take j++[x]:=by rw[List.take_add_one,hxi];rfl
    have hzl:(((M.take j).filter (ux rm kn)).map V.str).length<sizeLine:=by
     rw[List.length_map]
     have h1:=List.length_filter_le (ux rm kn) (M.take j)
     have h2:=List.length_take_le j M
     exact aV (by omega)
    have aeo:=S17 _ _ aen
    have akd:=S17 _ _ Zb
    have dw:bM H17 wd (.str x) (some (.int v0)):=by
     have:cO kw (.inr x)=some (.int v0):=by rw[hkw,hkx];rfl
     rw[<-this];exact bM.k (k:= .inr x) (S17 _ _ Zc)
    cases hr0:rm x with
    | none=>
      have dr:bM H17 rd (.str x) none:=by rw[<-abo.w x hr0];exact bM.k (k:= .inr x) aeo
      walk_at "vs"
      refine⟨⟨_,rfl⟩, ?_,S17⟩
      rw[ht,List.filter_append,eD]
      simp[List.filter_cons,ux,hr0]
    | some q0=>
      obtain⟨r0,ps0,u0⟩:=q0
      obtain⟨rb,hrb,br,l,as,eb,hR,el,hRs,_⟩:=abo.v x _ hr0
      have dr:bM H17 rd (.str x) (some (.ref rb)):=by rw[<-hrb];exact bM.k (k:= .inr x) aeo
      have akQ:=S17 _ _ eb
      have a2:atI [V.ref br, .ref l, .int u0] 2=some (.int u0):=rfl
      walk_at "vs"
      refine zM (fun c1=> ?_) (fun c1=> ?_)
      ·walk_at "vs"
       refine⟨⟨_,rfl⟩, ?_,fX _ hD S17⟩
       rw[ao,ht,List.filter_append,List.map_append]
       have:ux rm kn x=true:=by
        unfold ux;rw[hr0,hkx]
        simp at c1 ⊢
        exact fun z=>c1 z.symm
       simp[List.filter_cons,this]
      ·walk_at "vs"
       refine⟨⟨_,rfl⟩, ?_,S17⟩
       rw[eD,ht,List.filter_append]
       have:ux rm kn x=false:=by
        unfold ux;rw[hr0,hkx]
        simp at c1 ⊢
        exact c1.symm
       simp[List.filter_cons,this]
   ·intro σ' H20 hP
    obtain⟨_,Xb,U4⟩:=hP
    rw[show M.take (M.map V.str).length=M by rw[List.length_map];exact List.take_length] at Xb
    have S20:=S16.trans U4
    have Zd:=U4 _ _ Qw
    have akR:=ho8.same S20
    have aep:=S20 _ _ eh
    have aeq:=S20 _ _ eg
    have aer:=S20 _ _ ec
    have aes:=S20 _ _ er
    have Ze:=S20 _ _ abn
    have Zf:=(s12.trans (j.sm.trans U4)) _ _ Qv
    have aet:=rD.map fun b q z=>z.same S20
    have hNg:∀x∈M.filter (ux rm kn),jT x:=fun x hx=>hMg x (List.mem_filter.mp hx).1
    obtain⟨N,hN⟩:∃N,N=M.filter (ux rm kn):=⟨_,rfl⟩
    rw[<-hN] at Xb hNg
    clear Zb Qw Zc aen abo aim ain Qv Y7 aej aek ael aei ad0 ad1 hat aie
    have aip:Rd H20 hg (.dK kg):= .inl aeq
    walk_at "vs"
    intro g2 hg2
    have s21:=aC (.dK kg) hg2
    have aeu:upd H20 g2 (.dK kg) g2=some (.dK kg):=ao
    have aiq:=s21 _ _ aep
    have air:Rd (upd H20 g2 (.dK kg)) hc (.dK kc):= .inl (s21 _ _ aer)
    generalize upd H20 g2 (.dK kg)=H21 at *
    walk_at "vs"
    intro c2 hc2
    have s22:=aC (.dK kc) hc2
    have aev:upd H21 c2 (.dK kc) c2=some (.dK kc):=ao
    have aew:=s22 _ _ aeu
    have S22:=s21.trans s22
    generalize upd H21 c2 (.dK kc)=H22 at *
    walk_at "vs"
    intro h2 hh2
    have s23:=aC (.tup [.ref g2, .ref c2]) hh2
    have aex:upd H22 h2 (.tup [.ref g2, .ref c2]) h2=some (.tup [.ref g2, .ref c2]):=ao
    have aey:=s23 _ _ aev
    have aez:=s23 _ _ aew
    have S23:=S22.trans s23
    have ais:Rd (upd H22 h2 (.tup [.ref g2, .ref c2])) rd (.dK kr):= .inl (S23 _ _ aes)
    generalize upd H22 h2 (.tup [.ref g2, .ref c2])=H23 at *
    walk_at "vs"
    intro r2 hr2
    have s24:=aC (.dK kr) hr2
    have aeA:upd H23 r2 (.dK kr) r2=some (.dK kr):=ao
    have S24:=S23.trans s24
    have aeB:=s24 _ _ aex
    have aeC:=s24 _ _ aey
    have aeD:=s24 _ _ aez
    have Zg:=S24 _ _ Ze
    generalize upd H23 r2 (.dK kr)=H24 at *
    have ait:SqL K H24 wl (ws.map V.str)\/SqT K H24 wl (ws.map V.str):= .inl (SqL.of Zg)
    walk_at "vs"
    intro w2 hw2
    have s25:=aC (.lst (ws.map V.str)) hw2
    have aeE:upd H24 w2 (.lst (ws.map V.str)) w2=some (.lst (ws.map V.str)):=ao
    have S25:=S24.trans s25
    have aeF:=s25 _ _ aeA
    have aeG:=s25 _ _ aeB
    have aeH:=s25 _ _ aeC
    have aeI:=s25 _ _ aeD
    have aiu:Rd (upd H24 w2 (.lst (ws.map V.str))) cd (.dK kch):= .inl (S25 _ _ Zf)
    generalize upd H24 w2 (.lst (ws.map V.str))=H25 at *
    walk_at "vs"
    intro cd2 aeJ
    have s26:=aC (.dK kch) aeJ
    have Zh:upd H25 cd2 (.dK kch) cd2=some (.dK kch):=ao
    have S26:=S25.trans s26
    have aeK:=s26 _ _ aeF
    have aeL:=s26 _ _ aeG
    have aeM:=s26 _ _ aeH
    have aeN:=s26 _ _ aeI
    have aeO:=s26 _ _ aeE
    generalize upd H25 cd2 (.dK kch)=H26 at *
    walk_at "vs"
    intro hd hhd
    have s27:=aC (.lst [.ref h2, .ref r2, .ref w2, .ref cd2]) hhd
    have ehd:upd H26 hd (.lst [.ref h2, .ref r2, .ref w2, .ref cd2]) hd=some (.lst [.ref h2, .ref r2, .ref w2, .ref cd2]):=ao
    have S27:=S26.trans s27
    have abp:=s27 _ _ aeK
    have aeP:=s27 _ _ aeL
    have aeQ:=s27 _ _ aeM
    have aeR:=s27 _ _ aeN
    have aeS:=s27 _ _ aeO
    have U5:=s27 _ _ Zh
    generalize upd H26 hd (.lst [.ref h2, .ref r2, .ref w2, .ref cd2])=H27 at *
    have aeT:mD H27 h2 g2 c2 n gv rc:=⟨kg,kc,aeP,aeR,aeQ,bd.tups (aW.tups (S20.trans S27))⟩
    have aeU:=aet.map fun b q z=>z.same S27
    have at0:atI [V.ref h2,V.ref r2,V.ref w2,V.ref cd2] 0=some (.ref h2):=rfl
    have at1:atI [V.ref h2,V.ref r2,V.ref w2,V.ref cd2] 1=some (.ref r2):=rfl
    have at2:atI [V.ref h2,V.ref r2,V.ref w2,V.ref cd2] 2=some (.ref w2):=rfl
    have at3:atI [V.ref h2,V.ref r2,V.ref w2,V.ref cd2] 3=some (.ref cd2):=rfl
    clear s21 s22 s23 s24 s25 s26 s27 S22 S23 S24 S25 S26 aeu aiq air aev aew aex aey aez ais aeA aeB aeC aeD Zg ait aeE aeF aeG aeH aeI aiu Zh aeK aeL aeM aeN aeO hg2 hc2 hh2 hr2 hw2 aeJ hhd aip
    walk_at "vs"
    intro t1' lm lo knR rmN rkn sn H28 s28 et hlm hlo nml elm elo bt ndn hmn ruR
    have eR:=ruR.det ru0
    have ek:knR=kn:=congrArg Prod.fst eR
    have eo:sn=od:=congrArg Prod.snd eR
    rw[ek,eo,<-hM] at elm elo
    rw[<-hN] at elo
    clear bt ruR eR ek eo hmn ndn
    walk_at "vs"
    intro tt htt
    have s29:=aC (.tup [.ref ml, .ref D]) htt
    have ett:upd H28 tt (.tup [.ref ml, .ref D]) tt=some (.tup [.ref ml, .ref D]):=ao
    have Zi:=s28.trans s29
    have S29:=S27.trans Zi
    have abq:=s29 _ _ et
    have U6:=s29 _ _ elm
    have U7:=s29 _ _ elo
    generalize upd H28 tt (.tup [.ref ml, .ref D])=H29 at *
    have dd1:oE K H29 (.ref t1') _:=yF abq U6 U7
    have dd2:oE K H29 (.ref tt) _:=yF ett (S29 _ _ Zd) (S29 _ _ Xb)
    refine⟨_,dd1,dd2,Bj hMg hNg, ?_⟩
    walk_at "vs"
    intro lz hlz
    have s30:=aC (.lst [.ref h, .ref rd, .ref wl, .ref cd]) hlz
    have elz:upd H29 lz (.lst [.ref h, .ref rd, .ref wl, .ref cd]) lz=some (.lst [.ref h, .ref rd, .ref wl, .ref cd]):=ao
    have z30:=Zi.trans s30
    have S30:=S29.trans s30
    have Xc:=s30 _ _ abq
    have aeV:=s30 _ _ U6
    have aeW:=s30 _ _ U7
    generalize upd H29 lz (.lst [.ref h, .ref rd, .ref wl, .ref cd])=H30 at *
    have hgn:∀x∈ws,jT x:=fun x hx=>BL (by omega) x (hws x hx)
    refine⟨hd,lz,_,_,rfl,rfl,SqL.of (z30 _ _ ehd),SqL.of elz,rfl,fun i x y hx hy=> ?_, ?_⟩
    ·match i,hx,hy with
     | 0,hx,hy=>cases hx;cases hy;exact .inl (.inr ⟨h2,h, .ref g2, .ref c2, .ref hg, .ref hc,rfl,rfl,z30 _ _ aeP,S30 _ _ aep, .inr ⟨g2,hg,kg,rfl,rfl, .inl (z30 _ _ aeR), .inl (S30 _ _ aeq),bd.plG⟩, .inr ⟨c2,hc,kc,rfl,rfl, .inl (z30 _ _ aeQ), .inl (S30 _ _ aer),bd.plC⟩⟩)
     | 1,hx,hy=>cases hx;cases hy;exact .inl (.inl (.inr ⟨r2,rd,kr,rfl,rfl, .inl (z30 _ _ abp), .inl (S30 _ _ aes),aet.plain⟩))
     | 2,hx,hy=>cases hx;cases hy;exact .inr ⟨.list (ws.map PyData.str), .lst (SqL.of (z30 _ _ aeS)) (lE ws), .lst (SqL.of (S30 _ _ Ze)) (lE ws),qU hgn⟩
     | 3,hx,hy=>cases hx;cases hy;exact .inl (.inl (.inr ⟨cd2,cd,kch,rfl,rfl, .inl (z30 _ _ U5), .inl (S30 _ _ Zf),plK kkc hch⟩))
    clear dd1 dd2 s29 s30 s28 ett elz abq U6 U7 htt hlz et elm elo
    have hMs:(M.map V.str).length<sizeLine:=by rw[List.length_map];exact aV (by omega)
    have hNs:(N.map V.str).length<sizeLine:=by
     rw[List.length_map,hN]
     exact aV (Nat.le_trans (List.length_filter_le (ux rm kn) M) (by omega))
    have akS:atI [V.ref lm,V.ref lo] 0=some (.ref lm):=rfl
    have akT:atI [V.ref lm,V.ref lo] 1=some (.ref lo):=rfl
    have ntm:t1'≠lm:=fun z=>by rw[z,aeV] at Xc;cases Xc
    have nto:t1'≠lo:=fun z=>by rw[z,aeW] at Xc;cases Xc
    have nhm:hd≠lm:=fun z=>by rw[z,hlm] at ehd;cases ehd
    have nho:hd≠lo:=fun z=>by rw[z,hlo] at ehd;cases ehd
    have ake:=z30 _ _ ehd
    walk_at "vs"
    have S31:aW H27 (upd (upd H30 lm (.lst (M.map V.str++[.str "a"]))) lo (.lst (N.map V.str++[.str "b"]))):=fX _ hlo (fX _ hlm z30)
    generalize upd (upd H30 lm (.lst (M.map V.str++[.str "a"]))) lo (.lst (N.map V.str++[.str "b"]))=H31 at *
    intro le hle
    have s32:=aC (.lst []) hle
    have ele:upd H31 le (.lst []) le=some (.lst (([]:List Str).map V.str)):=ao
    have S32:=S31.trans s32
    generalize upd H31 le (.lst [])=H32 at *
    have akU:=aeT.same S32
    have akV:=S32 _ _ abp
    have akW:=aeU.map fun b q z=>z.same S32
    have akf:=S32 _ _ U5
    have akg:=S32 _ _ ehd
    have hw0:∀x∈([]:List Str),x∈nmK n:=by simp
    walk_at "vs"
    intro t2' lm2 lo2 kn2 rm2 rk2 sn2 H33 s33 et2 akX akY akZ abr abt bt2 nd2 hm2 ru2
    have e2:sn2=[]:=(congrArg Prod.snd (show((kn0,[]):Kn×List Str)=(kn2,sn2) from ru2)).symm
    rw[e2] at abr abt
    clear bt2 ru2 hm2 nd2
    walk_at "vs"
    intro la hla
    have s34:=aC (.lst []) hla
    have ela:upd H33 la (.lst []) la=some (.lst []):=ao
    generalize upd H33 la (.lst [])=H34 at *
    walk_at "vs"
    intro lb hlb
    have s35:=aC (.lst []) hlb
    have elb:upd H34 lb (.lst []) lb=some (.lst []):=ao
    have Zj:=s35 _ _ ela
    generalize upd H34 lb (.lst [])=H35 at *
    walk_at "vs"
    intro tb htb
    have s36:=aC (.tup [.ref la, .ref lb]) htb
    have etb:upd H35 tb (.tup [.ref la, .ref lb]) tb=some (.tup [.ref la, .ref lb]):=ao
    generalize upd H35 tb (.tup [.ref la, .ref lb])=H36 at *
    have Z36:=s34.trans (s35.trans s36)
    have dd3:oE K H36 (.ref t2') _:=yF (ns:=[]) (ms:=[]) (Z36 _ _ et2) (Z36 _ _ abr) (Z36 _ _ abt)
    have dd4:oE K H36 (.ref tb) _:=yF (ns:=[]) (ms:=[]) etb (s36 _ _ Zj) (s36 _ _ elb)
    refine⟨_,dd3,dd4,Bj (by simp) (by simp), ?_⟩
    have S36:=S32.trans (s33.trans Z36)
    clear dd3 dd4 s34 s35 s36 Z36 etb Zj elb ela hla hlb htb abr abt et2 s33
    have ak0:=aeT.same S36
    have ak1:=S36 _ _ abp
    have ak2:=aeU.map fun b q z=>z.same S36
    have akh:=S36 _ _ U5
    have aki:=S36 _ _ ehd
    have ak3:=S36 _ _ aeS
    walk_at "vs"
    intro t3' lm3 lo3 kn3 rm3 rk3 sn3 H37 s37 et3 ak4 ak5 ak6 aeX abu bt3 nd3 hm3 ru3
    have eR:=ru3.det ru0
    have ek:kn3=kn:=congrArg Prod.fst eR
    have eo:sn3=od:=congrArg Prod.snd eR
    rw[ek,eo,<-hM] at aeX abu
    rw[<-hN] at abu
    walk_at "vs"
    intro tz htz
    have s38:=aC (.tup [.ref ml, .ref D]) htz
    have S38:=S27.trans (S36.trans (s37.trans s38))
    have dd5:oE K (upd H37 tz (.tup [.ref ml, .ref D])) (.ref t3') _:=yF (s38 _ _ et3) (s38 _ _ aeX) (s38 _ _ abu)
    have dd6:oE K (upd H37 tz (.tup [.ref ml, .ref D])) (.ref tz) _:=yF ao (S38 _ _ Zd) (S38 _ _ Xb)
    exact⟨_,dd5,dd6,Bj hMg hNg,q _⟩
end
theorem jC {K:PySem.W.Frag}{h:Heap}{mg:Str->Option Value} (X:K.In h) (G:h.Ns mainGlobals mg) {x:Str}{st:Stmt}{ps:List Str}{f:Addr}{oc:Value}{od an:Option Addr}{osl:Array (Option Value)}{kV doc pm cdv ct:Value}
 (a:PySem.W.nsIn K mainGlobals x=some (some (.ref f))) (l:K.lookup f=some ⟨oc,od, .func (PySem.W.fnOf x x (bN st) (bB st) (aa st) .none kV doc pm an cdv ct),osl⟩) (c:PySem.W.codeIn K cdv x=true) (k:PySem.W.keepIn K (.ref f)=true)
 (hb:∀us:List Value,us.length=ps.length->bindArgs (PySem.W.fnOf x x (bN st) (bB st) (aa st) .none kV doc pm an cdv ct) ⟨us,[]⟩=pure (ps.zip us)):
 FnT K mg x st ps f (PySem.W.fnOf x x (bN st) (bB st) (aa st) .none kV doc pm an cdv ct):=
 ⟨kY l c k,Binds.all hb,PySem.W.mg_of X G a⟩
theorem len0 {p:List Value->Prop} (h:p []) (us:List Value) (hl:us.length=0):p us:=by
 obtain rfl:=List.eq_nil_of_length_eq_zero hl;exact h
theorem Ou {p:List Value->Prop} (h:∀x0,p [x0]) (us:List Value) (hl:us.length=1):p us:=by
 match us,hl with |[x0],_=>exact h x0
theorem zq {p:List Value->Prop} (h:∀x0 x1,p [x0,x1]) (us:List Value) (hl:us.length=2):p us:=by
 match us,hl with |[x0,x1],_=>exact h x0 x1
theorem Ja {p:List Value->Prop} (h:∀x0 x1 x2,p [x0,x1,x2]) (us:List Value) (hl:us.length=3):p us:=by
 match us,hl with |[x0,x1,x2],_=>exact h x0 x1 x2
theorem U8 {p:List Value->Prop} (h:∀x0 x1 x2 x3,p [x0,x1,x2,x3]) (us:List Value) (hl:us.length=4):p us:=by
 match us,hl with |[x0,x1,x2,x3],_=>exact h x0 x1 x2 x3
theorem ak7 {p:List Value->Prop} (h:∀x0 x1 x2 x3 x4,p [x0,x1,x2,x3,x4]) (us:List Value) (hl:us.length=5):p us:=by
 match us,hl with |[x0,x1,x2,x3,x4],_=>exact h x0 x1 x2 x3 x4
theorem ak8 {p:List Value->Prop} (h:∀x0 x1 x2 x3 x4 x5,p [x0,x1,x2,x3,x4,x5]) (us:List Value) (hl:us.length=6):p us:=by
 match us,hl with |[x0,x1,x2,x3,x4,x5],_=>exact h x0 x1 x2 x3 x4 x5
theorem all_mk {l:PySem.W.OpenLaw}{w:World}{K:PySem.W.Frag}{h:Heap}{mg:Str->Option Value}{fa f1 f2 f3 f4 f5 f6 f7 f8 f9 f10 f11 f12 f13 f14 f15 f16 f17 f18 f19 f20 f21:Addr} (X:K.In h) (G:h.Ns mainGlobals mg) (hfa:mg "law"=some (.ref fa))
 {od1 an1 od2 an2 od3 an3 od4 an4 od5 an5 od6 an6 od7 an7 od8 an8 od9 an9 aiv aiw aix aiy aiz aiA aiB aiC aiD aiE aiF aiG aiH aiI aiJ aiK aiL aiM aiN aiO aiP aiQ aiR aeY:Option Addr}{sl1 sl2 sl3 sl4 sl5 sl6 sl7 sl8 sl9 aiS aiT aiU aiV aiW aiX aiY aiZ ai0 ai1 ai2 ai3:Array (Option Value)}{oc1 kV1 dc1 pm1 cd1 ct1 oc2 kV2 dc2 pm2 cd2 ct2 oc3 kV3 dc3 pm3 cd3 ct3 oc4 kV4 dc4 pm4 cd4 ct4 oc5 kV5 dc5 pm5 cd5 ct5 oc6 kV6 dc6 pm6 cd6 ct6 oc7 kV7 dc7 pm7 cd7 ct7 oc8 kV8 dc8 pm8 cd8 ct8 oc9 kV9 dc9 pm9 cd9 ct9 ai4 ai5 ai6 ai7 aeZ ai8 ai9 aja ajb ajc ae0 ajd aje ajf ajg ajh ae1 aji ajj ajk ajl ajm ae2 ajn ajo ajp ajq ajr ae3 ajs ajt aju ajv ajw ae4 ajx ajy ajz ajA ajB ae5 ajC ajD ajE ajF ajG ae6 ajH ajI ajJ ajK ajL ae7 ajM ajN ajO ajP ajQ ae8 ajR ajS ajT ajU ajV ae9 ajW ajX afa afb afc abv afd:Value}
 (a1:PySem.W.nsIn K mainGlobals "joined"=some (some (.ref f1))) (l1:K.lookup f1=some ⟨oc1,od1, .func (PySem.W.fnOf "joined" "joined" (bN lH) (bB lH) (aa lH) .none kV1 dc1 pm1 an1 cd1 ct1),sl1⟩) (c1:PySem.W.codeIn K cd1 "joined"=true) (k1:PySem.W.keepIn K (.ref f1)=true)
 (a2:PySem.W.nsIn K mainGlobals "is_whole_number"=some (some (.ref f2))) (l2:K.lookup f2=some ⟨oc2,od2, .func (PySem.W.fnOf "is_whole_number" "is_whole_number" (bN cC) (bB cC) (aa cC) .none kV2 dc2 pm2 an2 cd2 ct2),sl2⟩) (c2:PySem.W.codeIn K cd2 "is_whole_number"=true) (k2:PySem.W.keepIn K (.ref f2)=true)
 (a3:PySem.W.nsIn K mainGlobals "is_same"=some (some (.ref f3))) (l3:K.lookup f3=some ⟨oc3,od3, .func (PySem.W.fnOf "is_same" "is_same" (bN eE) (bB eE) (aa eE) .none kV3 dc3 pm3 an3 cd3 ct3),sl3⟩) (c3:PySem.W.codeIn K cd3 "is_same"=true) (k3:PySem.W.keepIn K (.ref f3)=true)
 (a4:PySem.W.nsIn K mainGlobals "searched"=some (some (.ref f4))) (l4:K.lookup f4=some ⟨oc4,od4, .func (PySem.W.fnOf "searched" "searched" (bN eZ) (bB eZ) (aa eZ) .none kV4 dc4 pm4 an4 cd4 ct4),sl4⟩) (c4:PySem.W.codeIn K cd4 "searched"=true) (k4:PySem.W.keepIn K (.ref f4)=true)
 (a5:PySem.W.nsIn K mainGlobals "build_again"=some (some (.ref f5))) (l5:K.lookup f5=some ⟨oc5,od5, .func (PySem.W.fnOf "build_again" "build_again" (bN cW) (bB cW) (aa cW) .none kV5 dc5 pm5 an5 cd5 ct5),sl5⟩) (c5:PySem.W.codeIn K cd5 "build_again"=true) (k5:PySem.W.keepIn K (.ref f5)=true)
 (a6:PySem.W.nsIn K mainGlobals "reach_of"=some (some (.ref f6))) (l6:K.lookup f6=some ⟨oc6,od6, .func (PySem.W.fnOf "reach_of" "reach_of" (bN cG) (bB cG) (aa cG) .none kV6 dc6 pm6 an6 cd6 ct6),sl6⟩) (c6:PySem.W.codeIn K cd6 "reach_of"=true) (k6:PySem.W.keepIn K (.ref f6)=true)
 (a7:PySem.W.nsIn K mainGlobals "_law_cell_at"=some (some (.ref f7))) (l7:K.lookup f7=some ⟨oc7,od7, .func (PySem.W.fnOf "_law_cell_at" "_law_cell_at" (bN fG) (bB fG) (aa fG) .none kV7 dc7 pm7 an7 cd7 ct7),sl7⟩) (c7:PySem.W.codeIn K cd7 "_law_cell_at"=true) (k7:PySem.W.keepIn K (.ref f7)=true)
 (a8:PySem.W.nsIn K mainGlobals "_law_pool"=some (some (.ref f8))) (l8:K.lookup f8=some ⟨oc8,od8, .func (PySem.W.fnOf "_law_pool" "_law_pool" (bN iW) (bB iW) (aa iW) .none kV8 dc8 pm8 an8 cd8 ct8),sl8⟩) (c8:PySem.W.codeIn K cd8 "_law_pool"=true) (k8:PySem.W.keepIn K (.ref f8)=true)
 (a9:PySem.W.nsIn K mainGlobals "_law_take"=some (some (.ref f9))) (l9:K.lookup f9=some ⟨oc9,od9, .func (PySem.W.fnOf "_law_take" "_law_take" (bN dN) (bB dN) (aa dN) .none kV9 dc9 pm9 an9 cd9 ct9),sl9⟩) (c9:PySem.W.codeIn K cd9 "_law_take"=true) (k9:PySem.W.keepIn K (.ref f9)=true)
 (a10:PySem.W.nsIn K mainGlobals "_law_name"=some (some (.ref f10))) (l10:K.lookup f10=some ⟨ai4,aiv, .func (PySem.W.fnOf "_law_name" "_law_name" (bN jA) (bB jA) (aa jA) .none ai5 ai6 ai7 aiw aeZ ai8),aiS⟩) (c10:PySem.W.codeIn K aeZ "_law_name"=true) (k10:PySem.W.keepIn K (.ref f10)=true)
 (a11:PySem.W.nsIn K mainGlobals "_law_leaf"=some (some (.ref f11))) (l11:K.lookup f11=some ⟨ai9,aix, .func (PySem.W.fnOf "_law_leaf" "_law_leaf" (bN gH) (bB gH) (aa gH) .none aja ajb ajc aiy ae0 ajd),aiT⟩) (c11:PySem.W.codeIn K ae0 "_law_leaf"=true) (k11:PySem.W.keepIn K (.ref f11)=true)
 (a12:PySem.W.nsIn K mainGlobals "_law_recipe"=some (some (.ref f12))) (l12:K.lookup f12=some ⟨aje,aiz, .func (PySem.W.fnOf "_law_recipe" "_law_recipe" (bN bx) (bB bx) (aa bx) .none ajf ajg ajh aiA ae1 aji),aiU⟩) (c12:PySem.W.codeIn K ae1 "_law_recipe"=true) (k12:PySem.W.keepIn K (.ref f12)=true)
 (a13:PySem.W.nsIn K mainGlobals "_law_house"=some (some (.ref f13))) (l13:K.lookup f13=some ⟨ajj,aiB, .func (PySem.W.fnOf "_law_house" "_law_house" (bN bJ) (bB bJ) (aa bJ) .none ajk ajl ajm aiC ae2 ajn),aiV⟩) (c13:PySem.W.codeIn K ae2 "_law_house"=true) (k13:PySem.W.keepIn K (.ref f13)=true)
 (a14:PySem.W.nsIn K mainGlobals "_law_value"=some (some (.ref f14))) (l14:K.lookup f14=some ⟨ajo,aiD, .func (PySem.W.fnOf "_law_value" "_law_value" (bN bO) (bB bO) (aa bO) .none ajp ajq ajr aiE ae3 ajs),aiW⟩) (c14:PySem.W.codeIn K ae3 "_law_value"=true) (k14:PySem.W.keepIn K (.ref f14)=true)
 (a15:PySem.W.nsIn K mainGlobals "_law_look"=some (some (.ref f15))) (l15:K.lookup f15=some ⟨ajt,aiF, .func (PySem.W.fnOf "_law_look" "_law_look" (bN d7) (bB d7) (aa d7) .none aju ajv ajw aiG ae4 ajx),aiX⟩) (c15:PySem.W.codeIn K ae4 "_law_look"=true) (k15:PySem.W.keepIn K (.ref f15)=true)
 (a16:PySem.W.nsIn K mainGlobals "_law_settled"=some (some (.ref f16))) (l16:K.lookup f16=some ⟨ajy,aiH, .func (PySem.W.fnOf "_law_settled" "_law_settled" (bN bA) (bB bA) (aa bA) .none ajz ajA ajB aiI ae5 ajC),aiY⟩) (c16:PySem.W.codeIn K ae5 "_law_settled"=true) (k16:PySem.W.keepIn K (.ref f16)=true)
 (a17:PySem.W.nsIn K mainGlobals "_law_fresh"=some (some (.ref f17))) (l17:K.lookup f17=some ⟨ajD,aiJ, .func (PySem.W.fnOf "_law_fresh" "_law_fresh" (bN d8) (bB d8) (aa d8) .none ajE ajF ajG aiK ae6 ajH),aiZ⟩) (c17:PySem.W.codeIn K ae6 "_law_fresh"=true) (k17:PySem.W.keepIn K (.ref f17)=true)
 (a18:PySem.W.nsIn K mainGlobals "_law_wishes"=some (some (.ref f18))) (l18:K.lookup f18=some ⟨ajI,aiL, .func (PySem.W.fnOf "_law_wishes" "_law_wishes" (bN dz) (bB dz) (aa dz) .none ajJ ajK ajL aiM ae7 ajM),ai0⟩) (c18:PySem.W.codeIn K ae7 "_law_wishes"=true) (k18:PySem.W.keepIn K (.ref f18)=true)
 (a19:PySem.W.nsIn K mainGlobals "_law_settle"=some (some (.ref f19))) (l19:K.lookup f19=some ⟨ajN,aiN, .func (PySem.W.fnOf "_law_settle" "_law_settle" (bN aX) (bB aX) (aa aX) .none ajO ajP ajQ aiO ae8 ajR),ai1⟩) (c19:PySem.W.codeIn K ae8 "_law_settle"=true) (k19:PySem.W.keepIn K (.ref f19)=true)
 (a20:PySem.W.nsIn K mainGlobals "_law_reckoned"=some (some (.ref f20))) (l20:K.lookup f20=some ⟨ajS,aiP, .func (PySem.W.fnOf "_law_reckoned" "_law_reckoned" (bN aN) (bB aN) (aa aN) .none ajT ajU ajV aiQ ae9 ajW),ai2⟩) (c20:PySem.W.codeIn K ae9 "_law_reckoned"=true) (k20:PySem.W.keepIn K (.ref f20)=true)
 (a21:PySem.W.nsIn K mainGlobals "law"=some (some (.ref f21))) (l21:K.lookup f21=some ⟨ajX,aiR, .func (PySem.W.fnOf "law" "law" (bN cZ) (bB cZ) (aa cZ) .none afa afb afc aeY abv afd),ai3⟩) (c21:PySem.W.codeIn K abv "law"=true) (k21:PySem.W.keepIn K (.ref f21)=true)
 (kd:Kinds K)
 {CK:Addr} (ACK:PySem.W.nsIn K mainGlobals "Reckoning"=some (some (.ref CK)))
 {Xd:Addr}{afe afg:Option Addr}{afh:Array (Option Value)}{afi afj afk afl Zk afm:Value}
 (Xe:PySem.W.findIn K (.ref CK) "__init__"=some (some (.ref Xd))) (Xf:PySem.W.isFn K (.ref Xd)=true) (abw:K.lookup Xd=some ⟨afi,afe, .func (PySem.W.fnOf "__init__" "Reckoning.__init__" (bN cM) (bB cM) (aa cM) .none afj afk afl afg Zk afm),afh⟩) (abx:PySem.W.codeIn K Zk "Reckoning.__init__"=true) (Xg:PySem.W.keepIn K (.ref Xd)=true)
 {Xh:Addr}{afn afo:Option Addr}{afp:Array (Option Value)}{afq afr afs aft Zm afu:Value}
 (aby:PySem.W.findIn K (.ref CK) "lacking"=some (some (.ref Xh))) (abz:PySem.W.isFn K (.ref Xh)=true) (abA:K.lookup Xh=some ⟨afq,afn, .func (PySem.W.fnOf "lacking" "Reckoning.lacking" (bN cz) (bB cz) (aa cz) .none afr afs aft afo Zm afu),afp⟩) (abB:PySem.W.codeIn K Zm "Reckoning.lacking"=true) (Xi:PySem.W.keepIn K (.ref Xh)=true)
 {Xj:Addr}{afv afw:Option Addr}{afx:Array (Option Value)}{afy afz afA afB Zn afC:Value}
 (abC:PySem.W.findIn K (.ref CK) "go_on"=some (some (.ref Xj))) (abD:PySem.W.isFn K (.ref Xj)=true) (abE:K.lookup Xj=some ⟨afy,afv, .func (PySem.W.fnOf "go_on" "Reckoning.go_on" (bN aM) (bB aM) (aa aM) .none afz afA afB afw Zn afC),afx⟩) (abF:PySem.W.codeIn K Zn "Reckoning.go_on"=true) (Xk:PySem.W.keepIn K (.ref Xj)=true)
 (abG:PySem.W.plainGet K CK Str.empty=true) (abH:PySem.W.hasDictIn K CK=true) (abI:PySem.W.plainOver K CK=true) (abJ:PySem.W.findIn K (.ref CK) "__setattr__"=some (some (.builtin "object.__setattr__"))) (abK:PySem.W.makesIn K CK=true) (abL:PySem.W.keepIn K (.ref CK)=true)
 (Ig:PySem.W.findIn K (.ref CK) "todo"=some none)
 (Em:PySem.W.findIn K (.ref CK) "found"=some none)
 (En:PySem.W.findIn K (.ref CK) "reads"=some none)
 {CN:Addr} (ACN:PySem.W.nsIn K mainGlobals "NamedRecords"=some (some (.ref CN)))
 {Xl:Addr}{afD afE:Option Addr}{afF:Array (Option Value)}{afG afH afI afJ Zo afK:Value}
 (Xm:PySem.W.findIn K (.ref CN) "__init__"=some (some (.ref Xl))) (Xn:PySem.W.isFn K (.ref Xl)=true) (abM:K.lookup Xl=some ⟨afG,afD, .func (PySem.W.fnOf "__init__" "NamedRecords.__init__" (bN bV) (bB bV) (aa bV) .none afH afI afJ afE Zo afK),afF⟩) (abN:PySem.W.codeIn K Zo "NamedRecords.__init__"=true) (Xo:PySem.W.keepIn K (.ref Xl)=true)
 {Xp:Addr}{afL afM:Option Addr}{afN:Array (Option Value)}{afO afP afQ afR Zq afS:Value}
 (abO:PySem.W.findIn K (.ref CN) "records_for"=some (some (.ref Xp))) (abP:PySem.W.isFn K (.ref Xp)=true) (abQ:K.lookup Xp=some ⟨afO,afL, .func (PySem.W.fnOf "records_for" "NamedRecords.records_for" (bN aQ) (bB aQ) (aa aQ) .none afP afQ afR afM Zq afS),afN⟩) (abR:PySem.W.codeIn K Zq "NamedRecords.records_for"=true) (Xq:PySem.W.keepIn K (.ref Xp)=true)
 {Xr:Addr}{afT afU:Option Addr}{afV:Array (Option Value)}{afW afX afY afZ Zr af0:Value}
 (abS:PySem.W.findIn K (.ref CN) "put_made"=some (some (.ref Xr))) (abT:PySem.W.isFn K (.ref Xr)=true) (abU:K.lookup Xr=some ⟨afW,afT, .func (PySem.W.fnOf "put_made" "NamedRecords.put_made" (bN cQ) (bB cQ) (aa cQ) .none afX afY afZ afU Zr af0),afV⟩) (abV:PySem.W.codeIn K Zr "NamedRecords.put_made"=true) (Xu:PySem.W.keepIn K (.ref Xr)=true)
 (abW:PySem.W.plainGet K CN Str.empty=true) (abX:PySem.W.hasDictIn K CN=true) (abY:PySem.W.plainOver K CN=true) (abZ:PySem.W.findIn K (.ref CN) "__setattr__"=some (some (.builtin "object.__setattr__"))) (ab0:PySem.W.makesIn K CN=true) (ab1:PySem.W.keepIn K (.ref CN)=true)
 (yh:PySem.W.findIn K (.ref CN) "by_name"=some none)
 {CS:Addr} (ACS:PySem.W.nsIn K mainGlobals "Settling"=some (some (.ref CS)))
 {Xv:Addr}{af1 af2:Option Addr}{af3:Array (Option Value)}{af4 af5 af6 af7 Zt af8:Value}
 (Xw:PySem.W.findIn K (.ref CS) "__init__"=some (some (.ref Xv))) (Xx:PySem.W.isFn K (.ref Xv)=true) (ab2:K.lookup Xv=some ⟨af4,af1, .func (PySem.W.fnOf "__init__" "Settling.__init__" (bN cA) (bB cA) (aa cA) .none af5 af6 af7 af2 Zt af8),af3⟩) (ab3:PySem.W.codeIn K Zt "Settling.__init__"=true) (Xy:PySem.W.keepIn K (.ref Xv)=true)
 {Xz:Addr}{af9 aga:Option Addr}{agb:Array (Option Value)}{agc agd age agf Zu agg:Value}
 (ab4:PySem.W.findIn K (.ref CS) "lacking"=some (some (.ref Xz))) (ab5:PySem.W.isFn K (.ref Xz)=true) (ab6:K.lookup Xz=some ⟨agc,af9, .func (PySem.W.fnOf "lacking" "Settling.lacking" (bN bD) (bB bD) (aa bD) .none agd age agf aga Zu agg),agb⟩) (ab7:PySem.W.codeIn K Zu "Settling.lacking"=true) (XC:PySem.W.keepIn K (.ref Xz)=true)
 {XD:Addr}{agh agi:Option Addr}{agj:Array (Option Value)}{agk agl agm agn Zv ago:Value}
 (ab8:PySem.W.findIn K (.ref CS) "fit_on"=some (some (.ref XD))) (ab9:PySem.W.isFn K (.ref XD)=true) (acd:K.lookup XD=some ⟨agk,agh, .func (PySem.W.fnOf "fit_on" "Settling.fit_on" (bN dI) (bB dI) (aa dI) .none agl agm agn agi Zv ago),agj⟩) (ace:PySem.W.codeIn K Zv "Settling.fit_on"=true) (XF:PySem.W.keepIn K (.ref XD)=true)
 {XH:Addr}{agp agq:Option Addr}{agr:Array (Option Value)}{ags agt agu agv Zw agw:Value}
 (acf:PySem.W.findIn K (.ref CS) "was_reckoned"=some (some (.ref XH))) (acg:PySem.W.isFn K (.ref XH)=true) (ach:K.lookup XH=some ⟨ags,agp, .func (PySem.W.fnOf "was_reckoned" "Settling.was_reckoned" (bN bL) (bB bL) (aa bL) .none agt agu agv agq Zw agw),agr⟩) (aci:PySem.W.codeIn K Zw "Settling.was_reckoned"=true) (XJ:PySem.W.keepIn K (.ref XH)=true)
 {XM:Addr}{agx agy:Option Addr}{agz:Array (Option Value)}{agA agB agC agD Zx agE:Value}
 (acj:PySem.W.findIn K (.ref CS) "new_record"=some (some (.ref XM))) (ack:PySem.W.isFn K (.ref XM)=true) (acn:K.lookup XM=some ⟨agA,agx, .func (PySem.W.fnOf "new_record" "Settling.new_record" (bN cH) (bB cH) (aa cH) .none agB agC agD agy Zx agE),agz⟩) (aco:PySem.W.codeIn K Zx "Settling.new_record"=true) (XN:PySem.W.keepIn K (.ref XM)=true)
 (acp:PySem.W.plainGet K CS Str.empty=true) (acq:PySem.W.hasDictIn K CS=true) (acr:PySem.W.plainOver K CS=true) (acs:PySem.W.findIn K (.ref CS) "__setattr__"=some (some (.builtin "object.__setattr__"))) (acu:PySem.W.makesIn K CS=true) (acv:PySem.W.keepIn K (.ref CS)=true)
 (Bq:PySem.W.findIn K (.ref CS) "recipe"=some none)
 (yj:PySem.W.findIn K (.ref CS) "fitting"=some none)
 (Eo:PySem.W.findIn K (.ref CS) "place"=some none)
 (ue:PySem.W.findIn K (.ref CS) "reckoning"=some none)
 {CE:Addr} (ACE:PySem.W.nsIn K mainGlobals "Search"=some (some (.ref CE)))
 {XQ:Addr}{agF agG:Option Addr}{agH:Array (Option Value)}{agI agJ agK agL Zy agM:Value}
 (XR:PySem.W.findIn K (.ref CE) "__init__"=some (some (.ref XQ))) (XS:PySem.W.isFn K (.ref XQ)=true) (acw:K.lookup XQ=some ⟨agI,agF, .func (PySem.W.fnOf "__init__" "Search.__init__" (bN cV) (bB cV) (aa cV) .none agJ agK agL agG Zy agM),agH⟩) (acy:PySem.W.codeIn K Zy "Search.__init__"=true) (XX:PySem.W.keepIn K (.ref XQ)=true)
 {X3:Addr}{agN agO:Option Addr}{agP:Array (Option Value)}{agQ agR agS agT Zz agU:Value}
 (acz:PySem.W.findIn K (.ref CE) "begin"=some (some (.ref X3))) (acA:PySem.W.isFn K (.ref X3)=true) (acB:K.lookup X3=some ⟨agQ,agN, .func (PySem.W.fnOf "begin" "Search.begin" (bN dB) (bB dB) (aa dB) .none agR agS agT agO Zz agU),agP⟩) (acC:PySem.W.codeIn K Zz "Search.begin"=true) (X4:PySem.W.keepIn K (.ref X3)=true)
 {X5:Addr}{agV agW:Option Addr}{agX:Array (Option Value)}{agY agZ ag0 ag1 ZC ag2:Value}
 (acD:PySem.W.findIn K (.ref CE) "end"=some (some (.ref X5))) (acE:PySem.W.isFn K (.ref X5)=true) (acF:K.lookup X5=some ⟨agY,agV, .func (PySem.W.fnOf "end" "Search.end" (bN eU) (bB eU) (aa eU) .none agZ ag0 ag1 agW ZC ag2),agX⟩) (acG:PySem.W.codeIn K ZC "Search.end"=true) (X6:PySem.W.keepIn K (.ref X5)=true)
 {X7:Addr}{ag3 ag4:Option Addr}{ag5:Array (Option Value)}{ag6 ag7 ag8 ag9 ZD aha:Value}
 (acH:PySem.W.findIn K (.ref CE) "made"=some (some (.ref X7))) (acI:PySem.W.isFn K (.ref X7)=true) (acJ:K.lookup X7=some ⟨ag6,ag3, .func (PySem.W.fnOf "made" "Search.made" (bN gJ) (bB gJ) (aa gJ) .none ag7 ag8 ag9 ag4 ZD aha),ag5⟩) (acK:PySem.W.codeIn K ZD "Search.made"=true) (X8:PySem.W.keepIn K (.ref X7)=true)
 {Yb:Addr}{ahb ahc:Option Addr}{ahd:Array (Option Value)}{ahe ahf ahg ahh ZF ahi:Value}
 (acL:PySem.W.findIn K (.ref CE) "kept"=some (some (.ref Yb))) (acM:PySem.W.isFn K (.ref Yb)=true) (acN:K.lookup Yb=some ⟨ahe,ahb, .func (PySem.W.fnOf "kept" "Search.kept" (bN gK) (bB gK) (aa gK) .none ahf ahg ahh ahc ZF ahi),ahd⟩) (acO:PySem.W.codeIn K ZF "Search.kept"=true) (Yc:PySem.W.keepIn K (.ref Yb)=true)
 {Yd:Addr}{ahj ahk:Option Addr}{ahl:Array (Option Value)}{ahm ahn aho ahp ZG ahq:Value}
 (acP:PySem.W.findIn K (.ref CE) "settle"=some (some (.ref Yd))) (acQ:PySem.W.isFn K (.ref Yd)=true) (acR:K.lookup Yd=some ⟨ahm,ahj, .func (PySem.W.fnOf "settle" "Search.settle" (bN bI) (bB bI) (aa bI) .none ahn aho ahp ahk ZG ahq),ahl⟩) (acS:PySem.W.codeIn K ZG "Search.settle"=true) (Ye:PySem.W.keepIn K (.ref Yd)=true)
 (acT:PySem.W.plainGet K CE Str.empty=true) (acU:PySem.W.hasDictIn K CE=true) (acV:PySem.W.plainOver K CE=true) (acW:PySem.W.findIn K (.ref CE) "__setattr__"=some (some (.builtin "object.__setattr__"))) (acX:PySem.W.makesIn K CE=true) (acY:PySem.W.keepIn K (.ref CE)=true)
 (Ep:PySem.W.findIn K (.ref CE) "given"=some none)
 (yl:PySem.W.findIn K (.ref CE) "recipes"=some none)
 (Kw:PySem.W.findIn K (.ref CE) "old"=some none)
 (Er:PySem.W.findIn K (.ref CE) "known"=some none)
 (ym:PySem.W.findIn K (.ref CE) "settled"=some none)
 (vQ:PySem.W.findIn K (.ref CE) "reckoned"=some none)
 (U9:PySem.W.nsIn K mainGlobals "len"=some none)
 (Ky:PySem.W.nsIn K mainGlobals "range"=some none)
 (Va:PySem.W.nsIn K mainGlobals "str"=some none)
 (Vb:PySem.W.nsIn K mainGlobals "int"=some none)
 (Ov:PySem.W.nsIn K mainGlobals "list"=some none)
 (Kz:PySem.W.nsIn K mainGlobals "tuple"=some none)
 (vR:PySem.W.nsIn K mainGlobals "isinstance"=some none)
 (Ow:PySem.W.nsIn K mainGlobals "bool"=some none)
 (Ox:PySem.W.nsIn K mainGlobals "dict"=some none)
 (Vc:PySem.W.nsIn K mainGlobals "sum"=some none)
 (Vd:PySem.W.nsIn K mainGlobals "all"=some none)
 (Ve:PySem.W.nsIn K mainGlobals "any"=some none)
 (Vf:PySem.W.nsIn K mainGlobals "max"=some none)
 (Vg:PySem.W.nsIn K mainGlobals "min"=some none)
 (Ih:PySem.W.nsIn K mainGlobals "sorted"=some none)
 (Vh:PySem.W.nsIn K mainGlobals "set"=some none)
 (yo:PySem.W.nsIn K mainGlobals "enumerate"=some none)
 (Vi:PySem.W.nsIn K mainGlobals "zip"=some none)
 (Br:PySem.W.nsIn K mainGlobals "reversed"=some none)
 (Vj:PySem.W.nsIn K mainGlobals "abs"=some none)
 :∃fd:FuncData,(∀(s:Shared) (v:Value),BindsTo s fd ⟨[v],[]⟩ [("script",v)])/\∀base:Heap,K.In base->base.Ns mainGlobals mg->bh l.prog w K mg base CX0 139 fa fd ["script"] (Pz K):=by
 have e:=hfa.symm.trans (PySem.W.mg_of X G a21)
 cases e
 have o9:FnT K mg "joined" lH ["kind","r","s"] _ _:=jC X G a1 l1 c1 k1 (Ja (fun _ _ _=>rfl))
 have bC:FnT K mg "is_whole_number" cC ["thing"] _ _:=jC X G a2 l2 c2 k2 (Ou (fun _=>rfl))
 have gF:FnT K mg "is_same" eE ["told","thing"] _ _:=jC X G a3 l3 c3 k3 (zq (fun _ _=>rfl))
 have lQ:FnT K mg "searched" eZ ["house","old","wishes"] _ _:=jC X G a4 l4 c4 k4 (Ja (fun _ _ _=>rfl))
 have iK:FnT K mg "build_again" cW ["house","records","wishes"] _ _:=jC X G a5 l5 c5 k5 (Ja (fun _ _ _=>rfl))
 have fW:FnT K mg "reach_of" cG ["house","records","wishes","changes"] _ _:=jC X G a6 l6 c6 k6 (U8 (fun _ _ _ _=>rfl))
 have eG:FnT K mg "_law_cell_at" fG ["script","k"] _ _:=jC X G a7 l7 c7 k7 (zq (fun _ _=>rfl))
 have dm:FnT K mg "_law_pool" iW ["script","k"] _ _:=jC X G a8 l8 c8 k8 (zq (fun _ _=>rfl))
 have aB:FnT K mg "_law_take" dN ["pool","many"] _ _:=jC X G a9 l9 c9 k9 (zq (fun _ _=>rfl))
 have fQ:FnT K mg "_law_name" jA ["k"] _ _:=jC X G a10 l10 c10 k10 (Ou (fun _=>rfl))
 have fU:FnT K mg "_law_leaf" gH ["pool","names"] _ _:=jC X G a11 l11 c11 k11 (zq (fun _ _=>rfl))
 have bG:FnT K mg "_law_recipe" bx ["pool","names","deep"] _ _:=jC X G a12 l12 c12 k12 (Ja (fun _ _ _=>rfl))
 have jX:FnT K mg "_law_house" bJ ["script","start","many"] _ _:=jC X G a13 l13 c13 k13 (Ja (fun _ _ _=>rfl))
 have bQ:FnT K mg "_law_value" bO ["house","r","state","reads"] _ _:=jC X G a14 l14 c14 k14 (U8 (fun _ _ _ _=>rfl))
 have dO:FnT K mg "_law_look" d7 ["house","name","state","reads"] _ _:=jC X G a15 l15 c15 k15 (U8 (fun _ _ _ _=>rfl))
 have cJ:FnT K mg "_law_settled" bA ["house","name","state"] _ _:=jC X G a16 l16 c16 k16 (Ja (fun _ _ _=>rfl))
 have jY:FnT K mg "_law_fresh" d8 ["house","wishes"] _ _:=jC X G a17 l17 c17 k17 (zq (fun _ _=>rfl))
 have jr:FnT K mg "_law_wishes" dz ["house","pool"] _ _:=jC X G a18 l18 c18 k18 (zq (fun _ _=>rfl))
 have aY:FnT K mg "_law_settle" aX ["house","records","name","state"] _ _:=jC X G a19 l19 c19 k19 (U8 (fun _ _ _ _=>rfl))
 have aO:FnT K mg "_law_reckoned" aN ["house","r","records","state"] _ _:=jC X G a20 l20 c20 k20 (U8 (fun _ _ _ _=>rfl))
 have UT:FnT K mg "law" cZ ["script"] _ _:=jC X G a21 l21 c21 k21 (Ou (fun _=>rfl))
 have fu:gR K CK "__init__" "Reckoning.__init__" cM ["self","r"] _ _:=⟨kY abw abx Xg,Binds.all (zq (fun _ _=>rfl)),⟨Xe,Xf,Xg⟩⟩
 have dZ:gR K CK "lacking" "Reckoning.lacking" cz ["self","known"] _ _:=⟨kY abA abB Xi,Binds.all (zq (fun _ _=>rfl)),⟨aby,abz,Xi⟩⟩
 have fL:gR K CK "go_on" "Reckoning.go_on" aM ["self","step"] _ _:=⟨kY abE abF Xk,Binds.all (zq (fun _ _=>rfl)),⟨abC,abD,Xk⟩⟩
 have ajY:Cls K CK:=⟨abG,abH,abI,abJ⟩
 have xx:Mk K CK _:=⟨abK,Xe,Xf,abL⟩
 have xF:=PySem.W.mg_of X G ACK
 have dJ:gR K CN "__init__" "NamedRecords.__init__" bV ["self","records"] _ _:=⟨kY abM abN Xo,Binds.all (zq (fun _ _=>rfl)),⟨Xm,Xn,Xo⟩⟩
 have cF:gR K CN "records_for" "NamedRecords.records_for" aQ ["self","name","r"] _ _:=⟨kY abQ abR Xq,Binds.all (Ja (fun _ _ _=>rfl)),⟨abO,abP,Xq⟩⟩
 have cR:gR K CN "put_made" "NamedRecords.put_made" cQ ["self","record"] _ _:=⟨kY abU abV Xu,Binds.all (zq (fun _ _=>rfl)),⟨abS,abT,Xu⟩⟩
 have ajZ:Cls K CN:=⟨abW,abX,abY,abZ⟩
 have rB:Mk K CN _:=⟨ab0,Xm,Xn,ab1⟩
 have rC:=PySem.W.mg_of X G ACN
 have fY:gR K CS "__init__" "Settling.__init__" cA ["self","r","records"] _ _:=⟨kY ab2 ab3 Xy,Binds.all (Ja (fun _ _ _=>rfl)),⟨Xw,Xx,Xy⟩⟩
 have eY:gR K CS "lacking" "Settling.lacking" bD ["self","known"] _ _:=⟨kY ab6 ab7 XC,Binds.all (zq (fun _ _=>rfl)),⟨ab4,ab5,XC⟩⟩
 have fP:gR K CS "fit_on" "Settling.fit_on" dI ["self","worth"] _ _:=⟨kY acd ace XF,Binds.all (zq (fun _ _=>rfl)),⟨ab8,ab9,XF⟩⟩
 have bw:gR K CS "was_reckoned" "Settling.was_reckoned" bL ["self"] _ _:=⟨kY ach aci XJ,Binds.all (Ou (fun _=>rfl)),⟨acf,acg,XJ⟩⟩
 have dF:gR K CS "new_record" "Settling.new_record" cH ["self"] _ _:=⟨kY acn aco XN,Binds.all (Ou (fun _=>rfl)),⟨acj,ack,XN⟩⟩
 have aj0:Cls K CS:=⟨acp,acq,acr,acs⟩
 have Af:Mk K CS _:=⟨acu,Xw,Xx,acv⟩
 have Ag:=PySem.W.mg_of X G ACS
 have gY:gR K CE "__init__" "Search.__init__" cV ["self","house","old"] _ _:=⟨kY acw acy XX,Binds.all (Ja (fun _ _ _=>rfl)),⟨XR,XS,XX⟩⟩
 have iV:gR K CE "begin" "Search.begin" dB ["self","name"] _ _:=⟨kY acB acC X4,Binds.all (zq (fun _ _=>rfl)),⟨acz,acA,X4⟩⟩
 have j7:gR K CE "end" "Search.end" eU ["self","name","settling"] _ _:=⟨kY acF acG X6,Binds.all (Ja (fun _ _ _=>rfl)),⟨acD,acE,X6⟩⟩
 have jy:gR K CE "made" "Search.made" gJ ["self"] _ _:=⟨kY acJ acK X8,Binds.all (Ou (fun _=>rfl)),⟨acH,acI,X8⟩⟩
 have jz:gR K CE "kept" "Search.kept" gK ["self"] _ _:=⟨kY acN acO Yc,Binds.all (Ou (fun _=>rfl)),⟨acL,acM,Yc⟩⟩
 have iy:gR K CE "settle" "Search.settle" bI ["self","name"] _ _:=⟨kY acR acS Ye,Binds.all (zq (fun _ _=>rfl)),⟨acP,acQ,Ye⟩⟩
 have aj1:Cls K CE:=⟨acT,acU,acV,acW⟩
 have HJ:Mk K CE _:=⟨acX,XR,XS,acY⟩
 have HN:=PySem.W.mg_of X G ACE
 have T:Blt mg:=⟨PySem.W.mg_none_of X G U9,PySem.W.mg_none_of X G Ky,PySem.W.mg_none_of X G Va,PySem.W.mg_none_of X G Vb,PySem.W.mg_none_of X G Ov,PySem.W.mg_none_of X G Kz,PySem.W.mg_none_of X G vR,PySem.W.mg_none_of X G Ow,PySem.W.mg_none_of X G Ox,PySem.W.mg_none_of X G Vc,PySem.W.mg_none_of X G Vd,PySem.W.mg_none_of X G Ve,PySem.W.mg_none_of X G Vf,PySem.W.mg_none_of X G Vg,PySem.W.mg_none_of X G Ih,PySem.W.mg_none_of X G Vh,PySem.W.mg_none_of X G yo,PySem.W.mg_none_of X G Vi,PySem.W.mg_none_of X G Br,PySem.W.mg_none_of X G Vj⟩
 refine⟨PySem.W.fnOf "law" "law" (bN cZ) (bB cZ) (aa cZ) .none afa afb afc aeY abv afd,fun s v=> .of_eq rfl,fun base _ _=> ?_⟩
 have rkc:RkC K CK:=⟨ajY,Ig,Em,En⟩
 have nrc:NrC K CN:=⟨ajZ,yh⟩
 have sec:SeC K CS:=⟨aj0,Bq,yj,Eo,ue⟩
 have src:SrC K CE:=⟨aj1,Ep,yl,Kw,Er,ym,vQ⟩
 have D1:=Rw (P:=l.prog) (w:=w) (base:=base) o9 T
 have D2:=v7 (P:=l.prog) (w:=w) (base:=base) (mg:=mg) fu rkc
 have D3:=zX (P:=l.prog) (w:=w) (base:=base) fL o9 D1 T rkc
 have D4:=wX (P:=l.prog) (w:=w) (base:=base) dZ fL D3 T rkc
 have D5:=zZ (P:=l.prog) (w:=w) (base:=base) bC T kd
 have D6:=Hy (P:=l.prog) (w:=w) (base:=base) gF bC D5 T kd 10
 have D7:=tK (P:=l.prog) (w:=w) (base:=base) (mg:=mg) dJ nrc
 have D8:=tM (P:=l.prog) (w:=w) (base:=base) (mg:=mg) cR
 have D9:=qy (P:=l.prog) (w:=w) (base:=base) cF gF D6 T nrc
 have C1:=xr (P:=l.prog) (w:=w) (base:=base) fY fu D2 xx xF sec
 have C2:=tQ (P:=l.prog) (w:=w) (base:=base) bw T sec
 have C3:=Ac (P:=l.prog) (w:=w) (base:=base) (mg:=mg) fP sec
 have C4:=yI (P:=l.prog) (w:=w) (base:=base) eY fP C3 dZ D4 T sec rkc
 have C5:=vG (P:=l.prog) (w:=w) (base:=base) dF bw C2 T sec rkc
 have C6:=Ae (P:=l.prog) (w:=w) (base:=base) (mg:=mg) gY src
 have C7:=Fl (P:=l.prog) (w:=w) (base:=base) iV cF D9 fY C1 Af Ag T src nrc
 have C8:=Iu (P:=l.prog) (w:=w) (base:=base) j7 dF C5 bw C2 cR D8 T src sec nrc
 have C9:=DR (P:=l.prog) (w:=w) (base:=base) iy iV C7 eY C4 j7 C8 T src sec
 have CA:=HD (P:=l.prog) (w:=w) (base:=base) jy T src
 have CB:=HH (P:=l.prog) (w:=w) (base:=base) jz T src
 have CC:=Ml (P:=l.prog) (w:=w) (base:=base) lQ gY C6 iy C9 HJ HN T src
 have DA:=HQ (P:=l.prog) (w:=w) (base:=base) iK lQ CC dJ D7 rB rC jy CA jz CB T src
 have F1:=HS (P:=l.prog) (w:=w) (base:=base) eG T
 have F2:=Mp (P:=l.prog) (w:=w) (base:=base) dm eG F1 T
 have F3:=Mq (P:=l.prog) (w:=w) (base:=base) aB T
 have F4:=Mr (P:=l.prog) (w:=w) (base:=base) fQ T
 have F5:=Mv (P:=l.prog) (w:=w) (base:=base) fU aB F3 T
 have F6:=HW (P:=l.prog) (w:=w) (base:=base) bG aB F3 fU F5 T
 have F7:=Kd (P:=l.prog) (w:=w) (base:=base) jX aB F3 dm F2 fQ F4 bG F6 T
 have F9:=xQ (P:=l.prog) (w:=w) (base:=base) cJ bQ dO T 17
 have E1:=Kf (P:=l.prog) (w:=w) (base:=base) jY cJ F9 T
 have E2:=IK (P:=l.prog) (w:=w) (base:=base) jr aB F3 T
 have E5:=Mx (P:=l.prog) (w:=w) (base:=base) fW iK DA T
 have E8:=ud (P:=l.prog) (w:=w) (base:=base) aY aO T 17
 exact abm UT dm F2 aB F3 jX F7 jr E2 jY E1 aY E8 fW E5 T
theorem walk {l:PySem.W.OpenLaw}{q:Program}{loose:List Str}{XP:(Str->Option Value)->Heap->Prop}{YP:World->Heap->Prop}{d:DefRec}{K:Params->PySem.W.Frag} (hn:l.most=some 63) (hdf:d.params.defaults=[])
 (hY:∀(w:World) (h:Heap),YP w h->(K w.params).In h)
 (F:∀(w:World) (mg:Str->Option Value) (fa:Addr) (h:Heap),(K w.params).In h->h.Ns mainGlobals mg->mg d.name=some (.ref fa)->
   ∃fd:FuncData,(∀(s:Shared) (u:Value),BindsTo s fd ⟨[u],[]⟩ [("script",u)])/\∀base:Heap,(K w.params).In base->base.Ns mainGlobals mg->bh l.prog w (K w.params) mg base CX0 139 fa fd ["script"] (Pz (K w.params))):
 PySem.W.WalkO q loose XP YP l.row.toRowW d [] (fun f vs=>PySem.call f vs):=
 L2.Ph (n:=63) (k:=139) (x:="script") (CX:=fun _=>CX0) (sp:=fun w=>Pz (K w.params)) hn (by decide) hdf ⟨rfl,by decide,by decide⟩ hY F (fun _ _ a ns hl _ hS=>⟨a,ns,rfl,hS,hl,fun _=>rfl⟩) fun _ _ _ _ _ z=>z
end K39
open PySem PySem.W PyProof.Rows
namespace PySem.W.Fast
def tw6820038599536406224:Nat:=0
def tw17757573137719957650:Nat:=0
def tw16897672321965128824:Nat:=0
def tw4857293192089785191:Nat:=0
def tw8286290631948234519:Nat:=0
def tw13013839930230812494:Nat:=0
def tw13545317249958179045:Nat:=0
def tw17229396993758185175:Nat:=0
def tw2196228555276839188:Nat:=0
def tw11181382352564713976:Nat:=0
def tw8180862080175309008:Nat:=0
def tw748969261060360571:Nat:=0
def tw2435360108964016149:Nat:=0
def tw15526363181629011616:Nat:=0
def tw243868019551310610:Nat:=0
def tw3001465432933597849:Nat:=0
def tw6098357525802757981:Nat:=0
def tw10747199654654277592:Nat:=0
def tw434596074248410139:Nat:=0
def tw5727848906740296453:Nat:=0
def tw13824017633474303758:Nat:=0
def tw284885522859696586:Nat:=0
def tw13902359333017706730:Nat:=0
def tw16920397199902233785:Nat:=0
def tw9082416463354388155:Nat:=0
def tw7079456651580140903:Nat:=0
def tw12133206378351764035:Nat:=0
def tw16804922923006851376:Nat:=0
def tw17001710460863413271:Nat:=0
def tw1458262800261086004:Nat:=0
def tw9247922147831207193:Nat:=0
def tw9270383179861452330:Nat:=0
def tw1586966797007785351:Nat:=0
def tw1132787129224510318:Nat:=0
def tw6512997243048562162:Nat:=0
def tw17784659828032532001:Nat:=0
def tw3335100795096435375:Nat:=0
def tw7627962129133081164:Nat:=0
def tw936948367004601185:Nat:=0
def tw4744728748253421950:Nat:=0
def tw6762877005753994774:Nat:=0
def tw5822392394075196028:Nat:=0
def tw8893905581123005776:Nat:=0
def tw8053726690283544068:Nat:=0
def tw5879671297394478112:Nat:=0
def tw5500397165640315599:Nat:=0
def tw6375708994680717186:Nat:=0
def tw3072383172915801366:Nat:=0
def tw10338431873314405435:Nat:=0
def tw7924387288919876792:Nat:=0
def tw1551091267442582785:Nat:=0
def tw15449687746039141692:Nat:=0
def tw12008367199123130341:Nat:=0
def tw11878680779689691667:Nat:=0
def tw13124387350207127648:Nat:=0
def tw4290104887619586008:Nat:=0
def tw101255173823852999:Nat:=0
def tw12774249749934204418:Nat:=0
def tw14900231910430996516:Nat:=0
def tw1911800200763025328:Nat:=0
def tw4702195490169071422:Nat:=0
def tw11234358580899384622:Nat:=0
def tw1860236034765005608:Nat:=0
def tw9765110029569744229:Nat:=0
def tw4866509287921679358:Nat:=0
def tw12535099137984587986:Nat:=0
def tw3766567444885766598:Nat:=0
def tw7363235721842610087:Nat:=0
def tw13141134624484351180:Nat:=0
def tw18113182373522722086:Nat:=0
def tw17560667765663488262:Nat:=0
def tw5951600940346004392:Nat:=0
def tw5261935351864301782:Nat:=0
def tw1973737088279022651:Nat:=0
def tw2778456533818925224:Nat:=0
def tw17046306102685188232:Nat:=0
def tw7330406358996558323:Nat:=0
def tw15595987740745379922:Nat:=0
def tw13345890932440479417:Nat:=0
def tw14828836025154363873:Nat:=0
def tw16504669361778346161:Nat:=0
def tw374017624865863145:Nat:=0
def tw13277746840995515944:Nat:=0
def tw3958235030269607931:Nat:=0
def tw15027218065903665010:Nat:=0
def tw4717380269549918814:Nat:=0
def tw6928460625407885814:Nat:=0
def tw9128703825098257590:Nat:=0
def tw7761810763669516038:Nat:=0
def tw10299145961705089935:Nat:=0
def tw10916002101336662055:Nat:=0
def tw8784120912233994378:Nat:=0
def tw7324307338801506101:Nat:=0
def tw3891704611960657790:Nat:=0
def tw13568810644774398492:Nat:=0
def tw12524238446344003451:Nat:=0
def tw17545926230301254075:Nat:=0
def tw13380108129807694087:Nat:=0
def tw18071767840990035035:Nat:=0
def tw1248645802959460148:Nat:=0
def tw18364299360078265197:Nat:=0
def tw10090341618093068172:Nat:=0
def tw1289001645225333698:Nat:=0
def tw15013964237383053962:Nat:=0
def tw849730251291251163:Nat:=0
def tw1962505204154288146:Nat:=0
def tw2758197350682660966:Nat:=0
def tw482240550128007459:Nat:=0
def tw18257881564234732603:Nat:=0
def tw210047138654879008:Nat:=0
def tw17140411288050599711:Nat:=0
def tw13180143648233886646:Nat:=0
def tw1561934333555212333:Nat:=0
def tw1773153516834474351:Nat:=0
def tw3482587351391734299:Nat:=0
def tw9600087230964154173:Nat:=0
def tw8170800633562176036:Nat:=0
def tw16084689352643186023:Nat:=0
def tw9930200537380872420:Nat:=0
def tw11126745736134759550:Nat:=0
def tw16179531188370270093:Nat:=0
def tw3652655487926196585:Nat:=0
def tw3862475692934851586:Nat:=0
def tw17563718787914583743:Nat:=0
def tw10949895434026405222:Nat:=0
def tw5591159088964908273:Nat:=0
def tw3408612048257074608:Nat:=0
def tw18377244066253235639:Nat:=0
def tw13273824361232272801:Nat:=0
def tw2810171853691063327:Nat:=0
def tw974215841018204970:Nat:=0
def tw16599260493852131815:Nat:=0
def tw4573112586783189879:Nat:=0
def tw11503473001049240956:Nat:=0
def tw5208882653949145361:Nat:=0
def tw12324779589141114092:Nat:=0
def tw9626436684492343024:Nat:=0
def tw7124004162819267873:Nat:=0
def tw2238884767049189241:Nat:=0
def tw9997702647134980703:Nat:=0
def tw16245962112049941876:Nat:=0
def tw10108342344957929497:Nat:=0
def tw7069321536038350894:Nat:=0
def tw16552917766333778428:Nat:=0
def tw17465126213740657582:Nat:=0
def tw14853700549938934780:Nat:=0
def tw3936371190295701371:Nat:=0
def tw13550597347813776519:Nat:=0
def tw4062288548414968621:Nat:=0
def tw11788382341095816511:Nat:=0
def tw7126203668321634482:Nat:=0
def tw4932956028707130719:Nat:=0
def tw2265690975530326881:Nat:=0
def tw11347447076601081720:Nat:=0
def tw6312125643978720400:Nat:=0
def tw14926082076195448701:Nat:=0
def tw16980860588271110881:Nat:=0
def tw10164397525629846925:Nat:=0
def tw6696250751650034644:Nat:=0
def tw1398916493292324701:Nat:=0
def tw8989531937221571489:Nat:=0
def tw10852610352492149478:Nat:=0
def tw17278959290671824595:Nat:=0
def tw14038262296265542980:Nat:=0
def tw4740159332914209266:Nat:=0
def tw7956469011832267141:Nat:=0
def tw9771929049970042718:Nat:=0
def tw2438907241658101074:Nat:=0
def tw10186098653653874201:Nat:=0
def tw9877715695022987170:Nat:=0
def tw7862688005232885931:Nat:=0
def tw13068016601665233756:Nat:=0
def tw4986887631346513121:Nat:=0
def tw3437990434228781473:Nat:=0
def tw11683666729040124312:Nat:=0
def tw16666903160945326151:Nat:=0
def tw6336898409409372867:Nat:=0
def tw6189685061053938925:Nat:=0
def tw909337677465227614:Nat:=0
def tw1601024579668777997:Nat:=0
def tw14100095132624872149:Nat:=0
def tw11424267435034161238:Nat:=0
def tw5063882065487281382:Nat:=0
def tw2705755250935785763:Nat:=0
def tw14207767545694592721:Nat:=0
def tw5316419562138709190:Nat:=0
def tw2722906158508894161:Nat:=0
def tw7776668999647391985:Nat:=0
def tw13522106240644887631:Nat:=0
def tw3648434747709210799:Nat:=0
def tw1496828621449110469:Nat:=0
def tw16162801935507518961:Nat:=0
def tw5490350618856617925:Nat:=0
def tw5959763510732513417:Nat:=0
def tw15689607105105797498:Nat:=0
def tw13649644094602977307:Nat:=0
def tw13344581784121796442:Nat:=0
def tw4850097725670812469:Nat:=0
def tw14431404061667863039:Nat:=0
def tw12558805609466753870:Nat:=0
def tw5914086575653292630:Nat:=0
def tw8293928406808638978:Nat:=0
def tw9656169652815150894:Nat:=0
def tw7760278647814002708:Nat:=0
def tw1215252403574714951:Nat:=0
def tw5714522534517472931:Nat:=0
def tw16907160736825753144:Nat:=0
def tw15691822266480804560:Nat:=0
def tw5065213145773719034:Nat:=0
def tw13115150896170293070:Nat:=0
def tw18404197895511792561:Nat:=0
def tw10993029208573740062:Nat:=0
def tw17542680702515214488:Nat:=0
def tw14983778483299472782:Nat:=0
def tw12220780587075679674:Nat:=0
def tw18198231462825360916:Nat:=0
def tw2115880541300328374:Nat:=0
def tw5164031649283511335:Nat:=0
def tw10867279598228494095:Nat:=0
def tw14772022249549692577:Nat:=0
def tw14984163964631369344:Nat:=0
def tw14210179086758694529:Nat:=0
def tw9356692567897375089:Nat:=0
def tw14277273357773301887:Nat:=0
def tw13001159801823190342:Nat:=0
def tw4905113671724470226:Nat:=0
def tw4127779626431416749:Nat:=0
def tw7553436266820380153:Nat:=0
def tw77740496286658682:Nat:=0
def tw16282462972670348528:Nat:=0
def tw12700141837807563467:Nat:=0
def tw1562158969192142780:Nat:=0
def tw1822329611767779760:Nat:=0
def tw12413846161509255269:Nat:=0
def tw17808890004468133217:Nat:=0
def tw2334247799527929490:Nat:=0
def tw11753126249554535496:Nat:=0
def tw1917183706998769714:Nat:=0
def tw6930400212184646784:Nat:=0
def tw17232591046964624295:Nat:=0
def tw16290745107219504121:Nat:=0
def tw15937359556249412835:Nat:=0
def tw12154102384899621916:Nat:=0
def tw2254919081556477620:Nat:=0
def tw5358457063915813012:Nat:=0
def tw7024167673444298999:Nat:=0
def tw4681207971527240618:Nat:=0
def tw458306443910314581:Nat:=0
def tw15300172828438420926:Nat:=0
def tw17754454192568336892:Nat:=0
def tw15632472827948497001:Nat:=0
def tw9204449643254116760:Nat:=0
def tw6244714374767521198:Nat:=0
def tw14834564736695910347:Nat:=0
def tw10314068442702966363:Nat:=0
def tw5603931716281279291:Nat:=0
def tw8300031679482762488:Nat:=0
def tw11340716736728240919:Nat:=0
def tw12108503718131759242:Nat:=0
def tw2874104634863557830:Nat:=0
def tw14062566688520216609:Nat:=0
def tw106458120142212906:Nat:=0
def tw11133059386535959490:Nat:=0
def tw4645129776168689250:Nat:=0
def tw2912493192151913863:Nat:=0
def tw17405203289251382816:Nat:=0
def tw9610291253591089738:Nat:=0
def tw14519696709682622759:Nat:=0
def tw1741992647131291068:Nat:=0
def tw15882250875532778677:Nat:=0
def tw15229658577489982:Nat:=0
def tw3642689903773273102:Nat:=0
def tw14577170328149218693:Nat:=0
def tw2446585500650767699:Nat:=0
def tw12828832445223207087:Nat:=0
def tw5723550293851810102:Nat:=0
def tw4210512027269319892:Nat:=0
def tw16778680149670339526:Nat:=0
def tw11746666442705176527:Nat:=0
def tw7227512889694399845:Nat:=0
def tw17221155094924945263:Nat:=0
def tw10705583246002837863:Nat:=0
def tw8874955334254147194:Nat:=0
def tw998935797822049918:Nat:=0
def tw16986849255066232544:Nat:=0
def tw3418075804830384025:Nat:=0
def tw2535880314045988548:Nat:=0
def tw15444403135690598192:Nat:=0
def tw16113591078208045174:Nat:=0
def tw5790302015466260486:Nat:=0
def tw5923008501256877612:Nat:=0
def tw10277575926282633275:Nat:=0
def tw9296316839016971530:Nat:=0
def tw4585997353417397522:Nat:=0
def tw3339184300784003766:Nat:=0
def tw7192057389394411207:Nat:=0
def tw10918840927154386586:Nat:=0
def tw12779535565250272535:Nat:=0
def tw10697041082343978489:Nat:=0
def tw9345259040951958596:Nat:=0
def tw2798439884322517570:Nat:=0
def tw11354059790548042535:Nat:=0
def tw194698867129972447:Nat:=0
def tw96549497379326650:Nat:=0
def tw3256168081359224783:Nat:=0
def tw14959294663151028905:Nat:=0
def tw11855936068364144431:Nat:=0
def tw1787388956710933099:Nat:=0
def tw14503408840539662070:Nat:=0
def tw9925583074503599004:Nat:=0
def tw5390481090232279452:Nat:=0
def tw1182001427190397458:Nat:=0
def tw15326429493296562145:Nat:=0
def tw12861738259170686196:Nat:=0
def tw6568929935384318052:Nat:=0
def tw14233500348283215293:Nat:=0
def tw2403125164913413621:Nat:=0
def tw1807815642762842447:Nat:=0
def tw10569414768239982081:Nat:=0
def tw2135268531145983694:Nat:=0
def tw10466585943490896624:Nat:=0
def tw17297733993375560969:Nat:=0
def tw18067938054738632733:Nat:=0
def tw13869429362561897948:Nat:=0
def tw4653205735892575743:Nat:=0
def tw13138422097084647093:Nat:=0
def tw1000110139275034431:Nat:=0
def tw14920715931563485858:Nat:=0
def tw2635403738067567288:Nat:=0
def tw3068532187802683769:Nat:=0
def tw1243762778918233893:Nat:=0
def tw17798960219235000081:Nat:=0
def tw2900590175243692222:Nat:=0
def tw10394754071738750238:Nat:=0
def tw3337414672558815341:Nat:=0
def tw5029667245433069115:Nat:=0
def tw1699607523022915795:Nat:=0
def tw6326864282602108503:Nat:=0
def tw9640369769701895342:Nat:=0
def tw11016033016631968416:Nat:=0
def tw3583733071988766801:Nat:=0
def tw9297991638930089863:Nat:=0
def tw17732456791781521803:Nat:=0
def tw12530906358524434855:Nat:=0
def tw5747306358681035836:Nat:=0
def tw18028472528605086188:Nat:=0
def tw2166556524083155028:Nat:=0
def tw7810198891901564245:Nat:=0
def tw9756532352436292445:Nat:=0
def tw9263506873345491034:Nat:=0
def tw8328037539727658427:Nat:=0
def tw5154358373489128519:Nat:=0
def tw9383672985451415479:Nat:=0
def tw6016808662301935357:Nat:=0
def tw11011055668327651661:Nat:=0
end PySem.W.Fast
set_option maxRecDepth 100000 in
set_option maxHeartbeats 0 in
theorem PySem.Challenge.cw_madeagain_k39_reach_holds : PySem.Challenge.rw_madeagain_k39_reach.Holds := by
 w_on;o_law;k_head;(case hw=>w_witness2)
 k_fill
 refine K39.walk (l:=PySem.Challenge.rw_madeagain_k39_reach) rfl rfl (fun w h Y=>PySem.W.kIn_of Y) ?F
 case F=>
  intro w mg fa h KX G hmg
  refine' K39.all_mk KX G hmg ?a1 ?l1 ?c1 ?k1 ?a2 ?l2 ?c2 ?k2 ?a3 ?l3 ?c3 ?k3 ?a4 ?l4 ?c4 ?k4 ?a5 ?l5 ?c5 ?k5 ?a6 ?l6 ?c6 ?k6 ?a7 ?l7 ?c7 ?k7 ?a8 ?l8 ?c8 ?k8 ?a9 ?l9 ?c9 ?k9 ?a10 ?l10 ?c10 ?k10 ?a11 ?l11 ?c11 ?k11 ?a12 ?l12 ?c12 ?k12 ?a13 ?l13 ?c13 ?k13 ?a14 ?l14 ?c14 ?k14 ?a15 ?l15 ?c15 ?k15 ?a16 ?l16 ?c16 ?k16 ?a17 ?l17 ?c17 ?k17 ?a18 ?l18 ?c18 ?k18 ?a19 ?l19 ?c19 ?k19 ?a20 ?l20 ?c20 ?k20 ?a21 ?l21 ?c21 ?k21 ?kd ?ACK ?Xe ?Xf ?abw ?abx ?Xg ?aby ?abz ?abA ?abB ?Xi ?abC ?abD ?abE ?abF ?Xk ?abG ?abH ?abI ?abJ ?abK ?abL ?Ig ?Em ?En ?ACN ?Xm ?Xn ?abM ?abN ?Xo ?abO ?abP ?abQ ?abR ?Xq ?abS ?abT ?abU ?abV ?Xu ?abW ?abX ?abY ?abZ ?ab0 ?ab1 ?yh ?ACS ?Xw ?Xx ?ab2 ?ab3 ?Xy ?ab4 ?ab5 ?ab6 ?ab7 ?XC ?ab8 ?ab9 ?acd ?ace ?XF ?acf ?acg ?ach ?aci ?XJ ?acj ?ack ?acn ?aco ?XN ?acp ?acq ?acr ?acs ?acu ?acv ?Bq ?yj ?Eo ?ue ?ACE ?XR ?XS ?acw ?acy ?XX ?acz ?acA ?acB ?acC ?X4 ?acD ?acE ?acF ?acG ?X6 ?acH ?acI ?acJ ?acK ?X8 ?acL ?acM ?acN ?acO ?Yc ?acP ?acQ ?acR ?acS ?Ye ?acT ?acU ?acV ?acW ?acX ?acY ?Ep ?yl ?Kw ?Er ?ym ?vQ ?U9 ?Ky ?Va ?Vb ?Ov ?Kz ?vR ?Ow ?Ox ?Vc ?Vd ?Ve ?Vf ?Vg ?Ih ?Vh ?yo ?Vi ?Br ?Vj
  (case a1=>k_is);(case l1=>k_is);(case c1=>k_is);(case k1=>k_is)
  (case a2=>k_is);(case l2=>k_is);(case c2=>k_is);(case k2=>k_is)
  (case a3=>k_is);(case l3=>k_is);(case c3=>k_is);(case k3=>k_is)
  (case a4=>k_is);(case l4=>k_is);(case c4=>k_is);(case k4=>k_is)
  (case a5=>k_is);(case l5=>k_is);(case c5=>k_is);(case k5=>k_is)
  (case a6=>k_is);(case l6=>k_is);(case c6=>k_is);(case k6=>k_is)
  (case a7=>k_is);(case l7=>k_is);(case c7=>k_is);(case k7=>k_is)
  (case a8=>k_is);(case l8=>k_is);(case c8=>k_is);(case k8=>k_is)
  (case a9=>k_is);(case l9=>k_is);(case c9=>k_is);(case k9=>k_is)
  (case a10=>k_is);(case l10=>k_is);(case c10=>k_is);(case k10=>k_is)
  (case a11=>k_is);(case l11=>k_is);(case c11=>k_is);(case k11=>k_is)
  (case a12=>k_is);(case l12=>k_is);(case c12=>k_is);(case k12=>k_is)
  (case a13=>k_is);(case l13=>k_is);(case c13=>k_is);(case k13=>k_is)
  (case a14=>k_is);(case l14=>k_is);(case c14=>k_is);(case k14=>k_is)
  (case a15=>k_is);(case l15=>k_is);(case c15=>k_is);(case k15=>k_is)
  (case a16=>k_is);(case l16=>k_is);(case c16=>k_is);(case k16=>k_is)
  (case a17=>k_is);(case l17=>k_is);(case c17=>k_is);(case k17=>k_is)
  (case a18=>k_is);(case l18=>k_is);(case c18=>k_is);(case k18=>k_is)
  (case a19=>k_is);(case l19=>k_is);(case c19=>k_is);(case k19=>k_is)
  (case a20=>k_is);(case l20=>k_is);(case c20=>k_is);(case k20=>k_is)
  (case a21=>k_is);(case l21=>k_is);(case c21=>k_is);(case k21=>k_is)
  (case kd=>exact RB.Tn (by kernel_rfl))
  (case ACK=>k_is);(case Xe=>k_is);(case Xf=>k_is);(case abw=>k_is);(case abx=>k_is);(case Xg=>k_is);(case aby=>k_is);(case abz=>k_is);(case abA=>k_is);(case abB=>k_is);(case Xi=>k_is);(case abC=>k_is);(case abD=>k_is);(case abE=>k_is);(case abF=>k_is);(case Xk=>k_is);(case abG=>k_is);(case abH=>k_is);(case abI=>k_is);(case abJ=>k_is);(case abK=>k_is);(case abL=>k_is);(case Ig=>k_is);(case Em=>k_is);(case En=>k_is);(case ACN=>k_is);(case Xm=>k_is);(case Xn=>k_is);(case abM=>k_is);(case abN=>k_is);(case Xo=>k_is);(case abO=>k_is);(case abP=>k_is);(case abQ=>k_is);(case abR=>k_is);(case Xq=>k_is);(case abS=>k_is);(case abT=>k_is);(case abU=>k_is);(case abV=>k_is);(case Xu=>k_is);(case abW=>k_is);(case abX=>k_is);(case abY=>k_is);(case abZ=>k_is);(case ab0=>k_is);(case ab1=>k_is);(case yh=>k_is);(case ACS=>k_is);(case Xw=>k_is);(case Xx=>k_is);(case ab2=>k_is);(case ab3=>k_is);(case Xy=>k_is);(case ab4=>k_is);(case ab5=>k_is);(case ab6=>k_is);(case ab7=>k_is);(case XC=>k_is);(case ab8=>k_is);(case ab9=>k_is);(case acd=>k_is);(case ace=>k_is);(case XF=>k_is);(case acf=>k_is);(case acg=>k_is);(case ach=>k_is);(case aci=>k_is);(case XJ=>k_is);(case acj=>k_is);(case ack=>k_is);(case acn=>k_is);(case aco=>k_is);(case XN=>k_is);(case acp=>k_is);(case acq=>k_is);(case acr=>k_is);(case acs=>k_is);(case acu=>k_is);(case acv=>k_is);(case Bq=>k_is);(case yj=>k_is);(case Eo=>k_is);(case ue=>k_is);(case ACE=>k_is);(case XR=>k_is);(case XS=>k_is);(case acw=>k_is);(case acy=>k_is);(case XX=>k_is);(case acz=>k_is);(case acA=>k_is);(case acB=>k_is);(case acC=>k_is);(case X4=>k_is);(case acD=>k_is);(case acE=>k_is);(case acF=>k_is);(case acG=>k_is);(case X6=>k_is);(case acH=>k_is);(case acI=>k_is);(case acJ=>k_is);(case acK=>k_is);(case X8=>k_is);(case acL=>k_is);(case acM=>k_is);(case acN=>k_is);(case acO=>k_is);(case Yc=>k_is);(case acP=>k_is);(case acQ=>k_is);(case acR=>k_is);(case acS=>k_is);(case Ye=>k_is);(case acT=>k_is);(case acU=>k_is);(case acV=>k_is);(case acW=>k_is);(case acX=>k_is);(case acY=>k_is);(case Ep=>k_is);(case yl=>k_is);(case Kw=>k_is);(case Er=>k_is);(case ym=>k_is);(case vQ=>k_is)
  (case U9=>k_is);(case Ky=>k_is);(case Va=>k_is);(case Vb=>k_is);(case Ov=>k_is);(case Kz=>k_is);(case vR=>k_is);(case Ow=>k_is);(case Ox=>k_is);(case Vc=>k_is);(case Vd=>k_is);(case Ve=>k_is);(case Vf=>k_is);(case Vg=>k_is);(case Ih=>k_is);(case Vh=>k_is);(case yo=>k_is);(case Vi=>k_is);(case Br=>k_is);(case Vj=>k_is)
