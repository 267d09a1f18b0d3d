import PyProof.Rows.All
import Wide.All
import OpenK.AllK
import Wide.FinOn
import Lean
import PyProof.EqAt
import PyProof.EqKinds
import PyProof.TupleCall
import KE.KTops
import KE.KIntText
import KE.KTryMore
import PyProof.ExcBaseAll.ValueError
import PyProof.ZipIter
import KE.KTurns
import PyProof.Rows.SetFrom
import KE.KxText
import PyProof.Rows.SumGenD
import KE.KDictList
import PyProof.DictWalks
import KE.KEqDict
import KE.KDictOf
import PyProof.Rows.SortStr
import PyProof.Rows.SortWalk
import PyProof.WalksEnum
import PyProof.Rows.SumAny
import KE.KItemsList
import KE.KRevIter
import PyProof.ExcInit
import PyProof.InstStoreFacts
import OpenK.KCls
import KE.IntBitsLaws
import PyProof.Rows.SortRunsK
import PyProof.CollectWalk
import PyProof.DictItems
import Wide.Seal
import PyProof.P3Eq
import KE.KSortTup
import PySem.Challenge.RW_madeagain_k17_whole_records_are_true
set_option Elab.async false
set_option linter.all false
set_option maxRecDepth 100000
noncomputable section
namespace L2
open PySem PySem.Spec PyProof.Rows
abbrev Key:=Sum Int Str
def CG:Key->Value->Bool
 | .inl k,v=>Value.isInt k v
 | .inr x,v=>Value.isStrOf x v
def agF (w:World):Key->Int
 | .inl k=>hashInt k
 | .inr x=>hashStr w x
theorem gM:∀{k:Key}{v:Value},CG k v=true->(∃i t,k=Sum.inl i/\v=Value.int i t)\/(∃x t,k=Sum.inr x/\v=Value.str x t)
 | .inl i,v,h=>by
   obtain⟨t,e⟩:=Value.isInt_shape (k:=i) (v:=v) h
   exact .inl ⟨i,t,rfl,e⟩
 | .inr x,v,h=>by
   obtain⟨t,e⟩:=Value.isStrOf_shape (x:=x) (v:=v) h
   exact .inr ⟨x,t,rfl,e⟩
theorem Pg (i:Int) (t:Tok):CG (.inl i) (.int i t)=true:=by simp[CG,Value.isInt]
theorem Ph (x:Str) (t:Tok):CG (.inr x) (.str x t)=true:=by simp[CG,Value.isStrOf]
theorem YM (a b:Int):decide ((Sum.inl a:Key)=Sum.inl b)=(a==b):=by
 by_cases e:a=b
 ·subst e;simp
 ·have h:¬(Sum.inl a:Key)=Sum.inl b:=fun q=>e (Sum.inl.inj q)
  rw[decide_eq_false h]
  exact(beq_eq_false_iff_ne.mpr e).symm
theorem YQ (a b:Str):decide ((Sum.inr a:Key)=Sum.inr b)=decide (a=b):=by
 by_cases e:a=b
 ·subst e;simp
 ·have h:¬(Sum.inr a:Key)=Sum.inr b:=fun q=>e (Sum.inr.inj q)
  rw[decide_eq_false h,decide_eq_false e]
theorem YS (a:Int) (b:Str):decide ((Sum.inl a:Key)=Sum.inr b)=false:=decide_eq_false (fun q=>nomatch q)
theorem YT (a:Str) (b:Int):decide ((Sum.inr a:Key)=Sum.inl b)=false:=decide_eq_false (fun q=>nomatch q)
def dR (prog:Program) (w:World):PySem.KeyKind prog w Key where
 is:=CG
 hash:=agF w
 inj:=fun v a b ha hb=>by
  rcases gM ha with⟨i,t,rfl,rfl⟩ | ⟨x,t,rfl,rfl⟩
  ·rcases gM hb with⟨j,u,rfl,e⟩ | ⟨y,u,rfl,e⟩
   ·injection e with e1 _;rw[e1]
   ·exact nomatch e
  ·rcases gM hb with⟨j,u,rfl,e⟩ | ⟨y,u,rfl,e⟩
   ·exact nomatch e
   ·injection e with e1 _;rw[e1]
 byValue:=fun k v h=>by
  rcases gM h with⟨i,t,rfl,rfl⟩ | ⟨x,t,rfl,rfl⟩<;>rfl
 pyHash:=fun hv h=>by
  rcases gM hv with⟨i,t,rfl,rfl⟩ | ⟨x,t,rfl,rfl⟩
  ·exact wpAny_pyHash_int h
  ·exact wpAny_pyHash_str h
 eqBool:=fun hu hv h=>by
  rcases gM hu with⟨i,t,rfl,rfl⟩ | ⟨x,t,rfl,rfl⟩
  ·rcases gM hv with⟨j,u,rfl,rfl⟩ | ⟨y,u,rfl,rfl⟩
   ·rw[YM] at h;exact wpAny_eqBool_int h
   ·rw[YS] at h;exact SeqAt.EqAt.int_str i t y u _ _ _ _ h
  ·rcases gM hv with⟨j,u,rfl,rfl⟩ | ⟨y,u,rfl,rfl⟩
   ·rw[YT] at h;exact SeqAt.EqAt.str_int x t j u _ _ _ _ h
   ·rw[YQ] at h;exact wpAny_eqBool_str h
 «strs»:=fun k x t v h=>by
  rcases gM h with⟨i,u,rfl,e⟩ | ⟨y,u,rfl,e⟩
  ·exact nomatch e
  ·injection e with e1 _
   subst e1
   cases v<;>rfl
theorem JN (prog:Program) (w:World) (i:Int) (t:Tok):(dR prog w).is (.inl i) (.int i t)=true:=Pg i t
theorem JP (prog:Program) (w:World) (x:Str) (t:Tok):(dR prog w).is (.inr x) (.str x t)=true:=Ph x t
inductive V where
 | non | bl (b:Bool) | int (i:Int) | str (x:Str) | byt (b:Array UInt8) | flt (b:UInt64) | ref (a:Addr) | ty (n:String)
 deriving DecidableEq
def RelV:V->Value->Prop
 | .non,u=>u=Value.none
 | .bl b,u=>u=Value.bool b
 | .int i,u=>∃t,u=Value.int i t
 | .str x,u=>∃t,u=Value.str x t
 | .byt b,u=>∃t,u=Value.bytes b t
 | .flt b,u=>∃t,u=Value.float b t
 | .ref a,u=>u=Value.ref a
 | .ty n,u=>u=Value.type n
abbrev Vals:List V->List Value->Prop:=Paired RelV
theorem Vals.length {xs:List V}{us:List Value} (r:Vals xs us):xs.length=us.length:=Paired.length r
theorem Vals.get:∀{xs:List V}{us:List Value}{i:Nat}{x:V},Vals xs us->xs[i]? =some x->∃u,us[i]? =some u/\RelV x u
 | _,_,_,_, .nil,e=>by simp at e
 | _,_,0,_, .cons r _,e=>by simp at e;subst e;exact⟨_,rfl,r⟩
 | _,_,i+1,x, .cons _ t,e=>by
   obtain⟨u,h1,h2⟩:=Vals.get (i:=i) (x:=x) t (by simpa using e)
   exact⟨u,by simpa using h1,h2⟩
theorem Vals.append:∀{xs ys:List V}{us ws:List Value},Vals xs us->Vals ys ws->Vals (xs++ys) (us++ws)
 | _,_,_,_, .nil,s=>s
 | _,_,_,_, .cons r t,s=> .cons r (Vals.append t s)
theorem Vals.take:∀{xs:List V}{us:List Value} (n:Nat),Vals xs us->Vals (xs.take n) (us.take n)
 | _,_,0,_=> .nil
 | _,_,_+1, .nil=> .nil
 | _,_,n+1, .cons r t=> .cons r (Vals.take n t)
theorem Vals.drop:∀{xs:List V}{us:List Value} (n:Nat),Vals xs us->Vals (xs.drop n) (us.drop n)
 | _,_,0,r=>r
 | _,_,_+1, .nil=> .nil
 | _,_,n+1, .cons _ t=>Vals.drop n t
def u6:Option V->Option Value->Prop
 | some v,some u=>RelV v u
 | none,none=>True
 | _,_=>False
def KV {κ:Type}:List (κ×V)->List (κ×Value)->Prop:=Paired fun(p:κ×V) (q:κ×Value)=>p.1=q.1/\RelV p.2 q.2
def kV:Key->V
 | .inl i=> .int i
 | .inr x=> .str x
inductive HO where
 | lst (xs:List V)
 | tup (xs:List V)
 | dK (kvs:List (Key×V)) | dT (kvs:List (List Key×V))
 | set (S:Int->Bool) (n:Nat)
 | ins (C dx:Addr) (fs:List (Str×V))
 | own (x:Addr)
 | xd (fs:List (Str×V))
 | met (f x:Addr)
 | rng (lo hi:Int)
 | frz (o:Obj) (u:HO)
 | tbl (ps:Array Value)
 | ext (φ:Heap->Prop)
abbrev Hp:=Addr->Option HO
def upd (H:Hp) (a:Addr) (o:HO):Hp:=fun b=>if b=a then some o else H b
theorem ak {H:Hp}{a:Addr}{o:HO}:upd H a o a=some o:=by unfold upd;rw[if_pos rfl]
theorem ao {H:Hp}{a b:Addr}{o:HO} (h:b≠a):upd H a o b=H b:=by unfold upd;rw[if_neg h]
theorem ni {H:Hp}{a:Addr}{o u:HO}:upd (upd H a o) a u=upd H a u:=by
 funext b;unfold upd;split<;>rfl
theorem acJ {H:Hp}{a b:Addr}{o u:HO} (h:H a=some o) (h':H b=some u) (d:o≠u):a≠b:=by
 intro e;subst e;rw[h] at h';exact d (Option.some.inj h')
theorem aF {H:Hp}{a b:Addr}{o:HO} (h:H a=some o) (h':H b=none):a≠b:=by
 intro e;subst e;rw[h] at h';cases h'
section
variable (P:Program) (w:World)
def eF (H:Hp) (h:Heap) (a:Addr):HO->Prop
 | .lst xs=>xs.length<=sizeLine/\∃(its:List Value) (n:Nat),Vals xs its/\h.get? a=some {cls:= .type "list",data:= .seq its.toArray n}
 | .tup xs=>xs.length<=sizeLine/\∃its:List Value,Vals xs its/\IsTup h a its.toArray
 | .dK kvs=>kvs.length<=sizeLine/\(a==sysModules)=false/\∃vs,KV kvs vs/\h.DictOf (dR P w) a vs
 | .dT kvs=>kvs.length<=sizeLine/\(a==sysModules)=false/\∃xs:List (List Key×Addr×Value),
     Paired (fun(p:List Key×V) (q:List Key×Addr×Value)=>p.1=q.1/\H q.2.1=some (.tup (p.1.map kV))/\RelV p.2 q.2.2) kvs xs/\
     ∃o es ep,h.get? a=some o/\o.ExactDict/\o.data= .dict es ep/\es.toList=xs.map (entryOfKey (tupleKind (dR P w)))/\(xs.map (·.1)).Nodup
 | .set S n=>h.SetOf (intKind P w) a S n
 | .ins C dx fs=>H dx=some (.own a)/\fs.length<=1000/\dx≠a/\h.get? a=some (PySem.W.instObj C dx)/\
     ∃mA,h.Ns1 dx mA/\(∀f,u6 (fs.lookup f) (mA f))/\PySem.Within mA (fs.map (·.1))
 | .own _=>∃o,h.get? a=some o
 | .xd fs=>∃mA,h.Ns1 a mA/\∀f,u6 (fs.lookup f) (mA f)
 | .rng lo hi=>∃t u v,h.get? a=some {cls:= .type "range",data:= .fields #[.int lo t, .int hi u, .int 1 v]}
 | .frz o u=>h.get? a=some o/\eF H h a u
 | .tbl ps=>h.get? a=some {cls:= .none,data:= .fields ps}
 | .met f x=>h.get? a=some (PySem.W.methodObj (.ref f) (.ref x))
 | .ext φ=>φ h/\(∃o,h.get? a=some o)/\∀h1 h2:Heap,φ h1->(∀o,h1.get? a=some o->h2.get? a=some o)->φ h2
def HOk (H:Hp) (h:Heap):Prop:=∀a o,H a=some o->eF P w H h a o
end
section
variable {P:Program}{w:World}{H H':Hp}{h h':Heap}{a:Addr}{o:HO}
theorem eF.lt (x:eF P w H h a o):a<h.objs.size:=by
 cases o with
 | lst xs=>obtain⟨_,_,_,_,e⟩:=x;exact Heap.lt_size e
 | tup xs=>obtain⟨_,_,_,p⟩:=x;exact p.lt
 | dK kvs=>obtain⟨_,_,_,_,o,_,_,e,_⟩:=x;exact Heap.lt_size e
 | dT kvs=>obtain⟨_,_,_,_,o,_,_,e,_⟩:=x;exact Heap.lt_size e
 | set S n=>obtain⟨o,_,_,_,e,_⟩:=x;exact Heap.lt_size e
 | ins C dx fs=>obtain⟨_,_,_,e,_⟩:=x;exact Heap.lt_size e
 | own y=>obtain⟨_,e⟩:=x;exact Heap.lt_size e
 | xd fs=>obtain⟨_,⟨_,_,_,e,_⟩,_⟩:=x;exact Heap.lt_size e
 | rng lo hi=>obtain⟨_,_,_,e⟩:=x;exact Heap.lt_size e
 | frz ob u=>obtain⟨e,_⟩:=x;exact Heap.lt_size e
 | tbl ps=>exact Heap.lt_size (show h.get? a=some _ from x)
 | met f y=>exact Heap.lt_size (show h.get? a=some _ from x)
 | ext φ=>obtain⟨_,⟨_,e⟩,_⟩:=x;exact Heap.lt_size e
theorem Paired.YW {α β:Type}{F G:α->β->Prop}:∀{l₁:List α}{l₂:List β},Paired F l₁ l₂->(∀a b,F a b->G a b)->Paired G l₁ l₂
 | _,_, .nil,_=> .nil
 | _,_, .cons r t,f=> .cons (f _ _ r) (Paired.YW t f)
theorem eF.stay (x:eF P w H h a o) (k:∀b u,(b=a\/H b=some (.own a))->h.get? b=some u->h'.get? b=some u)
 (ho:∀b,H b=some (.own a)->H' b=some (.own a)) (ht:∀b xs,H b=some (.tup xs)->H' b=some (.tup xs)):eF P w H' h' a o:=by
 induction o with
 | lst xs=>obtain⟨z,its,n,r,e⟩:=x;exact⟨z,its,n,r,k _ _ (.inl rfl) e⟩
 | tup xs=>obtain⟨z,its,r,ob,e,c⟩:=x;exact⟨z,its,r,ob,k _ _ (.inl rfl) e,c⟩
 | dK kvs=>obtain⟨z,y,vs,r,ob,es,ep,e,c⟩:=x;exact⟨z,y,vs,r,ob,es,ep,k _ _ (.inl rfl) e,c⟩
 | dT kvs=>
   obtain⟨z,y,xs,r,ob,es,ep,e,c⟩:=x
   exact⟨z,y,xs,Paired.YW r fun p q z=>⟨z.1,ht _ _ z.2.1,z.2.2⟩,ob,es,ep,k _ _ (.inl rfl) e,c⟩
 | set S n=>obtain⟨ob,es,ep,t,e,c⟩:=x;exact⟨ob,es,ep,t,k _ _ (.inl rfl) e,c⟩
 | ins C dx fs=>
   obtain⟨d,z,ne,e,mA,⟨od,es,ep,e2,c⟩,r⟩:=x
   exact⟨ho _ d,z,ne,k _ _ (.inl rfl) e,mA,⟨od,es,ep,k _ _ (.inr d) e2,c⟩,r⟩
 | own y=>obtain⟨ob,e⟩:=x;exact⟨ob,k _ _ (.inl rfl) e⟩
 | xd fs=>obtain⟨mA,⟨od,es,ep,e,c⟩,r⟩:=x;exact⟨mA,⟨od,es,ep,k _ _ (.inl rfl) e,c⟩,r⟩
 | rng lo hi=>obtain⟨t,u,v,e⟩:=x;exact⟨t,u,v,k _ _ (.inl rfl) e⟩
 | frz ob u ih=>obtain⟨e,q⟩:=x;exact⟨k _ _ (.inl rfl) e,ih q⟩
 | tbl ps=>
   have e:h.get? a=some {cls:= .none,data:= .fields ps}:=x
   show h'.get? a=some {cls:= .none,data:= .fields ps}
   exact k a _ (.inl rfl) e
 | met f y=>
   have e:h.get? a=some (PySem.W.methodObj (.ref f) (.ref y)):=x
   show h'.get? a=some (PySem.W.methodObj (.ref f) (.ref y))
   exact k a _ (.inl rfl) e
 | ext φ=>obtain⟨p,⟨o,e⟩,st⟩:=x;exact⟨st _ _ p fun o q=>k _ _ (.inl rfl) q,⟨o,k _ _ (.inl rfl) e⟩,st⟩
theorem HOk.lt (x:HOk P w H h) (e:H a=some o):a<h.objs.size:=(x a o e).lt
theorem HOk.fresh (x:HOk P w H h) (e:h.objs.size<=a):H a=none:=by
 cases q:H a with
 | none=>rfl
 | some u=>exact absurd (Nat.lt_of_lt_of_le (x.lt q) e) (Nat.lt_irrefl _)
theorem HOk.kept (x:HOk P w H h) (k:∀b u,h.get? b=some u->h'.get? b=some u):HOk P w H h':=fun a o e=>
 (x a o e).stay (fun b u _ q=>k b u q) (fun _ q=>q) fun _ _ q=>q
theorem HOk.laid (x:HOk P w H h) (k:∀b u,h.get? b=some u->h'.get? b=some u) (hp:h.objs.size<=a) (new:eF P w (upd H a o) h' a o):HOk P w (upd H a o) h':=fun b u e=>by
 have hn:=x.fresh hp
 by_cases hb:b=a
 ·subst hb;rw[ak] at e;cases e;exact new
 ·rw[ao hb] at e
  exact(x b u e).stay (fun c v _ q=>k c v q) (fun c q=>by rw[ao (aF q hn)];exact q) fun c xs q=>by rw[ao (aF q hn)];exact q
end
def Rd (H:Hp) (a:Addr) (u:HO):Prop:=H a=some u\/∃o,H a=some (.frz o u)
theorem Rd.ok {P:Program}{w:World}{H:Hp}{h:Heap}{a:Addr}{u:HO} (r:Rd H a u) (x:HOk P w H h):eF P w H h a u:=by
 rcases r with r | ⟨o,r⟩
 ·exact x a u r
 ·obtain⟨_,q⟩:=x a _ r
  exact q
def Mut:Option HO->Prop
 | some (.lst _)=>True
 | some (.dK _)=>True
 | some (.dT _)=>True
 | some (.set _ _)=>True
 | some (.ins _ _ _)=>True
 | some (.ext _)=>True
 | _=>False
section
variable {P:Program}{w:World}{H:Hp}{h h':Heap}{x e:Addr}{o':HO}
theorem HOk.write (ok:HOk P w H h) (mu:Mut (H x)) (he:e=x\/H e=some (.own x)) (k:∀b u,b≠e->h.get? b=some u->h'.get? b=some u) (heo:∃u,h'.get? e=some u)
 (new:eF P w (upd H x o') h' x o'):HOk P w (upd H x o') h':=fun b u q=>by
 have nown:∀c y,H c=some (.own y)->c≠x:=fun c y r z=>by subst z;rw[r] at mu;exact mu
 have ntup:∀c xs,H c=some (.tup xs)->c≠x:=fun c xs r z=>by subst z;rw[r] at mu;exact mu
 by_cases hb:b=x
 ·subst hb;rw[ak] at q;cases q;exact new
 ·rw[ao hb] at q
  by_cases hbe:b=e
  ·have q':H b=some (.own x):=by
    rcases he with z | z
    ·exact absurd (hbe.trans z) hb
    ·rw[hbe];exact z
   rw[q] at q';cases q'
   obtain⟨v,hv⟩:=heo
   exact⟨v,by rw[hbe];exact hv⟩
  ·refine(ok b u q).stay (fun c v hc r=>k c v ?_ r) (fun c r=>by rw[ao (nown c b r)];exact r) fun c xs r=>by rw[ao (ntup c xs r)];exact r
   rcases hc with rfl | hc
   ·exact hbe
   ·rintro rfl
    rcases he with z | z
    ·exact nown c b hc z
    ·rw[hc] at z;cases z;exact hb rfl
end
structure Un (fs ex:List Addr) (H H':Hp) (h h':Heap):Prop where
 keep:∀b o,h.get? b=some o->H b=none->b∉fs->b∉ex->h'.get? b=some o
 slot:∀b o,h.get? b=some o->H b=none->b∈fs->b∉ex->∃sl,h'.get? b=some {o with slots:=sl}
 free:∀b o,h.get? b=some o->H b=none->b∉ex->H' b=none
 there:∀b o,h.get? b=some o->b∉ex->∃o',h'.get? b=some o'
 tups:∀b xs,H b=some (.tup xs)->H' b=some (.tup xs)
 frzs:∀b o u,H b=some (.frz o u)->H' b=some (.frz o u)
 tbls:∀b ps,H b=some (.tbl ps)->∃more,H' b=some (.tbl (ps++more))
section
variable {fs fs' ex ex':List Addr}{H H1 H2:Hp}{h h1 h2 h':Heap}{a x e:Addr}{o:HO}
theorem Un.any (u:Un fs ex H H1 h h1) {b:Addr}{ob:Obj} (q:h.get? b=some ob) (n:H b=none) (hx:b∉ex):∃sl,h1.get? b=some {ob with slots:=sl}:=by
 by_cases hb:b∈fs
 ·exact u.slot b ob q n hb hx
 ·exact⟨ob.slots,u.keep b ob q n hb hx⟩
theorem Un.kept (k:∀b u,h.get? b=some u->h'.get? b=some u):Un fs ex H H h h':=
 ⟨fun b ob q _ _ _=>k b ob q,fun b ob q _ _ _=>⟨ob.slots,k b ob q⟩,fun _ _ _ n _=>n,fun b ob q _=>⟨ob,k b ob q⟩,fun _ _ q=>q,fun _ _ _ q=>q,fun _ ps q=>⟨#[],by rw[q];simp⟩⟩
theorem Un.refl:Un fs ex H H h h:=Un.kept fun _ _ q=>q
theorem Un.laid (k:∀b u,h.get? b=some u->h'.get? b=some u) (hp:h.objs.size<=a) (hn:H a=none):Un fs ex H (upd H a o) h h' where
 keep:=fun b u q _ _ _=>k b u q
 slot:=fun b u q _ _ _=>⟨u.slots,k b u q⟩
 free:=fun b u q n _=>by rw[ao (Nat.ne_of_lt (Nat.lt_of_lt_of_le (Heap.lt_size q) hp))];exact n
 there:=fun b u q _=>⟨u,k b u q⟩
 tups:=fun b xs q=>by rw[ao (aF q hn)];exact q
 frzs:=fun b u xs q=>by rw[ao (aF q hn)];exact q
 tbls:=fun b ps q=>⟨#[],by rw[ao (aF q hn),q];simp⟩
theorem Un.write (mu:Mut (H x)) (he:e=x\/H e=some (.own x)) (k:∀b u,b≠e->h.get? b=some u->h'.get? b=some u) (heo:∃u,h'.get? e=some u):Un fs ex H (upd H x o) h h':=by
 have hx:∀b,H b=none->b≠x:=fun b n z=>by subst z;rw[n] at mu;exact mu
 have hb:∀b,H b=none->b≠e:=fun b n z=>by
  subst z
  rcases he with r | r
  ·exact hx b n r
  ·rw[n] at r;cases r
 have hm:∀b u,H b=some u->¬Mut (some u)->b≠x:=fun b u q nm z=>by subst z;rw[q] at mu;exact nm mu
 refine⟨fun b u q n _ _=>k b u (hb b n) q,fun b u q n _ _=>⟨u.slots,k b u (hb b n) q⟩,fun b u q n _=>by rw[ao (hx b n)];exact n,fun b u q _=> ?_,
  fun b xs q=>by rw[ao (hm b _ q fun z=>z)];exact q,fun b u xs q=>by rw[ao (hm b _ q fun z=>z)];exact q,fun b ps q=>⟨#[],by rw[ao (hm b _ q fun z=>z),q];simp⟩⟩
 by_cases hbe:b=e
 ·subst hbe;exact heo
 ·exact⟨u,k b u hbe q⟩
end
def trk (h:Heap) (H:Hp):List Addr:=(List.range h.objs.size).filter fun a=>(H a).isSome
def Ia (h:Heap) (H:Hp):Heap:=PySem.W.hideAll h (trk h H)
theorem Pj (h:Heap) (H:Hp):(Ia h H).objs.size=h.objs.size:=PySem.W.hideAll_size _ _
theorem Q3 {h:Heap}{H:Hp}{b:Addr}{o:Obj} (e:h.get? b=some o) (n:H b=none):(Ia h H).get? b=some o:=
 PySem.W.hideAll_get _ e fun hm=>by
  have q:(H b).isSome=true:=(List.mem_filter.mp hm).2
  rw[n] at q;simp at q
theorem UL {h:Heap}{H:Hp}{b:Addr}{o:Obj} (e:(Ia h H).get? b=some o):h.get? b=some o/\H b=none:=by
 have e':h.get? b=some o:=PySem.W.of_hideAll (trk h H) e
 refine⟨e', ?_⟩
 cases q:H b with
 | none=>rfl
 | some x=>
   have hm:b∈trk h H:=List.mem_filter.mpr ⟨List.mem_range.mpr (Heap.lt_size e'),by simp[q]⟩
   have z:(Ia h H).get? b=none:=PySem.W.hideAll_none (trk h H) hm
   rw[z] at e;cases e
structure Mod (K:PySem.W.Frag) (mg:Str->Option Value) (base:Heap):Prop where
 kin:K.In base
 glob:base.Ns mainGlobals mg
 blt:∃mb,base.Ns builtinsNs mb/\∀x:Str,x≠"__name__"->mb x=bootBuiltins x
 nolimit:base.NoLimit
structure Cx where
 prog:Program
 w:World
 K:PySem.W.Frag
 mg:Str->Option Value
 base:Heap
 A:Around
 N:List Str
 s₀:Shared
 H₀:Hp
 env:Env
 outer:List Env
 stack:List Env
 ex:List Addr
 fn:Str->Bool
 calm:Bool
 pn:List (Addr×Obj)
 xe:Value->Shared->Prop
def frs (l:List Env):List Addr:=l.filterMap (·.frame)
abbrev Cx.fs (X:Cx):List Addr:=frs X.outer
def Vis (sc:Scope) (x:Str):Prop:=sc.names.lookup x=some .local\/sc.names.lookup x=some .cell\/sc.names.lookup x=some .free
def Loc (sc:Scope) (x:Str):Prop:=sc.names.lookup x=some .local\/sc.names.lookup x=some .cell
def Look (env:Env) (h:Heap) (m:Str->Option Value) (x:Str) (u:Value):Prop:=
 (env.kindOf x=some .local/\m x=some u)\/((env.kindOf x=some .cell\/env.kindOf x=some .free)/\∃c,env.cells.lookup x=some c/\h.IsCell c (some u))
structure Cx.Ok (X:Cx):Prop where
 mod:Mod X.K X.mg X.base
 kind:X.env.scope.kind= .function
 glob:X.env.globals=mainGlobals
 blt:X.env.builtins=builtinsNs
 above:X.s₀.heap.objs.size<=X.env.locals
 inj:∀x y c,X.env.cells.lookup x=some c->X.env.cells.lookup y=some c->x=y
 has:∀x,(X.env.kindOf x=some .cell\/X.env.kindOf x=some .free)->∃c,X.env.cells.lookup x=some c
 cab:∀x c,X.fn x=true->X.env.cells.lookup x=some c->X.s₀.heap.objs.size<=c
 hd:X.calm=true->X.A.handled=none
 frames:X.A.frames=some X.stack
 stk:X.stack=X.outer\/(X.stack=X.env::X.outer/\X.env.frame=some X.env.locals)
 exf:∀b∈X.ex,b≠X.env.locals/\∀x c,X.env.cells.lookup x=some c->c≠b
 bs:∀b o,X.base.get? b=some o->X.s₀.heap.get? b=some o/\X.H₀ b=none
 bsz:X.base.objs.size<=X.s₀.heap.objs.size
 noex:∀b o,X.base.get? b=some o->b∉X.ex
 exfs:∀b∈X.ex,b∉X.fs
 funs:X.s₀.heap.FunFrames X.base X.outer
 frf:∀b∈X.fs,X.H₀ b=none
structure Inv (X:Cx) (pins:List (Addr×Obj)) (σ:List (Option V)) (H:Hp) (s:Shared):Prop where
 ok:X.Ok
 os:s.os=X.s₀.os
 bare:AllBare s.gens
 base:Un X.fs X.ex X.H₀ H X.s₀.heap s.heap
 loc:∃m,s.heap.Ns X.env.locals m/\∀(i:Nat) (x:Str) (v:V),X.N[i]? =some x->σ[i]? =some (some v)->Vis X.env.scope x->∃u,RelV v u/\Look X.env s.heap m x u
 cell:∀x c,X.env.cells.lookup x=some c->∃v,s.heap.IsCell c v
 free:H X.env.locals=none
 pL:∀x c,X.env.cells.lookup x=some c->H c=none
 pin:∀p∈X.pn++pins,s.heap.get? p.1=some p.2/\H p.1=none/\p.1≠X.env.locals/\p.1∉X.fs/\∀v,p.2.data≠ .cell v
 hok:HOk X.prog X.w H s.heap
 len:σ.length=X.N.length
section
variable {X:Cx}{pins:List (Addr×Obj)}{σ:List (Option V)}{H H':Hp}{s:Shared}{h':Heap}
theorem Cx.Ok.nofr (ok:X.Ok) {b:Addr}{o:Obj} (e:X.base.get? b=some o):b∉X.fs:=fun hb=>by
 have:=(ok.funs.mem hb).1
 rw[e] at this;cases this
theorem Inv.bs (I:Inv X pins σ H s):∀b o,X.base.get? b=some o->s.heap.get? b=some o/\H b=none:=fun b o e=>
 ⟨I.base.keep b o (I.ok.bs b o e).1 (I.ok.bs b o e).2 (I.ok.nofr e) (I.ok.noex b o e),I.base.free b o (I.ok.bs b o e).1 (I.ok.bs b o e).2 (I.ok.noex b o e)⟩
theorem Inv.bk (I:Inv X pins σ H s):∀b o,X.base.get? b=some o->s.heap.get? b=some o:=fun b o e=>(I.bs b o e).1
theorem Inv.mod (I:Inv X pins σ H s):Mod X.K X.mg X.base:=I.ok.mod
theorem Inv.kIn (I:Inv X pins σ H s):X.K.In s.heap:=I.ok.mod.kin.keeps I.bk
theorem Inv.lt (I:Inv X pins σ H s):X.env.locals<s.heap.objs.size:=let ⟨_,hn,_⟩:=I.loc;hn.lt
theorem Inv.sz (I:Inv X pins σ H s):X.s₀.heap.objs.size<=s.heap.objs.size:=Nat.le_trans I.ok.above (Nat.le_of_lt I.lt)
theorem Inv.nofs (I:Inv X pins σ H s) {a:Addr} (h:s.heap.objs.size<=a):a∉X.fs:=fun hb=>by
 obtain⟨_,o,ho,_⟩:=I.ok.funs.mem hb
 exact absurd (Nat.lt_of_lt_of_le (Heap.lt_size ho) (Nat.le_trans I.sz h)) (Nat.lt_irrefl _)
theorem Inv.cne (I:Inv X pins σ H s):∀x c,X.env.cells.lookup x=some c->c≠X.env.locals:=fun x c e z=>by
 obtain⟨v,o,ho,hd⟩:=I.cell x c e
 obtain⟨m,⟨o',es,ep,ho',hd',_⟩,_⟩:=I.loc
 rw[z,ho'] at ho;cases ho;rw[hd'] at hd;cases hd
theorem Inv.funs (I:Inv X pins σ H s):s.heap.FunFrames X.base X.outer:=by
 have all:∀(l:List Env),(∀b∈frs l,b∈X.fs)->X.s₀.heap.FunFrames X.base l->s.heap.FunFrames X.base l:=by
  intro l
  induction l with
  | nil=>intro _ _;trivial
  | cons env r ih=>
    intro hs hl
    obtain⟨hk,⟨L,o,hf,hn,ho,hd⟩,hr⟩:=hl
    have hL:L∈X.fs:=hs L (by unfold frs;rw[List.filterMap_cons,hf];exact List.mem_cons_self)
    obtain⟨sl,e⟩:=I.base.slot L o ho (I.ok.frf L hL) hL fun z=>I.ok.exfs L z hL
    exact⟨hk,⟨L,_,hf,hn,e,hd⟩,ih (fun b hb=>hs b (by unfold frs;rw[List.filterMap_cons,hf];exact List.mem_cons_of_mem _ hb)) hr⟩
 exact all X.outer (fun _ hb=>hb) I.ok.funs
theorem Inv.stack (I:Inv X pins σ H s):s.heap.FunFrames X.base X.stack:=by
 rcases I.ok.stk with e | ⟨e,hf⟩
 ·rw[e];exact I.funs
 ·rw[e]
  obtain⟨m,hn,_⟩:=I.loc
  refine .cons (by rw[I.ok.kind];decide) hf hn ?_ I.funs
  exact Heap.get?_none_of_le (Nat.le_trans I.ok.bsz I.ok.above)
theorem Inv.Ib (I:Inv X pins σ H s):∀b∈frs X.stack,b∈X.env.locals::X.fs:=fun b hb=>by
 rcases I.ok.stk with e | ⟨e,hf⟩
 ·rw[e] at hb;exact List.mem_cons_of_mem _ hb
 ·rw[e] at hb
  unfold frs at hb
  rw[List.filterMap_cons,hf] at hb
  exact hb
theorem Inv.Ie (I:Inv X pins σ H s):∀b∈frs X.stack,H b=none:=fun b hb=>by
 rcases List.mem_cons.mp (I.Ib b hb) with e | hb
 ·rw[e];exact I.free
 ·obtain⟨_,o,ho,_⟩:=I.ok.funs.mem hb
  exact I.base.free b o ho (I.ok.frf b hb) fun z=>I.ok.exfs b z hb
theorem Inv.step {g':Array GenState}{t':Nat}{d':Drawn}{ch:List Addr} (I:Inv X pins σ H s)
 (hch:∀b∈ch,(b∈X.ex\/X.s₀.heap.objs.size<=b)/\b≠X.env.locals/\(∀x c,X.env.cells.lookup x=some c->c≠b)/\∀p∈X.pn++pins,p.1≠b)
 (keep:∀b o,b≠X.env.locals->b∉X.fs->b∉ch->s.heap.get? b=some o->H b=none->h'.get? b=some o)
 (slot:∀b o,b≠X.env.locals->b∈X.fs->b∉ch->s.heap.get? b=some o->H b=none->∃sl,h'.get? b=some {o with slots:=sl}) (free:∀b o,b∉ch->s.heap.get? b=some o->H b=none->H' b=none)
 (there:∀b o,b∉ch->s.heap.get? b=some o->∃o',h'.get? b=some o')
 (tups:∀b xs,H b=some (.tup xs)->H' b=some (.tup xs)) (frzs:∀b o u,H b=some (.frz o u)->H' b=some (.frz o u)) (tbls:∀b ps,H b=some (.tbl ps)->∃more,H' b=some (.tbl (ps++more)))
 (ns:∀m,s.heap.Ns X.env.locals m->h'.Ns X.env.locals m) (hok:HOk X.prog X.w H' h') (hg:AllBare g'):
 Inv X pins σ H' {s with heap:=h',gens:=g',drawn:=d',toks:=t'}:=by
 have neL:∀b o,X.s₀.heap.get? b=some o->b≠X.env.locals:=fun b o e=>Nat.ne_of_lt (Nat.lt_of_lt_of_le (Heap.lt_size e) I.ok.above)
 have neC:∀b o,X.s₀.heap.get? b=some o->b∉X.ex->b∉ch:=fun b o e hx hb=>by
  rcases(hch b hb).1 with z | z
  ·exact hx z
  ·exact absurd (Nat.lt_of_lt_of_le (Heap.lt_size e) z) (Nat.lt_irrefl _)
 have cellK:∀x c,X.env.cells.lookup x=some c->∀v,s.heap.IsCell c v->h'.IsCell c v:=fun x c e v ⟨o,ho,hd⟩=>by
  have nch:c∉ch:=fun z=>(hch c z).2.2.1 x c e rfl
  by_cases hc:c∈X.fs
  ·obtain⟨sl,q⟩:=slot c o (I.cne x c e) hc nch ho (I.pL x c e)
   exact⟨_,q,hd⟩
  ·exact⟨o,keep c o (I.cne x c e) hc nch ho (I.pL x c e),hd⟩
 refine⟨I.ok,I.os,hg,⟨fun b o e n hb hx=> ?_,fun b o e n hb hx=> ?_,fun b o e n hx=> ?_,fun b o e hx=> ?_,fun b xs e=>tups b xs (I.base.tups b xs e),fun b o xs e=>frzs b o xs (I.base.frzs b o xs e),fun b ps e=> ?_⟩, ?_,fun x c e=> ?_, ?_,fun x c e=> ?_,fun p hp=> ?_,hok,I.len⟩
 ·exact keep b o (neL b o e) hb (neC b o e hx) (I.base.keep b o e n hb hx) (I.base.free b o e n hx)
 ·obtain⟨sl,e1⟩:=I.base.slot b o e n hb hx
  obtain⟨sl',e2⟩:=slot b _ (neL b o e) hb (neC b o e hx) e1 (I.base.free b o e n hx)
  exact⟨sl',e2⟩
 ·obtain⟨o',e1⟩:=I.base.there b o e hx
  exact free b o' (neC b o e hx) e1 (I.base.free b o e n hx)
 ·obtain⟨o',e1⟩:=I.base.there b o e hx
  exact there b o' (neC b o e hx) e1
 ·obtain⟨m1,e1⟩:=I.base.tbls b ps e
  obtain⟨m2,e2⟩:=tbls b _ e1
  exact⟨m1++m2,by rw[e2,Array.append_assoc]⟩
 ·obtain⟨m,hn,hl⟩:=I.loc
  refine⟨m,ns m hn,fun i x v e1 e2 e3=> ?_⟩
  obtain⟨u,r,l⟩:=hl i x v e1 e2 e3
  refine⟨u,r, ?_⟩
  rcases l with l | ⟨k,c,e,z⟩
  ·exact .inl l
  ·exact .inr ⟨k,c,e,cellK x c e _ z⟩
 ·obtain⟨v,z⟩:=I.cell x c e
  exact⟨v,cellK x c e v z⟩
 ·obtain⟨m,⟨o,_,_,ho,_⟩,_⟩:=I.loc
  exact free _ o (fun z=>(hch _ z).2.1 rfl) ho I.free
 ·obtain⟨v,o,ho,hd⟩:=I.cell x c e
  exact free c o (fun z=>(hch c z).2.2.1 x c e rfl) ho (I.pL x c e)
 ·obtain⟨e,n,ne,nf,d⟩:=I.pin p hp
  have nch:p.1∉ch:=fun z=>(hch p.1 z).2.2.2 p hp rfl
  exact⟨keep p.1 p.2 ne nf nch e n,free p.1 p.2 nch e n,ne,nf,d⟩
theorem Inv.un {t':Nat} (I:Inv X pins σ H s) (u:Un X.fs [] H H' s.heap h') (hok:HOk X.prog X.w H' h'):Inv X pins σ H' {s with heap:=h',toks:=t'}:=by
 obtain⟨m,⟨o,es,ep,ho,r⟩,_⟩:=id I.loc
 obtain⟨sl,hL⟩:=u.any ho I.free (by simp)
 exact I.step (g':=s.gens) (d':=s.drawn) (ch:=[]) (fun _ z=>nomatch z) (fun b o _ hb _ e n=>u.keep b o e n hb (by simp)) (fun b o _ hb _ e n=>u.slot b o e n hb (by simp)) (fun b o _ e n=>u.free b o e n (by simp)) (fun b o _ e=>u.there b o e (by simp)) u.tups u.frzs u.tbls (fun m' hm=>by
  obtain⟨o',es',ep',ho',r'⟩:=hm
  rw[ho] at ho';cases ho'
  exact⟨_,es',ep',hL,r'⟩) hok I.bare
theorem Inv.call {g':Array GenState}{t':Nat}{d':Drawn}{ch:List Addr} (I:Inv X pins σ H s) (u:Un (frs X.stack) ch H H' s.heap h') (hok:HOk X.prog X.w H' h') (hg:AllBare g')
 (hch:∀b∈ch,(b∈X.ex\/X.s₀.heap.objs.size<=b)/\b≠X.env.locals/\(∀x c,X.env.cells.lookup x=some c->c≠b)/\∀p∈X.pn++pins,p.1≠b):
 Inv X pins σ H' {s with heap:=h',gens:=g',drawn:=d',toks:=t'}:=by
 obtain⟨m,⟨o,es,ep,ho,r⟩,_⟩:=id I.loc
 obtain⟨sl,hL⟩:=u.any ho I.free fun z=>(hch _ z).2.1 rfl
 exact I.step (ch:=ch) hch (fun b o hL hb hc e n=>u.keep b o e n (fun z=>(List.mem_cons.mp (I.Ib b z)).elim hL hb) hc) (fun b o _ _ hc e n=>u.any e n hc) (fun b o hc e n=>u.free b o e n hc) (fun b o hc e=>u.there b o e hc) u.tups u.frzs u.tbls (fun m' hm=>by
  obtain⟨o',es',ep',ho',r'⟩:=hm
  rw[ho] at ho';cases ho'
  exact⟨_,es',ep',hL,r'⟩) hok hg
theorem Inv.turned {t':Nat}{it:Addr} (I:Inv X pins σ H s) (k:∀b o,b≠it->s.heap.get? b=some o->h'.get? b=some o) (hn:H it=none) (hL:it≠X.env.locals)
 (h1:it∈X.ex\/X.s₀.heap.objs.size<=it) (h2:∀x c,X.env.cells.lookup x=some c->c≠it) (h3:∀p∈X.pn++pins,p.1≠it):Inv X pins σ H {s with heap:=h',toks:=t'}:=by
 have nit:∀b u,H b=some u->b≠it:=fun b u e z=>by rw[z,hn] at e;cases e
 refine I.step (g':=s.gens) (d':=s.drawn) (ch:=[it]) (fun b hb=> ?_) (fun b o _ _ hc e _=>k b o (fun z=>hc (by simp[z])) e) (fun b o _ _ hc e _=>⟨o.slots,k b o (fun z=>hc (by simp[z])) e⟩) (fun _ _ _ _ n=>n)
  (fun b o hc e=>⟨o,k b o (fun z=>hc (by simp[z])) e⟩) (fun _ _ e=>e) (fun _ _ _ e=>e) (fun b ps e=>⟨#[],by rw[e];simp⟩) (fun m hm=> ?_) (fun b u e=> ?_) I.bare
 ·have e:b=it:=by simpa using hb
  subst e
  exact⟨h1,hL,h2,h3⟩
 ·obtain⟨o,es,ep,ho,r⟩:=hm
  exact⟨o,es,ep,k _ o (Ne.symm hL) ho,r⟩
 ·refine(I.hok b u e).stay (fun c v hc q=>k c v ?_ q) (fun _ q=>q) fun _ _ q=>q
  rcases hc with z | z
  ·rw[z];exact nit b u e
  ·exact nit c _ z
theorem Inv.tok (I:Inv X pins σ H s) (t:Nat):Inv X pins σ H {s with toks:=t}:=I.un (h':=s.heap) (t':=t) Un.refl I.hok
theorem Inv.kept {t':Nat} (I:Inv X pins σ H s) (k:∀b u,s.heap.get? b=some u->h'.get? b=some u):Inv X pins σ H {s with heap:=h',toks:=t'}:=I.un (Un.kept k) (I.hok.kept k)
theorem Inv.laid {a:Addr}{o:HO}{t':Nat} (I:Inv X pins σ H s) (k:∀b u,s.heap.get? b=some u->h'.get? b=some u) (hp:s.heap.objs.size<=a) (new:eF X.prog X.w (upd H a o) h' a o):
 Inv X pins σ (upd H a o) {s with heap:=h',toks:=t'}:=I.un (Un.laid k hp (I.hok.fresh hp)) (I.hok.laid k hp new)
theorem Inv.write {x e:Addr}{o:HO}{t':Nat} (I:Inv X pins σ H s) (mu:Mut (H x)) (he:e=x\/H e=some (.own x)) (k:∀b u,b≠e->s.heap.get? b=some u->h'.get? b=some u) (heo:∃u,h'.get? e=some u)
 (new:eF X.prog X.w (upd H x o) h' x o):Inv X pins σ (upd H x o) {s with heap:=h',toks:=t'}:=I.un (Un.write mu he k heo) (I.hok.write mu he k heo new)
theorem Inv.Nx {pins':List (Addr×Obj)} (I:Inv X pins σ H s) (h:∀p∈pins',s.heap.get? p.1=some p.2/\H p.1=none/\p.1≠X.env.locals/\p.1∉X.fs/\∀v,p.2.data≠ .cell v):Inv X pins' σ H s:=
 ⟨I.ok,I.os,I.bare,I.base,I.loc,I.cell,I.free,I.pL,fun p hp=>(List.mem_append.mp hp).elim (fun z=>I.pin p (List.mem_append_left _ z)) (h p),I.hok,I.len⟩
theorem JQ {N:List Str} (hN:N.Nodup) {i j:Nat}{x:Str} (a:N[i]? =some x) (b:N[j]? =some x):i=j:=by
 obtain⟨h1,e1⟩:=List.getElem?_eq_some_iff.mp a
 obtain⟨h2,e2⟩:=List.getElem?_eq_some_iff.mp b
 exact(List.getElem_inj hN).mp (e1.trans e2.symm)
theorem G4 {M:Model}{A:Around}{E:Value->Shared->Prop}{i:Nat}{x:Str}{v:V}{u:Value}{Q:Unit->Shared->Prop} (I:Inv X pins σ H s) (hN:X.N.Nodup) (hi:X.N[i]? =some x) (hx:Loc X.env.scope x) (r:RelV v u)
 (h:∀s',Inv X pins (σ.set i (some v)) H s'->(∃a,Heap.SameBut a s.heap s'.heap/\(a=X.env.locals\/X.env.cells.lookup x=some a))->Q () s') (hf:X.fn x=true\/X.env.scope.names.lookup x=some .local:=by first | exact .inl rfl | exact .inr rfl | assumption):wpAny M A (storeName X.env x u) Q E s:=by
 obtain⟨m,hn,hl⟩:=id I.loc
 have hcls:(X.env.scope.kind== .class||(X.env.scope.kind== .module&&X.env.locals !=X.env.globals))=false:=by rw[I.ok.kind];rfl
 have hiσ:i<σ.length:=by rw[I.len];exact(List.getElem?_eq_some_iff.mp hi).1
 have cne:=I.cne
 have tracked:∀{a:Addr}{h':Heap},(∃o,s.heap.get? a=some o/\H a=none)->Heap.SameBut a s.heap h'->HOk X.prog X.w H h':=fun{a h'} ha hs b ob e=>by
  obtain⟨_,_,hfree⟩:=ha
  refine(I.hok b ob e).stay (fun c w' hc q=>(hs.2 c ?_).trans q) (fun _ q=>q) fun _ _ q=>q
  rintro rfl
  rcases hc with rfl | hc
  ·rw[hfree] at e;cases e
  ·rw[hfree] at hc;cases hc
 rcases hx with hk | hk
 ·refine wpAny_storeName_local hk hn (fun h' hn' hs=> ?_) hcls
  obtain⟨oL,_,_,hoL,_⟩:=id hn
  refine h _ ⟨I.ok,I.os,I.bare,⟨fun b o e n hb hx=> ?_,fun b o e n hb hx=> ?_,I.base.free,fun b o e hx=> ?_,I.base.tups,I.base.frzs,I.base.tbls⟩,⟨_,hn',fun j y v' e1 e2 e3=> ?_⟩,fun y c e=> ?_,I.free,I.pL,fun p hp=> ?_,tracked ⟨oL,hoL,I.free⟩ hs,by simpa using I.len⟩ ⟨_,hs, .inl rfl⟩
  ·exact(hs.2 b (Nat.ne_of_lt (Nat.lt_of_lt_of_le (Heap.lt_size e) I.ok.above))).trans (I.base.keep b o e n hb hx)
  ·obtain⟨sl,e1⟩:=I.base.slot b o e n hb hx
   exact⟨sl,(hs.2 b (Nat.ne_of_lt (Nat.lt_of_lt_of_le (Heap.lt_size e) I.ok.above))).trans e1⟩
  ·obtain⟨o',e1⟩:=I.base.there b o e hx
   exact⟨o',(hs.2 b (Nat.ne_of_lt (Nat.lt_of_lt_of_le (Heap.lt_size e) I.ok.above))).trans e1⟩
  ·by_cases hj:j=i
   ·subst hj
    rw[hi] at e1;cases e1
    rw[List.getElem?_set_self hiσ] at e2
    cases e2
    exact⟨u,r, .inl ⟨hk,by simp⟩⟩
   ·rw[List.getElem?_set_ne (Ne.symm hj)] at e2
    obtain⟨u',r',q⟩:=hl j y v' e1 e2 e3
    refine⟨u',r', ?_⟩
    rcases q with⟨k,e⟩ | ⟨k,c,e,z⟩
    ·refine .inl ⟨k, ?_⟩
     have:y≠x:=fun e=>hj (JQ hN e1 (e▸hi))
     simp[this,e]
    ·exact .inr ⟨k,c,e,z.sameBut hs (cne y c e)⟩
  ·obtain⟨w',z⟩:=I.cell y c e
   exact⟨w',z.sameBut hs (cne y c e)⟩
  ·obtain⟨e,n,ne,nf,d⟩:=I.pin p hp
   exact⟨(hs.2 p.1 ne).trans e,n,ne,nf,d⟩
 ·have hfn:X.fn x=true:=by
   rcases hf with z | z
   ·exact z
   ·rw[z] at hk;cases hk
  obtain⟨c,hc⟩:=I.ok.has x (.inl hk)
  obtain⟨w',z⟩:=I.cell x c hc
  refine wpAny_storeName_cell I.ok.kind hk hc z (fun h' hc' hs=> ?_)
  obtain⟨oc,hoc,hocd⟩:=id z
  refine h {s with heap:=h'} ⟨I.ok,I.os,I.bare,⟨fun b o e n hb hx=> ?_,fun b o e n hb hx=> ?_,I.base.free,fun b o e hx=> ?_,I.base.tups,I.base.frzs,I.base.tbls⟩,⟨m,hn.sameBut hs (Ne.symm (cne x c hc)),fun j y v' e1 e2 e3=> ?_⟩,fun y c' e=> ?_,I.free,I.pL,fun p hp=> ?_,tracked ⟨oc,hoc,I.pL x c hc⟩ hs,by simpa using I.len⟩ ⟨c,hs, .inr hc⟩
  ·exact(hs.2 b (Nat.ne_of_lt (Nat.lt_of_lt_of_le (Heap.lt_size e) (I.ok.cab x c hfn hc)))).trans (I.base.keep b o e n hb hx)
  ·obtain⟨sl,e1⟩:=I.base.slot b o e n hb hx
   exact⟨sl,(hs.2 b (Nat.ne_of_lt (Nat.lt_of_lt_of_le (Heap.lt_size e) (I.ok.cab x c hfn hc)))).trans e1⟩
  ·obtain⟨o',e1⟩:=I.base.there b o e hx
   exact⟨o',(hs.2 b (Nat.ne_of_lt (Nat.lt_of_lt_of_le (Heap.lt_size e) (I.ok.cab x c hfn hc)))).trans e1⟩
  ·by_cases hj:j=i
   ·subst hj
    rw[hi] at e1;cases e1
    rw[List.getElem?_set_self hiσ] at e2
    cases e2
    exact⟨u,r, .inr ⟨.inl hk,c,hc,hc'⟩⟩
   ·rw[List.getElem?_set_ne (Ne.symm hj)] at e2
    obtain⟨u',r',q⟩:=hl j y v' e1 e2 e3
    refine⟨u',r', ?_⟩
    rcases q with q | ⟨k,c',e,z'⟩
    ·exact .inl q
    ·refine .inr ⟨k,c',e,z'.sameBut hs ?_⟩
     rintro rfl
     exact hj (JQ hN e1 (I.ok.inj _ _ _ e hc▸hi))
  ·by_cases hcc:c'=c
   ·subst hcc;exact⟨_,hc'⟩
   ·obtain⟨w2,z2⟩:=I.cell y c' e
    exact⟨w2,z2.sameBut hs hcc⟩
  ·obtain⟨e,n,ne,nf,d⟩:=I.pin p hp
   refine⟨(hs.2 p.1 ?_).trans e,n,ne,nf,d⟩
   intro q
   rw[q,hoc] at e
   have q':oc=p.2:=Option.some.inj e
   exact d w' (by rw[<-q'];exact hocd)
theorem JR {M:Model}{A:Around}{E:Value->Shared->Prop}{i:Nat}{x:Str}{v:V}{u:Value}{Q:Unit->Shared->Prop} (I:Inv X pins σ H s) (hN:X.N.Nodup) (hi:X.N[i]? =some x) (hx:Loc X.env.scope x) (r:RelV v u)
 (h:∀s',Inv X pins (σ.set i (some v)) H s'->Q () s') (hf:X.fn x=true\/X.env.scope.names.lookup x=some .local:=by first | exact .inl rfl | exact .inr rfl | assumption):wpAny M A (storeName X.env x u) Q E s:=
 G4 I hN hi hx r (fun s' I' _=>h s' I') hf
theorem Inv.call' {s':Shared}{ch:List Addr} (I:Inv X pins σ H s) (ho:s'.os=s.os) (u:Un (frs X.stack) ch H H' s.heap s'.heap) (hok:HOk X.prog X.w H' s'.heap) (hg:AllBare s'.gens)
 (hch:∀b∈ch,(b∈X.ex\/X.s₀.heap.objs.size<=b)/\b≠X.env.locals/\(∀x c,X.env.cells.lookup x=some c->c≠b)/\∀p∈X.pn++pins,p.1≠b):Inv X pins σ H' s':=by
 obtain⟨h',g',d',t',o'⟩:=s'
 have e:o'=s.os:=ho
 subst e
 exact I.call (g':=g') (t':=t') (d':=d') u hok hg hch
end
abbrev XK:=Value->Option Addr->Hp->Prop
abbrev St:=List (Option V)
abbrev VK:=V->Hp->Prop
abbrev TE:=St->Hp->VK->Prop
abbrev TT:=St->Hp->(Bool->Hp->Prop)->Prop
abbrev TA:=St->Hp->(List V->Hp->Prop)->Prop
structure Ends where
 nx:St->Hp->Prop
 rt:VK
 bk:St->Hp->Prop:=fun _ _=>False
 ct:St->Hp->Prop:=fun _ _=>False
abbrev TS:=Ends->St->Hp->Prop
def EP (X:Cx) (pins:List (Addr×Obj)) (σ:St) (Q:VK) (u:Value) (s':Shared):Prop:=∃v H',Inv X pins σ H' s'/\RelV v u/\Q v H'
def TP (X:Cx) (pins:List (Addr×Obj)) (σ:St) (Q:Bool->Hp->Prop) (b:Bool) (s':Shared):Prop:=∃H',Inv X pins σ H' s'/\Q b H'
def AP (X:Cx) (pins:List (Addr×Obj)) (σ:St) (Q:List V->Hp->Prop) (us:List Value) (s':Shared):Prop:=∃vs H',Inv X pins σ H' s'/\Vals vs us/\Q vs H'
def SP (X:Cx) (pins:List (Addr×Obj)) (D:Ends) (f:Flow) (s':Shared):Prop:=
 match f with
 | .next=>∃σ' H',Inv X pins σ' H' s'/\D.nx σ' H'
 | .brk=>∃σ' H',Inv X pins σ' H' s'/\D.bk σ' H'
 | .cont=>∃σ' H',Inv X pins σ' H' s'/\D.ct σ' H'
 | .ret u=>∃v σ' H',Inv X pins σ' H' s'/\RelV v u/\D.rt v H'
def PE (X:Cx) (e:Expr) (t:TE):Prop:=
 ∀(pins:List (Addr×Obj)) (s:Shared) (σ:St) (H:Hp) (Q:VK),Inv X pins σ H s->t σ H Q->wpAny (model X.prog X.w) X.A (eval e X.env) (EP X pins σ Q) X.xe s
def PT (X:Cx) (e:Expr) (t:TT):Prop:=
 ∀(pins:List (Addr×Obj)) (s:Shared) (σ:St) (H:Hp) (Q:Bool->Hp->Prop),Inv X pins σ H s->t σ H Q->wpAny (model X.prog X.w) X.A (isTrue e X.env (eval e X.env)) (TP X pins σ Q) X.xe s
def PW (X:Cx) (e:Expr) (t:TT):Prop:=
 ∀(whole:Sem Value) (pins:List (Addr×Obj)) (s:Shared) (σ:St) (H:Hp) (Q:Bool->Hp->Prop),Inv X pins σ H s->t σ H Q->wpAny (model X.prog X.w) X.A (isTrue e X.env whole) (TP X pins σ Q) X.xe s
theorem PW.pt {X:Cx}{e:Expr}{t:TT} (h:PW X e t):PT X e t:=h _
def PA (X:Cx) (es:List Expr) (t:TA):Prop:=
 ∀(pos:Pos) (pins:List (Addr×Obj)) (s:Shared) (σ:St) (H:Hp) (Q:List V->Hp->Prop),Inv X pins σ H s->t σ H Q->wpAny (model X.prog X.w) X.A (spliced (backTo pos (starEach es X.env))) (AP X pins σ Q) X.xe s
def PS (X:Cx) (st:Stmt) (t:TS):Prop:=
 ∀(pins:List (Addr×Obj)) (s:Shared) (σ:St) (H:Hp) (D:Ends),Inv X pins σ H s->t D σ H->wpAny (model X.prog X.w) X.A (exec st X.env) (SP X pins D) X.xe s
def PSs (X:Cx) (st:List Stmt) (t:TS):Prop:=
 ∀(pins:List (Addr×Obj)) (s:Shared) (σ:St) (H:Hp) (D:Ends),Inv X pins σ H s->t D σ H->wpAny (model X.prog X.w) X.A (execs st X.env) (SP X pins D) X.xe s
theorem thn {α:Type}{t:Sem α}{Q Q':α->Shared->Prop}{M:Model}{A:Around}{E:Value->Shared->Prop}{s:Shared} (h:wpAny M A t Q E s) (hQ:∀a s,Q a s->Q' a s):wpAny M A t Q' E s:=wpAny_mono h hQ fun _ _ x=>x
section
variable {X:Cx}
def YX (i:Nat):TE:=fun σ H Q=>∃v,σ[i]? =some (some v)/\Q v H
def tC (v:V):TE:=fun _ H Q=>Q v H
theorem YZ {i:Nat}{x:Str}{pos:Pos} (hN:X.N[i]? =some x) (hv:Vis X.env.scope x) (hd:(x==("__debug__":Str))=false:=by decide) (hcd:(x==("__classdict__":Str))=false:=by decide):PE X (.Name x pos) (YX i):=by
 intro pins s σ H Q I h
 obtain⟨v,e,h⟩:=h
 obtain⟨m,hn,hl⟩:=I.loc
 obtain⟨u,r,l⟩:=hl i x v hN e hv
 have fin:EP X pins σ Q u s:=⟨v,H,I,r,h⟩
 rcases l with⟨hk,hm⟩ | ⟨hk,c,hc,hcell⟩
 ·exact wpAny_Name (wpAny_loadName_local I.ok.kind hk hn hm fin) hd
 ·rcases hk with hk | hk
  ·exact wpAny_Name (wpAny_loadName_cell I.ok.kind hk hc hcell fin) hd
  ·exact wpAny_Name (wpAny_loadName_free I.ok.kind hk hc hcell fin hcd) hd
theorem Y0 {i j pos}:PE X (.Constant (.int i) j pos) (tC (.int i)):=fun _ _ _ H _ I h=>wpAny_Constant_int ⟨.int i,H,I.tok _,⟨_,rfl⟩,h⟩
theorem acK {b j pos}:PE X (.Constant (.bool b) j pos) (tC (.bl b)):=fun _ _ _ H _ I h=>Constant_bool ⟨.bl b,H,I,rfl,h⟩
theorem Y4 {j pos}:PE X (.Constant .none j pos) (tC .non):=fun _ _ _ H _ I h=>Constant_none ⟨.non,H,I,rfl,h⟩
theorem Q4 {x j pos}:PE X (.Constant (.str x) j pos) (tC (.str x)):=fun _ _ _ H _ I h=>Calls.Constant_str ⟨.str x,H,I.tok _,⟨_,rfl⟩,h⟩
def Gl (X:Cx) (x:Str):Prop:=X.env.kindOf x=some .globalImplicit
theorem tY {E:Value->Shared->Prop}{pins:List (Addr×Obj)}{s:Shared}{σ:St}{H:Hp}{x:Str}{u:Value}{pos:Pos}{Q:Value->Shared->Prop} (I:Inv X pins σ H s) (hg:Gl X x) (hm:X.mg x=some u) (h:Q u s)
 (hd:(x==("__debug__":Str))=false:=by decide):wpAny (model X.prog X.w) X.A (eval (.Name x pos) X.env) Q E s:=
 Calls.Name_function_global I.ok.kind hg (Calls.loadGlobal_global (by rw[I.ok.glob];exact I.mod.glob.keeps I.bk) hm h) hd
theorem yD {E:Value->Shared->Prop}{pins:List (Addr×Obj)}{s:Shared}{σ:St}{H:Hp}{x:Str}{u:Value}{pos:Pos}{Q:Value->Shared->Prop} (I:Inv X pins σ H s) (hg:Gl X x) (hm:X.mg x=none) (hv:bootBuiltins x=some u) (h:Q u s)
 (hn:x≠"__name__":=by decide) (hd:(x==("__debug__":Str))=false:=by decide):wpAny (model X.prog X.w) X.A (eval (.Name x pos) X.env) Q E s:=by
 obtain⟨mb,h1,h2⟩:=I.mod.blt
 exact Calls.Name_function_global I.ok.kind hg (Calls.loadGlobal_builtin (by rw[I.ok.glob];exact I.mod.glob.keeps I.bk) hm (by rw[I.ok.blt];exact h1.keeps I.bk) ((h2 x hn).trans hv) h) hd
theorem UT {x:Str}{v:V}{u:Value}{pos:Pos} (hg:Gl X x) (hm:X.mg x=none) (hv:bootBuiltins x=some u) (r:RelV v u) (hn:x≠"__name__":=by decide) (hd:(x==("__debug__":Str))=false:=by decide):PE X (.Name x pos) (tC v):=
 fun _ _ _ H _ I h=>yD I hg hm hv ⟨v,H,I,r,h⟩ hn hd
variable {a b:Expr}{ta tb:TE}{pos:Pos}
def PC (X:Cx) (op:CmpOp) (a b:Expr) (t:TE):Prop:=
 ∀(pins:List (Addr×Obj)) (s:Shared) (σ:St) (H:Hp) (Q:VK),Inv X pins σ H s->t σ H Q->
  wpAny (model X.prog X.w) X.A (eval a X.env) (fun v s₁=>wpAny (model X.prog X.w) X.A (eval b X.env) (fun u s₂=>wpAny (model X.prog X.w) X.A (compareOp op v u) (EP X pins σ Q) X.xe s₂) X.xe s₁) X.xe s
def tB (t:TE):TT:=fun σ H Q=>t σ H fun x H1=>∃c,x= .bl c/\Q c H1
theorem Q5 {op:CmpOp}{t:TE} (h:PC X op a b t) (h1:behindInMarks op b=false:=by first | exact nobehind _ (by decide) (by decide) | rfl):PT X (.Compare a [op] [b] pos) (tB t):=by
 intro pins s σ H Q I hw
 refine wpAny_isTrue_Compare1 (thn (h pins s σ H _ I hw) fun v s1 h1=>thn h1 fun u s2 h2=>thn h2 fun c s3 ⟨x,H1,I1,r1,q1⟩=> ?_) h1
 obtain⟨d,rfl,q⟩:=q1
 cases r1
 exact wpAny_truthy_bool ⟨H1,I1,q⟩
theorem Y5 {e:Expr}{t:TE} (h:PE X e t) (he:∀whole,isTrue e X.env whole=(do let v <-whole;standAt e.pos;holding [v] (truthy v)):=by intro _;rfl):PT X e (tB t):=by
 intro pins s σ H Q I hw
 refine isTrue_plain (thn (h pins s σ H _ I hw) fun v s1 ⟨x,H1,I1,r1,q1⟩=> ?_) (he _)
 obtain⟨d,rfl,q⟩:=q1
 cases r1
 exact wpAny_truthy_bool ⟨H1,I1,q⟩
variable {tA tB':TT}{rest:List Expr}
def acL (t u:TT):TT:=fun σ H Q=>t σ H fun c H1=>if c=true then u σ H1 Q else Q false H1
def tOr (t u:TT):TT:=fun σ H Q=>t σ H fun c H1=>if c=true then Q true H1 else u σ H1 Q
def acM (t:TT):TT:=fun σ H Q=>t σ H fun c H1=>Q (!c) H1
theorem UW (ha:PT X a tA):PW X (.BoolOp .And [a] pos) tA:=by
 intro wh pins s σ H Q I h
 refine isTrue_and (thn (ha pins s σ H Q I h) fun c s1 e=> ?_)
 cases c with
 | true=>exact isTrue_and_nil e
 | false=>exact e
theorem Y6 (ha:PT X a tA):PW X (.BoolOp .Or [a] pos) tA:=by
 intro wh pins s σ H Q I h
 refine isTrue_or (thn (ha pins s σ H Q I h) fun c s1 e=> ?_)
 cases c with
 | false=>exact isTrue_or_nil e
 | true=>exact e
theorem Y7 (ha:PT X a tA) (hb:PW X (.BoolOp .And (b::rest) pos) tB'):PW X (.BoolOp .And (a::b::rest) pos) (acL tA tB'):=by
 intro wh pins s σ H Q I h
 refine isTrue_and (thn (ha pins s σ H _ I h) fun c s1 ⟨H1,I1,q1⟩=> ?_)
 cases c with
 | true=>exact hb wh pins s1 σ H1 Q I1 q1
 | false=>exact⟨H1,I1,q1⟩
theorem acN (ha:PT X a tA) (hb:PW X (.BoolOp .Or (b::rest) pos) tB'):PW X (.BoolOp .Or (a::b::rest) pos) (tOr tA tB'):=by
 intro wh pins s σ H Q I h
 refine isTrue_or (thn (ha pins s σ H _ I h) fun c s1 ⟨H1,I1,q1⟩=> ?_)
 cases c with
 | true=>exact⟨H1,I1,q1⟩
 | false=>exact hb wh pins s1 σ H1 Q I1 q1
theorem Y8 (ha:PT X a tA):PT X (.UnaryOp .Not a pos) (acM tA):=by
 intro pins s σ H Q I h
 exact isTrue_not (ha pins s σ H (fun c H1=>Q (!c) H1) I h)
def Xx (ta tb:TE):TE:=fun σ H Q=>ta σ H fun x H1=>∃c,x= .bl c/\if c=true then tb σ H1 Q else Q (.bl false) H1
def Xy (ta:TE):TE:=fun σ H Q=>ta σ H fun x H1=>∃c,x= .bl c/\Q (.bl (!c)) H1
theorem Y9 {op}{t:TE} (h:PE X a t):PE X (.BoolOp op [a] pos) t:=fun pins s σ H Q I hw=>BoolOp_one (h pins s σ H Q I hw)
theorem Zh (ha:PE X a ta) (hb:PE X (.BoolOp .And (b::rest) pos) tb):PE X (.BoolOp .And (a::b::rest) pos) (Xx ta tb):=by
 intro pins s σ H Q I h
 refine BoolOp_and (thn (ha pins s σ H _ I h) fun v s1 ⟨x,H1,I1,r1,q1⟩=> ?_)
 obtain⟨c,rfl,q1⟩:=q1
 cases r1
 refine wpAny_truthy_bool ?_
 cases c with
 | true=>exact hb pins s1 σ H1 Q I1 q1
 | false=>exact⟨.bl false,H1,I1,rfl,q1⟩
theorem Zi (ha:PE X a ta):PE X (.UnaryOp .Not a pos) (Xy ta):=by
 intro pins s σ H Q I h
 refine UnaryOp_ (thn (ha pins s σ H _ I h) fun v s1 ⟨x,H1,I1,r1,q1⟩=> ?_)
 obtain⟨c,rfl,q1⟩:=q1
 cases r1
 exact not_of (wpAny_truthy_bool ⟨.bl (!c),H1,I1,rfl,q1⟩)
def tIf (t:TT) (ta tb:TE):TE:=fun σ H Q=>t σ H fun c H1=>if c=true then ta σ H1 Q else tb σ H1 Q
theorem Q6 {c:Expr} (hc:PT X c tA) (ha:PE X a ta) (hb:PE X b tb):PE X (.IfExp c a b pos) (tIf tA ta tb):=by
 intro pins s σ H Q I h
 refine wpAny_IfExp (thn (hc pins s σ H _ I h) fun d s1 ⟨H1,I1,q1⟩=> ?_)
 cases d with
 | true=>exact ha pins s1 σ H1 Q I1 q1
 | false=>exact hb pins s1 σ H1 Q I1 q1
end
def SqL (K:PySem.W.Frag) (H:Hp) (a:Addr) (xs:List V):Prop:=
 Rd H a (.lst xs)\/
  ∃(o:Obj) (its:Array Value) (n:Nat),K.lookup a=some o/\o.cls= .type "list"/\o.dict=none/\o.data= .seq its n/\its.size<=sizeLine/\Vals xs its.toList
def SqT (K:PySem.W.Frag) (H:Hp) (a:Addr) (xs:List V):Prop:=
 Rd H a (.tup xs)\/
  ∃(o:Obj) (its:Array Value) (n:Nat),K.lookup a=some o/\o.cls= .type "tuple"/\o.data= .seq its n/\its.size<=sizeLine/\Vals xs its.toList
def agG:Value->Option V
 | .none=>some .non
 | .bool b=>some (.bl b)
 | .int i _=>some (.int i)
 | .str x _=>some (.str x)
 | .bytes b _=>some (.byt b)
 | .float b _=>some (.flt b)
 | .ref a=>some (.ref a)
 | .type n=>some (.ty n)
 | _=>none
theorem RelV.abs {x:V}{u:Value} (r:RelV x u):agG u=some x:=by
 cases x with
 | non=>cases r;rfl
 | bl _=>cases r;rfl
 | int _=>obtain⟨t,rfl⟩:=r;rfl
 | str _=>obtain⟨t,rfl⟩:=r;rfl
 | byt _=>obtain⟨t,rfl⟩:=r;rfl
 | flt _=>obtain⟨t,rfl⟩:=r;rfl
 | ref _=>cases r;rfl
 | ty _=>cases r;rfl
theorem RelV.inj {x y:V}{u:Value} (r:RelV x u) (q:RelV y u):x=y:=Option.some.inj (r.abs.symm.trans q.abs)
theorem Vals.inj:∀{xs ys:List V}{us:List Value},Vals xs us->Vals ys us->xs=ys
 | _,_,_, .nil, .nil=>rfl
 | _,_,_, .cons r t, .cons r' t'=>by rw[r.inj r',Vals.inj t t']
section
variable {X:Cx}{pins:List (Addr×Obj)}{σ:St}{H:Hp}{s:Shared}{a:Addr}{xs ys:List V}
theorem SqL.of {K:PySem.W.Frag} (h:H a=some (.lst xs)):SqL K H a xs:= .inl (.inl h)
theorem SqT.of {K:PySem.W.Frag} (h:H a=some (.tup xs)):SqT K H a xs:= .inl (.inl h)
theorem Inv.list (I:Inv X pins σ H s) (h:SqL X.K H a xs):∃its:List Value,Vals xs its/\PlainL s.heap a its.toArray/\xs.length<=sizeLine:=by
 rcases h with h | ⟨o,its,n,hk,hc,hd,hs,hz,r⟩
 ·obtain⟨z,its,n,r,e⟩:=h.ok I.hok
  exact⟨its,r,⟨_,n,e,rfl,rfl,rfl⟩,z⟩
 ·refine⟨its.toList,r,⟨o,n,I.kIn a o hk,hc,hd,by simpa using hs⟩, ?_⟩
  have e:=r.length
  simp only[Array.length_toList] at e
  omega
theorem Inv.tuple (I:Inv X pins σ H s) (h:SqT X.K H a xs):∃its:List Value,Vals xs its/\IsTup s.heap a its.toArray/\xs.length<=sizeLine:=by
 rcases h with h | ⟨o,its,n,hk,hc,hs,hz,r⟩
 ·obtain⟨z,its,r,p⟩:=h.ok I.hok
  exact⟨its,r,p,z⟩
 ·refine⟨its.toList,r,⟨o,I.kIn a o hk,hc,n,by simpa using hs⟩, ?_⟩
  have e:=r.length
  simp only[Array.length_toList] at e
  omega
theorem Inv.JS (I:Inv X pins σ H s) (h:SqL X.K H a xs) (h':SqL X.K H a ys):xs=ys:=by
 obtain⟨its,r,⟨o,n,e,_,_,d⟩,_⟩:=I.list h
 obtain⟨its',r',⟨o',n',e',_,_,d'⟩,_⟩:=I.list h'
 rw[e] at e';cases e'
 rw[d] at d'
 injection d' with d1 _
 have:its=its':=by simpa using congrArg Array.toList d1
 subst this
 exact r.inj r'
theorem Inv.G5 (I:Inv X pins σ H s) (h:SqT X.K H a xs) (h':SqT X.K H a ys):xs=ys:=by
 obtain⟨its,r,⟨o,e,_,n,d⟩,_⟩:=I.tuple h
 obtain⟨its',r',⟨o',e',_,n',d'⟩,_⟩:=I.tuple h'
 rw[e] at e';cases e'
 rw[d] at d'
 injection d' with d1 _
 have:its=its':=by simpa using congrArg Array.toList d1
 subst this
 exact r.inj r'
end
abbrev Cx.wish (X:Cx) (E:Value->Shared->Prop):Cx:={X with xe:=E}
abbrev Cx.nox (X:Cx):Cx:=X.wish fun _ _=>False
theorem Cx.Ok.wish {X:Cx} (ok:X.Ok) (E:Value->Shared->Prop):(X.wish E).Ok:=
 ⟨ok.mod,ok.kind,ok.glob,ok.blt,ok.above,ok.inj,ok.has,ok.cab,ok.hd,ok.frames,ok.stk,ok.exf,ok.bs,ok.bsz,ok.noex,ok.exfs,ok.funs,ok.frf⟩
theorem Cx.Ok.unwish {X:Cx}{E:Value->Shared->Prop} (ok:(X.wish E).Ok):X.Ok:=
 ⟨ok.mod,ok.kind,ok.glob,ok.blt,ok.above,ok.inj,ok.has,ok.cab,ok.hd,ok.frames,ok.stk,ok.exf,ok.bs,ok.bsz,ok.noex,ok.exfs,ok.funs,ok.frf⟩
section
variable {X:Cx}{pins:List (Addr×Obj)}{σ:St}{H:Hp}{s:Shared}{E:Value->Shared->Prop}
theorem Inv.wish (I:Inv X pins σ H s) (E:Value->Shared->Prop):Inv (X.wish E) pins σ H s:=⟨I.ok.wish E,I.os,I.bare,I.base,I.loc,I.cell,I.free,I.pL,I.pin,I.hok,I.len⟩
theorem Inv.unwish (I:Inv (X.wish E) pins σ H s):Inv X pins σ H s:=⟨I.ok.unwish,I.os,I.bare,I.base,I.loc,I.cell,I.free,I.pL,I.pin,I.hok,I.len⟩
theorem SP.unwish {D:Ends}{f:Flow}{s':Shared} (h:SP (X.wish E) pins D f s'):SP X pins D f s':=by
 cases f with
 | next=>obtain⟨σ',H',I,q⟩:=h;exact⟨σ',H',I.unwish,q⟩
 | brk=>obtain⟨σ',H',I,q⟩:=h;exact⟨σ',H',I.unwish,q⟩
 | cont=>obtain⟨σ',H',I,q⟩:=h;exact⟨σ',H',I.unwish,q⟩
 | ret u=>obtain⟨v,σ',H',I,r,q⟩:=h;exact⟨v,σ',H',I.unwish,r,q⟩
theorem PSs.nox {st:List Stmt}{t:TS} (h:PSs X.nox st t):PSs X st t:=fun pins s σ H D I hw=>
 wpAny_mono (h pins s σ H D (I.wish _) hw) (fun _ _ q=>q.unwish) fun _ _ z=>False.elim z
end
section
variable {X:Cx}{st:Stmt}{rest:List Stmt}{t u:TS}{e:Expr}{te:TE}{pos:Pos}
def Ny:TS:=fun D σ H=>D.nx σ H
def acO (t u:TS):TS:=fun D σ H=>t {D with nx:=u D} σ H
theorem U0:PSs X [] Ny:=fun _ _ σ H _ I h=>wpAny_execs_nil ⟨σ,H,I,h⟩
theorem Q7 (h1:PS X st t) (h2:PSs X rest u):PSs X (st::rest) (acO t u):=by
 intro pins s σ H D I h
 refine wpAny_execs_cons (thn (h1 pins s σ H {D with nx:=u D} I h) fun f s1 q=> ?_)
 cases f with
 | next=>
   obtain⟨σ',H',I',q⟩:=q
   exact h2 pins s1 σ' H' D I' q
 | ret v=>exact q
 | brk=>exact q
 | cont=>exact q
theorem U3 (h1:PS X st t):PSs X [st] t:=by
 intro pins s σ H D I h
 refine wpAny_execs_cons (thn (h1 pins s σ H D I h) fun f s1 q=> ?_)
 cases f with
 | next=>exact wpAny_execs_nil q
 | ret v=>exact q
 | brk=>exact q
 | cont=>exact q
def Xz:TS:=fun D σ H=>D.ct σ H
theorem U4:PS X (.Pass pos) Ny:=fun _ _ σ H _ I h=>wpAny_Pass ⟨σ,H,I,h⟩
theorem JT:PS X (.Continue pos) Xz:=fun _ _ σ H _ I h=>wpAny_Continue ⟨σ,H,I,h⟩
theorem Inv.quiet {pins:List (Addr×Obj)}{σ:St}{H:Hp}{s:Shared} (I:Inv X pins σ H s):interactive X.env=false:=by simp[interactive,I.ok.kind]
def XC (te:TE):TS:=fun D σ H=>te σ H fun _ H1=>D.nx σ H1
theorem U5 (he:PE X e te) (hs:swapsWith e none pos.line X.env=pure false:=by rfl):PS X (.Expr e pos) (XC te):=by
 intro pins s σ H D I h
 exact wpAny_Expr_any (thn (he pins s σ H _ I h) fun v s1 ⟨x,H1,I1,r1,q1⟩=>⟨σ,H1,I1,q1⟩) I.quiet hs
def acP (te:TE):TS:=fun D σ H=>te σ H D.rt
theorem Zj (he:PE X e te):PS X (.Return (some e) pos) (acP te):=by
 intro pins s σ H D I h
 exact wpAny_Return_some (thn (he pins s σ H _ I h) fun v s1 ⟨x,H1,I1,r1,q1⟩=>⟨x,σ,H1,I1,r1,q1⟩)
def acQ (c:TT) (t u:TS):TS:=fun D σ H=>c σ H fun b H1=>if b=true then t D σ H1 else u D σ H1
theorem acR {c:Expr}{a b:List Stmt}{tc:TT} (hc:PT X c tc) (ha:PSs X a t) (hb:PSs X b u):PS X (.If c a b pos) (acQ tc t u):=by
 intro pins s σ H D I h
 refine wpAny_If (thn (hc pins s σ H _ I h) fun d s1 ⟨H1,I1,q1⟩=> ?_)
 cases d with
 | true=>exact ha pins s1 σ H1 D I1 q1
 | false=>exact hb pins s1 σ H1 D I1 q1
end
abbrev TG:=V->St->Hp->(St->Hp->Prop)->Prop
abbrev TGs:=List V->St->Hp->(St->Hp->Prop)->Prop
def PG (X:Cx) (target:Expr) (t:TG):Prop:=
 ∀(pins:List (Addr×Obj)) (s:Shared) (σ:St) (H:Hp) (v:V) (u:Value) (Q:St->Hp->Prop),Inv X pins σ H s->RelV v u->t v σ H Q->
  wpAny (model X.prog X.w) X.A (assign target X.env u) (fun _ s'=>∃σ' H',Inv X pins σ' H' s'/\Q σ' H') X.xe s
def PGs (X:Cx) (ts:List Expr) (t:TGs):Prop:=
 ∀(pins:List (Addr×Obj)) (s:Shared) (σ:St) (H:Hp) (vs:List V) (us:List Value) (Q:St->Hp->Prop),Inv X pins σ H s->Vals vs us->t vs σ H Q->
  wpAny (model X.prog X.w) X.A (assignInOrder ((assignEach ts X.env).map (·.2)) us) (fun _ s'=>∃σ' H',Inv X pins σ' H' s'/\Q σ' H') X.xe s
section
variable {X:Cx}{pos:Pos}
def zM (i:Nat):TG:=fun v σ H Q=>Q (σ.set i (some v)) H
theorem Nz {i:Nat}{x:Str} (hN:X.N.Nodup) (hi:X.N[i]? =some x) (hx:Loc X.env.scope x) (hf:X.fn x=true\/X.env.scope.names.lookup x=some .local:=by first | exact .inl rfl | exact .inr rfl | assumption):PG X (.Name x pos) (zM i):=by
 intro pins s σ H v u Q I r h
 exact wpAny_assign_Name (JR I hN hi hx r (fun s' I'=>⟨_,H,I',h⟩) hf)
def acS:TGs:=fun vs σ H Q=>vs=[]/\Q σ H
def XD (t:TG) (u:TGs):TGs:=fun vs σ H Q=>∃v r,vs=v::r/\t v σ H fun σ' H'=>u r σ' H' Q
theorem U6:PGs X [] acS:=by
 intro pins s σ H vs us Q I r h
 obtain⟨e,h⟩:=h
 subst e
 cases r
 exact assignInOrder_nil ⟨σ,H,I,h⟩
theorem Q8 {e:Expr}{es:List Expr}{t:TG}{u:TGs} (h1:PG X e t) (h2:PGs X es u)
 (hs:(assignEach (e::es) X.env).map (·.2)=assign e X.env::(assignEach es X.env).map (·.2):=by rfl):PGs X (e::es) (XD t u):=by
 intro pins s σ H vs us Q I r h
 obtain⟨v,vr,e1,h⟩:=h
 subst e1
 cases r with
 | cons r rr=>
   rw[hs]
   refine assignInOrder_cons (thn (h1 pins s σ H _ _ _ I r h) fun _ s1 ⟨σ1,H1,I1,q1⟩=> ?_)
   exact h2 pins s1 σ1 H1 _ _ Q I1 rr q1
def Zk (K:PySem.W.Frag) (n:Nat) (t:TGs):TG:=fun v σ H Q=>∃a xs,v= .ref a/\SqT K H a xs/\xs.length=n/\t xs σ H Q
theorem Zm {es:List Expr}{k:Nat}{t:TGs}{n:Nat} (hc:X.calm=true) (h:PGs X es t)
 (hn:(assignEach es X.env).length=n:=by rfl) (hst:(assignEach es X.env).findIdx? (·.1)=none:=by rfl):PG X (.Tuple es k pos) (Zk X.K n t):=by
 intro pins s σ H v u Q I r hw
 obtain⟨a,xs,e1,hq,hl,hw⟩:=hw
 subst e1
 cases r
 obtain⟨its,rv,ht,hz⟩:=I.tuple hq
 refine assign_Tuple_tuple (I.ok.hd hc) ht (by simp[hn,<-hl,rv.length]) hst fun h' hx=> ?_
 have I1:Inv X pins σ H {s with heap:=h'}:=I.kept (t':=s.toks) fun b o e=>hx b o (Nat.ne_of_lt (Heap.lt_size e)) e
 exact h pins _ σ H xs _ Q I1 (by simpa using rv) hw
def Pk (te:TE) (g:TG):TS:=fun D σ H=>te σ H fun x H1=>g x σ H1 D.nx
theorem Zn {tg e:Expr}{te:TE}{g:TG} (he:PE X e te) (hg:PG X tg g) (hs:swapsWithSole [tg] e pos.line X.env=pure false:=by rfl) (hw:swappedStores [tg] e X.env=pure none:=by rfl)
 (h1:(assignEach [tg] X.env).map (·.2)=[assign tg X.env]:=by rfl):PS X (.Assign [tg] e pos) (Pk te g):=by
 intro pins s σ H D I h
 refine wpAny_Assign_stores (thn (he pins s σ H _ I h) fun v s1 ⟨x,H1,I1,r1,q1⟩=> ?_) hs hw
 rw[h1]
 exact thn (hg pins s1 σ H1 x v _ I1 r1 q1) fun _ s2 q=>q
theorem Zo {i:Nat}{x:Str}{e:Expr}{te:TE}{pos':Pos} (hN:X.N.Nodup) (hi:X.N[i]? =some x) (hx:Loc X.env.scope x) (he:PE X e te) (hs:swapsWith e (some (.Name x pos')) pos.line X.env=pure false:=by rfl) (hf:X.fn x=true\/X.env.scope.names.lookup x=some .local:=by first | exact .inl rfl | exact .inr rfl | assumption):
 PS X (.Assign [.Name x pos'] e pos) (Pk te (zM i)):=by
 intro pins s σ H D I h
 refine wpAny_Assign_Name (thn (he pins s σ H _ I h) fun v s1 ⟨y,H1,I1,r1,q1⟩=> ?_) hs
 exact JR I1 hN hi hx r1 (fun s2 I2=>⟨_,H1,I2,q1⟩) hf
end
section
variable {X:Cx}{pos:Pos}
def Q9 (c:TT) (tb:TS):TS:=fun D σ H=>∃W:Nat->St->Hp->Prop,(∃m,W m σ H)/\∀m σ H,W m σ H->
 c σ H fun b H1=>if b=true then∃N:St->Hp->Prop,(∀σ' H',N σ' H'->∃m',m'<m/\W m' σ' H')/\tb {D with nx:=N,ct:=N,bk:=D.nx} σ H1 else D.nx σ H1
theorem Ra {c:Expr}{body:List Stmt}{tc:TT}{tb:TS} (hp:PassesOwn (model X.prog X.w) X.A X.env X.xe) (hc:PT X c tc) (hb:PSs X body tb):PS X (.While c body [] pos) (Q9 tc tb):=by
 intro pins s σ H D I h
 obtain⟨W,⟨m0,w0⟩,turn⟩:=h
 refine wpAny_While (codeAny_whileLoop (fun n s'=>∃σ' H',Inv X pins σ' H' s'/\W n σ' H') ?_ m0 ⟨σ,H,I,w0⟩)
 rintro n s1 ⟨σ1,H1,I1,w1⟩
 refine wpAny_passesOwn hp (thn (hc pins s1 σ1 H1 _ I1 (turn n σ1 H1 w1)) fun b s2 ⟨H2,I2,q2⟩=> ?_)
 cases b with
 | true=>
   obtain⟨N,hN,q2⟩:=q2
   rw[if_pos rfl]
   refine wpAny_passesOwn hp (thn (hb pins s2 σ1 H2 _ I2 q2) fun f s3 q3=> ?_)
   cases f with
   | next=>
     obtain⟨σ3,H3,I3,n3⟩:=q3
     obtain⟨m',hm,w3⟩:=hN σ3 H3 n3
     exact⟨m',hm,σ3,H3,I3,w3⟩
   | cont=>
     obtain⟨σ3,H3,I3,n3⟩:=q3
     obtain⟨m',hm,w3⟩:=hN σ3 H3 n3
     exact⟨m',hm,σ3,H3,I3,w3⟩
   | brk=>exact q3
   | ret v=>exact q3
 | false=>
   rw[if_neg Bool.false_ne_true]
   exact wpAny_execs_nil ⟨σ1,H2,I2,q2⟩
end
structure It where
 go:Nat->Hp->Prop
 yld:Nat->Hp->V->Hp->Prop
 stop:Nat->Hp->Prop
def Bk (X:Cx) (pins:List (Addr×Obj)) (H:Hp) (b:Addr):Prop:=
 H b=none/\b≠X.env.locals/\b∉X.fs/\(b∈X.ex\/X.s₀.heap.objs.size<=b)/\(∀x c,X.env.cells.lookup x=some c->c≠b)/\∀p∈X.pn++pins,p.1≠b
theorem Inv.JV {X:Cx}{pins:List (Addr×Obj)}{σ:St}{H H':Hp}{s:Shared}{b:Addr} (I:Inv X pins σ H s) (hb:s.heap.objs.size<=b) (hn:H' b=none):Bk X pins H' b:=by
 refine⟨hn,Nat.ne_of_gt (Nat.lt_of_lt_of_le I.lt hb),I.nofs hb, .inr (Nat.le_trans I.sz hb),fun x c e z=> ?_,fun p hp z=> ?_⟩
 ·obtain⟨v,q⟩:=I.cell x c e
  exact absurd (Nat.lt_of_lt_of_le q.lt (by rw[z];exact hb)) (Nat.lt_irrefl _)
 ·exact absurd (Nat.lt_of_lt_of_le (Heap.lt_size (I.pin p hp).1) (by rw[z];exact hb)) (Nat.lt_irrefl _)
structure Turn (P:Program) (w:World) (K:PySem.W.Frag) (tg:Expr) (J:It) (fp:List Addr) (it:Addr) (tn:Nat->Heap->Prop):Prop where
 mem:it∈fp
 obj:∀i h,tn i h->∀b∈fp,∃o,h.get? b=some o/\∀v,o.data≠ .cell v
 keep:∀i h h',tn i h->(∀b∈fp,∀o,h.get? b=some o->h'.get? b=some o)->tn i h'
 item:∀(X:Cx),X.prog=P->X.w=w->X.K=K->X.calm=true->∀(i:Nat) (pins:List (Addr×Obj)) (s:Shared) (σ:St) (H:Hp) (E:Value->Shared->Prop),Inv X pins σ H s->(∀b∈fp,Bk X pins H b)->tn i s.heap->J.go i H->
  wpAny (model P w) X.A (pyNext (.ref it)) (fun r s1=>∃u,r=some u/\
   wpAny (model P w) X.A (letOwnedTupleGo tg (.ref it) u) (fun _ s2=>∃x H',Inv X pins σ H' s2/\RelV x u/\J.yld i H x H'/\tn (i+1) s2.heap/\∀b∈fp,H' b=none) E s1) E s
 done:∀(X:Cx),X.prog=P->X.w=w->X.K=K->X.calm=true->∀(i:Nat) (pins:List (Addr×Obj)) (s:Shared) (σ:St) (H:Hp) (E:Value->Shared->Prop),Inv X pins σ H s->(∀b∈fp,Bk X pins H b)->tn i s.heap->J.stop i H->
  wpAny (model P w) X.A (pyNext (.ref it)) (fun r s1=>r=none/\Inv X pins σ H s1) E s
 self:∀(A:Around) (i:Nat) (s:Shared) (Q:Value->Shared->Prop) (E:Value->Shared->Prop),tn i s.heap->Q (.ref it) s->wpAny (model P w) A (pyIter (.ref it)) Q E s
abbrev TI:=St->Hp->(It->Hp->Prop)->Prop
def PIE (X:Cx) (pins:List (Addr×Obj)) (σ:St) (tg:Expr) (R:It->Hp->Prop) (itv:Value) (s2:Shared):Prop:=
 ∃(it:Addr) (fp:List Addr) (tn:Nat->Heap->Prop) (J:It) (H':Hp),itv= .ref it/\Inv X pins σ H' s2/\Turn X.prog X.w X.K tg J fp it tn/\tn 0 s2.heap/\(∀b∈fp,Bk X pins H' b)/\R J H'
def PI (X:Cx) (tg iter:Expr) (wi:TI):Prop:=
 ∀(pins:List (Addr×Obj)) (s:Shared) (σ:St) (H:Hp) (R:It->Hp->Prop),Inv X pins σ H s->wi σ H R->
  wpAny (model X.prog X.w) X.A (eval iter X.env) (fun v s1=>wpAny (model X.prog X.w) X.A (pyIter v) (PIE X pins σ tg R) X.xe s1) X.xe s
theorem Rb {M:Model}{A:Around}{E:Value->Shared->Prop}{s:Shared}{tg:Expr}{it:Addr}{u:Value}{o:Obj}{n:String}{vs:Array Value}{Q:Unit->Shared->Prop} (ho:s.heap.get? it=some o) (hc:o.cls= .type n) (hd:o.data= .fields vs)
 (hn:["enumerate","zip","dict_itemiterator","dict_reverseitemiterator","odict_iterator","itertools.zip_longest","itertools.pairwise"].contains n=false) (hQ:Q () s):wpAny M A (letOwnedTupleGo tg (.ref it) u) Q E s:=by
 unfold letOwnedTupleGo
 cases tg<;>first
  | exact wpAny_pure hQ
  | (cases u<;>first
      | exact wpAny_pure hQ
      | (refine wpAny_bind (wpAny_load ho ?_)
         rw[hc,hd]
         show wpAny M A (if(["enumerate","zip","dict_itemiterator","dict_reverseitemiterator","odict_iterator","itertools.zip_longest","itertools.pairwise"].contains n&&vs[0]? ==some (rawInt _))=true then _ else _) Q E s
         rw[if_neg (by intro h;rw[hn,Bool.false_and] at h;cases h)]
         exact wpAny_pure hQ))
def Itl (K:PySem.W.Frag) (a:Addr):It:=
 ⟨fun i H=>∃xs x,SqL K H a xs/\xs[i]? =some x,fun i H x H'=>H'=H/\∀xs,SqL K H a xs->xs[i]? =some x,fun i H=>∃xs,SqL K H a xs/\xs.length<=i⟩
def Itr (lo:Int) (n:Nat):It:=⟨fun i _=>i<n,fun i H x H'=>H'=H/\x= .int (lo+i),fun i _=>n<=i⟩
theorem Pn {P:Program}{w:World}{K:PySem.W.Frag}{tg:Expr} (a it:Addr):Turn P w K tg (Itl K a) [it] it (fun i h=>h.IsListIter it a i) where
 mem:=by simp
 obj:=fun i h st b hb=>by
  have e:b=it:=by simpa using hb
  subst e
  obtain⟨o,e,c,d⟩:=st
  exact⟨o,e,fun v z=>by rw[d] at z;cases z⟩
 keep:=fun i h h' st k=>st.at fun o e=>k it (by simp) o e
 item:=by
  intro X hP hw hK hc i pins s σ H E I hf st hg
  subst hP hw hK
  obtain⟨xs,x,hq,hx⟩:=hg
  obtain⟨its,rv,p,hz⟩:=I.list hq
  obtain⟨u,hu,ru⟩:=rv.get hx
  obtain⟨f0,f1,f2,f3,f4,f5⟩:=hf it (by simp)
  refine wpAny_pyNext_list_item st p.isList (x:=u) (by simpa using hu) fun h' st' sb=> ?_
  have I1:Inv X pins σ H {s with heap:=h'}:=I.turned (t':=s.toks) (fun b o hb e=>(sb.2 b hb).trans e) f0 f1 f3 f4 f5
  obtain⟨o,e,c,d⟩:=id st'
  exact⟨u,rfl,Rb (s:={s with heap:=h'}) e c d (by decide) ⟨x,H,I1,ru,⟨rfl,fun ys hy=>by rw[I.JS hy hq];exact hx⟩,st',fun b hb=>(hf b hb).1⟩⟩
 done:=by
  intro X hP hw hK hc i pins s σ H E I hf st hg
  subst hP hw hK
  obtain⟨xs,hq,hx⟩:=hg
  obtain⟨its,rv,p,hz⟩:=I.list hq
  obtain⟨f0,f1,f2,f3,f4,f5⟩:=hf it (by simp)
  have hl:=rv.length
  exact wpAny_pyNext_list_end (I.ok.hd hc) st p.isList (by simp;omega) fun h' eb=>⟨rfl,I.turned (t':=s.toks) (fun b o hb e=>eb b o hb e) f0 f1 f3 f4 f5⟩
 self:=fun _ _ _ _ _ st h=>wpAny_pyIter_listiter st h
theorem Ly {P:Program}{w:World}{K:PySem.W.Frag}{tg:Expr} (it:Addr) (lo:Int) (n:Nat):Turn P w K tg (Itr lo n) [it] it (fun i h=>IsRangeIter h it (lo+(i:Nat)* 1) ((n:Int) - (i:Nat)) 1) where
 mem:=by simp
 obj:=fun i h st b hb=>by
  have e:b=it:=by simpa using hb
  subst e
  exact⟨_,st,fun v z=>by
   have z':Data.fields _=Data.cell v:=z
   cases z'⟩
 keep:=fun i h h' st k=>k it (by simp) _ st
 item:=by
  intro X hP hw hK hc i pins s σ H E I hf st hg
  subst hP hw hK
  obtain⟨f0,f1,f2,f3,f4,f5⟩:=hf it (by simp)
  have W:=Walks.range (prog:=X.prog) (w:=X.w) (I.ok.hd hc) it lo 1 n
  refine W.item i s _ _ hg st fun v h' tk hv st' kk=> ?_
  obtain⟨t,rfl⟩:=hv
  have I1:Inv X pins σ H {s with heap:=h',toks:=tk}:=I.turned (fun b o hb e=>kk b o (by simpa using hb) e) f0 f1 f3 f4 f5
  refine⟨_,rfl,Rb (s:={s with heap:=h',toks:=tk}) (n:="range_iterator") st' rfl rfl (by decide) ⟨.int (lo+i),H,I1,⟨t, ?_⟩,⟨rfl,rfl⟩,st',fun b hb=>(hf b hb).1⟩⟩
  rw[Int.mul_one]
 done:=by
  intro X hP hw hK hc i pins s σ H E I hf st hg
  subst hP hw hK
  obtain⟨f0,f1,f2,f3,f4,f5⟩:=hf it (by simp)
  exact wpAny_pyNext_range_end (I.ok.hd hc) st (by have:n<=i:=hg;omega) fun h' eb=>⟨rfl,I.turned (t':=s.toks) (fun b o hb e=>eb b o hb e) f0 f1 f3 f4 f5⟩
 self:=fun _ _ _ _ _ st h=>wpAny_pyIter_rangeiter st h
section
variable {X:Cx}{tg:Expr}
def XF (K:PySem.W.Frag) (tl:TE):TI:=fun σ H R=>tl σ H fun x H1=>∃a,x= .ref a/\(∃xs,SqL K H1 a xs)/\R (Itl K a) H1
theorem U7 {l:Expr}{tl:TE} (hl:PE X l tl):PI X tg l (XF X.K tl):=by
 intro pins s σ H R I h
 refine thn (hl pins s σ H _ I h) fun v s1 ⟨x,H1,I1,r1,q1⟩=> ?_
 obtain⟨a,e,⟨xs,hq⟩,q⟩:=q1
 subst e
 cases r1
 obtain⟨its,rv,p,hz⟩:=I1.list hq
 refine wpAny_pyIter_list p.isList ?_
 refine⟨s1.heap.objs.size,[s1.heap.objs.size],_,_,H1,rfl,I1.kept (t':=s1.toks) fun b o e=>Heap.get?_push_of_some _ e,Pn a _,⟨_,Heap.get?_push_size _ rfl,rfl,rfl⟩,fun b hb=> ?_,q⟩
 have e:b=s1.heap.objs.size:=by simpa using hb
 subst e
 exact I1.JV (Nat.le_refl _) (I1.hok.fresh (Nat.le_refl _))
theorem Rc {pins:List (Addr×Obj)}{σ:St}{H:Hp}{s:Shared}{R:It->Hp->Prop}{E:Value->Shared->Prop}{lo hi:Int}{t u v:Tok}{tk:Nat} (I:Inv X pins σ H s) (h1: -(2 ^ 62)<=lo) (h2:lo<2 ^ 62) (h3: -(2 ^ 62)<=hi) (h4:hi<2 ^ 62)
 (q:R (Itr lo (hi - lo).toNat) H):wpAny (model X.prog X.w) X.A (pyIter (.ref s.heap.objs.size)) (PIE X pins σ tg R) E {s with heap:=s.heap.push {cls:= .type "range",data:= .fields #[.int lo t, .int hi u, .int 1 v]},toks:=tk}:=by
 refine wpAny_pyIter_range (IsRange.new ..) (small_one h1 h2 h3 h4) ?_
 have I1:Inv X pins σ H {s with heap:=s.heap.push {cls:= .type "range",data:= .fields #[.int lo t, .int hi u, .int 1 v]},toks:=tk}:=I.kept fun b o e=>Heap.get?_push_of_some _ e
 refine⟨(s.heap.push {cls:= .type "range",data:= .fields #[.int lo t, .int hi u, .int 1 v]}).objs.size,[(s.heap.push {cls:= .type "range",data:= .fields #[.int lo t, .int hi u, .int 1 v]}).objs.size],_,_,H,rfl,
  I1.kept (t':=tk) fun b o e=>Heap.get?_push_of_some _ e,Ly _ lo (hi - lo).toNat, ?_,fun b hb=> ?_,q⟩
 ·have e1:lo+((0:Nat):Int)* 1=lo:=by simp
  have e2:(((hi - lo).toNat:Nat):Int) - ((0:Nat):Int)=Builtin.Range.rangeSize lo hi 1:=by rw[rangeSize_one];split<;>omega
  show IsRangeIter _ _ (lo+((0:Nat):Int)* 1) ((((hi - lo).toNat:Nat):Int) - ((0:Nat):Int)) 1
  rw[e1,e2]
  exact Heap.get?_push_size _ rfl
 ·have e:b=(s.heap.push {cls:= .type "range",data:= .fields #[.int lo t, .int hi u, .int 1 v]}).objs.size:=by simpa using hb
  subst e
  exact I1.JV (Nat.le_refl _) (I1.hok.fresh (Nat.le_refl _))
def XH (ta:TA):TI:=fun σ H R=>ta σ H fun vs H1=>∃j:Int,vs=[.int j]/\ -(2 ^ 62)<=j/\j<2 ^ 62/\R (Itr 0 j.toNat) H1
theorem Pq {a:Expr}{ta:TA}{p pos:Pos} (hg:Gl X "range") (hm:X.mg "range"=none) (ha:PA X [a] ta) (hs:starEach [a] X.env=[(false,eval a X.env)]:=by rfl):PI X tg (.Call (.Name "range" p) [a] [] pos) (XH ta):=by
 intro pins s σ H R I h
 refine Call_ (yD I hg hm boot_range (PyProof.Rows.callWith_type1 (thn (ha pos pins s σ H _ I h) fun us s1 ⟨vs,H1,I1,r1,q1⟩=> ?_) hs rfl))
 obtain⟨j,e,q1,q2,q⟩:=q1
 subst e
 cases r1 with
 | cons r rr=>
   cases rr
   obtain⟨t,rfl⟩:=r
   exact call_range_1 (Rc I1 (by omega) (by omega) q1 q2 (by simpa using q))
def acT (wi:TI) (g:TG) (tb:TS):TS:=fun D σ H=>wi σ H fun J H1=>∃W:Nat->Nat->St->Hp->Prop,(∃m,W 0 m σ H1)/\∀i m σ H,W i m σ H->
 (J.stop i H/\D.nx σ H)\/(J.go i H/\∃N:St->Hp->Prop,(∀σ' H',N σ' H'->∃m',m'<m/\W (i+1) m' σ' H')/\∀x H',J.yld i H x H'->g x σ H' fun σ2 H2=>tb {D with nx:=N,ct:=N,bk:=D.nx} σ2 H2)
def DX (fp:List Addr) (h:Heap):List (Addr×Obj):=fp.filterMap fun b=>(h.get? b).map fun o=>(b,o)
theorem tZ {fp:List Addr}{h:Heap}{b:Addr}{o:Obj} (hb:b∈fp) (e:h.get? b=some o):(b,o)∈DX fp h:=List.mem_filterMap.mpr ⟨b,hb,by rw[e];rfl⟩
theorem Pr {fp:List Addr}{h:Heap}{p:Addr×Obj} (hp:p∈DX fp h):p.1∈fp/\h.get? p.1=some p.2:=by
 obtain⟨b,hb,e⟩:=List.mem_filterMap.mp hp
 cases q:h.get? b with
 | none=>rw[q] at e;cases e
 | some o=>
   rw[q] at e
   have e':(b,o)=p:=Option.some.inj e
   subst e'
   exact⟨hb,q⟩
theorem Inv.pinned {pins:List (Addr×Obj)}{σ:St}{H:Hp}{s:Shared}{fp:List Addr} (I:Inv X pins σ H s) (hf:∀b∈fp,Bk X pins H b) (ho:∀b∈fp,∃o,s.heap.get? b=some o/\∀v,o.data≠ .cell v):Inv X (pins++DX fp s.heap) σ H s:=
 I.Nx fun p hp=>(List.mem_append.mp hp).elim (fun z=>I.pin p (List.mem_append_right _ z)) fun z=>by
   obtain⟨hb,e⟩:=Pr z
   obtain⟨f0,f1,f2,_⟩:=hf p.1 hb
   obtain⟨o,e',d⟩:=ho p.1 hb
   rw[e] at e';cases e'
   exact⟨e,f0,f1,f2,d⟩
theorem Inv.unpinned {pins pl:List (Addr×Obj)}{σ:St}{H:Hp}{s:Shared} (I:Inv X (pins++pl) σ H s):Inv X pins σ H s:=I.Nx fun p hp=>I.pin p (List.mem_append_right _ (List.mem_append_left _ hp))
theorem Zq {iter:Expr}{body:List Stmt}{wi:TI}{g:TG}{tb:TS}{pos:Pos} (hp:PassesOwn (model X.prog X.w) X.A X.env X.xe) (hc:X.calm=true) (hi:PI X tg iter wi) (hg:PG X tg g) (hb:PSs X body tb)
 (hs:∀x,foldedSetIterable iter X.env x=pure x:=by intro _;rfl):PS X (.For tg iter body [] pos) (acT wi g tb):=by
 intro pins s σ H D I h
 refine wpAny_For (thn (hi pins s σ H _ I h) fun v s1 h1=>thn h1 fun itv s2 h2=> ?_) hs
 obtain⟨it,fp,tn,J,H2,e,I2,T,st2,f2,W,⟨m0,w0⟩,turn⟩:=h2
 subst e
 have stat:∀{H':Hp},(∀b∈fp,H' b=none)->∀b∈fp,Bk X pins H' b:=fun hn b hb=>⟨hn b hb,(f2 b hb).2⟩
 refine codeAny_forLoop_any (fun n s'=>∃i σ' H',Inv X pins σ' H' s'/\tn i s'.heap/\(∀b∈fp,H' b=none)/\W i n σ' H') ?_ m0 ⟨0,σ,H2,I2,st2,fun b hb=>(f2 b hb).1,w0⟩
 rintro n s3 ⟨i,σ3,H3,I3,st3,fr3,w3⟩
 rcases turn i n σ3 H3 w3 with⟨stop,qn⟩ | ⟨go,N,hN,step⟩
 ·refine wpAny_passesOwn hp (thn (T.done X rfl rfl rfl hc i pins s3 σ3 H3 X.xe I3 (stat fr3) st3 stop) fun r s4 ⟨hr,I4⟩=> ?_)
  subst hr
  exact wpAny_execs_nil ⟨σ3,H3,I4,qn⟩
 ·refine wpAny_passesOwn hp (thn (T.item X rfl rfl rfl hc i pins s3 σ3 H3 X.xe I3 (stat fr3) st3 go) fun r s4 ⟨u,hr,h4⟩=> ?_)
  subst hr
  refine wpAny_passesOwn hp (thn h4 fun _ s5 ⟨x,H5,I5,r5,y5,st5,fr5⟩=> ?_)
  have I5':=I5.pinned (stat fr5) (T.obj _ _ st5)
  refine wpAny_passesOwn hp (thn (hg _ s5 σ3 H5 x u _ I5' r5 (step x H5 y5)) fun _ s6 ⟨σ6,H6,I6,q6⟩=> ?_)
  refine wpAny_passesOwn hp (thn (hb _ s6 σ6 H6 _ I6 q6) fun f s7 q7=> ?_)
  have again:∀{σ7:St}{H7:Hp},Inv X (pins++DX fp s5.heap) σ7 H7 s7->N σ7 H7->∃m,m<n/\∃i σ' H',Inv X pins σ' H' s7/\tn i s7.heap/\(∀b∈fp,H' b=none)/\W i m σ' H':=fun{σ7 H7} I7 n7=>by
   obtain⟨m',hm,w7⟩:=hN σ7 H7 n7
   refine⟨m',hm,i+1,σ7,H7,I7.unpinned,T.keep _ _ _ st5 fun b hb o e=>(I7.pin (b,o) (List.mem_append_right _ (List.mem_append_right _ (tZ hb e)))).1,fun b hb=> ?_,w7⟩
   obtain⟨o,e,d⟩:=T.obj _ _ st5 b hb
   exact(I7.pin (b,o) (List.mem_append_right _ (List.mem_append_right _ (tZ hb e)))).2.1
  cases f with
  | next=>obtain⟨σ7,H7,I7,n7⟩:=q7;exact again I7 n7
  | cont=>obtain⟨σ7,H7,I7,n7⟩:=q7;exact again I7 n7
  | brk=>obtain⟨σ7,H7,I7,q7⟩:=q7;exact⟨σ7,H7,I7.unpinned,q7⟩
  | ret v=>obtain⟨x7,σ7,H7,I7,r7,q7⟩:=q7;exact⟨x7,σ7,H7,I7.unpinned,r7,q7⟩
end
theorem zN {K:PySem.W.Frag}{a:Addr}{xs:List V}{g:TG}{tb:TS}{D:Ends}{σ:St}{H:Hp} (Pv:Nat->St->Hp->Prop) (h0:Pv 0 σ H) (hl:∀i σ H,i<=xs.length->Pv i σ H->SqL K H a xs)
 (hs:∀i x σ H,xs[i]? =some x->Pv i σ H->g x σ H fun σ2 H2=>tb {D with nx:=Pv (i+1),ct:=Pv (i+1),bk:=D.nx} σ2 H2) (hd:∀σ H,Pv xs.length σ H->D.nx σ H):
 ∃W:Nat->Nat->St->Hp->Prop,(∃m,W 0 m σ H)/\∀i m σ H,W i m σ H->
  ((Itl K a).stop i H/\D.nx σ H)\/((Itl K a).go i H/\∃N:St->Hp->Prop,(∀σ' H',N σ' H'->∃m',m'<m/\W (i+1) m' σ' H')/\∀x H',(Itl K a).yld i H x H'->g x σ H' fun σ2 H2=>tb {D with nx:=N,ct:=N,bk:=D.nx} σ2 H2):=by
 refine⟨fun i m σ H=>m=xs.length - i/\i<=xs.length/\Pv i σ H,⟨xs.length,by simp,Nat.zero_le _,h0⟩, ?_⟩
 rintro i m σ H ⟨rfl,hi,p⟩
 have q:=hl i σ H hi p
 by_cases hlt:i<xs.length
 ·refine .inr ⟨⟨xs,xs[i],q,by simp[hlt]⟩,Pv (i+1),fun σ' H' p'=>⟨xs.length - (i+1),by omega,rfl,hlt,p'⟩,fun x H' y=> ?_⟩
  obtain⟨e,y⟩:=y
  subst e
  exact hs i x σ _ (y xs q) p
 ·have e:i=xs.length:=by omega
  subst e
  exact .inl ⟨⟨xs,q,Nat.le_refl _⟩,hd σ H p⟩
theorem Pu {lo:Int}{n:Nat}{g:TG}{tb:TS}{D:Ends}{σ:St}{H:Hp} (Pv:Nat->St->Hp->Prop) (h0:Pv 0 σ H)
 (hs:∀i σ H,i<n->Pv i σ H->g (.int (lo+i)) σ H fun σ2 H2=>tb {D with nx:=Pv (i+1),ct:=Pv (i+1),bk:=D.nx} σ2 H2) (hd:∀σ H,Pv n σ H->D.nx σ H):
 ∃W:Nat->Nat->St->Hp->Prop,(∃m,W 0 m σ H)/\∀i m σ H,W i m σ H->
  ((Itr lo n).stop i H/\D.nx σ H)\/((Itr lo n).go i H/\∃N:St->Hp->Prop,(∀σ' H',N σ' H'->∃m',m'<m/\W (i+1) m' σ' H')/\∀x H',(Itr lo n).yld i H x H'->g x σ H' fun σ2 H2=>tb {D with nx:=N,ct:=N,bk:=D.nx} σ2 H2):=by
 refine⟨fun i m σ H=>m=n - i/\i<=n/\Pv i σ H,⟨n,by simp,Nat.zero_le _,h0⟩, ?_⟩
 rintro i m σ H ⟨rfl,hi,p⟩
 by_cases hlt:i<n
 ·refine .inr ⟨hlt,Pv (i+1),fun σ' H' p'=>⟨n - (i+1),by omega,rfl,hlt,p'⟩,fun x H' y=> ?_⟩
  obtain⟨e,y⟩:=y
  subst e y
  exact hs i σ _ hlt p
 ·have e:i=n:=by omega
  subst e
  exact .inl ⟨Nat.le_refl _,hd σ H p⟩
abbrev R2:=V->V->Hp->VK->Prop
def OpR (X:Cx) (f:Value->Value->Sem Value) (r:R2):Prop:=
 ∀(pins:List (Addr×Obj)) (s:Shared) (σ:St) (H:Hp) (x y:V) (v u:Value) (Q:VK),Inv X pins σ H s->RelV x v->RelV y u->r x y H Q->
  wpAny (model X.prog X.w) X.A (f v u) (EP X pins σ Q) X.xe s
def UnR (X:Cx) (f:Value->Sem Value) (r:V->Hp->VK->Prop):Prop:=
 ∀(pins:List (Addr×Obj)) (s:Shared) (σ:St) (H:Hp) (x:V) (v:Value) (Q:VK),Inv X pins σ H s->RelV x v->r x H Q->
  wpAny (model X.prog X.w) X.A (f v) (EP X pins σ Q) X.xe s
def pM (X:Cx) (f:Value) (r:List V->Hp->VK->Prop):Prop:=
 ∀(pins:List (Addr×Obj)) (s:Shared) (σ:St) (H:Hp) (xs:List V) (us:List Value) (Q:VK),Inv X pins σ H s->Vals xs us->r xs H Q->
  wpAny (model X.prog X.w) X.A (call f us) (EP X pins σ Q) X.xe s
def agH (X:Cx) (r:V->Hp->(Bool->Hp->Prop)->Prop):Prop:=
 ∀(pins:List (Addr×Obj)) (s:Shared) (σ:St) (H:Hp) (x:V) (v:Value) (Q:Bool->Hp->Prop),Inv X pins σ H s->RelV x v->r x H Q->
  wpAny (model X.prog X.w) X.A (truthy v) (TP X pins σ Q) X.xe s
def tOp (r:R2) (ta tb:TE):TE:=fun σ H Q=>ta σ H fun x H1=>tb σ H1 fun y H2=>r x y H2 Q
def tUn (r:V->Hp->VK->Prop) (ta:TE):TE:=fun σ H Q=>ta σ H fun x H1=>r x H1 Q
def rI (C:Int->Int->Prop) (g:Int->Int->V):R2:=fun x y H Q=>∃i j,x= .int i/\y= .int j/\C i j/\Q (g i j) H
def rI0 (g:Int->Int->V):R2:=fun x y H Q=>∃i j,x= .int i/\y= .int j/\Q (g i j) H
def rU (g:Int->V):V->Hp->VK->Prop:=fun x H Q=>∃i,x= .int i/\Q (g i) H
section
variable {X:Cx}{a b c:Expr}{ta tb tc:TE}{pos:Pos}
theorem Zr (ha:PE X a ta) (hb:PE X b tb) {pins:List (Addr×Obj)}{s:Shared}{σ:St}{H:Hp}{R:V->V->Hp->Prop} (I:Inv X pins σ H s)
 (h:ta σ H fun x H1=>tb σ H1 fun y H2=>R x y H2) {Q:Value->Shared->Prop}{f:Value->Value->Sem Value}
 (hf:∀v u s2 x y H2,Inv X pins σ H2 s2->RelV x v->RelV y u->R x y H2->wpAny (model X.prog X.w) X.A (f v u) Q X.xe s2):
 wpAny (model X.prog X.w) X.A (eval a X.env) (fun v s₁=>wpAny (model X.prog X.w) X.A (eval b X.env) (fun u s₂=>wpAny (model X.prog X.w) X.A (f v u) Q X.xe s₂) X.xe s₁) X.xe s:=by
 refine thn (ha pins s σ H _ I h) fun v s1 ⟨x,H1,I1,r1,q1⟩=> ?_
 refine thn (hb pins s1 σ H1 _ I1 q1) fun u s2 ⟨y,H2,I2,r2,q2⟩=> ?_
 exact hf v u s2 x y H2 I2 r1 r2 q2
theorem acU {op:Operator}{r:R2} (ho:OpR X (binaryOp op) r) (ha:PE X a ta) (hb:PE X b tb):PE X (.BinOp a op b pos) (tOp r ta tb):=by
 intro pins s σ H Q I h
 exact wpAny_BinOp (Zr ha hb I h fun v u s2 x y H2 I2 rx ry q=>ho pins s2 σ H2 x y v u Q I2 rx ry q)
theorem acV {op:UnaryOp}{r:V->Hp->VK->Prop} (ho:UnR X (unaryOp op) r) (ha:PE X a ta):PE X (.UnaryOp op a pos) (tUn r ta):=by
 intro pins s σ H Q I h
 exact UnaryOp_ (thn (ha pins s σ H _ I h) fun v s1 ⟨x,H1,I1,r1,q1⟩=>ho pins s1 σ H1 x v Q I1 r1 q1)
theorem opI {f:Value->Value->Sem Value}{C:Int->Int->Prop}{g:Int->Int->Int}
 (rule:∀(i j:Int) (t u:Tok) (s:Shared) (Q:Value->Shared->Prop) (E:Value->Shared->Prop),C i j->Q (.int (g i j) s.toks) {s with toks:=s.toks+1}->wpAny (model X.prog X.w) X.A (f (.int i t) (.int j u)) Q E s):
 OpR X f (rI C fun i j=> .int (g i j)):=by
 intro pins s σ H x y v u Q I rx ry h
 obtain⟨i,j,rfl,rfl,hc,q⟩:=h
 obtain⟨t,rfl⟩:=rx
 obtain⟨t',rfl⟩:=ry
 exact rule i j t t' s _ _ hc ⟨.int (g i j),H,I.tok _,⟨_,rfl⟩,q⟩
theorem acW {f:Value->Value->Sem Value}{g:Int->Int->Int}
 (rule:∀(i j:Int) (t u:Tok) (s:Shared) (Q:Value->Shared->Prop) (E:Value->Shared->Prop),Q (.int (g i j) s.toks) {s with toks:=s.toks+1}->wpAny (model X.prog X.w) X.A (f (.int i t) (.int j u)) Q E s):
 OpR X f (rI0 fun i j=> .int (g i j)):=by
 intro pins s σ H x y v u Q I rx ry h
 obtain⟨i,j,rfl,rfl,q⟩:=h
 obtain⟨t,rfl⟩:=rx
 obtain⟨t',rfl⟩:=ry
 exact rule i j t t' s _ _ ⟨.int (g i j),H,I.tok _,⟨_,rfl⟩,q⟩
theorem acX {f:Value->Value->Sem Value}{g:Int->Int->Bool}
 (rule:∀(i j:Int) (t u:Tok) (s:Shared) (Q:Value->Shared->Prop) (E:Value->Shared->Prop),Q (.bool (g i j)) s->wpAny (model X.prog X.w) X.A (f (.int i t) (.int j u)) Q E s):
 OpR X f (rI0 fun i j=> .bl (g i j)):=by
 intro pins s σ H x y v u Q I rx ry h
 obtain⟨i,j,rfl,rfl,q⟩:=h
 obtain⟨t,rfl⟩:=rx
 obtain⟨t',rfl⟩:=ry
 exact rule i j t t' s _ _ ⟨.bl (g i j),H,I,rfl,q⟩
def acY (i j:Int):Prop:=0<=j/\j<=1000000/\i.natAbs<2 ^ 64
inductive qp (i j:Int):Prop
 | inl (h: -(2 ^ 64)<i/\i<2 ^ 64)
 | inr (h: -(2 ^ 64)<j/\j<2 ^ 64)
 | big (h:IntMulOk i j)
theorem qp.ok {i j:Int} (h:qp i j):IntMulOk i j:=by
 cases h with
 | inl h=>exact IntMulOk.of_left (intBits_le_64 h.1 h.2)
 | inr h=>exact IntMulOk.of_right (intBits_le_64 h.1 h.2)
 | big h=>exact h
theorem Zt:OpR X (binaryOp .Add) (rI0 fun i j=> .int (i+j)):=acW fun _ _ _ _ _ _ _ q=>add_int q
theorem Zu:OpR X (binaryOp .Sub) (rI0 fun i j=> .int (i - j)):=acW fun _ _ _ _ _ _ _ q=>sub_int q
theorem Zv:OpR X (binaryOp .Mult) (rI qp fun i j=> .int (i * j)):=opI fun _ _ _ _ _ _ _ hc q=>mul_int q hc.ok
theorem Zw:OpR X (binaryOp .Mod) (rI (fun _ j=>0<j) fun i j=> .int (i % j)):=opI fun i j _ _ _ _ _ hc q=>by
 have h1:(0:Int)<j:=hc
 exact mod_int' (by omega) (by rw[Int.fmod_eq_emod_of_nonneg i (by omega)];exact q)
theorem Zx:OpR X (binaryOp .Pow) (rI acY fun i j=> .int (i ^ j.toNat)):=opI fun _ _ _ _ _ _ _ hc q=>pow_int_small hc.1 hc.2.1 hc.2.2 q
theorem unI {f:Value->Sem Value}{g:Int->Int}
 (rule:∀(i:Int) (t:Tok) (s:Shared) (Q:Value->Shared->Prop) (E:Value->Shared->Prop),Q (.int (g i) s.toks) {s with toks:=s.toks+1}->wpAny (model X.prog X.w) X.A (f (.int i t)) Q E s):
 UnR X f (rU fun i=> .int (g i)):=by
 intro pins s σ H x v Q I rx h
 obtain⟨i,rfl,q⟩:=h
 obtain⟨t,rfl⟩:=rx
 exact rule i t s _ _ ⟨.int (g i),H,I.tok _,⟨_,rfl⟩,q⟩
theorem Zy:UnR X (unaryOp .USub) (rU fun i=> .int (-i)):=unI fun _ _ _ _ _ q=>neg_int q
end
def acZ:V->V->Bool
 | .non, .non=>true | .non, .int _=>true | .int _, .non=>true | .non, .bl _=>true | .bl _, .non=>true | .non, .str _=>true | .str _, .non=>true
 | .int _, .int _=>true | .bl _, .bl _=>true | .str _, .str _=>true | .byt _, .byt _=>true
 | .int _, .str _=>true | .str _, .int _=>true | .bl _, .str _=>true | .str _, .bl _=>true
 | _,_=>false
def rEq:R2:=fun x y H Q=>acZ x y=true/\Q (.bl (decide (x=y))) H
def rNe:R2:=fun x y H Q=>acZ x y=true/\Q (.bl (!decide (x=y))) H
theorem NB {i j:Int}:decide (V.int i=V.int j)=(i==j):=by
 rw[Bool.eq_iff_iff]
 simp
theorem Rf {i j:Bool}:decide (V.bl i=V.bl j)=(i==j):=by
 rw[Bool.eq_iff_iff]
 simp
theorem NK {i j:Str}:decide (V.str i=V.str j)=(i==j):=by
 rw[Bool.eq_iff_iff]
 simp
theorem NP {i j:Array UInt8}:decide (V.byt i=V.byt j)=(i.toList==j.toList):=by
 rw[Bool.eq_iff_iff]
 cases i
 cases j
 simp
section
variable {X:Cx}{a b c:Expr}{ta tb tc:TE}{pos:Pos}
theorem dW {pins:List (Addr×Obj)}{σ:St}{H:Hp}{s:Shared}{Q:VK}{k k':Bool} (I:Inv X pins σ H s) (q:Q (.bl k) H) (e:k=k'):EP X pins σ Q (.bool k') s:=by
 subst e
 exact⟨.bl k,H,I,rfl,q⟩
theorem ac0:OpR X (compareOp .Eq) rEq:=by
 intro pins s σ H x y v u Q I rx ry h
 obtain⟨hs,q⟩:=h
 cases x with
 | non=>
   cases rx
   cases y with
   | non=>cases ry;exact PySem.EqNone.eq_none_none (dW I q (by simp))
   | bl j=>cases ry;exact PySem.EqNone.eq_none_bool (dW I q (by simp))
   | int j=>obtain⟨t',rfl⟩:=ry;exact PySem.EqNone.eq_none_int (dW I q (by simp))
   | str j=>obtain⟨t',rfl⟩:=ry;exact PySem.EqNone.eq_none_str (dW I q (by simp))
   | _=>exact absurd (show false=true from hs) Bool.false_ne_true
 | bl i=>
   cases rx
   cases y with
   | non=>cases ry;exact PySem.EqNone.eq_bool_none (dW I q (by simp))
   | bl j=>cases ry;exact eq_bool (dW I q Rf)
   | str j=>obtain⟨t',rfl⟩:=ry;exact PySem.EqMixed.eq_bool_str (dW I q (by simp))
   | _=>exact absurd (show false=true from hs) Bool.false_ne_true
 | int i=>
   obtain⟨t,rfl⟩:=rx
   cases y with
   | non=>cases ry;exact PySem.EqNone.eq_int_none (dW I q (by simp))
   | int j=>obtain⟨t',rfl⟩:=ry;exact eq_int (dW I q NB)
   | str j=>obtain⟨t',rfl⟩:=ry;exact PySem.EqMixed.eq_int_str (dW I q (by simp))
   | _=>exact absurd (show false=true from hs) Bool.false_ne_true
 | str i=>
   obtain⟨t,rfl⟩:=rx
   cases y with
   | non=>cases ry;exact PySem.EqNone.eq_str_none (dW I q (by simp))
   | bl j=>cases ry;exact PySem.EqMixed.eq_str_bool (dW I q (by simp))
   | int j=>obtain⟨t',rfl⟩:=ry;exact PySem.EqMixed.eq_str_int (dW I q (by simp))
   | str j=>obtain⟨t',rfl⟩:=ry;exact eq_str (dW I q NK)
   | _=>exact absurd (show false=true from hs) Bool.false_ne_true
 | byt i=>
   obtain⟨t,rfl⟩:=rx
   cases y with
   | byt j=>obtain⟨t',rfl⟩:=ry;exact PySem.W.eq_bytes (dW I q NP)
   | _=>exact absurd (show false=true from hs) Bool.false_ne_true
 | _=>cases y<;>exact absurd (show false=true from hs) Bool.false_ne_true
theorem ac1:OpR X (compareOp .NotEq) rNe:=by
 intro pins s σ H x y v u Q I rx ry h
 obtain⟨hs,q⟩:=h
 cases x with
 | non=>
   cases rx
   cases y with
   | non=>cases ry;exact PySem.EqNone.ne_none_none (dW I q (by simp))
   | bl j=>cases ry;exact PySem.EqNone.ne_none_bool (dW I q (by simp))
   | int j=>obtain⟨t',rfl⟩:=ry;exact PySem.EqNone.ne_none_int (dW I q (by simp))
   | str j=>obtain⟨t',rfl⟩:=ry;exact PySem.EqNone.ne_none_str (dW I q (by simp))
   | _=>exact absurd (show false=true from hs) Bool.false_ne_true
 | bl i=>
   cases rx
   cases y with
   | non=>cases ry;exact PySem.EqNone.ne_bool_none (dW I q (by simp))
   | bl j=>cases ry;exact ne_bool (dW I q (congrArg not Rf))
   | str j=>obtain⟨t',rfl⟩:=ry;exact PySem.EqMixed.ne_bool_str (dW I q (by simp))
   | _=>exact absurd (show false=true from hs) Bool.false_ne_true
 | int i=>
   obtain⟨t,rfl⟩:=rx
   cases y with
   | non=>cases ry;exact PySem.EqNone.ne_int_none (dW I q (by simp))
   | int j=>obtain⟨t',rfl⟩:=ry;exact ne_int (dW I q (congrArg not NB))
   | str j=>obtain⟨t',rfl⟩:=ry;exact PySem.EqMixed.ne_int_str (dW I q (by simp))
   | _=>exact absurd (show false=true from hs) Bool.false_ne_true
 | str i=>
   obtain⟨t,rfl⟩:=rx
   cases y with
   | non=>cases ry;exact PySem.EqNone.ne_str_none (dW I q (by simp))
   | bl j=>cases ry;exact PySem.EqMixed.ne_str_bool (dW I q (by simp))
   | int j=>obtain⟨t',rfl⟩:=ry;exact PySem.EqMixed.ne_str_int (dW I q (by simp))
   | str j=>obtain⟨t',rfl⟩:=ry;exact ne_str (dW I q (congrArg not NK))
   | _=>exact absurd (show false=true from hs) Bool.false_ne_true
 | byt i=>
   obtain⟨t,rfl⟩:=rx
   cases y with
   | byt j=>obtain⟨t',rfl⟩:=ry;exact PySem.W.ne_bytes (dW I q (congrArg not NP))
   | _=>exact absurd (show false=true from hs) Bool.false_ne_true
 | _=>cases y<;>exact absurd (show false=true from hs) Bool.false_ne_true
theorem ac2:OpR X (compareOp .Lt) (rI0 fun i j=> .bl (decide (i<j))):=acX fun _ _ _ _ _ _ _ q=>lt_int q
theorem ac3:OpR X (compareOp .Gt) (rI0 fun i j=> .bl (decide (j<i))):=acX fun _ _ _ _ _ _ _ q=>gt_int q
theorem Zz:OpR X (compareOp .Is) (fun x y H Q=>y= .non/\Q (.bl (decide (x= .non))) H):=by
 intro pins s σ H x y v u Q I rx ry h
 obtain⟨rfl,q⟩:=h
 cases ry
 refine is_none_gen (dW I q ?_)
 cases x<;>first
  | (cases rx;rfl)
  | (obtain⟨t,rfl⟩:=rx;rfl)
theorem U8:OpR X (compareOp .IsNot) (fun x y H Q=>y= .non/\Q (.bl (!decide (x= .non))) H):=by
 intro pins s σ H x y v u Q I rx ry h
 obtain⟨rfl,q⟩:=h
 cases ry
 refine isnot_none_gen (dW I q ?_)
 cases x<;>first
  | (cases rx;rfl)
  | (obtain⟨t,rfl⟩:=rx;rfl)
theorem ZC (b:Expr) {op:CmpOp} (h:op≠ .In:=by decide) (h2:op≠ .NotIn:=by decide):behindInMarks op b=false:=by
 have e1:(op==CmpOp.In)=false:=by cases op<;>first | rfl | exact absurd rfl h
 have e2:(op==CmpOp.NotIn)=false:=by cases op<;>first | rfl | exact absurd rfl h2
 cases b<;>simp[behindInMarks,e1,e2]
theorem U9 {op:CmpOp}{r:R2} (ho:OpR X (compareOp op) r) (ha:PE X a ta) (hb:PE X b tb) (hm:behindInMarks op b=false):PE X (.Compare a [op] [b] pos) (tOp r ta tb):=by
 intro pins s σ H Q I h
 exact wpAny_Compare1 (Zr ha hb I h fun v u s2 x y H2 I2 rx ry q=>ho pins s2 σ H2 x y v u Q I2 rx ry q) hm
def XJ (t:TE):TT:=fun σ H Q=>t σ H fun x H'=>∃k,x= .bl k/\Q k H'
theorem Va {op:CmpOp}{r:R2} (ho:OpR X (compareOp op) r) (ha:PE X a ta) (hb:PE X b tb) (hm:behindInMarks op b=false):PT X (.Compare a [op] [b] pos) (XJ (tOp r ta tb)):=by
 intro pins s σ H Q I h
 refine wpAny_isTrue_Compare1 (thn (ha pins s σ H _ I h) fun v s1 ⟨x,H1,I1,r1,q1⟩=>thn (hb pins s1 σ H1 _ I1 q1) fun u s2 ⟨y,H2,I2,r2,q2⟩=>
  thn (ho pins s2 σ H2 x y v u _ I2 r1 r2 q2) fun c s3 ⟨z,H3,I3,r3,k,e,q3⟩=> ?_) hm
 subst e
 cases r3
 exact wpAny_truthy_bool ⟨H3,I3,q3⟩
def ZD (K:PySem.W.Frag) (x:V) (H:Hp) (k:Bool):Prop:=
 match x with
 | .non=>k=false
 | .bl b=>k=b
 | .int i=>k=(i !=0)
 | .str y=>y.length<=sizeLine/\k=((y.length:Int) !=0)
 | .byt y=>y.size<=sizeLine/\k=((y.size:Int) !=0)
 | .ref p=>(∃xs,SqL K H p xs/\k= !xs.isEmpty)\/(∃xs,SqT K H p xs/\k= !xs.isEmpty)\/∃kvs,H p=some (.dK kvs)/\k= !kvs.isEmpty
 | _=>False
theorem Lz {κ:Type}{kvs:List (κ×V)}{vs:List (κ×Value)} (r:KV kvs vs):(!vs.isEmpty)= !kvs.isEmpty:=by
 cases r<;>rfl
theorem DY {xs:List V}{its:List Value} (r:Vals xs its):(!its.toArray.isEmpty)= !xs.isEmpty:=by
 cases r<;>simp
theorem Bl:(sizeLine:Nat)<2 ^ 63:=by rw[sizeLine_eq];decide
theorem ZF:agH X (fun x H Q=>∃k,ZD X.K x H k/\Q k H):=by
 intro pins s σ H x v Q I rx h
 obtain⟨k,e,q⟩:=h
 have hl:=Bl
 have hs:sizeLine=16777216:=sizeLine_eq
 cases x with
 | non=>
   cases rx
   have e':k=false:=e
   subst e'
   exact truthy_none ⟨H,I,q⟩
 | bl b=>
   cases rx
   have e':k=b:=e
   subst e'
   exact wpAny_truthy_bool ⟨H,I,q⟩
 | int i=>
   obtain⟨t,rfl⟩:=rx
   have e':k=(i !=0):=e
   subst e'
   exact PySem.P.truthy_int ⟨H,I,q⟩
 | str y=>
   obtain⟨t,rfl⟩:=rx
   obtain⟨hy,e'⟩:y.length<=sizeLine/\k=((y.length:Int) !=0):=e
   subst e'
   exact PySem.P.truthy_str (by omega) ⟨H,I.tok _,q⟩
 | byt y=>
   obtain⟨t,rfl⟩:=rx
   obtain⟨hy,e'⟩:y.size<=sizeLine/\k=((y.size:Int) !=0):=e
   subst e'
   exact PySem.W.truthy_bytes (by omega) ⟨H,I.tok _,q⟩
 | ref p=>
   cases rx
   have e':(∃xs,SqL X.K H p xs/\k= !xs.isEmpty)\/(∃xs,SqT X.K H p xs/\k= !xs.isEmpty)\/∃kvs,H p=some (.dK kvs)/\k= !kvs.isEmpty:=e
   rcases e' with⟨xs,hx,e'⟩ | ⟨xs,hx,e'⟩ | ⟨kvs,hx,e'⟩
   ·subst e'
    obtain⟨its,r,pl,hz⟩:=I.list hx
    have hlen:=r.length
    exact wpAny_truthy_list pl.isList (by simp only[List.size_toArray];omega) ⟨H,I.tok _,by rw[DY r];exact q⟩
   ·subst e'
    obtain⟨its,r,pl,hz⟩:=I.tuple hx
    have hlen:=r.length
    exact truthy_tuple pl (by simp only[List.size_toArray];omega) ⟨H,I.tok _,by rw[DY r];exact q⟩
   ·subst e'
    obtain⟨hz,hS,vs,r,m⟩:kvs.length<=sizeLine/\(p==sysModules)=false/\∃vs,KV kvs vs/\s.heap.DictOf (dR X.prog X.w) p vs:=I.hok p _ hx
    have hlen:kvs.length=vs.length:=Paired.length r
    exact wpAny_truthy_dict hS m (by omega) ⟨H,I.tok _,by rw[Lz r];exact q⟩
 | _=>exact(show False from e).elim
theorem Rg (ha:PE X a ta) (he:∀whole,isTrue a X.env whole=(do let v <-whole;standAt a.pos;holding [v] (truthy v))):
 PT X a (fun σ H Q=>ta σ H fun x H'=>∃k,ZD X.K x H' k/\Q k H'):=by
 intro pins s σ H Q I h
 exact isTrue_plain (thn (ha pins s σ H _ I h) fun v s1 ⟨x,H1,I1,r1,q1⟩=>ZF pins s1 σ H1 x v Q I1 r1 q1) (he _)
theorem vals1 {x:V}{us:List Value} (r:Vals [x] us):∃u,us=[u]/\RelV x u:=by
 cases r with
 | cons r1 r2=>cases r2;exact⟨_,rfl,r1⟩
theorem vals2 {x y:V}{us:List Value} (r:Vals [x,y] us):∃u w',us=[u,w']/\RelV x u/\RelV y w':=by
 cases r with
 | cons r1 r2=>
   cases r2 with
   | cons r3 r4=>cases r4;exact⟨_,_,rfl,r1,r3⟩
theorem Px (hc:X.calm=true):pM X (.builtin "max") (fun xs H Q=>∃i j,xs=[.int i, .int j]/\Q (.int (if j>i then j else i)) H):=by
 intro pins s σ H xs us Q I r h
 obtain⟨i,j,rfl,q⟩:=h
 obtain⟨u,w',rfl,⟨t,rfl⟩,⟨t',rfl⟩⟩:=vals2 r
 refine max_two_ints (I.ok.hd hc) fun h' tk k=>⟨_,H,I.kept k, ?_,q⟩
 by_cases hj:j>i
 ·rw[if_pos hj,if_pos hj];exact⟨_,rfl⟩
 ·rw[if_neg hj,if_neg hj];exact⟨_,rfl⟩
theorem Py (hc:X.calm=true):pM X (.builtin "min") (fun xs H Q=>∃i j,xs=[.int i, .int j]/\Q (.int (if j<i then j else i)) H):=by
 intro pins s σ H xs us Q I r h
 obtain⟨i,j,rfl,q⟩:=h
 obtain⟨u,w',rfl,⟨t,rfl⟩,⟨t',rfl⟩⟩:=vals2 r
 refine min_two_ints (I.ok.hd hc) fun h' tk k=>⟨_,H,I.kept k, ?_,q⟩
 by_cases hj:j<i
 ·rw[if_pos hj,if_pos hj];exact⟨_,rfl⟩
 ·rw[if_neg hj,if_neg hj];exact⟨_,rfl⟩
end
structure LC (h:Heap) (x dx C:Addr) (mA:Str->Option Value):Prop where
 obj:h.get? x=some (PySem.W.instObj C dx)
 ns:h.Ns1 dx mA
 ne:dx≠x
theorem Pz {h:Heap}{dx:Addr}{mA:Str->Option Value} (n:h.Ns1 dx mA):∃od,h.get? dx=some od/\∀name,PySem.W.lookIn name od=some (mA name):=by
 obtain⟨o,es,ep,ho,hd,hk,_,hm⟩:=n
 refine⟨o,ho,fun name=> ?_⟩
 have e:=hm name
 unfold nsFind findBy at e
 rw[<-Array.find?_toList] at e
 unfold PySem.W.lookIn
 rw[hd]
 dsimp only
 split
 ·rename_i y q
  rw[q] at e
  exact congrArg some e
 ·rename_i q
  rw[q] at e
  have a:es.toList.any (·.refKey)=false:=by
   rw[List.any_eq_false]
   intro y hy
   obtain⟨z,t,hkey⟩:=hk y (Array.mem_toList_iff.mp hy)
   simp[DictEntry.refKey,hkey]
  have a':¬es.toList.any (·.refKey)=true:=by rw[a];exact Bool.false_ne_true
  rw[if_neg a']
  exact congrArg some e
theorem LC.look {h:Heap}{x dx C:Addr}{mA:Str->Option Value} (I:LC h x dx C mA):∃od,PySem.W.InstAt h x (PySem.W.instObj C dx) C (some od)/\∀name,PySem.W.lookIn name od=some (mA name):=
 let ⟨od,ho,hl⟩:=Pz I.ns
 ⟨od,⟨I.obj,rfl,rfl,ho⟩,hl⟩
section
variable {prog:Program}{w:World}{A:Around}{E:Value->Shared->Prop}{s:Shared}{K:PySem.W.Frag}{x dx C f:Addr}{mA:Str->Option Value}{name:Str}{v:Value}
theorem get_map {expr:Bool}{Q:Value->Shared->Prop} (X:K.In s.heap) (I:LC s.heap x dx C mA) (hg:PySem.W.plainGet K C name=true) (hh:PySem.W.hasDictIn K C=true)
 (ha:PySem.W.findIn K (.ref C) name=some none) (hv:mA name=some v) (hv':PySem.W.handedIn v=true) (h:Q v {s with toks:=s.toks+1}):
 wpAny (model prog w) A (getAttr (.ref x) name expr) Q E s:=by
 obtain⟨od,J,hl⟩:=I.look
 exact PySem.W.get_value X J (PySem.W.plainGet_of hg).1 (PySem.W.findObj_own hh ha rfl (by rw[hl,hv])) hv' h
theorem Rh {pl:Sem Bool}{Q:Value×List Value->Shared->Prop} (X:K.In s.heap) (I:LC s.heap x dx C mA) (hg:PySem.W.plainGet K C name=true)
 (hf:PySem.W.findIn K (.ref C) name=some (some (.ref f))) (ht:PySem.W.isFn K (.ref f)=true) (hv:mA name=none) (h:Q (.ref f,[.ref x]) s):
 wpAny (model prog w) A (getMethod (.ref x) name pl) Q E s:=by
 obtain⟨od,J,hl⟩:=I.look
 exact PySem.W.method_fn X J (PySem.W.plainGet_of hg).1 (PySem.W.plainGet_of hg).2 hf (beq_iff_eq.mp ht) (by show(PySem.W.lookIn name od).map (·.isSome)=some false;rw[hl,hv];rfl) h
theorem Vb {ns:List Str}{Q:Unit->Shared->Prop} (X:K.In s.heap) (I:LC s.heap x dx C mA)
 (hs:PySem.W.findIn K (.ref C) "__setattr__"=some (some (.builtin "object.__setattr__"))) (hp:PySem.W.plainOver K C=true) (ht:PySem.W.takerIn K C name=some none) (hh:PySem.W.hasDictIn K C=true)
 (hw:PySem.Within mA ns) (hsz:ns.length<=sizeLine)
 (h:∀h',LC h' x dx C (fun y=>if y=name then some v else mA y)->Heap.SameBut dx s.heap h'->Q () {s with heap:=h',toks:=s.toks+2}):
 wpAny (model prog w) A (setAttr (.ref x) name v) Q E s:=by
 obtain⟨od,J,hl⟩:=I.look
 refine PySem.W.set_plain X J hs (PySem.W.osa_open (s:={s with toks:=s.toks+1}) (r:=none) X J hp ht fun b=> ?_)
 obtain⟨cd,hc,hd'⟩:=PySem.W.any_some hh
 have hx:s.heap.get? x=some ⟨.ref C,some dx, .plain, #[]⟩:=I.obj
 refine wpAny_bind (wpAny_pure (wpAny_bind (wpAny_bind (wpAny_loadPart hx (wpAny_bind (PySem.W.Looks.here (s:={s with toks:=s.toks+1}) (PySem.W.looks_clsIn X hc) ?_))))))
 rw[hd']
 refine wpAny_pure (a:=some dx) (wpAny_bind (wpAny_pure (wpAny_bind ?_)))
 refine wpAny_nsSet1 (s:={s with toks:=s.toks+1}) I.ns fun h' hn2 hs2=> ?_
 obtain⟨oD,esD,epD,hoD,hdD,hcD⟩:=hn2.count (PySem.Within.cons name v hw)
 refine wpAny_bind (wpAny_lookBehind hoD (by rw[hdD];exact pastItsLine_dict (Nat.le_trans hcD (by rw[List.length_cons];omega))) ?_)
 exact wpAny_pure (h _ ⟨(hs2.2 _ (Ne.symm I.ne)).trans I.obj,hn2,I.ne⟩ hs2)
theorem Ri {R:Result->Shared->Prop}{vs:List Value}{kw:List (Str×Value)} (X:K.In s.heap) (hm:PySem.W.makesIn K C=true)
 (hi:PySem.W.findIn K (.ref C) "__init__"=some (some (.ref f))) (hf:PySem.W.typeIn K (.ref f)=some (.type "function"))
 (h:codeAny (model prog w) (A.under (.builtin "type.__call__" ⟨.ref C::vs,kw⟩)) (.call (.ref f) ⟨.ref (s.heap.objs.size+1)::vs,kw⟩) (PySem.W.InitBack (s.heap.objs.size+1) R)
   {s with heap:=(s.heap.push PySem.W.emptyDict).push (PySem.W.instObj C s.heap.objs.size)}):
 codeAny (model prog w) A (.call (.ref C) ⟨vs,kw⟩) R s:=by
 obtain⟨hh,g,d,t,os⟩:=s
 exact PySem.W.make_core (PySem.W.makes_of X hm) (PySem.W.looks_findIn X hi) (fun self=>PySem.W.bind_fn X self hf) (.inl rfl) h
end
def aP (f:Str) (v:V):List (Str×V)->List (Str×V)
 |[]=>[(f,v)]
 | (g,x)::r=>if g=f then(g,v)::r else(g,x)::aP f v r
theorem CJ (f g:Str) (v:V):∀fs:List (Str×V),(aP f v fs).lookup g=if g=f then some v else fs.lookup g
 |[]=>by
  show List.lookup g [(f,v)]=_
  by_cases h:g=f
  ·have hb:(g==f)=true:=beq_iff_eq.mpr h
   simp only[List.lookup,hb,if_pos h]
  ·have hb:(g==f)=false:=beq_eq_false_iff_ne.mpr h
   simp only[List.lookup,hb,if_neg h]
 | (k,x)::r=>by
   have ih:=CJ f g v r
   rw[show aP f v ((k,x)::r)=(if k=f then(k,v)::r else(k,x)::aP f v r) from rfl]
   by_cases hk:k=f
   ·rw[if_pos hk]
    by_cases h:g=k
    ·have hb:(g==k)=true:=beq_iff_eq.mpr h
     simp only[List.lookup,hb,if_pos (h.trans hk)]
    ·have hb:(g==k)=false:=beq_eq_false_iff_ne.mpr h
     simp only[List.lookup,hb,if_neg (fun e:g=f=>h (e.trans hk.symm))]
   ·rw[if_neg hk]
    by_cases h:g=k
    ·have hb:(g==k)=true:=beq_iff_eq.mpr h
     simp only[List.lookup,hb,if_neg (fun e:g=f=>hk (h.symm.trans e))]
    ·have hb:(g==k)=false:=beq_eq_false_iff_ne.mpr h
     simp only[List.lookup,hb]
     exact ih
theorem Bm (f:Str) (v:V):∀fs:List (Str×V),f∈(aP f v fs).map (·.1)/\∀g,g∈fs.map (·.1)->g∈(aP f v fs).map (·.1)
 |[]=>⟨by simp[aP],fun g h=>by simp at h⟩
 | (k,x)::r=>by
   obtain⟨i1,i2⟩:=Bm f v r
   rw[show aP f v ((k,x)::r)=(if k=f then(k,v)::r else(k,x)::aP f v r) from rfl]
   by_cases hk:k=f
   ·rw[if_pos hk]
    subst hk
    exact⟨by simp,fun g h=>by simpa using h⟩
   ·rw[if_neg hk]
    refine⟨?_,fun g h=> ?_⟩
    ·rw[List.map_cons]
     exact List.mem_cons_of_mem _ i1
    ·rw[List.map_cons] at h ⊢
     rcases List.mem_cons.mp h with e | e
     ·exact List.mem_cons.mpr (.inl e)
     ·exact List.mem_cons_of_mem _ (i2 g e)
theorem CP (f:Str) (v:V):∀fs:List (Str×V),(aP f v fs).length<=fs.length+1
 |[]=>by simp[aP]
 | (k,x)::r=>by
   have ih:=CP f v r
   rw[show aP f v ((k,x)::r)=(if k=f then(k,v)::r else(k,x)::aP f v r) from rfl]
   by_cases hk:k=f
   ·rw[if_pos hk,List.length_cons,List.length_cons];omega
   ·rw[if_neg hk,List.length_cons,List.length_cons];omega
theorem u6.some_of {v:V}{o:Option Value} (r:u6 (some v) o):∃u,o=some u/\RelV v u:=by
 cases o with
 | none=>exact(show False from r).elim
 | some u=>exact⟨u,rfl,r⟩
theorem u6.none_of {o:Option Value} (r:u6 none o):o=none:=by
 cases o with
 | none=>rfl
 | some u=>exact(show False from r).elim
theorem PB {v:V}{u:Value} (r:RelV v u):PySem.W.handedIn u=true:=by
 cases v with
 | non=>cases(show u=Value.none from r);rfl
 | bl b=>cases(show u=Value.bool b from r);rfl
 | int i=>obtain⟨t,e⟩:=(show∃t,u=Value.int i t from r);cases e;rfl
 | str x=>obtain⟨t,e⟩:=(show∃t,u=Value.str x t from r);cases e;rfl
 | byt b=>obtain⟨t,e⟩:=(show∃t,u=Value.bytes b t from r);cases e;rfl
 | flt b=>obtain⟨t,e⟩:=(show∃t,u=Value.float b t from r);cases e;rfl
 | ref a=>cases(show u=Value.ref a from r);rfl
 | ty n=>cases(show u=Value.type n from r);rfl
section
variable {P:Program}{w:World}{H H':Hp}{h h':Heap}{a C dx:Addr}{fs fs':List (Str×V)}
theorem Dy (hok:HOk P w H h) (e:H a=some (.ins C dx fs)):∃mA,LC h a dx C mA/\(∀f,u6 (fs.lookup f) (mA f))/\PySem.Within mA (fs.map (·.1))/\fs.length<=1000/\H dx=some (.own a):=by
 obtain⟨d,z,ne,ob,mA,n,r,q⟩:=(show eF P w H h a (.ins C dx fs) from hok a _ e)
 exact⟨mA,⟨ob,n,ne⟩,r,q,z,d⟩
end
structure Cls (K:PySem.W.Frag) (C:Addr):Prop where
 pg:PySem.W.plainGet K C Str.empty=true
 hd:PySem.W.hasDictIn K C=true
 po:PySem.W.plainOver K C=true
 sa:PySem.W.findIn K (.ref C) "__setattr__"=some (some (.builtin "object.__setattr__"))
theorem Cls.get {K:PySem.W.Frag}{C:Addr} (c:Cls K C) (f:Str):PySem.W.plainGet K C f=true:=c.pg
def iV (K:PySem.W.Frag) (C:Addr) (f:Str):Prop:=PySem.W.findIn K (.ref C) f=some none
theorem iV.taker {K:PySem.W.Frag}{C:Addr}{f:Str} (n:iV K C f):PySem.W.takerIn K C f=some none:=by
 unfold PySem.W.takerIn
 rw[show PySem.W.findIn K (.ref C) f=some none from n]
 rfl
structure Meth (K:PySem.W.Frag) (C:Addr) (m:Str) (f:Addr):Prop where
 at_:PySem.W.findIn K (.ref C) m=some (some (.ref f))
 fn:PySem.W.isFn K (.ref f)=true
 kp:PySem.W.keepIn K (.ref f)=true
section
variable {X:Cx}{pins:List (Addr×Obj)}{σ:St}{H:Hp}{s:Shared}{a C dx:Addr}{fs:List (Str×V)}{f:Str}{v:V}{A:Around}{E:Value->Shared->Prop}
theorem LK {b:Bool}{Q:Value->Shared->Prop} (I:Inv X pins σ H s) (e:H a=some (.ins C dx fs)) (c:Cls X.K C) (n:iV X.K C f) (l:fs.lookup f=some v)
 (h:∀u s',Inv X pins σ H s'->RelV v u->Q u s'):wpAny (model X.prog X.w) A (getAttr (.ref a) f b) Q E s:=by
 obtain⟨mA,O,r,_,_,_⟩:=Dy I.hok e
 obtain⟨u,hu,ru⟩:=u6.some_of (v:=v) (o:=mA f) (by rw[<-l];exact r f)
 exact get_map I.kIn O (c.get f) c.hd n hu (PB ru) (h u _ (I.tok _) ru)
theorem Ea {m:Str}{g:Addr}{pl:Sem Bool}{Q:Value×List Value->Shared->Prop} (I:Inv X pins σ H s) (e:H a=some (.ins C dx fs)) (c:Cls X.K C) (k:Meth X.K C m g) (l:fs.lookup m=none)
 (h:Q (.ref g,[.ref a]) s):wpAny (model X.prog X.w) A (getMethod (.ref a) m pl) Q E s:=by
 obtain⟨mA,O,r,_,_,_⟩:=Dy I.hok e
 have hn:mA m=none:=u6.none_of (by rw[<-l];exact r m)
 exact Rh I.kIn O (c.get m) k.at_ k.fn hn h
theorem LQ {y:V}{u:Value}{Q:Unit->Shared->Prop} (I:Inv X pins σ H s) (e:H a=some (.ins C dx fs)) (c:Cls X.K C) (n:iV X.K C f) (hl:fs.length<1000) (ry:RelV y u)
 (h:∀s',Inv X pins σ (upd H a (.ins C dx (aP f y fs))) s'->Q () s'):wpAny (model X.prog X.w) A (setAttr (.ref a) f u) Q E s:=by
 obtain⟨mA,O,r,wi,_,ho⟩:=Dy I.hok e
 have hz:(fs.map (·.1)).length<=sizeLine:=by rw[List.length_map,sizeLine_eq];omega
 refine Vb I.kIn O c.sa c.po n.taker c.hd wi hz fun h' O' sb=>h _ ?_
 have hd:∃o,h'.get? dx=some o:=let ⟨o,_,_,e',_⟩:=O'.ns;⟨o,e'⟩
 refine I.write (x:=a) (e:=dx) (by rw[e];exact True.intro) (.inr ho) (fun b q hb z=>(sb.2 b hb).trans z) hd ?_
 refine⟨by rw[ao O.ne];exact ho, ?_,O.ne,O'.obj,_,O'.ns,fun g=> ?_,fun g hg=> ?_⟩
 ·have:=CP f y fs;omega
 ·show u6 ((aP f y fs).lookup g) (if g=f then some u else mA g)
  rw[CJ]
  by_cases q:g=f
  ·rw[if_pos q,if_pos q];exact ry
  ·rw[if_neg q,if_neg q];exact r g
 ·by_cases q:g=f
  ·rw[q];exact(Bm f y fs).1
  ·refine(Bm f y fs).2 g (wi g fun z=>hg ?_)
   show(if g=f then some u else mA g)=none
   rw[if_neg q];exact z
theorem Inv.made (I:Inv X pins σ H s):Inv X pins σ (upd (upd H s.heap.objs.size (.own (s.heap.objs.size+1))) (s.heap.objs.size+1) (.ins C s.heap.objs.size []))
 {s with heap:=(s.heap.push PySem.W.emptyDict).push (PySem.W.instObj C s.heap.objs.size)}:=by
 have e1:(s.heap.push PySem.W.emptyDict).get? s.heap.objs.size=some PySem.W.emptyDict:=Heap.get?_push_size s.heap rfl
 have e2:((s.heap.push PySem.W.emptyDict).push (PySem.W.instObj C s.heap.objs.size)).get? (s.heap.objs.size+1)=some (PySem.W.instObj C s.heap.objs.size):=by
  have:=Heap.get?_push_size (s.heap.push PySem.W.emptyDict) (o:=PySem.W.instObj C s.heap.objs.size) rfl
  rwa [Heap.size_push] at this
 have e3:(s.heap.push PySem.W.emptyDict).Ns s.heap.objs.size (fun _=>none):=⟨PySem.W.emptyDict, #[],_,e1,rfl,(fun e he=>absurd he (by simp)),fun _=>rfl⟩
 have I1:=I.laid (a:=s.heap.objs.size) (o:= .own (s.heap.objs.size+1)) (h':=s.heap.push PySem.W.emptyDict) (t':=s.toks) (fun b u q=>Heap.get?_push_of_some _ q) (Nat.le_refl _) ⟨_,e1⟩
 refine I1.laid (a:=s.heap.objs.size+1) (o:= .ins C s.heap.objs.size []) (t':=s.toks) (fun b u q=>Heap.get?_push_of_some _ q) (Nat.le_of_eq (Heap.size_push _ _)) ?_
 have ne:s.heap.objs.size≠s.heap.objs.size+1:=Nat.ne_of_lt (Nat.lt_succ_self _)
 refine⟨by rw[ao ne,ak],Nat.zero_le _,ne,e2,fun _=>none,(Heap.Ns1.of_empty e3).at fun o q=>Heap.get?_push_of_some _ q,fun _=>True.intro,fun y hy=>absurd rfl hy⟩
theorem Vc {prog:Program}{w:World}{env:Env}{e:Expr}{f:Str}{pos:Pos}{s:Shared}{Q:Value->Shared->Prop} (hb:attributeBase e f env (eval e env)=eval e env)
 (h:wpAny (model prog w) A (eval e env) (fun o s₁=>wpAny (model prog w) A (getAttr o f true) Q E s₁) E s):wpAny (model prog w) A (eval (.Attribute e f pos) env) Q E s:=
 Attribute_any_ h (by rw[arm_eval_Attribute,hb])
end
def ZG (K:PySem.W.Frag) (ta:TE) (f:Str):TE:=fun σ H Q=>ta σ H fun x H1=>∃a C dx fs v,x= .ref a/\H1 a=some (.ins C dx fs)/\Cls K C/\iV K C f/\fs.lookup f=some v/\Q v H1
def ac4 (K:PySem.W.Frag) (ta tv:TE) (f:Str):TS:=fun D σ H=>tv σ H fun y H1=>ta σ H1 fun x H2=>∃a C dx fs,x= .ref a/\H2 a=some (.ins C dx fs)/\Cls K C/\iV K C f/\fs.length<1000/\
 D.nx σ (upd H2 a (.ins C dx (aP f y fs)))
section
variable {X:Cx}{o e value:Expr}{f:Str}{pos pos' tpos:Pos}{ta tv:TE}
theorem ZJ (he:PE X e ta) (hb:attributeBase e f X.env (eval e X.env)=eval e X.env):PE X (.Attribute e f pos) (ZG X.K ta f):=by
 intro pins s σ H Q I h
 refine Vc hb (thn (he pins s σ H _ I h) fun u s1 ⟨x,H1,I1,rx,a,C,dx,fs,v,ex,ea,c,n,l,q⟩=> ?_)
 subst ex
 obtain rfl:u=Value.ref a:=rx
 exact LK I1 ea c n l fun u' s2 I2 ru=>⟨v,H1,I2,ru,q⟩
theorem ZK (ha:PE X o ta) (hv:PE X value tv) (hs:swapsWith value (some (.Attribute o f pos')) pos.line X.env=pure false):PS X (.Assign [.Attribute o f pos'] value pos) (ac4 X.K ta tv f):=by
 intro pins s σ H D I h
 refine plainObj_wpAny_Assign_Attribute (thn (hv pins s σ H _ I h) fun u s1 ⟨y,H1,I1,ry,q⟩=>thn (ha pins s1 σ H1 _ I1 q) fun ov s2 ⟨x,H2,I2,rx,a,C,dx,fs,ex,ea,c,n,l,q2⟩=> ?_) hs
 subst ex
 obtain rfl:ov=Value.ref a:=rx
 exact LQ I2 ea c n l ry fun s3 I3=>⟨σ,_,I3,q2⟩
end
section
variable {X:Cx}{pins:List (Addr×Obj)}{σ:St}{H:Hp}{s:Shared}{A:Around}{E:Value->Shared->Prop}{Q:Value->Shared->Prop}{c:Value}{b:Bool}
inductive qI (K:PySem.W.Frag) (H:Hp):V->Value->Prop where
 | non:qI K H .non (.type "NoneType")
 | bl (x:Bool):qI K H (.bl x) (.type "bool")
 | int (i:Int):qI K H (.int i) (.type "int")
 | str (x:Str):qI K H (.str x) (.type "str")
 | flt (x:UInt64):qI K H (.flt x) (.type "float")
 | lst {a:Addr}{xs:List V} (e:H a=some (.lst xs)):qI K H (.ref a) (.type "list")
 | frz {a:Addr}{o:Obj}{xs:List V} (e:H a=some (.frz o (.lst xs))):qI K H (.ref a) (.type "list")
 | tup {a:Addr}{xs:List V} (e:H a=some (.tup xs)):qI K H (.ref a) (.type "tuple")
 | dK {a:Addr}{kvs:List (Key×V)} (e:H a=some (.dK kvs)):qI K H (.ref a) (.type "dict")
 | dT {a:Addr}{kvs:List (List Key×V)} (e:H a=some (.dT kvs)):qI K H (.ref a) (.type "dict")
 | ins {a C dx:Addr}{fs:List (Str×V)} (e:H a=some (.ins C dx fs)) (cl:Cls K C) (ha:PySem.W.findIn K (.ref C) "__class__"=some (some (.builtin "object.__class__")))
    (hn:PySem.W.specialIn K (.builtin "object.__class__") "__get__"=some (some (.builtin "getset_descriptor.__get__"))) (htk:PySem.W.takesIn K (.builtin "object.__class__")=some true)
    (hm:PySem.W.mroIn K C (.type "object")=some true):qI K H (.ref a) (.ref C)
theorem PJ {x:V}{u t:Value} (I:Inv X pins σ H s) (rx:RelV x u) (ty:qI X.K H x t) (e:PySem.W.kitOne X.K t c=some b) (h:∀tk,Q (.bool b) {s with toks:=tk}):
 wpAny (model X.prog X.w) A (call (.builtin "isinstance") [u,c]) Q E s:=by
 cases ty with
 | non=>cases(show u=Value.none from rx);exact PySem.W.kia_one PySem.W.kitx_none I.kIn True.intro e (fun z=>nomatch z) h
 | bl y=>cases(show u=Value.bool y from rx);exact PySem.W.kia_one PySem.W.kitx_bool I.kIn True.intro e (fun z=>nomatch z) h
 | int i=>obtain⟨t,q⟩:=(show∃t,u=Value.int i t from rx);cases q;exact PySem.W.kia_one PySem.W.kitx_int I.kIn True.intro e (fun z=>nomatch z) h
 | str y=>obtain⟨t,q⟩:=(show∃t,u=Value.str y t from rx);cases q;exact PySem.W.kia_one PySem.W.kitx_str I.kIn True.intro e (fun z=>nomatch z) h
 | flt y=>obtain⟨t,q⟩:=(show∃t,u=Value.float y t from rx);cases q;exact PySem.W.kia_one PySem.W.kitx_float I.kIn True.intro e (fun z=>nomatch z) h
 | @lst a xs ea=>
   cases(show u=Value.ref a from rx)
   obtain⟨_,_,n,_,h1⟩:=(show eF X.prog X.w H s.heap a (.lst xs) from I.hok a _ ea)
   exact PySem.W.kia_one PySem.W.kitx_list I.kIn ⟨_,h1,rfl⟩ e (fun z=>nomatch z) h
 | @frz a ob xs ea=>
   cases(show u=Value.ref a from rx)
   obtain⟨_,_,_,n,_,h1⟩:=(show eF X.prog X.w H s.heap a (.frz ob (.lst xs)) from I.hok a _ ea)
   exact PySem.W.kia_one PySem.W.kitx_list I.kIn ⟨_,h1,rfl⟩ e (fun z=>nomatch z) h
 | @tup a xs ea=>
   cases(show u=Value.ref a from rx)
   obtain⟨_,_,_,p⟩:=(show eF X.prog X.w H s.heap a (.tup xs) from I.hok a _ ea)
   obtain⟨o,h1,h2,_⟩:=p
   exact PySem.W.kia_one PySem.W.kitx_tuple I.kIn ⟨o,h1,h2⟩ e (fun z=>nomatch z) h
 | @dK a kvs ea=>
   cases(show u=Value.ref a from rx)
   obtain⟨_,_,vs,_,p⟩:=(show eF X.prog X.w H s.heap a (.dK kvs) from I.hok a _ ea)
   obtain⟨o,es,ep,h1,h2,_⟩:=p
   exact PySem.W.kia_one PySem.W.kitx_dict I.kIn ⟨o,h1,h2.1⟩ e (fun z=>nomatch z) h
 | @dT a kvs ea=>
   cases(show u=Value.ref a from rx)
   obtain⟨_,_,xs,_,o,es,ep,h1,h2,_⟩:=(show eF X.prog X.w H s.heap a (.dT kvs) from I.hok a _ ea)
   exact PySem.W.kia_one PySem.W.kitx_dict I.kIn ⟨o,h1,h2.1⟩ e (fun z=>nomatch z) h
 | @ins a C dx fs ea cl ha hn htk hm=>
   cases(show u=Value.ref a from rx)
   obtain⟨mA,O,_⟩:=Dy I.hok ea
   obtain⟨od,J,_⟩:=O.look
   exact PySem.W.kia_one (PySem.W.kitx_own (cl.get _) cl.hd ha hn htk hm) I.kIn J e (fun z=>nomatch z) h
end
structure jB (k:Nat) (A:Around):Prop where
 hd:A.handled=none
 dp:A.depth+3 * k+5<recursionLimit
 un:A.units+16 * k+200<cLine
theorem jB.mono {j k:Nat}{A:Around} (r:jB k A) (h:j<=k):jB j A:=⟨r.hd,by have:=r.dp;omega,by have:=r.un;omega⟩
theorem jB.deeper {k:Nat}{A:Around} (r:jB (k+1) A) (env:Env):jB k (A.deeper env):=
 ⟨r.hd,by have:=r.dp;show A.depth+1+3 * k+5<_;omega,by have:=r.un;show A.units+3+16 * k+200<_;omega⟩
theorem LR {A:Around}{C:Addr}{us:List Value}{kw:List (Str×Value)}:(A.under (.builtin "type.__call__" ⟨.ref C::us,kw⟩)).depth=A.depth+1:=by
 first | rfl | simp[Around.under,Code.weight,Code.isCreation,Code.isGuard,Code.isCaller,Code.frames,Code.isFrame,guardIds]
theorem Ma {A:Around}{C:Addr}{us:List Value}{kw:List (Str×Value)}:(A.under (.builtin "type.__call__" ⟨.ref C::us,kw⟩)).units=A.units+1:=by
 first | rfl | simp[Around.under,Code.cUnits,Code.frames,Code.isFrame]
theorem jB.make {k:Nat}{A:Around} (r:jB (k+1) A) (C:Addr) (us:List Value) (kw:List (Str×Value)):jB k (A.under (.builtin "type.__call__" ⟨.ref C::us,kw⟩)):=
 ⟨r.hd,by have:=r.dp;rw[LR];omega,by have:=r.un;rw[Ma];omega⟩
theorem jB.depth {k:Nat}{A:Around} (r:jB k A):A.depth<recursionLimit:=by have:=r.dp;omega
theorem jB.units {k:Nat}{A:Around} (r:jB k A):A.units+64<cLine:=by have:=r.un;omega
def PK:TA:=fun _ H Q=>Q [] H
def rM (ta:TE) (tr:TA):TA:=fun σ H Q=>ta σ H fun x H1=>tr σ H1 fun xs H2=>Q (x::xs) H2
section
variable {X:Cx}{e:Expr}{es:List Expr}{te:TE}{t:TA}{pos:Pos}
theorem ZL:PA X [] PK:=fun _ _ _ _ H Q I h=>Calls.spliced_nil ⟨[],H,I, .nil,h⟩
theorem Vd (ha:PE X e te) (hr:PA X es t) (hs:starEach (e::es) X.env=(false,eval e X.env)::starEach es X.env:=by rfl):PA X (e::es) (rM te t):=by
 intro pos pins s σ H Q I h
 rw[hs]
 show wpAny _ _ (spliced ((false,eval e X.env)::backTo pos (starEach es X.env))) _ _ s
 refine Calls.spliced_cons (thn (ha pins s σ H _ I h) fun u s1 ⟨x,H1,I1,r1,q1⟩=> ?_)
 exact thn (hr pos pins s1 σ H1 _ I1 q1) fun us s2 ⟨xs,H2,I2,r2,q2⟩=>⟨x::xs,H2,I2, .cons r1 r2,q2⟩
def ac5 (t:TA):TE:=fun σ H Q=>t σ H fun xs H1=>xs.length<=sizeLine/\∀p,H1 p=none->Q (.ref p) (upd H1 p (.tup xs))
def ac6 (t:TA):TE:=fun σ H Q=>t σ H fun xs H1=>xs.length<=sizeLine/\∀p,H1 p=none->Q (.ref p) (upd H1 p (.lst xs))
theorem ZM {x1} (h:PA X es t):PE X (.Tuple es x1 pos) (ac5 t):=by
 intro pins s σ H Q I hq
 refine wpAny_Tuple_spliced (thn (h pos pins s σ H _ I hq) fun us s1 ⟨xs,H1,I1,r,z,q⟩=>⟨by rw[<-r.length];exact z, ?_⟩)
 have hf:H1 s1.heap.objs.size=none:=I1.hok.fresh (Nat.le_refl _)
 refine⟨.ref s1.heap.objs.size,upd H1 s1.heap.objs.size (.tup xs),I1.laid (t':=s1.toks) (fun b u e=>Heap.get?_push_of_some _ e) (Nat.le_refl _) ?_,rfl,q _ hf⟩
 exact⟨z,us,r,⟨_,Heap.get?_push_size _ rfl,rfl,_,rfl⟩⟩
theorem ZP (h:PA X es t):PE X (.List es pos) (ac6 t):=by
 intro pins s σ H Q I hq
 refine wpAny_List_spliced (thn (h pos pins s σ H _ I hq) fun us s1 ⟨xs,H1,I1,r,z,q⟩=>⟨by rw[<-r.length];exact z, ?_⟩)
 have hf:H1 s1.heap.objs.size=none:=I1.hok.fresh (Nat.le_refl _)
 refine⟨.ref s1.heap.objs.size,upd H1 s1.heap.objs.size (.lst xs),I1.laid (t':=s1.toks) (fun b u e=>Heap.get?_push_of_some _ e) (Nat.le_refl _) ?_,rfl,q _ hf⟩
 exact⟨z,us,0,r,Heap.get?_push_size _ rfl⟩
end
abbrev Sp:=List V->Hp->VK->XK->Prop
abbrev CXT:=List Env->Hp->Shared->XK->Value->Shared->Prop
structure Mf (P:Program) (w:World) (K:PySem.W.Frag) (mg:Str->Option Value) (base:Heap) (A:Around) (outer:List Env) (s:Shared) (H:Hp):Prop where
 frames:A.frames=some outer
 mod:Mod K mg base
 bs:∀b o,base.get? b=some o->s.heap.get? b=some o/\H b=none
 bsz:base.objs.size<=s.heap.objs.size
 funs:s.heap.FunFrames base outer
 frf:∀b∈frs outer,H b=none
 hok:HOk P w H s.heap
 bare:AllBare s.gens
def CE (outer:List Env) (P:Program) (w:World) (H:Hp) (s:Shared) (Q:VK) (u:Value) (s':Shared):Prop:=
 ∃v H',s'.os=s.os/\AllBare s'.gens/\Un (frs outer) [] H H' s.heap s'.heap/\HOk P w H' s'.heap/\RelV v u/\Q v H'
def CR (CX:CXT) (outer:List Env) (P:Program) (w:World) (H:Hp) (s:Shared) (Q:VK) (E:XK) (r:Result) (s':Shared):Prop:=
 match r with
 | .ok (.ret u)=>CE outer P w H s Q u s'
 | .ok _=>False
 | .error e=>CX outer H s E e s'
structure aX (P:Program) (w:World) (K:PySem.W.Frag) (mg:Str->Option Value) (base:Heap) (CX:CXT) (k:Nat) (f:Addr) (fd:FuncData) (ps:List Str) (sp:Sp):Prop where
 len:∀vs H Q E,sp vs H Q E->vs.length=ps.length
 run:∀(A:Around) (outer:List Env) (s:Shared) (H:Hp) (args:Args) (us:List Value) (vs:List V) (Q:VK) (E:XK),jB k A->Mf P w K mg base A outer s H->BindsTo s fd args (ps.zip us)->Vals vs us->sp vs H Q E->
  codeAny (model P w) A (.call (.ref f) args) (CR CX outer P w H s Q E) s
theorem aX.mono {P:Program}{w:World}{K:PySem.W.Frag}{mg:Str->Option Value}{base:Heap}{CX:CXT}{j k:Nat}{f:Addr}{fd:FuncData}{ps:List Str}{sp:Sp} (F:aX P w K mg base CX j f fd ps sp) (h:j<=k):
 aX P w K mg base CX k f fd ps sp:=⟨F.len,fun A outer s H args us vs Q E hr=>F.run A outer s H args us vs Q E (hr.mono h)⟩
theorem aX.imp {P:Program}{w:World}{K:PySem.W.Frag}{mg:Str->Option Value}{base:Heap}{CX:CXT}{k:Nat}{f:Addr}{fd:FuncData}{ps:List Str}{sp sp':Sp} (F:aX P w K mg base CX k f fd ps sp)
 (h:∀vs H Q E,sp' vs H Q E->sp vs H Q E):aX P w K mg base CX k f fd ps sp':=
 ⟨fun vs H Q E q=>F.len vs H Q E (h _ _ _ _ q),fun A outer s H args us vs Q E hr he hb hv hs=>F.run A outer s H args us vs Q E hr he hb hv (h _ _ _ _ hs)⟩
theorem Mf.make {P:Program}{w:World}{K:PySem.W.Frag}{mg:Str->Option Value}{base:Heap}{A:Around}{outer:List Env}{s:Shared}{H:Hp} (e:Mf P w K mg base A outer s H) (C:Addr) (us:List Value) (kw:List (Str×Value)):
 Mf P w K mg base (A.under (.builtin "type.__call__" ⟨.ref C::us,kw⟩)) outer s H:=⟨by first | exact e.frames | (simpa [Around.under,Code.envs,Code.isFrame,pushEnvs] using e.frames),e.mod,e.bs,e.bsz,e.funs,e.frf,e.hok,e.bare⟩
section
variable {X:Cx}{pins:List (Addr×Obj)}{σ:St}{H:Hp}{s s':Shared}
theorem Inv.env0 (I:Inv X pins σ H s):Mf X.prog X.w X.K X.mg X.base X.A X.stack s H:=
 ⟨I.ok.frames,I.ok.mod,I.bs,Nat.le_trans I.ok.bsz I.sz,I.stack,I.Ie,I.hok,I.bare⟩
theorem Inv.after {Q:VK}{u:Value} (I:Inv X pins σ H s) (h:CE X.stack X.prog X.w H s Q u s'):EP X pins σ Q u s':=by
 obtain⟨v,H',os,bare,un,hok,r,q⟩:=h
 obtain⟨hh,g,d,t,os'⟩:=s'
 obtain rfl:os'=s.os:=os
 exact⟨v,H',I.call (h':=hh) (g':=g) (d':=d) (t':=t) (ch:=[]) un hok bare (fun b z=>absurd z (by simp)),r,q⟩
end
def NQ (sp:Sp) (dvs:List V) (E:XK) (t:TA):TE:=fun σ H Q=>t σ H fun vs H1=>sp (vs++dvs) H1 Q E
def NT (C:Addr) (m:Str) (sp:Sp) (dvs:List V) (E:XK) (ta:TE) (t:TA):TE:=fun σ H Q=>ta σ H fun x H1=>∃a dx fs,x= .ref a/\H1 a=some (.ins C dx fs)/\fs.lookup m=none/\
 t σ H1 fun vs H2=>sp (x::(vs++dvs)) H2 Q E
def XM (C:Addr) (sp:Sp) (dvs:List V) (E:XK) (t:TA):TE:=fun σ H Q=>t σ H fun vs H1=>∀x dx,H1 x=none->H1 dx=none->dx≠x->
 sp (.ref x::(vs++dvs)) (upd (upd H1 dx (.own x)) x (.ins C dx [])) (fun v H2=>v= .non/\Q (.ref x) H2) E
def Binds (K:PySem.W.Frag) (fd:FuncData) (ps:List Str) (ds:List Value):Prop:=
 ∀(s:Shared) (us:List Value),K.In s.heap->(us++ds).length=ps.length->BindsTo s fd ⟨us,[]⟩ (ps.zip (us++ds))
theorem Binds.all {K:PySem.W.Frag}{fd:FuncData}{ps:List Str} (h:∀us:List Value,us.length=ps.length->bindArgs fd ⟨us,[]⟩=pure (ps.zip us)):Binds K fd ps []:=fun s us _ hl=>by
 rw[List.append_nil] at hl ⊢
 exact .of_eq (h us hl)
def Passes (CX:CXT) (X:Cx) (E:XK):Prop:=∀(pins:List (Addr×Obj)) (σ:St) (H:Hp) (s:Shared) (e:Value) (s':Shared),Inv X pins σ H s->CX X.stack H s E e s'->X.xe e s'
section
variable {X:Cx}{CX:CXT}{k:Nat}{f C:Addr}{fd:FuncData}{ps:List Str}{sp:Sp}{dvs:List V}{ds:List Value}{E:XK}{x m:Str}{p pos apos:Pos}{e o:Expr}{es:List Expr}{ta:TE}{t:TA}
theorem Ig {pins:List (Addr×Obj)}{σ:St}{H:Hp}{s:Shared}{Q:VK}{us:List Value}{vs:List V} (F:aX X.prog X.w X.K X.mg X.base CX k f fd ps sp) (hr:jB k X.A) (hb:Binds X.K fd ps ds) (hd:Vals dvs ds) (hx:Passes CX X E)
 (I:Inv X pins σ H s) (r:Vals vs us) (h:sp (vs++dvs) H Q E):wpAny (model X.prog X.w) X.A (call (.ref f) us) (EP X pins σ Q) X.xe s:=by
 have r2:Vals (vs++dvs) (us++ds):=r.append hd
 have hl:(us++ds).length=ps.length:=by rw[<-r2.length];exact F.len _ _ _ _ h
 refine wpAny_call (codeAny_mono (F.run X.A X.stack s H ⟨us,[]⟩ (us++ds) (vs++dvs) Q E hr I.env0 (hb s us I.kIn hl) r2 h) fun r s' hq=> ?_)
 cases r with
 | error e=>exact hx pins σ H s e s' I hq
 | ok fl=>
   cases fl with
   | ret u=>exact I.after hq
   | next=>exact False.elim hq
   | brk=>exact False.elim hq
   | cont=>exact False.elim hq
theorem Ve (F:aX X.prog X.w X.K X.mg X.base CX k f fd ps sp) (hr:jB k X.A) (hg:Gl X x) (hm:X.mg x=some (.ref f)) (hk:PySem.W.keepIn X.K (.ref f)=true) (hb:Binds X.K fd ps ds) (hd:Vals dvs ds) (hx:Passes CX X E)
 (ha:PA X (e::es) t) (hdb:(x==("__debug__":Str))=false:=by decide) (he:starEach (e::es) X.env=(false,eval e X.env)::starEach es X.env:=by rfl) (hpl:(backTo pos (starEach es X.env)).any (·.1)=false:=by rfl):
 PE X (.Call (.Name x p) (e::es) [] pos) (NQ sp dvs E t):=by
 intro pins s σ H Q I h
 refine wpAny_Call_Name_kw (tY I hg hm ?_ hdb)
 refine PySem.W.callWith_K (h₀:=X.base) I.ok.mod.kin hk (thn (ha pos pins s σ H _ I h) fun us s1 ⟨vs,H1,I1,r,q⟩=>⟨I1.kIn, ?_⟩) he hpl
 exact Ig F hr hb hd hx I1 r q
theorem Rj (F:aX X.prog X.w X.K X.mg X.base CX k f fd ps sp) (hr:jB k X.A) (hg:Gl X x) (hm:X.mg x=some (.ref f)) (hk:PySem.W.keepIn X.K (.ref f)=true) (hb:Binds X.K fd ps ds) (hd:Vals dvs ds) (hx:Passes CX X E)
 (hdb:(x==("__debug__":Str))=false:=by decide):PE X (.Call (.Name x p) [] [] pos) (NQ sp dvs E PK):=by
 intro pins s σ H Q I h
 refine wpAny_Call_Name_kw (tY I hg hm ?_ hdb)
 exact PySem.W.callWith_K0 I.kIn hk (Ig (us:=[]) F hr hb hd hx I .nil h)
theorem Vf {pl:Sem Bool} (he:PE X o ta) (c:Cls X.K C) (hm:Meth X.K C m f) (F:aX X.prog X.w X.K X.mg X.base CX k f fd ps sp) (hr:jB k X.A) (hb:Binds X.K fd ps ds) (hd:Vals dvs ds) (hx:Passes CX X E) (ha:PA X (e::es) t)
 (hst:starEach (e::es) X.env=(false,eval e X.env)::starEach es X.env:=by rfl) (hpl:(backTo pos (starEach es X.env)).any (·.1)=false:=by rfl)
 (ht:eval (.Call (.Attribute o m apos) (e::es) [] pos) X.env=(do
   let ov <-eval o X.env
   standAt apos.atName
   let (f,first) <-holding [ov] (getMethod ov m pl)
   callWith pos f first (backTo pos (starEach (e::es) X.env)) (backToKw pos (keywordEach [] X.env))):=by rfl):
 PE X (.Call (.Attribute o m apos) (e::es) [] pos) (NT C m sp dvs E ta t):=by
 intro pins s σ H Q I h
 refine PySem.W.methodCall_KW (pl:=pl) (thn (he pins s σ H _ I h) fun u s1 ⟨x,H1,I1,rx,a,dx,fs,ex,ea,l,q⟩=> ?_) ht
 subst ex
 obtain rfl:u=Value.ref a:=rx
 refine Ea I1 ea c hm l ?_
 refine PySem.W.callWith_K (first:=[.ref a]) (h₀:=X.base) I.ok.mod.kin hm.kp (thn (ha pos pins s1 σ H1 _ I1 q) fun us s2 ⟨vs,H2,I2,r,q2⟩=>⟨I2.kIn, ?_⟩) hst hpl
 exact Ig (us:= .ref a::us) (vs:= .ref a::vs) F hr hb hd hx I2 (.cons rfl r) q2
theorem Rk {pl:Sem Bool} (he:PE X o ta) (c:Cls X.K C) (hm:Meth X.K C m f) (F:aX X.prog X.w X.K X.mg X.base CX k f fd ps sp) (hr:jB k X.A) (hb:Binds X.K fd ps ds) (hd:Vals dvs ds) (hx:Passes CX X E)
 (ht:eval (.Call (.Attribute o m apos) [] [] pos) X.env=(do
   let ov <-eval o X.env
   standAt apos.atName
   let (f,first) <-holding [ov] (getMethod ov m pl)
   callWith pos f first (backTo pos (starEach [] X.env)) (backToKw pos (keywordEach [] X.env))):=by rfl):
 PE X (.Call (.Attribute o m apos) [] [] pos) (NT C m sp dvs E ta PK):=by
 intro pins s σ H Q I h
 refine PySem.W.methodCall_KW (pl:=pl) (thn (he pins s σ H _ I h) fun u s1 ⟨x,H1,I1,rx,a,dx,fs,ex,ea,l,q⟩=> ?_) ht
 subst ex
 obtain rfl:u=Value.ref a:=rx
 refine Ea I1 ea c hm l ?_
 exact PySem.W.callWith_K0 (first:=[.ref a]) I1.kIn hm.kp (Ig (us:=[.ref a]) (vs:=[.ref a]) F hr hb hd hx I1 (.cons rfl .nil) q)
structure Mk (K:PySem.W.Frag) (C f:Addr):Prop where
 makes:PySem.W.makesIn K C=true
 init:PySem.W.findIn K (.ref C) "__init__"=some (some (.ref f))
 fn:PySem.W.isFn K (.ref f)=true
 kp:PySem.W.keepIn K (.ref C)=true
theorem Ro {pins:List (Addr×Obj)}{σ:St}{H:Hp}{s:Shared}{Q:VK}{us:List Value}{vs:List V} (M:Mk X.K C f) (F:aX X.prog X.w X.K X.mg X.base CX k f fd ps sp) (hr:jB (k+1) X.A) (hb:Binds X.K fd ps ds) (hd:Vals dvs ds)
 (hx:Passes CX X E) (I:Inv X pins σ H s) (r:Vals vs us)
 (h:∀x dx,H x=none->H dx=none->dx≠x->sp (.ref x::(vs++dvs)) (upd (upd H dx (.own x)) x (.ins C dx [])) (fun v H2=>v= .non/\Q (.ref x) H2) E):
 wpAny (model X.prog X.w) X.A (call (.ref C) us) (EP X pins σ Q) X.xe s:=by
 have hq:=h (s.heap.objs.size+1) s.heap.objs.size (I.hok.fresh (Nat.le_succ _)) (I.hok.fresh (Nat.le_refl _)) (Nat.ne_of_lt (Nat.lt_succ_self _))
 have I2:=Inv.made (C:=C) I
 have r2:Vals (V.ref (s.heap.objs.size+1)::(vs++dvs)) (Value.ref (s.heap.objs.size+1)::(us++ds)):= .cons rfl (r.append hd)
 have hl:(Value.ref (s.heap.objs.size+1)::us++ds).length=ps.length:=by
  have e:=r2.length
  rw[F.len _ _ _ _ hq] at e
  exact e.symm
 refine wpAny_call (Ri (f:=f) I.kIn M.makes M.init (beq_iff_eq.mp M.fn) (codeAny_mono (F.run _ X.stack _ _ ⟨Value.ref (s.heap.objs.size+1)::us,[]⟩ (Value.ref (s.heap.objs.size+1)::(us++ds)) _ _ E (hr.make C us [])
  (I2.env0.make C us []) (hb _ (Value.ref (s.heap.objs.size+1)::us) I2.kIn hl) r2 hq) fun r s' hq'=> ?_))
 cases r with
 | error e=>exact hx pins σ _ _ e s' I2 hq'
 | ok fl=>
   cases fl with
   | ret u=>
     obtain⟨v,H',I3,rv,ev,q3⟩:=I2.after hq'
     subst ev
     exact⟨rv,⟨V.ref (s.heap.objs.size+1),H',I3,rfl,q3⟩⟩
   | next=>exact False.elim hq'
   | brk=>exact False.elim hq'
   | cont=>exact False.elim hq'
theorem Vg (M:Mk X.K C f) (F:aX X.prog X.w X.K X.mg X.base CX k f fd ps sp) (hr:jB (k+1) X.A) (hg:Gl X x) (hm:X.mg x=some (.ref C)) (hb:Binds X.K fd ps ds) (hd:Vals dvs ds) (hx:Passes CX X E)
 (ha:PA X (e::es) t) (hdb:(x==("__debug__":Str))=false:=by decide) (he:starEach (e::es) X.env=(false,eval e X.env)::starEach es X.env:=by rfl) (hpl:(backTo pos (starEach es X.env)).any (·.1)=false:=by rfl):
 PE X (.Call (.Name x p) (e::es) [] pos) (XM C sp dvs E t):=by
 intro pins s σ H Q I h
 refine wpAny_Call_Name_kw (tY I hg hm ?_ hdb)
 refine PySem.W.callWith_K (h₀:=X.base) I.ok.mod.kin M.kp (thn (ha pos pins s σ H _ I h) fun us s1 ⟨vs,H1,I1,r,q⟩=>⟨I1.kIn, ?_⟩) he hpl
 exact Ro M F hr hb hd hx I1 r q
end
section
variable {X:Cx}{CX:CXT}{k:Nat}{f C:Addr}{fd:FuncData}{ps ks:List Str}{sp:Sp}{E:XK}{x m:Str}{p pos apos kpos:Pos}{e o:Expr}{es:List Expr}{kws:List Keyword}{te ta:TE}{t tk:TA}{nm:Option Str}
variable {g:List Value->List Value->List Value}{gV:List V->List V->List V}
end
structure bI (N P:List Str) (sc:Scope):Prop where
 kind:sc.kind= .function
 co:sc.isCoroutine=false
 gen:sc.isGenerator=false
 nd:N.Nodup
 pre:N.take P.length=P
 par:∀x∈P,sc.names.lookup x=some .local\/sc.names.lookup x=some .cell
 nofree:∀y∈sc.names,y.2≠ .free
theorem G6 {kindOf:Str->Option NameKind}{x:Str}:∀{binds:List (Str×Value)}{m:Str->Option Value},(∀v,(x,v)∉binds)->bindL kindOf binds m x=m x
 |[],_,_=>rfl
 | (n,v)::r,m,h=>by
   unfold bindL
   rw[G6 fun w hw=>h w (List.mem_cons_of_mem _ hw)]
   split
   ·have:x≠n:=by rintro rfl;exact h v List.mem_cons_self
    simp[this]
   ·rfl
theorem G7 {kindOf:Str->Option NameKind}{x:Str}:∀{binds:List (Str×Value)}{m:Str->Option Value},(∀v,(x,v)∉binds)->bindC kindOf binds m x=m x
 |[],_,_=>rfl
 | (n,v)::r,m,h=>by
   unfold bindC
   rw[G7 fun w hw=>h w (List.mem_cons_of_mem _ hw)]
   split
   ·rfl
   ·have:x≠n:=by rintro rfl;exact h v List.mem_cons_self
    simp[this]
theorem G8 {kindOf:Str->Option NameKind}{x:Str}{v:Value}:∀{P:List Str}{vs:List Value}{i:Nat}{m:Str->Option Value},P.Nodup->P[i]? =some x->vs[i]? =some v->kindOf x=some .local->
 bindL kindOf (P.zip vs) m x=some v
 |[],_,_,_,_,h,_,_=>by simp at h
 | _::_,[],_,_,_,_,h,_=>by simp at h
 | p::P,w::vs,0,m,nd,h1,h2,hk=>by
   simp at h1 h2;subst h1;subst h2
   show bindL kindOf ((p,w)::P.zip vs) m p=_
   unfold bindL
   rw[G6 fun v hv=>(List.nodup_cons.mp nd).1 (List.of_mem_zip hv).1,if_pos hk]
   simp
 | p::P,w::vs,i+1,m,nd,h1,h2,hk=>by
   show bindL kindOf ((p,w)::P.zip vs) m x=_
   unfold bindL
   exact G8 (i:=i) (List.nodup_cons.mp nd).2 (by simpa using h1) (by simpa using h2) hk
theorem G9 {kindOf:Str->Option NameKind}{x:Str}{v:Value}:∀{P:List Str}{vs:List Value}{i:Nat}{m:Str->Option Value},P.Nodup->P[i]? =some x->vs[i]? =some v->kindOf x≠some .local->
 bindC kindOf (P.zip vs) m x=some v
 |[],_,_,_,_,h,_,_=>by simp at h
 | _::_,[],_,_,_,_,h,_=>by simp at h
 | p::P,w::vs,0,m,nd,h1,h2,hk=>by
   simp at h1 h2;subst h1;subst h2
   show bindC kindOf ((p,w)::P.zip vs) m p=_
   unfold bindC
   rw[G7 fun v hv=>(List.nodup_cons.mp nd).1 (List.of_mem_zip hv).1,if_neg hk]
   simp
 | p::P,w::vs,i+1,m,nd,h1,h2,hk=>by
   show bindC kindOf ((p,w)::P.zip vs) m x=_
   unfold bindC
   exact G9 (i:=i) (List.nodup_cons.mp nd).2 (by simpa using h1) (by simpa using h2) hk
def start (N:List Str) (vs:List V):St:=vs.map some++List.replicate (N.length - vs.length) none
def jC (CX:CXT) (P:Program) (w:World) (K:PySem.W.Frag) (mg:Str->Option Value) (base:Heap) (N:List Str) (qual:Str) (scope:Scope) (f:Addr) (cd:Value) (A:Around) (outer:List Env) (s:Shared) (H:Hp) (E:XK):Cx where
 prog:=P
 w:=w
 K:=K
 mg:=mg
 base:=base
 A:=A.deeper (envOfC qual scope s.heap.objs.size f cd)
 N:=N
 s₀:=s
 H₀:=H
 env:=envOfC qual scope s.heap.objs.size f cd
 outer:=outer
 stack:=envOfC qual scope s.heap.objs.size f cd::outer
 ex:=[]
 calm:=true
 fn:=fun _=>true
 pn:=[]
 xe:=fun e s'=>wpAny (model P w) (A.deeper (envOfC qual scope s.heap.objs.size f cd)) (leaving (envOfC qual scope s.heap.objs.size f cd) e) (fun _ s''=>CX outer H s E e s'') (fun e' s''=>CX outer H s E e' s'') s'
theorem JW {sc:Scope}{n:Nat}{x:Str} (h:sc.names.lookup x=some .cell):∃c,(cellsFrom n sc.names []).lookup x=some c:=by
 have q:=PySem.W.cellsFrom_some sc.names n [] (.inl h)
 exact Option.isSome_iff_exists.mp q
theorem PL {CX:CXT}{P:Program}{w:World}{K:PySem.W.Frag}{mg:Str->Option Value}{base:Heap}{N ps:List Str}{qual:Str}{scope:Scope}{f:Addr}{cd:Value}{A:Around}{outer:List Env}{s s1:Shared}{H:Hp}{E:XK}{us:List Value}{vs:List V}
 (S:bI N ps scope) (hd:A.handled=none) (e0:Mf P w K mg base A outer s H) (hl:vs.length=ps.length) (r:Vals vs us)
 (x:InCallC s s.heap.objs.size (bindL (envOfC qual scope s.heap.objs.size f cd).kindOf (ps.zip us) fun _=>none) (cellsFrom (s.heap.objs.size+1) scope.names []) (bindC (envOfC qual scope s.heap.objs.size f cd).kindOf (ps.zip us) fun _=>none) s1):
 Inv (jC CX P w K mg base N qual scope f cd A outer s H E) [] (start N vs) H s1:=by
 have hpl:ps.length<=N.length:=by have:=congrArg List.length S.pre;rw[List.length_take] at this;omega
 obtain⟨h1,tk,rfl,hk⟩:=x.done
 have noA:∀b:Addr,b∉(jC CX P w K mg base N qual scope f cd A outer s H E).ex:=fun b z=>absurd (show b∈([]:List Addr) from z) (by simp)
 refine⟨⟨e0.mod,S.kind,rfl,rfl,Nat.le_refl _,fun y z c h1 h2=> ?_,fun y hy=> ?_,fun y c _ h=> ?_,fun _=>hd,Around.frames_deeper e0.frames, .inr ⟨rfl,rfl⟩,fun b z=>absurd z (noA b),e0.bs,e0.bsz,fun b _ _=>noA b,fun b z=>absurd z (noA b),e0.funs,e0.frf⟩,
  rfl,e0.bare,Un.kept hk,⟨_,x.toInCall.ns,fun i y v h1 h2 h3=> ?_⟩,fun y c h=>⟨_,x.cell y c h⟩,e0.hok.fresh (Nat.le_refl _),fun y c h=> ?_,fun p hp=>absurd (show p∈([]:List (Addr×Obj)) from hp) (by simp),e0.hok.kept hk, ?_⟩
 ·exact name_of_addr x.apart (PySem.mem_of_lookup h1) (PySem.mem_of_lookup h2)
 ·have hy:scope.names.lookup y=some .cell\/scope.names.lookup y=some .free:=hy
  rcases hy with hy | hy
  ·exact JW hy
  ·exact absurd rfl (S.nofree _ (PySem.mem_of_lookup hy))
 ·exact Nat.le_of_lt (x.above y c (PySem.mem_of_lookup h))
 ·have hi:i<vs.length:=by
   unfold start at h2
   by_cases hi:i<vs.length
   ·exact hi
   ·rw[List.getElem?_append_right (by simpa using hi)] at h2
    rw[List.getElem?_replicate] at h2
    split at h2<;>cases h2
  have ha:vs[i]? =some v:=by
   unfold start at h2
   rw[List.getElem?_append_left (by simpa using hi),List.getElem?_map] at h2
   cases e:vs[i]? with
   | none=>rw[e] at h2;cases h2
   | some a=>rw[e] at h2;cases h2;rfl
  obtain⟨u,hu,rv⟩:=r.get ha
  have hp:ps[i]? =some y:=by
   rw[<-S.pre,List.getElem?_take_of_lt (by omega)];exact h1
  have ndP:ps.Nodup:=by rw[<-S.pre];exact S.nd.sublist (List.take_sublist _ _)
  refine⟨u,rv, ?_⟩
  rcases S.par y (List.mem_of_getElem? hp) with k | k
  ·exact .inl ⟨k,G8 ndP hp hu k⟩
  ·obtain⟨c,e⟩:=JW (n:=s.heap.objs.size+1) k
   refine .inr ⟨.inl k,c,e, ?_⟩
   have q:=x.cell y c e
   rw[G9 ndP hp hu (by show scope.names.lookup y≠_;rw[k];decide)] at q
   exact q
 ·exact e0.hok.fresh (Nat.le_of_lt (x.above y c (PySem.mem_of_lookup h)))
 ·unfold start
  show _=N.length
  rw[List.length_append,List.length_map,List.length_replicate]
  omega
theorem XN {CX:CXT}{P:Program}{w:World}{K:PySem.W.Frag}{mg:Str->Option Value}{base:Heap}{k:Nat}{f:Addr}{name qual:Str}{params:Arguments}{body:List Stmt}{scope:Scope}{dV kV doc pm cdv ct oc:Value}{an od:Option Addr}
 {osl:Array (Option Value)}{N ps:List Str}{sp:Sp} (lk:K.lookup f=some ⟨oc,od, .func (PySem.W.fnOf name qual params body scope dV kV doc pm an cdv ct),osl⟩) (hcd:PySem.W.codeIn K cdv qual=true) (S:bI N ps scope)
 (len:∀vs H Q E,sp vs H Q E->vs.length=ps.length)
 (hbody:∀(A:Around) (outer:List Env) (s:Shared) (H:Hp) (vs:List V) (Q:VK) (E:XK),jB k (A.deeper (envOfC qual scope s.heap.objs.size f cdv))->sp vs H Q E->
   ∃t,PSs (jC CX P w K mg base N qual scope f cdv A outer s H E) body t/\t {nx:=fun _ H'=>Q .non H',rt:=Q} (start N vs) H):
 aX P w K mg base CX (k+1) f (PySem.W.fnOf name qual params body scope dV kV doc pm an cdv ct) ps sp:=by
 refine⟨len,fun A outer s H args us vs Q E hr e0 hb r hsp=> ?_⟩
 have hl:=len _ _ _ _ hsp
 have KX:K.In s.heap:=e0.mod.kin.keeps fun b o e=>(e0.bs b o e).1
 have lim:s.heap.NoLimit:=e0.mod.nolimit.keeps fun b o e=>(e0.bs b o e).1
 have hkind:∀y∈ps.zip us,scope.names.lookup y.1=some .local\/(scope.names.lookup y.1=some .cell/\((cellsFrom (s.heap.objs.size+1) scope.names []).lookup y.1).isSome=true):=fun⟨n,v⟩ hy=>by
  rcases S.par n (List.of_mem_zip hy).1 with q | q
  ·exact .inl q
  ·exact .inr ⟨q,PySem.W.cellsFrom_some _ _ _ (.inl q)⟩
 refine codeAny_call_function hr.depth (KX _ _ lk) rfl S.co S.gen rfl (PySem.W.codeRec_of KX hcd) (hb _ _ _ _ ?_)
 refine wpAny_newFunctionEnv_cells S.kind hkind fun env he s1 x=> ?_
 subst he
 refine⟨lim.keeps x.toInCall.keep,codeAny_func ?_⟩
 obtain⟨t,ht,hq⟩:=hbody A outer s H vs Q E (hr.deeper _) hsp
 have I:Inv (jC CX P w K mg base N qual scope f cdv A outer s H E) [] (start N vs) H s1:=PL S hr.hd e0 hl r x
 refine wpAny_mono (ht [] s1 (start N vs) H _ I hq) (fun fl s' hs=> ?_) fun e s' hs=>hs
 have fin:∀{σ':St}{H':Hp}{v:V}{u:Value},Inv (jC CX P w K mg base N qual scope f cdv A outer s H E) [] σ' H' s'->RelV v u->Q v H'->CE outer P w H s Q u s':=
  fun{σ' H' v u} J rv q=>⟨v,H',J.os,J.bare,J.base,J.hok,rv,q⟩
 cases fl with
 | ret u=>
   obtain⟨v,σ',H',J,rv,q⟩:=hs
   exact fin J rv q
 | next=>
   obtain⟨σ',H',J,q⟩:=hs
   exact fin (v:=V.non) (u:=Value.none) J rfl q
 | brk=>
   obtain⟨_,_,_,q⟩:=hs
   exact False.elim q
 | cont=>
   obtain⟨_,_,_,q⟩:=hs
   exact False.elim q
section
variable {X:Cx}{x:Str}{p pos:Pos}{e:Expr}{es:List Expr}{t:TA}{id T:String}{r:List V->Hp->VK->Prop}
def tCB (r:List V->Hp->VK->Prop) (t:TA):TE:=fun σ H Q=>t σ H fun vs H1=>r vs H1 Q
theorem Rp (hc:pM X (.builtin id) r) (hg:Gl X x) (hm:X.mg x=none) (hv:bootBuiltins x=some (.builtin id)) (ha:PA X (e::es) t) (hn:x≠"__name__":=by decide) (hdb:(x==("__debug__":Str))=false:=by decide)
 (he:starEach (e::es) X.env=(false,eval e X.env)::starEach es X.env:=by rfl) (hpl:(backTo pos (starEach es X.env)).any (·.1)=false:=by rfl):PE X (.Call (.Name x p) (e::es) [] pos) (tCB r t):=by
 intro pins s σ H Q I h
 refine wpAny_Call_Name_kw (yD I hg hm hv ?_ hn hdb)
 exact PyProof.Rows.callWith_builtin1 (thn (ha pos pins s σ H _ I h) fun us s1 ⟨vs,H1,I1,r1,q1⟩=>hc pins s1 σ H1 vs us Q I1 r1 q1) he hpl
theorem PN (hc:pM X (.type T) r) (hg:Gl X x) (hm:X.mg x=none) (hv:bootBuiltins x=some (.type T)) (ha:PA X (e::es) t) (hn:x≠"__name__":=by decide) (hdb:(x==("__debug__":Str))=false:=by decide)
 (he:starEach (e::es) X.env=(false,eval e X.env)::starEach es X.env:=by rfl) (hpl:(backTo pos (starEach es X.env)).any (·.1)=false:=by rfl):PE X (.Call (.Name x p) (e::es) [] pos) (tCB r t):=by
 intro pins s σ H Q I h
 refine wpAny_Call_Name_kw (yD I hg hm hv ?_ hn hdb)
 exact PyProof.Rows.callWith_type1 (thn (ha pos pins s σ H _ I h) fun us s1 ⟨vs,H1,I1,r1,q1⟩=>hc pins s1 σ H1 vs us Q I1 r1 q1) he hpl
end
end L2
namespace HT
open PySem PyProof.Rows
section
open PySem.SeqAt
open PySem.AutoSeq1 (wpAny_loadPart')
open PySem.MeetsSeq PySem.MeetsSeq2 PySem.MeetsSeq3
end
section
variable {prog:Program}{w:World}{A:Around}{E:Value->Shared->Prop}{s:Shared}
def sIx (n d:Nat):Option Int->Nat
 | none=>d
 | some v=>if v<0 then(v+(n:Int)).toNat else min v.toNat n
theorem NZ (n d k:Nat):sIx n d (some (k:Int))=min k n:=by
 show(if(k:Int)<0 then((k:Int)+(n:Int)).toNat else min (k:Int).toNat n)=min k n
 rw[if_neg (by omega),Int.toNat_natCast]
end
end HT
namespace L2
open PySem PySem.Spec PyProof.Rows
abbrev TO:=St->Hp->(Option Int->Hp->Prop)->Prop
def PO (X:Cx) (e:Option Expr) (t:TO):Prop:=
 ∀(pins:List (Addr×Obj)) (s:Shared) (σ:St) (H:Hp) (Q:Option Int->Hp->Prop),Inv X pins σ H s->t σ H Q->
  wpAny (model X.prog X.w) X.A (evalPart e X.env) (fun u s'=>∃o H',Inv X pins σ H' s'/\IsPart u o/\Q o H') X.xe s
def N5:TO:=fun _ H Q=>Q none H
def XQ (t:TE):TO:=fun σ H Q=>t σ H fun x H1=>∃i,x= .int i/\Q (some i) H1
section
variable {X:Cx}{e:Expr}{te:TE}{lo hi:Option Expr}{tl th:TO}{pos p2:Pos}
theorem Vh:PO X none N5:=by
 intro pins s σ H Q I h
 rw[evalPart_none]
 exact wpAny_pure ⟨none,H,I, .none,h⟩
theorem Vi (h:PE X e te):PO X (some e) (XQ te):=by
 intro pins s σ H Q I hw
 rw[evalPart_some]
 refine thn (h pins s σ H _ I hw) fun u s1 ⟨x,H1,I1,r1,q1⟩=> ?_
 obtain⟨i,rfl,q⟩:=q1
 obtain⟨t,rfl⟩:=r1
 exact⟨some i,H1,I1, .int i t,q⟩
def SlR (X:Cx) (r:V->Option Int->Option Int->Hp->VK->Prop):Prop:=
 ∀(pins:List (Addr×Obj)) (s:Shared) (σ:St) (H:Hp) (x:V) (v vl vu:Value) (lo hi:Option Int) (sl:Addr) (Q:VK),Inv X pins σ H s->RelV x v->s.heap.IsSliceOf sl vl vu .none->IsPart vl lo->IsPart vu hi->r x lo hi H Q->
  ∃T id,typeLookup (.type T) "__getitem__"=pure (some (.builtin id))/\s.TypeIs v T/\wpAny (model X.prog X.w) X.A (getItem v (.ref sl)) (EP X pins σ Q) X.xe s
def tSl (r:V->Option Int->Option Int->Hp->VK->Prop) (te:TE) (tl th:TO):TE:=fun σ H Q=>te σ H fun x H1=>tl σ H1 fun l H2=>th σ H2 fun u H3=>r x l u H3 Q
theorem Rq {r:V->Option Int->Option Int->Hp->VK->Prop} (hr:SlR X r) (he:PE X e te) (hl:PO X lo tl) (hu:PO X hi th):PE X (.Subscript e (.Slice lo hi none p2) pos) (tSl r te tl th):=by
 intro pins s σ H Q I h
 refine Subscript_ (thn (he pins s σ H _ I h) fun v s1 ⟨x,H1,I1,r1,q1⟩=> ?_)
 refine wpAny_Slice (thn (hl pins s1 σ H1 _ I1 q1) fun vl s2 ⟨l,H2,I2,pl,q2⟩=>thn (hu pins s2 σ H2 _ I2 q2) fun vu s3 ⟨u,H3,I3,pu,q3⟩=> ?_)
 rw[evalPart_none]
 refine wpAny_pure ?_
 have I4:Inv X pins σ H3 {s3 with heap:=s3.heap.push {cls:= .type "slice",data:= .fields #[vl,vu, .none]}}:=I3.kept (t':=s3.toks) fun b ob q=>Heap.get?_push_of_some _ q
 obtain⟨T,id,hT,ht,hg⟩:=hr pins {s3 with heap:=s3.heap.push {cls:= .type "slice",data:= .fields #[vl,vu, .none]}} σ H3 x v vl vu l u s3.heap.objs.size Q I4 r1 (Heap.IsSliceOf.new ..) pl pu q3
 show wpAny (model X.prog X.w) X.A (subscriptTail e (.Slice lo hi none p2) v (.ref s3.heap.objs.size)) (EP X pins σ Q) X.xe {s3 with heap:=s3.heap.push {cls:= .type "slice",data:= .fields #[vl,vu, .none]}}
 exact tail_any (ops:=[.ref s3.heap.objs.size,v]) ht hT hg (by with_unfolding_all rfl)
def Bo (xs:List V) (lo hi:Option Int):List V:=(xs.drop (HT.sIx xs.length 0 lo)).take (HT.sIx xs.length xs.length hi - HT.sIx xs.length 0 lo)
theorem JX (xs:List V) (lo hi:Option Int):(Bo xs lo hi).length<=xs.length:=by
 unfold Bo
 rw[List.length_take,List.length_drop]
 omega
end
def ixN (n:Nat) (i:Int):Option Nat:=if 0<=i then(if i<n then some i.toNat else none) else if -(n:Int)<=i then some (i+n).toNat else none
def atI {α:Type} (xs:List α) (i:Int):Option α:=(ixN xs.length i).bind fun j=>xs[j]?
theorem Vj {n:Nat}{i:Int}{j:Nat} (h:ixN n i=some j):seqIndex? i n=some j/\j<n/\ -(n:Int)<=i/\i<n:=by
 unfold ixN at h
 by_cases h0:0<=i
 ·rw[if_pos h0] at h
  by_cases h1:i<n
  ·rw[if_pos h1] at h
   have e:i.toNat=j:=Option.some.inj h
   exact⟨by rw[seqIndex_of h0 h1,e],by omega,by omega,h1⟩
  ·rw[if_neg h1] at h;cases h
 ·rw[if_neg h0] at h
  by_cases h1: -(n:Int)<=i
  ·rw[if_pos h1] at h
   have e:(i+n).toNat=j:=Option.some.inj h
   exact⟨by rw[seqIndex_neg (by omega) h1,e],by omega,h1,by omega⟩
  ·rw[if_neg h1] at h;cases h
theorem N6 {α:Type}{xs:List α}{i:Int}{v:α} (h:atI xs i=some v):∃j,seqIndex? i xs.length=some j/\xs[j]? =some v/\j<xs.length/\ -(xs.length:Int)<=i/\i<xs.length:=by
 unfold atI at h
 cases e:ixN xs.length i with
 | none=>rw[e] at h;cases h
 | some j=>
   rw[e] at h
   obtain⟨h1,h2,h3,h4⟩:=Vj e
   exact⟨j,h1,h,h2,h3,h4⟩
theorem lB {α:Type}{xs:List α}{j:Nat}{v:α} (h:xs[j]? =some v):atI xs (j:Int)=some v:=by
 have hj:j<xs.length:=(List.getElem?_eq_some_iff.mp h).1
 have e:ixN xs.length (j:Int)=some j:=by
  unfold ixN
  rw[if_pos (by omega),if_pos (by omega)];simp
 unfold atI;rw[e];exact h
def N7 (b:Expr):Prop:=∀o i,subscripted b false o i=operate [o,i] (getItem o i)
def IxR (X:Cx) (r:R2):Prop:=
 ∀(value slice:Expr) (pins:List (Addr×Obj)) (s:Shared) (σ:St) (H:Hp) (x y:V) (v u:Value) (Q:VK),Inv X pins σ H s->RelV x v->RelV y u->r x y H Q->
  subscripted slice false v u=operate [v,u] (getItem v u)->wpAny (model X.prog X.w) X.A (subscriptTail value slice v u) (EP X pins σ Q) X.xe s
def MtR (X:Cx) (id:String) (r:V->List V->Hp->VK->Prop):Prop:=
 ∀(pins:List (Addr×Obj)) (s:Shared) (σ:St) (H:Hp) (x:V) (xs:List V) (v:Value) (us:List Value) (Q:VK),Inv X pins σ H s->RelV x v->Vals xs us->r x xs H Q->
  wpAny (model X.prog X.w) X.A (call (.builtin id) (v::us)) (EP X pins σ Q) X.xe s
section
variable {X:Cx}{a b:Expr}{ta tb:TE}{pos:Pos}
theorem ac7 {r:R2} (hr:IxR X r) (ha:PE X a ta) (hb:PE X b tb) (hs:N7 b):PE X (.Subscript a b pos) (tOp r ta tb):=by
 intro pins s σ H Q I h
 exact Subscript_ (Zr ha hb I h fun v u s2 x y H2 I2 rx ry q=>hr a b pins s2 σ H2 x y v u Q I2 rx ry q (hs _ _))
def ZQ (K:PySem.W.Frag):R2:=fun x y H Q=>∃p xs i v,x= .ref p/\y= .int i/\SqL K H p xs/\atI xs i=some v/\Q v H
def ZR (K:PySem.W.Frag):R2:=fun x y H Q=>∃p xs i v,x= .ref p/\y= .int i/\SqT K H p xs/\atI xs i=some v/\Q v H
theorem Vk:IxR X (ZQ X.K):=by
 intro value slice pins s σ H x y v u Q I rx ry h hs
 obtain⟨p,xs,i,z,rfl,rfl,hq,he,q⟩:=h
 cases rx
 obtain⟨t,rfl⟩:=ry
 obtain⟨its,r,pl,hz⟩:=I.list hq
 obtain⟨j,h1,h2,h3,h4,h5⟩:=N6 he
 obtain⟨w,ew,rw'⟩:=r.get h2
 have hl:=r.length
 have hn:=Bl
 have fin:EP X pins σ Q w s:=⟨z,H,I,rw',q⟩
 by_cases h0:0<=i
 ·have hj:i.toNat=j:=by
   rw[seqIndex_of h0 h5] at h1
   exact Option.some.inj h1
  exact item_listR pl.isList h0 (by omega) (by rw[hj];simpa using ew) fin hs
 ·have hj:(i+(its.toArray.size:Int)).toNat=j:=by
   rw[seqIndex_neg (by omega) h4] at h1
   rw[List.size_toArray,<-hl]
   exact Option.some.inj h1
  exact subscriptTail_builtinR (x:=w) pl.isList.typeIs slot_list_getitem.lookup
   (wpAny_getItem_list_neg (Q:=fun r s'=>r=w/\EP X pins σ Q r s') pl.isList (by omega) (by rw[List.size_toArray]<;>omega) (by omega) (by rw[hj];simpa using ew) ⟨rfl,fin⟩) hs
theorem ZS:IxR X (ZR X.K):=by
 intro value slice pins s σ H x y v u Q I rx ry h hs
 obtain⟨p,xs,i,z,rfl,rfl,hq,he,q⟩:=h
 cases rx
 obtain⟨t,rfl⟩:=ry
 obtain⟨its,r,pl,hz⟩:=I.tuple hq
 obtain⟨j,h1,h2,h3,h4,h5⟩:=N6 he
 obtain⟨w,ew,rw'⟩:=r.get h2
 have hl:=r.length
 have hn:=Bl
 have fin:EP X pins σ Q w s:=⟨z,H,I,rw',q⟩
 exact subscriptTail_builtinR (x:=w) pl.typeIs slot_tuple_getitem.lookup
  (getItem_tuple (j:=j) (Q:=fun r s'=>r=w/\EP X pins σ Q r s') pl (by omega) (by omega) (by rw[List.size_toArray,<-hl];exact h1) (by simpa using ew) ⟨rfl,fin⟩) hs
theorem Ih (lo hi:Option Int) (n:Nat):(sliceBounds lo hi none n).1=((HT.sIx n 0 lo:Nat):Int)/\(sliceBounds lo hi none n).2.1=((HT.sIx n n hi:Nat):Int)/\(sliceBounds lo hi none n).2.2=1:=by
 refine⟨?_, ?_,rfl⟩
 ·cases lo with
  | none=>simp[sliceBounds,HT.sIx]
  | some i=>
    simp only[sliceBounds,HT.sIx,Option.getD_none,show(1:Int)>0 by decide,if_true]
    by_cases h:i<0
    ·simp only[h,if_true]<;>omega
    ·simp only[h,if_false]<;>omega
 ·cases hi with
  | none=>simp[sliceBounds,HT.sIx]
  | some i=>
    simp only[sliceBounds,HT.sIx,Option.getD_none,show(1:Int)>0 by decide,if_true]
    by_cases h:i<0
    ·simp only[h,if_true]<;>omega
    ·simp only[h,if_false]<;>omega
theorem Gu (its:List Value) (lo hi:Option Int):slicePick its.toArray lo hi none=((its.drop (HT.sIx its.length 0 lo)).take (HT.sIx its.length its.length hi - HT.sIx its.length 0 lo)).toArray:=by
 obtain⟨h1,h2,h3⟩:=Ih lo hi its.toArray.size
 unfold slicePick
 rw[h1,h2,h3]
 simp only[sliceRange_one,pick_run,List.size_toArray]<;>rfl
def ac8 (K:PySem.W.Frag):V->Option Int->Option Int->Hp->VK->Prop:=fun x lo hi H Q=>∃a xs,x= .ref a/\SqL K H a xs/\∀p,H p=none->Q (.ref p) (upd H p (.lst (Bo xs lo hi)))
theorem Vl:SlR X (ac8 X.K):=by
 intro pins s σ H x v vl vu lo hi sl Q I rx hs pl pu h
 obtain⟨a,xs,rfl,hx,q⟩:=h
 cases rx
 obtain⟨its,r,ht,hz⟩:=I.list hx
 have hlen:=r.length
 refine⟨"list",_,slot_list_getitem.lookup,ht.isList.typeIs, ?_⟩
 refine wpAny_getItem_list_slice ht.isList hs pl pu .none (by simp) ?_ (by rw[List.size_toArray]<;>omega)
 rw[Gu,<-hlen]
 refine⟨.ref s.heap.objs.size,_,I.laid (t':=s.toks) (o:= .lst (Bo xs lo hi)) (fun b ob q=>Heap.get?_push_of_some _ q) (Nat.le_refl _) ?_,rfl,q _ (I.hok.fresh (Nat.le_refl _))⟩
 exact⟨Nat.le_trans (JX xs lo hi) hz,_,0,(r.drop (HT.sIx xs.length 0 lo)).take (HT.sIx xs.length xs.length hi - HT.sIx xs.length 0 lo),Heap.get?_push_size _ rfl⟩
def uU:V->Bool
 | .non=>true
 | .bl _=>true
 | .int _=>true
 | .str _=>true
 | _=>false
def eqV:V->V->Bool
 | .non, .non=>true
 | .bl a, .bl b=>a==b
 | .bl a, .int b=>(if a then 1 else 0)==b
 | .int a, .bl b=>a==(if b then 1 else 0)
 | .int a, .int b=>a==b
 | .str a, .str b=>a==b
 | _,_=>false
theorem ZV {A:Around}{s:Shared}{y x:V}{u v:Value} (ry:RelV y u) (rx:RelV x v) (fy:uU y=true) (fx:uU x=true):SeqAt.EqAt A s u v (eqV y x):=by
 cases y with
 | non=>
   cases ry
   cases x with
   | non=>cases rx;exact SeqAt.EqAt.same _
   | bl b=>cases rx;exact SeqAt.EqAt.none_bool b
   | int b=>obtain⟨t,rfl⟩:=rx;exact SeqAt.EqAt.none_int b t
   | str b=>obtain⟨t,rfl⟩:=rx;exact SeqAt.EqAt.none_str b t
   | _=>exact absurd (show false=true from fx) Bool.false_ne_true
 | bl a=>
   cases ry
   cases x with
   | non=>cases rx;exact SeqAt.EqAt.bool_none a
   | bl b=>cases rx;exact SeqAt.EqAt.bool_bool a b
   | int b=>obtain⟨t,rfl⟩:=rx;exact SeqAt.EqAt.bool_int a b t
   | str b=>obtain⟨t,rfl⟩:=rx;exact SeqAt.EqAt.bool_str a b t
   | _=>exact absurd (show false=true from fx) Bool.false_ne_true
 | int a=>
   obtain⟨t',rfl⟩:=ry
   cases x with
   | non=>cases rx;exact SeqAt.EqAt.int_none a t'
   | bl b=>cases rx;exact SeqAt.EqAt.int_bool a t' b
   | int b=>obtain⟨t,rfl⟩:=rx;exact SeqAt.EqAt.int_int a t' b t
   | str b=>obtain⟨t,rfl⟩:=rx;exact SeqAt.EqAt.int_str a t' b t
   | _=>exact absurd (show false=true from fx) Bool.false_ne_true
 | str a=>
   obtain⟨t',rfl⟩:=ry
   cases x with
   | non=>cases rx;exact SeqAt.EqAt.str_none a t'
   | bl b=>cases rx;exact SeqAt.EqAt.str_bool a t' b
   | int b=>obtain⟨t,rfl⟩:=rx;exact SeqAt.EqAt.str_int a t' b t
   | str b=>obtain⟨t,rfl⟩:=rx;exact SeqAt.EqAt.str_str a t' b t
   | _=>exact absurd (show false=true from fx) Bool.false_ne_true
 | _=>exact absurd (show false=true from fy) Bool.false_ne_true
def eqU (x:V) (u:Value):Bool:=match u with
 | .none=>eqV .non x
 | .bool b=>eqV (.bl b) x
 | .int i _=>eqV (.int i) x
 | .str z _=>eqV (.str z) x
 | _=>false
theorem Rr {x y:V}{u:Value} (r:RelV y u) (f:uU y=true):eqU x u=eqV y x:=by
 cases y with
 | non=>cases r;rfl
 | bl b=>cases r;rfl
 | int i=>obtain⟨t,rfl⟩:=r;rfl
 | str z=>obtain⟨t,rfl⟩:=r;rfl
 | _=>exact absurd (show false=true from f) Bool.false_ne_true
theorem Ii {x:V}:∀{xs:List V}{us:List Value},Vals xs us->xs.all uU=true->us.any (eqU x)=xs.any fun y=>eqV y x
 | _,_, .nil,_=>rfl
 | y::xs,u::us, .cons r t,f=>by
   rw[List.all_cons,Bool.and_eq_true] at f
   rw[List.any_cons,List.any_cons,Rr r f.1,Ii t f.2]
theorem Eb {A:Around}{s:Shared}{x:V}{v:Value} (rx:RelV x v) (fx:uU x=true):∀{xs:List V}{us:List Value},Vals xs us->xs.all uU=true->∀u∈us,SeqAt.EqAt A s u v (eqU x u)
 | _,_, .nil,_=>fun u hu=>by cases hu
 | y::xs,u::us, .cons r t,f=>fun u' hu=>by
   rw[List.all_cons,Bool.and_eq_true] at f
   rcases List.mem_cons.mp hu with rfl | hu
   ·rw[Rr r f.1];exact ZV r rx f.1 fx
   ·exact Eb rx fx t f.2 u' hu
def inV (x:V) (xs:List V):Bool:=xs.any fun y=>eqV y x
def rIn (K:PySem.W.Frag) (neg:Bool):R2:=fun x y H Q=>∃p xs,y= .ref p/\(SqL K H p xs\/SqT K H p xs)/\uU x=true/\xs.all uU=true/\Q (.bl (if neg then !inV x xs else inV x xs)) H
theorem PX:OpR X (compareOp .In) (rIn X.K false):=by
 intro pins s σ H x y v u Q I rx ry h
 obtain⟨p,xs,rfl,hq,fx,fs,q⟩:=h
 cases ry
 rcases hq with hq | hq
 ·obtain⟨its,r,pl,hz⟩:=I.list hq
  refine SeqAt.in_listAt (eqU x) pl.isList (fun w hw=>Eb rx fx r fs w (by simpa using hw)) ⟨.bl _,H,I,rfl, ?_⟩
  rw[show its.toArray.any (eqU x)=its.any (eqU x) by simp,Ii r fs]
  exact q
 ·obtain⟨its,r,pl,hz⟩:=I.tuple hq
  refine SeqAt.in_tupleAt (eqU x) pl (fun w hw=>Eb rx fx r fs w (by simpa using hw)) ⟨.bl _,H,I,rfl, ?_⟩
  rw[show its.toArray.any (eqU x)=its.any (eqU x) by simp,Ii r fs]
  exact q
theorem Ij:pM X (.builtin "len") (fun xs H Q=>∃p ys,xs=[.ref p]/\(SqL X.K H p ys\/SqT X.K H p ys)/\Q (.int ys.length) H):=by
 intro pins s σ H xs us Q I r h
 obtain⟨p,ys,rfl,hq,q⟩:=h
 obtain⟨u,rfl,rx⟩:=vals1 r
 cases rx
 have hn:=Bl
 rcases hq with hq | hq
 ·obtain⟨its,r',pl,hz⟩:=I.list hq
  have hlen:=r'.length
  exact Calls.call_len_list pl.isList (by simp only[List.size_toArray]<;>omega) ⟨.int ys.length,H,I.tok _,⟨s.toks+1,by rw[List.size_toArray,hlen]⟩,q⟩
 ·obtain⟨its,r',pl,hz⟩:=I.tuple hq
  have hlen:=r'.length
  exact len_tuple pl (by simp only[List.size_toArray]<;>omega) ⟨.int ys.length,H,I.tok _,⟨s.toks+1,by rw[List.size_toArray,hlen]⟩,q⟩
theorem Ik:pM X (.builtin "len") (fun xs H Q=>∃z,xs=[.str z]/\z.length<=sizeLine/\Q (.int z.length) H):=by
 intro pins s σ H xs us Q I r h
 obtain⟨z,rfl,hz,q⟩:=h
 obtain⟨u,rfl,t,rfl⟩:=vals1 r
 have hn:=Bl
 exact len_str (by omega) ⟨.int z.length,H,I.tok _,⟨_,rfl⟩,q⟩
theorem Il:pM X (.type "list") (fun xs H Q=>∃p ys,xs=[.ref p]/\(SqL X.K H p ys\/SqT X.K H p ys)/\∀l,H l=none->Q (.ref l) (upd H l (.lst ys))):=by
 intro pins s σ H xs us Q I r h
 obtain⟨p,ys,rfl,hq,q⟩:=h
 obtain⟨u,rfl,rx⟩:=vals1 r
 cases rx
 have fin:∀(its:List Value),Vals ys its->ys.length<=sizeLine->∀(h':Heap) (c':Nat),(∀b o',s.heap.get? b=some o'->h'.get? b=some o')->
  h'.get? s.heap.objs.size=some {cls:= .type "list",dict:=none,data:= .seq its.toArray c',slots:= #[]}->EP X pins σ Q (.ref s.heap.objs.size) {s with heap:=h'}:=fun its r' hz h' c' kp e=>
  ⟨.ref s.heap.objs.size,_,I.laid (t':=s.toks) kp (Nat.le_refl _) (show eF X.prog X.w _ h' _ (.lst ys) from⟨hz,its,c',r',e⟩),rfl,q _ (I.hok.fresh (Nat.le_refl _))⟩
 rcases hq with hq | hq
 ·obtain⟨its,r',pl,hz⟩:=I.list hq
  have hlen:=r'.length
  obtain⟨o,ho,hc,n,hd⟩:=pl.isList
  exact call_list_seq p (.inl rfl) ho hc hd (fun h' c' kp e=>fin its r' hz h' c' kp e) (by simp only[List.size_toArray]<;>omega)
 ·obtain⟨its,r',pl,hz⟩:=I.tuple hq
  have hlen:=r'.length
  obtain⟨o,ho,hc,n,hd⟩:=pl
  exact call_list_seq p (.inr rfl) ho hc hd (fun h' c' kp e=>fin its r' hz h' c' kp e) (by simp only[List.size_toArray]<;>omega)
theorem Gv:pM X (.type "tuple") (fun xs H Q=>∃p ys,xs=[.ref p]/\((SqL X.K H p ys/\∀l,H l=none->Q (.ref l) (upd H l (.tup ys)))\/(SqT X.K H p ys/\Q (.ref p) H))):=by
 intro pins s σ H xs us Q I r h
 obtain⟨p,ys,rfl,h⟩:=h
 obtain⟨u,rfl,rx⟩:=vals1 r
 cases rx
 rcases h with⟨hq,q⟩ | ⟨hq,q⟩
 ·obtain⟨its,r',pl,hz⟩:=I.list hq
  have hlen:=r'.length
  refine call_tuple_list pl.isList (fun h' kp=> ?_) (by simp only[List.size_toArray]<;>omega)
  have I1:Inv X pins σ H {s with heap:=h'}:=I.kept (t':=s.toks) kp
  have I2:Inv X pins σ (upd H h'.objs.size (.tup ys)) {s with heap:=h'.push {cls:= .type "tuple",data:= .seq its.toArray}}:=
   I1.laid (t':=s.toks) (fun b o e=>Heap.get?_push_of_some _ e) (Nat.le_refl _) (show eF X.prog X.w _ _ _ (.tup ys) from⟨hz,its,r',IsTup.new _ _⟩)
  exact⟨.ref h'.objs.size,_,I2,rfl,q _ (I1.hok.fresh (Nat.le_refl _))⟩
 ·obtain⟨its,r',pl,hz⟩:=I.tuple hq
  exact call_tuple_same pl ⟨.ref p,H,I,rfl,q⟩
def tyV (K:PySem.W.Frag) (T:String) (x:V) (H:Hp):Prop:=match x with
 | .str _=>T="str"
 | .int _=>T="int"
 | .ref p=>(T="list"/\∃xs,SqL K H p xs)\/(T="tuple"/\∃o,K.lookup p=some o/\o.cls= .type "tuple"/\o.dict=none)\/
     (T="dict"/\((∃kvs,H p=some (.dK kvs))\/∃kvs,H p=some (.dT kvs)))\/(T="set"/\∃S n,H p=some (.set S n))
 | _=>False
theorem Rt {pins:List (Addr×Obj)}{σ:St}{H:Hp}{s:Shared}{T:String}{x:V}{v:Value} (I:Inv X pins σ H s) (r:RelV x v) (ty:tyV X.K T x H):
 s.TypeIs v T/\∀a,v= .ref a->∃ob,s.heap.get? a=some ob/\ob.dict=none:=by
 cases x with
 | str z=>
   obtain⟨t,rfl⟩:=r
   cases(show T="str" from ty)
   exact⟨typeIs_str s z t,fun _ e=>nomatch e⟩
 | int i=>
   obtain⟨t,rfl⟩:=r
   cases(show T="int" from ty)
   exact⟨typeIs_int s i t,fun _ e=>nomatch e⟩
 | ref p=>
   cases r
   rcases ty with⟨rfl,xs,hq⟩ | ⟨rfl,o,hk,hc,hd⟩ | ⟨rfl,hk⟩ | ⟨rfl,S,n,hk⟩
   ·obtain⟨its,_,pl,_⟩:=I.list hq
    refine⟨pl.isList.typeIs,fun a e=> ?_⟩
    cases e
    obtain⟨o,n,e,c,hd,_⟩:=pl
    exact⟨o,e,hd⟩
   ·refine⟨⟨o,I.kIn p o hk,hc⟩,fun a e=> ?_⟩
    cases e
    exact⟨o,I.kIn _ o hk,hd⟩
   ·have z:∃o,s.heap.get? p=some o/\o.ExactDict:=by
     rcases hk with⟨kvs,hk⟩ | ⟨kvs,hk⟩
     ·obtain⟨_,_,_,_,o,_,_,e,ex,_⟩:=I.hok p _ hk
      exact⟨o,e,ex⟩
     ·obtain⟨_,_,_,_,o,_,_,e,ex,_⟩:=I.hok p _ hk
      exact⟨o,e,ex⟩
    obtain⟨o,e,ex⟩:=z
    refine⟨⟨o,e,ex.1⟩,fun a e2=> ?_⟩
    cases e2
    exact⟨o,e,ex.2.1⟩
   ·obtain⟨o,_,_,_,e,ex,_⟩:=I.hok p _ hk
    refine⟨⟨o,e,ex.1⟩,fun a e2=> ?_⟩
    cases e2
    exact⟨o,e,ex.2.1⟩
 | _=>exact False.elim ty
def ac9 (K:PySem.W.Frag) (T:String) (r:V->List V->Hp->VK->Prop) (to:TE):TE:=fun σ H Q=>to σ H fun x H1=>tyV K T x H1/\r x [] H1 Q
def tBM (K:PySem.W.Frag) (T:String) (r:V->List V->Hp->VK->Prop) (to:TE) (t:TA):TE:=fun σ H Q=>to σ H fun x H1=>tyV K T x H1/\t σ H1 fun xs H2=>r x xs H2 Q
variable {o e:Expr}{es:List Expr}{to:TE}{t:TA}{name:Str}{apos cpos:Pos}{T id:String}{r:V->List V->Hp->VK->Prop}
theorem ZW (pa:PlainAttrs T) (slot:Slot T name id) (hty:typeOf (.builtin id)=pure (.type "method_descriptor")) (hm:MtR X id r) (ho:PE X o to)
 (hbase:attributeBase o name X.env (eval o X.env)=eval o X.env:=by rfl) (hline:(apos.endLine==cpos.line)=true:=by rfl):PE X (.Call (.Attribute o name apos) [] [] cpos) (ac9 X.K T r to):=by
 intro pins s σ H Q I h
 refine wpAny_Call_method0_late hbase hline (thn (ho pins s σ H _ I h) fun v s1 ⟨x,H1,I1,r1,ty,q1⟩=> ?_)
 obtain⟨h1,h2⟩:=Rt I1 r1 ty
 exact⟨T,id,pa,slot,hty,h1,h2,Calls.callWith_builtin rfl (PySem.evalArgs_none (hm pins s1 σ H1 x [] v [] Q I1 r1 .nil q1))⟩
theorem ada (pa:PlainAttrs T) (slot:Slot T name id) (hty:typeOf (.builtin id)=pure (.type "method_descriptor")) (hm:MtR X id r) (ho:PE X o to) (ha:PA X (e::es) t)
 (hbase:attributeBase o name X.env (eval o X.env)=eval o X.env:=by rfl)
 (hfew:((backTo cpos (starEach (e::es) X.env)).all (fun x=> !x.1)&&(backToKw cpos (keywordEach [] X.env)).all (fun x=>x.1.isSome)
   &&decide ((e::es).length+([]:List Keyword).length+(if([]:List Keyword).isEmpty then 0 else 1)<30))=true:=by rfl)
 (hline:(apos.endLine==cpos.line)=true:=by rfl) (hs:starEach (e::es) X.env=(false,eval e X.env)::starEach es X.env:=by rfl) (hplain:(backTo cpos (starEach es X.env)).any (·.1)=false:=by rfl):
 PE X (.Call (.Attribute o name apos) (e::es) [] cpos) (tBM X.K T r to t):=by
 intro pins s σ H Q I h
 refine wpAny_Call_method_late hbase hfew hline rfl (thn (ho pins s σ H _ I h) fun v s1 ⟨x,H1,I1,r1,ty,q1⟩=> ?_)
 obtain⟨h1,h2⟩:=Rt I1 r1 ty
 refine⟨T,id,pa,slot,hty,h1,h2, ?_⟩
 have hA:=ha cpos pins s1 σ H1 _ I1 q1
 rw[hs] at hA ⊢
 refine Calls.callWith_builtin (by show(false||(backTo cpos (starEach es X.env)).any (·.1))=false;rw[hplain]<;>rfl) (Calls.evalArgs_plain ?_)
 exact thn hA fun us s2 ⟨vs,H2,I2,r2,q2⟩=>hm pins s2 σ H2 x vs v us Q I2 r1 r2 q2
/- xs.append(e),list.index on a module's tuple .. are MtR facts of 06m -/
end
def MtM (X:Cx) (id:String) (r:V->List V->Hp->VK->Prop):Prop:=
 ∀(pins:List (Addr×Obj)) (s:Shared) (σ:St) (H:Hp) (x:V) (xs:List V) (v:Value) (us:List Value) (Q:VK),Inv X pins σ H s->RelV x v->Vals xs us->r x xs H Q->
  wpAny (model X.prog X.w) X.A (call (.builtin id) (v::us)) (EP X pins σ Q) X.xe s
theorem Vals.one:∀{x:V}{us:List Value},Vals [x] us->∃u,us=[u]/\RelV x u
 | _,_, .cons r .nil=>⟨_,rfl,r⟩
theorem Vals.two:∀{x y:V}{us:List Value},Vals [x,y] us->∃u v,us=[u,v]/\RelV x u/\RelV y v
 | _,_,_, .cons r (.cons q .nil)=>⟨_,_,rfl,r,q⟩
theorem Vals.zero:∀{us:List Value},Vals [] us->us=[]
 | _, .nil=>rfl
theorem Vals.dropLast {xs:List V}{us:List Value} (h:Vals xs us):Vals xs.dropLast us.dropLast:=by
 induction h with
 | nil=>exact .nil
 | cons r t ih=>
   cases t with
   | nil=>exact .nil
   | cons q t'=>exact .cons r ih
theorem Mg {α:Type} (l:List α):l.eraseIdx (l.length - 1)=l.dropLast:=by
 induction l with
 | nil=>rfl
 | cons a r ih=>
   cases r with
   | nil=>rfl
   | cons b r=>
     have e:(a::b::r).length - 1=((b::r).length - 1)+1:=by
      have h1:(a::b::r).length=r.length+2:=rfl
      have h2:(b::r).length=r.length+1:=rfl
      omega
     rw[e,List.eraseIdx_cons_succ,ih]
     all_goals rfl
section
variable {X:Cx}{pins:List (Addr×Obj)}{σ:St}{H:Hp}{s:Shared}{l b:Addr}{xs ys zs:List V}
theorem Inv.lset {its its':List Value}{n:Nat}{f:Array Value->Array Value}{t':Nat} (I:Inv X pins σ H s) (hH:H l=some (.lst xs))
 (e:s.heap.get? l=some {cls:= .type "list",data:= .seq its.toArray n}) (hf:f its.toArray=its'.toArray) (hv:Vals ys its') (hz:ys.length<=sizeLine):
 Inv X pins σ (upd H l (.lst ys)) {s with heap:=s.heap.update l (Obj.mapSeq f),toks:=t'}:=by
 have q:=PySem.IsL.update e f
 rw[hf] at q
 refine I.write (x:=l) (e:=l) (by rw[hH];exact trivial) (.inl rfl) (fun b' u hb hu=>(Heap.get?_update_other s.heap (Obj.mapSeq f) (Ne.symm hb)).trans hu) ⟨_,q⟩ ?_
 exact⟨hz,its',_,hv,q⟩
theorem Inv.lnew {its:List Value}{t':Nat} (I:Inv X pins σ H s) (hv:Vals ys its) (hz:ys.length<=sizeLine):
 Inv X pins σ (upd H s.heap.objs.size (.lst ys)) {s with heap:=s.heap.push {cls:= .type "list",data:= .seq its.toArray},toks:=t'}:=
 I.laid (fun _ _ q=>Heap.get?_push_of_some _ q) (Nat.le_refl _) ⟨hz,its,0,hv,Heap.get?_push_size _ rfl⟩
theorem Inv.fresh (I:Inv X pins σ H s):H s.heap.objs.size=none:=I.hok.fresh (Nat.le_refl _)
theorem Inv.P0 (I:Inv X pins σ H s) (hH:H l=some (.lst xs)):xs.length<=sizeLine/\∃(its:List Value) (n:Nat),Vals xs its/\xs.length=its.length/\s.heap.get? l=some {cls:= .type "list",data:= .seq its.toArray n}:=by
 obtain⟨z,its,n,r,e⟩:=I.hok l _ hH
 exact⟨z,its,n,r,r.length,e⟩
theorem Ru {n:Nat} (h:n<=sizeLine):Builtin.List.listTooLong n=false:=by
 unfold Builtin.List.listTooLong
 exact decide_eq_false (by omega)
end
section
variable {X:Cx}
def N8:V->List V->Hp->VK->Prop:=fun x vs H Q=>∃l xs y,x= .ref l/\vs=[y]/\H l=some (.lst xs)/\xs.length<sizeLine/\Q .non (upd H l (.lst (xs++[y])))
theorem Hg:MtM X "list.append" N8:=by
 intro pins s σ H x vs v us Q I rx rv h
 obtain⟨l,xs,y,rfl,rfl,hH,hz,q⟩:=h
 cases rx
 obtain⟨u,rfl,ru⟩:=rv.one
 obtain⟨z,its,n,r,hl,e⟩:=I.P0 hH
 refine call_meets F.slot_list_append ⟨_,e,rfl⟩ F.entry_list_append (F.args_list_append_2 _ _) (PySem.list_append l its.toArray n u (by rw[List.size_toArray];omega)) ⟨e, ?_⟩
 refine⟨.non,_,I.lset (its':=its++[u]) hH e (by simp) (r.append (.cons ru .nil)) ?_,rfl,q⟩
 rw[List.length_append,List.length_singleton]
 omega
def Oa:V->List V->Hp->VK->Prop:=fun x vs H Q=>∃l b xs zs,x= .ref l/\vs=[.ref b]/\H l=some (.lst xs)/\H b=some (.lst zs)/\xs.length+zs.length<=sizeLine/\Q .non (upd H l (.lst (xs++zs)))
theorem Qa:MtM X "list.extend" Oa:=by
 intro pins s σ H x vs v us Q I rx rv h
 obtain⟨l,b,xs,zs,rfl,rfl,hH,hB,hz,q⟩:=h
 cases rx
 obtain⟨u,rfl,ru⟩:=rv.one
 cases ru
 obtain⟨z,its,n,r,hl,e⟩:=I.P0 hH
 obtain⟨z2,its2,n2,r2,hl2,e2⟩:=I.P0 hB
 have hsz:its.toArray.size+its2.toArray.size<=sizeLine:=by rw[List.size_toArray,List.size_toArray];omega
 have hlong:¬(!its.toArray.isEmpty&&Builtin.List.listTooLong (its.toArray.size+its2.toArray.size))=true:=by
  rw[Ru hsz,Bool.and_false]
  exact Bool.false_ne_true
 refine call_meets F.slot_list_extend ⟨_,e,rfl⟩ F.entry_list_extend (F.args_list_extend_2 _ _)
  (AutoSeq1.list_extend_list_list_0 l its.toArray n b its2.toArray n2 hlong (by rw[List.size_toArray];omega) (by omega)) ⟨e,e2, ?_⟩
 refine⟨.non,_,I.lset (its':=its++its2) hH e (by simp) (r.append r2) ?_,rfl,q⟩
 rw[List.length_append]
 omega
def adb:V->List V->Hp->VK->Prop:=fun x vs H Q=>∃l xs y,x= .ref l/\vs=[]/\H l=some (.lst xs)/\xs[xs.length - 1]? =some y/\Q y (upd H l (.lst xs.dropLast))
theorem ZX:MtM X "list.pop" adb:=by
 intro pins s σ H x vs v us Q I rx rv h
 obtain⟨l,xs,y,rfl,rfl,hH,hy,q⟩:=h
 cases rx
 have hus:=rv.zero
 subst hus
 obtain⟨z,its,n,r,hl,e⟩:=I.P0 hH
 obtain⟨u,hu,ru⟩:=r.get hy
 have hy':its.toArray[its.toArray.size - 1]? =some u:=by
  show its.toArray[its.length - 1]? =some u
  rw[<-Array.getElem?_toList,<-hl]
  exact hu
 refine call_meets F.slot_list_pop ⟨_,e,rfl⟩ F.entry_list_pop (F.args_list_pop_1 _) (MeetsSeq.list_pop_last l its.toArray n u hy' (by rw[List.size_toArray];omega)) ⟨e, ?_⟩
 refine⟨y,_,I.lset (its':=its.dropLast) hH e ?_ r.dropLast ?_,ru,q⟩
 ·show its.toArray.eraseIdxIfInBounds (its.toArray.size - 1)=its.dropLast.toArray
  rw[List.size_toArray,List.eraseIdxIfInBounds_toArray,Mg]
 ·rw[List.length_dropLast]
  omega
def ade:R2:=fun x y H Q=>∃l b xs zs,x= .ref l/\y= .ref b/\H l=some (.lst xs)/\H b=some (.lst zs)/\xs.length+zs.length<=sizeLine/\∀p,H p=none->Q (.ref p) (upd H p (.lst (xs++zs)))
theorem ZZ:OpR X (binaryOp .Add) ade:=by
 intro pins s σ H x y v u Q I rx ry h
 obtain⟨l,b,xs,zs,rfl,rfl,hH,hB,hz,q⟩:=h
 cases rx
 cases ry
 obtain⟨z,its,n,r,hl,e⟩:=I.P0 hH
 obtain⟨z2,its2,n2,r2,hl2,e2⟩:=I.P0 hB
 refine PySem.P.add_list e e2 ?_ (by rw[List.size_toArray,List.size_toArray];omega)
 have ea:its.toArray++its2.toArray=(its++its2).toArray:=by simp
 rw[ea]
 exact⟨.ref _,_,I.lnew (t':=s.toks) (r.append r2) (by rw[List.length_append];omega),rfl,q _ I.fresh⟩
end
section
variable {prog:Program}{w:World}{A:Around}{E:Value->Shared->Prop}{s:Shared}
end
section
variable {X:Cx}
end
section
variable {κ:Type} [DecidableEq κ]
def dX (kvs:List (κ×V)) (k:κ):Option V:=(kvs.find? fun kv=>decide (kv.1=k)).map (·.2)
def putK (kvs:List (κ×V)) (k:κ) (v:V):List (κ×V):=
 if(kvs.any fun kv=>decide (kv.1=k))=true then kvs.map (fun kv=>if kv.1=k then(kv.1,v) else kv) else kvs++[(k,v)]
theorem pN {k:κ}:dX ([]:List (κ×V)) k=none:=rfl
theorem jL {p:κ×V}{r:List (κ×V)}{k:κ} (e:p.1=k):dX (p::r) k=some p.2:=by simp[dX,List.find?_cons,e]
theorem jM {p:κ×V}{r:List (κ×V)}{k:κ} (e:¬p.1=k):dX (p::r) k=dX r k:=by simp[dX,List.find?_cons,e]
theorem vI (k:κ):∀kvs:List (κ×V),(kvs.any fun kv=>decide (kv.1=k))=(dX kvs k).isSome
 |[]=>rfl
 | p::r=>by
   rw[List.any_cons]
   by_cases e:p.1=k
   ·simp only[jL e,decide_eq_true e,Bool.true_or,Option.isSome_some]
   ·rw[jM e,decide_eq_false e,Bool.false_or];exact vI k r
theorem JZ (k j:κ) (y:V):∀kvs:List (κ×V),dX (kvs.map fun kv=>if kv.1=k then(kv.1,y) else kv) j=(dX kvs j).map fun x=>if j=k then y else x
 |[]=>rfl
 | p::r=>by
   have ih:=JZ k j y r
   rw[List.map_cons]
   by_cases h:p.1=k
   ·rw[if_pos h]
    by_cases e:p.1=j
    ·rw[jL (p:=(p.1,y)) e,jL e,Option.map_some,if_pos (e.symm.trans h)]
    ·rw[jM (p:=(p.1,y)) e,jM e,ih]
   ·rw[if_neg h]
    by_cases e:p.1=j
    ·rw[jL (p:=p) e,jL e,Option.map_some,if_neg (fun z=>h (e.trans z))]
    ·rw[jM (p:=p) e,jM e,ih]
theorem Hh (k j:κ) (y:V):∀kvs:List (κ×V),dX kvs k=none->dX (kvs++[(k,y)]) j=if j=k then some y else dX kvs j
 |[],_=>by
  by_cases e:k=j
  ·rw[if_pos e.symm];exact jL (p:=(k,y)) e
  ·rw[if_neg (fun z=>e z.symm)];exact jM (p:=(k,y)) e
 | p::r,hn=>by
   rw[List.cons_append]
   have hk:¬p.1=k:=fun z=>by rw[jL z] at hn;cases hn
   rw[jM hk] at hn
   have ih:=Hh k j y r hn
   by_cases e:p.1=j
   ·rw[jL e,jL e,if_neg (fun z=>hk (e.trans z))]
   ·rw[jM e,jM e,ih]
theorem jw (kvs:List (κ×V)) (k j:κ) (y:V):dX (putK kvs k y) j=if j=k then some y else dX kvs j:=by
 unfold putK
 by_cases a:(kvs.any fun kv=>decide (kv.1=k))=true
 ·rw[if_pos a,JZ]
  rw[vI] at a
  by_cases e:j=k
  ·obtain⟨x,hx⟩:=Option.isSome_iff_exists.mp a
   rw[if_pos e,e,hx,Option.map_some,if_pos rfl]
  ·rw[if_neg e]
   cases dX kvs j with
   | none=>rfl
   | some x=>rw[Option.map_some,if_neg e]
 ·rw[if_neg a]
  refine Hh k j y kvs ?_
  rw[vI] at a
  cases q:dX kvs k with
  | none=>rfl
  | some x=>rw[q] at a;exact(a rfl).elim
theorem vJ (kvs:List (κ×V)) (k:κ) (v:V):(putK kvs k v).length<=kvs.length+1:=by
 unfold putK
 split
 ·rw[List.length_map];omega
 ·rw[List.length_append,List.length_cons,List.length_nil];omega
theorem u6.rN {o:Option V}{u:Option Value} (r:u6 o u):o.isSome=u.isSome:=by
 cases o with
 | none=>cases u with
   | none=>rfl
   | some _=>exact(show False from r).elim
 | some _=>cases u with
   | none=>exact(show False from r).elim
   | some _=>rfl
theorem KV.val {kvs:List (κ×V)}{vs:List (κ×Value)} (r:KV kvs vs) (k:κ):u6 (dX kvs k) (valueAt vs k):=by
 unfold KV at r
 induction r with
 | nil=>exact True.intro
 | @cons p q ps qs h t ih=>
   obtain⟨h1,h2⟩:=h
   by_cases e:p.1=k
   ·have e':q.1=k:=h1.symm.trans e
    have b:valueAt (q::qs) k=some q.2:=by simp[valueAt,List.find?_cons,e']
    rw[jL e,b];exact h2
   ·have e':¬q.1=k:=fun z=>e (h1.trans z)
    have b:valueAt (q::qs) k=valueAt qs k:=by simp[valueAt,List.find?_cons,e']
    rw[jM e,b];exact ih
theorem KV.any {kvs:List (κ×V)}{vs:List (κ×Value)} (r:KV kvs vs) (k:κ):(kvs.any fun kv=>decide (kv.1=k))=vs.any fun kv=>decide (kv.1=k):=by
 unfold KV at r
 induction r with
 | nil=>rfl
 | cons h t ih=>rw[List.any_cons,List.any_cons,ih,h.1]
theorem KV.repl {kvs:List (κ×V)}{vs:List (κ×Value)} (r:KV kvs vs) (k:κ) {y:V}{u:Value} (ry:RelV y u):
 KV (kvs.map fun kv=>if kv.1=k then(kv.1,y) else kv) (vs.map fun kv=>if kv.1=k then(kv.1,u) else kv):=by
 unfold KV at r ⊢
 induction r with
 | nil=>exact .nil
 | @cons p q ps qs h t ih=>
   rw[List.map_cons,List.map_cons]
   refine .cons ?_ ih
   obtain⟨h1,h2⟩:=h
   by_cases e:p.1=k
   ·rw[if_pos e,if_pos (h1.symm.trans e)];exact⟨h1,ry⟩
   ·rw[if_neg e,if_neg (fun z=>e (h1.trans z))];exact⟨h1,h2⟩
theorem KV.put {kvs:List (κ×V)}{vs:List (κ×Value)} (r:KV kvs vs) (k:κ) {y:V}{u:Value} (ry:RelV y u):KV (putK kvs k y) (stored vs k u):=by
 unfold putK stored
 rw[r.any k]
 by_cases e:(vs.any fun kv=>decide (kv.1=k))=true
 ·rw[if_pos e,if_pos e];exact r.repl k ry
 ·rw[if_neg e,if_neg e];exact Paired.snoc r ⟨rfl,ry⟩
theorem KV.length {kvs:List (κ×V)}{vs:List (κ×Value)} (r:KV kvs vs):kvs.length=vs.length:=Paired.length r
end
theorem Hi {P:Program}{w:World}{k:Key}{u:Value} (r:RelV (kV k) u):(dR P w).is k u=true:=by
 cases k with
 | inl i=>obtain⟨t,e⟩:=(show∃t,u=Value.int i t from r);subst e;exact JN P w i t
 | inr x=>obtain⟨t,e⟩:=(show∃t,u=Value.str x t from r);subst e;exact JP P w x t
theorem Hj {P:Program}{w:World}:∀{ks:List Key}{us:List Value},Vals (ks.map kV) us->ItemsAre (dR P w) ks us
 |[],_,r=>by rw[List.map_nil] at r;cases r;exact .nil
 | k::ks,_,r=>by
   rw[List.map_cons] at r
   cases r with
   | cons h t=>exact .cons (Hi h) (Hj t)
abbrev KT (H:Hp):List (List Key×V)->List (List Key×Addr×Value)->Prop:=Paired fun p q=>p.1=q.1/\H q.2.1=some (.tup (p.1.map kV))/\RelV p.2 q.2.2
theorem KT.val {H:Hp}{kvs:List (List Key×V)}{xs:List (List Key×Addr×Value)} (r:KT H kvs xs) (k:List Key):u6 (dX kvs k) ((atKey xs k).map (·.2)):=by
 induction r with
 | nil=>exact True.intro
 | @cons p q ps qs h t ih=>
   obtain⟨h1,_,h2⟩:=h
   by_cases e:p.1=k
   ·have e':q.1=k:=h1.symm.trans e
    have b:atKey (q::qs) k=some q.2:=by simp[atKey,List.find?_cons,e']
    rw[jL e,b];exact h2
   ·have e':¬q.1=k:=fun z=>e (h1.trans z)
    have b:atKey (q::qs) k=atKey qs k:=by simp[atKey,List.find?_cons,e']
    rw[jM e,b];exact ih
theorem KT.repl {H:Hp}{kvs:List (List Key×V)}{xs:List (List Key×Addr×Value)} (r:KT H kvs xs) (k:List Key) {y:V}{u:Value} (ry:RelV y u):
 KT H (kvs.map fun kv=>if kv.1=k then(kv.1,y) else kv) (xs.map (putAt k u)):=by
 induction r with
 | nil=>exact .nil
 | @cons p q ps qs h t ih=>
   rw[List.map_cons,List.map_cons]
   refine .cons ?_ ih
   obtain⟨h1,h2,h3⟩:=h
   unfold putAt
   by_cases e:p.1=k
   ·rw[if_pos e,if_pos (h1.symm.trans e)];exact⟨h1,h2,ry⟩
   ·rw[if_neg e,if_neg (fun z=>e (h1.trans z))];exact⟨h1,h2,h3⟩
theorem KT.put {H:Hp}{kvs:List (List Key×V)}{xs:List (List Key×Addr×Value)} (r:KT H kvs xs) (k:List Key) {b:Addr}{y:V}{u:Value} (hb:H b=some (.tup (k.map kV))) (ry:RelV y u):
 KT H (putK kvs k y) (storedH xs k b u):=by
 have e:(kvs.any fun kv=>decide (kv.1=k))=(atKey xs k).isSome:=by
  rw[vI,(r.val k).rN,Option.isSome_map]
 unfold putK storedH
 rw[e]
 by_cases q:(atKey xs k).isSome=true
 ·rw[if_pos q,if_pos q];exact r.repl k ry
 ·rw[if_neg q,if_neg q];exact Paired.snoc r ⟨rfl,hb,ry⟩
theorem KT.keeps {H H':Hp}{kvs:List (List Key×V)}{xs:List (List Key×Addr×Value)} (r:KT H kvs xs) (ht:∀b ys,H b=some (.tup ys)->H' b=some (.tup ys)):KT H' kvs xs:=
 Paired.YW r fun _ _ z=>⟨z.1,ht _ _ z.2.1,z.2.2⟩
section
variable {P:Program}{w:World}{H:Hp}{h:Heap}{a:Addr}
theorem XR {u:HO} (ok:HOk P w H h) (e:Rd H a u):eF P w H h a u:=e.ok ok
theorem Ec {kvs:List (Key×V)} (ok:HOk P w H h) (e:Rd H a (.dK kvs)):kvs.length<=sizeLine/\(a==sysModules)=false/\∃vs,KV kvs vs/\h.DictOf (dR P w) a vs:=
 show eF P w H h a (.dK kvs) from XR ok e
theorem Ob {kvs:List (Key×V)} (ok:HOk P w H h) (e:H a=some (.dK kvs)):kvs.length<=sizeLine/\(a==sysModules)=false/\∃vs,KV kvs vs/\h.DictOf (dR P w) a vs:=Ec ok (.inl e)
theorem Ed {ks:List Key} (ok:HOk P w H h) (e:H a=some (.tup (ks.map kV))):(tupleKind (dR P w)).is h ks a:=by
 obtain⟨_,its,r,o,h1,h2,n,h3⟩:=(show eF P w H h a (.tup (ks.map kV)) from ok a _ e)
 exact⟨o,its.toArray,n,h1,h2,h3,by simpa using Hj r⟩
theorem Hl {kvs:List (List Key×V)} (ok:HOk P w H h) (e:Rd H a (.dT kvs)):kvs.length<=sizeLine/\(a==sysModules)=false/\
 ∃xs,KT H kvs xs/\h.DictOfH (tupleKind (dR P w)) a xs:=by
 obtain⟨z,y,xs,r,o,es,ep,h1,h2,h3,h4,h5⟩:=(show eF P w H h a (.dT kvs) from XR ok e)
 refine⟨z,y,xs,r,o,es,ep,h1,h2,h3,h4,fun x hx=> ?_,h5⟩
 have all:∀{l:List (List Key×V)}{m:List (List Key×Addr×Value)},KT H l m->∀x∈m,(tupleKind (dR P w)).is h x.1 x.2.1:=by
  intro l m q
  induction q with
  | nil=>intro x hx;exact nomatch hx
  | @cons p q ps qs hq t ih=>
    intro x hx
    rcases List.mem_cons.mp hx with e | hx
    ·subst e
     exact Ed ok (by rw[<-hq.1];exact hq.2.1)
    ·exact ih x hx
 exact all r x hx
theorem adf {kvs:List (List Key×V)} (ok:HOk P w H h) (e:H a=some (.dT kvs)):kvs.length<=sizeLine/\(a==sysModules)=false/\
 ∃xs,KT H kvs xs/\h.DictOfH (tupleKind (dR P w)) a xs:=Hl ok (.inl e)
end
def cL (H:Hp) (a:Addr) (y:V) (r:Option V):Prop:=
 (∃kvs k,Rd H a (.dK kvs)/\y=kV k/\r=dX kvs k)\/∃kvs k b,Rd H a (.dT kvs)/\y= .ref b/\H b=some (.tup (k.map kV))/\r=dX kvs k
def lD (H:Hp) (a:Addr) (y v:V) (H':Hp):Prop:=
 (∃kvs k,H a=some (.dK kvs)/\y=kV k/\kvs.length<sizeLine/\H'=upd H a (.dK (putK kvs k v)))\/
 ∃kvs k b,H a=some (.dT kvs)/\y= .ref b/\H b=some (.tup (k.map kV))/\kvs.length<sizeLine/\H'=upd H a (.dT (putK kvs k v))
theorem cL.k {H:Hp}{a:Addr}{kvs:List (Key×V)}{k:Key} (e:H a=some (.dK kvs)):cL H a (kV k) (dX kvs k):= .inl ⟨kvs,k, .inl e,rfl,rfl⟩
theorem lD.k {H:Hp}{a:Addr}{kvs:List (Key×V)}{k:Key}{v:V} (e:H a=some (.dK kvs)) (hl:kvs.length<sizeLine):lD H a (kV k) v (upd H a (.dK (putK kvs k v))):= .inl ⟨kvs,k,e,rfl,hl,rfl⟩
section
variable {X:Cx}{pins:List (Addr×Obj)}{σ:St}{H:Hp}{s:Shared}{a:Addr}{y v:V}{u r:Value}{o:Option V}{A:Around}{E:Value->Shared->Prop}
theorem Inv.big (I:Inv X pins σ H s):sysModules<s.heap.objs.size:=by
 have h:mainGlobals<s.heap.objs.size:=(I.mod.glob.keeps I.bk).lt
 exact Nat.lt_trans (by decide) h
theorem Qc {Q:Value->Shared->Prop} (hu:A.units+1<cLine) (I:Inv X pins σ H s) (g:cL H a y (some v)) (ry:RelV y u) (h:∀w' s',Inv X pins σ H s'->RelV v w'->Q w' s'):
 wpAny (model X.prog X.w) A (getItem (.ref a) u) Q E s:=by
 rcases g with⟨kvs,k,e,ey,l⟩ | ⟨kvs,k,b,e,ey,eb,l⟩
 ·subst ey
  obtain⟨z,hd,vs,rel,dd⟩:=Ec I.hok e
  obtain⟨w',hw,rw'⟩:=u6.some_of (v:=v) (o:=valueAt vs k) (by rw[l];exact rel.val k)
  exact wpAny_getItem_of (Hi ry) dd.mapOf hw (h w' _ (I.tok _) rw')
 ·subst ey
  cases(show u=Value.ref b from ry)
  obtain⟨z,hd,xs,rel,dd⟩:=Hl I.hok e
  obtain⟨w',hw,rw'⟩:=u6.some_of (v:=v) (o:=(atKey xs k).map (·.2)) (by rw[l];exact rel.val k)
  obtain⟨p,hp,hp2⟩:=Option.map_eq_some_iff.mp hw
  refine wpAny_getItem_heap (tupleKind_room_in1 hu) (Ed I.hok eb) dd hp ?_
  rw[hp2]
  exact h w' _ (I.tok _) rw'
theorem agI {Q:Value->Shared->Prop} (hu:A.units+1<cLine) (I:Inv X pins σ H s) (g:cL H a y o) (ry:RelV y u) (h:∀s',Inv X pins σ H s'->Q (.bool o.isSome) s'):
 wpAny (model X.prog X.w) A (compareOp .In u (.ref a)) Q E s:=by
 rcases g with⟨kvs,k,e,ey,l⟩ | ⟨kvs,k,b,e,ey,eb,l⟩
 ·subst ey
  obtain⟨z,hd,vs,rel,dd⟩:=Ec I.hok e
  refine wpAny_in_of (Hi ry) hd dd.mapOf ?_
  rw[<-(rel.val k).rN,<-l]
  exact h _ (I.tok _)
 ·subst ey
  cases(show u=Value.ref b from ry)
  obtain⟨z,hd,xs,rel,dd⟩:=Hl I.hok e
  refine wpAny_in_heap (tupleKind_room_in1 hu) (Ed I.hok eb) hd dd ?_
  have q:=(rel.val k).rN
  rw[Option.isSome_map] at q
  rw[<-q,<-l]
  exact h _ (I.tok _)
theorem Vm {Q:Value->Shared->Prop} (hu:A.units+1<cLine) (I:Inv X pins σ H s) (g:cL H a y o) (ry:RelV y u) (h:∀s',Inv X pins σ H s'->Q (.bool (!o.isSome)) s'):
 wpAny (model X.prog X.w) A (compareOp .NotIn u (.ref a)) Q E s:=by
 rcases g with⟨kvs,k,e,ey,l⟩ | ⟨kvs,k,b,e,ey,eb,l⟩
 ·subst ey
  obtain⟨z,hd,vs,rel,dd⟩:=Ec I.hok e
  refine wpAny_notIn_of (Hi ry) hd dd.mapOf ?_
  rw[<-(rel.val k).rN,<-l]
  exact h _ (I.tok _)
 ·subst ey
  cases(show u=Value.ref b from ry)
  obtain⟨z,hd,xs,rel,dd⟩:=Hl I.hok e
  refine wpAny_notIn_heap (tupleKind_room_in1 hu) (Ed I.hok eb) hd dd ?_
  have q:=(rel.val k).rN
  rw[Option.isSome_map] at q
  rw[<-q,<-l]
  exact h _ (I.tok _)
theorem Im {h':Heap}{t':Nat}{ob:HO} (I:Inv X pins σ H s) (mu:Mut (H a)) (hs:Heap.SameBut a s.heap h') (he:∃q,h'.get? a=some q) (new:eF X.prog X.w (upd H a ob) h' a ob):
 Inv X pins σ (upd H a ob) {s with heap:=h',toks:=t'}:=
 I.write (x:=a) (e:=a) mu (.inl rfl) (fun b q hb z=>(hs.2 b hb).trans z) he new
theorem Rv {P:Program}{w:World}{H':Hp}{h':Heap}{kvs:List (Key×V)}{vs:List (Key×Value)} (z:kvs.length<=sizeLine) (hd:(a==sysModules)=false) (rel:KV kvs vs) (dd:h'.DictOf (dR P w) a vs):
 eF P w H' h' a (.dK kvs):=⟨z,hd,vs,rel,dd⟩
theorem Qd {H':Hp}{Q:Unit->Shared->Prop} (hu:A.units+1<cLine) (I:Inv X pins σ H s) (g:lD H a y v H') (ry:RelV y u) (rv:RelV v r) (h:∀s',Inv X pins σ H' s'->Q () s'):
 wpAny (model X.prog X.w) A (setItem (.ref a) u r) Q E s:=by
 rcases g with⟨kvs,k,e,ey,l,eH⟩ | ⟨kvs,k,b,e,ey,eb,l,eH⟩
 ·subst ey eH
  obtain⟨z,hd,vs,rel,dd⟩:=Ob I.hok e
  have hz:vs.length<=sizeLine:=by rw[<-rel.length];exact z
  have hl:(putK kvs k v).length<=sizeLine:=by have:=vJ kvs k v;omega
  refine wpAny_setItem_pairs (hsz:=hz) (Hi ry) dd fun h' dd' hs=>h _ ?_
  have he:∃q,h'.get? a=some q:=let ⟨q,_,_,hq,_⟩:=dd';⟨q,hq⟩
  exact Im I (by rw[e];exact True.intro) hs he (Rv hl hd (rel.put k rv) dd')
 ·subst ey eH
  cases(show u=Value.ref b from ry)
  obtain⟨z,hd,xs,rel,dd⟩:=adf I.hok e
  have hz:xs.length<=sizeLine:=by rw[<-Paired.length rel];exact z
  have hl:(putK kvs k v).length<=sizeLine:=by have:=vJ kvs k v;omega
  refine wpAny_setItem_heap (hsz:=hz) (tupleKind_room_in1 hu) (Ed I.hok eb) dd fun h' dd' hs=>h _ ?_
  obtain⟨q,es,ep,hq,h2,h3,h4,_,h5⟩:=dd'
  refine Im I (by rw[e];exact True.intro) hs ⟨q,hq⟩ ⟨hl,hd,_,(rel.put k eb rv).keeps fun c ys ec=> ?_,q,es,ep,hq,h2,h3,h4,h5⟩
  rw[ao (acJ ec e (fun z=>nomatch z))]
  exact ec
end
section
variable {X:Cx}{pins:List (Addr×Obj)}{σ:St}{H:Hp}{s:Shared}{a:Addr}{kvs:List (Key×V)}{k:Key}{u:Value}{A:Around}{E:Value->Shared->Prop}
end
def Z0 (i:Expr):Prop:=∀ov iv,subscripted i false ov iv=operate [ov,iv] (getItem ov iv)
theorem Vn {prog:Program}{w:World}{A:Around}{E:Value->Shared->Prop}{s:Shared}{env:Env}{value slice:Expr}{pos:Pos}{T id:String}{Q:Value->Shared->Prop}
 (hl:typeLookup (.type T) "__getitem__"=pure (some (.builtin id))) (hs:Z0 slice)
 (h:wpAny (model prog w) A (eval value env) (fun o s₁=>wpAny (model prog w) A (eval slice env) (fun i s₂=>s₂.TypeIs o T/\wpAny (model prog w) A (getItem o i) Q E s₂) E s₁) E s):
 wpAny (model prog w) A (eval (.Subscript value slice pos) env) Q E s:=by
 refine Subscript_ (wpAny_mono h (fun o s₁ h₁=>wpAny_mono h₁ (fun i s₂ h₂=> ?_) fun _ _ x=>x) fun _ _ x=>x)
 obtain⟨hT,h₂⟩:=h₂
 unfold subscriptTail
 refine wpAny_bind ?_
 rw[getitemInPython_of_ne hT.not_modules]
 refine wpAny_bind (wpAny_specialOf hT hl ?_)
 have fin:wpAny (model prog w) A (subscripted slice false o i) (fun r s₃=>wpAny (model prog w) A (letTemporaryGo value o r>>=fun _=>pure r) Q E s₃) E s₂:=by
  rw[hs o i]
  exact wpAny_operating (wpAny_mono h₂ (fun r s₃ h₃=>wpAny_bind (wpAny_letTemporaryGo (wpAny_pure h₃))) fun _ _ x=>x)
 first
  | exact wpAny_pure (wpAny_bind fin)
  | exact wpAny_bind (wpAny_pure (wpAny_bind fin))
  | exact wpAny_bind fin
theorem J0 {X:Cx}{pins:List (Addr×Obj)}{σ:St}{H:Hp}{s:Shared}{a:Addr}{y:V}{o:Option V} (I:Inv X pins σ H s) (g:cL H a y o):s.TypeIs (.ref a) "dict":=by
 rcases g with⟨kvs,k,e,_,_⟩ | ⟨kvs,k,b,e,_,_,_⟩
 ·obtain⟨_,_,vs,_,dd⟩:=Ec I.hok e
  exact dd.typeIs
 ·obtain⟨_,_,xs,_,dd⟩:=Hl I.hok e
  exact dd.typeIs
def XS (td ty:TE):TE:=fun σ H Q=>td σ H fun x H1=>ty σ H1 fun y H2=>∃a v,x= .ref a/\cL H2 a y (some v)/\Q v H2
def adg (ty td:TE):TE:=fun σ H Q=>ty σ H fun y H1=>td σ H1 fun x H2=>∃a o,x= .ref a/\cL H2 a y o/\Q (.bl o.isSome) H2
def Oc (ty td:TE):TE:=fun σ H Q=>ty σ H fun y H1=>td σ H1 fun x H2=>∃a o,x= .ref a/\cL H2 a y o/\Q (.bl (!o.isSome)) H2
def XX (td ty tv:TE):TS:=fun D σ H=>tv σ H fun v H1=>td σ H1 fun x H2=>ty σ H2 fun y H3=>∃a H4,x= .ref a/\lD H3 a y v H4/\D.nx σ H4
section
variable {X:Cx}{o i e value:Expr}{pos pos' tpos:Pos}{td ty tv:TE}
theorem Vo (hu:X.A.units+1<cLine) (ho:PE X o td) (hi:PE X i ty) (hs:Z0 i):PE X (.Subscript o i pos) (XS td ty):=by
 intro pins s σ H Q I h
 refine Vn PySem.F.slot_dict_getitem.lookup hs (thn (ho pins s σ H _ I h) fun u s1 ⟨x,H1,I1,rx,q1⟩=>thn (hi pins s1 σ H1 _ I1 q1) fun iv s2 ⟨y,H2,I2,ry,a,v,ex,g,q2⟩=> ?_)
 subst ex
 obtain rfl:u=Value.ref a:=rx
 exact⟨J0 I2 g,Qc hu I2 g ry fun w' s3 I3 rw'=>⟨v,H2,I3,rw',q2⟩⟩
theorem aaa (hu:X.A.units+1<cLine) (hi:PE X i ty) (ho:PE X o td):PC X .In i o (adg ty td):=by
 intro pins s σ H Q I h
 refine thn (hi pins s σ H _ I h) fun iv s1 ⟨y,H1,I1,ry,q1⟩=>thn (ho pins s1 σ H1 _ I1 q1) fun u s2 ⟨x,H2,I2,rx,a,ov,ex,g,q2⟩=> ?_
 subst ex
 obtain rfl:u=Value.ref a:=rx
 exact agI hu I2 g ry fun s3 I3=>⟨.bl ov.isSome,H2,I3,rfl,q2⟩
theorem Qe (hu:X.A.units+1<cLine) (hi:PE X i ty) (ho:PE X o td):PC X .NotIn i o (Oc ty td):=by
 intro pins s σ H Q I h
 refine thn (hi pins s σ H _ I h) fun iv s1 ⟨y,H1,I1,ry,q1⟩=>thn (ho pins s1 σ H1 _ I1 q1) fun u s2 ⟨x,H2,I2,rx,a,ov,ex,g,q2⟩=> ?_
 subst ex
 obtain rfl:u=Value.ref a:=rx
 exact Vm hu I2 g ry fun s3 I3=>⟨.bl (!ov.isSome),H2,I3,rfl,q2⟩
theorem Vp (hu:X.A.units+1<cLine) (ho:PE X o td) (hi:PE X i ty) (hv:PE X value tv) (hs:swapsWith value (some (.Subscript o i pos')) pos.line X.env=pure false):
 PS X (.Assign [.Subscript o i pos'] value pos) (XX td ty tv):=by
 intro pins s σ H D I h
 refine wpAny_Assign_Subscript (thn (hv pins s σ H _ I h) fun r s1 ⟨v,H1,I1,rv,q1⟩=>thn (ho pins s1 σ H1 _ I1 q1) fun u s2 ⟨x,H2,I2,rx,q2⟩=>thn (hi pins s2 σ H2 _ I2 q2) fun iv s3 ⟨y,H3,I3,ry,a,H4,ex,g,q3⟩=> ?_) hs
 subst ex
 obtain rfl:u=Value.ref a:=rx
 exact Qd hu I3 g ry rv fun s4 I4=>⟨σ,H4,I4,q3⟩
end
theorem J1 {P:Program}{w:World}{H:Hp} (h:Heap) (hb:sysModules<h.objs.size):eF P w H (h.push {cls:= .type "dict",data:= .dict #[]}) h.objs.size (.dK []):=
 ⟨Nat.zero_le _,beq_eq_false_iff_ne.mpr (Ne.symm (Nat.ne_of_lt hb)),[], .nil,Heap.DictOf.new h⟩
def Rw:TE:=fun _ H Q=>∀p,H p=none->Q (.ref p) (upd H p (.dK []))
section
variable {X:Cx}{pos:Pos}
theorem Rx:PE X (.Dict [] [] pos) Rw:=fun pins s σ H Q I h=>
 wpAny_Dict_empty ⟨.ref s.heap.objs.size,_,I.laid (a:=s.heap.objs.size) (o:= .dK []) (t':=s.toks) (fun _ _ q=>Heap.get?_push_of_some _ q) (Nat.le_refl _) (J1 s.heap I.big),rfl,h _ (I.hok.fresh (Nat.le_refl _))⟩
end
def Mh:List (TE×TE)->St->Hp->(List (V×V)->Hp->Prop)->Prop
 |[],_,H,Q=>Q [] H
 | (tk,tv)::r,σ,H,Q=>tk σ H fun x H1=>tv σ H1 fun y H2=>Mh r σ H2 fun ps H3=>Q ((x,y)::ps) H3
abbrev VV:List (V×V)->List (Value×Value)->Prop:=Paired fun p q=>RelV p.1 q.1/\RelV p.2 q.2
def PPs (X:Cx) (pos:Pos) (keys:List (Option Expr)) (values:List Expr) (trs:List (TE×TE)):Prop:=
 ∀(pins:List (Addr×Obj)) (s:Shared) (σ:St) (H:Hp) (Q:List (V×V)->Hp->Prop),Inv X pins σ H s->Mh trs σ H Q->
  wpAny (model X.prog X.w) X.A (evalPairs (pairTrees keys values X.env pos)) (fun vs s'=>∃ps H',Inv X pins σ H' s'/\VV ps vs/\Q ps H') X.xe s
theorem Vq {X:Cx}{pos:Pos}:PPs X pos [] [] []:=fun pins s σ H Q I h=>pairTrees_nil_walk ⟨[],H,I, .nil,h⟩
theorem Ry {X:Cx}{pos:Pos}{k v:Expr}{ks:List (Option Expr)}{vs:List Expr}{tk tv:TE}{trs:List (TE×TE)} (hk:PE X k tk) (hv:PE X v tv) (hr:PPs X pos ks vs trs):
 PPs X pos (some k::ks) (v::vs) ((tk,tv)::trs):=fun pins s σ H Q I h=>
 pairTrees_cons_walk (thn (hk pins s σ H _ I h) fun u s1 ⟨x,H1,I1,rx,q1⟩=>thn (hv pins s1 σ H1 _ I1 q1) fun w2 s2 ⟨y,H2,I2,ry,q2⟩=>
  thn (hr pins s2 σ H2 _ I2 q2) fun ws s3 ⟨ps,H3,I3,rel,q3⟩=>⟨(x,y)::ps,H3,I3, .cons ⟨rx,ry⟩ rel,q3⟩)
def Bp (kvs more:List (Key×V)):List (Key×V):=more.foldl (fun acc kv=>putK acc kv.1 kv.2) kvs
theorem KV.merge:∀{more:List (Key×V)}{rs:List (Key×Value)}{kvs:List (Key×V)}{vs:List (Key×Value)},KV more rs->KV kvs vs->KV (Bp kvs more) (merged vs rs):=by
 intro more rs kvs vs r
 unfold KV at r
 induction r generalizing kvs vs with
 | nil=>intro q;exact q
 | @cons p q ps qs h t ih=>
   intro r0
   have e:KV (putK kvs p.1 p.2) (stored vs q.1 q.2):=by
    have:=r0.put p.1 h.2
    rw[<-h.1];exact this
   exact ih e
theorem yt:∀(more kvs:List (Key×V)),(Bp kvs more).length<=kvs.length+more.length
 |[],kvs=>by show kvs.length<=kvs.length+0;omega
 | p::r,kvs=>by
   have h1:=yt r (putK kvs p.1 p.2)
   have h2:=vJ kvs p.1 p.2
   show(Bp (putK kvs p.1 p.2) r).length<=_
   rw[List.length_cons];omega
theorem Ef {P:Program}{w:World}:∀{kvs:List (Key×V)}{ws:List (Value×Value)},VV (kvs.map fun kv=>(kV kv.1,kv.2)) ws->∃rs,Carries (dR P w) ws rs/\KV kvs rs
 |[],_,r=>by rw[List.map_nil] at r;cases r;exact⟨[],True.intro, .nil⟩
 | p::kvs,_,r=>by
   rw[List.map_cons] at r
   cases r with
   | @cons a b as bs h t=>
     obtain⟨rs,c,q⟩:=Ef (P:=P) (w:=w) t
     obtain⟨b1,b2⟩:=b
     exact⟨(p.1,b2)::rs,⟨Hi h.1,rfl,c⟩, .cons ⟨rfl,h.2⟩ q⟩
def X3 (trs:List (TE×TE)):TE:=fun σ H Q=>∀p,H p=none->Mh trs σ (upd H p (.dK [])) fun ps H2=>H2 p=some (.dK [])/\∃kvs:List (Key×V),ps=kvs.map (fun kv=>(kV kv.1,kv.2))/\kvs.length<=15/\Q (.ref p) (upd H2 p (.dK (Bp [] kvs)))
theorem Vr {X:Cx}{pos:Pos}{keys:List (Option Expr)}{values:List Expr}{trs:List (TE×TE)} (h:PPs X pos keys values trs) (hall:keys.all (·.isSome)=true) (hl:keys.length=values.length) (h0:keys≠[])
 (h15:keys.length<=15):PE X (.Dict keys values pos) (X3 trs):=by
 intro pins s σ H Q I q
 have hn:=I.hok.fresh (Nat.le_refl s.heap.objs.size)
 have I1:=I.laid (a:=s.heap.objs.size) (o:= .dK []) (h':=s.heap.push {cls:= .type "dict",data:= .dict #[]}) (t':=s.toks) (fun _ _ q=>Heap.get?_push_of_some _ q) (Nat.le_refl _) (J1 s.heap I.big)
 refine wpAny_Dict_walk (knd:=dR X.prog X.w) hall hl h0 h15 (thn (h pins _ σ _ _ I1 (q _ hn)) fun ws s2 ⟨ps,H2,I2,rel,e,kvs,ep,lk,q2⟩=> ?_)
 subst ep
 obtain⟨rs,c,rk⟩:=Ef (P:=X.prog) (w:=X.w) rel
 obtain⟨z,hd,vs0,r0,dd⟩:=Ob I2.hok e
 cases r0
 refine⟨rs,c,dd,fun h' dd' hs=>⟨.ref s.heap.objs.size,_, ?_,rfl,q2⟩⟩
 have hz:(Bp [] kvs).length<=sizeLine:=by
  have h1:=yt kvs []
  rw[List.length_nil] at h1
  rw[sizeLine_eq];omega
 have he:∃q,h'.get? s.heap.objs.size=some q:=let ⟨q,_,_,hq,_⟩:=dd';⟨q,hq⟩
 exact Im I2 (by rw[e];exact True.intro) hs he (Rv hz hd (rk.merge .nil) dd')
structure M2 (X:Cx) (o:Expr) (m:Str) (apos:Pos) (e f:Expr) (cpos:Pos):Prop where
 base:attributeBase o m X.env (eval o X.env)=eval o X.env
 few:((backTo cpos (starEach [e,f] X.env)).all (fun x=> !x.1)&&(backToKw cpos (keywordEach [] X.env)).all (fun x=>x.1.isSome)
  &&decide (([e,f]:List Expr).length+([]:List Keyword).length+(if([]:List Keyword).isEmpty then 0 else 1)<30))=true
 line:(apos.endLine==cpos.line)=true
 trees:backTo cpos (starEach [e,f] X.env)=[(false,eval e X.env),(false,eval f X.env)]
def IsD (H:Hp) (a:Addr):Prop:=(∃kvs,Rd H a (.dK kvs))\/∃kvs,Rd H a (.dT kvs)
theorem aab {X:Cx}{pins:List (Addr×Obj)}{σ:St}{H:Hp}{s:Shared}{a:Addr} (I:Inv X pins σ H s) (d:IsD H a):
 s.TypeIs (.ref a) "dict"/\(∀b,Value.ref a= .ref b->∃ob,s.heap.get? b=some ob/\ob.dict=none)/\(a==sysModules)=false:=by
 rcases d with⟨kvs,e⟩ | ⟨kvs,e⟩
 ·obtain⟨_,hd,vs,_,dd⟩:=Ec I.hok e
  refine⟨dd.typeIs,fun b q=> ?_,hd⟩
  cases q
  obtain⟨ob,_,_,h1,h2,_⟩:=dd
  exact⟨ob,h1,h2.2.1⟩
 ·obtain⟨_,hd,xs,_,dd⟩:=Hl I.hok e
  refine⟨dd.typeIs,fun b q=> ?_,hd⟩
  cases q
  obtain⟨ob,_,_,h1,h2,_⟩:=dd
  exact⟨ob,h1,h2.2.1⟩
section
variable {X:Cx}{pins:List (Addr×Obj)}{σ:St}{H:Hp}{s:Shared}{a:Addr}{y d:V}{u r:Value}{o:Option V}{A:Around}{E:Value->Shared->Prop}
end
section
variable {X:Cx}{o e f:Expr}{apos cpos:Pos}{td ty tx:TE}
end
section
variable {X:Cx}{pins:List (Addr×Obj)}{σ:St}{H:Hp}{s:Shared}{a:Addr}{kvs:List (Key×V)}{A:Around}{E:Value->Shared->Prop}
end
section
variable {X:Cx}{pins:List (Addr×Obj)}{σ:St}{H:Hp}{s:Shared}{a:Addr}{y:V}{u:Value}{A:Around}{E:Value->Shared->Prop}
end
end L2
namespace Att
open PySem PySem.W PySem.Calls PyProof.Rows
theorem De {P:Params}{h:Heap}:∀(ns:List Int) (vs:List Value),WellAll P h vs (ns.map WData.int)->IntsAre vs ns:=by
 intro ns
 induction ns with
 | nil=>
   intro vs w
   rw[List.map_nil] at w
   cases w
   exact .nil
 | cons n ns ih=>
   intro vs w
   rw[List.map_cons] at w
   cases w with
   | cons a b=>
     cases a
     exact .cons _ _ (ih _ b)
theorem Qf {l:OpenLaw}{n:Nat} (hn:l.most=some n) {P:Params}{h:Heap}{args:List WData}{vals:List Value}
 (hpre:l.row.toRowW.claim.pre args=true) (hwl:WellAll P h vals args):
 ∃a vs ns,vals=[Value.ref a]/\args=[WData.list (ns.map WData.int)]/\h.get? a=some {cls:= .type "list",data:= .seq vs.toArray}/\IntsAre vs ns/\ns.length<=n:=by
 have hsh:WShape.hasAll [] args [.list .int]=true:=(pre_splitW hpre).1
 have hc:l.pre.holds [] {args:=args}=true:=(pre_splitW hpre).2
 obtain⟨d,r,rfl,h1,h2⟩:=hasAllW_cons hsh
 obtain rfl:=hasAllW_nil h2
 obtain⟨xs,rfl,h3⟩:=hasW_list h1
 obtain⟨ns,rfl⟩:=items_int h3
 have hlen:ns.length<=n:=by
  unfold OpenLaw.pre at hc
  have h4:(WTm.not (.lt (.lit (.int (n:Int))) (.len (.arg 0)))).holds [] {args:=[.list (ns.map .int)]}=true:=by
   have h4:=(holds_andW hc).1
   rw[hn] at h4
   exact h4
  have h5:=condW_of h4 (w_not (w_lt w_lit (w_len_list (w_arg rfl))))
  rw[List.length_map] at h5
  refine Nat.le_of_not_lt fun q=> ?_
  have q':(n:Int)<((ns.length:Nat):Int):=by omega
  first
   | (rw[decide_eq_true q'] at h5;exact absurd h5 (by decide))
   | (simp at h5;omega)
 cases hwl with
 | cons w1 w2=>
   cases w2
   cases w1 with
   | list ho hall=>exact⟨_,_,ns,rfl,rfl,ho,De ns _ hall,hlen⟩
theorem Qg (l:OpenLaw) (args:List WData):l.row.toRowW.claim.post args (.bool true) args=true:=
 postW_of (r:=l.row.toRowW) (X:=(true==true))
  (show WShape.has [] (.bool true) .bool=true by first | rfl | decide | simp[WShape.has,WShape.arms,WShape.armsAll])
  (show(WTm.eq .res (.lit (.bool true))).value [] {args:=args,res:=some (.bool true),after:=args}=some (.bool (true==true)) from w_eq_bool (w_res rfl) w_lit) rfl
theorem J2 {l:OpenLaw}{n:Nat}{q:Program}{loose:List Str}{XP:(Str->Option Value)->Heap->Prop}{YP:World->Heap->Prop}{d:DefRec}
 (hn:l.most=some n) (hdf:d.params.defaults=[])
 (call:∀(w:World) (s₀ s₁:Shared) (mg mb:Str->Option Value) (fa:Addr) (o:Obj) (pm cd doc:Value) (a:Addr) (vs:List Value) (ns:List Int),
   Ground q loose [] XP w s₀ mg mb s₁.heap->YP w s₁.heap->
   s₁.heap.get? fa=some o->o.data= .func (docDef d.name d.params d.body d.scope pm cd doc)->s₁.heap.CodeRec cd d.name->mg d.name=some (.ref fa)->
   s₁.heap.get? a=some {cls:= .type "list",data:= .seq vs.toArray}->IntsAre vs ns->ns.length<=n->s₁.gens= #[]->
   codeAny (model l.prog w) callerA (.call (.ref fa) ⟨[.ref a],[]⟩) (fun r s'=>r= .ok (.ret (.bool true))/\OldK s₁.heap s'.heap/\s'.os=s₁.os/\AllBare s'.gens) s₁):
 WalkO q loose XP YP l.row.toRowW d [] (fun f vs=>PySem.call f vs):=by
 intro w s₀ s₁ mg mb G Y fa o pm cd doc dV kV ho hd hcd hD hmg hg args vals as hpre hlay hrd hwl hlo
 obtain rfl:dV= .none:=Dflts.none hD hdf
 obtain rfl:kV= .none:=Dflts.noKw hD
 obtain⟨a,vs,ns,rfl,rfl,hobj,hints,hlen⟩:=Qf hn hpre hwl
 refine enter_call (codeAny_mono (call w s₀ s₁ mg mb fa o pm cd doc a vs ns G Y ho (fd_plain hd) hcd hmg hobj hints hlen hg) fun r s' hq=> ?_)
 obtain⟨rfl,h2,h3,h4⟩:=hq
 exact⟨.inl ⟨.bool true, .bool true,[],rfl,fun _=>rfl, .bool true,Qg l _,fun _=>⟨List.Pairwise.nil,fun _ hm=>(nomatch hm)⟩⟩,h2,h3,h4⟩
section
variable {prog:Program}{w:World}{A:Around}{E:Value->Shared->Prop}{s:Shared}{K:Frag}
end
end Att
namespace L2
open PySem PySem.Spec PyProof.Rows
theorem Ho:∀{vs:List Value}{ns:List Int},IntsAre vs ns->Vals (ns.map V.int) vs
 | _,_, .nil=> .nil
 | _,_, .cons n t h=> .cons ⟨t,rfl⟩ (Ho h)
def Only (H:Hp):Prop:=∀b,H b=none\/∃o xs,H b=some (.frz o (.lst xs))
theorem Rz {P:Program}{w:World}{K:PySem.W.Frag}{mg mb:Str->Option Value}{CX:CXT}{k:Nat}{fa a:Addr}{fd:FuncData}{x:Str}{sp:Sp}{s₁:Shared}{vs:List Value}{ns:List Int}
 (KX:K.In s₁.heap) (hns:s₁.heap.Ns mainGlobals mg) (hb:s₁.heap.Ns builtinsNs mb) (hbb:∀x:Str,x≠"__name__"->mb x=bootBuiltins x) (hlim:s₁.heap.NoLimit) (hg:s₁.gens= #[])
 (ha:s₁.heap.get? a=some {cls:= .type "list",data:= .seq vs.toArray}) (hi:IntsAre vs ns) (hl:ns.length<=sizeLine) (hr:jB k callerA)
 (F:∀base:Heap,K.In base->base.Ns mainGlobals mg->aX P w K mg base CX k fa fd [x] sp) (hbind:∀(s:Shared) (u:Value),BindsTo s fd ⟨[u],[]⟩ [(x,u)])
 (hsp:∀H:Hp,Only H->SqL K H a (ns.map V.int)->sp [.ref a] H (fun v _=>v= .bl true) fun _ _ _=>False)
 (hCX:∀H e s',CX [] H s₁ (fun _ _ _=>False) e s'->False):
 codeAny (model P w) callerA (.call (.ref fa) ⟨[.ref a],[]⟩) (fun r s'=>r= .ok (.ret (.bool true))/\OldK s₁.heap s'.heap/\s'.os=s₁.os/\AllBare s'.gens) s₁:=by
 have rv:=Ho hi
 have lenV:=hi.length
 have core:∀H:Hp,Only H->SqL K H a (ns.map V.int)->HOk P w H s₁.heap->(∀b,H b≠none->b=a)->(H a≠none->K.lookup a=none)->
  codeAny (model P w) callerA (.call (.ref fa) ⟨[.ref a],[]⟩) (fun r s'=>r= .ok (.ret (.bool true))/\OldK s₁.heap s'.heap/\s'.os=s₁.os/\AllBare s'.gens) s₁:=by
  intro H hO hS hok hA hK
  have Od:∀{b:Addr}{o:Obj},s₁.heap.get? b=some o->H b=none->(Ia s₁.heap H).get? b=some o:=fun e n=>Q3 e n
  have noA:∀{b:Addr}{o:Obj}{es:Array DictEntry}{ep:Nat},s₁.heap.get? b=some o->o.data= .dict es ep->H b=none:=fun{b o es ep} e d=>by
   cases q:H b with
   | none=>rfl
   | some u=>
     have e':b=a:=hA b (by rw[q];simp)
     subst e'
     rw[ha] at e;cases e
     have d':Data.seq vs.toArray _=Data.dict es ep:=d
     cases d'
  have nsK:∀{b:Addr}{m:Str->Option Value},s₁.heap.Ns b m->(Ia s₁.heap H).Ns b m:=fun{b m} ⟨o,es,ep,e,d,r⟩=>⟨o,es,ep,Od e (noA e d),d,r⟩
  have hKb:K.In (Ia s₁.heap H):=fun b o e=>Od (KX b o e) (by
   cases q:H b with
   | none=>rfl
   | some u=>
     have e':b=a:=hA b (by rw[q];simp)
     subst e'
     rw[hK (by rw[q];simp)] at e;cases e)
  have hM:Mod K mg (Ia s₁.heap H):=⟨hKb,nsK hns,⟨mb,nsK hb,hbb⟩,let ⟨mc,h1,h2⟩:=hlim;⟨mc,nsK h1,h2⟩⟩
  have e0:Mf P w K mg (Ia s₁.heap H) callerA [] s₁ H:=⟨rfl,hM,fun b o e=>UL e,Nat.le_of_eq (Pj _ _),trivial,fun b hb=>absurd (show b∈([]:List Addr) from hb) (by simp),hok, .of_eq hg⟩
  refine codeAny_mono ((F _ hKb (nsK hns)).run callerA [] s₁ H ⟨[.ref a],[]⟩ [.ref a] [.ref a] _ _ hr e0 (hbind s₁ (.ref a)) (.cons rfl .nil) (hsp H hO hS)) fun r s' h=> ?_
  cases r with
  | error e=>exact(hCX H e s' h).elim
  | ok fl=>
    cases fl with
    | next=>exact False.elim h
    | brk=>exact False.elim h
    | cont=>exact False.elim h
    | ret u=>
      obtain⟨v,H',os,bare,un,hok',r',q⟩:=h
      have q':v= .bl true:=q
      subst q'
      obtain rfl:u=Value.bool true:=r'
      refine⟨rfl,OldK.of_keep fun b o e=> ?_,os,bare⟩
      cases q:H b with
      | none=>exact un.keep b o e q (by intro z;exact absurd (show b∈([]:List Addr) from z) (by simp)) (by simp)
      | some u=>
        rcases hO b with z | ⟨ob,xs,z⟩
        ·rw[q] at z;cases z
        ·have z2:=un.frzs b ob _ z
         obtain⟨e1,_⟩:=hok b _ z
         obtain⟨e2,_⟩:=hok' b _ z2
         rw[e] at e1;cases e1
         exact e2
 cases hk:K.lookup a with
 | some o=>
   have e:=KX a o hk
   rw[ha] at e
   cases e
   refine core (fun _=>none) (fun _=> .inl rfl) (.inr ⟨_,vs.toArray,_,hk,rfl,rfl,rfl,by rw[List.size_toArray,lenV];exact hl,by simpa using rv⟩) (fun b u z=>by have z':(none:Option HO)=some u:=z;cases z') (fun b z=>absurd rfl z) fun z=>absurd rfl z
 | none=>
   refine core (fun b=>if b=a then some (.frz {cls:= .type "list",data:= .seq vs.toArray} (.lst (ns.map V.int))) else none) (fun b=> ?_) (.inl (.inr ⟨{cls:= .type "list",data:= .seq vs.toArray},if_pos rfl⟩)) (fun b u z=> ?_) (fun b z=> ?_) fun _=>hk
   ·by_cases hb:b=a
    ·exact .inr ⟨_,_,if_pos hb⟩
    ·exact .inl (if_neg hb)
   ·by_cases hb:b=a
    ·have z':=(if_pos hb).symm.trans z
     cases z'
     subst hb
     exact⟨ha,by rw[List.length_map];exact hl,vs,_,rv,ha⟩
    ·have z':=(if_neg hb).symm.trans z
     cases z'
   ·by_cases hb:b=a
    ·exact hb
    ·exact absurd (if_neg hb) z
theorem Oe {l:PySem.W.OpenLaw}{n k:Nat}{q:Program}{loose:List Str}{XP:(Str->Option Value)->Heap->Prop}{YP:World->Heap->Prop}{d:DefRec}{K:Params->PySem.W.Frag}{CX:World->CXT}{sp:World->Sp}{x:Str}
 (hn:l.most=some n) (hn2:n<=sizeLine) (hdf:d.params.defaults=[]) (hr:jB k callerA)
 (hY:∀(w:World) (h:Heap),YP w h->(K w.params).In h)
 (F:∀(w:World) (mg:Str->Option Value) (fa:Addr) (h:Heap),(K w.params).In h->h.Ns mainGlobals mg->mg d.name=some (.ref fa)->
   ∃fd:FuncData,(∀(s:Shared) (u:Value),BindsTo s fd ⟨[u],[]⟩ [(x,u)])/\
    ∀base:Heap,(K w.params).In base->base.Ns mainGlobals mg->aX l.prog w (K w.params) mg base (CX w) k fa fd [x] (sp w))
 (hsp:∀(w:World) (H:Hp) (a:Addr) (ns:List Int),ns.length<=n->Only H->SqL (K w.params) H a (ns.map V.int)->sp w [.ref a] H (fun v _=>v= .bl true) fun _ _ _=>False)
 (hCX:∀(w:World) (H:Hp) (s:Shared) (e:Value) (s':Shared),CX w [] H s (fun _ _ _=>False) e s'->False):
 PySem.W.WalkO q loose XP YP l.row.toRowW d [] (fun f vs=>PySem.call f vs):=by
 refine Att.J2 hn hdf fun w s₀ s₁ mg mb fa o pm cd doc a vs ns G Y ho hd hcd hmg hobj hints hlen hg=> ?_
 have KX:=hY w _ Y
 obtain⟨fd,hb,hF⟩:=F w mg fa _ KX G.T.g hmg
 exact Rz KX G.T.g G.T.b G.T.builtins G.T.nolimit hg hobj hints (Nat.le_trans hlen hn2) hr hF hb (fun H hO hS=>hsp w H a ns hlen hO hS) fun H e s'=>hCX w H s₁ e s'
end L2
/- THE LAST THEOREM (shape;LID,My.* are yours):
   My.Adr:a structure of the addresses that your layer names (classes,functions);My.Txt K t:a structure (Prop) of the equations over K;
   My.aac:{K}{implicit addresses ..} (e1:nsIn K mainGlobals "law"=some (some (.ref f))) (e2:K.lookup f=some ⟨oc,od, .func (fnOf "law" "law" params body scope dV kV doc pm an cdv ct),sl⟩) (e3:codeIn K cdv "law"=true) .. :∃t,My.Txt K t
theorem PySem.Challenge.cw_LID_holds : PySem.Challenge.rw_LID.Holds := by
 w_on;o_law;k_head;(case hw=>w_witness2)
 k_fill
 refine L2.Oe (l:=PySem.Challenge.aad) (n:=63) (k:=40) (x:="script") (CX:=fun w=> ..) (sp:=fun _=>My.agJ) rfl (by decide) rfl ⟨rfl,by decide,by decide⟩ (fun w h Y=>PySem.W.kIn_of Y) ?F ?S ?C
 case F=>
  intro w mg fa h KX G hmg
  have T:∃t,My.Txt (L2.KOf KX) t:=by
   dsimp only[L2.KOf] -- K must stand as «<heap const> w.params» for k_is
   refine' My.aac ?e1 ?e2 ?e3 ..
   (case e1=>PySem.W.k_is) -- in the order:a name->its address->its object->its parts
   (case e2=>PySem.W.k_is)
   ..
  obtain⟨t,T⟩:=T
  have e0:=hmg.symm.trans (PySem.W.mg_of KX G T.law)
  cases e0 -- fa is the law's own address
  exact⟨_,fun s u=> .of_eq rfl,fun base kb nb=>My.aae T kb nb⟩ -- if «.of_eq rfl» comes too early:refine' ⟨_, ?b,fun base kb nb=>My.aae T kb nb⟩;exact fun s u=> .of_eq rfl
 case S=>exact fun w H a ns hl hO hS=> ..
 case C=>exact ..
(the tactic k_is has no namespace:write k_is) -/
namespace L2
open PySem PySem.Spec PyProof.Rows
def bC (s:Stmt):Arguments:=match s with
 | .FunctionDef _ a _ _ _ _ _ _ _ _=>a
 | _=>{posonlyargs:=[],args:=[],vararg:=none,kwonlyargs:=[],kw_defaults:=[],kwarg:=none,defaults:=[]}
def bw (s:Stmt):List Stmt:=match s with
 | .FunctionDef _ _ b _ _ _ _ _ _ _=>b
 | _=>[]
def aa (s:Stmt):Scope:=match s with
 | .FunctionDef _ _ _ _ _ _ sc _ _ _=>sc
 | _=>{kind:= .function,names:=[],isGenerator:=false,isCoroutine:=false}
abbrev CX0:CXT:=fun _ _ _ _ _ _=>False
abbrev E0:XK:=fun _ _ _=>False
theorem cz {X:Cx}:Passes CX0 X E0:=fun _ _ _ _ _ _ _ h=>h.elim
structure Fun (K:PySem.W.Frag) (x qual:Str) (st:Stmt) (f:Addr) (fd:FuncData):Prop where
 ex:∃(oc:Value) (od:Option Addr) (kV doc pm:Value) (an:Option Addr) (cdv ct:Value) (osl:Array (Option Value)),
  fd=PySem.W.fnOf x qual (bC st) (bw st) (aa st) .none kV doc pm an cdv ct/\K.lookup f=some ⟨oc,od, .func fd,osl⟩/\PySem.W.codeIn K cdv qual=true
 kp:PySem.W.keepIn K (.ref f)=true
section
variable {P:Program}{w:World}{K:PySem.W.Frag}{mg:Str->Option Value}{base:Heap}
theorem Fun.ok {x qual:Str}{st:Stmt}{f:Addr}{fd:FuncData}{N ps:List Str}{k:Nat}{sp:Sp} (F:Fun K x qual st f fd) (S:bI N ps (aa st)) (len:∀vs H Q E,sp vs H Q E->vs.length=ps.length)
 (hbody:∀(cdv:Value) (A:Around) (outer:List Env) (s:Shared) (H:Hp) (vs:List V) (Q:VK) (E:XK),jB k (A.deeper (envOfC qual (aa st) s.heap.objs.size f cdv))->sp vs H Q E->
   ∃t,PSs (jC CX0 P w K mg base N qual (aa st) f cdv A outer s H E).nox (bw st) t/\t {nx:=fun _ H'=>Q .non H',rt:=Q} (start N vs) H):aX P w K mg base CX0 (k+1) f fd ps sp:=by
 obtain⟨oc,od,kV,doc,pm,an,cdv,ct,osl,rfl,lk,hcd⟩:=F.ex
 refine XN lk hcd S len fun A outer s H vs Q E hr hsp=> ?_
 obtain⟨t,h,q⟩:=hbody cdv A outer s H vs Q E hr hsp
 exact⟨t,h.nox,q⟩
theorem jD {x qual:Str}{st:Stmt}{f:Addr}{oc:Value}{od an:Option Addr}{osl:Array (Option Value)}{kV doc pm cdv ct:Value} (l:K.lookup f=some ⟨oc,od, .func (PySem.W.fnOf x qual (bC st) (bw st) (aa st) .none kV doc pm an cdv ct),osl⟩)
 (c:PySem.W.codeIn K cdv qual=true) (k:PySem.W.keepIn K (.ref f)=true):Fun K x qual st f (PySem.W.fnOf x qual (bC st) (bw st) (aa st) .none kV doc pm an cdv ct):=⟨⟨oc,od,kV,doc,pm,an,cdv,ct,osl,rfl,l,c⟩,k⟩
end
theorem cP {A:Around}{k:Nat} (hr:jB k A):A.units+1<cLine:=Nat.lt_of_le_of_lt (Nat.add_le_add_left (by decide:1<=64) _) hr.units
theorem bY {n:Nat} (h:n<=1000):n<sizeLine:=Nat.lt_of_le_of_lt h (by decide)
section
variable {X:Cx}
end
theorem vK {c A B:Prop} [Decidable c] (h1:c->A) (h2:¬c->B):if c then A else B:=by
 by_cases h:c
 ·rw[if_pos h]
  exact h1 h
 ·rw[if_neg h]
  exact h2 h
def aN (H H':Hp):Prop:=∀b o,H b=some o->H' b=some o
theorem aN.refl (H:Hp):aN H H:=fun _ _ h=>h
theorem aN.trans {H H1 H2:Hp} (a:aN H H1) (b:aN H1 H2):aN H H2:=fun c o h=>b c o (a c o h)
section
variable {κ:Type} [DecidableEq κ]
end
def ccl (sc:Scope) (env:Env):List (Str×Addr):=(sc.names.filterMap fun p=>if p.2== .free then(env.cells.lookup p.1).map fun c=>(p.1,c) else none).reverse
theorem vL {env:Env}:∀(l:List (Str×NameKind)) (acc:List (Str×Addr)),(∀p∈l,p.2= .free->∃c,env.cells.lookup p.1=some c)->
 (forIn l acc fun(x:Str×NameKind) r=>match x with | (name,kind)=>(if(kind==NameKind.free)=true then do let a <-cellOf env name;pure (ForInStep.yield ((name,a)::r)) else pure (ForInStep.yield r):Sem _))=
   pure ((l.filterMap fun p=>if p.2== .free then(env.cells.lookup p.1).map fun c=>(p.1,c) else none).reverse++acc)
 |[],acc,_=>rfl
 | (n,k)::r,acc,h=>by
   rw[List.forIn_cons]
   have hr:∀p∈r,p.2= .free->∃c,env.cells.lookup p.1=some c:=fun p hp=>h p (List.mem_cons_of_mem _ hp)
   by_cases hk:k= .free
   ·subst hk
    obtain⟨c,hc⟩:=h (n, .free) List.mem_cons_self rfl
    have e1:cellOf env n=pure c:=by unfold cellOf;rw[hc]
    simp only[beq_self_eq_true,if_true,e1,pure_bind]
    rw[vL r _ hr]
    simp[List.filterMap_cons,hc]
   ·have hb:(k==NameKind.free)=false:=by simpa using hk
    simp only[hb,Bool.false_eq_true,if_false,pure_bind]
    rw[vL r _ hr]
    simp[List.filterMap_cons,hk]
theorem J3 {sc:Scope}{env:Env} (h:∀p∈sc.names,p.2= .free->∃c,env.cells.lookup p.1=some c):closureFor sc env=pure (ccl sc env):=by
 unfold closureFor
 have q:=vL (env:=env) sc.names [] h
 rw[List.append_nil] at q
 unfold ccl
 rw[<-q,bind_pure]
theorem Gw {f:Str->Option Addr}:∀(l:List (Str×NameKind)) (x:Str) (c:Addr),
 (l.filterMap fun p=>if p.2== .free then(f p.1).map fun c=>(p.1,c) else none).reverse.lookup x=some c->f x=some c:=by
 intro l x c h
 have hm:=PySem.mem_of_lookup h
 rw[List.mem_reverse,List.mem_filterMap] at hm
 obtain⟨p,_,e⟩:=hm
 split at e
 ·cases q:f p.1 with
  | none=>rw[q] at e;cases e
  | some d=>
    rw[q] at e
    simp only[Option.map_some,Option.some.injEq,Prod.mk.injEq] at e
    obtain⟨e1,e2⟩:=e
    rw[<-e1,q,e2]
 ·cases e
theorem pO {β:Type}:∀{l:List (Str×β)}{x:Str}{c:β},(x,c)∈l->∃d,l.lookup x=some d
 |[],_,_,h=>nomatch h
 | (n,d)::r,x,c,h=>by
   by_cases e:x=n
   ·subst e;exact⟨d,by simp[List.lookup_cons]⟩
   ·have hb:(x==n)=false:=by simpa using e
    rcases List.mem_cons.mp h with q | q
    ·cases q;exact absurd rfl e
    ·obtain⟨d',hd⟩:=pO q
     exact⟨d',by simp[List.lookup_cons,hb,hd]⟩
theorem t6 {sc:Scope}{env:Env}{x:Str}{c:Addr} (h:(ccl sc env).lookup x=some c):env.cells.lookup x=some c:=Gw (f:=fun n=>env.cells.lookup n) sc.names x c h
theorem Og {sc:Scope}{env:Env}{x:Str}{c:Addr} (hx:(x,NameKind.free)∈sc.names) (hc:env.cells.lookup x=some c):(ccl sc env).lookup x=some c:=by
 have hm:(x,c)∈ccl sc env:=by
  unfold ccl
  rw[List.mem_reverse,List.mem_filterMap]
  exact⟨(x, .free),hx,by simp[hc]⟩
 obtain⟨d,hd⟩:=pO hm
 have:=t6 hd
 rw[hc] at this
 rw[hd,this]
theorem qJ {env:Env}:∀{names:List (Str×NameKind)}{x:Str}{k:NameKind},
 (names.map fun(n,k)=>if(k==NameKind.free&&env.scope.kind== .function&&env.kindOf n==some .cell) then(n,NameKind.cell) else(n,k)).lookup x=some k->
 names.lookup x=some k\/(k= .cell/\names.lookup x=some .free)
 |[],_,_,h=>by simp at h
 | (n,q)::r,x,k,h=>by
   have ih:=@qJ env r x k
   rw[List.map_cons] at h
   cases hx:x==n with
   | true=>
     by_cases hc:(q==NameKind.free&&env.scope.kind== .function&&env.kindOf n==some .cell)=true
     ·simp only[hc,if_true,List.lookup_cons,hx,Option.some.injEq] at h
      have hq:q= .free:=by
       have:=(Bool.and_eq_true _ _▸(Bool.and_eq_true _ _▸hc).1).1
       simpa using this
      subst hq
      exact .inr ⟨h.symm,by simp[List.lookup_cons,hx]⟩
     ·simp only[hc,if_false,List.lookup_cons,hx,Option.some.injEq,Bool.false_eq_true] at h
      subst h
      exact .inl (by simp[List.lookup_cons,hx])
   | false=>
     have h':(r.map fun(n,k)=>if(k==NameKind.free&&env.scope.kind== .function&&env.kindOf n==some .cell) then(n,NameKind.cell) else(n,k)).lookup x=some k:=by
      by_cases hc:(q==NameKind.free&&env.scope.kind== .function&&env.kindOf n==some .cell)=true
      ·simpa only[hc,if_true,List.lookup_cons,hx] using h
      ·simpa only[hc,if_false,List.lookup_cons,hx,Bool.false_eq_true] using h
     rcases ih h' with z | ⟨z1,z2⟩
     ·exact .inl (by simp[List.lookup_cons,hx,z])
     ·exact .inr ⟨z1,by simp[List.lookup_cons,hx,z2]⟩
theorem uc {env:Env}:∀{names:List (Str×NameKind)}{x:Str},names.lookup x=some .free->
 (names.map fun(n,k)=>if(k==NameKind.free&&env.scope.kind== .function&&env.kindOf n==some .cell) then(n,NameKind.cell) else(n,k)).lookup x=some .cell\/
 (names.map fun(n,k)=>if(k==NameKind.free&&env.scope.kind== .function&&env.kindOf n==some .cell) then(n,NameKind.cell) else(n,k)).lookup x=some .free
 |[],_,h=>by simp at h
 | (n,q)::r,x,h=>by
   have ih:=@uc env r x
   rw[List.map_cons]
   cases hx:x==n with
   | true=>
     simp only[List.lookup_cons,hx,Option.some.injEq] at h
     subst h
     by_cases hc:(NameKind.free==NameKind.free&&env.scope.kind== .function&&env.kindOf n==some .cell)=true
     ·exact .inl (by simp only[hc,if_true,List.lookup_cons,hx])
     ·exact .inr (by simp only[hc,if_false,List.lookup_cons,hx,Bool.false_eq_true])
   | false=>
     simp only[List.lookup_cons,hx] at h
     by_cases hc:(q==NameKind.free&&env.scope.kind== .function&&env.kindOf n==some .cell)=true
     ·simpa only[hc,if_true,List.lookup_cons,hx] using ih h
     ·simpa only[hc,if_false,List.lookup_cons,hx,Bool.false_eq_true] using ih h
def gG (X:Cx) (N:List Str) (sc:Scope) (pins:List (Addr×Obj)) (C:Addr) (s₀:Shared) (H₀:Hp) (fp:List Addr):Cx:=
 {X with N:=N,s₀:=s₀,H₀:=H₀,env:=compEnvC sc (ccl sc X.env) C X.env,outer:=X.stack,ex:=fp,fn:=fun _=>false,pn:=X.pn++pins,xe:=fun _ _=>False}
structure vM (X:Cx) (n:Nat) (fr:List Nat) (N:List Str) (sc:Scope):Prop where
 kind:sc.kind= .function
 nocell:∀p∈sc.names,p.2≠ .cell
 own:∀p∈sc.names,p.2= .local->sc.names.lookup p.1=some .local
 out:∀p∈sc.names,p.2= .free->X.env.kindOf p.1=some .cell\/X.env.kindOf p.1=some .free
 len:N.length=n+fr.length
 free:∀i x,N[n+i]? =some x->(x,NameKind.free)∈sc.names/\sc.names.lookup x=some .free/\∃j,fr[i]? =some j/\X.N[j]? =some x
def CS0 (scX:Scope) (NX:List Str) (n:Nat) (fr:List Nat) (N:List Str) (sc:Scope):Prop:=
 sc.kind= .function/\(∀p∈sc.names,p.2≠ .cell)/\(∀p∈sc.names,p.2= .local->sc.names.lookup p.1=some .local)/\
 (∀p∈sc.names,p.2= .free->scX.names.lookup p.1=some .cell\/scX.names.lookup p.1=some .free)/\N.length=n+fr.length/\
 (∀x∈N.drop n,(x,NameKind.free)∈sc.names/\sc.names.lookup x=some .free)/\(N.drop n).map some=fr.map fun j=>NX[j]?
instance {scX:Scope}{NX:List Str}{n:Nat}{fr:List Nat}{N:List Str}{sc:Scope}:Decidable (CS0 scX NX n fr N sc):=by unfold CS0;exact inferInstance
theorem Hq {X:Cx}{scX:Scope}{NX:List Str}{n:Nat}{fr:List Nat}{N:List Str}{sc:Scope} (h1:X.env.scope=scX) (h2:X.N=NX) (h:CS0 scX NX n fr N sc):vM X n fr N sc:=by
 obtain⟨a,b,c,d,e,f,g⟩:=h
 refine⟨a,b,c,fun p hp z=> ?_,e,fun i x hx=> ?_⟩
 ·have q:=d p hp z
  rw[<-h1] at q
  exact q
 ·have hd:(N.drop n)[i]? =some x:=by rw[List.getElem?_drop];exact hx
  obtain⟨f1,f2⟩:=f x (List.mem_of_getElem? hd)
  refine⟨f1,f2, ?_⟩
  have q:((N.drop n).map some)[i]? =some (some x):=by rw[List.getElem?_map,hd];rfl
  rw[g,List.getElem?_map] at q
  cases z:fr[i]? with
  | none=>rw[z] at q;cases q
  | some j=>
    rw[z] at q
    refine⟨j,rfl, ?_⟩
    rw[h2]
    exact Option.some.inj q
def cst (n:Nat) (fr:List Nat) (σ:St):St:=List.replicate n none++fr.map fun j=>(σ[j]?).getD none
theorem Eg {X:Cx}{n:Nat}{fr:List Nat}{N:List Str}{sc:Scope} (S:vM X n fr N sc) (ok:X.Ok):closureFor sc X.env=pure (ccl sc X.env):=
 J3 fun p hp e=>ok.has p.1 (S.out p hp e)
section
variable {X:Cx}{n:Nat}{fr:List Nat}{N:List Str}{sc:Scope}{pins:List (Addr×Obj)}{σ:St}{H:Hp}{s:Shared}{fp:List Addr}{h₁:Heap}{tk:Nat}
theorem Mi (S:vM X n fr N sc) (I:Inv X pins σ H s) (hf:∀b∈fp,Bk X pins H b) (hlt:∀b∈fp,b<s.heap.objs.size)
 (hn:h₁.Ns s.heap.objs.size (fun _=>none)) (hk:∀b o,s.heap.get? b=some o->h₁.get? b=some o):
 Inv (gG X N sc pins s.heap.objs.size s H fp) [] (cst n fr σ) H {s with heap:=h₁,toks:=tk}:=by
 have hsub:∀b∈frs X.stack,b∈X.env.locals::X.fs:=I.Ib
 refine⟨⟨I.ok.mod, ?_,I.ok.glob,I.ok.blt,Nat.le_refl _,fun x y c h1 h2=> ?_,fun x hx=> ?_,fun x c z=>(by cases z),I.ok.hd,I.ok.frames, .inl rfl,fun b hb=>⟨?_,fun x c e=> ?_⟩,fun b o e=>I.bs b o e,Nat.le_trans I.ok.bsz I.sz,fun b o e hb=> ?_,fun b hb hz=> ?_,I.stack,I.Ie⟩,
  rfl,I.bare,Un.kept hk,⟨_,hn,fun i x v e1 e2 e3=> ?_⟩,fun x c e=> ?_,I.hok.fresh (Nat.le_refl _),fun x c e=> ?_,fun p hp=> ?_,I.hok.kept hk, ?_⟩
 ·exact S.kind
 ·exact I.ok.inj x y c (t6 h1) (t6 h2)
 ·have hx':(relabel sc X.env).names.lookup x=some .cell\/(relabel sc X.env).names.lookup x=some .free:=hx
  have fr':sc.names.lookup x=some .free:=by
   rcases hx' with z | z
   ·rcases qJ z with q | ⟨_,q⟩
    ·exact absurd rfl (S.nocell _ (PySem.mem_of_lookup q))
    ·exact q
   ·rcases qJ z with q | ⟨q,_⟩
    ·exact q
    ·cases q
  obtain⟨c,hc⟩:=I.ok.has x (S.out _ (PySem.mem_of_lookup fr') rfl)
  exact⟨c,Og (PySem.mem_of_lookup fr') hc⟩
 ·exact Nat.ne_of_lt (hlt b hb)
 ·exact(hf b hb).2.2.2.2.1 x c (t6 e)
 ·rcases(hf b hb).2.2.2.1 with z | z
  ·exact I.ok.noex b o e z
  ·exact absurd (Nat.lt_of_lt_of_le (Heap.lt_size e) (Nat.le_trans I.ok.bsz z)) (Nat.lt_irrefl _)
 ·rcases List.mem_cons.mp (hsub b hz) with z | z
  ·exact(hf b hb).2.1 z
  ·exact(hf b hb).2.2.1 z
 ·have e1':N[i]? =some x:=e1
  have hi:n<=i:=by
   apply Nat.le_of_not_lt
   intro hlt
   unfold cst at e2
   rw[List.getElem?_append_left (by simpa using hlt),List.getElem?_replicate] at e2
   split at e2<;>cases e2
  obtain⟨j,rfl⟩:∃j,i=n+j:=⟨i - n,by omega⟩
  obtain⟨hm,hl,q,hq,hX⟩:=S.free j x e1'
  have e2':(σ[q]?).getD none=some v:=by
   unfold cst at e2
   rw[List.getElem?_append_right (by simp)] at e2
   simp only[List.length_replicate,Nat.add_sub_cancel_left,List.getElem?_map,hq,Option.map_some,Option.some.injEq] at e2
   exact e2
  have hσ:σ[q]? =some (some v):=by
   cases z:σ[q]? with
   | none=>rw[z] at e2';cases e2'
   | some w=>rw[z] at e2';simp only[Option.getD_some] at e2';rw[e2']
  have ko:=S.out _ hm rfl
  have hv:Vis X.env.scope x:=by
   rcases ko with z | z
   ·exact .inr (.inl z)
   ·exact .inr (.inr z)
  obtain⟨m,_,hloc⟩:=I.loc
  obtain⟨u,r,l⟩:=hloc q x v hX hσ hv
  refine⟨u,r, .inr ⟨?_, ?_⟩⟩
  ·exact uc hl
  ·rcases l with⟨k,_⟩ | ⟨_,c,hc,hcell⟩
   ·rcases ko with z | z<;>(rw[k] at z;cases z)
   ·refine⟨c,Og hm hc, ?_⟩
    obtain⟨o,ho,hd⟩:=hcell
    exact⟨o,hk c o ho,hd⟩
 ·obtain⟨v,o,ho,hd⟩:=I.cell x c (t6 e)
  exact⟨v,o,hk c o ho,hd⟩
 ·exact I.pL x c (t6 e)
 ·have hp':p∈X.pn++pins:=by
   have z:p∈(X.pn++pins)++[]:=hp
   rwa [List.append_nil] at z
  obtain⟨e,hn',ne,nf,d⟩:=I.pin p hp'
  refine⟨hk p.1 p.2 e,hn',Nat.ne_of_lt (Heap.lt_size e),fun hz=> ?_,d⟩
  rcases List.mem_cons.mp (hsub p.1 hz) with z | z
  ·exact ne z
  ·exact nf z
 ·show(cst n fr σ).length=N.length
  unfold cst
  rw[List.length_append,List.length_replicate,List.length_map,S.len]
theorem comp_back {C:Addr}{σ':St}{H':Hp}{s':Shared}{pins':List (Addr×Obj)} (I:Inv X pins σ H s) (hf:∀b∈fp,Bk X pins H b) (J:Inv (gG X N sc pins C s H fp) pins' σ' H' s'):Inv X pins σ H' s':=
 I.call' (ch:=fp) J.os J.base J.hok J.bare fun b hb=>⟨(hf b hb).2.2.2.1,(hf b hb).2.1,(hf b hb).2.2.2.2.1,(hf b hb).2.2.2.2.2⟩
end
def Qh (X:Cx) (ifs:List Expr) (t:TT):Prop:=
 ∀(pins:List (Addr×Obj)) (s:Shared) (σ:St) (H:Hp) (Q:Bool->Hp->Prop),Inv X pins σ H s->t σ H Q->
  wpAny (model X.prog X.w) X.A (forIn ifs true fun c r=>if r=true then do let ok <-isTrue c X.env (eval c X.env);pure (ForInStep.yield ok) else pure (ForInStep.yield r)) (TP X pins σ Q) X.xe s
def X4:TT:=fun _ H Q=>Q true H
theorem RC {X:Cx}:Qh X [] X4:=fun _ _ _ H _ I h=>wpAny_pure ⟨H,I,h⟩
theorem RD {X:Cx}{c:Expr}{t:TT} (hc:PT X c t):Qh X [c] t:=by
 intro pins s σ H Q I h
 rw[List.forIn_cons]
 refine wpAny_bind ?_
 rw[if_pos rfl]
 refine wpAny_bind (thn (hc pins s σ H Q I h) fun b s1 q=>wpAny_pure ?_)
 exact wpAny_pure q
def Eh (J:It) (g:TG) (tc:TT) (te:TE) (D:Addr) (σ:St) (H:Hp) (Q:VK):Prop:=
 ∃W:Nat->Nat->St->Hp->Prop,(∃m,W 0 m σ H)/\∀i m σ' H',W i m σ' H'->
  (J.stop i H'/\Q (.ref D) H')\/(J.go i H'/\∃N:St->Hp->Prop,(∀σ3 H3,N σ3 H3->∃m',m'<m/\W (i+1) m' σ3 H3)/\∀x H2,J.yld i H' x H2->g x σ' H2 fun σ3 H3=>tc σ3 H3 fun b H4=>
    if b=true then te σ3 H4 fun y H5=>∃ys,H5 D=some (.lst ys)/\ys.length<sizeLine/\N σ3 (upd H5 D (.lst (ys++[y])))
    else N σ3 H4)
def Oh (wi:TI) (n:Nat) (fr:List Nat) (g:TG) (tc:TT) (te:TE):TE:=fun σ H Q=>wi σ H fun J H1=>∀D,H1 D=none->Eh J g tc te D (cst n fr σ) (upd H1 D (.lst [])) Q
section
variable {X:Cx}{n:Nat}{fr:List Nat}{N:List Str}{sc:Scope}{elt tg iter:Expr}{ifs:List Expr}{pos:Pos}{wi:TI}{g:TG}{tc:TT}{te:TE}
theorem J4 {pins:List (Addr×Obj)}{σ:St}{H:Hp}{s:Shared}{fp:List Addr}{it:Addr}{tn:Nat->Heap->Prop}{J:It}{Q:VK}{E:Value->Shared->Prop}{RR:Value->Addr->Result->Shared->Prop}
 (hc:X.calm=true) (S:vM X n fr N sc)
 (hg:∀C s₀ H₀ fp,PG (gG X N sc pins C s₀ H₀ fp) tg g) (hi:∀C s₀ H₀ fp,Qh (gG X N sc pins C s₀ H₀ fp) ifs tc) (he:∀C s₀ H₀ fp,PE (gG X N sc pins C s₀ H₀ fp) elt te)
 (I:Inv X pins σ H s) (T:Turn X.prog X.w X.K tg J fp it tn) (st:tn 0 s.heap) (hf:∀b∈fp,Bk X pins H b)
 (h:∀D,H D=none->Eh J g tc te D (cst n fr σ) (upd H D (.lst [])) Q)
 (hR:∀D C H' s',Inv X pins σ H' s'->Bk X pins H' C->(∃m,s'.heap.Ns C m)->Q (.ref D) H'->RR (.ref D) C (.ok .next) s'):
 wpAny (model X.prog X.w) X.A (newList []) (fun acc s₃=>wpAny (model X.prog X.w) X.A (newFunctionEnv sc X.env.globals (ccl sc X.env) [] X.env.qual none .none (some X.env)) (fun cenv s₄=>
  codeAny (model X.prog X.w) X.A (.compStart (.ListComp elt [⟨tg,iter,ifs,0⟩] sc pos) 0 (.ref it) acc {cenv with scope:=relabel sc X.env}) (RR acc cenv.locals) s₄) E s₃) E s:=by
 have hfree:H s.heap.objs.size=none:=I.hok.fresh (Nat.le_refl _)
 have hltf:∀b∈fp,b<s.heap.objs.size:=fun b hb=>by
  obtain⟨o,e,_⟩:=T.obj 0 s.heap st b hb
  exact Heap.lt_size e
 obtain⟨W,⟨m0,w0⟩,turn⟩:=h s.heap.objs.size hfree
 refine wpAny_newObj_type (wpAny_newFunctionEnv S.nocell (by intro y hy;simp at hy) (fun h₁ hns₁ hsb₁=> ?_) S.kind)
 dsimp only at hns₁ hsb₁ ⊢
 have I3:Inv X pins σ (upd H s.heap.objs.size (.lst [])) {s with heap:=s.heap.push {cls:= .type "list",dict:=none,data:= .seq ([]:List Value).toArray}}:=
  I.laid (t':=s.toks) (fun b u e=>Heap.get?_push_of_some _ e) (Nat.le_refl _) ⟨Nat.zero_le _,[],0, .nil,Heap.get?_push_size _ rfl⟩
 have hf3:∀b∈fp,Bk X pins (upd H s.heap.objs.size (.lst [])) b:=fun b hb=>⟨by rw[ao (Nat.ne_of_lt (hltf b hb))];exact(hf b hb).1,(hf b hb).2⟩
 generalize hs3:({s with heap:=s.heap.push {cls:= .type "list",dict:=none,data:= .seq ([]:List Value).toArray}}:Shared)=s3 at *
 have e3:s3.heap=s.heap.push {cls:= .type "list",dict:=none,data:= .seq ([]:List Value).toArray}:=by rw[<-hs3]
 have et:s3.toks=s.toks:=by rw[<-hs3]
 have adh:∀b∈fp,b<s3.heap.objs.size:=fun b hb=>by rw[e3,Heap.size_push];exact Nat.lt_succ_of_lt (hltf b hb)
 have hk3:∀b o,s3.heap.get? b=some o->h₁.get? b=some o:=fun b o e=>hsb₁.extBut b o (by rw[<-e3];exact Nat.ne_of_lt (Heap.lt_size e)) (by rw[<-e3];exact Heap.get?_push_of_some _ e)
 have agK:h₁.Ns s3.heap.objs.size (fun _=>none):=by rw[e3];exact hns₁
 have I4:=Mi (tk:=s.toks+([]:List (Str×Value)).length) S I3 hf3 adh agK hk3
 have hDk:∀b o,s.heap.get? b=some o->h₁.get? b=some o:=fun b o e=>hk3 b o (by rw[e3];exact Heap.get?_push_of_some _ e)
 have st4:tn 0 h₁:=T.keep 0 s.heap h₁ st fun b hb o e=>hDk b o e
 have hfX:∀{H':Hp},(∀b∈fp,H' b=none)->∀b∈fp,Bk (gG X N sc pins s3.heap.objs.size s3 (upd H s.heap.objs.size (.lst [])) fp) [] H' b:=fun{H'} hn b hb=>by
  refine⟨hn b hb,Nat.ne_of_lt (adh b hb),fun z=> ?_, .inl hb,fun x c e=>(hf3 b hb).2.2.2.2.1 x c (t6 e),fun p hp=> ?_⟩
  ·rcases List.mem_cons.mp (I3.Ib b z) with q | q
   ·exact(hf3 b hb).2.1 q
   ·exact(hf3 b hb).2.2.1 q
  ·have hp':p∈(X.pn++pins)++[]:=hp
   rw[List.append_nil] at hp'
   exact(hf3 b hb).2.2.2.2.2 p hp'
 have loop:∀s₄:Shared,s₄={s3 with heap:=h₁,toks:=s.toks+([]:List (Str×Value)).length}->
  codeAny (model X.prog X.w) X.A (.compLoop (.ListComp elt [⟨tg,iter,ifs,0⟩] sc pos) 0 (.ref it) (.ref s.heap.objs.size) (compEnvC sc (ccl sc X.env) s3.heap.objs.size X.env)) (RR (.ref s.heap.objs.size) s3.heap.objs.size) s₄:=by
  rintro s₄ rfl
  refine codeAny_loop rfl (fun k s'=>∃i σ' H',Inv (gG X N sc pins s3.heap.objs.size s3 (upd H s.heap.objs.size (.lst [])) fp) [] σ' H' s'/\tn i s'.heap/\(∀b∈fp,H' b=none)/\W i k σ' H') ?_ m0
   ⟨0,_,_,I4,st4,fun b hb=>(hf3 b hb).1,w0⟩
  rintro k s5 ⟨i,σ5,H5,I5,st5,fr5,w5⟩
  show wpAny _ X.A ((compTurn (.ListComp elt [⟨tg,iter,ifs,0⟩] sc pos) 0 (.ref it) (.ref s.heap.objs.size) (compEnvC sc (ccl sc X.env) s3.heap.objs.size X.env)).onRaise (fun x=>do noteFrame x (compEnvC sc (ccl sc X.env) s3.heap.objs.size X.env);theTreesLotGoes x)) _ _ s5
  refine wpAny_noted ?_
  rw[compTurn_list]
  refine wpAny_bind (wpAny_standAt (wpAny_bind ?_))
  have nev:∀{α:Type}{t:Sem α}{Q₁:α->Shared->Prop}{E₁:Value->Shared->Prop}{s₁:Shared},wpAny (model X.prog X.w) X.A t Q₁ (fun _ _=>False) s₁->wpAny (model X.prog X.w) X.A t Q₁ E₁ s₁:=fun h=>wpAny_noRaise h
  rcases turn i k σ5 H5 w5 with⟨stop,qn⟩ | ⟨go,Nn,hN,step⟩
  ·refine nev (thn (T.done (gG X N sc pins s3.heap.objs.size s3 (upd H s.heap.objs.size (.lst [])) fp) rfl rfl rfl hc i [] s5 σ5 H5 (fun _ _=>False) I5 (hfX fr5) st5 stop) fun r s6 ⟨hr,I6⟩=> ?_)
   subst hr
   have B:Inv X pins σ H5 s6:=comp_back I3 hf3 I6
   refine wpAny_pure (hR _ _ H5 s6 B (I3.JV (Nat.le_refl _) I6.free) ?_ qn)
   obtain⟨m,hm,_⟩:=I6.loc
   exact⟨m,hm⟩
  ·refine nev (thn (T.item (gG X N sc pins s3.heap.objs.size s3 (upd H s.heap.objs.size (.lst [])) fp) rfl rfl rfl hc i [] s5 σ5 H5 (fun _ _=>False) I5 (hfX fr5) st5 go) fun r s6 ⟨u,hr,h6⟩=> ?_)
   subst hr
   refine wpAny_bind (nev (thn h6 fun _ s7 ⟨x,H7,I7,r7,y7,st7,fr7⟩=> ?_))
   have I7':=I7.pinned (hfX fr7) (T.obj _ _ st7)
   refine wpAny_bind (nev (thn (hg _ _ _ _ _ s7 σ5 H7 x u _ I7' r7 (step x H7 y7)) fun _ s8 ⟨σ8,H8,I8,q8⟩=> ?_))
   refine wpAny_bind (nev (thn (hi _ _ _ _ _ s8 σ8 H8 _ I8 q8) fun b s9 ⟨H9,I9,q9⟩=> ?_))
   have fin:∀{s10:Shared}{H10:Hp}{m':Nat},m'<k->Inv (gG X N sc pins s3.heap.objs.size s3 (upd H s.heap.objs.size (.lst [])) fp) ([]++DX fp s7.heap) σ8 H10 s10->W (i+1) m' σ8 H10->
    ∃m,m<k/\∃i σ' H',Inv (gG X N sc pins s3.heap.objs.size s3 (upd H s.heap.objs.size (.lst [])) fp) [] σ' H' s10/\tn i s10.heap/\(∀b∈fp,H' b=none)/\W i m σ' H':=fun{s10 H10 m'} hm I10 w10=>by
    refine⟨m',hm,i+1,σ8,H10,I10.unpinned,T.keep _ _ _ st7 fun b hb o e=>(I10.pin (b,o) (List.mem_append_right _ (List.mem_append_right _ (tZ hb e)))).1,fun b hb=> ?_,w10⟩
    obtain⟨o,e,d⟩:=T.obj _ _ st7 b hb
    exact(I10.pin (b,o) (List.mem_append_right _ (List.mem_append_right _ (tZ hb e)))).2.1
   cases b with
   | false=>
     rw[if_neg Bool.false_ne_true] at q9
     obtain⟨m',hm,w9⟩:=hN _ _ q9
     exact wpAny_pure ⟨rfl,fin hm I9 w9⟩
   | true=>
     rw[if_pos rfl] at q9
     refine wpAny_bind (wpAny_bind (nev (thn (he _ _ _ _ _ s9 σ8 H9 _ I9 q9) fun v s10 ⟨y,H10,I10,r10,q10⟩=> ?_)))
     obtain⟨ys,hy,hz,n10⟩:=q10
     obtain⟨m',hm,w10⟩:=hN _ _ n10
     refine wpAny_bind (nev (thn (Hg _ s10 σ8 H10 (.ref s.heap.objs.size) [y] (.ref s.heap.objs.size) [v] (fun z H'=>H'=upd H10 s.heap.objs.size (.lst (ys++[y]))) I10 rfl (.cons r10 .nil) ⟨_,ys,y,rfl,rfl,hy,hz,rfl⟩) fun z s11 ⟨_,H11,I11,_,e11⟩=> ?_))
     subst e11
     exact wpAny_pure (wpAny_pure ⟨rfl,fin hm I11 w10⟩)
 subst hs3
 exact codeAny_compStart_list (loop _ rfl) (T.self _ 0 _ _ _ st4 (loop _ rfl))
theorem Vt (hc:X.calm=true) (S:vM X n fr N sc) (hit:PI X tg iter wi)
 (hg:∀pins C s₀ H₀ fp,PG (gG X N sc pins C s₀ H₀ fp) tg g) (hi:∀pins C s₀ H₀ fp,Qh (gG X N sc pins C s₀ H₀ fp) ifs tc) (he:∀pins C s₀ H₀ fp,PE (gG X N sc pins C s₀ H₀ fp) elt te)
 (hs:∀x,foldedSetIterable iter X.env x=pure x:=by intro _;rfl):PE X (.ListComp elt [⟨tg,iter,ifs,0⟩] sc pos) (Oh wi n fr g tc te):=by
 intro pins s σ H Q I h
 rw[eval_ListComp]
 refine wpAny_comprehension_free (use:=none) rfl hs (Eg S I.ok) S.kind S.own ?_
 refine thn (hit pins s σ H _ I h) fun v s1 h1=>thn h1 fun itv s2 h2=> ?_
 obtain⟨it,fp,tn,J,H2,e,I2,T,st2,f2,q2⟩:=h2
 subst e
 refine J4 (RR:=fun acc C=>compPost (model X.prog X.w) X.A X.xe none (EP X pins σ Q) acc C) hc S (hg pins) (hi pins) (he pins) I2 T st2 f2 q2 fun D C H' s' I' fC hm q=> ?_
 obtain⟨m,hm⟩:=hm
 refine⟨m,hm,fun h' hs'=>⟨.ref D,H',I'.turned (t':=s'.toks) (fun b o hb e=>(hs'.2 b hb).trans e) fC.1 fC.2.1 fC.2.2.2.1 fC.2.2.2.2.1 fC.2.2.2.2.2,rfl,q⟩⟩
theorem Mj {i:Nat}{x:Str}{pos' spos:Pos} (hc:X.calm=true) (hN:X.N.Nodup) (hi':X.N[i]? =some x) (hx:Loc X.env.scope x) (S:vM X n fr N sc) (hit:PI X tg iter wi)
 (hg:∀pins C s₀ H₀ fp,PG (gG X N sc pins C s₀ H₀ fp) tg g) (hi:∀pins C s₀ H₀ fp,Qh (gG X N sc pins C s₀ H₀ fp) ifs tc) (he:∀pins C s₀ H₀ fp,PE (gG X N sc pins C s₀ H₀ fp) elt te)
 (hsw:swapsWith (.ListComp elt [⟨tg,iter,ifs,0⟩] sc pos) (some (.Name x pos')) spos.line X.env=pure true)
 (hs:∀x,foldedSetIterable iter X.env x=pure x:=by intro _;rfl) (hf:X.fn x=true\/X.env.scope.names.lookup x=some .local:=by first | exact .inl rfl | exact .inr rfl | assumption):
 PS X (.Assign [.Name x pos'] (.ListComp elt [⟨tg,iter,ifs,0⟩] sc pos) spos) (Pk (Oh wi n fr g tc te) (zM i)):=by
 intro pins s σ H D I h
 rw[exec_Assign_Name_used _ _ _ _ hsw]
 refine wpAny_bind (wpAny_standAt (wpAny_bind ?_))
 show wpAny _ X.A (do let _ <-comprehension (.ListComp elt [⟨tg,iter,ifs,0⟩] sc pos) sc X.env _ (newList []) false (eval iter X.env) (some (assign (.Name x pos') X.env))) _ _ s
 refine wpAny_bind (wpAny_mono (wpAny_comprehension_free (use:=some (assign (.Name x pos') X.env)) (Q:=fun _ s'=>SP X pins D .next s') rfl hs (Eg S I.ok) S.kind S.own ?_) (fun _ s' hq=>wpAny_pure (wpAny_pure hq)) fun _ _ e=>e)
 refine thn (hit pins s σ H _ I h) fun v s1 h1=>thn h1 fun itv s2 h2=> ?_
 obtain⟨it,fp,tn,J,H2,e,I2,T,st2,f2,q2⟩:=h2
 subst e
 refine J4 (Q:=fun x H1=>zM i x σ H1 D.nx) (RR:=fun acc C=>compPost (model X.prog X.w) X.A X.xe (some (assign (.Name x pos') X.env)) (fun _ s'=>SP X pins D .next s') acc C) hc S (hg pins) (hi pins) (he pins) I2 T st2 f2 q2 fun D' C H' s' I' fC hm q=> ?_
 obtain⟨m,hm⟩:=hm
 show wpAny _ X.A (assign (.Name x pos') X.env (.ref D')) _ _ _
 refine wpAny_assign_Name (G4 I' hN hi' hx (v:= .ref D') rfl (fun s'' I'' ch=> ?_) hf)
 obtain⟨a,hsb,ha⟩:=ch
 have hne:C≠a:=by
  rcases ha with z | z
  ·rw[z];exact fC.2.1
  ·exact fun z'=>fC.2.2.2.2.1 x a z z'.symm
 exact⟨m,hm.sameBut hsb hne,fun h' hs'=>⟨_,H',I''.turned (t':=s''.toks) (fun b o hb e=>(hs'.2 b hb).trans e) fC.1 fC.2.1 fC.2.2.2.1 fC.2.2.2.2.1 fC.2.2.2.2.2,q⟩⟩
end
theorem Ml {lo:Int}{n:Nat}{g:TG}{tc:TT}{te:TE}{σ:St}{H:Hp}{D:Addr}{Q:VK} (Pv:Nat->St->Hp->Prop) (h0:Pv 0 σ (upd H D (.lst [])))
 (hs:∀i σ' H',i<n->Pv i σ' H'->g (.int (lo+i)) σ' H' fun σ3 H3=>tc σ3 H3 fun b H4=>
   if b=true then te σ3 H4 fun y H5=>∃ys,H5 D=some (.lst ys)/\ys.length<sizeLine/\Pv (i+1) σ3 (upd H5 D (.lst (ys++[y]))) else Pv (i+1) σ3 H4) (hd:∀σ' H',Pv n σ' H'->Q (.ref D) H'):
 Eh (Itr lo n) g tc te D σ (upd H D (.lst [])) Q:=by
 refine⟨fun i m σ H=>m=n - i/\i<=n/\Pv i σ H,⟨n,by simp,Nat.zero_le _,h0⟩, ?_⟩
 rintro i m σ H ⟨rfl,hi,p⟩
 by_cases hlt:i<n
 ·refine .inr ⟨hlt,Pv (i+1),fun σ' H' p'=>⟨n - (i+1),by omega,rfl,hlt,p'⟩,fun x H' y=> ?_⟩
  obtain⟨e,y⟩:=y
  subst e y
  exact hs i σ _ hlt p
 ·have e:i=n:=by omega
  subst e
  exact .inl ⟨Nat.le_refl _,hd σ H p⟩
theorem Hr {K:PySem.W.Frag}{a:Addr}{xs:List V}{g:TG}{tc:TT}{te:TE}{σ:St}{H:Hp}{D:Addr}{Q:VK} (Pv:Nat->St->Hp->Prop) (h0:Pv 0 σ (upd H D (.lst []))) (hl:∀i σ H,i<=xs.length->Pv i σ H->SqL K H a xs)
 (hs:∀i x σ' H',xs[i]? =some x->Pv i σ' H'->g x σ' H' fun σ3 H3=>tc σ3 H3 fun b H4=>
   if b=true then te σ3 H4 fun y H5=>∃ys,H5 D=some (.lst ys)/\ys.length<sizeLine/\Pv (i+1) σ3 (upd H5 D (.lst (ys++[y]))) else Pv (i+1) σ3 H4) (hd:∀σ' H',Pv xs.length σ' H'->Q (.ref D) H'):
 Eh (Itl K a) g tc te D σ (upd H D (.lst [])) Q:=by
 refine⟨fun i m σ H=>m=xs.length - i/\i<=xs.length/\Pv i σ H,⟨xs.length,by simp,Nat.zero_le _,h0⟩, ?_⟩
 rintro i m σ H ⟨rfl,hi,p⟩
 have q:=hl i σ H hi p
 by_cases hlt:i<xs.length
 ·refine .inr ⟨⟨xs,xs[i],q,by simp[hlt]⟩,Pv (i+1),fun σ' H' p'=>⟨xs.length - (i+1),by omega,rfl,hlt,p'⟩,fun x H' y=> ?_⟩
  obtain⟨e,y⟩:=y
  subst e
  exact hs i x σ _ (y xs q) p
 ·have e:i=xs.length:=by omega
  subst e
  exact .inl ⟨⟨xs,q,Nat.le_refl _⟩,hd σ H p⟩
def aG (sc:Scope) (x:Str):Prop:=Vis sc x/\(x==("__debug__":Str))=false/\(x==("__classdict__":Str))=false
instance {sc:Scope}{x:Str}:Decidable (aG sc x):=by unfold aG Vis;exact inferInstance
instance {sc:Scope}{x:Str}:Decidable (Loc sc x):=by unfold Loc;exact inferInstance
theorem pvx {X:Cx} (i:Nat) {x:Str}{pos:Pos} (v:aG X.env.scope x) (hN:X.N[i]? =some x:=by rfl):PE X (.Name x pos) (YX i):=YZ hN v.1 v.2.1 v.2.2
def nH (sc:Scope) (x:Str):Prop:=(sc.names.lookup x=some .local\/sc.names.lookup x=some .free)/\(x==("__debug__":Str))=false/\(x==("__classdict__":Str))=false
instance {sc:Scope}{x:Str}:Decidable (nH sc x):=by unfold nH;exact inferInstance
theorem nH.ok {sc:Scope}{env:Env}{x:Str} (h:nH sc x):aG (relabel sc env) x:=by
 obtain⟨h1,h2⟩:=h
 refine⟨?_,h2⟩
 rcases h1 with h1 | h1
 ·exact .inl (lookup_relabel_local h1)
 ·rcases uc (env:=env) h1 with z | z
  ·exact .inr (.inl z)
  ·exact .inr (.inr z)
theorem zO {env:Env}:∀{names:List (Str×NameKind)}{x:Str},names.lookup x=some .globalImplicit->
 (names.map fun(n,k)=>if(k==NameKind.free&&env.scope.kind== .function&&env.kindOf n==some .cell) then(n,NameKind.cell) else(n,k)).lookup x=some .globalImplicit
 |[],_,h=>by simp at h
 | (n,q)::r,x,h=>by
   have ih:=@zO env r x
   rw[List.map_cons]
   cases hx:x==n with
   | true=>
     simp only[List.lookup_cons,hx,Option.some.injEq] at h
     subst h
     simp[List.lookup_cons,hx]
   | false=>
     simp only[List.lookup_cons,hx] at h
     by_cases hc:(q==NameKind.free&&env.scope.kind== .function&&env.kindOf n==some .cell)=true
     ·simpa only[hc,if_true,List.lookup_cons,hx] using ih h
     ·simpa only[hc,if_false,List.lookup_cons,hx,Bool.false_eq_true] using ih h
theorem glC {X:Cx}{N:List Str}{sc:Scope}{pins:List (Addr×Obj)}{C:Addr}{s₀:Shared}{H₀:Hp}{fp:List Addr}{x:Str} (h:sc.names.lookup x=some .globalImplicit):Gl (gG X N sc pins C s₀ H₀ fp) x:=zO h
theorem pgx {X:Cx}{i:Nat}{x:Str}{pos:Pos} (hN:X.N.Nodup) (hx:X.env.scope.names.lookup x=some .local) (hi:X.N[i]? =some x:=by rfl):PG X (.Name x pos) (zM i):=Nz hN hi (.inl hx) (.inr hx)
theorem Io {sc:Scope}{env:Env}{x:Str} (h:sc.names.lookup x=some .local):(relabel sc env).names.lookup x=some .local:=lookup_relabel_local h
def X5 (_ j:Int):Prop:=0<j/\j.natAbs.log2<9000
theorem RG {X:Cx}:OpR X (binaryOp .FloorDiv) (rI X5 fun i j=> .int (i / j)):=opI fun i j _ _ _ _ _ hc q=>by
 have h1:(0:Int)<j:=hc.1
 exact floordiv_int (by omega) (by rw[Int.fdiv_eq_ediv_of_nonneg i (by omega)];exact q) (.inl (PyProof.noPylong_of_log2 hc.2))
mutual
inductive pP (K:PySem.W.Frag) (H:Hp):V->PyData->Prop where
 | non:pP K H .non .none
 | bl (b:Bool):pP K H (.bl b) (.bool b)
 | int (i:Int):pP K H (.int i) (.int i)
 | str (x:Str):pP K H (.str x) (.str x)
 | lst {a:Addr}{xs:List V}{ds:List PyData} (h:SqL K H a xs) (r:uV K H xs ds):pP K H (.ref a) (.list ds)
 | tup {a:Addr}{xs:List V}{ds:List PyData} (h:SqT K H a xs) (r:uV K H xs ds):pP K H (.ref a) (.tuple ds)
inductive uV (K:PySem.W.Frag) (H:Hp):List V->List PyData->Prop where
 | nil:uV K H [] []
 | cons {x:V}{d:PyData}{xs:List V}{ds:List PyData} (h:pP K H x d) (r:uV K H xs ds):uV K H (x::xs) (d::ds)
end
theorem mQ {K:PySem.W.Frag}{H:Hp}:∀ns:List Str,uV K H (ns.map V.str) (ns.map PyData.str)
 |[]=> .nil
 | n::r=> .cons (.str n) (mQ r)
section
variable {X:Cx}{pins:List (Addr×Obj)}{σ:St}{H:Hp}{s:Shared}
mutual
theorem pP.reads (I:Inv X pins σ H s):∀{x:V}{d:PyData}{u:Value},pP X.K H x d->RelV x u->∃as,Reads s.heap u d as
 | _,_,_, .non,r=>by cases(show _=Value.none from r);exact⟨_, .none⟩
 | _,_,_, .bl b,r=>by cases(show _=Value.bool b from r);exact⟨_, .bool b⟩
 | _,_,_, .int i,r=>by obtain⟨t,rfl⟩:=r;exact⟨_, .int i t⟩
 | _,_,_, .str x,r=>by obtain⟨t,rfl⟩:=r;exact⟨_, .str x t⟩
 | _,_,_, .lst h q,r=>by
   cases(show _=Value.ref _ from r)
   obtain⟨its,rv,⟨o,n,e,c,_,d⟩,_⟩:=I.list h
   obtain⟨as,hr⟩:=uV.reads I q rv
   exact⟨_, .list e c d (by simpa using hr)⟩
 | _,_,_, .tup h q,r=>by
   cases(show _=Value.ref _ from r)
   obtain⟨its,rv,⟨o,e,c,n,d⟩,_⟩:=I.tuple h
   obtain⟨as,hr⟩:=uV.reads I q rv
   exact⟨_, .tuple e c d (by simpa using hr)⟩
theorem uV.reads (I:Inv X pins σ H s):∀{xs:List V}{ds:List PyData}{us:List Value},uV X.K H xs ds->Vals xs us->∃as,ReadsAll s.heap us ds as
 | _,_,_, .nil, .nil=>⟨_, .nil⟩
 | _,_,_, .cons h r, .cons q t=>by
   obtain⟨as,h1⟩:=pP.reads I h q
   obtain⟨bs,h2⟩:=uV.reads I r t
   exact⟨_, .cons h1 h2⟩
end
end
def adi (K:PySem.W.Frag) (neg:Bool):R2:=fun x y H Q=>∃d e,pP K H x d/\pP K H y e/\SeqAt.shaped d=true/\SeqAt.shaped e=true/\Q (.bl (if neg then !PyData.eqv d e else PyData.eqv d e)) H
theorem aaf {X:Cx} (hu:X.A.units+64<cLine):OpR X (compareOp .Eq) (adi X.K false):=by
 intro pins s σ H x y v u Q I rx ry h
 obtain⟨d,e,hd,he,sd,se,q⟩:=h
 obtain⟨as,h1⟩:=hd.reads I rx
 obtain⟨bs,h2⟩:=he.reads I ry
 exact eq_dataH h1 h2 sd se hu ⟨.bl _,H,I,rfl,q⟩
theorem RJ {X:Cx} (hu:X.A.units+64<cLine):OpR X (compareOp .NotEq) (adi X.K true):=by
 intro pins s σ H x y v u Q I rx ry h
 obtain⟨d,e,hd,he,sd,se,q⟩:=h
 obtain⟨as,h1⟩:=hd.reads I rx
 obtain⟨bs,h2⟩:=he.reads I ry
 exact ne_dataH h1 h2 sd se hu ⟨.bl _,H,I,rfl,q⟩
theorem RK {X:Cx}:pM X (.builtin "isinstance") (fun xs H Q=>∃x T t b,xs=[x, .ty T]/\qI X.K H x t/\PySem.W.kitOne X.K t (.type T)=some b/\Q (.bl b) H):=by
 intro pins s σ H xs us Q I r h
 obtain⟨x,T,t,b,rfl,ty,e,q⟩:=h
 obtain⟨u,v,rfl,r1,r2⟩:=Vals.two r
 cases(show v=Value.type T from r2)
 exact PJ I r1 ty e fun tk=>⟨.bl b,H,I.tok tk,rfl,q⟩
theorem oG:bootBuiltins "len"=some (.builtin "len"):=by decide +kernel
theorem jz:bootBuiltins "isinstance"=some (.builtin "isinstance"):=by decide +kernel
theorem aag:bootBuiltins "max"=some (.builtin "max"):=by decide +kernel
theorem aah:bootBuiltins "min"=some (.builtin "min"):=by decide +kernel
theorem rO:bootBuiltins "sorted"=some (.builtin "sorted"):=by decide +kernel
theorem aai:bootBuiltins "all"=some (.builtin "all"):=by decide +kernel
theorem aaj:bootBuiltins "int"=some (.type "int"):=by decide +kernel
theorem RL:bootBuiltins "str"=some (.type "str"):=by decide +kernel
theorem Vu:bootBuiltins "bool"=some (.type "bool"):=by decide +kernel
theorem xr:bootBuiltins "list"=some (.type "list"):=by decide +kernel
theorem Ei:bootBuiltins "tuple"=some (.type "tuple"):=by decide +kernel
theorem Ip:bootBuiltins "enumerate"=some (.type "enumerate"):=by decide +kernel
theorem aak:bootBuiltins "zip"=some (.type "zip"):=by decide +kernel
structure QE (X:Cx) (e:Expr) (t:TE):Prop where
 h:PE X e t
structure QT (X:Cx) (e:Expr) (t:TT):Prop where
 h:PT X e t
structure QW (X:Cx) (e:Expr) (t:TT):Prop where
 h:PW X e t
structure QA (X:Cx) (es:List Expr) (t:TA):Prop where
 h:PA X es t
structure QS (X:Cx) (s:Stmt) (t:TS):Prop where
 h:PS X s t
structure QSs (X:Cx) (s:List Stmt) (t:TS):Prop where
 h:PSs X s t
structure QG (X:Cx) (e:Expr) (t:TG):Prop where
 h:PG X e t
structure QGs (X:Cx) (es:List Expr) (t:TGs):Prop where
 h:PGs X es t
structure QI (X:Cx) (tg e:Expr) (t:TI):Prop where
 h:PI X tg e t
structure QO (X:Cx) (e:Option Expr) (t:TO):Prop where
 h:PO X e t
structure Vv (X:Cx) (es:List Expr) (t:TT):Prop where
 h:Qh X es t
structure QPs (X:Cx) (pos:Pos) (ks:List (Option Expr)) (vs:List Expr) (t:List (TE×TE)):Prop where
 h:PPs X pos ks vs t
structure QOp (X:Cx) (f:Value->Value->Sem Value) (r:R2):Prop where
 h:OpR X f r
structure QUn (X:Cx) (f:Value->Sem Value) (r:V->Hp->VK->Prop):Prop where
 h:UnR X f r
structure QIx (X:Cx) (r:R2):Prop where
 h:IxR X r
structure QSl (X:Cx) (r:V->Option Int->Option Int->Hp->VK->Prop):Prop where
 h:SlR X r
structure QMt (X:Cx) (id:String) (r:V->List V->Hp->VK->Prop):Prop where
 h:MtR X id r
structure pQ (X:Cx) (f:Value) (r:List V->Hp->VK->Prop):Prop where
 h:pM X f r
section
variable {X:Cx}{a b c e:Expr}{es:List Expr}{ta tb te:TE}{tA tB':TT}{pos p:Pos}{x:Str}
theorem aj (i:Nat) (v:aG X.env.scope x) (hN:X.N[i]? =some x:=by rfl):QE X (.Name x pos) (YX i):=⟨pvx i v hN⟩
theorem aA {i j pos}:QE X (.Constant (.int i) j pos) (tC (.int i)):=⟨Y0⟩
theorem zP {b j pos}:QE X (.Constant (.bool b) j pos) (tC (.bl b)):=⟨acK⟩
theorem Bq {j pos}:QE X (.Constant .none j pos) (tC .non):=⟨Y4⟩
theorem aY {x j pos}:QE X (.Constant (.str x) j pos) (tC (.str x)):=⟨Q4⟩
theorem xu {v:V}{u:Value} (hg:Gl X x) (hm:X.mg x=none) (hv:bootBuiltins x=some u) (r:RelV v u) (hn:x≠"__name__") (hd:(x==("__debug__":Str))=false):QE X (.Name x pos) (tC v):=⟨UT hg hm hv r hn hd⟩
theorem bz {op:Operator}{r:R2} (ho:QOp X (binaryOp op) r) (ha:QE X a ta) (hb:QE X b tb):QE X (.BinOp a op b pos) (tOp r ta tb):=⟨acU ho.h ha.h hb.h⟩
theorem adk {op:UnaryOp}{r:V->Hp->VK->Prop} (ho:QUn X (unaryOp op) r) (ha:QE X a ta):QE X (.UnaryOp op a pos) (tUn r ta):=⟨acV ho.h ha.h⟩
theorem Ej {op:CmpOp}{r:R2} (ho:QOp X (compareOp op) r) (ha:QE X a ta) (hb:QE X b tb) (hm:behindInMarks op b=false):QE X (.Compare a [op] [b] pos) (tOp r ta tb):=⟨U9 ho.h ha.h hb.h hm⟩
theorem cQ {op:CmpOp}{r:R2} (ho:QOp X (compareOp op) r) (ha:QE X a ta) (hb:QE X b tb) (hm:behindInMarks op b=false):QT X (.Compare a [op] [b] pos) (XJ (tOp r ta tb)):=⟨Va ho.h ha.h hb.h hm⟩
theorem yE (h:QE X e te) (he:∀whole,isTrue e X.env whole=(do let v <-whole;standAt e.pos;holding [v] (truthy v)):=by intro _;rfl):QT X e (tB te):=⟨Y5 h.h he⟩
theorem Ek (ha:QE X a ta) (he:∀whole,isTrue a X.env whole=(do let v <-whole;standAt a.pos;holding [v] (truthy v)):=by intro _;rfl):QT X a (fun σ H Q=>ta σ H fun x H1=>∃k,ZD X.K x H1 k/\Q k H1):=⟨Rg ha.h he⟩
theorem RM (ha:QT X a tA):QT X (.UnaryOp .Not a pos) (acM tA):=⟨Y8 ha.h⟩
theorem aal (ha:QE X a ta):QE X (.UnaryOp .Not a pos) (Xy ta):=⟨Zi ha.h⟩
theorem Ir (ha:QT X a tA):QW X (.BoolOp .And [a] pos) tA:=⟨UW ha.h⟩
theorem vN (ha:QT X a tA):QW X (.BoolOp .Or [a] pos) tA:=⟨Y6 ha.h⟩
theorem Mm {rest:List Expr} (ha:QT X a tA) (hb:QW X (.BoolOp .And (b::rest) pos) tB'):QW X (.BoolOp .And (a::b::rest) pos) (acL tA tB'):=⟨Y7 ha.h hb.h⟩
theorem zQ {rest:List Expr} (ha:QT X a tA) (hb:QW X (.BoolOp .Or (b::rest) pos) tB'):QW X (.BoolOp .Or (a::b::rest) pos) (tOr tA tB'):=⟨acN ha.h hb.h⟩
theorem El (h:QW X e tA):QT X e tA:=⟨h.h.pt⟩
theorem Mp {op} (h:QE X a ta):QE X (.BoolOp op [a] pos) ta:=⟨Y9 h.h⟩
theorem Iu {rest:List Expr} (ha:QE X a ta) (hb:QE X (.BoolOp .And (b::rest) pos) tb):QE X (.BoolOp .And (a::b::rest) pos) (Xx ta tb):=⟨Zh ha.h hb.h⟩
theorem J7 (hc:QT X c tA) (ha:QE X a ta) (hb:QE X b tb):QE X (.IfExp c a b pos) (tIf tA ta tb):=⟨Q6 hc.h ha.h hb.h⟩
theorem au:QA X [] PK:=⟨ZL⟩
theorem lQ {t:TA} (ha:QE X e te) (hr:QA X es t) (hs:starEach (e::es) X.env=(false,eval e X.env)::starEach es X.env:=by rfl):QA X (e::es) (rM te t):=⟨Vd ha.h hr.h hs⟩
theorem jn {x1}{t:TA} (h:QA X es t):QE X (.Tuple es x1 pos) (ac5 t):=⟨ZM h.h⟩
theorem gR {t:TA} (h:QA X es t):QE X (.List es pos) (ac6 t):=⟨ZP h.h⟩
theorem cM {r:R2} (hr:QIx X r) (ha:QE X a ta) (hb:QE X b tb) (hs:N7 b:=by intro _ _;rfl):QE X (.Subscript a b pos) (tOp r ta tb):=⟨ac7 hr.h ha.h hb.h hs⟩
theorem xx:QO X none N5:=⟨Vh⟩
theorem xF (h:QE X e te):QO X (some e) (XQ te):=⟨Vi h.h⟩
theorem rP {r:V->Option Int->Option Int->Hp->VK->Prop}{lo hi:Option Expr}{tl th:TO}{p2:Pos} (hr:QSl X r) (he:QE X e te) (hl:QO X lo tl) (hu:QO X hi th):QE X (.Subscript e (.Slice lo hi none p2) pos) (tSl r te tl th):=⟨Rq hr.h he.h hl.h hu.h⟩
theorem dY (hu:X.A.units+1<cLine) (ho:QE X a ta) (hi:QE X b tb) (hs:Z0 b:=by intro _ _;rfl):QE X (.Subscript a b pos) (XS ta tb):=⟨Vo hu ho.h hi.h hs⟩
theorem aam:QPs X pos [] [] []:=⟨Vq⟩
theorem Iv {k v:Expr}{ks:List (Option Expr)}{vs:List Expr}{tk tv:TE}{trs:List (TE×TE)} (hk:QE X k tk) (hv:QE X v tv) (hr:QPs X pos ks vs trs):QPs X pos (some k::ks) (v::vs) ((tk,tv)::trs):=⟨Ry hk.h hv.h hr.h⟩
theorem Vw {keys:List (Option Expr)}{values:List Expr}{trs:List (TE×TE)} (h:QPs X pos keys values trs) (hall:keys.all (·.isSome)=true:=by rfl) (hl:keys.length=values.length:=by rfl) (h1:keys≠[]:=by intro z;cases z) (h2:keys.length<=15:=by decide):QE X (.Dict keys values pos) (X3 trs):=⟨Vr h.h hall hl h1 h2⟩
theorem bM {CX:CXT}{k:Nat}{f:Addr}{fd:FuncData}{ps:List Str}{sp:Sp}{dvs:List V}{ds:List Value}{E:XK}{t:TA} (F:aX X.prog X.w X.K X.mg X.base CX k f fd ps sp) (hr:jB k X.A) (hg:Gl X x) (hm:X.mg x=some (.ref f)) (hk:PySem.W.keepIn X.K (.ref f)=true) (hb:Binds X.K fd ps ds) (hd:Vals dvs ds) (hx:Passes CX X E)
 (ha:QA X (e::es) t) (hdb:(x==("__debug__":Str))=false) (he:starEach (e::es) X.env=(false,eval e X.env)::starEach es X.env:=by rfl) (hpl:(backTo pos (starEach es X.env)).any (·.1)=false:=by rfl):
 QE X (.Call (.Name x p) (e::es) [] pos) (NQ sp dvs E t):=⟨Ve F hr hg hm hk hb hd hx ha.h hdb he hpl⟩
theorem zR {CX:CXT}{k:Nat}{f:Addr}{fd:FuncData}{ps:List Str}{sp:Sp}{dvs:List V}{ds:List Value}{E:XK} (F:aX X.prog X.w X.K X.mg X.base CX k f fd ps sp) (hr:jB k X.A) (hg:Gl X x) (hm:X.mg x=some (.ref f)) (hk:PySem.W.keepIn X.K (.ref f)=true) (hb:Binds X.K fd ps ds) (hd:Vals dvs ds) (hx:Passes CX X E)
 (hdb:(x==("__debug__":Str))=false):QE X (.Call (.Name x p) [] [] pos) (NQ sp dvs E PK):=⟨Rj F hr hg hm hk hb hd hx hdb⟩
theorem cN {id:String}{r:List V->Hp->VK->Prop}{t:TA} (hc:pQ X (.builtin id) r) (hg:Gl X x) (hm:X.mg x=none) (hv:bootBuiltins x=some (.builtin id)) (ha:QA X (e::es) t) (hn:x≠"__name__") (hdb:(x==("__debug__":Str))=false)
 (he:starEach (e::es) X.env=(false,eval e X.env)::starEach es X.env:=by rfl) (hpl:(backTo pos (starEach es X.env)).any (·.1)=false:=by rfl):QE X (.Call (.Name x p) (e::es) [] pos) (tCB r t):=⟨Rp hc.h hg hm hv ha.h hn hdb he hpl⟩
theorem pK {T:String}{r:List V->Hp->VK->Prop}{t:TA} (hc:pQ X (.type T) r) (hg:Gl X x) (hm:X.mg x=none) (hv:bootBuiltins x=some (.type T)) (ha:QA X (e::es) t) (hn:x≠"__name__") (hdb:(x==("__debug__":Str))=false)
 (he:starEach (e::es) X.env=(false,eval e X.env)::starEach es X.env:=by rfl) (hpl:(backTo pos (starEach es X.env)).any (·.1)=false:=by rfl):QE X (.Call (.Name x p) (e::es) [] pos) (tCB r t):=⟨PN hc.h hg hm hv ha.h hn hdb he hpl⟩
theorem Br {o:Expr}{to:TE}{name:Str}{apos cpos:Pos}{T id:String}{r:V->List V->Hp->VK->Prop} (pa:PlainAttrs T) (slot:Slot T name id) (hty:typeOf (.builtin id)=pure (.type "method_descriptor")) (hm:QMt X id r) (ho:QE X o to)
 (hbase:attributeBase o name X.env (eval o X.env)=eval o X.env:=by rfl) (hline:(apos.endLine==cpos.line)=true:=by rfl):QE X (.Call (.Attribute o name apos) [] [] cpos) (ac9 X.K T r to):=⟨ZW pa slot hty hm.h ho.h hbase hline⟩
theorem vO {o:Expr}{to:TE}{name:Str}{apos cpos:Pos}{T id:String}{r:V->List V->Hp->VK->Prop}{t:TA} (pa:PlainAttrs T) (slot:Slot T name id) (hty:typeOf (.builtin id)=pure (.type "method_descriptor")) (hm:QMt X id r) (ho:QE X o to) (ha:QA X (e::es) t)
 (hbase:attributeBase o name X.env (eval o X.env)=eval o X.env:=by rfl)
 (hfew:((backTo cpos (starEach (e::es) X.env)).all (fun x=> !x.1)&&(backToKw cpos (keywordEach [] X.env)).all (fun x=>x.1.isSome)
   &&decide ((e::es).length+([]:List Keyword).length+(if([]:List Keyword).isEmpty then 0 else 1)<30))=true:=by rfl)
 (hline:(apos.endLine==cpos.line)=true:=by rfl) (hs:starEach (e::es) X.env=(false,eval e X.env)::starEach es X.env:=by rfl) (hplain:(backTo cpos (starEach es X.env)).any (·.1)=false:=by rfl):
 QE X (.Call (.Attribute o name apos) (e::es) [] cpos) (tBM X.K T r to t):=⟨ada pa slot hty hm.h ho.h ha.h hbase hfew hline hs hplain⟩
theorem zT {n:Nat}{fr:List Nat}{N:List Str}{sc:Scope}{elt tg iter:Expr}{ifs:List Expr}{wi:TI}{g:TG}{tc:TT} (hc:X.calm=true) (S:vM X n fr N sc) (hit:QI X tg iter wi)
 (hg:∀pins C s₀ H₀ fp,QG (gG X N sc pins C s₀ H₀ fp) tg g) (hi:∀pins C s₀ H₀ fp,Vv (gG X N sc pins C s₀ H₀ fp) ifs tc) (he:∀pins C s₀ H₀ fp,QE (gG X N sc pins C s₀ H₀ fp) elt te)
 (hs:∀x,foldedSetIterable iter X.env x=pure x:=by intro _;rfl):QE X (.ListComp elt [⟨tg,iter,ifs,0⟩] sc pos) (Oh wi n fr g tc te):=
 ⟨Vt hc S hit.h (fun a b c d e=>(hg a b c d e).h) (fun a b c d e=>(hi a b c d e).h) (fun a b c d e'=>(he a b c d e').h) hs⟩
theorem Mq {i:Nat}{pos' spos:Pos}{n:Nat}{fr:List Nat}{N:List Str}{sc:Scope}{elt tg iter:Expr}{ifs:List Expr}{wi:TI}{g:TG}{tc:TT} (hc:X.calm=true) (hN:X.N.Nodup) (hi':X.N[i]? =some x) (hx:Loc X.env.scope x) (S:vM X n fr N sc) (hit:QI X tg iter wi)
 (hg:∀pins C s₀ H₀ fp,QG (gG X N sc pins C s₀ H₀ fp) tg g) (hi:∀pins C s₀ H₀ fp,Vv (gG X N sc pins C s₀ H₀ fp) ifs tc) (he:∀pins C s₀ H₀ fp,QE (gG X N sc pins C s₀ H₀ fp) elt te)
 (hsw:swapsWith (.ListComp elt [⟨tg,iter,ifs,0⟩] sc pos) (some (.Name x pos')) spos.line X.env=pure true)
 (hs:∀x,foldedSetIterable iter X.env x=pure x:=by intro _;rfl) (hf:X.fn x=true\/X.env.scope.names.lookup x=some .local:=by first | exact .inl rfl | exact .inr rfl | assumption):
 QS X (.Assign [.Name x pos'] (.ListComp elt [⟨tg,iter,ifs,0⟩] sc pos) spos) (Pk (Oh wi n fr g tc te) (zM i)):=
 ⟨Mj hc hN hi' hx S hit.h (fun a b c d e=>(hg a b c d e).h) (fun a b c d e=>(hi a b c d e).h) (fun a b c d e'=>(he a b c d e').h) hsw hs hf⟩
theorem Mr:Vv X [] X4:=⟨RC⟩
theorem Mt {t:TT} (h:QT X c t):Vv X [c] t:=⟨RD h.h⟩
theorem xG {tg l:Expr}{tl:TE} (hl:QE X l tl):QI X tg l (XF X.K tl):=⟨U7 hl.h⟩
theorem Hs {tg:Expr}{t:TA} (hg:Gl X "range") (hm:X.mg "range"=none) (ha:QA X [a] t) (hs:starEach [a] X.env=[(false,eval a X.env)]:=by rfl):QI X tg (.Call (.Name "range" p) [a] [] pos) (XH t):=⟨Pq hg hm ha.h hs⟩
theorem jH {i:Nat} (hN:X.N.Nodup) (hi:X.N[i]? =some x) (hx:Loc X.env.scope x) (hf:X.fn x=true\/X.env.scope.names.lookup x=some .local:=by first | exact .inl rfl | exact .inr rfl | assumption):QG X (.Name x pos) (zM i):=⟨Nz hN hi hx hf⟩
theorem qgx {i:Nat} (hN:X.N.Nodup) (hx:X.env.scope.names.lookup x=some .local) (hi:X.N[i]? =some x:=by rfl):QG X (.Name x pos) (zM i):=⟨pgx hN hx hi⟩
theorem ud:QGs X [] acS:=⟨U6⟩
theorem gD {t:TG}{u:TGs} (h1:QG X e t) (h2:QGs X es u) (hs:(assignEach (e::es) X.env).map (·.2)=assign e X.env::(assignEach es X.env).map (·.2):=by rfl):QGs X (e::es) (XD t u):=⟨Q8 h1.h h2.h hs⟩
theorem Em {k n:Nat}{t:TGs} (hc:X.calm=true) (h:QGs X es t) (hn:(assignEach es X.env).length=n:=by rfl) (hst:(assignEach es X.env).findIdx? (·.1)=none:=by rfl):QG X (.Tuple es k pos) (Zk X.K n t):=⟨Zm hc h.h hn hst⟩
theorem RN {tg:Expr}{g:TG} (he:QE X e te) (hg:QG X tg g) (hs:swapsWithSole [tg] e pos.line X.env=pure false:=by rfl) (hw:swappedStores [tg] e X.env=pure none:=by rfl)
 (h1:(assignEach [tg] X.env).map (·.2)=[assign tg X.env]:=by rfl):QS X (.Assign [tg] e pos) (Pk te g):=⟨Zn he.h hg.h hs hw h1⟩
theorem bV {i:Nat}{pos':Pos} (hN:X.N.Nodup) (hi:X.N[i]? =some x) (hx:Loc X.env.scope x) (he:QE X e te) (hs:swapsWith e (some (.Name x pos')) pos.line X.env=pure false:=by rfl) (hf:X.fn x=true\/X.env.scope.names.lookup x=some .local:=by first | exact .inl rfl | exact .inr rfl | assumption):
 QS X (.Assign [.Name x pos'] e pos) (Pk te (zM i)):=⟨Zo hN hi hx he.h hs hf⟩
theorem iT {o i v:Expr}{td ty tv:TE}{pos':Pos} (hu:X.A.units+1<cLine) (ho:QE X o td) (hi:QE X i ty) (hv:QE X v tv) (hs:swapsWith v (some (.Subscript o i pos')) pos.line X.env=pure false:=by rfl):QS X (.Assign [.Subscript o i pos'] v pos) (XX td ty tv):=⟨Vp hu ho.h hi.h hv.h hs⟩
theorem iz (he:QE X e te) (hs:swapsWith e none pos.line X.env=pure false:=by rfl):QS X (.Expr e pos) (XC te):=⟨U5 he.h hs⟩
theorem bR (he:QE X e te):QS X (.Return (some e) pos) (acP te):=⟨Zj he.h⟩
theorem Vx:QS X (.Pass pos) Ny:=⟨U4⟩
theorem J9:QS X (.Continue pos) Xz:=⟨JT⟩
theorem eY {s1 s2:List Stmt}{t u:TS} (hc:QT X c tA) (ha:QSs X s1 t) (hb:QSs X s2 u):QS X (.If c s1 s2 pos) (acQ tA t u):=⟨acR hc.h ha.h hb.h⟩
theorem En {body:List Stmt}{tb:TS} (hp:PassesOwn (model X.prog X.w) X.A X.env X.xe) (hc:QT X c tA) (hb:QSs X body tb):QS X (.While c body [] pos) (Q9 tA tb):=⟨Ra hp hc.h hb.h⟩
theorem Bs {tg iter:Expr}{body:List Stmt}{wi:TI}{g:TG}{tb:TS} (hp:PassesOwn (model X.prog X.w) X.A X.env X.xe) (hc:X.calm=true) (hi:QI X tg iter wi) (hg:QG X tg g) (hb:QSs X body tb)
 (hs:∀x,foldedSetIterable iter X.env x=pure x:=by intro _;rfl):QS X (.For tg iter body [] pos) (acT wi g tb):=⟨Zq hp hc hi.h hg.h hb.h hs⟩
theorem dz:QSs X [] Ny:=⟨U0⟩
theorem aq {s:Stmt}{rest:List Stmt}{t u:TS} (h1:QS X s t) (h2:QSs X rest u):QSs X (s::rest) (acO t u):=⟨Q7 h1.h h2.h⟩
theorem aB {s:Stmt}{t:TS} (h1:QS X s t):QSs X [s] t:=⟨U3 h1.h⟩
theorem iI:QOp X (binaryOp .Add) (rI0 fun i j=> .int (i+j)):=⟨Zt⟩
theorem jW:QOp X (binaryOp .Sub) (rI0 fun i j=> .int (i - j)):=⟨Zu⟩
theorem lC:QOp X (binaryOp .Mult) (rI qp fun i j=> .int (i * j)):=⟨Zv⟩
theorem iJ:QOp X (binaryOp .Mod) (rI (fun _ j=>0<j) fun i j=> .int (i % j)):=⟨Zw⟩
theorem nJ:QOp X (binaryOp .FloorDiv) (rI X5 fun i j=> .int (i / j)):=⟨RG⟩
theorem Oi:QOp X (binaryOp .Pow) (rI acY fun i j=> .int (i ^ j.toNat)):=⟨Zx⟩
theorem Iw:QOp X (binaryOp .Add) ade:=⟨ZZ⟩
theorem Vy:QUn X (unaryOp .USub) (rU fun i=> .int (-i)):=⟨Zy⟩
theorem gH:QOp X (compareOp .Eq) rEq:=⟨ac0⟩
theorem Bt:QOp X (compareOp .NotEq) rNe:=⟨ac1⟩
theorem RP:QOp X (compareOp .Lt) (rI0 fun i j=> .bl (decide (i<j))):=⟨ac2⟩
theorem aan:QOp X (compareOp .Gt) (rI0 fun i j=> .bl (decide (j<i))):=⟨ac3⟩
theorem Vz:QOp X (compareOp .Is) (fun x y H Q=>y= .non/\Q (.bl (decide (x= .non))) H):=⟨Zz⟩
theorem RQ:QOp X (compareOp .IsNot) (fun x y H Q=>y= .non/\Q (.bl (!decide (x= .non))) H):=⟨U8⟩
theorem Mv:QOp X (compareOp .In) (rIn X.K false):=⟨PX⟩
theorem fY:QIx X (ZQ X.K):=⟨Vk⟩
theorem cF:QIx X (ZR X.K):=⟨ZS⟩
theorem rQ:QSl X (ac8 X.K):=⟨Vl⟩
theorem lE:QMt X "list.append" N8:=⟨Hg⟩
theorem yF:QMt X "list.extend" Oa:=⟨Qa⟩
theorem xH:QMt X "list.pop" adb:=⟨ZX⟩
theorem gU:pQ X (.builtin "len") (fun xs H Q=>∃p ys,xs=[.ref p]/\(SqL X.K H p ys\/SqT X.K H p ys)/\Q (.int ys.length) H):=⟨Ij⟩
theorem Mw:pQ X (.builtin "len") (fun xs H Q=>∃z,xs=[.str z]/\z.length<=sizeLine/\Q (.int z.length) H):=⟨Ik⟩
theorem Bu:pQ X (.builtin "isinstance") (fun xs H Q=>∃x T t b,xs=[x, .ty T]/\qI X.K H x t/\PySem.W.kitOne X.K t (.type T)=some b/\Q (.bl b) H):=⟨RK⟩
theorem yG:pQ X (.type "list") (fun xs H Q=>∃p ys,xs=[.ref p]/\(SqL X.K H p ys\/SqT X.K H p ys)/\∀l,H l=none->Q (.ref l) (upd H l (.lst ys))):=⟨Il⟩
theorem Ka:pQ X (.type "tuple") (fun xs H Q=>∃p ys,xs=[.ref p]/\SqL X.K H p ys/\∀l,H l=none->Q (.ref l) (upd H l (.tup ys))):=⟨fun pins s σ H xs us Q I r h=>Gv pins s σ H xs us Q I r (let ⟨p,ys,e,hs,q⟩:=h;⟨p,ys,e, .inl ⟨hs,q⟩⟩)⟩
theorem bB (b:Expr) {op:CmpOp} (h:op≠ .In:=by decide) (h2:op≠ .NotIn:=by decide):behindInMarks op b=false:=ZC b h h2
theorem xJ {K:PySem.W.Frag} (e:X.K=K):QIx X (ZQ K):=e▸fY
theorem Kc {K:PySem.W.Frag} (e:X.K=K):QIx X (ZR K):=e▸cF
theorem Kd {K:PySem.W.Frag} (e:X.K=K):pQ X (.builtin "len") (fun xs H Q=>∃p ys,xs=[.ref p]/\(SqL K H p ys\/SqT K H p ys)/\Q (.int ys.length) H):=e▸gU
end
theorem Qi {X:Cx} (hc:X.calm=true):pM X (.builtin "all") (fun xs H Q=>∃(p:Addr) (bs:List Bool),xs=[V.ref p]/\SqL X.K H p (bs.map V.bl)/\Q (.bl (bs.all id)) H):=by
 intro pins s σ H xs us Q I r h
 obtain⟨p,bs,rfl,hp,q⟩:=h
 obtain⟨u,rfl,ru⟩:=Vals.one r
 cases(show u=Value.ref p from ru)
 obtain⟨its,rv,pl,hz⟩:=I.list hp
 have hlt:p<s.heap.objs.size:=by obtain⟨o,n,e,_⟩:=pl;exact Heap.lt_size e
 have hlen:its.length=bs.length:=by rw[<-rv.length,List.length_map]
 refine call_all_walk (wpAny_pyIter_list pl.isList ?_)
 refine⟨s.heap.objs.size,_,_,its.toArray.size,(fun i v=>its.toArray[i]? =some v),_,(fun i=>bs.getD i false),rfl,Walks.list (A:=X.A.in1) (I.ok.hd hc) s.heap.objs.size p (Nat.ne_of_lt hlt) its.toArray,⟨⟨_,Heap.get?_push_size _ rfl,rfl,rfl⟩,pl.isList.push _⟩, ?_, ?_⟩
 ·intro i v s' Q' E' hv hq
  have hi:i<bs.length:=by
   rw[<-hlen]
   have:=(Array.getElem?_eq_some_iff.mp hv).1
   simpa using this
  obtain⟨u,hu,ru⟩:=rv.get (i:=i) (x:=V.bl bs[i]) (by rw[List.getElem?_map,List.getElem?_eq_getElem hi];rfl)
  have hv':its[i]? =some v:=by simpa using hv
  rw[hu] at hv'
  cases hv'
  cases(show v=Value.bool _ from ru)
  refine wpAny_truthy_bool ?_
  have e:bs.getD i false=bs[i]:=by rw[List.getD_eq_getElem?_getD,List.getElem?_eq_getElem hi];rfl
  have hq':Q' (bs.getD i false) s':=hq
  rw[e] at hq'
  exact hq'
 ·intro h' tk hk
  have e:(List.range its.toArray.size).all (fun i=>bs.getD i false)=bs.all id:=by
   rw[List.size_toArray,hlen]
   rw[Bool.eq_iff_iff,List.all_eq_true,List.all_eq_true]
   constructor
   ·intro h b hb
    obtain⟨i,hi,rfl⟩:=List.mem_iff_getElem.mp hb
    have:=h i (List.mem_range.mpr hi)
    rw[List.getD_eq_getElem?_getD,List.getElem?_eq_getElem hi] at this
    exact this
   ·intro h i hi
    have hi':=List.mem_range.mp hi
    rw[List.getD_eq_getElem?_getD,List.getElem?_eq_getElem hi']
    exact h _ (List.getElem_mem hi')
  rw[e]
  refine⟨.bl _,H,I.kept (t':=tk) fun b o eb=>hk b o ?_ (Heap.get?_push_of_some _ eb),rfl,q⟩
  intro z
  have:b=s.heap.objs.size:=by simpa using z
  exact absurd (Heap.lt_size eb) (by rw[this];exact Nat.lt_irrefl _)
section
variable {X:Cx}{a b c e:Expr}{ta tb tc te:TE}{pos:Pos}
theorem VB (hc:X.calm=true):pQ X (.builtin "all") (fun xs H Q=>∃(p:Addr) (bs:List Bool),xs=[V.ref p]/\SqL X.K H p (bs.map V.bl)/\Q (.bl (bs.all id)) H):=⟨Qi hc⟩
end
end L2
namespace RB
open PySem L2 PySem.Spec PyProof.Rows
def But (S:List Addr) (H H':Hp):Prop:=∀b o,b∉S->H b=some o->H' b=some o
theorem But.refl (S:List Addr) (H:Hp):But S H H:=fun _ _ _ h=>h
theorem But.trans {S:List Addr}{H H1 H2:Hp} (a:But S H H1) (b:But S H1 H2):But S H H2:=fun c o n h=>b c o n (a c o n h)
theorem But.mono {S S':List Addr}{H H':Hp} (a:But S H H') (h:∀b∈S,b∈S'):But S' H H':=fun c o n q=>a c o (fun z=>n (h c z)) q
theorem But.new {S:List Addr}{H:Hp}{p:Addr} (o:HO) (h:H p=none):But S H (upd H p o):=fun b u _ q=>by rw[ao (aF q h)];exact q
theorem But.set {S:List Addr}{H:Hp}{p:Addr} (o:HO) (h:p∈S):But S H (upd H p o):=fun b u n q=>by rw[ao (show b≠p from fun e=>n (by rw[e];exact h))];exact q
theorem But.of_same {S:List Addr}{H H':Hp} (h:aN H H'):But S H H':=fun b o _ q=>h b o q
theorem az {H:Hp}{p:Addr} (o:HO) (h:H p=none):aN H (upd H p o):=fun b u q=>by rw[ao (aF q h)];exact q
def jX (H H':Hp):Prop:=∀b xs,H b=some (.tup xs)->H' b=some (.tup xs)
theorem aN.tups {H H':Hp} (h:aN H H'):jX H H':=fun b xs q=>h b _ q
inductive Op where | plus | minus | times | most
 deriving DecidableEq
def Op.word:Op->Str
 | .plus=>"plus" | .minus=>"minus" | .times=>"times" | .most=>"most"
inductive R where
 | num (n:Int) | rd (x:Str) | bin (op:Op) (a b:R) | pick (a b c:R) | cho (a:R) (ns:List Str)
def R.depth:R->Nat
 | .num _=>1
 | .rd _=>1
 | .bin _ a b=>max a.depth b.depth+1
 | .pick a b c=>max a.depth (max b.depth c.depth)+1
 | .cho a _=>a.depth+1
def Ht (c:Nat):Prop:=97<=c/\c<=122
def lR (x:Str):Prop:=1<=x.length/\x.length<=8/\∀c∈x.cps.toList,Ht c
def R.Good:R->Prop
 | .num n=>n.natAbs<10 ^ 40
 | .rd x=>lR x
 | .bin _ a b=>a.Good/\b.Good
 | .pick a b c=>a.Good/\b.Good/\c.Good
 | .cho a ns=>a.Good/\1<=ns.length/\ns.length<=9/\∀x∈ns,lR x
inductive IsR (H:Hp):Addr->R->Prop where
 | num {a:Addr}{n:Int} (e:H a=some (.tup [.str "number", .int n])):IsR H a (.num n)
 | rd {a:Addr}{x:Str} (e:H a=some (.tup [.str "read", .str x])):IsR H a (.rd x)
 | bin {a b c:Addr}{op:Op}{r s:R} (e:H a=some (.tup [.str op.word, .ref b, .ref c])) (h1:IsR H b r) (h2:IsR H c s):IsR H a (.bin op r s)
 | pick {a b c d:Addr}{r s t:R} (e:H a=some (.tup [.str "pick", .ref b, .ref c, .ref d])) (h1:IsR H b r) (h2:IsR H c s) (h3:IsR H d t):IsR H a (.pick r s t)
 | cho {a b c:Addr}{r:R}{ns:List Str} (e:H a=some (.tup [.str "choose", .ref b, .ref c])) (h1:IsR H b r) (h2:H c=some (.tup (ns.map V.str))):IsR H a (.cho r ns)
theorem IsR.tups {H H':Hp} (t:jX H H') {a:Addr}{r:R} (h:IsR H a r):IsR H' a r:=by
 induction h with
 | num e=>exact .num (t _ _ e)
 | rd e=>exact .rd (t _ _ e)
 | bin e _ _ i1 i2=>exact .bin (t _ _ e) i1 i2
 | pick e _ _ _ i1 i2 i3=>exact .pick (t _ _ e) i1 i2 i3
 | cho e _ h2 i1=>exact .cho (t _ _ e) i1 (t _ _ h2)
theorem IsR.same {H H':Hp} (t:aN H H') {a:Addr}{r:R} (h:IsR H a r):IsR H' a r:=h.tups (aN.tups t)
theorem R.rR (r:R):1<=r.depth:=by cases r<;>simp[R.depth]
def Oj (K:PySem.W.Frag):Sp:=fun vs H Q _=>∃(a:Addr) (ns:List Int),vs=[.ref a]/\SqL K H a (ns.map V.int)/\ns.length<=63/\∀H',Q (.bl true) H'
structure FnT (K:PySem.W.Frag) (mg:Str->Option Value) (x:Str) (st:Stmt) (ps:List Str) (f:Addr) (fd:FuncData):Prop where
 F:Fun K x x st f fd
 b:Binds K fd ps []
 m:mg x=some (.ref f)
structure Blt (mg:Str->Option Value):Prop where
 uW:mg "len"=none
 Ol:mg "range"=none
 X6:mg "str"=none
 adl:mg "int"=none
 Bv:mg "list"=none
 Iz:mg "tuple"=none
 jY:mg "isinstance"=none
 aao:mg "bool"=none
 agL:mg "dict"=none
 aic:mg "sum"=none
 adm:mg "all"=none
 aid:mg "any"=none
 adn:mg "max"=none
 ado:mg "min"=none
 vP:mg "sorted"=none
 aie:mg "set"=none
 CQ:mg "enumerate"=none
 adp:mg "zip"=none
 aap:mg "reversed"=none
 aif:mg "abs"=none
theorem adq {xs:List Int}{i:Int} (h0:0<=i) (h1:i<((xs.map V.int).length:Int)):∃v j,atI (xs.map V.int) i=some (.int v)/\ixN (xs.map V.int).length i=some j/\j<xs.length/\∀u:Int,(xs.map V.int).set j (.int u)=(xs.set j u).map V.int:=by
 have hl:(xs.map V.int).length=xs.length:=List.length_map _
 obtain⟨j,rfl⟩:=Int.eq_ofNat_of_zero_le h0
 have hj:j<xs.length:=by omega
 refine⟨xs[j],j,lB (by rw[List.getElem?_map,List.getElem?_eq_getElem hj];rfl), ?_,hj,fun u=> ?_⟩
 ·unfold ixN
  rw[if_pos h0,if_pos (by omega)]
  simp
 ·rw[List.map_set]
theorem But.upd {S:List Addr}{H H':Hp}{p:Addr} (b:But S H H') (o:HO) (h:H p=none):But S H (upd H' p o):=fun c u n q=>by
 rw[ao (aF q h)];exact b c u n q
theorem adt {c A B:Prop} [Decidable c] (hc:c) (h:A):if decide c=true then A else B:=by rw[if_pos (decide_eq_true hc)];exact h
theorem adu {c A B:Prop} [Decidable c] (hc:¬c) (h:B):if decide c=true then A else B:=by rw[if_neg (by simpa using hc)];exact h
theorem adv {c A B:Prop} [Decidable c] (hc:¬c) (h:A):if(!decide c)=true then A else B:=by rw[if_pos (by simpa using hc)];exact h
theorem never {P:Program}{w:World}{K:PySem.W.Frag}{mg:Str->Option Value}{base:Heap}{k:Nat}{f:Addr}{fd:FuncData}{ps:List Str}{sp:Sp} (no:∀vs H Q E,¬sp vs H Q E):aX P w K mg base CX0 k f fd ps sp:=
 ⟨fun vs H Q E h=>absurd h (no vs H Q E),fun A outer s H args us vs Q E _ _ _ _ h=>absurd h (no vs H Q E)⟩
theorem shaped_ints (ns:List Int):SeqAt.shaped (.list (ns.map PyData.int))=true:=by
 simp[SeqAt.shaped,PyData.canLay0,PyData.canLayAll0,PyData.depth,PyData.depthAll,PySem.W.ke_canLayAll0,PySem.W.ke_depthAll]
theorem rT {H H':Hp}{p:Addr} (o:HO) (h:H p=none) (s:aN H H'):aN H (upd H' p o):=fun b u q=>by
 rw[ao (aF q h)];exact s b u q
inductive Th where
 | non | bl (b:Bool) | int (i:Int) | str (x:Str) | tup (xs:List Th) | oth (T:String)
mutual
inductive o7 (K:PySem.W.Frag) (H:Hp):V->Th->Prop where
 | non:o7 K H .non .non
 | bl (b:Bool):o7 K H (.bl b) (.bl b)
 | int (i:Int):o7 K H (.int i) (.int i)
 | str (x:Str):o7 K H (.str x) (.str x)
 | tup {a:Addr}{vs:List V}{ts:List Th} (e:H a=some (.tup vs)) (h:mH K H vs ts):o7 K H (.ref a) (.tup ts)
 | oth {a:Addr}{T:String} (h:qI K H (.ref a) (.type T)) (hT:T="list"\/T="dict") (keep:∀H',aN H H'->qI K H' (.ref a) (.type T)):o7 K H (.ref a) (.oth T)
inductive mH (K:PySem.W.Frag) (H:Hp):List V->List Th->Prop where
 | nil:mH K H [] []
 | cons {v:V}{t:Th}{vs:List V}{ts:List Th} (h:o7 K H v t) (r:mH K H vs ts):mH K H (v::vs) (t::ts)
end
mutual
theorem o7.same {K:PySem.W.Frag}{H H':Hp} (s:aN H H'):∀{v:V}{t:Th},o7 K H v t->o7 K H' v t
 | _,_, .non=> .non
 | _,_, .bl b=> .bl b
 | _,_, .int i=> .int i
 | _,_, .str x=> .str x
 | _,_, .tup e h=> .tup (s _ _ e) (mH.same s h)
 | _,_, .oth h hT k=> .oth (k _ s) hT fun H2 s2=>k _ (s.trans s2)
theorem mH.same {K:PySem.W.Frag}{H H':Hp} (s:aN H H'):∀{vs:List V}{ts:List Th},mH K H vs ts->mH K H' vs ts
 | _,_, .nil=> .nil
 | _,_, .cons h r=> .cons (o7.same s h) (mH.same s r)
end
theorem mH.length {K:PySem.W.Frag}{H:Hp}:∀{vs:List V}{ts:List Th},mH K H vs ts->vs.length=ts.length
 | _,_, .nil=>rfl
 | _,_, .cons _ r=>congrArg (· +1) (mH.length r)
theorem mH.get {K:PySem.W.Frag}{H:Hp}:∀{vs:List V}{ts:List Th}{i:Nat}{v:V},mH K H vs ts->vs[i]? =some v->∃t,ts[i]? =some t/\o7 K H v t
 | _,_,_,_, .nil,e=>by simp at e
 | _,_,0,_, .cons h _,e=>by simp at e;subst e;exact⟨_,rfl,h⟩
 | _,_,i+1,v, .cons _ r,e=>by
   obtain⟨t,h1,h2⟩:=mH.get (i:=i) (v:=v) r (by simpa using e)
   exact⟨t,by simpa using h1,h2⟩
def Ke:Th->String
 | .non=>"NoneType" | .bl _=>"bool" | .int _=>"int" | .str _=>"str" | .tup _=>"tuple" | .oth T=>T
theorem o7.ty {K:PySem.W.Frag}{H:Hp}{v:V}{t:Th} (h:o7 K H v t):qI K H v (.type (Ke t)):=by
 cases h with
 | non=>exact .non
 | bl b=>exact .bl b
 | int i=>exact .int i
 | str x=>exact .str x
 | tup e _=>exact .tup e
 | oth h _ _=>exact h
def tys:List String:=["NoneType","bool","int","str","tuple","list","dict"]
def RT (t c:String):Bool:=t==c||(t=="bool"&&c=="int")
def Kinds (K:PySem.W.Frag):Prop:=∀t∈tys,∀c∈tys,PySem.W.kitOne K (.type t) (.type c)=some (RT t c)
theorem RV {K:PySem.W.Frag} (h:(tys.all fun t=>tys.all fun c=>PySem.W.kitOne K (.type t) (.type c)==some (RT t c))=true):Kinds K:=fun t ht c hc=>by
 have h1:=List.all_eq_true.mp h t ht
 have h2:=List.all_eq_true.mp h1 c hc
 exact eq_of_beq h2
theorem aaq {K:PySem.W.Frag}{H:Hp}{v:V}{t:Th} (h:o7 K H v t):Ke t∈tys:=by
 cases h with
 | oth _ hT _=>rcases hT with rfl | rfl<;>simp[Ke,tys]
 | _=>simp[Ke,tys]
theorem o7.isi {K:PySem.W.Frag}{H:Hp}{v:V}{t:Th} (h:o7 K H v t) (k:Kinds K) {c:String} (hc:c∈tys):PySem.W.kitOne K (.type (Ke t)) (.type c)=some (RT (Ke t) c):=k _ (aaq h) _ hc
def aar:Th->Bool
 | .int _=>true
 | _=>false
def IK (K:PySem.W.Frag):Sp:=fun vs H Q _=>∃v t,vs=[v]/\o7 K H v t/\Q (.bl (aar t)) H
theorem adw {b:Bool}{A B:Prop} (h:b=true) (hA:A):if b=true then A else B:=by rw[if_pos h];exact hA
theorem adx {b:Bool}{A B:Prop} (h:b=false) (hB:B):if b=true then A else B:=by rw[if_neg (by rw[h];exact Bool.false_ne_true)];exact hB
structure Wr (p:Prop):Prop where
 h:p
def R.fM:R->Th
 | .num n=> .tup [.str "number", .int n]
 | .rd x=> .tup [.str "read", .str x]
 | .bin op a b=> .tup [.str op.word,a.fM,b.fM]
 | .pick a b c=> .tup [.str "pick",a.fM,b.fM,c.fM]
 | .cho a ns=> .tup [.str "choose",a.fM, .tup (ns.map Th.str)]
def R.Eo:R->Prop
 | .num _=>True
 | .rd x=>x.length<=8/\∀c∈x.cps.toList,c<128
 | .bin _ a b=>a.Eo/\b.Eo
 | .pick a b c=>a.Eo/\b.Eo/\c.Eo
 | .cho a ns=>a.Eo/\1<=ns.length/\ns.length<=9/\∀x∈ns,lR x
theorem Ep {K:PySem.W.Frag}{H:Hp}:∀ns:List Str,mH K H (ns.map V.str) (ns.map Th.str)
 |[]=> .nil
 | x::r=> .cons (.str x) (Ep r)
theorem IsR.ady {K:PySem.W.Frag}{H:Hp}{a:Addr}{r:R} (h:IsR H a r):o7 K H (.ref a) r.fM:=by
 induction h with
 | num e=>exact .tup e (.cons (.str _) (.cons (.int _) .nil))
 | rd e=>exact .tup e (.cons (.str _) (.cons (.str _) .nil))
 | bin e _ _ i1 i2=>exact .tup e (.cons (.str _) (.cons i1 (.cons i2 .nil)))
 | pick e _ _ _ i1 i2 i3=>exact .tup e (.cons (.str _) (.cons i1 (.cons i2 (.cons i3 .nil))))
 | cho e _ h2 i1=>exact .tup e (.cons (.str _) (.cons i1 (.cons (.tup h2 (Ep _)) .nil)))
theorem Es:∀l:List Str,PyData.depthAll (l.map PyData.str)<=1
 |[]=>by simp[PyData.depthAll]
 | c::r=>by
   have:=Es r
   simp[PyData.depthAll,PyData.depth]
   omega
end RB
namespace L2
open PySem PySem.Spec PyProof.Rows
theorem Fun.okQ {P:Program}{w:World}{K:PySem.W.Frag}{mg:Str->Option Value}{base:Heap}{x qual:Str}{st:Stmt}{f:Addr}{fd:FuncData}{N ps:List Str}{k:Nat}{sp:Sp} (F:Fun K x qual st f fd) (S:bI N ps (aa st)) (len:∀vs H Q E,sp vs H Q E->vs.length=ps.length)
 (hbody:∀(cdv:Value) (A:Around) (outer:List Env) (s:Shared) (H:Hp) (vs:List V) (Q:VK) (E:XK),jB k (A.deeper (envOfC qual (aa st) s.heap.objs.size f cdv))->sp vs H Q E->
   ∃t,QSs (jC CX0 P w K mg base N qual (aa st) f cdv A outer s H E).nox (bw st) t/\t {nx:=fun _ H'=>Q .non H',rt:=Q} (start N vs) H):aX P w K mg base CX0 (k+1) f fd ps sp:=
 F.ok S len fun cdv A outer s H vs Q E hr hsp=>let ⟨t,a,b⟩:=hbody cdv A outer s H vs Q E hr hsp;⟨t,a.h,b⟩
end L2
namespace RB
open PySem L2 PySem.Spec PyProof.Rows
theorem aas (value:Const) (k:Nat) (p:Pos) (es:List Expr) (env:Env):starEach (.Constant value k p::es) env=(false,eval (.Constant value k p) env)::starEach es env:=rfl
theorem fP {X:Cx}{value:Const}{k:Nat}{p:Pos}{es:List Expr}{te:TE}{t:TA} (ha:QE X (.Constant value k p) te) (hr:QA X es t):QA X (.Constant value k p::es) (rM te t):=lQ ha hr (aas value k p _ _)
theorem aat (x:Str) (p:Pos) (es:List Expr) (env:Env):starEach (.Name x p::es) env=(false,eval (.Name x p) env)::starEach es env:=rfl
theorem aQ {X:Cx}{x:Str}{p:Pos}{es:List Expr}{te:TE}{t:TA} (ha:QE X (.Name x p) te) (hr:QA X es t):QA X (.Name x p::es) (rM te t):=lQ ha hr (aat x p _ _)
theorem aau (a:Expr) (op:Operator) (b:Expr) (p:Pos) (es:List Expr) (env:Env):starEach (.BinOp a op b p::es) env=(false,eval (.BinOp a op b p) env)::starEach es env:=rfl
theorem yH {X:Cx}{a:Expr}{op:Operator}{b:Expr}{p:Pos}{es:List Expr}{te:TE}{t:TA} (ha:QE X (.BinOp a op b p) te) (hr:QA X es t):QA X (.BinOp a op b p::es) (rM te t):=lQ ha hr (aau a op b p _ _)
theorem aav (xs:List Expr) (k:Nat) (p:Pos) (es:List Expr) (env:Env):starEach (.Tuple xs k p::es) env=(false,eval (.Tuple xs k p) env)::starEach es env:=rfl
theorem Mx {X:Cx}{xs:List Expr}{k:Nat}{p:Pos}{es:List Expr}{te:TE}{t:TA} (ha:QE X (.Tuple xs k p) te) (hr:QA X es t):QA X (.Tuple xs k p::es) (rM te t):=lQ ha hr (aav xs k p _ _)
theorem aaw (xs:List Expr) (p:Pos) (es:List Expr) (env:Env):starEach (.List xs p::es) env=(false,eval (.List xs p) env)::starEach es env:=rfl
theorem RW {X:Cx}{xs:List Expr}{p:Pos}{es:List Expr}{te:TE}{t:TA} (ha:QE X (.List xs p) te) (hr:QA X es t):QA X (.List xs p::es) (rM te t):=lQ ha hr (aaw xs p _ _)
theorem aax (ks:List (Option Expr)) (xs:List Expr) (p:Pos) (es:List Expr) (env:Env):starEach (.Dict ks xs p::es) env=(false,eval (.Dict ks xs p) env)::starEach es env:=rfl
theorem aay {X:Cx}{ks:List (Option Expr)}{xs:List Expr}{p:Pos}{es:List Expr}{te:TE}{t:TA} (ha:QE X (.Dict ks xs p) te) (hr:QA X es t):QA X (.Dict ks xs p::es) (rM te t):=lQ ha hr (aax ks xs p _ _)
theorem aaz (a b:Expr) (p:Pos) (es:List Expr) (env:Env):starEach (.Subscript a b p::es) env=(false,eval (.Subscript a b p) env)::starEach es env:=rfl
theorem mR {X:Cx}{a b:Expr}{p:Pos}{es:List Expr}{te:TE}{t:TA} (ha:QE X (.Subscript a b p) te) (hr:QA X es t):QA X (.Subscript a b p::es) (rM te t):=lQ ha hr (aaz a b p _ _)
theorem aaA (f:Expr) (xs:List Expr) (ks:List Keyword) (p:Pos) (es:List Expr) (env:Env):starEach (.Call f xs ks p::es) env=(false,eval (.Call f xs ks p) env)::starEach es env:=rfl
theorem vQ {X:Cx}{f:Expr}{xs:List Expr}{ks:List Keyword}{p:Pos}{es:List Expr}{te:TE}{t:TA} (ha:QE X (.Call f xs ks p) te) (hr:QA X es t):QA X (.Call f xs ks p::es) (rM te t):=lQ ha hr (aaA f xs ks p _ _)
theorem aaB (a b c:Expr) (p:Pos) (es:List Expr) (env:Env):starEach (.IfExp a b c p::es) env=(false,eval (.IfExp a b c p) env)::starEach es env:=rfl
theorem agM {X:Cx}{a b c:Expr}{p:Pos}{es:List Expr}{te:TE}{t:TA} (ha:QE X (.IfExp a b c p) te) (hr:QA X es t):QA X (.IfExp a b c p::es) (rM te t):=lQ ha hr (aaB a b c p _ _)
theorem aaC (e:Expr) (gs:List Comprehension) (sc:Scope) (p:Pos) (es:List Expr) (env:Env):starEach (.ListComp e gs sc p::es) env=(false,eval (.ListComp e gs sc p) env)::starEach es env:=rfl
theorem aaD {X:Cx}{e:Expr}{gs:List Comprehension}{sc:Scope}{p:Pos}{es:List Expr}{te:TE}{t:TA} (ha:QE X (.ListComp e gs sc p) te) (hr:QA X es t):QA X (.ListComp e gs sc p::es) (rM te t):=lQ ha hr (aaC e gs sc p _ _)
theorem aaE (e:Expr) (x:Str) (p:Pos) (es:List Expr) (env:Env):starEach (.Attribute e x p::es) env=(false,eval (.Attribute e x p) env)::starEach es env:=rfl
theorem Mz {X:Cx}{e:Expr}{x:Str}{p:Pos}{es:List Expr}{te:TE}{t:TA} (ha:QE X (.Attribute e x p) te) (hr:QA X es t):QA X (.Attribute e x p::es) (rM te t):=lQ ha hr (aaE e x p _ _)
end RB
namespace L2
open PySem PySem.Spec PyProof.Rows
section
variable {X:Cx}{pins:List (Addr×Obj)}{σ:L2.St}{H:Hp}{s:Shared}
end
section
variable {X:Cx}{o e value:Expr}{es:List Expr}{f m:Str}{pos pos' apos:Pos}{ta tv:TE}{t:TA}{C fa:Addr}{CX:CXT}{k:Nat}{fd:FuncData}{ps:List Str}{sp:Sp}{dvs:List V}{ds:List Value}{E:XK}
theorem bA (he:QE X e ta) (hb:attributeBase e f X.env (eval e X.env)=eval e X.env:=by rfl):QE X (.Attribute e f pos) (ZG X.K ta f):=⟨ZJ he.h hb⟩
theorem j8 (ha:QE X o ta) (hv:QE X value tv) (hs:swapsWith value (some (.Attribute o f pos')) pos.line X.env=pure false:=by rfl):QS X (.Assign [.Attribute o f pos'] value pos) (ac4 X.K ta tv f):=⟨ZK ha.h hv.h hs⟩
theorem o8 {pl:Sem Bool} (he:QE X o ta) (c:Cls X.K C) (hm:Meth X.K C m fa) (F:aX X.prog X.w X.K X.mg X.base CX k fa fd ps sp) (hr:jB k X.A) (hb:Binds X.K fd ps ds) (hd:Vals dvs ds) (hx:Passes CX X E) (ha:QA X (e::es) t)
 (hst:starEach (e::es) X.env=(false,eval e X.env)::starEach es X.env:=by rfl) (hpl:(backTo pos (starEach es X.env)).any (·.1)=false:=by rfl)
 (ht:eval (.Call (.Attribute o m apos) (e::es) [] pos) X.env=(do
   let ov <-eval o X.env
   standAt apos.atName
   let (f,first) <-holding [ov] (getMethod ov m pl)
   callWith pos f first (backTo pos (starEach (e::es) X.env)) (backToKw pos (keywordEach [] X.env))):=by rfl):
 QE X (.Call (.Attribute o m apos) (e::es) [] pos) (NT C m sp dvs E ta t):=⟨Vf he.h c hm F hr hb hd hx ha.h hst hpl ht⟩
theorem Et {pl:Sem Bool} (he:QE X o ta) (c:Cls X.K C) (hm:Meth X.K C m fa) (F:aX X.prog X.w X.K X.mg X.base CX k fa fd ps sp) (hr:jB k X.A) (hb:Binds X.K fd ps ds) (hd:Vals dvs ds) (hx:Passes CX X E)
 (ht:eval (.Call (.Attribute o m apos) [] [] pos) X.env=(do
   let ov <-eval o X.env
   standAt apos.atName
   let (f,first) <-holding [ov] (getMethod ov m pl)
   callWith pos f first (backTo pos (starEach [] X.env)) (backToKw pos (keywordEach [] X.env))):=by rfl):
 QE X (.Call (.Attribute o m apos) [] [] pos) (NT C m sp dvs E ta PK):=⟨Rk he.h c hm F hr hb hd hx ht⟩
theorem xK {x:Str}{p:Pos} (M:Mk X.K C fa) (F:aX X.prog X.w X.K X.mg X.base CX k fa fd ps sp) (hr:jB (k+1) X.A) (hg:Gl X x) (hm:X.mg x=some (.ref C)) (hb:Binds X.K fd ps ds) (hd:Vals dvs ds) (hx:Passes CX X E)
 (ha:QA X (e::es) t) (hdb:(x==("__debug__":Str))=false:=by decide) (he:starEach (e::es) X.env=(false,eval e X.env)::starEach es X.env:=by rfl) (hpl:(backTo pos (starEach es X.env)).any (·.1)=false:=by rfl):
 QE X (.Call (.Name x p) (e::es) [] pos) (XM C sp dvs E t):=⟨Vg M F hr hg hm hb hd hx ha.h hdb he hpl⟩
end
theorem eF.some {P:Program}{w:World}{H:Hp}{h:Heap}{a:Addr}{o:HO} (x:eF P w H h a o):∃u,h.get? a=Option.some u:=by
 cases o with
 | lst xs=>obtain⟨_,_,_,_,e⟩:=x;exact⟨_,e⟩
 | tup xs=>obtain⟨_,_,_,_,e,_⟩:=x;exact⟨_,e⟩
 | dK kvs=>obtain⟨_,_,_,_,o,_,_,e,_⟩:=x;exact⟨_,e⟩
 | dT kvs=>obtain⟨_,_,_,_,o,_,_,e,_⟩:=x;exact⟨_,e⟩
 | set S n=>obtain⟨o,_,_,_,e,_⟩:=x;exact⟨_,e⟩
 | ins C dx fs=>obtain⟨_,_,_,e,_⟩:=x;exact⟨_,e⟩
 | own y=>exact x
 | xd fs=>obtain⟨_,⟨_,_,_,e,_⟩,_⟩:=x;exact⟨_,e⟩
 | rng lo hi=>obtain⟨_,_,_,e⟩:=x;exact⟨_,e⟩
 | frz ob u=>obtain⟨e,_⟩:=x;exact⟨_,e⟩
 | tbl ps=>exact⟨_,show h.get? a=Option.some _ from x⟩
 | met f y=>exact⟨_,show h.get? a=Option.some _ from x⟩
 | ext φ=>obtain⟨_,e,_⟩:=x;exact e
def Holds (F:List Addr) (H':Hp) (h h1 B:Heap):Prop:=∀b o,h1.get? b=some o->b∉F->((∃o0,h.get? b=some o0)\/(H' b).isSome=true)->B.get? b=some o
theorem adz {F:List Addr}{H H':Hp}{h h1 h2 B:Heap} (u:Un F [] H H' h h1) (hF:∀b∈F,∃o,h.get? b=some o/\H b=none/\∀vs,o.data≠ .fields vs) (st:B.StaysIn h2) (up:h1.UpToSlots h2) (kc:Holds F H' h h1 B):Un F [] H H' h h2 where
 keep:=fun b o q n hb hx=>st b o (kc b o (u.keep b o q n hb hx) hb (.inl ⟨o,q⟩))
 slot:=fun b o q n hb hx=>by
  obtain⟨sl,e⟩:=u.slot b o q n hb hx
  obtain⟨o',q',_,d⟩:=hF b hb
  rw[q] at q';cases q'
  obtain⟨sl2,e2⟩:=up b _ e d
  exact⟨sl2,e2⟩
 free:=u.free
 there:=fun b o q hx=>by
  by_cases hb:b∈F
  ·obtain⟨o',q',n,d⟩:=hF b hb
   rw[q] at q';cases q'
   obtain⟨sl,e⟩:=u.slot b o q n hb hx
   obtain⟨sl2,e2⟩:=up b _ e d
   exact⟨_,e2⟩
  ·obtain⟨o',e⟩:=u.there b o q hx
   exact⟨o',st b o' (kc b o' e hb (.inl ⟨o,q⟩))⟩
 tups:=u.tups
 frzs:=u.frzs
 tbls:=u.tbls
theorem aaF {P:Program}{w:World}{F:List Addr}{H':Hp}{h h1 h2 B:Heap} (ok:HOk P w H' h1) (hF:∀b∈F,H' b=none) (st:B.StaysIn h2) (kc:Holds F H' h h1 B):HOk P w H' h2:=fun b o q=>
 (ok b o q).stay (fun c v hc r=>by
   have hs:(H' c).isSome=true:=by
    rcases hc with rfl | hc
    ·rw[q];rfl
    ·rw[hc];rfl
   exact st c v (kc c v r (fun hm=>by rw[hF c hm] at hs;cases hs) (.inr hs))) (fun _ z=>z) fun _ _ z=>z
section
variable {X:Cx}{pins:List (Addr×Obj)}{σ:St}{H H':Hp}{s s':Shared}{a:Addr}{cls:Value}
theorem Inv.frm (I:Inv X pins σ H s):∀b∈frs X.stack,∃o,s.heap.get? b=some o/\H b=none/\∀vs,o.data≠ .fields vs:=fun b hb=>by
 obtain⟨_,o,ho,hd⟩:=I.stack.mem hb
 exact⟨o,ho,I.Ie b hb,hd⟩
theorem Inv.landed (I:Inv X pins σ H s) (os:s'.os=s.os) (bare:AllBare s'.gens) (un:Un (frs X.stack) [] H H' s.heap s'.heap) (hok:HOk X.prog X.w H' s'.heap) {B h2:Heap} (kc:Holds (frs X.stack) H' s.heap s'.heap B) (st:B.StaysIn h2) (up:s'.heap.UpToSlots h2):
 Inv X pins σ H' {s' with heap:=h2}:=by
 have hF:=I.frm
 refine I.call' (ch:=[]) (s':={s' with heap:=h2}) os (adz un hF st up kc) (aaF hok (fun b hb=> ?_) st kc) bare fun b z=>absurd z (by simp)
 obtain⟨o,q,n,_⟩:=hF b hb
 exact un.free b o q n (by simp)
theorem Kf {F:List Addr}{B h1 h2:Heap}{h:Heap} (u:Un F [] H H' h h1) (hok:HOk X.prog X.w H' h1) (st:B.StaysIn h2) (kc:Holds F H' h h1 B):Holds F H' h h2 B:=fun b o q nb hb=>by
 obtain⟨o1,q1⟩:∃o1,h1.get? b=some o1:=by
  rcases hb with⟨o0,z⟩ | z
  ·exact u.there b o0 z (by simp)
  ·obtain⟨v,hv⟩:=Option.isSome_iff_exists.mp z
   exact(hok b v hv).some
 have e1:=kc b o1 q1 nb hb
 have e2:=st b o1 e1
 rw[q] at e2;cases e2
 exact e1
end
section
variable {P:Program}{w:World}{K:PySem.W.Frag}{mg:Str->Option Value}{base:Heap}{N:List Str}{qual:Str}{scope:Scope}{f:Addr}{cd:Value}{A:Around}{outer:List Env}{s₀:Shared}{H₀:Hp}{E:XK}
theorem Hu {X:Cx}{pins:List (Addr×Obj)}{σ:St}{H H':Hp}{s:Shared}{h2 B:Heap} (hX:X.ex=[]) (hst:X.stack=X.env::X.outer) (hf:X.env.frame=some X.env.locals) (I:Inv X pins σ H s) (kc:Holds (frs X.stack) H' s.heap h2 B) (fr:H' X.env.locals=none):Holds (frs X.outer) H' X.s₀.heap h2 B:=fun b o q nb hb=>by
 have nL:b≠X.env.locals:=by
  rcases hb with⟨o0,z⟩ | z
  ·exact Nat.ne_of_lt (Nat.lt_of_lt_of_le (Heap.lt_size z) I.ok.above)
  ·intro e;rw[e,fr] at z;cases z
 refine kc b o q ?_ ?_
 ·intro hm
  rw[hst] at hm
  unfold frs at hm
  rw[List.filterMap_cons,hf] at hm
  rcases List.mem_cons.mp hm with e | e
  ·exact nL e
  ·exact nb e
 ·rcases hb with⟨o0,z⟩ | z
  ·exact .inl (I.base.there b o0 z (by rw[hX];simp))
  ·exact .inr z
end
section
variable {X:Cx}{pins:List (Addr×Obj)}{σ:St}{H H':Hp}{s s':Shared}{a:Addr}{cls:Value}
abbrev Cx.tryd (X:Cx) (pn:List (Addr×Obj)) (E:Value->Shared->Prop):Cx:={X with pn:=X.pn++pn,xe:=E}
abbrev Cx.held (X:Cx) (e:Value):Cx:={X with A:=X.A.mark (some e),calm:=false,xe:=fun _ _=>False}
theorem Cx.Ok.tryd (ok:X.Ok) (pn:List (Addr×Obj)) (E:Value->Shared->Prop):(X.tryd pn E).Ok:=
 ⟨ok.mod,ok.kind,ok.glob,ok.blt,ok.above,ok.inj,ok.has,ok.cab,ok.hd,ok.frames,ok.stk,ok.exf,ok.bs,ok.bsz,ok.noex,ok.exfs,ok.funs,ok.frf⟩
theorem Cx.Ok.untryd {pn:List (Addr×Obj)}{E:Value->Shared->Prop} (ok:(X.tryd pn E).Ok):X.Ok:=
 ⟨ok.mod,ok.kind,ok.glob,ok.blt,ok.above,ok.inj,ok.has,ok.cab,ok.hd,ok.frames,ok.stk,ok.exf,ok.bs,ok.bsz,ok.noex,ok.exfs,ok.funs,ok.frf⟩
theorem Cx.Ok.held (ok:X.Ok) (e:Value):(X.held e).Ok:=
 ⟨ok.mod,ok.kind,ok.glob,ok.blt,ok.above,ok.inj,ok.has,ok.cab,fun z=>Bool.noConfusion (show false=true from z),ok.frames,ok.stk,ok.exf,ok.bs,ok.bsz,ok.noex,ok.exfs,ok.funs,ok.frf⟩
theorem Inv.tryd (I:Inv X pins σ H s) (E:Value->Shared->Prop):Inv (X.tryd pins E) [] σ H s:=
 ⟨I.ok.tryd pins E,I.os,I.bare,I.base,I.loc,I.cell,I.free,I.pL,fun p hp=>I.pin p (by simpa using hp),I.hok,I.len⟩
theorem Inv.untryd {pn:List (Addr×Obj)}{E:Value->Shared->Prop} (I:Inv (X.tryd pn E) pins σ H s):Inv X pn σ H s:=
 ⟨I.ok.untryd,I.os,I.bare,I.base,I.loc,I.cell,I.free,I.pL,fun p hp=>I.pin p (List.mem_append_left _ hp),I.hok,I.len⟩
theorem Inv.held (I:Inv X pins σ H s) (e:Value):Inv (X.held e) pins σ H s:=⟨I.ok.held e,I.os,I.bare,I.base,I.loc,I.cell,I.free,I.pL,I.pin,I.hok,I.len⟩
theorem Inv.unheld {e:Value} (ok:X.Ok) (I:Inv (X.held e) pins σ H s):Inv X pins σ H s:=⟨ok,I.os,I.bare,I.base,I.loc,I.cell,I.free,I.pL,I.pin,I.hok,I.len⟩
theorem Inv.track {o:HO} (I:Inv X pins σ H s) (hn:H a=none) (h0:X.s₀.heap.get? a=none) (hL:a≠X.env.locals) (hC:∀x c,X.env.cells.lookup x=some c->c≠a) (hp:∀p∈X.pn++pins,p.1≠a)
 (new:eF X.prog X.w (upd H a o) s.heap a o):Inv X pins σ (upd H a o) s:=by
 refine⟨I.ok,I.os,I.bare,⟨fun b u q n hb hx=>I.base.keep b u q n hb hx,fun b u q n hb hx=>I.base.slot b u q n hb hx,fun b u q n hx=> ?_,I.base.there,fun b xs q=> ?_,fun b u v q=> ?_,fun b ps q=> ?_⟩,I.loc,I.cell, ?_,fun x c e=> ?_,fun p q=> ?_,fun b u q=> ?_,I.len⟩
 ·rw[ao (fun z=>by rw[z,h0] at q;cases q)];exact I.base.free b u q n hx
 ·have e:=I.base.tups b xs q
  rw[ao (aF e hn)];exact e
 ·have e:=I.base.frzs b u v q
  rw[ao (aF e hn)];exact e
 ·obtain⟨m,e⟩:=I.base.tbls b ps q
  exact⟨m,by rw[ao (aF e hn)];exact e⟩
 ·rw[ao (Ne.symm hL)];exact I.free
 ·rw[ao (hC x c e)];exact I.pL x c e
 ·obtain⟨e,n,r⟩:=I.pin p q
  exact⟨e,by rw[ao (hp p q)];exact n,r⟩
 ·by_cases hb:b=a
  ·subst hb;rw[ak] at q;cases q;exact new
  ·rw[ao hb] at q
   exact(I.hok b u q).stay (fun c v _ r=>r) (fun c r=>by rw[ao (aF r hn)];exact r) fun c xs r=>by rw[ao (aF r hn)];exact r
def Kg (CX:CXT) (X:Cx) (E:St->XK):Prop:=∀(pins:List (Addr×Obj)) (σ:St) (H:Hp) (s:Shared) (e:Value) (s':Shared),Inv X pins σ H s->CX X.stack H s (E σ) e s'->X.xe e s'
end
section
variable {X:Cx}{x n:Str}{i:Nat}{C:Addr}{np hpos pos:Pos}{body suite:List Stmt}{b₀:Stmt}{tb:(St->XK)->TS}{th:TS}
end
end L2
namespace L2
open PySem PySem.Spec PyProof.Rows PySem.W
section
variable {prog:Program}{w:World}{A:Around}{E:Value->Shared->Prop}{h:Heap}{g:Array GenState}{d:Drawn}{t:Nat}{os:OsState}{K:PySem.W.Frag}{a C:Addr}{o:Obj}
end
end L2
namespace L2
open PySem PySem.Spec PyProof.Rows
section
variable {X:Cx}{pins:List (Addr×Obj)}{σ:St}{H H':Hp}{s s':Shared}
def tFr (ta:TE):TE:=fun σ H Q=>ta σ H fun x H1=>∃y,x= .str y/\y.length<=1000/\(∀c∈y.cps.toList,c<16 ^ 8)/\∀z:Str,z.length<=100000->Q (.str z) H1
end
section
variable {P:Program}{w:World}{K:PySem.W.Frag}{mg:Str->Option Value}{base:Heap}{N:List Str}{qual:Str}{scope:Scope}{f:Addr}{cd:Value}{A:Around}{outer:List Env}{s₀:Shared}{H₀:Hp}{E:XK}
end
section
variable {X:Cx}{CX:CXT}{k:Nat}{f:Addr}{fd:FuncData}{ps:List Str}{sp:Sp}{dvs:List V}{ds:List Value}{E:St->XK}{x:Str}{p pos:Pos}{e:Expr}{es:List Expr}{t:TA}
def aaG (sp:Sp) (dvs:List V) (E:St->XK) (t:TA):TE:=fun σ H Q=>t σ H fun vs H1=>sp (vs++dvs) H1 Q (E σ)
theorem VD {pins:List (Addr×Obj)}{σ:St}{H:Hp}{s:Shared}{Q:VK}{us:List Value}{vs:List V} (F:aX X.prog X.w X.K X.mg X.base CX k f fd ps sp) (hr:jB k X.A) (hb:Binds X.K fd ps ds) (hd:Vals dvs ds) (hx:Kg CX X E)
 (I:Inv X pins σ H s) (r:Vals vs us) (h:sp (vs++dvs) H Q (E σ)):wpAny (model X.prog X.w) X.A (call (.ref f) us) (EP X pins σ Q) X.xe s:=by
 have r2:Vals (vs++dvs) (us++ds):=r.append hd
 have hl:(us++ds).length=ps.length:=by rw[<-r2.length];exact F.len _ _ _ _ h
 refine wpAny_call (codeAny_mono (F.run X.A X.stack s H ⟨us,[]⟩ (us++ds) (vs++dvs) Q (E σ) hr I.env0 (hb s us I.kIn hl) r2 h) fun r s' hq=> ?_)
 cases r with
 | error e=>exact hx pins σ H s e s' I hq
 | ok fl=>
   cases fl with
   | ret u=>exact I.after hq
   | next=>exact False.elim hq
   | brk=>exact False.elim hq
   | cont=>exact False.elim hq
theorem vR (F:aX X.prog X.w X.K X.mg X.base CX k f fd ps sp) (hr:jB k X.A) (hg:Gl X x) (hm:X.mg x=some (.ref f)) (hk:PySem.W.keepIn X.K (.ref f)=true) (hb:Binds X.K fd ps ds) (hd:Vals dvs ds) (hx:Kg CX X E)
 (ha:QA X (e::es) t) (hdb:(x==("__debug__":Str))=false) (he:starEach (e::es) X.env=(false,eval e X.env)::starEach es X.env:=by rfl) (hpl:(backTo pos (starEach es X.env)).any (·.1)=false:=by rfl):
 QE X (.Call (.Name x p) (e::es) [] pos) (aaG sp dvs E t):=⟨by
 intro pins s σ H Q I h
 refine wpAny_Call_Name_kw (tY I hg hm ?_ hdb)
 refine PySem.W.callWith_K (h₀:=X.base) I.ok.mod.kin hk (thn (ha.h pos pins s σ H _ I h) fun us s1 ⟨vs,H1,I1,r,q⟩=>⟨I1.kIn, ?_⟩) he hpl
 exact VD F hr hb hd hx I1 r q⟩
end
end L2
namespace RB
open PySem L2 PySem.Spec PyProof.Rows
end RB
namespace L2
open PySem PySem.Spec PyProof.Rows
section
variable {X:Cx}{x:Str}{C:Addr}{np hpos pos:Pos}{body suite:List Stmt}{b₀:Stmt}{tb:(St->XK)->TS}{th:TS}
end
section
variable {X:Cx}{pins:List (Addr×Obj)}{σ:List (Option V)}{H:Hp}{s:Shared}{h':Heap}
theorem Inv.Dz {t':Nat}{ch:List Addr} (I:Inv X pins σ H s) (hf:∀b∈ch,Bk X pins H b) (k:∀b o,b∉ch->s.heap.get? b=some o->h'.get? b=some o):Inv X pins σ H {s with heap:=h',toks:=t'}:=by
 have nit:∀b u,H b=some u->b∉ch:=fun b u e z=>by rw[(hf b z).1] at e;cases e
 refine I.step (g':=s.gens) (d':=s.drawn) (ch:=ch) (fun b hb=> ?_) (fun b o _ _ hc e _=>k b o hc e) (fun b o _ _ hc e _=>⟨o.slots,k b o hc e⟩) (fun _ _ _ _ n=>n)
  (fun b o hc e=>⟨o,k b o hc e⟩) (fun _ _ e=>e) (fun _ _ _ e=>e) (fun b ps e=>⟨#[],by rw[e];simp⟩) (fun m hm=> ?_) (fun b u e=> ?_) I.bare
 ·obtain⟨_,f1,_,f3,f4,f5⟩:=hf b hb
  exact⟨f3,f1,f4,f5⟩
 ·obtain⟨o,es,ep,ho,r⟩:=hm
  exact⟨o,es,ep,k _ o (fun z=>(hf _ z).2.1 rfl) ho,r⟩
 ·refine(I.hok b u e).stay (fun c v hc q=>k c v ?_ q) (fun _ q=>q) fun _ _ q=>q
  rcases hc with z | z
  ·rw[z];exact nit b u e
  ·exact nit c _ z
end
end L2
namespace RB
open PySem L2 PySem.Spec PyProof.Rows
section
variable {prog:Program}{w:World}{A:Around}{R:Result->Shared->Prop}{I:Addr}{fp wr:List Addr}{G:Array GenState->Array GenState->Prop}{n:Nat}{P:Nat->Value->Prop}{St:Nat->Shared->Prop}
end
section
variable {prog:Program}{w:World}{A:Around}{E:Value->Shared->Prop}{s:Shared}
end
end RB
namespace L2
open PySem PySem.Spec PyProof.Rows RB
section
variable {X:Cx}
end
end L2
namespace RB
open PySem L2 PySem.Spec PyProof.Rows
structure fX (K:PySem.W.Frag) (C:Addr) (x qual:Str) (st:Stmt) (ps:List Str) (f:Addr) (fd:FuncData):Prop where
 F:Fun K x qual st f fd
 b:Binds K fd ps []
 m:Meth K C x f
def RX (K:PySem.W.Frag):R2:=fun x y H Q=>∃a b xs,x= .ref a/\y= .ref b/\SqL K H a xs/\SqL K H b []/\Q (.bl xs.isEmpty) H
theorem RZ {X:Cx} (hu:X.A.units+64<cLine):OpR X (compareOp .Eq) (RX X.K):=by
 intro pins s σ H x y v u Q I rx ry h
 obtain⟨a,b,xs,rfl,rfl,ha,hb,q⟩:=h
 cases xs with
 | nil=>exact aaf hu pins s σ H _ _ v u Q I rx ry ⟨.list [], .list [], .lst ha .nil, .lst hb .nil,shaped_ints [],shaped_ints [],q⟩
 | cons x r=>
   cases rx
   cases ry
   obtain⟨its,rv,pl,_⟩:=I.list ha
   obtain⟨its',rv',pl',_⟩:=I.list hb
   cases rv
   cases rv'
   exact PySem.SeqAt.eq_list_lengthsAt pl.isList pl'.isList rfl (by omega) ⟨.bl false,H,I,rfl,q⟩
theorem Hv {X:Cx} (hu:X.A.units+64<cLine):QOp X (compareOp .Eq) (RX X.K):=⟨RZ hu⟩
theorem jx {X:Cx}{pos:Pos}:QE X (.Dict [] [] pos) Rw:=⟨Rx⟩
theorem mU:∀{r:R},r.Good->r.Eo
 | .num _,_=>trivial
 | .rd x,h=>⟨h.2.1,fun c hc=>by have:=h.2.2 c hc;unfold Ht at this;omega⟩
 | .bin _ a b,h=>⟨mU h.1,mU h.2⟩
 | .pick a b c,h=>⟨mU h.1,mU h.2.1,mU h.2.2⟩
 | .cho a ns,h=>⟨mU h.1,h.2⟩
def R.dat:R->PyData
 | .num n=> .tuple [.str "number", .int n]
 | .rd x=> .tuple [.str "read", .str x]
 | .bin op a b=> .tuple [.str op.word,a.dat,b.dat]
 | .pick a b c=> .tuple [.str "pick",a.dat,b.dat,c.dat]
 | .cho a ns=> .tuple [.str "choose",a.dat, .tuple (ns.map PyData.str)]
theorem IsR.dat {K:PySem.W.Frag}{H:Hp}{a:Addr}{r:R} (h:IsR H a r):pP K H (.ref a) r.dat:=by
 induction h with
 | num e=>exact .tup (SqT.of e) (.cons (.str _) (.cons (.int _) .nil))
 | rd e=>exact .tup (SqT.of e) (.cons (.str _) (.cons (.str _) .nil))
 | bin e _ _ i1 i2=>exact .tup (SqT.of e) (.cons (.str _) (.cons i1 (.cons i2 .nil)))
 | pick e _ _ _ i1 i2 i3=>exact .tup (SqT.of e) (.cons (.str _) (.cons i1 (.cons i2 (.cons i3 .nil))))
 | cho e _ h2 i1=>exact .tup (SqT.of e) (.cons (.str _) (.cons i1 (.cons (.tup (SqT.of h2) (mQ _)) .nil)))
theorem Qj {x:Str} (h:∀c∈x.cps.toList,c<128):PyData.strOk x=true:=by
 show x.cps.all (· <0x110000)=true
 rw[<-Array.all_toList,List.all_eq_true]
 intro c hc
 exact decide_eq_true (by have:=h c hc;omega)
theorem pR {x:Str} (h:lR x):PyData.strOk x=true:=Qj fun c hc=>by have:=h.2.2 c hc;unfold Ht at this;omega
theorem MF (op:Op):PyData.strOk op.word=true:=by cases op<;>decide +kernel
theorem Hw:∀ns:List Str,(∀x∈ns,lR x)->PyData.canLayAll0 (ns.map PyData.str)=true
 |[],_=>rfl
 | x::r,h=>by
   show(PyData.canLay0 (.str x)&&PyData.canLayAll0 (r.map PyData.str))=true
   rw[Hw r fun y hy=>h y (List.mem_cons_of_mem _ hy)]
   show(PyData.strOk x&&true)=true
   rw[pR (h x List.mem_cons_self)];rfl
theorem R.lay:∀r:R,r.Good->r.dat.canLay0=true
 | .num n,_=>by show(PyData.strOk "number"&&(true&&true))=true;decide +kernel
 | .rd x,h=>by
   show(PyData.strOk "read"&&(PyData.strOk x&&true))=true
   rw[pR h];decide +kernel
 | .bin op a b,h=>by
   show(PyData.strOk op.word&&(a.dat.canLay0&&(b.dat.canLay0&&true)))=true
   rw[MF,R.lay a h.1,R.lay b h.2];rfl
 | .pick a b c,h=>by
   show(PyData.strOk "pick"&&(a.dat.canLay0&&(b.dat.canLay0&&(c.dat.canLay0&&true))))=true
   rw[R.lay a h.1,R.lay b h.2.1,R.lay c h.2.2];decide +kernel
 | .cho a ns,h=>by
   show(PyData.strOk "choose"&&(a.dat.canLay0&&(PyData.canLayAll0 (ns.map PyData.str)&&true)))=true
   rw[R.lay a h.1,Hw ns h.2.2.2];decide +kernel
theorem R.mV:∀r:R,r.dat.depth<=r.depth+2
 | .num n=>by simp[R.dat,R.depth,PyData.depth,PyData.depthAll]
 | .rd x=>by simp[R.dat,R.depth,PyData.depth,PyData.depthAll]
 | .bin op a b=>by
   have:=R.mV a
   have:=R.mV b
   simp only[R.dat,R.depth,PyData.depth,PyData.depthAll];omega
 | .pick a b c=>by
   have:=R.mV a
   have:=R.mV b
   have:=R.mV c
   simp only[R.dat,R.depth,PyData.depth,PyData.depthAll];omega
 | .cho a ns=>by
   have:=R.mV a
   have:=Es ns
   have:=a.rR
   simp only[R.dat,R.depth,PyData.depth,PyData.depthAll];omega
def adA (K:PySem.W.Frag) (neg:Bool):R2:=fun x y H Q=>∃d,pP K H x d/\pP K H y d/\SeqAt.shaped d=true/\Q (.bl (!neg)) H
theorem MJ {d:PyData} (h:SeqAt.shaped d=true):d.canLay0=true:=by
 have h':(d.canLay0&&decide (d.depth<=64))=true:=h
 rw[Bool.and_eq_true] at h'
 exact h'.1
theorem ue {X:Cx} (hu:X.A.units+64<cLine):QOp X (compareOp .NotEq) (adA X.K true):=⟨fun pins s σ H x y v u Q I rx ry h=>by
 obtain⟨d,h1,h2,h3,q⟩:=h
 have e:=PySem.SeqAt.eqv_refl d (MJ h3)
 exact RJ hu pins s σ H x y v u Q I rx ry ⟨d,d,h1,h2,h3,h3,by rw[e];exact q⟩⟩
end RB
namespace RB
open PySem L2 PySem.Spec PyProof.Rows PySem.NumText
end RB
namespace L2
open PySem PySem.Spec PyProof.Rows
section
variable {prog:Program}{w:World}{A:Around}{E:Value->Shared->Prop}
end
section
variable {X:Cx}{pos:Pos}
theorem VF (hc:X.calm=true):pQ X (.builtin "max") (fun xs H Q=>∃i j,xs=[.int i, .int j]/\Q (.int (if j>i then j else i)) H):=⟨Px hc⟩
theorem VG (hc:X.calm=true):pQ X (.builtin "min") (fun xs H Q=>∃i j,xs=[.int i, .int j]/\Q (.int (if j<i then j else i)) H):=⟨Py hc⟩
end
end L2
namespace RB
open PySem L2 PySem.Spec PyProof.Rows
end RB
namespace L2
open PySem PySem.Spec PyProof.Rows
end L2
namespace RB
open PySem L2 PySem.Spec PyProof.Rows
theorem VH {α:Type}{l m:List α}{y:α} (h:l=m++[y]):atI l (-1)=some y:=by
 subst h
 unfold atI ixN
 have hl:(m++[y]).length=m.length+1:=by simp
 rw[hl,if_neg (by omega),if_pos (by omega)]
 show(m++[y])[((m.length+1:Nat)+(-1:Int)).toNat]? =some y
 rw[show(((m.length+1:Nat):Int)+(-1)).toNat=m.length by omega]
 simp
abbrev Rdp:=Str×Int
def rdV (p:Rdp):List V:=[.str p.1, .int p.2]
inductive jZ (H:Hp):List Addr->List Rdp->Prop where
 | nil:jZ H [] []
 | cons {a:Addr}{p:Rdp}{as:List Addr}{ps:List Rdp} (h:H a=some (.tup (rdV p))) (t:jZ H as ps):jZ H (a::as) (p::ps)
theorem jZ.tups {H H':Hp} (t:jX H H') {as:List Addr}{ps:List Rdp} (h:jZ H as ps):jZ H' as ps:=by
 induction h with
 | nil=>exact .nil
 | cons h _ ih=>exact .cons (t _ _ h) ih
theorem jZ.same {H H':Hp} (s:aN H H') {as:List Addr}{ps:List Rdp} (h:jZ H as ps):jZ H' as ps:=h.tups (aN.tups s)
theorem jZ.length {H:Hp}{as:List Addr}{ps:List Rdp} (h:jZ H as ps):as.length=ps.length:=by
 induction h with
 | nil=>rfl
 | cons _ _ ih=>simp[ih]
theorem jZ.get {H:Hp}{as:List Addr}{ps:List Rdp} (h:jZ H as ps):∀(i:Nat) (a:Addr),as[i]? =some a->∃p,ps[i]? =some p/\H a=some (.tup (rdV p)):=by
 induction h with
 | nil=>intro i a e;simp at e
 | @cons b p as ps h t ih=>
   intro i a e
   cases i with
   | zero=>have:b=a:=by simpa using e
           subst this;exact⟨_,rfl,h⟩
   | succ i=>exact ih i a (by simpa using e)
theorem MK {vs:List V}{k:Nat}:Bo vs none (some (k:Int))=vs.take k:=by
 unfold Bo
 rw[HT.NZ,show HT.sIx vs.length 0 none=0 from rfl,List.drop_zero,Nat.sub_zero]
 by_cases h:k<=vs.length
 ·rw[show min k vs.length=k by omega]
 ·rw[show min k vs.length=vs.length by omega,List.take_length,List.take_of_length_le (by omega)]
theorem Hy {vs:List V}{k:Nat}:Bo vs (some (k:Int)) none=vs.drop k:=by
 unfold Bo
 rw[HT.NZ]
 show(vs.drop (min k vs.length)).take (vs.length - min k vs.length)=_
 rw[List.take_of_length_le (by rw[List.length_drop];omega)]
 by_cases h:k<=vs.length
 ·rw[show min k vs.length=k by omega]
 ·rw[show min k vs.length=vs.length by omega,List.drop_length,List.drop_of_length_le (by omega)]
end RB
namespace L2
open PySem PySem.Spec PyProof.Rows
end L2
namespace RB
open PySem L2 PySem.Spec PyProof.Rows
end RB
namespace L2
open PySem PySem.Spec PyProof.Rows
theorem IV {X:Cx}{es:List Expr}{pos:Pos}{K:PySem.W.Frag}{k n:Nat}{t:TGs} (eK:X.K=K) (hc:X.calm=true) (h:QGs X es t) (hn:(assignEach es X.env).length=n:=by rfl) (hst:(assignEach es X.env).findIdx? (·.1)=none:=by rfl):QG X (.Tuple es k pos) (Zk K n t):=eK▸Em hc h hn hst
end L2
namespace RB
open PySem L2 PySem.Spec PyProof.Rows
theorem SqL.same {K:PySem.W.Frag}{H H':Hp}{a:Addr}{xs:List V} (s:aN H H') (h:SqL K H a xs):SqL K H' a xs:=by
 rcases h with(e | ⟨o,e⟩) | h
 ·exact .inl (.inl (s _ _ e))
 ·exact .inl (.inr ⟨o,s _ _ e⟩)
 ·exact .inr h
theorem dH {S:List Addr}{H0 H H':Hp} (s:aN H0 H) (hS:∀p∈S,H0 p=none) (b:But S H H'):aN H0 H':=fun a o e=>b a o (fun z=>by rw[hS a z] at e;cases e) (s a o e)
abbrev Kn:=Str->Option Int
def Kn.put (kn:Kn) (x:Str) (v:Int):Kn:=fun y=>if y=x then some v else kn y
def Kn.puts:Kn->List Rdp->Kn
 | kn,[]=>kn
 | kn,p::ps=>(kn.put p.1 p.2).puts ps
def Kn.Le (kn kn':Kn):Prop:=∀x v,kn x=some v->kn' x=some v
theorem Kn.Le.refl (kn:Kn):Kn.Le kn kn:=fun _ _ h=>h
theorem Kn.Le.trans {a b c:Kn} (h:Kn.Le a b) (g:Kn.Le b c):Kn.Le a c:=fun x v z=>g x v (h x v z)
theorem Kn.qK {kn:Kn}{x:Str}{v:Int} (h:kn x=none):Kn.Le kn (kn.put x v):=fun y u z=>by
 unfold Kn.put
 rw[if_neg (fun e=>by rw[e,h] at z;cases z)];exact z
def Op.ap:Op->Int->Int->Int
 | .plus,u,v=>u+v
 | .minus,u,v=>u - v
 | .times,u,v=>u * v
 | .most,u,v=>if v>u then v else u
def pU (ns:List Str) (u:Int):Option Str:=ns[(u % (ns.length:Int)).toNat]?
def look (kn:Kn) (x:Str):Str ⊕ Int:=match kn x with
 | some v=> .inr v
 | none=> .inl x
def ev (kn:Kn):R->Str ⊕ Int
 | .num n=> .inr n
 | .rd x=>look kn x
 | .bin op a b=>match ev kn a with
   | .inl x=> .inl x
   | .inr u=>match ev kn b with
     | .inl x=> .inl x
     | .inr v=> .inr (op.ap u v)
 | .pick a b c=>match ev kn a with
   | .inl x=> .inl x
   | .inr u=>if u>0 then ev kn b else ev kn c
 | .cho a ns=>match ev kn a with
   | .inl x=> .inl x
   | .inr u=>match pU ns u with
     | none=> .inr 0
     | some x=>look kn x
theorem Om {kn kn':Kn} (h:Kn.Le kn kn') {x:Str}{v:Int} (e:look kn x= .inr v):look kn' x= .inr v:=by
 unfold look at e ⊢
 cases z:kn x with
 | none=>rw[z] at e;cases e
 | some u=>rw[z] at e;rw[h x u z];exact e
theorem rW {kn:Kn}{x y:Str} (e:look kn x= .inl y):y=x/\kn x=none:=by
 unfold look at e
 cases z:kn x with
 | none=>rw[z] at e;cases e;exact⟨rfl,rfl⟩
 | some u=>rw[z] at e;cases e
theorem nj {kn:Kn}:∀{r:R}{x:Str},ev kn r= .inl x->kn x=none
 | .num n,x,h=>by cases h
 | .rd y,x,h=>by obtain⟨rfl,h⟩:=rW h;exact h
 | .bin op a b,x,h=>by
   simp only[ev] at h
   cases ea:ev kn a with
   | inl y=>rw[ea] at h;cases h;exact nj ea
   | inr u=>
     rw[ea] at h
     cases eb:ev kn b with
     | inl y=>rw[eb] at h;cases h;exact nj eb
     | inr v=>rw[eb] at h;cases h
 | .pick a b c,x,h=>by
   simp only[ev] at h
   cases ea:ev kn a with
   | inl y=>rw[ea] at h;cases h;exact nj ea
   | inr u=>
     rw[ea] at h
     simp only at h
     split at h
     ·exact nj h
     ·exact nj h
 | .cho a ns,x,h=>by
   simp only[ev] at h
   cases ea:ev kn a with
   | inl y=>rw[ea] at h;cases h;exact nj ea
   | inr u=>
     rw[ea] at h
     simp only at h
     cases ep:pU ns u with
     | none=>rw[ep] at h;cases h
     | some y=>rw[ep] at h;obtain⟨rfl,h⟩:=rW h;exact h
theorem nQ {kn kn':Kn} (hk:Kn.Le kn kn'):∀{r:R}{v:Int},ev kn r= .inr v->ev kn' r= .inr v
 | .num n,v,h=>h
 | .rd y,v,h=>Om hk h
 | .bin op a b,v,h=>by
   simp only[ev] at h ⊢
   cases ea:ev kn a with
   | inl y=>rw[ea] at h;cases h
   | inr u=>
     rw[ea] at h;rw[nQ hk ea]
     cases eb:ev kn b with
     | inl y=>rw[eb] at h;cases h
     | inr w=>rw[eb] at h;rw[nQ hk eb];exact h
 | .pick a b c,v,h=>by
   simp only[ev] at h ⊢
   cases ea:ev kn a with
   | inl y=>rw[ea] at h;cases h
   | inr u=>
     rw[ea] at h;rw[nQ hk ea]
     simp only at h ⊢
     split at h
     ·rw[if_pos (by assumption)];exact nQ hk h
     ·rw[if_neg (by assumption)];exact nQ hk h
 | .cho a ns,v,h=>by
   simp only[ev] at h ⊢
   cases ea:ev kn a with
   | inl y=>rw[ea] at h;cases h
   | inr u=>
     rw[ea] at h;rw[nQ hk ea]
     simp only at h ⊢
     cases ep:pU ns u with
     | none=>rw[ep] at h;exact h
     | some y=>rw[ep] at h;exact Om hk h
inductive Stp where
 | r (r:R) | branch (s t:R) | among (ns:List Str) | join (op:Op)
structure Cf where
 todo:List Stp
 found:List Int
 rds:List Rdp
def rY (ps:List Rdp) (x:Str) (v:Int):List Rdp:=
 if(ps.any fun p=>decide (p.1=x))=true then ps.map (fun p=>if p.1=x then(p.1,v) else p) else ps++[(x,v)]
inductive St1 (kn:Kn):Cf->Cf->Prop where
 | num {t f d n}:St1 kn ⟨t++[.r (.num n)],f,d⟩ ⟨t,f++[n],d⟩
 | rd {t f d x v} (h:kn x=some v):St1 kn ⟨t++[.r (.rd x)],f,d⟩ ⟨t,f++[v],rY d x v⟩
 | bin {t f d op a b}:St1 kn ⟨t++[.r (.bin op a b)],f,d⟩ ⟨t++[.join op, .r b, .r a],f,d⟩
 | pick {t f d a b c}:St1 kn ⟨t++[.r (.pick a b c)],f,d⟩ ⟨t++[.branch b c, .r a],f,d⟩
 | cho {t f d a ns}:St1 kn ⟨t++[.r (.cho a ns)],f,d⟩ ⟨t++[.among ns, .r a],f,d⟩
 | branch {t f d b c v}:St1 kn ⟨t++[.branch b c],f++[v],d⟩ ⟨t++[.r (if v>0 then b else c)],f,d⟩
 | among {t f d ns v x} (h:pU ns v=some x):St1 kn ⟨t++[.among ns],f++[v],d⟩ ⟨t++[.r (.rd x)],f,d⟩
 | join {t f d op u v} (h:op= .times->qp u v):St1 kn ⟨t++[.join op],f++[u,v],d⟩ ⟨t,f++[op.ap u v],d⟩
inductive StN (kn:Kn):Nat->Cf->Cf->Prop where
 | zero {c}:StN kn 0 c c
 | succ {n c c1 c2} (h:St1 kn c c1) (t:StN kn n c1 c2):StN kn (n+1) c c2
theorem StN.add {kn:Kn}{n m:Nat}{a b c:Cf} (h:StN kn n a b) (g:StN kn m b c):StN kn (n+m) a c:=by
 induction h with
 | zero=>rw[Nat.zero_add];exact g
 | succ h _ ih=>rw[Nat.succ_add];exact .succ h (ih g)
theorem St1.le {kn kn':Kn} (hk:Kn.Le kn kn') {a b:Cf} (h:St1 kn a b):St1 kn' a b:=by
 cases h with
 | num=>exact .num
 | rd h=>exact .rd (hk _ _ h)
 | bin=>exact .bin
 | pick=>exact .pick
 | cho=>exact .cho
 | branch=>exact .branch
 | among h=>exact .among h
 | join h=>exact .join h
theorem StN.le {kn kn':Kn} (hk:Kn.Le kn kn') {n:Nat}{a b:Cf} (h:StN kn n a b):StN kn' n a b:=by
 induction h with
 | zero=>exact .zero
 | succ h _ ih=>exact .succ (h.le hk) ih
theorem jy {α:Type}{s t:List α}{x y:α} (h:s++[x]=t++[y]):s=t/\x=y:=by
 have:=List.append_inj' h rfl
 exact⟨this.1,by simpa using this.2⟩
theorem Qk {α:Type}{s t:List α}{x y u v:α} (h:s++[x,y]=t++[u,v]):s=t/\x=u/\y=v:=by
 have:=List.append_inj' h rfl
 exact⟨this.1,by simpa using this.2⟩
def St1.Inv (kn:Kn) (f:List Int) (d:List Rdp) (t:List Stp) (c':Cf):Stp->Prop
 | .r (.num n)=>c'=⟨t,f++[n],d⟩
 | .r (.rd x)=>∃v,kn x=some v/\c'=⟨t,f++[v],rY d x v⟩
 | .r (.bin op a b)=>c'=⟨t++[.join op, .r b, .r a],f,d⟩
 | .r (.pick a b c)=>c'=⟨t++[.branch b c, .r a],f,d⟩
 | .r (.cho a ns)=>c'=⟨t++[.among ns, .r a],f,d⟩
 | .branch b c=>∃g v,f=g++[v]/\c'=⟨t++[.r (if v>0 then b else c)],g,d⟩
 | .among ns=>∃g v x,f=g++[v]/\pU ns v=some x/\c'=⟨t++[.r (.rd x)],g,d⟩
 | .join op=>∃g u v,f=g++[u,v]/\(op= .times->qp u v)/\c'=⟨t,g++[op.ap u v],d⟩
theorem St1.inv {kn:Kn}{c c':Cf} (h:St1 kn c c'):∀t s,c.todo=t++[s]->St1.Inv kn c.found c.rds t c' s:=by
 cases h with
 | num=>intro t s e;obtain⟨rfl,rfl⟩:=jy e;exact rfl
 | rd h=>intro t s e;obtain⟨rfl,rfl⟩:=jy e;exact⟨_,h,rfl⟩
 | bin=>intro t s e;obtain⟨rfl,rfl⟩:=jy e;exact rfl
 | pick=>intro t s e;obtain⟨rfl,rfl⟩:=jy e;exact rfl
 | cho=>intro t s e;obtain⟨rfl,rfl⟩:=jy e;exact rfl
 | branch=>intro t s e;obtain⟨rfl,rfl⟩:=jy e;exact⟨_,_,rfl,rfl⟩
 | among h=>intro t s e;obtain⟨rfl,rfl⟩:=jy e;exact⟨_,_,_,rfl,h,rfl⟩
 | join h=>intro t s e;obtain⟨rfl,rfl⟩:=jy e;exact⟨_,_,_,rfl,h,rfl⟩
theorem St1.det {kn:Kn}{a b c:Cf} (h:St1 kn a b) (g:St1 kn a c):b=c:=by
 cases h with
 | num=>exact(g.inv _ _ rfl).symm
 | rd h=>
   obtain⟨v,e,z⟩:=g.inv _ _ rfl
   rw[h] at e;cases e;exact z.symm
 | bin=>exact(g.inv _ _ rfl).symm
 | pick=>exact(g.inv _ _ rfl).symm
 | cho=>exact(g.inv _ _ rfl).symm
 | branch=>
   obtain⟨f,v,e,z⟩:=g.inv _ _ rfl
   obtain⟨rfl,rfl⟩:=jy e
   exact z.symm
 | among h=>
   obtain⟨f,v,x,e,hx,z⟩:=g.inv _ _ rfl
   obtain⟨rfl,rfl⟩:=jy e
   rw[h] at hx;cases hx;exact z.symm
 | join h=>
   obtain⟨f,u,v,e,_,z⟩:=g.inv _ _ rfl
   obtain⟨rfl,rfl,rfl⟩:=Qk e
   exact z.symm
def Halt (kn:Kn) (c:Cf):Prop:=c.todo=[]\/∃t x,c.todo=t++[.r (.rd x)]/\kn x=none
theorem Halt.no {kn:Kn}{c c':Cf} (h:Halt kn c) (g:St1 kn c c'):False:=by
 rcases h with h | ⟨t,x,h,hx⟩
 ·cases g<;>simp at h
 ·obtain⟨v,e,_⟩:=g.inv _ _ h
  rw[hx] at e;cases e
theorem StN.rest {kn:Kn}{n m:Nat}{a b c:Cf} (h:StN kn n a b) (g:StN kn m a c) (hc:Halt kn c):∃k,StN kn k b c:=by
 induction h generalizing m with
 | zero=>exact⟨m,g⟩
 | succ h _ ih=>
   cases g with
   | zero=>exact(hc.no h).elim
   | succ h' g'=>rw[<-h.det h'] at g';exact ih g'
theorem Ql {ns:List Str} (h:1<=ns.length) (u:Int):∃x,pU ns u=some x:=by
 unfold pU
 have h1:(u % (ns.length:Int)).toNat<ns.length:=by
  have:=Int.emod_nonneg u (show(ns.length:Int)≠0 by omega)
  have:=Int.emod_lt_of_pos u (show(0:Int)<ns.length by omega)
  omega
 exact⟨_,List.getElem?_eq_getElem h1⟩
def Reach (kn:Kn) (r:R) (c:Cf):Prop:=∃n,StN kn n ⟨[.r r],[],[]⟩ c
theorem Reach.le {kn kn':Kn} (h:Kn.Le kn kn') {r:R}{c:Cf} (g:Reach kn r c):Reach kn' r c:=by
 obtain⟨n,g⟩:=g
 exact⟨n,g.le h⟩
def kn0:Kn:=fun _=>none
end RB
namespace L2
open PySem PySem.Spec PyProof.Rows
section
variable {X:Cx}{i o:Expr}{ty td:TE}{pos:Pos}
theorem yI (hu:X.A.units+1<cLine) (hi:QE X i ty) (ho:QE X o td) (h1:behindInMarks .In o=false:=by rfl):QT X (.Compare i [.In] [o] pos) (tB (adg ty td)):=⟨Q5 (aaa hu hi.h ho.h) h1⟩
theorem xM (hu:X.A.units+1<cLine) (hi:QE X i ty) (ho:QE X o td) (h1:behindInMarks .NotIn o=false:=by rfl):QT X (.Compare i [.NotIn] [o] pos) (tB (Oc ty td)):=⟨Q5 (Qe hu hi.h ho.h) h1⟩
end
end L2
namespace RB
open PySem L2 PySem.Spec PyProof.Rows
inductive Df (H:Hp):V->Stp->Prop where
 | r {a:Addr}{r:R} (h:IsR H a r):Df H (.ref a) (.r r)
 | branch {a b c:Addr}{s t:R} (e:H a=some (.tup [.str "branch", .ref b, .ref c])) (h1:IsR H b s) (h2:IsR H c t):Df H (.ref a) (.branch s t)
 | among {a b:Addr}{ns:List Str} (e:H a=some (.tup [.str "among", .ref b])) (h:H b=some (.tup (ns.map V.str))):Df H (.ref a) (.among ns)
 | join {a:Addr}{op:Op} (e:H a=some (.tup [.str "join", .str op.word])):Df H (.ref a) (.join op)
theorem Df.tups {H H':Hp} (t:jX H H') {v:V}{s:Stp} (h:Df H v s):Df H' v s:=by
 cases h with
 | r h=>exact .r (h.tups t)
 | branch e h1 h2=>exact .branch (t _ _ e) (h1.tups t) (h2.tups t)
 | among e h=>exact .among (t _ _ e) (t _ _ h)
 | join e=>exact .join (t _ _ e)
inductive mJ (H:Hp):List V->List Stp->Prop where
 | nil:mJ H [] []
 | cons {v:V}{s:Stp}{vs:List V}{ss:List Stp} (h:Df H v s) (t:mJ H vs ss):mJ H (v::vs) (s::ss)
theorem mJ.tups {H H':Hp} (t:jX H H') {vs:List V}{ss:List Stp} (h:mJ H vs ss):mJ H' vs ss:=by
 induction h with
 | nil=>exact .nil
 | cons h _ ih=>exact .cons (h.tups t) ih
theorem mJ.app {H:Hp}:∀{vs ws:List V}{ss ts:List Stp},mJ H vs ss->mJ H ws ts->mJ H (vs++ws) (ss++ts)
 | _,_,_,_, .nil,h=>h
 | _,_,_,_, .cons h' t,h=> .cons h' (t.app h)
theorem mJ.snoc {H:Hp}{s:Stp}:∀{ss:List Stp}{vs:List V},mJ H vs (ss++[s])->∃us v,vs=us++[v]/\mJ H us ss/\Df H v s
 |[],_,h=>by
  cases h with
  | cons h t=>cases t;exact⟨[],_,rfl, .nil,h⟩
 | s0::ss,_,h=>by
   cases h with
   | cons h t=>
     obtain⟨us,v,rfl,h1,h2⟩:=mJ.snoc (ss:=ss) t
     exact⟨_::us,v,rfl, .cons h h1,h2⟩
theorem mJ.length {H:Hp}{vs:List V}{ss:List Stp} (h:mJ H vs ss):vs.length=ss.length:=by
 induction h with
 | nil=>rfl
 | cons _ _ ih=>simp[ih]
def wR:R->Nat
 | .num _=>1
 | .rd _=>1
 | .bin _ a b=>wR a+wR b+2
 | .pick a b c=>wR a+wR b+wR c+2
 | .cho a _=>wR a+3
def wS:Stp->Nat
 | .r r=>wR r
 | .branch s t=>wR s+wR t+1
 | .among _=>2
 | .join _=>1
def wT (t:List Stp):Nat:=(t.map wS).sum
def Cf.w (c:Cf):Nat:=c.rds.length+c.found.length+2 * wT c.todo
theorem lU (s t:List Stp):wT (s++t)=wT s+wT t:=by unfold wT;rw[List.map_append,List.sum_append]
theorem aaH:∀r:R,1<=wR r
 | .num _=>Nat.le_refl _
 | .rd _=>Nat.le_refl _
 | .bin _ a b=>by show 1<=wR a+wR b+2;omega
 | .pick a b c=>by show 1<=wR a+wR b+wR c+2;omega
 | .cho a _=>by show 1<=wR a+3;omega
theorem aaI (s:Stp):1<=wS s:=by
 cases s with
 | r r=>exact aaH r
 | branch s t=>show 1<=wR s+wR t+1;omega
 | among ns=>exact(by decide:1<=2)
 | join op=>exact Nat.le_refl _
theorem MN:∀t:List Stp,t.length<=wT t
 |[]=>Nat.le_refl _
 | s::t=>by
   have:=MN t
   have:=aaI s
   show t.length+1<=wS s+wT t
   omega
theorem R0 (d:List Rdp) (x:Str) (v:Int):(rY d x v).length<=d.length+1:=by
 unfold rY
 split
 ·rw[List.length_map];omega
 ·rw[List.length_append];exact Nat.le_refl _
theorem St1.w {kn:Kn}{a b:Cf} (h:St1 kn a b):b.w<=a.w:=by
 cases h with
 | @num t f d n=>
   show d.length+(f++[n]).length+2 * wT t<=d.length+f.length+2 * wT (t++[.r (.num n)])
   rw[lU,List.length_append];show _<=_+2 *(_+1);simp;omega
 | @rd t f d x v h=>
   have:=R0 d x v
   show(rY d x v).length+(f++[v]).length+2 * wT t<=d.length+f.length+2 * wT (t++[.r (.rd x)])
   rw[lU,List.length_append];show _<=_+2 *(_+1);simp;omega
 | @bin t f d op a b=>
   show d.length+f.length+2 * wT (t++[.join op, .r b, .r a])<=d.length+f.length+2 * wT (t++[.r (.bin op a b)])
   rw[lU,lU];show _+2 *(_+(1+(wR b+(wR a+0))))<=_+2 *(_+(wR a+wR b+2+0));omega
 | @pick t f d a b c=>
   show d.length+f.length+2 * wT (t++[.branch b c, .r a])<=d.length+f.length+2 * wT (t++[.r (.pick a b c)])
   rw[lU,lU];show _+2 *(_+(wR b+wR c+1+(wR a+0)))<=_+2 *(_+(wR a+wR b+wR c+2+0));omega
 | @cho t f d a ns=>
   show d.length+f.length+2 * wT (t++[.among ns, .r a])<=d.length+f.length+2 * wT (t++[.r (.cho a ns)])
   rw[lU,lU];show _+2 *(_+(2+(wR a+0)))<=_+2 *(_+(wR a+3+0));omega
 | @branch t f d b c v=>
   show d.length+f.length+2 * wT (t++[.r (if v>0 then b else c)])<=d.length+(f++[v]).length+2 * wT (t++[.branch b c])
   rw[lU,lU,List.length_append]
   have:wR (if v>0 then b else c)<=wR b+wR c:=by split<;>omega
   show _+2 *(_+(wR (if v>0 then b else c)+0))<=_+2 *(_+(wR b+wR c+1+0));omega
 | @among t f d ns v x h=>
   show d.length+f.length+2 * wT (t++[.r (.rd x)])<=d.length+(f++[v]).length+2 * wT (t++[.among ns])
   rw[lU,lU,List.length_append];show _+2 *(_+1)<=_+2 *(_+2);omega
 | @join t f d op u v h=>
   show d.length+(f++[op.ap u v]).length+2 * wT t<=d.length+(f++[u,v]).length+2 * wT (t++[.join op])
   rw[lU,List.length_append,List.length_append];show _+(_+1)+_<=_+(_+2)+2 *(_+1);omega
def rdK (d:List Rdp):List (Key×V):=d.map fun p=>(.inr p.1, .int p.2)
theorem VJ (d:List Rdp) (x:Str) (v:Int):putK (rdK d) (.inr x) (.int v)=rdK (rY d x v):=by
 unfold putK rY rdK
 rw[List.any_map]
 have e:((fun kv:Key×V=>decide (kv.1=(.inr x:Key)))∘fun p:Rdp=>((.inr p.1:Key),V.int p.2))=fun p:Rdp=>decide (p.1=x):=by
  funext p
  show decide ((Sum.inr p.1:Key)=Sum.inr x)=_
  by_cases h:p.1=x
  ·rw[decide_eq_true h,decide_eq_true (by rw[h])]
  ·rw[decide_eq_false h,decide_eq_false (fun z=>h (Sum.inr.inj z))]
 rw[e]
 by_cases hc:(d.any fun p=>decide (p.1=x))=true
 ·rw[if_pos hc,if_pos hc,List.map_map,List.map_map]
  apply List.map_congr_left
  intro p _
  show(if(Sum.inr p.1:Key)=Sum.inr x then((Sum.inr p.1:Key),V.int v) else((Sum.inr p.1:Key),V.int p.2))=_
  by_cases h:p.1=x
  ·rw[if_pos (by rw[h])]
   show _=((Sum.inr (if p.1=x then(p.1,v) else p).1:Key),V.int (if p.1=x then(p.1,v) else p).2)
   rw[if_pos h]
  ·rw[if_neg (fun z=>h (Sum.inr.inj z))]
   show _=((Sum.inr (if p.1=x then(p.1,v) else p).1:Key),V.int (if p.1=x then(p.1,v) else p).2)
   rw[if_neg h]
 ·rw[if_neg hc,if_neg hc,List.map_append];rfl
def rkF (a1 a2 a3:Addr):List (Str×V):=[("todo", .ref a1),("found", .ref a2),("reads", .ref a3)]
structure RcAt (H:Hp) (a C dx a1 a2 a3:Addr) (c:Cf):Prop where
 e:H a=some (.ins C dx (rkF a1 a2 a3))
 e1:∃ws,H a1=some (.lst ws)/\mJ H ws c.todo
 e2:H a2=some (.lst (c.found.map V.int))
 e3:H a3=some (.dK (rdK c.rds))
 ne:a1≠a2
 hw:c.w<=10000
structure RkC (K:PySem.W.Frag) (C:Addr):Prop where
 cl:Cls K C
 nT:iV K C "todo"
 nF:iV K C "found"
 nR:iV K C "reads"
def R3 (H:Hp) (d:Addr) (kn:Kn):Prop:=∃kvs,H d=some (.dK kvs)/\∀x,dX kvs (.inr x)=(kn x).map V.int
theorem IW (a1 a2 a3:Addr):List.lookup ("todo":Str) (rkF a1 a2 a3)=some (.ref a1):=rfl
theorem Eu (a1 a2 a3:Addr):List.lookup ("found":Str) (rkF a1 a2 a3)=some (.ref a2):=rfl
theorem Ew (a1 a2 a3:Addr):List.lookup ("reads":Str) (rkF a1 a2 a3)=some (.ref a3):=rfl
theorem X7 (a1 a2 a3:Addr):List.lookup ("go_on":Str) (rkF a1 a2 a3)=none:=rfl
theorem zU (a1 a2 a3:Addr):List.lookup ("lacking":Str) (rkF a1 a2 a3)=none:=rfl
def Oo:Sp:=fun vs H Q _=>∃(op:Op) (u v:Int),vs=[.str op.word, .int u, .int v]/\(op= .times->qp u v)/\Q (.int (op.ap u v)) H
def Kh (C:Addr):Sp:=fun vs H Q _=>∃(a dx b:Addr) (r:R),vs=[.ref a, .ref b]/\H a=some (.ins C dx [])/\IsR H b r/\wR r<=4000/\
 ∀a1 a2 a3 H',But [a] H H'->H a1=none->H a2=none->H a3=none->RcAt H' a C dx a1 a2 a3 ⟨[.r r],[],[]⟩->Q .non H'
def adB (C:Addr):Sp:=fun vs H Q _=>∃(a dx a1 a2 a3:Addr) (v:V) (s:Stp) (t:List Stp) (f:List Int) (d:List Rdp) (kn:Kn) (c:Cf),vs=[.ref a,v]/\RcAt H a C dx a1 a2 a3 ⟨t,f,d⟩/\Df H v s/\(∀x,s≠ .r (.rd x))/\
 St1 kn ⟨t++[s],f,d⟩ c/\c.w<=10000/\∀H',But [a1,a2,a3] H H'->RcAt H' a C dx a1 a2 a3 c->Q .non H'
def R4 (C:Addr):Sp:=fun vs H Q _=>∃(a dx a1 a2 a3 d:Addr) (kn:Kn) (n:Nat) (c c':Cf),vs=[.ref a, .ref d]/\RcAt H a C dx a1 a2 a3 c/\R3 H d kn/\d≠a3/\StN kn n c c'/\Halt kn c'/\
 ∀H',But [a1,a2,a3] H H'->RcAt H' a C dx a1 a2 a3 c'->(c'.todo=[]->Q .non H')/\∀t x,c'.todo=t++[.r (.rd x)]->Q (.str x) H'
theorem RcAt.lists {H:Hp}{a C dx a1 a2 a3:Addr}{c:Cf} (h:RcAt H a C dx a1 a2 a3 c) {H':Hp} (b:But [a1,a2,a3] H H'):jX H H':=fun p xs q=>b p _ (fun z=>by
 obtain⟨ws,e1,_⟩:=h.e1
 have:p=a1\/p=a2\/p=a3:=by simpa using z
 rcases this with rfl | rfl | rfl
 ·rw[e1] at q;cases q
 ·rw[h.e2] at q;cases q
 ·rw[h.e3] at q;cases q) q
theorem gF {H:Hp}{p q:Addr}{o:HO} (h:upd H p o q=none):q≠p/\H q=none:=by
 by_cases e:q=p
 ·subst e;rw[ak] at h;cases h
 ·rw[ao e] at h;exact⟨e,h⟩
theorem RcAt.ins {H:Hp}{a C dx a1 a2 a3:Addr}{c:Cf} (h:RcAt H a C dx a1 a2 a3 c):a∉[a1,a2,a3]:=fun z=>by
 obtain⟨ws,e1,_⟩:=h.e1
 have z:a=a1\/a=a2\/a=a3:=by simpa using z
 have e:=h.e
 rcases z with z | z | z
 ·rw[z,e1] at e;cases e
 ·rw[z,h.e2] at e;cases e
 ·rw[z,h.e3] at e;cases e
theorem RcAt.n13 {H:Hp}{a C dx a1 a2 a3:Addr}{c:Cf} (h:RcAt H a C dx a1 a2 a3 c):a1≠a3:=fun z=>by
 obtain⟨ws,e1,_⟩:=h.e1
 have e:=h.e3
 rw[<-z,e1] at e;cases e
theorem RcAt.n23 {H:Hp}{a C dx a1 a2 a3:Addr}{c:Cf} (h:RcAt H a C dx a1 a2 a3 c):a2≠a3:=fun z=>by
 have e:=h.e3
 rw[<-z,h.e2] at e;cases e
theorem RcAt.next {H H':Hp}{a C dx a1 a2 a3:Addr}{c c':Cf}{ws:List V} (h:RcAt H a C dx a1 a2 a3 c) (b:But [a1,a2,a3] H H') (g1:H' a1=some (.lst ws)) (s:mJ H' ws c'.todo) (g2:H' a2=some (.lst (c'.found.map V.int))) (g3:H' a3=some (.dK (rdK c'.rds))) (hw:c'.w<=10000):RcAt H' a C dx a1 a2 a3 c':=
 ⟨b _ _ h.ins h.e,⟨ws,g1,s⟩,g2,g3,h.ne,hw⟩
theorem Df.hd {H:Hp}{v:V}{s:Stp} (h:Df H v s) (hno:∀x,s≠ .r (.rd x)):∃p k xs,v= .ref p/\H p=some (.tup (.str k::xs))/\k≠"read":=by
 cases h with
 | r h=>
   cases h with
   | num e=>exact⟨_,_,_,rfl,e,by decide +kernel⟩
   | rd e=>exact absurd rfl (hno _)
   | @bin _ _ _ op _ _ e _ _=>exact⟨_,_,_,rfl,e,by cases op<;>decide +kernel⟩
   | pick e _ _ _=>exact⟨_,_,_,rfl,e,by decide +kernel⟩
   | cho e _ _=>exact⟨_,_,_,rfl,e,by decide +kernel⟩
 | branch e _ _=>exact⟨_,_,_,rfl,e,by decide +kernel⟩
 | among e _=>exact⟨_,_,_,rfl,e,by decide +kernel⟩
 | join e=>exact⟨_,_,_,rfl,e,by decide +kernel⟩
theorem StN.halt {kn:Kn}{n:Nat}{c c':Cf} (h:StN kn n c c') (hc:Halt kn c):c=c':=by
 cases h with
 | zero=>rfl
 | succ h _=>exact(hc.no h).elim
theorem aaJ {H:Hp}{a:Addr}{o:HO} (h:H a=some o):upd H a o=H:=by
 funext b
 by_cases e:b=a
 ·subst e;rw[ak,h]
 ·rw[ao e]
theorem same_none {H H':Hp}{p:Addr} (s:aN H H') (h:H' p=none):H p=none:=by
 cases z:H p with
 | none=>rfl
 | some o=>rw[s _ _ z] at h;cases h
end RB
namespace L2
open PySem PySem.Spec PyProof.Rows
theorem DG {k:Key}{v:Value} (h:CG k v=true):RelV (kV k) v:=by
 rcases gM h with⟨i,t,rfl,rfl⟩ | ⟨x,t,rfl,rfl⟩
 ·exact⟨t,rfl⟩
 ·exact⟨t,rfl⟩
theorem yJ:∀{ys:List V}{its:List Value},its.length=ys.length->(∀(i:Nat) (v:Value),its[i]? =some v->∃y,ys[i]? =some y/\RelV y v)->Vals ys its
 |[],[],_,_=> .nil
 | y::ys,v::its,hl,h=>by
   obtain⟨y',e,r⟩:=h 0 v rfl
   cases e
   exact .cons r (yJ (by simpa using hl) fun i u hu=>h (i+1) u (by simpa using hu))
 |[],_::_,hl,_=>by simp at hl
 | _::_,[],hl,_=>by simp at hl
theorem Ex {κ:Type}:∀{kvs:List (κ×V)}{vs:List (κ×Value)},KV kvs vs->kvs.length=vs.length/\∀(i:Nat) (k:κ) (x:Value),vs[i]? =some (k,x)->∃y,kvs[i]? =some (k,y)
 | _,_, .nil=>⟨rfl,fun i k x h=>by simp at h⟩
 | _,_, .cons (a:=p) (b:=q) h t=>by
   obtain⟨h1,h2⟩:=Ex t
   refine⟨by simp[h1],fun i k x e=> ?_⟩
   cases i with
   | zero=>cases e;exact⟨p.2,by rw[List.getElem?_cons_zero];cases p;simp only at h ⊢;rw[h.1]⟩
   | succ i=>exact h2 i k x (by simpa using e)
section
variable {X:Cx}
theorem MP (hc:X.calm=true):pM X (.type "list") (fun xs H Q=>∃a kvs,xs=[.ref a]/\H a=some (.dK kvs)/\∀l,H l=none->Q (.ref l) (upd H l (.lst (kvs.map fun kv=>kV kv.1)))):=by
 intro pins s σ H xs us Q I r h
 obtain⟨a,kvs,rfl,ha,q⟩:=h
 obtain⟨u,rfl,rx⟩:=vals1 r
 cases rx
 obtain⟨hz,lo,vs,hkv,hd⟩:=(show eF X.prog X.w H s.heap a (.dK kvs) from I.hok a _ ha)
 obtain⟨ep,hat⟩:=hd.dictAt
 obtain⟨hl,hk⟩:=Ex hkv
 refine PySem.W.kdl_call (PySem.W.kdl_dict lo) (I.ok.hd hc) hat (by rw[<-hl];exact hz) fun h' tk acc c kp e hacc=> ?_
 have hv:Vals (kvs.map fun kv=>kV kv.1) acc.toList:=yJ (by rw[List.length_map,Array.length_toList,hacc.1,hl]) fun i v hv=>by
  obtain⟨k,x,e1,e2⟩:=hacc.2 i v (by rw[<-Array.getElem?_toList];exact hv)
  obtain⟨y,hy⟩:=hk i k x e1
  exact⟨kV k,by rw[List.getElem?_map,hy];rfl,DG e2⟩
 exact⟨.ref s.heap.objs.size,_,I.laid (t':=tk) kp (Nat.le_refl _) (show eF X.prog X.w _ h' _ (.lst (kvs.map fun kv=>kV kv.1)) from⟨by rw[List.length_map];exact hz,acc.toList,c,hv,by simpa using e⟩),rfl,q _ (I.hok.fresh (Nat.le_refl _))⟩
theorem Kl (hc:X.calm=true):pQ X (.type "list") (fun xs H Q=>∃a kvs,xs=[.ref a]/\H a=some (.dK kvs)/\∀l,H l=none->Q (.ref l) (upd H l (.lst (kvs.map fun kv=>kV kv.1)))):=⟨MP hc⟩
end
end L2
namespace RB
open PySem L2 PySem.Spec PyProof.Rows
def R.In (ns:List Str):R->Prop
 | .num _=>True
 | .rd x=>x∈ns
 | .bin _ a b=>a.In ns/\b.In ns
 | .pick a b c=>a.In ns/\b.In ns/\c.In ns
 | .cho a ms=>a.In ns/\∀x∈ms,x∈ns
theorem Ey {S:List Addr}{H H':Hp}{q:Addr} (b:But S H H') (h:H' q=none) (hS:q∉S):H q=none:=by
 cases z:H q with
 | none=>rfl
 | some o=>rw[b _ _ hS z] at h;cases h
end RB
namespace L2
open PySem PySem.Spec PyProof.Rows
section
variable {X:Cx}{e st:Expr}{te ts:TE}{pos p2:Pos}
end
end L2
namespace RB
open PySem L2 PySem.Spec PyProof.Rows
def Chn (r:R):Kn->List Rdp->Prop
 | _,[]=>True
 | kn,p::us=>ev kn r= .inl p.1/\Chn r (kn.put p.1 p.2) us
theorem Chn.le {r:R}:∀{us:List Rdp}{kn:Kn},Chn r kn us->Kn.Le kn (kn.puts us)
 |[],kn,_=>Kn.Le.refl _
 | p::us,kn,h=>(Kn.qK (nj h.1)).trans (Chn.le (us:=us) h.2)
theorem Chn.up {a r:R}:∀{us:List Rdp}{kn:Kn},(∀kn' x,Kn.Le kn kn'->ev kn' a= .inl x->ev kn' r= .inl x)->Chn a kn us->Chn r kn us
 |[],_,_,_=>trivial
 | p::us,kn,h,g=>⟨h kn p.1 (Kn.Le.refl _) g.1,Chn.up (us:=us) (fun kn' x l e=>h kn' x ((Kn.qK (nj g.1)).trans l) e) g.2⟩
theorem Kn.gW (kn:Kn) (us vs:List Rdp):kn.puts (us++vs)=(kn.puts us).puts vs:=by
 induction us generalizing kn with
 | nil=>rfl
 | cons u us ih=>exact ih _
theorem Chn.app {r:R}:∀{us vs:List Rdp}{kn:Kn},Chn r kn us->Chn r (kn.puts us) vs->Chn r kn (us++vs)
 |[],_,_,_,h=>h
 | p::us,vs,kn,g,h=>⟨g.1,Chn.app (us:=us) g.2 h⟩
end RB
namespace L2
open PySem PySem.Spec PyProof.Rows
def Itd (a:Addr) (o:Obj) (kvs:List (Key×V)):It where
 go:=fun i H=>i<kvs.length/\H a=some (.frz o (.dK kvs))
 yld:=fun i H x H'=>H'=H/\∃k v,kvs[i]? =some (k,v)/\x=kV k
 stop:=fun i H=>kvs.length<=i/\H a=some (.frz o (.dK kvs))
theorem Qm {P:Program}{w:World}{K:PySem.W.Frag}{tg:Expr}{a it:Addr}{o:Obj}{kvs:List (Key×V)}{vs:List (Key×Value)}{es:Array DictEntry}{ep:Nat} (hne:a≠it) (hkv:KV kvs vs) (hx:o.ExactDict) (hdat:o.data= .dict es ep) (hk:PySem.KeysOf (dR P w) es) (hp:Pairs (dR P w) es.toList vs) (hn:(vs.map (·.1)).Nodup):
 Turn P w K tg (Itd a o kvs) [it] it (fun i h=>h.IsKeyIter it a i kvs.length ep) where
 mem:=by simp
 obj:=fun i h st b hb=>by
  have e:b=it:=by simpa using hb
  subst e
  obtain⟨o,e,c,d⟩:=st
  exact⟨o,e,fun v z=>by rw[d] at z;cases z⟩
 keep:=fun i h h' st k=>st.at fun o e=>k it (by simp) o e
 item:=by
  intro X hP hw hK hc i pins s σ H E I hf st hg
  subst hP hw hK
  obtain⟨hi,hH⟩:=hg
  obtain⟨ho,_⟩:=(show eF X.prog X.w H s.heap a (.frz o (.dK kvs)) from I.hok a _ hH)
  have hm:s.heap.DictAt (dR X.prog X.w) a vs ep:=⟨o,es,ho,hx,hdat,hk,hp,hn⟩
  obtain⟨hl,hat⟩:=Ex hkv
  have hi':i<vs.length:=by rw[<-hl];exact hi
  obtain⟨⟨k,x⟩,hxk⟩:∃p,vs[i]? =some p:=⟨vs[i],by simp[hi']⟩
  obtain⟨y,hy⟩:=hat i k x hxk
  obtain⟨f0,f1,f2,f3,f4,f5⟩:=hf it (by simp)
  rw[hl] at st
  refine wpAny_pyNext_dict_item st hm hxk fun key h' hkey hit' hs'=> ?_
  have I1:Inv X pins σ H {s with heap:=h'}:=I.turned (t':=s.toks) (fun b o hb e=>hs'.extBut b o hb e) f0 f1 f3 f4 f5
  obtain⟨o',e',c',d'⟩:=id hit'
  exact⟨key,rfl,Rb (s:={s with heap:=h'}) e' c' d' (by decide) ⟨kV k,H,I1,DG hkey,⟨rfl,k,y,hy,rfl⟩,by rw[hl];exact hit',fun b hb=>(hf b hb).1⟩⟩
 done:=by
  intro X hP hw hK hc i pins s σ H E I hf st hg
  subst hP hw hK
  obtain⟨hi,hH⟩:=hg
  obtain⟨ho,_⟩:=(show eF X.prog X.w H s.heap a (.frz o (.dK kvs)) from I.hok a _ hH)
  have hm:s.heap.DictAt (dR X.prog X.w) a vs ep:=⟨o,es,ho,hx,hdat,hk,hp,hn⟩
  obtain⟨hl,hat⟩:=Ex hkv
  obtain⟨f0,f1,f2,f3,f4,f5⟩:=hf it (by simp)
  rw[hl] at st
  exact wpAny_pyNext_dict_end (I.ok.hd hc) st hm (by rw[List.getElem?_eq_none_iff];omega) fun h' eb=>⟨rfl,I.turned (t':=s.toks) (fun b o hb e=>eb b o hb e) f0 f1 f3 f4 f5⟩
 self:=fun _ _ _ _ _ st h=>wpAny_pyIter_keyiter st h
section
variable {X:Cx}{tg:Expr}
def X8 (tl:TE):TI:=fun σ H R=>tl σ H fun x H1=>∃a kvs,x= .ref a/\H1 a=some (.dK kvs)/\∀o,R (Itd a o kvs) (upd H1 a (.frz o (.dK kvs)))
theorem VL {l:Expr}{tl:TE} (hl:PE X l tl):PI X tg l (X8 tl):=by
 intro pins s σ H R I h
 refine thn (hl pins s σ H _ I h) fun v s1 ⟨x,H1,I1,r1,q1⟩=> ?_
 obtain⟨a,kvs,e,hq,q⟩:=q1
 subst e
 cases r1
 obtain⟨hz,lo,vs,hkv,hd⟩:=(show eF X.prog X.w H1 s1.heap a (.dK kvs) from I1.hok a _ hq)
 obtain⟨o,es,ep,ho,hx,hdat,hk,hp,hn⟩:=id hd
 have hl:=(Ex hkv).1
 have I2:Inv X pins σ (upd H1 a (.frz o (.dK kvs))) {s1 with heap:=s1.heap,toks:=s1.toks}:=I1.write (x:=a) (e:=a) (h':=s1.heap) (by rw[hq];exact trivial) (.inl rfl) (fun b u _ e=>e) ⟨o,ho⟩ ⟨ho,hz,lo,vs,hkv,hd⟩
 refine wpAny_pyIter_dict lo ⟨o,es,ho,hx,hdat,hk,hp,hn⟩ ?_
 have hlt:a<s1.heap.objs.size:=Heap.lt_size ho
 rw[<-hl]
 refine⟨s1.heap.objs.size,[s1.heap.objs.size],_,_,_,rfl,I2.kept (t':=s1.toks) fun b o e=>Heap.get?_push_of_some _ e,Qm (Nat.ne_of_lt hlt) hkv hx hdat hk hp hn,⟨_,Heap.get?_push_size _ rfl,rfl,rfl⟩,fun b hb=> ?_,q o⟩
 have e:b=s1.heap.objs.size:=by simpa using hb
 subst e
 exact I2.JV (Nat.le_refl _) (I2.hok.fresh (Nat.le_refl _))
theorem VM {l:Expr}{tl:TE} (hl:QE X l tl):QI X tg l (X8 tl):=⟨VL hl.h⟩
end
section
variable {X:Cx}
end
theorem R5 {κ:Type}:∀{kvs:List (κ×V)}{vs:List (κ×Value)},KV kvs vs->∀(i:Nat) (k:κ) (x:Value),vs[i]? =some (k,x)->∃y,kvs[i]? =some (k,y)/\RelV y x
 | _,_, .nil=>fun i k x h=>by simp at h
 | _,_, .cons (a:=p) (b:=q) h t=>fun i k x e=>by
   cases i with
   | zero=>cases e;exact⟨p.2,by rw[List.getElem?_cons_zero];cases p;simp only at h ⊢;rw[h.1],h.2⟩
   | succ i=>exact R5 t i k x (by simpa using e)
section
variable {X:Cx}
theorem yK {ts:List Str}:∀{us:List Value},Vals (ts.map V.str) us->StrsAre us ts:=by
 induction ts with
 | nil=>intro us r;cases r;exact .nil
 | cons n ns ih=>
   intro us r
   rw[List.map_cons] at r
   cases r with
   | cons r1 r2=>
     obtain⟨t,e⟩:=r1
     subst e
     exact .cons n t (ih r2)
theorem Bw:∀{us:List Value}{ts:List Str},StrsAre us ts->Vals (ts.map V.str) us
 | _,_, .nil=> .nil
 | _,_, .cons y t h=> .cons ⟨t,rfl⟩ (Bw h)
end
end L2
namespace RB
open PySem L2 PySem.Spec PyProof.Rows
end RB
namespace L2
open PySem PySem.Spec PyProof.Rows
section
variable {X:Cx}{o e:Expr}{td ty:TE}{apos cpos:Pos}
end
end L2
namespace RB
open PySem L2 PySem.Spec PyProof.Rows
theorem Hz {κ:Type} [DecidableEq κ] (kvs:List (κ×V)) (k:κ) (v:V):(putK kvs k v).map (·.1)=if(kvs.any fun kv=>decide (kv.1=k))=true then kvs.map (·.1) else kvs.map (·.1)++[k]:=by
 unfold putK
 split
 ·rw[List.map_map]
  apply List.map_congr_left
  intro p _
  show(if p.1=k then(p.1,v) else p).1=p.1
  split<;>rfl
 ·rw[List.map_append];rfl
theorem Qn {kvs:List (Key×V)}{ns:List Str} (h:kvs.map (·.1)=ns.map Sum.inr):kvs.map (fun kv=>kV kv.1)=ns.map V.str:=by
 have:kvs.map (fun kv=>kV kv.1)=(kvs.map (·.1)).map kV:=by rw[List.map_map];rfl
 rw[this,h,List.map_map];rfl
structure j9 (kvs:List (Key×V)) (ks:List Str):Prop where
 k:kvs.map (·.1)=ks.map Sum.inr
 nd:ks.Nodup
theorem j9.len {kvs:List (Key×V)}{ks:List Str} (h:j9 kvs ks):kvs.length=ks.length:=by
 have:=congrArg List.length h.k
 rwa [List.length_map,List.length_map] at this
theorem Ja {kvs:List (Key×V)}{ks:List Str} (h:j9 kvs ks) (x:Str):(kvs.any fun kv=>decide (kv.1=(.inr x:Key)))=decide (x∈ks):=by
 have e:(kvs.any fun kv=>decide (kv.1=(.inr x:Key)))=(kvs.map (·.1)).any (fun k=>decide (k=(.inr x:Key))):=by rw[List.any_map];rfl
 rw[e,h.k,List.any_map]
 clear e h
 induction ks with
 | nil=>rfl
 | cons y ks ih=>
   rw[List.any_cons,ih]
   by_cases hy:x=y
   ·subst hy;simp
   ·have:¬(y=x):=fun z=>hy z.symm
    simp[hy,this]
theorem j9.none {kvs:List (Key×V)}{ks:List Str} (h:j9 kvs ks) {x:Str}:dX kvs (.inr x)=none ↔ x∉ks:=by
 have e:=Ja h x
 rw[vI] at e
 constructor
 ·intro z m
  rw[z] at e
  simp[m] at e
 ·intro m
  cases z:dX kvs (.inr x) with
  | none=>rfl
  | some v=>rw[z] at e;simp[m] at e
theorem j9.uf {kvs:List (Key×V)}{ks:List Str} (h:j9 kvs ks) {x:Str} (hx:x∉ks) (v:V):j9 (putK kvs (.inr x) v) (ks++[x]):=by
 refine⟨?_, ?_⟩
 ·rw[Hz,Ja h x,decide_eq_false hx,if_neg (by decide),h.k,List.map_append];rfl
 ·rw[List.nodup_append]
  exact⟨h.nd,by simp,fun a ha b hb=>by
   have:b=x:=by simpa using hb
   rw[this];exact fun z=>hx (z▸ha)⟩
theorem j9.Bx {kvs:List (Key×V)}{ks:List Str} (h:j9 kvs ks) {x:Str} (hx:x∈ks) (v:V):j9 (putK kvs (.inr x) v) ks:=by
 refine⟨?_,h.nd⟩
 rw[Hz,Ja h x,decide_eq_true hx,if_pos rfl,h.k]
theorem R.In.mono {ns ms:List Str} (h:∀x∈ns,x∈ms):∀{r:R},r.In ns->r.In ms
 | .num _,_=>trivial
 | .rd _,i=>h _ i
 | .bin _ _ _,i=>⟨i.1.mono h,i.2.mono h⟩
 | .pick _ _ _,i=>⟨i.1.mono h,i.2.1.mono h,i.2.2.mono h⟩
 | .cho _ _,i=>⟨i.1.mono h,fun x hx=>h x (i.2 x hx)⟩
abbrev Rn:=Str->Option R
def Rn.put (rc:Rn) (x:Str) (r:R):Rn:=fun y=>if y=x then some r else rc y
section
variable {H:Hp}{kg kc:List (Key×V)}{n:Nat}{gv:Kn}{rc:Rn}
theorem lV {x y:Str} (h:¬x=y):¬(Sum.inr x:Key)=Sum.inr y:=fun z=>h (Sum.inr.inj z)
end
structure nU (r:R) (kn:Kn) (us:List Rdp) (v:Int):Prop where
 c:Chn r kn us
 e:ev (kn.puts us) r= .inr v
theorem VN {n:Int}{kn:Kn}:nU (.num n) kn [] n:=⟨trivial,rfl⟩
theorem VP {kn:Kn}{x:Str}{v:Int} (h:kn x=some v):nU (.rd x) kn [] v:=⟨trivial,by show look kn x=_;unfold look;rw[h]⟩
theorem VR {kn:Kn}{x:Str}{v:Int} (h:kn x=none):nU (.rd x) kn [(x,v)] v:=by
 refine⟨⟨by show look kn x=_;unfold look;rw[h],trivial⟩, ?_⟩
 show look (kn.put x v) x=_
 unfold look Kn.put
 rw[if_pos rfl]
theorem V0 {op:Op}{a b:R}{kn:Kn}{us vs:List Rdp}{u v:Int} (ha:nU a kn us u) (hb:nU b (kn.puts us) vs v):nU (.bin op a b) kn (us++vs) (op.ap u v):=by
 have ua:∀kn' x,ev kn' a= .inl x->ev kn' (.bin op a b)= .inl x:=fun kn' x e=>by simp only[ev];rw[e]
 have ub:∀kn' x,Kn.Le (kn.puts us) kn'->ev kn' b= .inl x->ev kn' (.bin op a b)= .inl x:=fun kn' x l e=>by simp only[ev];rw[nQ l ha.e];simp only;rw[e]
 exact⟨(ha.c.up fun kn' x _ e=>ua kn' x e).app (hb.c.up ub),by rw[Kn.gW];simp only[ev];rw[nQ hb.c.le ha.e];simp only;rw[hb.e]⟩
theorem R6 {a b c:R}{kn:Kn}{us vs:List Rdp}{u v:Int} (ha:nU a kn us u) (hb:nU (if u>0 then b else c) (kn.puts us) vs v):nU (.pick a b c) kn (us++vs) v:=by
 have ua:∀kn' x,ev kn' a= .inl x->ev kn' (.pick a b c)= .inl x:=fun kn' x e=>by simp only[ev];rw[e]
 have e:∀kn':Kn,Kn.Le (kn.puts us) kn'->ev kn' (.pick a b c)=ev kn' (if u>0 then b else c):=fun kn' l=>by
  simp only[ev];rw[nQ l ha.e];simp only;split<;>rfl
 exact⟨(ha.c.up fun kn' x _ e=>ua kn' x e).app (hb.c.up fun kn' x l z=>by rw[e kn' l];exact z),by rw[Kn.gW,e _ hb.c.le];exact hb.e⟩
theorem V1 {a:R}{ns:List Str}{x:Str}{kn:Kn}{us vs:List Rdp}{u v:Int} (ha:nU a kn us u) (hx:pU ns u=some x) (hb:nU (.rd x) (kn.puts us) vs v):nU (.cho a ns) kn (us++vs) v:=by
 have ua:∀kn' x,ev kn' a= .inl x->ev kn' (.cho a ns)= .inl x:=fun kn' x e=>by simp only[ev];rw[e]
 have e:∀kn':Kn,Kn.Le (kn.puts us) kn'->ev kn' (.cho a ns)=ev kn' (.rd x):=fun kn' l=>by
  simp only[ev];rw[nQ l ha.e];simp only;rw[hx]
 exact⟨(ha.c.up fun kn' x _ e=>ua kn' x e).app (hb.c.up fun kn' x l z=>by rw[e kn' l];exact z),by rw[Kn.gW,e _ hb.c.le];exact hb.e⟩
theorem rZ {x:Str}{u:Int}:∀{ps:List Rdp}{kn:Kn},kn.puts ps x=some u->(x,u)∈ps\/kn x=some u
 |[],kn,h=> .inr h
 | p::ps,kn,h=>by
   rcases rZ (ps:=ps) h with z | z
   ·exact .inl (List.mem_cons_of_mem _ z)
   ·unfold Kn.put at z
    by_cases e:x=p.1
    ·rw[if_pos e] at z
     left
     have:p=(x,u):=by rw[e];exact Prod.ext rfl (Option.some.inj z)
     rw[this];simp
    ·rw[if_neg e] at z;exact .inr z
theorem Ez {x:Str}:∀{ps:List Rdp}{kn:Kn},kn.puts ps x=none->x∉ps.map (·.1)/\kn x=none
 |[],kn,h=>⟨by simp,h⟩
 | p::ps,kn,h=>by
   obtain⟨z1,z2⟩:=Ez (ps:=ps) h
   unfold Kn.put at z2
   by_cases e:x=p.1
   ·rw[if_pos e] at z2;cases z2
   ·rw[if_neg e] at z2
    exact⟨by rw[List.map_cons,List.mem_cons];exact fun w=>w.elim e z1,z2⟩
structure Rows (kn:Kn) (ps:List Rdp):Prop where
 s:∀p∈ps,kn p.1=some p.2
 nd:(ps.map (·.1)).Nodup
theorem Rows.le {kn kn':Kn}{ps:List Rdp} (h:Rows kn ps) (l:Kn.Le kn kn'):Rows kn' ps:=⟨fun p hp=>l _ _ (h.s p hp),h.nd⟩
theorem jA:∀{ws ns:List Str},ws.Nodup->(∀x∈ws,x∈ns)->ws.length<=ns.length
 |[],_,_,_=>Nat.zero_le _
 | w::ws,ns,nd,h=>by
   rw[List.nodup_cons] at nd
   have hw:=h w (by simp)
   have ih:=jA (ws:=ws) (ns:=ns.erase w) nd.2 fun x hx=>by
    have hne:x≠w:=fun e=>nd.1 (by rw[<-e];exact hx)
    exact(List.mem_erase_of_ne hne).mpr (h x (by simp[hx]))
   rw[List.length_erase_of_mem hw] at ih
   have:=List.length_pos_of_mem hw
   simp only[List.length_cons]
   omega
theorem Rows.look {kn:Kn}{ps:List Rdp}{x:Str}{v:Int} (h:Rows kn ps) (hx:kn x=some v):if(x,v)∈ps then nU (.rd x) (kn0.puts ps) [] v else nU (.rd x) (kn0.puts ps) [(x,v)] v/\Rows kn (ps++[(x,v)]):=by
 by_cases hm:(x,v)∈ps
 ·rw[if_pos hm]
  cases e:kn0.puts ps x with
  | none=>exact absurd (List.mem_map.mpr ⟨_,hm,rfl⟩) (Ez e).1
  | some u=>
    rcases rZ e with z | z
    ·have:=h.s _ z
     rw[hx] at this
     cases this
     exact VP e
    ·cases z
 ·rw[if_neg hm]
  have hn:kn0.puts ps x=none:=by
   cases e:kn0.puts ps x with
   | none=>rfl
   | some u=>
     rcases rZ e with z | z
     ·have:=h.s _ z
      rw[hx] at this
      cases this
      exact absurd z hm
     ·cases z
  refine⟨VR hn,fun p hp=> ?_, ?_⟩
  ·rcases List.mem_append.mp hp with z | z
   ·exact h.s p z
   ·have:p=(x,v):=by simpa using z
    rw[this];exact hx
  ·rw[List.map_append,List.nodup_append]
   exact⟨h.nd,by simp,fun a ha b hb=>by
    have:b=x:=by simpa using hb
    rw[this];exact fun z=>(Ez hn).1 (z▸ha)⟩
abbrev Rm:=Str->Option (R×List Rdp×Int)
def Rm.put (rm:Rm) (x:Str) (q:R×List Rdp×Int):Rm:=fun y=>if y=x then some q else rm y
def Dg (X:List Addr) (H:Hp) (b:Addr) (q:R×List Rdp×Int):Prop:=∃br l as,H b=some (.tup [.ref br, .ref l, .int q.2.2])/\IsR H br q.1/\H l=some (.lst (as.map V.ref))/\jZ H as q.2.1/\l∉X
section
variable {X:List Addr}{H H':Hp}{st wd rd:Addr}{n:Nat}{gv:Kn}{rc:Rn}{kn:Kn}{rm:Rm}
theorem Dg.but {S:List Addr}{b:Addr}{q:R×List Rdp×Int} (h:Dg X H b q) (bt:But S H H') (tp:jX H H') (hs:∀y∈S,y∈X\/∀xs,H y≠some (.lst xs)):Dg X H' b q:=by
 obtain⟨br,l,as,e,r,el,rs,hx⟩:=h
 exact⟨br,l,as,tp _ _ e,r.tups tp,bt _ _ (fun z=>(hs l z).elim hx fun w=>w _ el) el,rs.tups tp,hx⟩
end
section
variable {H:Hp}{s l h:Addr}{du wr:V}
end
section
variable {H H':Hp}{s l h:Addr}{kn:Kn}{ps:List Rdp}
end
def rdD (p:Rdp):PyData:= .tuple [.str p.1, .int p.2]
theorem By {K:PySem.W.Frag}{H:Hp}:∀{as:List Addr}{ps:List Rdp},jZ H as ps->uV K H (as.map V.ref) (ps.map rdD)
 | _,_, .nil=> .nil
 | _,_, .cons h t=> .cons (.tup (SqT.of h) (.cons (.str _) (.cons (.int _) .nil))) (By t)
theorem Oq:∀ps:List Rdp,(∀p∈ps,lR p.1)->PyData.canLayAll0 (ps.map rdD)=true/\PyData.depthAll (ps.map rdD)<=4
 |[],_=>⟨rfl,by decide⟩
 | p::r,h=>by
   obtain⟨h1,h2⟩:=Oq r fun y hy=>h y (List.mem_cons_of_mem _ hy)
   have hs:=pR (h p List.mem_cons_self)
   constructor
   ·show((PyData.strOk p.1&&(true&&true))&&PyData.canLayAll0 _)=true
    rw[h1,hs];rfl
   ·have e1:(rdD p).depth<=4:=by simp only[rdD,PyData.depthAll,PyData.depth];omega
    simp only[List.map_cons,PyData.depthAll]
    omega
theorem MT {ps:List Rdp} (h:∀p∈ps,lR p.1):SeqAt.shaped (.list (ps.map rdD))=true:=by
 obtain⟨h1,h2⟩:=Oq ps h
 have h4:(PyData.list (ps.map rdD)).depth<=64:=by simp only[PyData.depth];omega
 have h5:(PyData.list (ps.map rdD)).canLay0=true:=by simp only[PyData.canLay0];exact h1
 show(_&&decide _)=true
 rw[h5,decide_eq_true h4];rfl
theorem zV {ns:List Str}:∀{r:R}{kn:Kn}{x:Str},r.In ns->ev kn r= .inl x->x∈ns
 | .num n,kn,x,i,h=>by cases h
 | .rd y,kn,x,i,h=>by obtain⟨rfl,_⟩:=rW h;exact i
 | .bin op a b,kn,x,i,h=>by
   simp only[ev] at h
   cases ea:ev kn a with
   | inl y=>rw[ea] at h;cases h;exact zV i.1 ea
   | inr u=>
     rw[ea] at h
     cases eb:ev kn b with
     | inl y=>rw[eb] at h;cases h;exact zV i.2 eb
     | inr v=>rw[eb] at h;cases h
 | .pick a b c,kn,x,i,h=>by
   simp only[ev] at h
   cases ea:ev kn a with
   | inl y=>rw[ea] at h;cases h;exact zV i.1 ea
   | inr u=>
     rw[ea] at h
     simp only at h
     split at h
     ·exact zV i.2.1 h
     ·exact zV i.2.2 h
 | .cho a ms,kn,x,i,h=>by
   simp only[ev] at h
   cases ea:ev kn a with
   | inl y=>rw[ea] at h;cases h;exact zV i.1 ea
   | inr u=>
     rw[ea] at h
     simp only at h
     cases ep:pU ms u with
     | none=>rw[ep] at h;cases h
     | some y=>
       rw[ep] at h
       obtain⟨rfl,_⟩:=rW h
       exact i.2 _ (List.mem_of_getElem? ep)
section
variable {X:List Addr}{H:Hp}{h g c st wd rd:Addr}{n:Nat}{gv:Kn}{rc:Rn}{kn:Kn}{rm:Rm}
theorem ug {d:Addr}{kvs:List (Key×V)}{o:HO} (e:H d=some (.dK kvs)):jX H (upd H d o):=fun y xs z=>(ao (fun w=>by rw[w,e] at z;cases z)).trans z
theorem DK {kw:List (Key×V)} (v4:∀y,dX kw (.inr y)=(kn y).map V.int) (x:Str) (v:Int):∀y,dX (putK kw (.inr x) (.int v)) (.inr y)=((kn.put x v) y).map V.int:=fun y=>by
 rw[jw]
 unfold Kn.put
 by_cases z:y=x
 ·rw[if_pos (by rw[z]),if_pos z];rfl
 ·rw[if_neg (lV z),if_neg z];exact v4 y
end
theorem R7 {r:R}{ns:List Str} (hi:r.In ns):∀{ps:List Rdp}{kn:Kn},Chn r kn ps->∀p∈ps,p.1∈ns
 |[],_,_,p,hp=>by cases hp
 | q::ps,kn,c,p,hp=>by
   rcases List.mem_cons.mp hp with z | z
   ·rw[z];exact zV hi c.1
   ·exact R7 hi (ps:=ps) c.2 p z
theorem Dg.same {X:List Addr}{H H':Hp}{b:Addr}{q:R×List Rdp×Int} (r:Dg X H b q) (s:aN H H'):Dg X H' b q:=r.but (S:=[]) (But.of_same s) (aN.tups s) (by simp)
theorem j9.at {kvs:List (Key×V)}{ks:List Str} (h:j9 kvs ks) {i:Nat}{k:Key}{v:V} (e:kvs[i]? =some (k,v)):∃x,k= .inr x/\ks[i]? =some x:=by
 have h1:(kvs.map (·.1))[i]? =some k:=by rw[List.getElem?_map,e];rfl
 rw[h.k,List.getElem?_map] at h1
 cases z:ks[i]? with
 | none=>rw[z] at h1;cases h1
 | some x=>rw[z] at h1;exact⟨x,(Option.some.inj h1).symm,rfl⟩
theorem again {r:R}{kn:Kn}{v:Int}:∀(k:Nat) {ps qs:List Rdp}{kn1:Kn},Chn r kn1 ps->Chn r kn1 qs->ev (kn1.puts qs) r= .inr v->(∀q∈qs,kn q.1=some q.2)->(∀(j:Nat) p,j<k->ps[j]? =some p->kn p.1=some p.2)->∀p,ps[k]? =some p->∃u,kn p.1=some u
 | k,[],qs,kn1,cp,cq,e,hq,hj,p,hp=>by simp at hp
 | k,q0::ps,[],kn1,cp,cq,e,hq,hj,p,hp=>by
   have h1:=cp.1
   have e:ev kn1 r= .inr v:=e
   rw[e] at h1;cases h1
 | 0,q0::ps,q::qs,kn1,cp,cq,e,hq,hj,p,hp=>by
   have:q0=p:=by simpa using hp
   subst this
   have h1:=cp.1
   rw[cq.1] at h1
   have:q.1=q0.1:=Sum.inl.inj h1
   exact⟨q.2,by rw[<-this];exact hq q (by simp)⟩
 | k+1,q0::ps,q::qs,kn1,cp,cq,e,hq,hj,p,hp=>by
   have h1:=cp.1
   rw[cq.1] at h1
   have e1:q.1=q0.1:=Sum.inl.inj h1
   have h2:=hj 0 q0 (by omega) rfl
   have h3:=hq q (by simp)
   rw[e1,h2] at h3
   have e2:q0.2=q.2:=Option.some.inj h3
   have cq2:=cq.2
   have ee:ev ((kn1.put q.1 q.2).puts qs) r= .inr v:=e
   rw[e1,<-e2] at cq2 ee
   exact again k cp.2 cq2 ee (fun y hy=>hq y (by simp[hy])) (fun j p' hj' hp'=>hj (j+1) p' (by omega) (by simpa using hp')) p (by simpa using hp)
theorem xN {r:R}:∀{ps:List Rdp}{kn:Kn},Chn r kn ps->(∀p∈ps,kn p.1=none)/\(ps.map (·.1)).Nodup
 |[],_,_=>⟨by simp,by simp⟩
 | q::ps,kn,c=>by
   obtain⟨h1,h2⟩:=xN (ps:=ps) c.2
   have h0:=nj c.1
   have h3:∀p∈ps,p.1≠q.1/\kn p.1=none:=fun p hp=>by
    have:=h1 p hp
    unfold Kn.put at this
    by_cases z:p.1=q.1
    ·rw[if_pos z] at this;cases this
    ·rw[if_neg z] at this;exact⟨z,this⟩
   refine⟨fun p hp=> ?_, ?_⟩
   ·rcases List.mem_cons.mp hp with z | z
    ·rw[z];exact h0
    ·exact(h3 p z).2
   ·rw[List.map_cons,List.nodup_cons]
    refine⟨fun hm=> ?_,h2⟩
    obtain⟨p,hp,e⟩:=List.mem_map.mp hm
    exact(h3 p hp).1 e
end RB
namespace L2
open PySem PySem.Spec PyProof.Rows
section
variable {prog:Program}{w:World}{A:Around}{E:Value->Shared->Prop}{s:Shared}
theorem Jb {j t:Addr}{k:Nat}{vs:Array Value}{v:Value}{Q:Value->Shared->Prop} (hj:IsTupIter s.heap j t k) (ht:IsTup s.heap t vs) (hv:vs[k]? =some v)
 (q:∀g,IsTupIter g j t (k+1)->Heap.SameBut j s.heap g->Q v {s with heap:=g}):wpAny (model prog w) A (Builtin.SmallTypes.nextOf (.ref j)) Q E s:=by
 have ty:=hj.typeIs
 obtain⟨oj,ej,cj,dj⟩:=hj
 obtain⟨ot,et,_,nt,dt⟩:=ht
 unfold Builtin.SmallTypes.nextOf
 refine wpAny_bind (wpAny_callSpecial?_slot (name:=Str.ofString "__next__") ty slot_tupleiter_next (wpAny_call_entry slot_tupleiter_next ty entry_tupleiter_next ?_ (args_tupleiter_next _)))
 show wpAny _ _ (field (.ref j) 0>>=_) _ _ s
 refine wpAny_bind (wpAny_field ej dj (x:= .ref t) rfl ?_)
 show wpAny _ _ (if(Value.ref t==Value.none)=true then _ else _) _ _ _
 rw[if_neg (by intro z;cases z)]
 show wpAny _ _ (field (.ref j) 1>>=_) _ _ s
 refine wpAny_bind (wpAny_field ej dj (x:= .int k 0) rfl ?_)
 show wpAny _ _ (seqItems? (.ref t)>>=_) _ _ _
 refine wpAny_bind (wpAny_seqItems et dt ?_)
 simp only[hv,Int.toNat_natCast]
 refine wpAny_bind (wpAny_setField ej dj (by simp) (wpAny_pure ⟨v,rfl,wpAny_pure (q _ ?_ (Heap.SameBut.update ..))⟩))
 refine⟨_,Heap.get?_update_self _ ej (Obj.isFreed_of_fields (Obj.data_mapFields dj _)),(Obj.cls_mapFields ..).trans cj, ?_⟩
 rw[Obj.data_mapFields dj];simp[rawInt]
theorem Ot {j t:Addr}{k:Nat}{vs:Array Value}{Q:Value->Shared->Prop} (hA:A.handled=none) (hj:IsTupIter s.heap j t k) (ht:IsTup s.heap t vs) (hv:vs[k]? =none)
 (q:∀g b,Heap.ExtBut j s.heap g->(∃ob,g.get? b=some ob/\ob.cls= .type "StopIteration")->E (.ref b) {s with heap:=g}):wpAny (model prog w) A (Builtin.SmallTypes.nextOf (.ref j)) Q E s:=by
 have ty:=hj.typeIs
 obtain⟨oj,ej,cj,dj⟩:=hj
 obtain⟨ot,et,_,nt,dt⟩:=ht
 unfold Builtin.SmallTypes.nextOf
 refine wpAny_bind (wpAny_callSpecial?_slot (name:=Str.ofString "__next__") ty slot_tupleiter_next (wpAny_call_entry slot_tupleiter_next ty entry_tupleiter_next ?_ (args_tupleiter_next _)))
 show wpAny _ _ (field (.ref j) 0>>=_) _ _ s
 refine wpAny_bind (wpAny_field ej dj (x:= .ref t) rfl ?_)
 show wpAny _ _ (if(Value.ref t==Value.none)=true then _ else _) _ _ _
 rw[if_neg (by intro z;cases z)]
 show wpAny _ _ (field (.ref j) 1>>=_) _ _ s
 refine wpAny_bind (wpAny_field ej dj (x:= .int k 0) rfl ?_)
 show wpAny _ _ (seqItems? (.ref t)>>=_) _ _ _
 refine wpAny_bind (wpAny_seqItems et dt ?_)
 simp only[hv,Int.toNat_natCast]
 refine wpAny_bind (wpAny_rule (wpAny_bind (wpAny_setField ej dj (by simp) ?_)))
 show wpAny _ _ (newExc (.type "StopIteration") []>>=_) _ _ _
 refine wpAny_bind ?_
 simp only[newTuple,newExc]
 refine wpAny_bind (wpAny_newObj_type ?_ (by size_fits))
 refine wpAny_bind (m:=firstArgMember _ _) (wpAny_of_eq (a:=Value.none) (by first | rfl | (unfold firstArgMember;rfl)) ?_)
 refine wpAny_newObj_type ?_ (by size_fits)
 simp only[raiseNew]
 refine wpAny_bind (wpAny_handled ?_)
 first | rw[hA] | rw[show A.in1.handled=none from hA]
 exact wpAny_bind (wpAny_pure (wpAny_throw (q _ _ (((Heap.SameBut.update ..).extBut.push _).push _) ⟨_,Heap.get?_push_size _ rfl,rfl⟩)))
theorem R8 {z TI TO i j a b:Addr}{k:Nat}{xs ys:Array Value}{x y p q:Value}{Q:Value->Shared->Prop} (D:ZipApart z TI TO i j a b)
 (ez:IsZip s.heap z TI TO .none) (eI:IsPair s.heap TI (.ref i) (.ref j)) (eO:IsPair s.heap TO p q) (ei:IsTupIter s.heap i a k) (ej:IsTupIter s.heap j b k) (ea:IsTup s.heap a xs) (eb:IsTup s.heap b ys)
 (hx:xs[k]? =some x) (hy:ys[k]? =some y)
 (r:∀g,IsZip g z TI TO (rawInt s.heap.objs.size)->IsPair g TO x y->IsTupIter g i a (k+1)->IsTupIter g j b (k+1)->IsPair g s.heap.objs.size x y->g.objs.size=s.heap.objs.size+1->
   (∀c o,c∉[z,TO,i,j]->s.heap.get? c=some o->g.get? c=some o)->Q (.ref s.heap.objs.size) {s with heap:=g}):
 wpAny (model prog w) A (Builtin.«zip.__next__» ⟨[.ref z],[]⟩) (fun f s'=>∃v,f= .done (.ret v)/\Q v s') E s:=by
 show wpAny _ _ (field (.ref z) 2>>=_) _ _ s
 refine wpAny_bind (wpAny_field ez rfl (x:= .bool false) rfl ?_)
 show wpAny _ _ (field (.ref z) 3>>=_) _ _ s
 refine wpAny_bind (wpAny_field ez rfl (x:= .ref TI) rfl (wpAny_bind (wpAny_seqItems eI rfl ?_)))
 show wpAny _ _ (Builtin.SmallTypes.ownedTupleIsFree (.ref z)>>=_) _ _ s
 refine wpAny_bind ?_
 unfold Builtin.SmallTypes.ownedTupleIsFree;refine wpAny_bind (wpAny_field ez rfl (x:= .none) rfl (wpAny_pure ?_))
 simp only[if_true]
 refine wpAny_bind (wpAny_rule (wpAny_bind (wpAny_field ez rfl (x:= .ref TO) rfl (wpAny_bind (wpAny_setField_rec ez (by simp) fun g1 z1 b1=> ?_)))))
 have z1':IsZip g1 z TI TO .ellipsis:=z1
 refine wpAny_bind ?_
 simp only[List.forIn_cons,List.forIn_nil,List.zipIdx_cons,List.zipIdx_nil]
 refine wpAny_bind (wpAny_bind (wpAny_onRaise ?_))
 show wpAny _ _ (Builtin.SmallTypes.nextOf (.ref i)>>=_) _ _ _
 refine wpAny_bind (Jb (ei.extBut b1.extBut D.i1z) (ea.extBut b1.extBut D.l1z) hx fun g2 i2 b2=>wpAny_pure ?_)
 have o2:IsPair g2 TO p q:=b2.extBut _ _ D.TOi1 (b1.extBut _ _ D.TOz eO)
 refine wpAny_bind (wpAny_seqItems o2 rfl (wpAny_bind (wpAny_updateSeq_pair o2 fun g3 o3 b3=> ?_)))
 have o3':IsPair g3 TO x q:=o3
 refine wpAny_bind (wpAny_letGo (wpAny_pure (wpAny_bind (wpAny_bind (wpAny_onRaise ?_)))))
 show wpAny _ _ (Builtin.SmallTypes.nextOf (.ref j)>>=_) _ _ _
 refine wpAny_bind (Jb (((ej.extBut b1.extBut D.i2z).extBut b2.extBut D.i12.symm).extBut b3.extBut D.TOi2.symm) (((eb.extBut b1.extBut D.l2z).extBut b2.extBut D.l2i1).extBut b3.extBut D.l2TO) hy fun g4 j4 b4=>wpAny_pure ?_)
 have o4:IsPair g4 TO x q:=b4.extBut _ _ D.TOi2 o3'
 refine wpAny_bind (wpAny_seqItems o4 rfl (wpAny_bind (wpAny_updateSeq_pair o4 fun g5 o5 b5=> ?_)))
 have o5':IsPair g5 TO x y:=o5
 refine wpAny_bind (wpAny_letGo (wpAny_pure (wpAny_pure (wpAny_bind (wpAny_seqItems o5' rfl (wpAny_bind (wpAny_newTuple ?_)))))))
 have sz:g5.objs.size=s.heap.objs.size:=by rw[b5.1,b4.1,b3.1,b2.1,b1.1]
 have z5:IsZip g5 z TI TO .ellipsis:=b5.extBut _ _ D.TOz.symm (b4.extBut _ _ D.i2z.symm (b3.extBut _ _ D.TOz.symm (b2.extBut _ _ D.i1z.symm z1')))
 have k5:∀c o,c∉[z,TO,i,j]->s.heap.get? c=some o->g5.get? c=some o:=fun c o hc e=>by
  simp only[List.mem_cons,List.not_mem_nil,or_false,not_or] at hc
  exact b5.extBut _ _ hc.2.1 (b4.extBut _ _ hc.2.2.2 (b3.extBut _ _ hc.2.1 (b2.extBut _ _ hc.2.2.1 (b1.extBut _ _ hc.1 e))))
 have i5:IsTupIter g5 i a (k+1):=((i2.extBut b3.extBut D.TOi1.symm).extBut b4.extBut D.i12).extBut b5.extBut D.TOi1.symm
 have j5:IsTupIter g5 j b (k+1):=j4.extBut b5.extBut D.TOi2.symm
 have lz:g5.objs.size≠z:=Nat.ne_of_gt (Heap.lt_size z5)
 show wpAny _ _ (Builtin.SmallTypes.ownedTupleHandOut (.ref z) (.ref g5.objs.size)>>=_) _ _ _
 refine wpAny_bind ?_
 unfold Builtin.SmallTypes.ownedTupleHandOut;refine wpAny_bind (wpAny_setField_rec (Heap.get?_push_of_some _ z5) (by simp) fun g7 z7 b7=> ?_)
 have z7':IsZip g7 z TI TO (rawInt g5.objs.size):=z7
 refine wpAny_setField_rec z7' (by simp) fun g8 z8 b8=> ?_
 have z8':IsZip g8 z TI TO (rawInt g5.objs.size):=z8
 have up:∀c o,c≠z->g5.get? c=some o->g8.get? c=some o:=fun c o hc e=>b8.extBut _ _ hc (b7.extBut _ _ hc (Heap.get?_push_of_some _ e))
 have t8:IsPair g8 g5.objs.size x y:=b8.extBut _ _ lz (b7.extBut _ _ lz (Heap.get?_push_size _ rfl))
 have s8:g8.objs.size=g5.objs.size+1:=by rw[b8.1,b7.1,Heap.size_push]
 rw[sz] at z8' t8 s8
 refine wpAny_pure ⟨_,rfl, ?_⟩
 show Q (.ref g5.objs.size) _
 rw[sz]
 obtain⟨oi,qi,ri⟩:=i5
 obtain⟨oj,qj,rj⟩:=j5
 exact r g8 z8' (up _ _ D.TOz o5') ⟨oi,up _ _ D.i1z qi,ri⟩ ⟨oj,up _ _ D.i2z qj,rj⟩ t8 s8 fun c o hc e=>up c o (fun h=>hc (by simp[h])) (k5 c o hc e)
theorem R9 {z TI TO i j a b:Addr}{k:Nat}{xs ys:Array Value}{p q:Value}{Q:Fin->Shared->Prop} (hA:A.handled=none) (D:ZipApart z TI TO i j a b)
 (ez:IsZip s.heap z TI TO .none) (eI:IsPair s.heap TI (.ref i) (.ref j)) (eO:IsPair s.heap TO p q) (ei:IsTupIter s.heap i a k) (ej:IsTupIter s.heap j b k) (ea:IsTup s.heap a xs) (eb:IsTup s.heap b ys)
 (hend:xs[k]? =none\/ys[k]? =none)
 (r:∀g u,(∀c o,c∉[z,TO,i,j]->s.heap.get? c=some o->g.get? c=some o)->(∃o,g.get? u=some o/\o.cls= .type "StopIteration")->E (.ref u) {s with heap:=g}):
 wpAny (model prog w) A (Builtin.«zip.__next__» ⟨[.ref z],[]⟩) Q E s:=by
 show wpAny _ _ (field (.ref z) 2>>=_) _ _ s
 refine wpAny_bind (wpAny_field ez rfl (x:= .bool false) rfl ?_)
 show wpAny _ _ (field (.ref z) 3>>=_) _ _ s
 refine wpAny_bind (wpAny_field ez rfl (x:= .ref TI) rfl (wpAny_bind (wpAny_seqItems eI rfl ?_)))
 show wpAny _ _ (Builtin.SmallTypes.ownedTupleIsFree (.ref z)>>=_) _ _ s
 refine wpAny_bind ?_
 unfold Builtin.SmallTypes.ownedTupleIsFree;refine wpAny_bind (wpAny_field ez rfl (x:= .none) rfl (wpAny_pure ?_))
 simp only[if_true]
 refine wpAny_bind (wpAny_rule (wpAny_bind (wpAny_field ez rfl (x:= .ref TO) rfl (wpAny_bind (wpAny_setField_rec ez (by simp) fun g1 z1 b1=> ?_)))))
 have z1':IsZip g1 z TI TO .ellipsis:=z1
 refine wpAny_bind ?_
 simp only[List.forIn_cons,List.forIn_nil,List.zipIdx_cons,List.zipIdx_nil]
 refine wpAny_bind (wpAny_bind (wpAny_onRaise ?_))
 show wpAny _ _ (Builtin.SmallTypes.nextOf (.ref i)>>=_) _ _ _
 have nz:∀{g:Heap}{u o},IsZip g z TI TO .ellipsis->g.get? u=some o->o.cls= .type "StopIteration"->u≠z:=fun hz hu hc h=>by subst h;rw[hz] at hu;cases hu;simp at hc
 cases hx:xs[k]? with
 | none=>
   refine wpAny_bind (Ot hA (ei.extBut b1.extBut D.i1z) (ea.extBut b1.extBut D.l1z) hx fun g2 u b2 ⟨ou,hou,hcu⟩=> ?_)
   have z2:IsZip g2 z TI TO .ellipsis:=b2 _ _ D.i1z.symm z1'
   refine wpAny_setField_rec z2 (by simp) fun g3 _ b3=>r g3 u (fun c o hc e=> ?_) ⟨ou,b3.extBut _ _ (nz z2 hou hcu) hou,hcu⟩
   simp only[List.mem_cons,List.not_mem_nil,or_false,not_or] at hc
   exact b3.extBut _ _ hc.1 (b2 _ _ hc.2.2.1 (b1.extBut _ _ hc.1 e))
 | some x=>
   have hy:ys[k]? =none:=by rcases hend with h | h;exact absurd (hx.symm.trans h) (by simp);exact h
   refine wpAny_bind (Jb (ei.extBut b1.extBut D.i1z) (ea.extBut b1.extBut D.l1z) hx fun g2 i2 b2=>wpAny_pure ?_)
   have o2:IsPair g2 TO p q:=b2.extBut _ _ D.TOi1 (b1.extBut _ _ D.TOz eO)
   refine wpAny_bind (wpAny_seqItems o2 rfl (wpAny_bind (wpAny_updateSeq_pair o2 fun g3 o3 b3=> ?_)))
   refine wpAny_bind (wpAny_letGo (wpAny_pure (wpAny_bind (wpAny_bind (wpAny_onRaise ?_)))))
   show wpAny _ _ (Builtin.SmallTypes.nextOf (.ref j)>>=_) _ _ _
   refine wpAny_bind (Ot hA (((ej.extBut b1.extBut D.i2z).extBut b2.extBut D.i12.symm).extBut b3.extBut D.TOi2.symm) (((eb.extBut b1.extBut D.l2z).extBut b2.extBut D.l2i1).extBut b3.extBut D.l2TO) hy fun g4 u b4 ⟨ou,hou,hcu⟩=> ?_)
   have z4:IsZip g4 z TI TO .ellipsis:=b4 _ _ D.i2z.symm (b3.extBut _ _ D.TOz.symm (b2.extBut _ _ D.i1z.symm z1'))
   refine wpAny_setField_rec z4 (by simp) fun g5 _ b5=>r g5 u (fun c o hc e=> ?_) ⟨ou,b5.extBut _ _ (nz z4 hou hcu) hou,hcu⟩
   simp only[List.mem_cons,List.not_mem_nil,or_false,not_or] at hc
   exact b5.extBut _ _ hc.1 (b4 _ _ hc.2.2.2 (b3.extBut _ _ hc.2.1 (b2.extBut _ _ hc.2.2.1 (b1.extBut _ _ hc.1 e))))
end
abbrev tzA (g:Heap) (a:Addr):Heap:=g.push {cls:= .type "tuple_iterator",data:= .fields #[.ref a, .int 0 0]}
abbrev tzB (g:Heap) (a b:Addr):Heap:=(tzA g a).push {cls:= .type "tuple_iterator",data:= .fields #[.ref b, .int 0 0]}
abbrev tzC (g:Heap) (a b:Addr):Heap:=(tzB g a b).push {cls:= .type "tuple",data:= .seq #[.ref g.objs.size, .ref (tzA g a).objs.size]}
abbrev tzD (g:Heap) (a b:Addr):Heap:=(tzC g a b).push {cls:= .type "tuple",data:= .seq #[.none, .none]}
abbrev tzE (g:Heap) (a b:Addr):Heap:=(tzD g a b).push {cls:= .type "zip",data:= .fields #[.none, .bool false, .bool false, .ref (tzB g a b).objs.size, .ref (tzC g a b).objs.size]}
theorem Sg (a b:Addr) (xs ys:Array Value):
 Meets (Builtin.«zip.__new__» ⟨[.type "zip", .ref a, .ref b],[]⟩) (fun _ R s=>IsTup s.heap a xs/\IsTup s.heap b ys/\
  R (.ok (.ret (.ref (tzD s.heap a b).objs.size))) {s with heap:=tzE s.heap a b}):=
 .of_wp fun prog w A R s h=>by
   obtain⟨hp,g,d,tk,os⟩:=s;obtain⟨ha,hb,h⟩:=h
   have hsub:=sub_zip
   have h1:IsTup (Shared.heap ⟨hp,g,d,tk,os⟩) a xs:=ha
   have h2:IsTup (Shared.heap ⟨hp.push {cls:= .type "tuple_iterator",data:= .fields #[.ref a, .int 0 0]},g,d,tk,os⟩) b ys:=hb.push _
   wp_walk using iter_tuple h1,iter_tuple h2
   exact⟨_,rfl,h⟩
section
variable {prog:Program}{w:World}{A:Around}{E:Value->Shared->Prop}{s:Shared}
theorem V2 {a b:Addr}{xs ys:Array Value}{Q:Value->Shared->Prop} (ha:IsTup s.heap a xs) (hb:IsTup s.heap b ys)
 (q:∀g n,n=s.heap.objs.size->IsZip g (n+4) (n+2) (n+3) .none->IsPair g (n+2) (.ref n) (.ref (n+1))->
   IsPair g (n+3) .none .none->IsTupIter g n a 0->IsTupIter g (n+1) b 0->
   (∀c o,s.heap.get? c=some o->g.get? c=some o)->Q (.ref (n+4)) {s with heap:=g}):
 wpAny (model prog w) A (call (.type "zip") [.ref a, .ref b]) Q E s:=by
 refine callType_new F.called_zip (by decide) (F.typeCall_zip_2 _ _) (F.newCall_zip_2 _ _) (fun obj=>F.args_object_init_3 obj _ _) F.entry_zip_new
  (Sg a b xs ys) ⟨ha,hb, ?_⟩
 have n1:(tzA s.heap a).objs.size=s.heap.objs.size+1:=Heap.size_push ..
 have n2:(tzB s.heap a b).objs.size=s.heap.objs.size+2:=by rw[Heap.size_push,n1]
 have n3:(tzC s.heap a b).objs.size=s.heap.objs.size+3:=by rw[Heap.size_push,n2]
 have n4:(tzD s.heap a b).objs.size=s.heap.objs.size+4:=by rw[Heap.size_push,n3]
 have e5:(tzE s.heap a b).get? (tzD s.heap a b).objs.size=some _:=Heap.get?_push_size _ rfl
 have e4:(tzE s.heap a b).get? (tzC s.heap a b).objs.size=some _:=Heap.get?_push_of_some _ (Heap.get?_push_size _ rfl)
 have e3:(tzE s.heap a b).get? (tzB s.heap a b).objs.size=some _:=Heap.get?_push_of_some _ (Heap.get?_push_of_some _ (Heap.get?_push_size _ rfl))
 have e2:(tzE s.heap a b).get? (tzA s.heap a).objs.size=some _:=Heap.get?_push_of_some _ (Heap.get?_push_of_some _ (Heap.get?_push_of_some _ (Heap.get?_push_size _ rfl)))
 have e1:(tzE s.heap a b).get? s.heap.objs.size=some _:=Heap.get?_push_of_some _ (Heap.get?_push_of_some _ (Heap.get?_push_of_some _ (Heap.get?_push_of_some _ (Heap.get?_push_size _ rfl))))
 show _/\_
 rw[n2,n3,n4] at e5
 rw[n3] at e4
 rw[n1,n2] at e3
 rw[n1] at e2
 rw[n4]
 exact⟨⟨_,e5,rfl⟩,q _ _ rfl e5 e3 e4 ⟨_,e1,rfl,rfl⟩ ⟨_,e2,rfl,rfl⟩ fun c o x=>
  Heap.get?_push_of_some _ (Heap.get?_push_of_some _ (Heap.get?_push_of_some _ (Heap.get?_push_of_some _ (Heap.get?_push_of_some _ x))))⟩
theorem V3 {z TI TO i j a b:Addr}{k:Nat}{xs ys:Array Value}{x y p q:Value}{Q:Option Value->Shared->Prop} (D:ZipApart z TI TO i j a b)
 (ez:IsZip s.heap z TI TO .none) (eI:IsPair s.heap TI (.ref i) (.ref j)) (eO:IsPair s.heap TO p q) (ei:IsTupIter s.heap i a k) (ej:IsTupIter s.heap j b k) (ea:IsTup s.heap a xs) (eb:IsTup s.heap b ys)
 (hx:xs[k]? =some x) (hy:ys[k]? =some y)
 (r:∀g,IsZip g z TI TO (rawInt s.heap.objs.size)->IsPair g TO x y->IsTupIter g i a (k+1)->IsTupIter g j b (k+1)->IsPair g s.heap.objs.size x y->g.objs.size=s.heap.objs.size+1->
   (∀c o,c∉[z,TO,i,j]->s.heap.get? c=some o->g.get? c=some o)->Q (some (.ref s.heap.objs.size)) {s with heap:=g}):
 wpAny (model prog w) A (pyNext (.ref z)) Q E s:=by
 have ty:s.TypeIs (.ref z) "zip":=⟨_,ez,rfl⟩
 unfold pyNext
 exact wpAny_bind (wpAny_attempt (wpAny_callSpecial?_slot (name:=Str.ofString "__next__") ty F.slot_zip_next (wpAny_call_entry F.slot_zip_next ty F.entry_zip_next
  (R8 D ez eI eO ei ej ea eb hx hy fun g a1 a2 a3 a4 a5 a6 a7=>wpAny_pure (r g a1 a2 a3 a4 a5 a6 a7)) (F.args_zip_next_1 _))))
theorem aaK {z TI TO i j a b:Addr}{k:Nat}{xs ys:Array Value}{p q:Value}{Q:Option Value->Shared->Prop} (hA:A.handled=none) (D:ZipApart z TI TO i j a b)
 (ez:IsZip s.heap z TI TO .none) (eI:IsPair s.heap TI (.ref i) (.ref j)) (eO:IsPair s.heap TO p q) (ei:IsTupIter s.heap i a k) (ej:IsTupIter s.heap j b k) (ea:IsTup s.heap a xs) (eb:IsTup s.heap b ys)
 (hend:xs[k]? =none\/ys[k]? =none)
 (r:∀g,(∀c o,c∉[z,TO,i,j]->s.heap.get? c=some o->g.get? c=some o)->Q none {s with heap:=g}):
 wpAny (model prog w) A (pyNext (.ref z)) Q E s:=by
 have ty:s.TypeIs (.ref z) "zip":=⟨_,ez,rfl⟩
 unfold pyNext
 refine wpAny_bind (wpAny_attempt (wpAny_callSpecial?_slot (name:=Str.ofString "__next__") ty F.slot_zip_next (wpAny_call_entry F.slot_zip_next ty F.entry_zip_next
  (R9 hA D ez eI eO ei ej ea eb hend fun g u hk ⟨o,ho,hc⟩=> ?_) (F.args_zip_next_1 _))))
 exact wpAny_bind (wpAny_isInstance (T:="StopIteration") (b:=true) ⟨o,ho,hc⟩ isSubtype_stop (wpAny_pure (r _ hk)))
end
def aaL (K:PySem.W.Frag) (l1 l2:Addr):It:=
 ⟨fun i H=>∃xs ys x y,SqT K H l1 xs/\SqT K H l2 ys/\xs[i]? =some x/\ys[i]? =some y,
  fun i H v H'=>∃T x y,v= .ref T/\H T=none/\H'=upd H T (.tup [x,y])/\(∀xs,SqT K H l1 xs->xs[i]? =some x)/\∀ys,SqT K H l2 ys->ys[i]? =some y,
  fun i H=>∃xs ys,SqT K H l1 xs/\SqT K H l2 ys/\min xs.length ys.length=i⟩
theorem V4 {P:Program}{w:World}{K:PySem.W.Frag}{elts:List Expr}{k:Nat}{pos:Pos} (z TI TO i1 i2 l1 l2:Addr) (D:ZipApart z TI TO i1 i2 l1 l2):
 Turn P w K (.Tuple elts k pos) (aaL K l1 l2) [z,TI,TO,i1,i2] z (fun i h=>IsZip h z TI TO .none/\IsPair h TI (.ref i1) (.ref i2)/\(∃a b,IsPair h TO a b)/\IsTupIter h i1 l1 i/\IsTupIter h i2 l2 i) where
 mem:=by simp
 obj:=fun i h st b hb=>by
  obtain⟨h1,h2,⟨a,c,h3⟩,⟨o4,e4,_,d4⟩,⟨o5,e5,_,d5⟩⟩:=st
  have hb':b=z\/b=TI\/b=TO\/b=i1\/b=i2:=by simpa using hb
  rcases hb' with rfl | rfl | rfl | rfl | rfl
  ·exact⟨_,h1,fun v e=>by cases e⟩
  ·exact⟨_,h2,fun v e=>by cases e⟩
  ·exact⟨_,h3,fun v e=>by cases e⟩
  ·exact⟨o4,e4,fun v e=>by rw[d4] at e;cases e⟩
  ·exact⟨o5,e5,fun v e=>by rw[d5] at e;cases e⟩
 keep:=fun i h h' st kp=>by
  obtain⟨h1,h2,⟨a,c,h3⟩,⟨o4,e4,r4⟩,⟨o5,e5,r5⟩⟩:=st
  exact⟨kp z (by simp) _ h1,kp TI (by simp) _ h2,⟨a,c,kp TO (by simp) _ h3⟩,⟨o4,kp i1 (by simp) _ e4,r4⟩,⟨o5,kp i2 (by simp) _ e5,r5⟩⟩
 item:=by
  intro X hP hw hK hc i pins s σ H E I hf st hg
  subst hP hw hK
  obtain⟨xs,ys,x,y,hq1,hq2,hx,hy⟩:=hg
  obtain⟨adC,rv1,p1,hz1⟩:=I.tuple hq1
  obtain⟨its2,rv2,p2,hz2⟩:=I.tuple hq2
  obtain⟨u1,hu1,ru1⟩:=rv1.get hx
  obtain⟨u2,hu2,ru2⟩:=rv2.get hy
  obtain⟨s1,s2,⟨a3,b3,s3⟩,s4,s5⟩:=st
  refine V3 D s1 s2 s3 s4 s5 p1 p2 (x:=u1) (y:=u2) (by simpa using hu1) (by simpa using hu2) fun g t1 t3 t4 t5 isT sz kp=> ?_
  have sub:∀c∈[z,TO,i1,i2],c∈[z,TI,TO,i1,i2]:=fun c hc=>by
   have:c=z\/c=TO\/c=i1\/c=i2:=by simpa using hc
   rcases this with rfl | rfl | rfl | rfl<;>simp
  have tI:IsPair g TI (.ref i1) (.ref i2):=kp TI _ (by simp[D.TIz,D.TITO,D.TIi1,D.TIi2]) s2
  refine⟨.ref s.heap.objs.size,rfl,wpAny_letOwnedTupleGo_zip t1 fun h3 t1' b3'=> ?_⟩
  have kp3:∀c o,c∉[z,TO,i1,i2]->s.heap.get? c=some o->h3.get? c=some o:=fun c o hc e=>b3'.extBut _ _ (fun h=>hc (by simp[h])) (kp c o hc e)
  have J:Inv X pins σ H {s with heap:=h3,toks:=s.toks}:=I.Dz (ch:=[z,TO,i1,i2]) (fun b hb=>hf b (sub b hb)) kp3
  have hT0:H s.heap.objs.size=none:=I.hok.fresh (Nat.le_refl _)
  have nT:s.heap.objs.size∉[z,TI,TO,i1,i2]:=fun hm=>by
   obtain⟨o,e⟩:∃o,s.heap.get? s.heap.objs.size=some o:=by
    have:s.heap.objs.size=z\/s.heap.objs.size=TI\/s.heap.objs.size=TO\/s.heap.objs.size=i1\/s.heap.objs.size=i2:=by simpa using hm
    obtain⟨o4,e4,_⟩:=s4
    obtain⟨o5,e5,_⟩:=s5
    rcases this with h | h | h | h | h
    ·exact⟨_,h▸s1⟩
    ·exact⟨_,h▸s2⟩
    ·exact⟨_,h▸s3⟩
    ·exact⟨_,h▸e4⟩
    ·exact⟨_,h▸e5⟩
   exact absurd (Heap.lt_size e) (Nat.lt_irrefl _)
  have aaM:IsTup h3 s.heap.objs.size #[u1,u2]:=⟨_,b3'.extBut _ _ (fun h=>nT (by simp[h])) isT,rfl,_,rfl⟩
  have fp:=I.JV (H':=H) (Nat.le_refl _) hT0
  refine⟨.ref s.heap.objs.size,upd H s.heap.objs.size (.tup [x,y]),J.track hT0 ?_ fp.2.1 fp.2.2.2.2.1 fp.2.2.2.2.2 ?_,rfl,⟨_,x,y,rfl,hT0,rfl,fun zs hs=>by rw[I.G5 hs hq1];exact hx,fun zs hs=>by rw[I.G5 hs hq2];exact hy⟩,
   ⟨t1',b3'.extBut _ _ D.TIz tI,⟨_,_,b3'.extBut _ _ D.TOz t3⟩,t4.extBut b3'.extBut D.i1z,t5.extBut b3'.extBut D.i2z⟩,fun b hb=> ?_⟩
  ·cases e:X.s₀.heap.get? s.heap.objs.size with
   | none=>rfl
   | some o=>exact absurd (Heap.lt_size e) (Nat.not_lt.mpr I.sz)
  ·exact⟨by show 2<=sizeLine;rw[sizeLine_eq];decide,[u1,u2], .cons ru1 (.cons ru2 .nil),aaM⟩
  ·have nb:b≠s.heap.objs.size:=fun e=>nT (by rw[<-e];exact hb)
   rw[ao nb];exact(hf b hb).1
 done:=by
  intro X hP hw hK hc i pins s σ H E I hf st hg
  subst hP hw hK
  obtain⟨xs,ys,hq1,hq2,hi⟩:=hg
  obtain⟨adC,rv1,p1,hz1⟩:=I.tuple hq1
  obtain⟨its2,rv2,p2,hz2⟩:=I.tuple hq2
  obtain⟨s1,s2,⟨a3,b3,s3⟩,s4,s5⟩:=st
  have e1:=rv1.length
  have e2:=rv2.length
  refine aaK (I.ok.hd hc) D s1 s2 s3 s4 s5 p1 p2 ?_ fun g kp=>⟨rfl,I.Dz (t':=s.toks) (ch:=[z,TO,i1,i2]) (fun b hb=>hf b ?_) kp⟩
  ·rcases Nat.le_total xs.length ys.length with h | h
   ·exact .inl (by simp;omega)
   ·exact .inr (by simp;omega)
  ·have:b=z\/b=TO\/b=i1\/b=i2:=by simpa using hb
   rcases this with rfl | rfl | rfl | rfl<;>simp
 self:=fun _ _ _ _ _ st h=>wpAny_pyIter_zip st.1 h
def Yb (K:PySem.W.Frag) (ta:TA):TI:=fun σ H R=>ta σ H fun vs H1=>∃l1 l2,vs=[.ref l1, .ref l2]/\(∃xs,SqT K H1 l1 xs)/\(∃ys,SqT K H1 l2 ys)/\R (aaL K l1 l2) H1
theorem V5 {X:Cx}{elts:List Expr}{k:Nat}{tp:Pos}{a b:Expr}{ta:TA}{p pos:Pos} (hg:Gl X "zip") (hm:X.mg "zip"=none) (ha:PA X [a,b] ta) (hs:starEach [a,b] X.env=[(false,eval a X.env),(false,eval b X.env)]:=by rfl) (hs2:starEach [b] X.env=[(false,eval b X.env)]:=by rfl):
 PI X (.Tuple elts k tp) (.Call (.Name "zip" p) [a,b] [] pos) (Yb X.K ta):=by
 intro pins s σ H R I h
 refine Call_ (yD I hg hm aak (PyProof.Rows.callWith_type1 (thn (ha pos pins s σ H _ I h) fun us s1 ⟨vs,H1,I1,r1,q1⟩=> ?_) (by rw[hs,hs2]) (by rw[hs2];rfl)))
 obtain⟨l1,l2,rfl,⟨xs,hq1⟩,⟨ys,hq2⟩,q⟩:=q1
 obtain⟨u,v,rfl,ru,rv⟩:=vals2 r1
 cases ru
 cases rv
 obtain⟨adC,_,p1,_⟩:=I1.tuple hq1
 obtain⟨its2,_,p2,_⟩:=I1.tuple hq2
 have D:=PySem.W.ktu_apart s1.heap.objs.size l1 l2 p1.lt p2.lt
 refine V2 p1 p2 fun h5 n en hz hTI hTO hi1 hi2 kp=> ?_
 subst en
 refine wpAny_pyIter_zip hz ?_
 have I2:Inv X pins σ H1 {s1 with heap:=h5}:=I1.kept (t':=s1.toks) kp
 refine⟨s1.heap.objs.size+4,[s1.heap.objs.size+4,s1.heap.objs.size+2,s1.heap.objs.size+3,s1.heap.objs.size,s1.heap.objs.size+1],_,_,H1,rfl,I2,V4 _ _ _ _ _ l1 l2 D,⟨hz,hTI,⟨_,_,hTO⟩,hi1,hi2⟩,fun b hb=> ?_,q⟩
 have hle:s1.heap.objs.size<=b:=by
  have:b=s1.heap.objs.size+4\/b=s1.heap.objs.size+2\/b=s1.heap.objs.size+3\/b=s1.heap.objs.size\/b=s1.heap.objs.size+1:=by simpa using hb
  rcases this with rfl | rfl | rfl | rfl | rfl<;>first | exact Nat.le_refl _ | exact Nat.le_add_right _ _
 exact I1.JV hle (I1.hok.fresh hle)
theorem V6 {X:Cx}{elts:List Expr}{k:Nat}{tp:Pos}{a b:Expr}{ta:TA}{p pos:Pos} (hg:Gl X "zip") (hm:X.mg "zip"=none) (ha:QA X [a,b] ta) (hs:starEach [a,b] X.env=[(false,eval a X.env),(false,eval b X.env)]:=by rfl) (hs2:starEach [b] X.env=[(false,eval b X.env)]:=by rfl):
 QI X (.Tuple elts k tp) (.Call (.Name "zip" p) [a,b] [] pos) (Yb X.K ta):=⟨V5 hg hm ha.h hs hs2⟩
theorem Qo {K:PySem.W.Frag}{a b:Addr}{xs ys:List V}{g:TG}{tc:TT}{te:TE}{σ:St}{H:Hp}{D:Addr}{Q:VK} (Pv:Nat->St->Hp->Prop) (hxy:xs.length=ys.length) (h0:Pv 0 σ (upd H D (.lst [])))
 (hl:∀i σ H,i<=xs.length->Pv i σ H->SqT K H a xs/\SqT K H b ys)
 (hs:∀i x y T σ' H',xs[i]? =some x->ys[i]? =some y->Pv i σ' H'->H' T=none->g (.ref T) σ' (upd H' T (.tup [x,y])) fun σ3 H3=>tc σ3 H3 fun b H4=>
   if b=true then te σ3 H4 fun y H5=>∃ys,H5 D=some (.lst ys)/\ys.length<sizeLine/\Pv (i+1) σ3 (upd H5 D (.lst (ys++[y]))) else Pv (i+1) σ3 H4) (hd:∀σ' H',Pv xs.length σ' H'->Q (.ref D) H'):
 Eh (aaL K a b) g tc te D σ (upd H D (.lst [])) Q:=by
 refine⟨fun i m σ H=>m=xs.length - i/\i<=xs.length/\Pv i σ H,⟨xs.length,by simp,Nat.zero_le _,h0⟩, ?_⟩
 rintro i m σ H ⟨rfl,hi,p⟩
 have q:=hl i σ H hi p
 by_cases hlt:i<xs.length
 ·refine .inr ⟨⟨xs,ys,xs[i],ys[i]'(hxy▸hlt),q.1,q.2,by simp[hlt],by simp[hxy▸hlt]⟩,Pv (i+1),fun σ' H' p'=>⟨xs.length - (i+1),by omega,rfl,hlt,p'⟩,fun v H' y=> ?_⟩
  obtain⟨T,x,y',rfl,hT,rfl,y1,y2⟩:=y
  exact hs i x y' T σ _ (y1 xs q.1) (y2 ys q.2) p hT
 ·have e:i=xs.length:=by omega
  subst e
  exact .inl ⟨⟨xs,ys,q.1,q.2,by omega⟩,hd σ H p⟩
end L2
namespace RB
open PySem PySem.Spec PyProof.Rows L2
mutual
def dI:Th->Th->Bool
 | .tup xs, .tup ys=>jE xs ys
 | .int i, .int j=>decide (i=j)
 | .str x, .str y=>decide (x=y)
 | _,_=>false
def jE:List Th->List Th->Bool
 |[],[]=>true
 | x::xs,y::ys=>dI x y&&jE xs ys
 | _,_=>false
end
def DpT:Nat->Th->Prop
 | 0, .tup _=>False
 | d+1, .tup ts=>ts.length<=1000/\∀t∈ts,DpT d t
 | _,_=>True
theorem EY:∀{xs ys:List Th},xs.length≠ys.length->jE xs ys=false
 |[],[],h=>absurd rfl h
 |[],_::_,_=>by simp[jE]
 | _::_,[],_=>by simp[jE]
 | x::xs,y::ys,h=>by
   have:jE xs ys=false:=EY (by simpa using h)
   simp[jE,this]
theorem Fb:∀{xs ys:List Th},xs.length=ys.length->jE xs ys=((List.zipWith dI xs ys).all id)
 |[],[],_=>by simp[jE]
 | x::xs,y::ys,h=>by
   have:jE xs ys=((List.zipWith dI xs ys).all id):=Fb (by simpa using h)
   simp[jE,this]
def Jc (K:PySem.W.Frag) (d:Nat):Sp:=fun vs H Q _=>∃v t v' t',vs=[v,v']/\o7 K H v t/\o7 K H v' t'/\DpT d t/\∀H',aN H H'->Q (.bl (dI t t')) H'
theorem mH.at {K:PySem.W.Frag}{H:Hp}{vs:List V}{ts:List Th}{i:Nat}{v:V} (h:mH K H vs ts) (e:vs[i]? =some v):∃(hi:i<ts.length),o7 K H v ts[i]:=by
 obtain⟨t,et,r⟩:=h.get e
 obtain⟨hi,rfl⟩:=List.getElem?_eq_some_iff.mp et
 exact⟨hi,r⟩
theorem Qp {α β γ:Type} (f:α->β->γ) {xs:List α}{ys:List β}{i:Nat} (h1:i<xs.length) (h2:i<ys.length):(List.zipWith f xs ys).take i++[f xs[i] ys[i]]=(List.zipWith f xs ys).take (i+1):=by
 rw[List.take_add_one,List.getElem?_eq_getElem (by simp;omega),List.getElem_zipWith];rfl
end RB
namespace RB
open PySem L2 PySem.Spec PyProof.Rows
theorem DpT.mono:∀{d e:Nat}{t:Th},d<=e->DpT d t->DpT e t
 | 0,0,_,_,h=>h
 | 0,e+1,t,_,h=>by cases t<;>first | trivial | exact h.elim
 | d+1,0,_,hl,_=>absurd hl (by omega)
 | d+1,e+1,t,hl,h=>by
   cases t with
   | tup ts=>exact⟨h.1,fun t ht=>DpT.mono (by omega) (h.2 t ht)⟩
   | _=>trivial
theorem xO {d:Nat}{x:Str}:DpT d (.str x):=by cases d<;>trivial
theorem V7 {d:Nat}{i:Int}:DpT d (.int i):=by cases d<;>trivial
theorem R.dpT:∀(r:R),r.Eo->DpT (r.depth+1) r.fM
 | .num n,_=>⟨by simp,fun t ht=>by
   have:t= .str "number"\/t= .int n:=by simpa using ht
   rcases this with rfl | rfl<;>first | exact xO | exact V7⟩
 | .rd x,_=>⟨by simp,fun t ht=>by
   have:t= .str "read"\/t= .str x:=by simpa using ht
   rcases this with rfl | rfl<;>exact xO⟩
 | .bin op a b,h=>⟨by simp,fun t ht=>by
   have:t= .str op.word\/t=a.fM\/t=b.fM:=by simpa using ht
   have hd:(R.bin op a b).depth=max a.depth b.depth+1:=rfl
   rcases this with rfl | rfl | rfl
   ·exact xO
   ·exact(R.dpT a h.1).mono (by omega)
   ·exact(R.dpT b h.2).mono (by omega)⟩
 | .pick a b c,h=>⟨by simp,fun t ht=>by
   have:t= .str "pick"\/t=a.fM\/t=b.fM\/t=c.fM:=by simpa using ht
   have hd:(R.pick a b c).depth=max a.depth (max b.depth c.depth)+1:=rfl
   rcases this with rfl | rfl | rfl | rfl
   ·exact xO
   ·exact(R.dpT a h.1).mono (by omega)
   ·exact(R.dpT b h.2.1).mono (by omega)
   ·exact(R.dpT c h.2.2).mono (by omega)⟩
 | .cho a ns,h=>⟨by simp,fun t ht=>by
   have:t= .str "choose"\/t=a.fM\/t= .tup (ns.map Th.str):=by simpa using ht
   have hd:(R.cho a ns).depth=a.depth+1:=rfl
   rcases this with rfl | rfl | rfl
   ·exact xO
   ·exact(R.dpT a h.1).mono (by omega)
   ·refine⟨by have:=h.2;simp at *;omega,fun t ht=> ?_⟩
    obtain⟨x,_,rfl⟩:=List.mem_map.mp ht
    exact xO⟩
mutual
theorem Km:∀{t u:Th},dI t u=true->t=u
 | .tup xs, .tup ys,h=>by rw[dI] at h;rw[HD h]
 | .int i, .int j,h=>by rw[dI] at h;rw[of_decide_eq_true h]
 | .str x, .str y,h=>by rw[dI] at h;rw[of_decide_eq_true h]
 | .tup _, .non,h=>by simp[dI] at h
 | .tup _, .bl _,h=>by simp[dI] at h
 | .tup _, .int _,h=>by simp[dI] at h
 | .tup _, .str _,h=>by simp[dI] at h
 | .tup _, .oth _,h=>by simp[dI] at h
 | .int _, .non,h=>by simp[dI] at h
 | .int _, .bl _,h=>by simp[dI] at h
 | .int _, .tup _,h=>by simp[dI] at h
 | .int _, .str _,h=>by simp[dI] at h
 | .int _, .oth _,h=>by simp[dI] at h
 | .str _, .non,h=>by simp[dI] at h
 | .str _, .bl _,h=>by simp[dI] at h
 | .str _, .tup _,h=>by simp[dI] at h
 | .str _, .int _,h=>by simp[dI] at h
 | .str _, .oth _,h=>by simp[dI] at h
 | .non,u,h=>by simp[dI] at h
 | .bl _,u,h=>by simp[dI] at h
 | .oth _,u,h=>by simp[dI] at h
theorem HD:∀{ts us:List Th},jE ts us=true->ts=us
 |[],[],_=>rfl
 | x::xs,y::ys,h=>by
   rw[jE,Bool.and_eq_true] at h
   rw[Km h.1,HD h.2]
 |[],_::_,h=>by simp[jE] at h
 | _::_,[],h=>by simp[jE] at h
end
inductive PlT:Th->Prop where
 | int (i:Int):PlT (.int i)
 | str (x:Str):PlT (.str x)
 | tup {ts:List Th} (h:∀t∈ts,PlT t):PlT (.tup ts)
theorem CT:∀{ts:List Th},(∀t∈ts,dI t t=true)->jE ts ts=true
 |[],_=>by simp[jE]
 | x::xs,h=>by
   rw[jE,h x (by simp),CT fun t ht=>h t (by simp[ht])];rfl
theorem PlT.refl {t:Th} (h:PlT t):dI t t=true:=by
 induction h with
 | int i=>simp[dI]
 | str x=>simp[dI]
 | tup h ih=>rw[dI];exact CT ih
theorem R.plT:∀(r:R),PlT r.fM
 | .num n=> .tup fun t ht=>by
   have:t= .str "number"\/t= .int n:=by simpa using ht
   rcases this with rfl | rfl<;>constructor
 | .rd x=> .tup fun t ht=>by
   have:t= .str "read"\/t= .str x:=by simpa using ht
   rcases this with rfl | rfl<;>constructor
 | .bin op a b=> .tup fun t ht=>by
   have:t= .str op.word\/t=a.fM\/t=b.fM:=by simpa using ht
   rcases this with rfl | rfl | rfl
   ·constructor
   ·exact R.plT a
   ·exact R.plT b
 | .pick a b c=> .tup fun t ht=>by
   have:t= .str "pick"\/t=a.fM\/t=b.fM\/t=c.fM:=by simpa using ht
   rcases this with rfl | rfl | rfl | rfl
   ·constructor
   ·exact R.plT a
   ·exact R.plT b
   ·exact R.plT c
 | .cho a ns=> .tup fun t ht=>by
   have:t= .str "choose"\/t=a.fM\/t= .tup (ns.map Th.str):=by simpa using ht
   rcases this with rfl | rfl | rfl
   ·constructor
   ·exact R.plT a
   ·refine .tup fun t ht=> ?_
    obtain⟨x,_,rfl⟩:=List.mem_map.mp ht
    constructor
theorem M3:∀{o o':Op},o.word=o'.word->o=o':=by
 intro o o' h;cases o<;>cases o'<;>first | rfl | exact absurd h (by decide)
theorem HF (o:Op):o.word≠"choose":=by cases o<;>decide
theorem R.yL:∀{r s:R},r.fM=s.fM->r=s
 | .num n, .num m,h=>by simp[R.fM] at h;rw[h]
 | .rd x, .rd y,h=>by simp[R.fM] at h;rw[h]
 | .bin o a b, .bin o' a' b',h=>by
   simp only[R.fM,Th.tup.injEq,List.cons.injEq,Th.str.injEq,and_true] at h
   rw[M3 h.1,R.yL h.2.1,R.yL h.2.2]
 | .pick a b c, .pick a' b' c',h=>by
   simp only[R.fM,Th.tup.injEq,List.cons.injEq,and_true,true_and] at h
   rw[R.yL h.1,R.yL h.2.1,R.yL h.2.2]
 | .cho a ns, .cho a' ms,h=>by
   simp only[R.fM,Th.tup.injEq,List.cons.injEq,and_true,true_and] at h
   rw[R.yL h.1,(List.map_inj_right (fun x y e=>by cases e;rfl)).mp h.2]
 | .num n, .rd y,h=>by simp[R.fM] at h
 | .num n, .bin _ _ _,h=>by simp[R.fM] at h
 | .num n, .pick _ _ _,h=>by simp[R.fM] at h
 | .num n, .cho _ _,h=>by simp[R.fM] at h
 | .rd n, .num y,h=>by simp[R.fM] at h
 | .rd n, .bin _ _ _,h=>by simp[R.fM] at h
 | .rd n, .pick _ _ _,h=>by simp[R.fM] at h
 | .rd n, .cho _ _,h=>by simp[R.fM] at h
 | .bin _ _ _, .num y,h=>by simp[R.fM] at h
 | .bin _ _ _, .rd y,h=>by simp[R.fM] at h
 | .bin _ _ _, .pick _ _ _,h=>by simp[R.fM] at h
 | .bin o _ _, .cho _ _,h=>by
   simp only[R.fM,Th.tup.injEq,List.cons.injEq,Th.str.injEq,and_true] at h
   exact absurd h.1 (HF o)
 | .pick _ _ _, .num y,h=>by simp[R.fM] at h
 | .pick _ _ _, .rd y,h=>by simp[R.fM] at h
 | .pick _ _ _, .bin _ _ _,h=>by simp[R.fM] at h
 | .pick _ _ _, .cho _ _,h=>by simp[R.fM] at h
 | .cho _ _, .num y,h=>by simp[R.fM] at h
 | .cho _ _, .rd y,h=>by simp[R.fM] at h
 | .cho _ _, .bin o _ _,h=>by
   simp only[R.fM,Th.tup.injEq,List.cons.injEq,Th.str.injEq,and_true] at h
   exact absurd h.1.symm (HF o)
 | .cho _ _, .pick _ _ _,h=>by simp[R.fM] at h
theorem V8 {r s:R} (e:r=s):dI r.fM s.fM=true:=by rw[e];exact s.plT.refl
theorem V9 {r s:R} (e:r≠s):dI r.fM s.fM=false:=by
 cases h:dI r.fM s.fM with
 | false=>rfl
 | true=>exact absurd (R.yL (Km h)) e
end RB
namespace L2
open PySem PySem.Spec PyProof.Rows
def Ite (K:PySem.W.Frag) (l:Addr):It:=
 ⟨fun i H=>∃xs x,SqL K H l xs/\xs[i]? =some x,
  fun i H v H'=>∃T x,v= .ref T/\H T=none/\H'=upd H T (.tup [.int (i:Int),x])/\∀xs,SqL K H l xs->xs[i]? =some x,
  fun i H=>∃xs,SqL K H l xs/\xs.length=i⟩
theorem Qq {P:Program}{w:World}{K:PySem.W.Frag}{elts:List Expr}{k:Nat}{pos:Pos} (e it l:Addr) (n1:e≠it) (n2:l≠e) (n3:l≠it):
 Turn P w K (.Tuple elts k pos) (Ite K l) [e,it] e (fun i h=>(∃old,IsEnum h e it i old)/\h.IsListIter it l i) where
 mem:=by simp
 obj:=fun i h st b hb=>by
  obtain⟨⟨old,h1⟩,⟨o4,e4,_,d4⟩⟩:=st
  have hb':b=e\/b=it:=by simpa using hb
  rcases hb' with rfl | rfl
  ·exact⟨_,h1,fun v e=>by cases e⟩
  ·exact⟨o4,e4,fun v e=>by rw[d4] at e;cases e⟩
 keep:=fun i h h' st kp=>by
  obtain⟨⟨old,h1⟩,h4⟩:=st
  exact⟨⟨old,kp e (by simp) _ h1⟩,h4.at fun o z=>kp it (by simp) o z⟩
 item:=by
  intro X hP hw hK hc i pins s σ H E I hf st hg
  subst hP hw hK
  obtain⟨xs,x,hq,hx⟩:=hg
  obtain⟨its,rv,p1,hz1⟩:=I.list hq
  obtain⟨u,hu,ru⟩:=rv.get hx
  obtain⟨⟨old,s1⟩,s4⟩:=st
  have W:=WalksT.enumerate (prog:=X.prog) (w:=X.w) (A:=X.A) (I.ok.hd hc) e it l n1 n2 n3 its.toArray
  have b1:i<its.length:=(List.getElem?_eq_some_iff.mp hu).1
  refine W.item i s _ _ (by simpa using b1) ⟨⟨old,s1⟩,s4,p1.isList⟩ fun T vals h2 tk pv hT isT mid kp=> ?_
  obtain⟨tt,a,ha,rfl⟩:=pv
  have ea:a=u:=by have:its[i]? =some a:=by simpa using ha
                  rw[hu] at this;exact(Option.some.inj this).symm
  subst ea
  refine⟨.ref T,rfl,W.go elts k pos i T _ _ _ mid fun h3 st3 kp3=> ?_⟩
  obtain⟨t1,t4,_⟩:=st3
  have J:Inv X pins σ H {s with heap:=h3,toks:=tk}:=I.Dz (ch:=[e,it]) (fun b hb=>hf b hb) fun b o hb z=>kp3 b o hb (kp b o hb z)
  have hT0:H T=none:=I.hok.fresh hT
  have nT:T∉[e,it]:=fun hm=>by
   obtain⟨o,z⟩:∃o,s.heap.get? T=some o:=by
    have:T=e\/T=it:=by simpa using hm
    obtain⟨o4,e4,_⟩:=s4
    rcases this with rfl | rfl
    ·exact⟨_,s1⟩
    ·exact⟨_,e4⟩
   exact absurd (Heap.lt_size z) (Nat.not_lt.mpr hT)
  have aaM:IsTup h3 T #[.int i tt,a]:=by
   obtain⟨o,z,r⟩:=isT
   exact⟨o,kp3 T o nT z,r⟩
  have fp:=I.JV (H':=H) hT hT0
  refine⟨.ref T,upd H T (.tup [.int (i:Int),x]),J.track hT0 ?_ fp.2.1 fp.2.2.2.2.1 fp.2.2.2.2.2 ?_,rfl,⟨T,x,rfl,hT0,rfl,fun zs hs=>by rw[I.JS hs hq];exact hx⟩,⟨t1,t4⟩,fun b hb=> ?_⟩
  ·cases z:X.s₀.heap.get? T with
   | none=>rfl
   | some o=>exact absurd (Heap.lt_size z) (Nat.not_lt.mpr (Nat.le_trans I.sz hT))
  ·exact⟨by show 2<=sizeLine;rw[sizeLine_eq];decide,[.int i tt,a], .cons ⟨tt,rfl⟩ (.cons ru .nil),aaM⟩
  ·have nb:b≠T:=fun z=>nT (by rw[<-z];exact hb)
   rw[ao nb];exact(hf b hb).1
 done:=by
  intro X hP hw hK hc i pins s σ H E I hf st hg
  subst hP hw hK
  obtain⟨xs,hq,hi⟩:=hg
  obtain⟨its,rv,p1,hz1⟩:=I.list hq
  obtain⟨s1,s4⟩:=st
  have W:=WalksT.enumerate (prog:=X.prog) (w:=X.w) (A:=X.A) (I.ok.hd hc) e it l n1 n2 n3 its.toArray
  have en:its.toArray.size=i:=by rw[List.size_toArray,<-rv.length];exact hi
  subst en
  exact W.done s _ _ ⟨s1,s4,p1.isList⟩ fun h2 tk kp=>⟨rfl,I.Dz (ch:=[e,it]) (fun b hb=>hf b hb) kp⟩
 self:=fun A i s Q E st h=>by
  obtain⟨⟨old,h1⟩,h4⟩:=st
  exact wpAny_pyIter_enum h1 h
def Yc (K:PySem.W.Frag) (ta:TA):TI:=fun σ H R=>ta σ H fun vs H1=>∃l,vs=[.ref l]/\(∃xs,SqL K H1 l xs)/\R (Ite K l) H1
theorem Wa {X:Cx}{elts:List Expr}{k:Nat}{tp:Pos}{a:Expr}{ta:TA}{p pos:Pos} (hg:Gl X "enumerate") (hm:X.mg "enumerate"=none) (ha:PA X [a] ta) (hs:starEach [a] X.env=[(false,eval a X.env)]:=by rfl):
 PI X (.Tuple elts k tp) (.Call (.Name "enumerate" p) [a] [] pos) (Yc X.K ta):=by
 intro pins s σ H R I h
 refine Call_ (yD I hg hm Ip (PyProof.Rows.callWith_type1 (thn (ha pos pins s σ H _ I h) fun us s1 ⟨vs,H1,I1,r1,q1⟩=> ?_) (by rw[hs];rfl) (by rfl)))
 obtain⟨l,rfl,⟨xs,hq⟩,q⟩:=q1
 obtain⟨u,rfl,ru⟩:=vals1 r1
 cases ru
 obtain⟨its,_,p1,_⟩:=I1.list hq
 have lt1:l<s1.heap.objs.size:=by obtain⟨o,e,_⟩:=p1.isList;exact Heap.lt_size e
 refine call_enumerate_list p1.isList fun h5 he hi _ kp=> ?_
 refine wpAny_pyIter_enum he ?_
 have I2:Inv X pins σ H1 {s1 with heap:=h5}:=I1.kept (t':=s1.toks) kp
 refine⟨s1.heap.objs.size+1,[s1.heap.objs.size+1,s1.heap.objs.size],_,_,H1,rfl,I2,Qq _ _ l (Nat.succ_ne_self _) (Nat.ne_of_lt (Nat.lt_succ_of_lt lt1)) (Nat.ne_of_lt lt1),⟨⟨_,he⟩,hi⟩,fun b hb=> ?_,q⟩
 have hle:s1.heap.objs.size<=b:=by
  have:b=s1.heap.objs.size+1\/b=s1.heap.objs.size:=by simpa using hb
  rcases this with rfl | rfl<;>first | exact Nat.le_refl _ | exact Nat.le_add_right _ _
 exact I1.JV hle (I1.hok.fresh hle)
theorem Ou {X:Cx}{elts:List Expr}{k:Nat}{tp:Pos}{a:Expr}{ta:TA}{p pos:Pos} (hg:Gl X "enumerate") (hm:X.mg "enumerate"=none) (ha:QA X [a] ta) (hs:starEach [a] X.env=[(false,eval a X.env)]:=by rfl):
 QI X (.Tuple elts k tp) (.Call (.Name "enumerate" p) [a] [] pos) (Yc X.K ta):=⟨Wa hg hm ha.h hs⟩
theorem Sh {K:PySem.W.Frag}{a:Addr}{xs:List V}{g:TG}{tb:TS}{D:Ends}{σ:St}{H:Hp} (Pv:Nat->St->Hp->Prop) (h0:Pv 0 σ H) (hl:∀i σ H,i<=xs.length->Pv i σ H->SqL K H a xs)
 (hs:∀i x T σ H,xs[i]? =some x->H T=none->Pv i σ H->g (.ref T) σ (upd H T (.tup [.int (i:Int),x])) fun σ2 H2=>tb {D with nx:=Pv (i+1),ct:=Pv (i+1),bk:=D.nx} σ2 H2) (hd:∀σ H,Pv xs.length σ H->D.nx σ H):
 ∃W:Nat->Nat->St->Hp->Prop,(∃m,W 0 m σ H)/\∀i m σ H,W i m σ H->
  ((Ite K a).stop i H/\D.nx σ H)\/((Ite K a).go i H/\∃N:St->Hp->Prop,(∀σ' H',N σ' H'->∃m',m'<m/\W (i+1) m' σ' H')/\∀x H',(Ite K a).yld i H x H'->g x σ H' fun σ2 H2=>tb {D with nx:=N,ct:=N,bk:=D.nx} σ2 H2):=by
 refine⟨fun i m σ H=>m=xs.length - i/\i<=xs.length/\Pv i σ H,⟨xs.length,by simp,Nat.zero_le _,h0⟩, ?_⟩
 rintro i m σ H ⟨rfl,hi,p⟩
 have q1:=hl i σ H hi p
 by_cases hlt:i<xs.length
 ·refine .inr ⟨⟨xs,xs[i],q1,List.getElem?_eq_getElem hlt⟩,Pv (i+1),fun σ' H' z=>⟨_,by omega,rfl,hlt,z⟩, ?_⟩
  rintro x H' ⟨T,u,rfl,hT,rfl,e1⟩
  exact hs i u T σ H (e1 xs q1) hT p
 ·have e:i=xs.length:=by omega
  subst e
  exact .inl ⟨⟨xs,q1,rfl⟩,hd σ H p⟩
end L2
namespace RB
open PySem L2 PySem.Spec PyProof.Rows
end RB
namespace L2
open PySem PySem.Spec PyProof.Rows RB
section
variable {prog:Program}{w:World}{A:Around}{E:Value->Shared->Prop}{s:Shared}
end
end L2
namespace RB
open PySem L2 PySem.Spec PyProof.Rows
end RB
namespace L2
open PySem PySem.Spec PyProof.Rows RB
end L2
namespace RB
open PySem L2 PySem.Spec PyProof.Rows
section
variable {p h hg hc h2 g2 c2 rcd r2 wd w2 hd:Addr}{o:Obj}{n:Nat}{gv:Kn}{rc:Rn}{kg kc kr kw:List (Key×V)}{rm:Rm}{H H':Hp}
end
theorem Sq {kn:Kn}{d:List Rdp} (h:Rows kn d) {x:Str}{v:Int} (hx:kn x=some v) (m:(x,v)∈d):rY d x v=d:=by
 unfold rY
 rw[if_pos (List.any_eq_true.mpr ⟨(x,v),m,by simp⟩)]
 have:∀p∈d,(if p.1=x then(p.1,v) else p)=p:=fun p hp=>by
  by_cases z:p.1=x
  ·rw[if_pos z]
   have:=h.s p hp
   rw[z,hx] at this
   rw[Option.some.inj this]
  ·rw[if_neg z]
 rw[List.map_congr_left this]
 exact List.map_id _
theorem Ss {kn:Kn}{d:List Rdp} (h:Rows kn d) {x:Str}{v:Int} (hx:kn x=some v) (m:(x,v)∉d):rY d x v=d++[(x,v)]:=by
 unfold rY
 rw[if_neg]
 intro z
 obtain⟨p,hp,e⟩:=List.any_eq_true.mp z
 have e:=of_decide_eq_true e
 have:=h.s p hp
 rw[e,hx] at this
 exact m (by rw[<-e,Option.some.inj this];exact hp)
def vU (kn:Kn) (r:R) (t:List Stp) (f:List Int) (d:List Rdp):Prop:=match ev kn r with
 | .inr v=>∃n us,StN kn n ⟨t++[.r r],f,d⟩ ⟨t,f++[v],d++us⟩/\nU r (kn0.puts d) us v/\Rows kn (d++us)
 | .inl x=>∃n t' f' us,StN kn n ⟨t++[.r r],f,d⟩ ⟨t'++[.r (.rd x)],f',d++us⟩/\kn x=none/\Chn r (kn0.puts d) us/\ev (kn0.puts (d++us)) r= .inl x/\Rows kn (d++us)
theorem Qs {kn:Kn}{d:List Rdp} (h:Rows kn d) {x:Str} (hx:kn x=none):kn0.puts d x=none:=by
 cases e:kn0.puts d x with
 | none=>rfl
 | some u=>
   rcases rZ e with z | z
   ·have:=h.s _ z
    rw[hx] at this;cases this
   ·cases z
theorem Ko {kn:Kn}{x:Str}{t:List Stp}{f:List Int}{d:List Rdp} (hd:Rows kn d):vU kn (.rd x) t f d:=by
 unfold vU
 show match look kn x with
  | .inr v=>_
  | .inl y=>_
 unfold look
 cases e:kn x with
 | none=>
   refine⟨0,t,f,[], ?_,e,trivial, ?_,by rw[List.append_nil];exact hd⟩
   ·rw[List.append_nil];exact .zero
   ·rw[List.append_nil]
    show look _ x=_
    unfold look
    rw[Qs hd e]
 | some v=>
   have hl:=hd.look e
   by_cases m:(x,v)∈d
   ·rw[if_pos m] at hl
    refine⟨1,[], .succ (.rd e) ?_,hl,by rw[List.append_nil];exact hd⟩
    rw[Sq hd e m,List.append_nil];exact .zero
   ·rw[if_neg m] at hl
    refine⟨1,[(x,v)], .succ (.rd e) ?_,hl.1,hl.2⟩
    rw[Ss hd e m];exact .zero
def yu (kn:Kn) (r:R) (x:Str):Prop:=∃ps,Chn r kn0 ps/\ev (kn0.puts ps) r= .inl x/\Rows kn ps
def Goes (kn:Kn) (r:R) (c:Cf):Prop:=match ev kn r with
 | .inr v=>c.todo=[]/\c.found=[v]/\nU r kn0 c.rds v/\Rows kn c.rds
 | .inl x=>(∃t,c.todo=t++[.r (.rd x)])/\kn x=none/\yu kn r x
theorem Su {kn:Kn}:Rows kn []:=⟨by simp,by simp⟩
theorem rR:∀r:R,1<=r.depth
 | .num _=>Nat.le_refl _
 | .rd _=>Nat.le_refl _
 | .bin _ a b=>by show 1<=max a.depth b.depth+1;omega
 | .pick a b c=>by show 1<=max a.depth (max b.depth c.depth)+1;omega
 | .cho a _=>by show 1<=a.depth+1;omega
theorem Fd:∀(r:R) (d:Nat),r.depth<=d->wR r+2<=3 ^ d
 | r,0,h=>absurd (rR r) (by omega)
 | .num _,d+1,_=>by
   have:1<=3 ^ d:=Nat.one_le_pow _ _ (by decide)
   show 1+2<=3 ^(d+1)
   rw[Nat.pow_succ];omega
 | .rd _,d+1,_=>by
   have:1<=3 ^ d:=Nat.one_le_pow _ _ (by decide)
   show 1+2<=3 ^(d+1)
   rw[Nat.pow_succ];omega
 | .bin _ a b,d+1,h=>by
   have h:max a.depth b.depth+1<=d+1:=h
   have h1:=Fd a d (by omega)
   have h2:=Fd b d (by omega)
   show wR a+wR b+2+2<=3 ^(d+1)
   rw[Nat.pow_succ];omega
 | .pick a b c,d+1,h=>by
   have h:max a.depth (max b.depth c.depth)+1<=d+1:=h
   have h1:=Fd a d (by omega)
   have h2:=Fd b d (by omega)
   have h3:=Fd c d (by omega)
   show wR a+wR b+wR c+2+2<=3 ^(d+1)
   rw[Nat.pow_succ];omega
 | .cho a _,d+1,h=>by
   have h:a.depth+1<=d+1:=h
   have h1:=Fd a d (by omega)
   show wR a+3+2<=3 ^(d+1)
   rw[Nat.pow_succ];omega
end RB
namespace L2
open PySem PySem.Spec PyProof.Rows
theorem Wb {X:Cx}{e:Expr}{f:Str}{pos:Pos}{ta:TE}{K:PySem.W.Frag} (eK:X.K=K) (he:QE X e ta) (hb:attributeBase e f X.env (eval e X.env)=eval e X.env:=by rfl):QE X (.Attribute e f pos) (ZG K ta f):=eK▸bA he hb
end L2
namespace RB
open PySem L2 PySem.Spec PyProof.Rows
structure NrC (K:PySem.W.Frag) (C:Addr):Prop where
 cl:Cls K C
 nB:iV K C "by_name"
def nrF (rcd:Addr):List (Str×V):=[("by_name", .ref rcd)]
def zW (C:Addr):Sp:=fun vs H Q _=>∃(a dx rcd:Addr),vs=[.ref a, .ref rcd]/\H a=some (.ins C dx [])/\∀H',But [a] H H'->H' a=some (.ins C dx (nrF rcd))->Q .non H'
def HH (rm:Rm) (y:Str) (r:R) (kn:Kn):Prop:=∀r' ps v,rm y=some (r',ps,v)->r'≠r\/∃p∈ps,∃u,kn p.1=some u/\u≠p.2
theorem HH.le {rm:Rm}{y:Str}{r:R}{kn kn':Kn} (h:HH rm y r kn) (l:Kn.Le kn kn'):HH rm y r kn':=fun r' ps v e=>(h r' ps v e).imp id fun⟨p,hp,u,hu,hn⟩=>⟨p,hp,u,l _ _ hu,hn⟩
def Kp (H:Hp) (fl:Addr) (kr:List (Key×V)) (rm:Rm) (y:Str) (r:R) (kn:Kn) (k:Nat):Prop:=
 (∃rb ps v,H fl=some (.lst [.ref rb])/\dX kr (.inr y)=some (.ref rb)/\rm y=some (r,ps,v)/\k<=ps.length/\∀(j:Nat) p,j<k->ps[j]? =some p->kn p.1=some p.2)\/(H fl=some (.lst [])/\HH rm y r kn)
theorem Kp.le {H:Hp}{fl:Addr}{kr:List (Key×V)}{rm:Rm}{y:Str}{r:R}{kn kn':Kn}{k:Nat} (h:Kp H fl kr rm y r kn k) (l:Kn.Le kn kn'):Kp H fl kr rm y r kn' k:=
 h.imp (fun⟨rb,ps,v,a,b,c,d,e⟩=>⟨rb,ps,v,a,b,c,d,fun j p hj hp=>l _ _ (e j p hj hp)⟩) fun⟨a,b⟩=>⟨a,b.le l⟩
theorem Kp.at {H H':Hp}{fl:Addr}{kr:List (Key×V)}{rm:Rm}{y:Str}{r:R}{kn:Kn}{k:Nat} (h:Kp H fl kr rm y r kn k) (f:∀o,H fl=some o->H' fl=some o):Kp H' fl kr rm y r kn k:=
 h.imp (fun⟨rb,ps,v,a,b⟩=>⟨rb,ps,v,f _ a,b⟩) fun⟨a,b⟩=>⟨f _ a,b⟩
def Yd:Sp:=fun vs H Q _=>(∃v w,vs=[v,w])/\Q .non H
structure SeD where
 s:Addr
 dx:Addr
 b:Addr
 fl:Addr
 rk:Addr
 dxr:Addr
 a1:Addr
 a2:Addr
 a3:Addr
 k:Nat
def SeD.ft (A:SeD):List Addr:=[A.s,A.fl,A.rk,A.a1,A.a2,A.a3]
def seF (b fl:Addr) (k:Nat) (rk:Addr):List (Str×V):=[("recipe", .ref b),("fitting", .ref fl),("place", .int k),("reckoning", .ref rk)]
structure SeC (K:PySem.W.Frag) (C:Addr):Prop where
 cl:Cls K C
 nR:iV K C "recipe"
 nF:iV K C "fitting"
 nP:iV K C "place"
 nK:iV K C "reckoning"
theorem xP (b fl:Addr) (k:Nat) (rk:Addr):List.lookup ("recipe":Str) (seF b fl k rk)=some (.ref b):=rfl
theorem uh (b fl:Addr) (k:Nat) (rk:Addr):List.lookup ("fitting":Str) (seF b fl k rk)=some (.ref fl):=rfl
theorem xQ (b fl:Addr) (k:Nat) (rk:Addr):List.lookup ("place":Str) (seF b fl k rk)=some (.int k):=rfl
theorem o9 (b fl:Addr) (k:Nat) (rk:Addr):List.lookup ("reckoning":Str) (seF b fl k rk)=some (.ref rk):=rfl
theorem gq (b fl:Addr) (k:Nat) (rk:Addr):List.lookup ("lacking":Str) (seF b fl k rk)=none/\List.lookup ("fit_on":Str) (seF b fl k rk)=none/\List.lookup ("was_reckoned":Str) (seF b fl k rk)=none/\List.lookup ("new_record":Str) (seF b fl k rk)=none:=⟨rfl,rfl,rfl,rfl⟩
structure um (CS CR:Addr) (kr:List (Key×V)) (rm:Rm) (y:Str) (r:R) (kn:Kn) (A:SeD) (H:Hp):Prop where
 e:H A.s=some (.ins CS A.dx (seF A.b A.fl A.k A.rk))
 hr:IsR H A.b r
 c:∃c,RcAt H A.rk CR A.dxr A.a1 A.a2 A.a3 c/\Reach kn r c
 f:Kp H A.fl kr rm y r kn A.k
 n1:A.s≠A.rk
 n2:A.fl≠A.a1
 n3:A.fl≠A.a2
theorem RcAt.move {S:List Addr}{H H':Hp}{a C dx a1 a2 a3:Addr}{c:Cf} (h:RcAt H a C dx a1 a2 a3 c) (b:But S H H') (t:jX H H') (hs:∀z∈[a,a1,a2,a3],z∉S):RcAt H' a C dx a1 a2 a3 c:=by
 obtain⟨e,⟨ws,e1,hw⟩,e2,e3,ne,w⟩:=h
 exact⟨b _ _ (hs _ (by simp)) e,⟨ws,b _ _ (hs _ (by simp)) e1,hw.tups t⟩,b _ _ (hs _ (by simp)) e2,b _ _ (hs _ (by simp)) e3,ne,w⟩
section
variable {CS CR:Addr}{kr:List (Key×V)}{rm:Rm}{y:Str}{r:R}{kn kn':Kn}{A:SeD}{H H':Hp}
theorem um.move {S:List Addr} (h:um CS CR kr rm y r kn A H) (b:But S H H') (t:jX H H') (hs:∀z∈A.ft,z∉S):um CS CR kr rm y r kn A H':=by
 obtain⟨c,h1,h2⟩:=h.c
 exact⟨b _ _ (hs _ (by simp[SeD.ft])) h.e,h.hr.tups t,⟨c,h1.move b t fun z hz=>hs z (by
  have:z=A.rk\/z=A.a1\/z=A.a2\/z=A.a3:=by simpa using hz
  unfold SeD.ft
  rcases this with rfl | rfl | rfl | rfl<;>simp),h2⟩,h.f.at fun o e=>b _ _ (hs _ (by simp[SeD.ft])) e,h.n1,h.n2,h.n3⟩
theorem um.le (h:um CS CR kr rm y r kn A H) (l:Kn.Le kn kn'):um CS CR kr rm y r kn' A H:=by
 obtain⟨c,h1,h2⟩:=h.c
 exact⟨h.e,h.hr,⟨c,h1,h2.le l⟩,h.f.le l,h.n1,h.n2,h.n3⟩
def Sv (H:Hp) (CR:Addr) (kr:List (Key×V)) (rm:Rm) (y:Str) (r:R) (kn:Kn) (A:SeD):Prop:=
 (∃rb ps v,H A.fl=some (.lst [.ref rb])/\dX kr (.inr y)=some (.ref rb)/\rm y=some (r,ps,v)/\∀p∈ps,kn p.1=some p.2)\/
 (H A.fl=some (.lst [])/\HH rm y r kn/\∃c v,RcAt H A.rk CR A.dxr A.a1 A.a2 A.a3 c/\c.found=[v]/\nU r kn0 c.rds v/\Rows kn c.rds)
end
def Kq (CS CR:Addr):Sp:=fun vs H Q _=>∃(a dx b fl:Addr) (r:R),vs=[.ref a, .ref b, .ref fl]/\H a=some (.ins CS dx [])/\IsR H b r/\wR r<=4000/\
 ∀(A:SeD) H',But [a] H H'->A.s=a->A.b=b->A.fl=fl->A.k=0->H' a=some (.ins CS A.dx (seF b fl 0 A.rk))->RcAt H' A.rk CR A.dxr A.a1 A.a2 A.a3 ⟨[.r r],[],[]⟩->(∀z∈[A.rk,A.a1,A.a2,A.a3],H z=none)->Q .non H'
def Ye (CS:Addr):Sp:=fun vs H Q _=>∃(s dx b fl rk rb br l:Addr) (k:Nat) (as:List Addr) (ps:List Rdp) (v w u:Int) (x:Str),vs=[.ref s, .int w]/\H s=some (.ins CS dx (seF b fl k rk))/\H fl=some (.lst [.ref rb])/\H rb=some (.tup [.ref br, .ref l, .int v])/\H l=some (.lst (as.map V.ref))/\jZ H as ps/\ps[k]? =some (x,u)/\
 ∀fl' H',But [s] H H'->H fl'=none->H' s=some (.ins CS dx (seF b fl' (k+1) rk))->H' fl'=some (.lst (if u=w then [.ref rb] else []))->Q .non H'
theorem Kr {r:R}:∀{ps:List Rdp}{kn:Kn}{k:Nat}{x:Str}{u:Int},Chn r kn ps->ps[k]? =some (x,u)->Chn r kn (ps.take k)/\ev (kn.puts (ps.take k)) r= .inl x
 |[],_,_,_,_,_,h=>by simp at h
 | p::ps,kn,0,x,u,c,h=>by cases h;exact⟨trivial,c.1⟩
 | p::ps,kn,k+1,x,u,c,h=>by
   obtain⟨h1,h2⟩:=Kr (ps:=ps) (k:=k) c.2 (by simpa using h)
   exact⟨⟨c.1,h1⟩,h2⟩
theorem M4 {r:R}{ps:List Rdp}{kn:Kn}{k:Nat}{x:Str}{u:Int} (c:Chn r kn0 ps) (h:ps[k]? =some (x,u)) (he:∀(j:Nat) p,j<k->ps[j]? =some p->kn p.1=some p.2):yu kn r x:=by
 obtain⟨h1,h2⟩:=Kr c h
 refine⟨ps.take k,h1,h2,fun p hp=> ?_, ?_⟩
 ·obtain⟨j,hj⟩:=List.getElem?_of_mem hp
  rw[List.getElem?_take] at hj
  split at hj
  ·exact he j p (by assumption) hj
  ·cases hj
 ·rw[List.map_take]
  exact((xN c).2).sublist (List.take_sublist _ _)
theorem Ks {H:Hp}:∀{as:List Addr}{ps:List Rdp},as.length=ps.length->(∀(j:Nat) (b:Addr) (p:Rdp),as[j]? =some b->ps[j]? =some p->H b=some (.tup (rdV p)))->jZ H as ps
 |[],[],_,_=> .nil
 | a::as,p::ps,hl,h=> .cons (h 0 a p rfl rfl) (Ks (by simpa using hl) fun j b q h1 h2=>h (j+1) b q (by simpa using h1) (by simpa using h2))
 |[],_::_,hl,_=>by simp at hl
 | _::_,[],hl,_=>by simp at hl
def Rcd (rm:Rm) (y:Str) (r:R) (kn:Kn) (ps:List Rdp) (v:Int) (made:Bool):Prop:=
 nU r kn0 ps v/\Rows kn ps/\if made=true then HH rm y r kn else rm y=some (r,ps,v)
theorem Ov {kn kn':Kn}{x y:Str} (e:look kn x= .inl y) (h:kn' y=none):look kn' x= .inl y:=by
 obtain⟨rfl,_⟩:=rW e
 unfold look
 rw[h]
theorem Fe {kn kn':Kn} (hk:Kn.Le kn kn'):∀{r:R}{x:Str},ev kn r= .inl x->kn' x=none->ev kn' r= .inl x
 | .num n,x,h,_=>by cases h
 | .rd y,x,h,hx=>Ov h hx
 | .bin op a b,x,h,hx=>by
   simp only[ev] at h ⊢
   cases ea:ev kn a with
   | inl y=>rw[ea] at h;cases h;rw[Fe hk ea hx]
   | inr u=>
     rw[ea] at h
     rw[nQ hk ea]
     simp only at h ⊢
     cases eb:ev kn b with
     | inl y=>rw[eb] at h;cases h;rw[Fe hk eb hx]
     | inr v=>rw[eb] at h;cases h
 | .pick a b c,x,h,hx=>by
   simp only[ev] at h ⊢
   cases ea:ev kn a with
   | inl y=>rw[ea] at h;cases h;rw[Fe hk ea hx]
   | inr u=>
     rw[ea] at h
     rw[nQ hk ea]
     simp only at h ⊢
     by_cases hu:u>0
     ·rw[if_pos hu] at h ⊢;exact Fe hk h hx
     ·rw[if_neg hu] at h ⊢;exact Fe hk h hx
 | .cho a ns,x,h,hx=>by
   simp only[ev] at h ⊢
   cases ea:ev kn a with
   | inl y=>rw[ea] at h;cases h;rw[Fe hk ea hx]
   | inr u=>
     rw[ea] at h
     rw[nQ hk ea]
     simp only at h ⊢
     cases ep:pU ns u with
     | none=>rw[ep] at h;cases h
     | some y=>rw[ep] at h;exact Ov h hx
theorem Jd:∀{ps:List Rdp}{k kn:Kn},Kn.Le k kn->(∀p∈ps,kn p.1=some p.2)->Kn.Le (k.puts ps) kn
 |[],k,kn,h,_=>h
 | p::ps,k,kn,h,hp=>by
   refine Jd (ps:=ps) (k:=k.put p.1 p.2) (fun x v e=> ?_) fun q hq=>hp q (by simp[hq])
   unfold Kn.put at e
   by_cases z:x=p.1
   ·rw[if_pos z] at e;cases e;rw[z];exact hp p (by simp)
   ·rw[if_neg z] at e;exact h x v e
theorem Sw {kn:Kn}:Kn.Le kn0 kn:=fun x v e=>by cases e
theorem yu.ev {kn:Kn}{r:R}{x:Str} (h:yu kn r x) (hx:kn x=none):ev kn r= .inl x:=let ⟨ps,_,b,c⟩:=h;Fe (Jd Sw c.s) b hx
theorem aaN {kn:Kn}{r:R}{ps:List Rdp}{v:Int} (g:nU r kn0 ps v) (c:Rows kn ps):RB.ev kn r= .inr v:=nQ (Jd Sw c.s) g.2
abbrev Ms:Type:=List Str×Kn×List Str
def mv (gv:Kn) (rc:Rn):Ms->Option Ms
 | ([],_,_)=>none
 | (x::p,kn,od)=>match kn x with
   | some _=>some (p,kn,od)
   | none=>match gv x with
     | some v=>some (x::p,kn.put x v,od)
     | none=>match rc x with
       | none=>none
       | some r=>match ev kn r with
         | .inl y=>some (y::x::p,kn,od)
         | .inr v=>some (x::p,kn.put x v,od++[x])
def itM (gv:Kn) (rc:Rn):Nat->Ms->Option Ms
 | 0,s=>some s
 | k+1,s=>match mv gv rc s with
   | none=>none
   | some t=>itM gv rc k t
def Mvs (gv:Kn) (rc:Rn) (s t:Ms):Prop:=∃k,itM gv rc k s=some t
section
variable {gv:Kn}{rc:Rn}
theorem aaO {kn:Kn}{od:List Str}:mv gv rc ([],kn,od)=none:=rfl
theorem M5 {x:Str}{p od:List Str}{kn:Kn}{v:Int} (h2:kn x=none) (h:gv x=some v):mv gv rc (x::p,kn,od)=some (x::p,kn.put x v,od):=by unfold mv;simp only[h,h2]
theorem Ff {x:Str}{p od:List Str}{kn:Kn} (h2:kn x≠none):mv gv rc (x::p,kn,od)=some (p,kn,od):=by
 unfold mv
 cases e:kn x with
 | none=>exact absurd e h2
 | some v=>simp only[e]
theorem DN {x y:Str}{p od:List Str}{kn:Kn}{r:R} (h:gv x=none) (h2:kn x=none) (h3:rc x=some r) (h4:ev kn r= .inl y):mv gv rc (x::p,kn,od)=some (y::x::p,kn,od):=by unfold mv;simp only[h,h2,h3,h4]
theorem Fg {x:Str}{p od:List Str}{kn:Kn}{r:R}{v:Int} (h:gv x=none) (h2:kn x=none) (h3:rc x=some r) (h4:ev kn r= .inr v):mv gv rc (x::p,kn,od)=some (x::p,kn.put x v,od++[x]):=by unfold mv;simp only[h,h2,h3,h4]
theorem Mvs.refl (s:Ms):Mvs gv rc s s:=⟨0,rfl⟩
theorem Ku:∀{k:Nat}{s t u:Ms},itM gv rc k s=some t->mv gv rc t=some u->itM gv rc (k+1) s=some u
 | 0,s,t,u,h,h2=>by cases h;show(match mv gv rc s with | none=>none | some t=>itM gv rc 0 t)=some u;rw[h2];rfl
 | k+1,s,t,u,h,h2=>by
   unfold itM at h ⊢
   cases e:mv gv rc s with
   | none=>rw[e] at h;cases h
   | some w=>rw[e] at h;exact Ku (k:=k) h h2
theorem Mvs.snoc {s t u:Ms} (h:Mvs gv rc s t) (h2:mv gv rc t=some u):Mvs gv rc s u:=let ⟨k,e⟩:=h;⟨k+1,Ku e h2⟩
theorem Ow:∀{k:Nat}{l:Nat}{s t u:Ms},itM gv rc k s=some t->itM gv rc l t=some u->itM gv rc (k+l) s=some u
 | 0,l,s,t,u,h,h2=>by cases h;rw[Nat.zero_add];exact h2
 | k+1,l,s,t,u,h,h2=>by
   rw[Nat.add_right_comm]
   unfold itM at h ⊢
   cases e:mv gv rc s with
   | none=>rw[e] at h;cases h
   | some w=>rw[e] at h;exact Ow (k:=k) h h2
theorem Mvs.trans {s t u:Ms} (h:Mvs gv rc s t) (h2:Mvs gv rc t u):Mvs gv rc s u:=let ⟨k,e⟩:=h;let ⟨l,e2⟩:=h2;⟨k+l,Ow e e2⟩
theorem Ox:∀{k l:Nat}{s t u:Ms},itM gv rc k s=some t->mv gv rc t=none->itM gv rc l s=some u->mv gv rc u=none->t=u
 | 0,0,s,t,u,h,_,h2,_=>by cases h;cases h2;rfl
 | 0,l+1,s,t,u,h,n,h2,_=>by
   cases h
   unfold itM at h2
   rw[n] at h2;cases h2
 | k+1,0,s,t,u,h,_,h2,n=>by
   cases h2
   unfold itM at h
   rw[n] at h;cases h
 | k+1,l+1,s,t,u,h,n,h2,n2=>by
   unfold itM at h h2
   cases e:mv gv rc s with
   | none=>rw[e] at h;cases h
   | some w=>rw[e] at h h2;exact Ox h n h2 n2
theorem Mvs.det {s:Ms}{a b:Kn×List Str} (h:Mvs gv rc s ([],a)) (h2:Mvs gv rc s ([],b)):a=b:=by
 obtain⟨k,e⟩:=h
 obtain⟨l,e2⟩:=h2
 have:=Ox e rfl e2 rfl
 cases this;rfl
end
def Runs (gv:Kn) (rc:Rn):List Str->Kn×List Str->Kn×List Str->Prop
 |[],a,b=>a=b
 | x::ws,a,b=>∃c,Mvs gv rc ([x],a) ([],c)/\Runs gv rc ws c b
theorem Runs.det {gv:Kn}{rc:Rn}:∀{ws:List Str}{a b c:Kn×List Str},Runs gv rc ws a b->Runs gv rc ws a c->b=c
 |[],a,b,c,h,h2=>by cases h;cases h2;rfl
 | x::ws,a,b,c,⟨d,h,g⟩,⟨d',h',g'⟩=>by
   have:=h.det h'
   cases this
   exact Runs.det g g'
def R.Fn (kn:Kn):R->Prop
 | .num _=>True
 | .rd _=>True
 | .bin op a b=>a.Fn kn/\b.Fn kn/\(op= .times->∀u v,ev kn a= .inr u->ev kn b= .inr v->qp u v)
 | .pick a b c=>a.Fn kn/\b.Fn kn/\c.Fn kn
 | .cho a ns=>a.Fn kn/\1<=ns.length
theorem Fi {kn:Kn}:∀(r:R),r.Fn kn->∀t f d,Rows kn d->vU kn r t f d
 | .num n,_,t,f,d,hd=>⟨1,[], .succ .num (by rw[List.append_nil];exact .zero),VN,by rw[List.append_nil];exact hd⟩
 | .rd x,_,t,f,d,hd=>Ko hd
 | .bin op a b,h,t,f,d,hd=>by
   have ua:∀kn' x,ev kn' a= .inl x->ev kn' (.bin op a b)= .inl x:=fun kn' x e=>by simp only[ev];rw[e]
   have ha:=Fi (kn:=kn) a h.1 (t++[.join op, .r b]) f d hd
   unfold vU at ha ⊢
   rw[List.append_assoc] at ha
   simp only[ev]
   cases ea:ev kn a with
   | inl x=>
     rw[ea] at ha
     obtain⟨n,t',f',us,s,hx,c,e,hr⟩:=ha
     exact⟨n+1,t',f',us, .succ .bin s,hx,c.up fun kn' x _ e=>ua kn' x e,ua _ _ e,hr⟩
   | inr u=>
     rw[ea] at ha
     obtain⟨n,us,s,g,hr⟩:=ha
     have hb:=Fi (kn:=kn) b h.2.1 (t++[.join op]) (f++[u]) (d++us) hr
     unfold vU at hb
     rw[List.append_assoc] at hb
     have ub:∀kn' x,Kn.Le ((kn0.puts d).puts us) kn'->ev kn' b= .inl x->ev kn' (.bin op a b)= .inl x:=fun kn' x l e=>by simp only[ev];rw[nQ l g.e];simp only;rw[e]
     cases eb:ev kn b with
     | inl x=>
       rw[eb] at hb
       obtain⟨m,t',f',vs,s2,hx,c,e,hr2⟩:=hb
       rw[Kn.gW] at c
       rw[List.append_assoc] at s2 e hr2
       refine⟨n+m+1,t',f',us++vs, .succ .bin (s.add s2),hx,(g.c.up fun kn' x _ e=>ua kn' x e).app (c.up ub), ?_,hr2⟩
       refine ub _ _ ?_ e
       rw[Kn.gW,Kn.gW]
       exact c.le
     | inr v=>
       rw[eb] at hb
       obtain⟨m,vs,s2,g2,hr2⟩:=hb
       rw[Kn.gW] at g2
       rw[List.append_assoc] at s2 hr2
       refine⟨n+(m+1)+1,us++vs, .succ .bin (s.add (s2.add (.succ ?_ .zero))),V0 g g2,hr2⟩
       rw[List.append_assoc]
       exact .join fun z=>h.2.2 z u v ea eb
 | .pick a b c,h,t,f,d,hd=>by
   have ua:∀kn' x,ev kn' a= .inl x->ev kn' (.pick a b c)= .inl x:=fun kn' x e=>by simp only[ev];rw[e]
   have ha:=Fi (kn:=kn) a h.1 (t++[.branch b c]) f d hd
   unfold vU at ha ⊢
   rw[List.append_assoc] at ha
   simp only[ev]
   cases ea:ev kn a with
   | inl x=>
     rw[ea] at ha
     obtain⟨n,t',f',us,s,hx,c,e,hr⟩:=ha
     exact⟨n+1,t',f',us, .succ .pick s,hx,c.up fun kn' x _ e=>ua kn' x e,ua _ _ e,hr⟩
   | inr u=>
     rw[ea] at ha
     obtain⟨n,us,s,g,hr⟩:=ha
     have hb:vU kn (if u>0 then b else c) t f (d++us):=by
      split
      ·exact Fi b h.2.1 t f _ hr
      ·exact Fi c h.2.2 t f _ hr
     unfold vU at hb
     simp only
     have e:(if u>0 then ev kn b else ev kn c)=ev kn (if u>0 then b else c):=by split<;>rfl
     rw[e]
     have up:∀kn':Kn,Kn.Le ((kn0.puts d).puts us) kn'->ev kn' (.pick a b c)=ev kn' (if u>0 then b else c):=fun kn' l=>by
      simp only[ev];rw[nQ l g.e];simp only;split<;>rfl
     cases eb:ev kn (if u>0 then b else c) with
     | inl x=>
       rw[eb] at hb
       obtain⟨m,t',f',vs,s2,hx,c2,e2,hr2⟩:=hb
       rw[Kn.gW] at c2
       rw[List.append_assoc] at s2 e2 hr2
       refine⟨n+(m+1)+1,t',f',us++vs, .succ .pick (s.add (.succ .branch s2)),hx,(g.c.up fun kn' x _ e=>ua kn' x e).app (c2.up fun kn' x l z=>by rw[up kn' l];exact z), ?_,hr2⟩
       rw[<-e2]
       have hl:=c2.le
       have:=up (kn0.puts (d++(us++vs))) (by rw[Kn.gW,Kn.gW];exact hl)
       simp only[ev] at this
       exact this
     | inr v=>
       rw[eb] at hb
       obtain⟨m,vs,s2,g2,hr2⟩:=hb
       rw[Kn.gW] at g2
       rw[List.append_assoc] at s2 hr2
       exact⟨n+(m+1)+1,us++vs, .succ .pick (s.add (.succ .branch s2)),R6 g g2,hr2⟩
 | .cho a ns,h,t,f,d,hd=>by
   have ua:∀kn' x,ev kn' a= .inl x->ev kn' (.cho a ns)= .inl x:=fun kn' x e=>by simp only[ev];rw[e]
   have ha:=Fi (kn:=kn) a h.1 (t++[.among ns]) f d hd
   unfold vU at ha ⊢
   rw[List.append_assoc] at ha
   simp only[ev]
   cases ea:ev kn a with
   | inl x=>
     rw[ea] at ha
     obtain⟨n,t',f',us,s,hx,c,e,hr⟩:=ha
     exact⟨n+1,t',f',us, .succ .cho s,hx,c.up fun kn' x _ e=>ua kn' x e,ua _ _ e,hr⟩
   | inr u=>
     rw[ea] at ha
     obtain⟨n,us,s,g,hr⟩:=ha
     obtain⟨y,ey⟩:=Ql h.2 u
     simp only
     rw[ey]
     have hb:=Ko (kn:=kn) (x:=y) (t:=t) (f:=f) hr
     unfold vU at hb
     simp only[ev] at hb
     simp only
     have up:∀kn':Kn,Kn.Le ((kn0.puts d).puts us) kn'->ev kn' (.cho a ns)=ev kn' (.rd y):=fun kn' l=>by
      simp only[ev];rw[nQ l g.e];simp only;rw[ey]
     cases eb:look kn y with
     | inl x=>
       rw[eb] at hb
       obtain⟨m,t',f',vs,s2,hx,c2,e2,hr2⟩:=hb
       rw[Kn.gW] at c2
       rw[List.append_assoc] at s2 e2 hr2
       refine⟨n+(m+1)+1,t',f',us++vs, .succ .cho (s.add (.succ (.among ey) s2)),hx,(g.c.up fun kn' x _ e=>ua kn' x e).app (c2.up fun kn' x l z=>by rw[up kn' l];exact z), ?_,hr2⟩
       have hl:=c2.le
       have:=up (kn0.puts (d++(us++vs))) (by rw[Kn.gW,Kn.gW];exact hl)
       exact this.trans e2
     | inr v=>
       rw[eb] at hb
       obtain⟨m,vs,s2,g2,hr2⟩:=hb
       rw[Kn.gW] at g2
       rw[List.append_assoc] at s2 hr2
       exact⟨n+(m+1)+1,us++vs, .succ .cho (s.add (.succ (.among ey) s2)),V1 g ey g2,hr2⟩
theorem Reach.adD {kn:Kn}{r:R} (hr:r.Fn kn) {c:Cf} (g:Reach kn r c):∃n c',StN kn n c c'/\Halt kn c'/\Reach kn r c'/\Goes kn r c':=by
 have h:=Fi (kn:=kn) r hr [] [] [] Su
 unfold vU at h
 unfold Goes
 obtain⟨m,g⟩:=g
 cases e:ev kn r with
 | inr v=>
   rw[e] at h
   obtain⟨n,us,s,gg,hr⟩:=h
   obtain⟨k,t⟩:=g.rest s (.inl rfl)
   exact⟨k,_,t, .inl rfl,⟨n,s⟩,rfl,rfl,gg,hr⟩
 | inl x=>
   rw[e] at h
   obtain⟨n,t',f',us,s,hx,c1,e1,hr⟩:=h
   have hh:Halt kn ⟨t'++[.r (.rd x)],f',[]++us⟩:= .inr ⟨t',x,rfl,hx⟩
   obtain⟨k,t⟩:=g.rest s hh
   exact⟨k,_,t,hh,⟨n,s⟩,⟨t',rfl⟩,hx,us,c1,e1,hr⟩
def R.nms:R->List Str
 | .num _=>[]
 | .rd x=>[x]
 | .bin _ a b=>a.nms++b.nms
 | .pick a b c=>a.nms++(b.nms++c.nms)
 | .cho a ns=>a.nms++ns
theorem R.uo:∀r:R,r.In r.nms
 | .num _=>trivial
 | .rd x=>List.mem_singleton.mpr rfl
 | .bin _ a b=>⟨a.uo.mono fun x hx=>List.mem_append_left _ hx,b.uo.mono fun x hx=>List.mem_append_right _ hx⟩
 | .pick a b c=>⟨a.uo.mono fun x hx=>List.mem_append_left _ hx,b.uo.mono fun x hx=>List.mem_append_right _ (List.mem_append_left _ hx),c.uo.mono fun x hx=>List.mem_append_right _ (List.mem_append_right _ hx)⟩
 | .cho a ns=>⟨a.uo.mono fun x hx=>List.mem_append_left _ hx,fun x hx=>List.mem_append_right _ hx⟩
theorem Kv {r:R}{ps:List Rdp}{kn:Kn}{ns:List Str} (c:Chn r kn ps) (hi:r.In ns):ps.length<=ns.length:=by
 have h:=jA (ws:=ps.map (·.1)) (ns:=ns) (xN c).2 fun x hx=>by
  obtain⟨p,hp,rfl⟩:=List.mem_map.mp hx
  exact R7 hi c p hp
 rwa [List.length_map] at h
structure SrD where
 so:Addr
 dx:Addr
 g:Addr
 c:Addr
 o:Addr
 dxo:Addr
 rcd:Addr
 kd:Addr
 sd:Addr
 rd:Addr
def srF (g c o kd sd rd:Addr):List (Str×V):=[("given", .ref g),("recipes", .ref c),("old", .ref o),("known", .ref kd),("settled", .ref sd),("reckoned", .ref rd)]
structure SrC (K:PySem.W.Frag) (C:Addr):Prop where
 cl:Cls K C
 nG:iV K C "given"
 nR:iV K C "recipes"
 nO:iV K C "old"
 nK:iV K C "known"
 nS:iV K C "settled"
 nM:iV K C "reckoned"
theorem zX (g c o kd sd rd:Addr):List.lookup ("given":Str) (srF g c o kd sd rd)=some (.ref g):=rfl
theorem uq (g c o kd sd rd:Addr):List.lookup ("recipes":Str) (srF g c o kd sd rd)=some (.ref c):=rfl
theorem Je (g c o kd sd rd:Addr):List.lookup ("old":Str) (srF g c o kd sd rd)=some (.ref o):=rfl
theorem zY (g c o kd sd rd:Addr):List.lookup ("known":Str) (srF g c o kd sd rd)=some (.ref kd):=rfl
theorem ur (g c o kd sd rd:Addr):List.lookup ("settled":Str) (srF g c o kd sd rd)=some (.ref sd):=rfl
theorem qy (g c o kd sd rd:Addr):List.lookup ("reckoned":Str) (srF g c o kd sd rd)=some (.ref rd):=rfl
theorem iW (g c o kd sd rd:Addr):List.lookup ("begin":Str) (srF g c o kd sd rd)=none/\List.lookup ("end":Str) (srF g c o kd sd rd)=none/\List.lookup ("made":Str) (srF g c o kd sd rd)=none/\List.lookup ("kept":Str) (srF g c o kd sd rd)=none/\List.lookup ("settle":Str) (srF g c o kd sd rd)=none:=⟨rfl,rfl,rfl,rfl,rfl⟩
theorem BJ (rcd:Addr):List.lookup ("records_for":Str) (nrF rcd)=none/\List.lookup ("put_made":Str) (nrF rcd)=none:=⟨rfl,rfl⟩
def Mu (H:Hp) (z:Addr):Prop:=∃o,H z=some o/\∀xs,o≠ .tup xs
def adE:Option HO->Option HO->Option HO
 | some (.tup xs),_=>some (.tup xs)
 | _,d=>d
def grow (Hf H H1:Hp):Hp:=fun a=>if H a=none then H1 a else adE (H1 a) (Hf a)
theorem Wd {Hf H H1:Hp} (s0:aN Hf H) (s1:aN H H1):aN Hf (grow Hf H H1):=fun a o e=>by
 have h0:=s0 _ _ e
 have h1:=s1 _ _ h0
 unfold grow
 rw[if_neg (by rw[h0];simp),h1]
 cases o<;>first | exact e | rfl
theorem We {Hf H H1:Hp} (s0:aN Hf H) (s1:aN H H1):aN (grow Hf H H1) H1:=fun a o e=>by
 unfold grow at e
 split at e
 ·exact e
 ·cases h1:H1 a with
  | none=>
    rw[h1] at e
    have e:Hf a=some o:=e
    have:=s1 _ _ (s0 _ _ e)
    rw[h1] at this;cases this
  | some u=>
    rw[h1] at e
    cases u with
    | tup xs=>exact e
    | _=>
      have e:Hf a=some o:=e
      have:=s1 _ _ (s0 _ _ e)
      rw[h1] at this;exact this
theorem Qt {Hf H H1:Hp}:jX H1 (grow Hf H H1):=fun a xs e=>by
 unfold grow
 split
 ·exact e
 ·rw[e];rfl
theorem Sx {Hf H H1:Hp}{a:Addr} (h:H a=none):grow Hf H H1 a=H1 a:=by unfold grow;rw[if_pos h]
theorem DP {Hf H H1:Hp} (s1:aN H H1) {z:Addr} (m:Mu H z) (hz:Hf z=none):grow Hf H H1 z=none:=by
 obtain⟨o,e,n⟩:=m
 have h1:=s1 _ _ e
 unfold grow
 rw[if_neg (by rw[e];simp),h1]
 cases o with
 | tup xs=>exact absurd rfl (n xs)
 | _=>exact hz
theorem Rcd.le {rm:Rm}{y:Str}{r:R}{kn kn':Kn}{ps:List Rdp}{v:Int}{m:Bool} (h:Rcd rm y r kn ps v m) (l:Kn.Le kn kn'):Rcd rm y r kn' ps v m:=by
 obtain⟨h1,h2,h3⟩:=h
 refine⟨h1,h2.le l, ?_⟩
 cases m with
 | true=>rw[if_pos rfl] at h3 ⊢;exact h3.le l
 | false=>exact h3
inductive Rch (gv:Kn) (rc:Rn) (kn:Kn) (x:Str):Str->Prop where
 | refl:Rch gv rc kn x x
 | step {y z:Str}{r:R} (h:Rch gv rc kn x y) (hg:gv y=none) (hr:rc y=some r) (hs:yu kn r z):Rch gv rc kn x z
theorem yu.le {kn kn':Kn}{r:R}{x:Str} (h:yu kn r x) (l:Kn.Le kn kn'):yu kn' r x:=let ⟨ps,a,b,c⟩:=h;⟨ps,a,b,c.le l⟩
theorem Rch.le {gv:Kn}{rc:Rn}{kn kn':Kn}{x y:Str} (h:Rch gv rc kn x y) (l:Kn.Le kn kn'):Rch gv rc kn' x y:=by
 induction h with
 | refl=>exact .refl
 | step _ hg hr hs ih=>exact .step ih hg hr (hs.le l)
def Kw (CSe:Addr):Sp:=fun vs H Q _=>∃(a dx h g c o:Addr),vs=[.ref a, .ref h, .ref o]/\H a=some (.ins CSe dx [])/\H h=some (.tup [.ref g, .ref c])/\
 ∀kd sd rd H',But [a] H H'->H' a=some (.ins CSe dx (srF g c o kd sd rd))->H kd=none->H sd=none->H rd=none->kd≠sd->kd≠rd->sd≠rd->H' kd=some (.dK [])->H' sd=some (.dK [])->H' rd=some (.dK [])->Q .non H'
structure RcG (r:R):Prop where
 g:r.Eo
 d:r.depth<=8
 w:wR r<=4000
 l:r.nms.length<=900
structure BK (H:Hp) (kg kc:List (Key×V)) (gs cs:List Str) (gv:Kn) (rc:Rn):Prop where
 k1:j9 kg gs
 k2:j9 kc cs
 n:gs.length+cs.length<=60
 g:∀x,dX kg (.inr x)=(gv x).map V.int
 r:∀x r,rc x=some r->∃b,dX kc (.inr x)=some (.ref b)/\IsR H b r
 rn:∀x,rc x=none->dX kc (.inr x)=none
 ok:∀x r,rc x=some r->RcG r
theorem BK.tups {H H':Hp}{kg kc:List (Key×V)}{gs cs:List Str}{gv:Kn}{rc:Rn} (h:BK H kg kc gs cs gv rc) (t:jX H H'):BK H' kg kc gs cs gv rc:=
 ⟨h.k1,h.k2,h.n,h.g,fun x r e=>let ⟨b,h1,h2⟩:=h.r x r e;⟨b,h1,h2.tups t⟩,h.rn,h.ok⟩
theorem BK.gm {H:Hp}{kg kc:List (Key×V)}{gs cs:List Str}{gv:Kn}{rc:Rn} (h:BK H kg kc gs cs gv rc) {x:Str} (hx:gv x≠none):x∈gs:=Decidable.byContradiction fun w=>by
 have:=h.k1.none.mpr w
 rw[h.g] at this
 cases e:gv x with
 | none=>exact hx e
 | some v=>rw[e] at this;cases this
theorem BK.cm {H:Hp}{kg kc:List (Key×V)}{gs cs:List Str}{gv:Kn}{rc:Rn} (h:BK H kg kc gs cs gv rc) {x:Str} (hx:rc x≠none):x∈cs:=Decidable.byContradiction fun w=>by
 have:=h.k2.none.mpr w
 cases e:rc x with
 | none=>exact hx e
 | some r=>
   obtain⟨b,hb,_⟩:=h.r x r e
   rw[hb] at this;cases this
def oH (H:Hp) (h g c:Addr) (gs cs:List Str) (gv:Kn) (rc:Rn):Prop:=∃kg kc,H h=some (.tup [.ref g, .ref c])/\H g=some (.dK kg)/\H c=some (.dK kc)/\BK H kg kc gs cs gv rc
theorem oH.same {H H':Hp}{h g c:Addr}{gs cs:List Str}{gv:Kn}{rc:Rn} (a:oH H h g c gs cs gv rc) (s:aN H H'):oH H' h g c gs cs gv rc:=by
 obtain⟨kg,kc,e,e1,e2,b⟩:=a
 exact⟨kg,kc,s _ _ e,s _ _ e1,s _ _ e2,b.tups (aN.tups s)⟩
structure uv (H:Hp) (kr:List (Key×V)) (rm:Rm):Prop where
 k:∃rs,j9 kr rs
 v:∀x q,rm x=some q->∃b,dX kr (.inr x)=some (.ref b)/\Dg [] H b q
 w:∀x,rm x=none->dX kr (.inr x)=none
theorem uv.map {H H':Hp}{kr:List (Key×V)}{rm:Rm} (h:uv H kr rm) (f:∀b q,Dg [] H b q->Dg [] H' b q):uv H' kr rm:=⟨h.k,fun x q e=>let ⟨b,h1,h2⟩:=h.v x q e;⟨b,h1,f b q h2⟩,h.w⟩
theorem uv.same {H H':Hp}{kr:List (Key×V)}{rm:Rm} (h:uv H kr rm) (s:aN H H'):uv H' kr rm:=h.map fun _ _ z=>z.same s
theorem uv.put {H:Hp}{kr:List (Key×V)}{rm:Rm} (h:uv H kr rm) {x:Str}{q:R×List Rdp×Int}{b:Addr} (ra:Dg [] H b q):uv H (putK kr (.inr x) (.ref b)) (rm.put x q):=by
 obtain⟨rs,k⟩:=h.k
 refine⟨?_,fun y u e=> ?_,fun y e=> ?_⟩
 ·by_cases z:x∈rs
  ·exact⟨_,k.Bx z _⟩
  ·exact⟨_,k.uf z _⟩
 ·rw[jw]
  unfold Rm.put at e
  by_cases z:y=x
  ·rw[if_pos z] at e;cases e
   exact⟨b,by rw[if_pos (by rw[z])],ra⟩
  ·rw[if_neg z] at e
   obtain⟨b',hb,ra'⟩:=h.v y u e
   exact⟨b',by rw[if_neg (lV z)];exact hb,ra'⟩
 ·rw[jw]
  unfold Rm.put at e
  by_cases z:y=x
  ·rw[if_pos z] at e;cases e
  ·rw[if_neg z] at e
   rw[if_neg (lV z)];exact h.w y e
structure RecM (H0 H:Hp) (kr:List (Key×V)) (rm:Rm):Prop where
 s:uv H kr rm
 f:∀x q b,rm x=some q->dX kr (.inr x)=some (.ref b)->∃br l v,H b=some (.tup [br, .ref l,v])/\H0 l=none
 d:∀x y q q' b b' br br' l l' v v',x≠y->rm x=some q->rm y=some q'->dX kr (.inr x)=some (.ref b)->dX kr (.inr y)=some (.ref b')->H b=some (.tup [br, .ref l,v])->H b'=some (.tup [br', .ref l',v'])->l≠l'
theorem RecM.nil {H0 H:Hp}:RecM H0 H [] (fun _=>none):=⟨⟨⟨[],⟨rfl,by simp⟩⟩,fun x q e=>(nomatch e),fun x _=>pN⟩,fun x q b e=>(nomatch e),fun x y q q' b b' br br' l l' v v' _ e=>(nomatch e)⟩
theorem RecM.same {H0 H H':Hp}{kr:List (Key×V)}{rm:Rm} (h:RecM H0 H kr rm) (s:aN H H'):RecM H0 H' kr rm:=by
 have key:∀{x q b br l v},rm x=some q->dX kr (.inr x)=some (.ref b)->H' b=some (.tup [br, .ref l,v])->H b=some (.tup [br, .ref l,v]):=fun{x q b br l v} e1 e2 e3=>by
  obtain⟨br',l',v',a,_⟩:=h.f x q b e1 e2
  have:=s _ _ a
  rw[e3] at this
  cases this;exact a
 exact⟨h.s.same s,fun x q b e1 e2=>let ⟨br,l,v,a,c⟩:=h.f x q b e1 e2;⟨br,l,v,s _ _ a,c⟩,fun x y q q' b b' br br' l l' v v' n e1 e2 e3 e4 e5 e6=>h.d x y q q' b b' br br' l l' v v' n e1 e2 e3 e4 (key e1 e3 e5) (key e2 e4 e6)⟩
theorem RecM.low {H0 H1 H:Hp}{kr:List (Key×V)}{rm:Rm} (h:RecM H1 H kr rm) (s:aN H0 H1):RecM H0 H kr rm:=⟨h.s,fun x q b e1 e2=>let ⟨br,l,v,a,c⟩:=h.f x q b e1 e2;⟨br,l,v,a,same_none s c⟩,h.d⟩
theorem RecM.put {H0 H:Hp}{kr:List (Key×V)}{rm:Rm} (h:RecM H0 H kr rm) {x:Str}{q:R×List Rdp×Int}{b br l:Addr}{v:V} (ra:Dg [] H b q) (eb:H b=some (.tup [.ref br, .ref l,v])) (hl:H0 l=none) (hx:rm x=none) (hnew:∀y u b' br' l' v',rm y=some u->dX kr (.inr y)=some (.ref b')->H b'=some (.tup [br', .ref l',v'])->l'≠l):RecM H0 H (putK kr (.inr x) (.ref b)) (rm.put x q):=by
 refine⟨h.s.put ra,fun y u b' e1 e2=> ?_,fun y z u u' b' b'' br' br'' l' l'' v' v'' n e1 e2 e3 e4 e5 e6=> ?_⟩
 ·rw[jw] at e2
  unfold Rm.put at e1
  by_cases z:y=x
  ·rw[if_pos (by rw[z])] at e2;cases e2
   exact⟨_,_,_,eb,hl⟩
  ·rw[if_neg (lV z)] at e2
   rw[if_neg z] at e1
   exact h.f y u b' e1 e2
 ·rw[jw] at e3 e4
  unfold Rm.put at e1 e2
  by_cases z1:y=x
  ·rw[if_pos (by rw[z1])] at e3;cases e3
   rw[eb] at e5;cases e5
   have z2:¬z=x:=fun w=>n (z1.trans w.symm)
   rw[if_neg (lV z2)] at e4
   rw[if_neg z2] at e2
   exact Ne.symm (hnew z u' b'' br'' l'' v'' e2 e4 e6)
  ·rw[if_neg (lV z1)] at e3
   rw[if_neg z1] at e1
   by_cases z2:z=x
   ·rw[if_pos (by rw[z2])] at e4;cases e4
    rw[eb] at e6;cases e6
    exact hnew y u b' br' l' v' e1 e3 e5
   ·rw[if_neg (lV z2)] at e4
    rw[if_neg z2] at e2
    exact h.d y z u u' b' b'' br' br'' l' l'' v' v'' n e1 e2 e3 e4 e5 e6
def RmF (gv:Kn) (rc:Rn) (rm:Rm):Prop:=∀x r ps v,rm x=some (r,ps,v)->gv x=none->rc x=some r->nU r kn0 ps v
def Oz (C:Addr):Sp:=fun vs H Q _=>∃(o dx rcd b:Addr) (kr:List (Key×V)) (rm:Rm) (y:Str) (r:R),vs=[.ref o, .str y, .ref b]/\H o=some (.ins C dx (nrF rcd))/\H rcd=some (.dK kr)/\uv H kr rm/\IsR H b r/\r.Eo/\r.depth<=8/\
 ∀fl H',aN H H'->H fl=none->(∀kn,Kp H' fl kr rm y r kn 0)->Q (.ref fl) H'
def HJ (CS CR:Addr):Sp:=fun vs H Q _=>∃(A:SeD) (d:Addr) (kr:List (Key×V)) (rm:Rm) (y:Str) (r:R) (kn:Kn),vs=[.ref A.s, .ref d]/\um CS CR kr rm y r kn A H/\uv H kr rm/\(∀ps v,rm y=some (r,ps,v)->nU r kn0 ps v)/\RcG r/\R3 H d kn/\d≠A.a3/\r.Fn kn/\
 ∀(A':SeD) H',But A.ft H H'->A'.s=A.s->A'.b=A.b->A'.rk=A.rk->A'.a1=A.a1->A'.a2=A.a2->A'.a3=A.a3->(A'.fl=A.fl\/H A'.fl=none)->um CS CR kr rm y r kn A' H'->
  (Sv H' CR kr rm y r kn A'->Q .non H')/\∀x,kn x=none->yu kn r x->Q (.str x) H'
def OD (CS CR:Addr):Sp:=fun vs H Q _=>∃(A:SeD) (kr:List (Key×V)) (rm:Rm) (y:Str) (r:R) (kn:Kn),vs=[.ref A.s]/\H A.s=some (.ins CS A.dx (seF A.b A.fl A.k A.rk))/\uv H kr rm/\(∀ps v,rm y=some (r,ps,v)->nU r kn0 ps v)/\RcG r/\Sv H CR kr rm y r kn A/\
 ∀(rb l:Addr) (as:List Addr) (ps:List Rdp) (v:Int) (made:Bool) (H':Hp),aN H H'->H' rb=some (.tup [.ref A.b, .ref l, .int v])->H l=none->H' l=some (.lst (as.map V.ref))->jZ H' as ps->Rcd rm y r kn ps v made->(∃xs,H' A.fl=some (.lst xs)/\decide (xs.length=0)=made)->Q (.ref rb) H'
structure StG (gv:Kn) (rc:Rn) (kn:Kn) (rm:Rm):Prop where
 a:∀x v,kn x=some v->gv x=some v\/(gv x=none/\∃r ps,rc x=some r/\rm x=some (r,ps,v))
 b:∀x r ps v,rm x=some (r,ps,v)->rc x=some r/\gv x=none/\kn x=some v/\nU r kn0 ps v/\Rows kn ps
theorem StG.Wf {gv:Kn}{rc:Rn}{kn:Kn}{rm:Rm} (h:StG gv rc kn rm) {x:Str}{v:Int} (hk:kn x=none) (hg:gv x=some v):StG gv rc (kn.put x v) rm:=by
 have le:=Kn.qK (v:=v) hk
 refine⟨fun y u e=> ?_,fun y r ps u e=> ?_⟩
 ·unfold Kn.put at e
  by_cases z:y=x
  ·rw[if_pos z] at e;cases e;rw[z];exact .inl hg
  ·rw[if_neg z] at e;exact h.a y u e
 ·obtain⟨a,b,c,d,f⟩:=h.b y r ps u e
  exact⟨a,b,le _ _ c,d,f.le le⟩
theorem StG.rY {gv:Kn}{rc:Rn}{kn:Kn}{rm:Rm} (h:StG gv rc kn rm) {x:Str}{r:R}{ps:List Rdp}{v:Int} (hk:kn x=none) (hg:gv x=none) (hr:rc x=some r) (got:nU r kn0 ps v) (row:Rows kn ps):StG gv rc (kn.put x v) (rm.put x (r,ps,v)):=by
 have le:=Kn.qK (v:=v) hk
 refine⟨fun y u e=> ?_,fun y r' ps' u e=> ?_⟩
 ·unfold Kn.put at e
  unfold Rm.put
  by_cases z:y=x
  ·rw[if_pos z] at e;cases e
   rw[z];exact .inr ⟨hg,r,ps,hr,if_pos rfl⟩
  ·rw[if_neg z] at e
   rcases h.a y u e with w | ⟨w,r1,p1,w1,w2⟩
   ·exact .inl w
   ·exact .inr ⟨w,r1,p1,w1,by rw[if_neg z];exact w2⟩
 ·unfold Rm.put at e
  by_cases z:y=x
  ·rw[if_pos z] at e;cases e
   rw[z]
   exact⟨hr,hg,by unfold Kn.put;rw[if_pos rfl],got,row.le le⟩
  ·rw[if_neg z] at e
   obtain⟨a,b,c,d,f⟩:=h.b y r' ps' u e
   exact⟨a,b,le _ _ c,d,f.le le⟩
structure Gx (CSe CN:Addr) (D:SrD) (gs cs:List Str) (gv:Kn) (rc:Rn) (kg kc kr:List (Key×V)) (rm:Rm) (Hf:Hp):Prop where
 e:Hf D.so=some (.ins CSe D.dx (srF D.g D.c D.o D.kd D.sd D.rd))
 eg:Hf D.g=some (.dK kg)
 ec:Hf D.c=some (.dK kc)
 bd:BK Hf kg kc gs cs gv rc
 eo:Hf D.o=some (.ins CN D.dxo (nrF D.rcd))
 er:Hf D.rcd=some (.dK kr)
 rD:uv Hf kr rm
 rf:RmF gv rc rm
 ne:D.kd≠D.sd/\D.kd≠D.rd/\D.sd≠D.rd
theorem Gx.same {CSe CN:Addr}{D:SrD}{gs cs:List Str}{gv:Kn}{rc:Rn}{kg kc kr:List (Key×V)}{rm:Rm}{Hf H:Hp} (h:Gx CSe CN D gs cs gv rc kg kc kr rm Hf) (s:aN Hf H):Gx CSe CN D gs cs gv rc kg kc kr rm H:=
 ⟨s _ _ h.e,s _ _ h.eg,s _ _ h.ec,h.bd.tups (aN.tups s),s _ _ h.eo,s _ _ h.er,h.rD.same s,h.rf,h.ne⟩
structure j0 (H0:Hp) (D:SrD) (gv:Kn) (rc:Rn) (rm:Rm) (kn:Kn) (rmN:Rm) (rkn:Str->Bool) (od:List Str) (Hf H:Hp):Prop where
 sm:aN Hf H
 fk:Hf D.kd=none
 fs:Hf D.sd=none
 fr:Hf D.rd=none
 ek:∃kw ws,H D.kd=some (.dK kw)/\j9 kw ws/\∀x,dX kw (.inr x)=(kn x).map V.int
 es:∃ks,H D.sd=some (.dK ks)/\RecM H0 Hf ks rmN/\j9 ks od
 er:∃kk rs,H D.rd=some (.dK kk)/\j9 kk rs/\(∀x,dX kk (.inr x)=if rkn x=true then some (.bl true) else none)/\∀x,rkn x=true->rmN x≠none
 ok:StG gv rc kn rmN
 md:∀x r ps v,rmN x=some (r,ps,v)->Rcd rm x r kn ps v (rkn x)
 h0:aN H0 Hf
theorem StG.Sy {H:Hp}{kg kc:List (Key×V)}{gs cs:List Str}{gv:Kn}{rc:Rn}{kn:Kn}{rm:Rm} (h:StG gv rc kn rm) (b:BK H kg kc gs cs gv rc) {x:Str} (hx:kn x≠none):x∈gs++cs:=by
 cases e:kn x with
 | none=>exact absurd e hx
 | some v=>
   rcases h.a x v e with w | ⟨_,r,_,w,_⟩
   ·exact List.mem_append_left _ (b.gm (by rw[w];simp))
   ·exact List.mem_append_right _ (b.cm (by rw[w];simp))
theorem j0.kl {H0 H9:Hp}{kg kc:List (Key×V)}{gs cs:List Str}{D:SrD}{gv:Kn}{rc:Rn}{rm:Rm}{kn:Kn}{rmN:Rm}{rkn:Str->Bool}{od:List Str}{Hf H:Hp} (h:j0 H0 D gv rc rm kn rmN rkn od Hf H) (b:BK H9 kg kc gs cs gv rc) {kw:List (Key×V)}{ws:List Str} (k:j9 kw ws) (hk:∀x,dX kw (.inr x)=(kn x).map V.int):kw.length<=60:=by
 rw[k.len]
 have:=jA (ws:=ws) (ns:=gs++cs) k.nd fun x hx=>h.ok.Sy b fun e=>k.none.mp (by rw[hk,e];rfl) hx
 rw[List.length_append] at this
 have:=b.n
 omega
theorem j0.sl {H0 H9:Hp}{kg kc:List (Key×V)}{gs cs:List Str}{D:SrD}{gv:Kn}{rc:Rn}{rm:Rm}{kn:Kn}{rmN:Rm}{rkn:Str->Bool}{od:List Str}{Hf H:Hp} (h:j0 H0 D gv rc rm kn rmN rkn od Hf H) (b:BK H9 kg kc gs cs gv rc) {kw:List (Key×V)}{ws:List Str} (k:j9 kw ws) (hk:∀x,rmN x=none->dX kw (.inr x)=none):kw.length<=60:=by
 rw[k.len]
 have:=jA (ws:=ws) (ns:=gs++cs) k.nd fun x hx=>h.ok.Sy b fun e=>by
  cases z:rmN x with
  | none=>exact k.none.mp (hk x z) hx
  | some q=>
    obtain⟨r,ps,v⟩:=q
    have:=(h.ok.b x r ps v z).2.2.1
    rw[e] at this;cases this
 rw[List.length_append] at this
 have:=b.n
 omega
def OJ (CSe CN CS CR:Addr):Sp:=fun vs H Q _=>∃(H0:Hp) (D:SrD) (gs cs:List Str) (gv:Kn) (rc:Rn) (kg kc kr:List (Key×V)) (rm:Rm) (kn:Kn) (rmN:Rm) (rkn:Str->Bool) (od:List Str) (Hf:Hp) (A:SeD) (y:Str) (r:R),vs=[.ref D.so, .str y, .ref A.s]/\Gx CSe CN D gs cs gv rc kg kc kr rm Hf/\j0 H0 D gv rc rm kn rmN rkn od Hf H/\
 H A.s=some (.ins CS A.dx (seF A.b A.fl A.k A.rk))/\IsR H A.b r/\Sv H CR kr rm y r kn A/\kn y=none/\gv y=none/\rc y=some r/\(∀z∈A.ft,z∉[D.kd,D.sd,D.rd])/\
 ∀(v:Int) (ps:List Rdp) (made:Bool) (Hf' H':Hp),But [D.kd,D.sd,D.rd] H H'->aN Hf Hf'->(∀z,Mu H z->Hf z=none->Hf' z=none)->j0 H0 D gv rc rm (kn.put y v) (rmN.put y (r,ps,v)) (fun x=>if x=y then made else rkn x) (od++[y]) Hf' H'->ev kn r= .inr v->Q .non H'
def Fj (kn:Kn) (ns:List Str):Nat:=(ns.filter fun x=>(kn x).isNone).length
theorem yM {p p':Str->Bool}:∀{l:List Str},(∀j∈l,p' j=true->p j=true)->∀{i:Str},i∈l->p i=true->p' i=false->(l.filter p').length+1<=(l.filter p).length
 |[],_,i,hi,_,_=>by cases hi
 | a::l,h,i,hi,h1,h2=>by
   have hle:∀l:List Str,(∀j∈l,p' j=true->p j=true)->(l.filter p').length<=(l.filter p).length:=by
    intro l
    induction l with
    | nil=>intro _;exact Nat.le_refl _
    | cons b l ih=>
      intro h
      have ih:=ih fun j hj=>h j (by simp[hj])
      rw[List.filter_cons,List.filter_cons]
      by_cases hb:p' b=true
      ·rw[if_pos hb,if_pos (h b (by simp) hb)];simp;exact ih
      ·rw[if_neg hb]
       split
       ·simp;omega
       ·exact ih
   rcases List.mem_cons.mp hi with z | z
   ·subst z
    rw[List.filter_cons,List.filter_cons,if_neg (by rw[h2];decide),if_pos h1]
    have:=hle l fun j hj=>h j (by simp[hj])
    simp;exact this
   ·have ih:=yM (l:=l) (fun j hj=>h j (by simp[hj])) z h1 h2
    rw[List.filter_cons,List.filter_cons]
    by_cases hb:p' a=true
    ·rw[if_pos hb,if_pos (h a (by simp) hb)];simp;exact ih
    ·rw[if_neg hb]
     split
     ·simp;omega
     ·exact ih
theorem Fl {kn:Kn}{ns:List Str}{x:Str}{v:Int} (hi:x∈ns) (h:kn x=none):Fj (kn.put x v) ns+1<=Fj kn ns:=by
 refine yM (fun j _ hj=> ?_) hi (by simp only[h];rfl) ?_
 ·unfold Kn.put at hj
  by_cases z:j=x
  ·rw[if_pos z] at hj;cases hj
  ·rw[if_neg z] at hj;exact hj
 ·unfold Kn.put;rw[if_pos rfl];rfl
theorem Ky {S:List Addr}{H H':Hp} (b:But S H H') (m:∀z∈S,Mu H z):jX H H':=fun p xs e=>b p _ (fun w=>by
 obtain⟨o,h1,h2⟩:=m p w
 rw[e] at h1;cases h1;exact h2 _ rfl) e
theorem Mu.but {S:List Addr}{H H':Hp}{z:Addr} (m:Mu H z) (b:But S H H') (hz:z∉S):Mu H' z:=let ⟨o,h1,h2⟩:=m;⟨o,b _ _ hz h1,h2⟩
theorem Mu.some {H:Hp}{z:Addr} (m:Mu H z):H z≠none:=let ⟨o,h1,_⟩:=m;by rw[h1];simp
section
variable {CS CR:Addr}{D:SrD}{pth bgd:Addr}{n:Nat}{gv:Kn}{rc:Rn}{kr:List (Key×V)}{rm:Rm}{kn kn':Kn}{bg:Str->Option SeD}{Hf Hf' H H':Hp}
theorem um.mu {y:Str}{r:R}{A:SeD} (h:um CS CR kr rm y r kn A H):∀z∈A.ft,Mu H z:=fun z hz=>by
 obtain⟨c,rc',_⟩:=h.c
 have hz:z=A.s\/z=A.fl\/z=A.rk\/z=A.a1\/z=A.a2\/z=A.a3:=by simpa [SeD.ft] using hz
 rcases hz with rfl | rfl | rfl | rfl | rfl | rfl
 ·exact⟨_,h.e,by simp⟩
 ·rcases h.f with⟨rb,ps,v,w1,_⟩ | ⟨w1,_⟩
  ·exact⟨_,w1,by simp⟩
  ·exact⟨_,w1,by simp⟩
 ·exact⟨_,rc'.e,by simp⟩
 ·obtain⟨ws,w1,_⟩:=rc'.e1
  exact⟨_,w1,by simp⟩
 ·exact⟨_,rc'.e2,by simp⟩
 ·exact⟨_,rc'.e3,by simp⟩
def j6 (bg:Str->Option SeD) (y:Str) (A:SeD):Str->Option SeD:=fun x=>if x=y then some A else bg x
end
theorem j0.but {H0:Hp}{D:SrD}{gv:Kn}{rc:Rn}{rm:Rm}{kn:Kn}{rmN:Rm}{rkn:Str->Bool}{od:List Str}{Hf H H':Hp}{S:List Addr} (h:j0 H0 D gv rc rm kn rmN rkn od Hf H) (b:But S H H') (hf:∀z∈S,Hf z=none) (hk:D.kd∉S) (hs:D.sd∉S) (hr:D.rd∉S):j0 H0 D gv rc rm kn rmN rkn od Hf H':=by
 obtain⟨sm,fk,fs,fr,⟨kw,ws,e1,r1⟩,⟨ks,e2,r2⟩,⟨kk,rs,e3,r3⟩,ok,md,h0⟩:=h
 exact⟨fun z o e=>b z o (fun w=>by rw[hf z w] at e;cases e) (sm z o e),fk,fs,fr,⟨kw,ws,b _ _ hk e1,r1⟩,⟨ks,b _ _ hs e2,r2⟩,⟨kk,rs,b _ _ hr e3,r3⟩,ok,md,h0⟩
theorem j0.same {H0:Hp}{D:SrD}{gv:Kn}{rc:Rn}{rm:Rm}{kn:Kn}{rmN:Rm}{rkn:Str->Bool}{od:List Str}{Hf H H':Hp} (h:j0 H0 D gv rc rm kn rmN rkn od Hf H) (s:aN H H'):j0 H0 D gv rc rm kn rmN rkn od Hf H':=h.but (S:=[]) (But.of_same s) (by simp) (by simp) (by simp) (by simp)
structure BgG (CS CR:Addr) (D:SrD) (pth bgd:Addr) (gv:Kn) (rc:Rn) (kr:List (Key×V)) (rm:Rm) (kn:Kn) (bg:Str->Option SeD) (Hf H:Hp):Prop where
 e:∃kb ks,H bgd=some (.dK kb)/\j9 kb ks/\∀y,dX kb (.inr y)=(bg y).map fun A=>V.ref A.s
 nm:∀y,bg y≠none->rc y≠none
 ok:∀y A,bg y=some A->kn y=none->∃r,rc y=some r/\gv y=none/\um CS CR kr rm y r kn A H
 al:∀y A,bg y=some A->∀z∈A.ft,Mu H z/\Hf z=none/\z∉[pth,bgd,D.kd,D.sd,D.rd]
 dj:∀y y' A A',y≠y'->bg y=some A->bg y'=some A'->∀z∈A.ft,z∉A'.ft
section
variable {CS CR:Addr}{D:SrD}{pth bgd:Addr}{gv:Kn}{rc:Rn}{kr:List (Key×V)}{rm:Rm}{kn kn':Kn}{bg:Str->Option SeD}{Hf Hf' H H':Hp}
theorem BgG.but {S:List Addr} (h:BgG CS CR D pth bgd gv rc kr rm kn bg Hf H) (b:But S H H') (t:jX H H') (hb:bgd∉S) (hS:∀y A,bg y=some A->∀z∈A.ft,z∉S):BgG CS CR D pth bgd gv rc kr rm kn bg Hf H':=by
 obtain⟨⟨kb,ks,e1,e2,e3⟩,nm,ok,al,dj⟩:=h
 exact⟨⟨kb,ks,b _ _ hb e1,e2,e3⟩,nm,fun y A h1 h2=>let ⟨r,a1,a2,a3⟩:=ok y A h1 h2;⟨r,a1,a2,a3.move b t (hS y A h1)⟩,fun y A h1 z hz=>⟨(al y A h1 z hz).1.but b (hS y A h1 z hz),(al y A h1 z hz).2⟩,dj⟩
theorem BgG.same (h:BgG CS CR D pth bgd gv rc kr rm kn bg Hf H) (s:aN H H'):BgG CS CR D pth bgd gv rc kr rm kn bg Hf H':=h.but (S:=[]) (But.of_same s) (aN.tups s) (by simp) (by simp)
theorem BgG.off {S:List Addr} (h:BgG CS CR D pth bgd gv rc kr rm kn bg Hf H) (b:But S H H') (m:∀z∈S,Mu H z) (hS:∀z∈S,z∈[pth,D.kd,D.sd,D.rd]) (hb:bgd∉S):BgG CS CR D pth bgd gv rc kr rm kn bg Hf H':=
 h.but b (Ky b m) hb fun y A h1 z hz w=>(h.al y A h1 z hz).2.2 (by
   have:=hS z w
   simp only[List.mem_cons,List.not_mem_nil,or_false] at this ⊢
   rcases this with q | q | q | q
   ·exact .inl q
   ·exact .inr (.inr (.inl q))
   ·exact .inr (.inr (.inr (.inl q)))
   ·exact .inr (.inr (.inr (.inr q))))
theorem BgG.le (h:BgG CS CR D pth bgd gv rc kr rm kn bg Hf H) (l:Kn.Le kn kn'):BgG CS CR D pth bgd gv rc kr rm kn' bg Hf H:=
 ⟨h.e,h.nm,fun y A h1 h2=>by
   have h0:kn y=none:=by
    cases z:kn y with
    | none=>rfl
    | some v=>rw[l y v z] at h2;cases h2
   obtain⟨r,a1,a2,a3⟩:=h.ok y A h1 h0
   exact⟨r,a1,a2,a3.le l⟩,h.al,h.dj⟩
theorem BgG.hf (h:BgG CS CR D pth bgd gv rc kr rm kn bg Hf H) (f:∀z,Mu H z->Hf z=none->Hf' z=none):BgG CS CR D pth bgd gv rc kr rm kn bg Hf' H:=
 ⟨h.e,h.nm,h.ok,fun y A h1 z hz=>let ⟨a,b,c⟩:=h.al y A h1 z hz;⟨a,f z a b,c⟩,h.dj⟩
theorem BgG.new {H1:Hp}{y:Str}{r:R}{A:SeD}{kb:List (Key×V)} (h:BgG CS CR D pth bgd gv rc kr rm kn bg Hf H) (s:aN H H1) (hA:∀z∈A.ft,H z=none) (so:um CS CR kr rm y r kn A H1) (hr:rc y=some r) (hg:gv y=none) (hb:bg y=none)
 (ebd:H bgd=some (.dK kb)) (sf:aN Hf H) (al:∀z∈[pth,bgd,D.kd,D.sd,D.rd],H z≠none):BgG CS CR D pth bgd gv rc kr rm kn (j6 bg y A) Hf (upd H1 bgd (.dK (putK kb (.inr y) (.ref A.s)))):=by
 have h1:=h.same s
 have eb1:=s _ _ ebd
 have b1:But [bgd] H1 (upd H1 bgd (.dK (putK kb (.inr y) (.ref A.s)))):=But.set _ (by simp)
 have t1:jX H1 (upd H1 bgd (.dK (putK kb (.inr y) (.ref A.s)))):=ug eb1
 have nA:∀z∈A.ft,z∉[pth,bgd,D.kd,D.sd,D.rd]:=fun z hz w=>al z w (hA z hz)
 have nb:∀z∈A.ft,z∉[bgd]:=fun z hz w=>nA z hz (by simp at w ⊢;exact .inr (.inl w))
 obtain⟨⟨kb',ks,e1,e2,e3⟩,nm,ok,al1,dj⟩:=h1
 rw[eb1] at e1;cases e1
 have hyk:y∉ks:=e2.none.mp (by rw[e3,hb];rfl)
 refine⟨⟨_,_,ak,e2.uf hyk _,fun x=> ?_⟩,fun x hx=> ?_,fun x B h1 h2=> ?_,fun x B h1 z hz=> ?_,fun x x' B B' hne h1 h2 z hz=> ?_⟩
 ·rw[jw]
  unfold j6
  by_cases z:x=y
  ·rw[if_pos (by rw[z]),if_pos z];rfl
  ·rw[if_neg (lV z),if_neg z];exact e3 x
 ·unfold j6 at hx
  by_cases z:x=y
  ·rw[z,hr];simp
  ·rw[if_neg z] at hx;exact nm x hx
 ·unfold j6 at h1
  by_cases z:x=y
  ·rw[if_pos z] at h1;cases h1
   rw[z];exact⟨r,hr,hg,so.move b1 t1 nb⟩
  ·rw[if_neg z] at h1
   obtain⟨r',a1,a2,a3⟩:=ok x B h1 h2
   exact⟨r',a1,a2,a3.move b1 t1 fun w hw q=>(al1 x B h1 w hw).2.2 (by simp at q ⊢;exact .inr (.inl q))⟩
 ·unfold j6 at h1
  by_cases w:x=y
  ·rw[if_pos w] at h1;cases h1
   refine⟨(so.mu z hz).but b1 (nb z hz), ?_,nA z hz⟩
   cases q:Hf z with
   | none=>rfl
   | some o=>have:=sf _ _ q;rw[hA z hz] at this;cases this
  ·rw[if_neg w] at h1
   obtain⟨a1,a2,a3⟩:=al1 x B h1 z hz
   exact⟨a1.but b1 (fun q=>a3 (by simp at q ⊢;exact .inr (.inl q))),a2,a3⟩
 ·unfold j6 at h1 h2
  by_cases w:x=y
  ·rw[if_pos w] at h1;cases h1
   rw[if_neg (fun q=>hne (w.trans q.symm))] at h2
   exact fun q=>((h.al x' B' h2 z q).1.some) (hA z hz)
  ·rw[if_neg w] at h1
   by_cases w':x'=y
   ·rw[if_pos w'] at h2;cases h2
    exact fun q=>((h.al x B h1 z hz).1.some) (hA z q)
   ·rw[if_neg w'] at h2
    exact dj x x' B B' hne h1 h2 z hz
theorem BgG.set {y:Str}{r:R}{A A':SeD} (h:BgG CS CR D pth bgd gv rc kr rm kn bg Hf H) (hy:bg y=some A) (b:But A.ft H H') (so:um CS CR kr rm y r kn A' H') (hr:rc y=some r) (hg:gv y=none)
 (es:A'.s=A.s) (erk:A'.rk=A.rk) (e1:A'.a1=A.a1) (e2:A'.a2=A.a2) (e3:A'.a3=A.a3) (efl:A'.fl=A.fl\/H A'.fl=none) (sf:aN Hf H) (al:∀z∈[pth,bgd,D.kd,D.sd,D.rd],H z≠none):BgG CS CR D pth bgd gv rc kr rm kn (j6 bg y A') Hf H':=by
 have hin:∀z∈A'.ft,z∈A.ft\/H z=none:=fun z hz=>by
  have hz:z=A'.s\/z=A'.fl\/z=A'.rk\/z=A'.a1\/z=A'.a2\/z=A'.a3:=by simpa [SeD.ft] using hz
  rcases hz with w | w | w | w | w | w
  ·exact .inl (by rw[w,es];simp[SeD.ft])
  ·rcases efl with q | q
   ·exact .inl (by rw[w,q];simp[SeD.ft])
   ·exact .inr (by rw[w];exact q)
  ·exact .inl (by rw[w,erk];simp[SeD.ft])
  ·exact .inl (by rw[w,e1];simp[SeD.ft])
  ·exact .inl (by rw[w,e2];simp[SeD.ft])
  ·exact .inl (by rw[w,e3];simp[SeD.ft])
 have mA:∀z∈A.ft,Mu H z:=fun z hz=>(h.al y A hy z hz).1
 have t:=Ky b mA
 have nbg:bgd∉A.ft:=fun z=>(h.al y A hy _ z).2.2 (by simp)
 obtain⟨⟨kb,ks,f1,f2,f3⟩,nm,ok,al1,dj⟩:=h
 refine⟨⟨kb,ks,b _ _ nbg f1,f2,fun x=> ?_⟩,fun x hx=> ?_,fun x B h1 h2=> ?_,fun x B h1 z hz=> ?_,fun x x' B B' hne h1 h2 z hz=> ?_⟩
 ·rw[f3]
  unfold j6
  by_cases z:x=y
  ·rw[if_pos z,z,hy];show some (V.ref A.s)=some (V.ref A'.s);rw[es]
  ·rw[if_neg z]
 ·unfold j6 at hx
  by_cases z:x=y
  ·rw[z];exact nm y (by rw[hy];simp)
  ·rw[if_neg z] at hx;exact nm x hx
 ·unfold j6 at h1
  by_cases z:x=y
  ·rw[if_pos z] at h1;cases h1
   rw[z];exact⟨r,hr,hg,so⟩
  ·rw[if_neg z] at h1
   obtain⟨r',a1,a2,a3⟩:=ok x B h1 h2
   exact⟨r',a1,a2,a3.move b t fun w hw=>dj x y B A z h1 hy w hw⟩
 ·unfold j6 at h1
  by_cases w:x=y
  ·rw[if_pos w] at h1;cases h1
   refine⟨so.mu z hz, ?_, ?_⟩
   ·rcases hin z hz with q | q
    ·exact(al1 y A hy z q).2.1
    ·cases q':Hf z with
     | none=>rfl
     | some o=>have:=sf _ _ q';rw[q] at this;cases this
   ·rcases hin z hz with q | q
    ·exact(al1 y A hy z q).2.2
    ·exact fun w'=>al z w' q
  ·rw[if_neg w] at h1
   obtain⟨a1,a2,a3⟩:=al1 x B h1 z hz
   exact⟨a1.but b (dj x y B A w h1 hy z hz),a2,a3⟩
 ·unfold j6 at h1 h2
  by_cases w:x=y
  ·rw[if_pos w] at h1;cases h1
   rw[if_neg (fun q=>hne (w.trans q.symm))] at h2
   rcases hin z hz with q | q
   ·exact dj y x' A B' (fun e=>hne (w.trans e)) hy h2 z q
   ·exact fun w'=>((al1 x' B' h2 z w').1.some) q
  ·rw[if_neg w] at h1
   by_cases w':x'=y
   ·rw[if_pos w'] at h2;cases h2
    intro q
    rcases hin z q with q' | q'
    ·exact dj x y B A w h1 hy z hz q'
    ·exact((al1 x B h1 z hz).1.some) q'
   ·rw[if_neg w'] at h2
    exact dj x x' B B' hne h1 h2 z hz
end
section
variable {CSe CN CS CR:Addr}{D:SrD}{pth bgd:Addr}{n:Nat}{gv:Kn}{rc:Rn}{kg kc kr:List (Key×V)}{rm:Rm}{knI:Kn}{odI od:List Str}{HfI HI:Hp}{x:Str}{k0:Nat}{is js:List Nat}{i:Nat}{kn:Kn}{rmN:Rm}{rkn:Str->Bool}{bg:Str->Option SeD}{Hf H H':Hp}
end
def CV (ns:List Str) (kn:Kn) (is:List Str):Nat:=match is.getLast? with
 | none=>0
 | some i=>if(kn i).isNone=true then 200 * Fj kn ns+70 - is.length else 200 * Fj kn ns+100
theorem nW {ns:List Str}{kn:Kn}{js:List Str}{i:Str} (h:kn i=none):CV ns kn (js++[i])=200 * Fj kn ns+70 - (js.length+1):=by
 unfold CV
 rw[List.getLast?_concat]
 simp only[h]
 rw[List.length_append];rfl
theorem xR {ns:List Str}{kn:Kn}{js:List Str}{i:Str} (h:kn i≠none):CV ns kn (js++[i])=200 * Fj kn ns+100:=by
 unfold CV
 rw[List.getLast?_concat]
 simp only
 rw[if_neg]
 intro z
 exact h (Option.isNone_iff_eq_none.mp z)
theorem Kz {ns:List Str}{kn:Kn}{js:List Str} (h:∀j∈js,kn j=none):CV ns kn js<=200 * Fj kn ns+70 - js.length:=by
 rcases List.eq_nil_or_concat js with z | ⟨ks,j,z⟩
 ·subst z;exact Nat.zero_le _
 ·rw[List.concat_eq_append] at z
  subst z
  rw[nW (h j (by simp)),List.length_append]
  exact Nat.le_refl _
structure LpG (H0:Hp) (CSe CN CS CR:Addr) (D:SrD) (pth bgd:Addr) (gs cs:List Str) (gv:Kn) (rc:Rn) (kg kc kr:List (Key×V)) (rm:Rm) (knI:Kn) (odI:List Str) (HfI HI:Hp) (x:Str) (is:List Str) (kn:Kn) (rmN:Rm) (rkn:Str->Bool) (od:List Str) (bg:Str->Option SeD) (Hf H:Hp):Prop where
 b:But [D.kd,D.sd,D.rd] HI H
 sf:aN HfI Hf
 fm:∀z,Mu HI z->HfI z=none->Hf z=none
 sh:Gx CSe CN D gs cs gv rc kg kc kr rm Hf
 so:j0 H0 D gv rc rm kn rmN rkn od Hf H
 ep:H pth=some (.lst (is.map V.str))
 fp:Hf pth=none
 fb:Hf bgd=none
 ip:HI pth=none
 ib:HI bgd=none
 np:pth∉[D.kd,D.sd,D.rd]
 nb:bgd∉[D.kd,D.sd,D.rd]
 nn:pth≠bgd
 nd:is.Nodup
 un:∀i∈is.dropLast,kn i=none/\rc i≠none
 rch:∀i∈is,Rch gv rc kn x i
 le:Kn.Le knI kn
 new:∀y,kn y≠none->knI y≠none\/Rch gv rc kn x y
 bgi:BgG CS CR D pth bgd gv rc kr rm kn bg Hf H
 hd:is.head?=some x\/(is=[]/\kn x≠none)
 fr:∀y A,bg y=some A->∀z∈A.ft,HI z=none
 mv:Mvs gv rc ([x],knI,odI) (is.reverse,kn,od)
section
variable {H0:Hp}{CSe CN CS CR:Addr}{D:SrD}{pth bgd:Addr}{gs cs:List Str}{gv:Kn}{rc:Rn}{kg kc kr:List (Key×V)}{rm:Rm}{knI:Kn}{odI od:List Str}{HfI HI:Hp}{x:Str}{is js:List Str}{i:Str}{kn:Kn}{rmN:Rm}{rkn:Str->Bool}{bg:Str->Option SeD}{Hf H H':Hp}
theorem LpG.len (h:LpG H0 CSe CN CS CR D pth bgd gs cs gv rc kg kc kr rm knI odI HfI HI x is kn rmN rkn od bg Hf H):is.length<=61:=by
 have h1:=jA (ws:=is.dropLast) (ns:=cs) (h.nd.sublist (List.dropLast_sublist _)) fun y hy=>h.sh.bd.cm (h.un y hy).2
 have h2:=h.sh.bd.n
 rw[List.length_dropLast] at h1
 omega
theorem LpG.al (h:LpG H0 CSe CN CS CR D pth bgd gs cs gv rc kg kc kr rm knI odI HfI HI x is kn rmN rkn od bg Hf H):∀z∈[pth,bgd,D.kd,D.sd,D.rd],Mu H z:=fun z hz=>by
 obtain⟨kb,ks,e1,_⟩:=h.bgi.e
 obtain⟨kw,ws,e2,_⟩:=h.so.ek
 obtain⟨ks',e3,_⟩:=h.so.es
 obtain⟨kk,rs,e4,_⟩:=h.so.er
 have hz:z=pth\/z=bgd\/z=D.kd\/z=D.sd\/z=D.rd:=by simpa using hz
 rcases hz with rfl | rfl | rfl | rfl | rfl
 ·exact⟨_,h.ep,by simp⟩
 ·exact⟨_,e1,by simp⟩
 ·exact⟨_,e2,by simp⟩
 ·exact⟨_,e3,by simp⟩
 ·exact⟨_,e4,by simp⟩
theorem LpG.path {is':List Str} (h:LpG H0 CSe CN CS CR D pth bgd gs cs gv rc kg kc kr rm knI odI HfI HI x is kn rmN rkn od bg Hf H) (nd:is'.Nodup) (un:∀i∈is'.dropLast,kn i=none/\rc i≠none) (rch:∀i∈is',Rch gv rc kn x i) (hd:is'.head?=some x\/(is'=[]/\kn x≠none)) (hm:RB.mv gv rc (is.reverse,kn,od)=some (is'.reverse,kn,od)):
 LpG H0 CSe CN CS CR D pth bgd gs cs gv rc kg kc kr rm knI odI HfI HI x is' kn rmN rkn od bg Hf (upd H pth (.lst (is'.map V.str))):=by
 have hb:But [pth] H (upd H pth (.lst (is'.map V.str))):=But.set _ (by simp)
 have np:=h.np
 simp only[List.mem_cons,List.not_mem_nil,or_false,not_or] at np
 refine⟨h.b.upd _ h.ip,h.sf,h.fm,h.sh,h.so.but hb (fun z hz=> ?_) (fun z=>np.1 (List.mem_singleton.mp z).symm) (fun z=> ?_) (fun z=> ?_),ak,h.fp,h.fb,h.ip,h.ib,h.np,h.nb,h.nn,nd,un,rch,h.le,h.new,h.bgi.off hb (fun z hz=> ?_) (fun z hz=> ?_) (fun z=> ?_),hd,h.fr,h.mv.snoc hm⟩
 ·have:z=pth:=by simpa using hz
  rw[this];exact h.fp
 ·exact np.2.1 (by have:D.sd=pth:=by simpa using z
                   exact this.symm)
 ·exact np.2.2 (by have:D.rd=pth:=by simpa using z
                   exact this.symm)
 ·have:z=pth:=by simpa using hz
  rw[this];exact h.al pth (by simp)
 ·have:z=pth:=by simpa using hz
  rw[this];simp
 ·exact h.nn (by have:bgd=pth:=by simpa using z
                 exact this.symm)
theorem LpG.pop (h:LpG H0 CSe CN CS CR D pth bgd gs cs gv rc kg kc kr rm knI odI HfI HI x (js++[i]) kn rmN rkn od bg Hf H) (hk:kn i≠none):LpG H0 CSe CN CS CR D pth bgd gs cs gv rc kg kc kr rm knI odI HfI HI x js kn rmN rkn od bg Hf (upd H pth (.lst (js.map V.str))):=by
 have un:=h.un
 rw[List.dropLast_concat] at un
 refine h.path (h.nd.sublist (List.sublist_append_left _ _)) (fun j hj=>un j ((List.dropLast_sublist _).subset hj)) (fun j hj=>h.rch j (by simp[hj])) ?_ (by rw[List.reverse_append];exact Ff hk)
 rcases h.hd with z | ⟨z,_⟩
 ·cases js with
  | nil=>
    right
    have:i=x:=by simpa using z
    exact⟨rfl,by rw[<-this];exact hk⟩
  | cons a js=>left;simpa using z
 ·simp at z
theorem LpG.push {j:Str}{r:R} (h:LpG H0 CSe CN CS CR D pth bgd gs cs gv rc kg kc kr rm knI odI HfI HI x (js++[i]) kn rmN rkn od bg Hf H) (hk:kn i=none) (hji:j∉js++[i]) (hg:gv i=none) (hr:rc i=some r) (hs:yu kn r j) (hz:kn j=none):LpG H0 CSe CN CS CR D pth bgd gs cs gv rc kg kc kr rm knI odI HfI HI x (js++[i]++[j]) kn rmN rkn od bg Hf (upd H pth (.lst ((js++[i]++[j]).map V.str))):=by
 have un:=h.un
 rw[List.dropLast_concat] at un
 refine h.path ?_ (fun k hk'=> ?_) (fun k hk'=> ?_) ?_ (by rw[List.reverse_append (as:=js++[i]),List.reverse_append];exact DN hg hk hr (hs.ev hz))
 ·rw[List.nodup_append]
  exact⟨h.nd,by simp,fun a ha b hb=>by
   have:b=j:=by simpa using hb
   rw[this];exact fun z=>hji (z▸ha)⟩
 ·rw[List.dropLast_concat] at hk'
  rcases List.mem_append.mp hk' with z | z
  ·exact un k z
  ·have:k=i:=by simpa using z
   rw[this];exact⟨hk,by rw[hr];simp⟩
 ·rcases List.mem_append.mp hk' with z | z
  ·exact h.rch k z
  ·have:k=j:=by simpa using z
   rw[this];exact .step (h.rch i (by simp)) hg hr hs
 ·left
  rcases h.hd with z | ⟨z,_⟩
  ·cases js with
   | nil=>simpa using z
   | cons a js=>simpa using z
  ·simp at z
theorem LpG.know {kn':Kn}{KC:Rm}{rkn':Str->Bool}{od':List Str}{Hf':Hp} (h:LpG H0 CSe CN CS CR D pth bgd gs cs gv rc kg kc kr rm knI odI HfI HI x (js++[i]) kn rmN rkn od bg Hf H) (b:But [D.kd,D.sd,D.rd] H H') (sf:aN Hf Hf') (fm:∀z,Mu H z->Hf z=none->Hf' z=none) (so:j0 H0 D gv rc rm kn' KC rkn' od' Hf' H') (le:Kn.Le kn kn') (hn:∀y,kn' y≠none->kn y≠none\/y=i) (hun:∀y,y≠i->kn y=none->kn' y=none) (hm:Mvs gv rc ((js++[i]).reverse,kn,od) ((js++[i]).reverse,kn',od')):LpG H0 CSe CN CS CR D pth bgd gs cs gv rc kg kc kr rm knI odI HfI HI x (js++[i]) kn' KC rkn' od' bg Hf' H':=by
 have hal:=h.al
 have hmu:∀z∈[D.kd,D.sd,D.rd],Mu H z:=fun z hz=>hal z (by simp at hz ⊢;rcases hz with q | q | q<;>simp[q])
 have un:=h.un
 rw[List.dropLast_concat] at un
 have nd:=h.nd
 rw[List.nodup_append] at nd
 refine⟨h.b.trans b,h.sf.trans sf,fun z m hz=> ?_,h.sh.same sf,so,b _ _ h.np h.ep,fm _ (hal _ (by simp)) h.fp,fm _ (hal _ (by simp)) h.fb,h.ip,h.ib,h.np,h.nb,h.nn,h.nd,fun j hj=> ?_,fun j hj=>(h.rch j hj).le le,h.le.trans le,fun y hy=> ?_,((h.bgi.hf fm).off b hmu (fun z hz=>by simp at hz ⊢;rcases hz with q | q | q<;>simp[q]) h.nb).le le, ?_,h.fr,h.mv.trans hm⟩
 ·have hz':=h.fm z m hz
  by_cases hS:z∈[D.kd,D.sd,D.rd]
  ·exact fm z (hmu z hS) hz'
  ·exact fm z (m.but h.b hS) hz'
 ·rw[List.dropLast_concat] at hj
  exact⟨hun _ (fun z=>nd.2.2 j hj i (by simp) z) (un j hj).1,(un j hj).2⟩
 ·rcases hn y hy with z | z
  ·exact(h.new y z).imp id fun w=>w.le le
  ·right;rw[z];exact(h.rch i (by simp)).le le
 ·exact h.hd.imp id fun⟨a,_⟩=>by simp at a
theorem LpG.bgs {S:List Addr}{bg':Str->Option SeD} (h:LpG H0 CSe CN CS CR D pth bgd gs cs gv rc kg kc kr rm knI odI HfI HI x is kn rmN rkn od bg Hf H) (b:But S H H') (hS:∀z∈S,HI z=none/\Hf z=none/\z∉[pth,D.kd,D.sd,D.rd]) (hb:BgG CS CR D pth bgd gv rc kr rm kn bg' Hf H') (hf:∀y A,bg' y=some A->∀z∈A.ft,HI z=none):LpG H0 CSe CN CS CR D pth bgd gs cs gv rc kg kc kr rm knI odI HfI HI x is kn rmN rkn od bg' Hf H':=by
 refine⟨fun c o hc e=>b c o (fun w=>by rw[(hS c w).1] at e;cases e) (h.b c o hc e),h.sf,h.fm,h.sh,h.so.but b (fun z hz=>(hS z hz).2.1) (fun z=>(hS _ z).2.2 (by simp)) (fun z=>(hS _ z).2.2 (by simp)) (fun z=>(hS _ z).2.2 (by simp)),b _ _ (fun z=>(hS _ z).2.2 (by simp)) h.ep,h.fp,h.fb,h.ip,h.ib,h.np,h.nb,h.nn,h.nd,h.un,h.rch,h.le,h.new,hb,h.hd,hf,h.mv⟩
theorem LpG.free (h:LpG H0 CSe CN CS CR D pth bgd gs cs gv rc kg kc kr rm knI odI HfI HI x is kn rmN rkn od bg Hf H) {z:Addr} (hz:H z=none):HI z=none/\Hf z=none:=by
 refine⟨Ey h.b hz fun w=>(h.al z (by simp at w ⊢;rcases w with q | q | q<;>simp[q])).some hz, ?_⟩
 cases q:Hf z with
 | none=>rfl
 | some o=>have:=h.so.sm _ _ q;rw[hz] at this;cases this
theorem LpG.begun {H1:Hp}{y:Str}{r:R}{A:SeD}{kb:List (Key×V)} (h:LpG H0 CSe CN CS CR D pth bgd gs cs gv rc kg kc kr rm knI odI HfI HI x is kn rmN rkn od bg Hf H) (s:aN H H1) (hA:∀z∈A.ft,H z=none) (so:um CS CR kr rm y r kn A H1) (hr:rc y=some r) (hg:gv y=none) (hb:bg y=none) (ebd:H bgd=some (.dK kb)):
 LpG H0 CSe CN CS CR D pth bgd gs cs gv rc kg kc kr rm knI odI HfI HI x is kn rmN rkn od (j6 bg y A) Hf (upd H1 bgd (.dK (putK kb (.inr y) (.ref A.s)))):=by
 have nb:=h.nb
 refine h.bgs (S:=[bgd]) ((But.of_same s).trans (But.set _ (by simp))) (fun z hz=> ?_) (h.bgi.new s hA so hr hg hb ebd h.so.sm fun z hz=>(h.al z hz).some) (fun x B hB z hz=> ?_)
 ·have:z=bgd:=by simpa using hz
  rw[this]
  exact⟨h.ib,h.fb,fun w=>by
   rcases List.mem_cons.mp w with q | q
   ·exact h.nn q.symm
   ·exact nb q⟩
 ·unfold j6 at hB
  by_cases w:x=y
  ·rw[if_pos w] at hB;cases hB
   exact(h.free (hA z hz)).1
  ·rw[if_neg w] at hB;exact h.fr x B hB z hz
theorem LpG.gone {y:Str}{r:R}{A A':SeD} (h:LpG H0 CSe CN CS CR D pth bgd gs cs gv rc kg kc kr rm knI odI HfI HI x is kn rmN rkn od bg Hf H) (hy:bg y=some A) (b:But A.ft H H') (so:um CS CR kr rm y r kn A' H') (hr:rc y=some r) (hg:gv y=none)
 (es:A'.s=A.s) (erk:A'.rk=A.rk) (e1:A'.a1=A.a1) (e2:A'.a2=A.a2) (e3:A'.a3=A.a3) (efl:A'.fl=A.fl\/H A'.fl=none):LpG H0 CSe CN CS CR D pth bgd gs cs gv rc kg kc kr rm knI odI HfI HI x is kn rmN rkn od (j6 bg y A') Hf H':=by
 refine h.bgs (S:=A.ft) b (fun z hz=> ?_) (h.bgi.set hy b so hr hg es erk e1 e2 e3 efl h.so.sm fun z hz=>(h.al z hz).some) (fun x B hB z hz=> ?_)
 ·obtain⟨a1,a2,a3⟩:=h.bgi.al y A hy z hz
  exact⟨h.fr y A hy z hz,a2,fun w=>a3 (by
   simp only[List.mem_cons,List.not_mem_nil,or_false] at w ⊢
   rcases w with q | q | q | q
   ·exact .inl q
   ·exact .inr (.inr (.inl q))
   ·exact .inr (.inr (.inr (.inl q)))
   ·exact .inr (.inr (.inr (.inr q))))⟩
 ·unfold j6 at hB
  by_cases w:x=y
  ·rw[if_pos w] at hB;cases hB
   have hz:z=A'.s\/z=A'.fl\/z=A'.rk\/z=A'.a1\/z=A'.a2\/z=A'.a3:=by simpa [SeD.ft] using hz
   rcases hz with q | q | q | q | q | q
   ·rw[q,es];exact h.fr y A hy _ (by simp[SeD.ft])
   ·rcases efl with w | w
    ·rw[q,w];exact h.fr y A hy _ (by simp[SeD.ft])
    ·rw[q];exact(h.free w).1
   ·rw[q,erk];exact h.fr y A hy _ (by simp[SeD.ft])
   ·rw[q,e1];exact h.fr y A hy _ (by simp[SeD.ft])
   ·rw[q,e2];exact h.fr y A hy _ (by simp[SeD.ft])
   ·rw[q,e3];exact h.fr y A hy _ (by simp[SeD.ft])
  ·rw[if_neg w] at hB;exact h.fr x B hB z hz
theorem j0.giv {y:Str}{v:Int}{kw:List (Key×V)}{ws:List Str} (h:j0 H0 D gv rc rm kn rmN rkn od Hf H) (ek:H D.kd=some (.dK kw)) (kk:j9 kw ws) (hk:∀x,dX kw (.inr x)=(kn x).map V.int) (hg:gv y=some v) (ne:D.kd≠D.sd/\D.kd≠D.rd/\D.sd≠D.rd):j0 H0 D gv rc rm (kn.put y v) rmN rkn od Hf (upd H D.kd (.dK (putK kw (.inr y) (.int v))))/\Kn.Le kn (kn.put y v):=by
 have hn:kn y=none\/kn y=some v:=by
  cases z:kn y with
  | none=>exact .inl rfl
  | some u=>
    rcases h.ok.a y u z with w | ⟨w,_⟩
    ·rw[hg] at w;cases w;exact .inr rfl
    ·rw[hg] at w;cases w
 obtain⟨sm,fk,fs,fr,_,⟨ks,e2,r2⟩,⟨kk',rs,e3,r3⟩,ok,md,h0⟩:=h
 have hs:aN Hf (upd H D.kd (.dK (putK kw (.inr y) (.int v)))):=fun z o e=>(ao (fun w=>by rw[w,fk] at e;cases e)).trans (sm z o e)
 rcases hn with z | z
 ·have le:=Kn.qK (v:=v) z
  have hyw:y∉ws:=kk.none.mp (by rw[hk,z];rfl)
  exact⟨⟨hs,fk,fs,fr,⟨_,_,ak,kk.uf hyw _,DK hk y v⟩,⟨ks,(ao (Ne.symm ne.1)).trans e2,r2⟩,⟨kk',rs,(ao (Ne.symm ne.2.1)).trans e3,r3⟩,ok.Wf z hg,fun x r ps u e=>(md x r ps u e).le le,h0⟩,le⟩
 ·have hyw:y∈ws:=Decidable.byContradiction fun w=>by
   have:=kk.none.mpr w
   rw[hk,z] at this;cases this
  have eq:kn.put y v=kn:=by
   funext x
   unfold Kn.put
   by_cases w:x=y
   ·rw[if_pos w,w,z]
   ·rw[if_neg w]
  rw[eq]
  refine⟨⟨hs,fk,fs,fr,⟨_,_,ak,kk.Bx hyw _,fun x=> ?_⟩,⟨ks,(ao (Ne.symm ne.1)).trans e2,r2⟩,⟨kk',rs,(ao (Ne.symm ne.2.1)).trans e3,r3⟩,ok,md,h0⟩,Kn.Le.refl _⟩
  have:=DK hk y v x
  rw[eq] at this;exact this
end
structure SM (gv:Kn) (rc:Rn) (rm:Rm) (ws:List Str) (kn:Kn) (rmN:Rm) (rkn:Str->Bool) (od:List Str):Prop where
 ok:StG gv rc kn rmN
 md:∀x r ps v,rmN x=some (r,ps,v)->Rcd rm x r kn ps v (rkn x)
 w:∀x∈ws,kn x≠none
 r:∀y,kn y≠none->∃x∈ws,Rch gv rc kn x y
 rn:∀x,rkn x=true->rmN x≠none
 run:Runs gv rc ws (kn0,[]) (kn,od)
 nd:od.Nodup
 om:∀x,x∈od ↔ rmN x≠none
 ol:od.length<=60
end RB
namespace L2
open PySem PySem.Spec PyProof.Rows RB
section
variable {X:Cx}{A:Around}{E:Value->Shared->Prop}{pins:List (Addr×Obj)}{σ:St}{H:Hp}{s:Shared}{a b:Addr}{kvs more:List (Key×V)}
end
section
variable {X:Cx}{o e:Expr}{td ty:TE}{apos cpos:Pos}
end
end L2
namespace RB
open PySem L2 PySem.Spec PyProof.Rows
end RB
namespace L2
open PySem PySem.Spec PyProof.Rows RB
theorem BL {xs:List V}{its:List Value} (r:Vals xs its):∀idx:List Nat,Vals (idx.filterMap (xs[·]?)) (idx.filterMap (its[·]?))
 |[]=> .nil
 | i::idx=>by
   rw[List.filterMap_cons,List.filterMap_cons]
   cases e:xs[i]? with
   | none=>
     have:its[i]? =none:=by
      rw[List.getElem?_eq_none_iff] at e ⊢
      rw[<-r.length];exact e
     rw[this];exact BL r idx
   | some x=>
     obtain⟨u,hu,ru⟩:=r.get e
     rw[hu]
     exact .cons ru (BL r idx)
section
variable {X:Cx}{e lo hi st:Expr}{te tl th ts:TE}{pos p2:Pos}
theorem Jf:pM X (.builtin "sorted") (fun xs H Q=>∃(a:Addr) (ts:List Str),xs=[.ref a]/\SqL X.K H a (ts.map V.str)/\ts.length<64/\∀(p:Addr) (us:List Str),H p=none->us.Perm ts->sortedS us=true->Q (.ref p) (upd H p (.lst (us.map V.str)))):=by
 intro pins s σ H xs us Q I r h
 obtain⟨a,ts,rfl,ha,hl,q⟩:=h
 obtain⟨u,rfl,rx⟩:=vals1 r
 cases rx
 obtain⟨its,rv,pl,_⟩:=I.list ha
 have hli:its.length=ts.length:=by have:=rv.length;rw[List.length_map] at this;exact this.symm
 refine sorted_strs pl.isList (yK rv) (by omega) fun out ss h1 h2 h3=> ?_
 obtain⟨e,he⟩:=sortedAll_at s.heap its out
 have hfr:H (s.heap.objs.size+1)=none:=I.hok.fresh (Nat.le_succ _)
 have hsl:=h2.length_eq
 have hz:(ss.map V.str).length<=sizeLine:=by rw[List.length_map,hsl,sizeLine_eq];omega
 exact⟨.ref (s.heap.objs.size+1),_,I.laid (t':=s.toks) (o:= .lst (ss.map V.str)) (fun b u e=>sortedAll_old e) (Nat.le_succ _) ⟨hz,out.toList,e,Bw h1,by simpa [seqObj] using he⟩,rfl,q _ ss hfr h2 h3⟩
theorem M6:pQ X (.builtin "sorted") (fun xs H Q=>∃(a:Addr) (ts:List Str),xs=[.ref a]/\SqL X.K H a (ts.map V.str)/\ts.length<64/\∀(p:Addr) (us:List Str),H p=none->us.Perm ts->sortedS us=true->Q (.ref p) (upd H p (.lst (us.map V.str)))):=⟨Jf⟩
end
end L2
namespace L2
open PySem PySem.Spec PyProof.Rows
end L2
namespace L2
open PySem PySem.Spec PyProof.Rows RB
theorem KD {P:Program}{w:World} (d:Addr) (od:Obj) (hl:(d==sysModules)=false) (hc:od.cls= .type "dict"):
 MeetsIn P w (Builtin.«dict.items» ⟨[.ref d],[]⟩)
  (fun A R s=>s.heap.get? d=some od/\R (.ok (.ret (.ref s.heap.objs.size))) ⟨s.heap.push {cls:= .type "dict_items",data:= .fields #[.ref d]},s.gens,s.drawn,s.toks,s.os⟩):=by
 intro A R s z
 obtain⟨hp,g,dr,tk,os⟩:=s
 obtain⟨z1,z⟩:=z
 obtain⟨c,dd,da,sl⟩:=od
 simp only at hc
 subst hc
 wp_walk
 exact z
theorem Inv.more {X:Cx}{pins:List (Addr×Obj)}{σ:St}{H H':Hp}{s:Shared}{h':Heap}{t':Nat} (I:Inv X pins σ H s) (k:∀b u,s.heap.get? b=some u->h'.get? b=some u) (sm:aN H H')
 (new:∀a o,H' a=some o->H a=some o\/(s.heap.objs.size<=a/\eF X.prog X.w H' h' a o)):Inv X pins σ H' {s with heap:=h',toks:=t'}:=by
 refine I.un ⟨fun b u q _ _ _=>k b u q,fun b u q _ _ _=>⟨u.slots,k b u q⟩,fun b u q n _=> ?_,fun b u q _=>⟨u,k b u q⟩,fun b xs q=>sm _ _ q,fun b u xs q=>sm _ _ q,fun b ps q=>⟨#[],by rw[sm _ _ q];simp⟩⟩ fun a o e=> ?_
 ·cases e:H' b with
  | none=>rfl
  | some o=>
    rcases new b o e with z | ⟨z,_⟩
    ·rw[n] at z;cases z
    ·exact absurd (Nat.lt_of_lt_of_le (Heap.lt_size q) z) (Nat.lt_irrefl _)
 ·rcases new a o e with z | ⟨_,z⟩
  ·exact(I.hok a o z).stay (fun c v _ q=>k c v q) (fun c q=>sm _ _ q) fun c xs q=>sm _ _ q
  ·exact z
def mkH:List Addr->List (Key×V)->Hp->Hp
 | a::as,kv::kvs,H=>upd (mkH as kvs H) a (.tup [kV kv.1,kv.2])
 | _,_,H=>H
theorem O1:∀{as:List Addr}{kvs:List (Key×V)}{H:Hp}{b:Addr},b∉as->mkH as kvs H b=H b
 |[],_,_,_,_=>by cases ‹List (Key×V)›<;>rfl
 | a::as,[],_,_,_=>rfl
 | a::as,kv::kvs,H,b,h=>by
   show upd (mkH as kvs H) a _ b=_
   rw[ao (fun z=>h (by simp[z]))]
   exact O1 fun z=>h (by simp[z])
theorem SN:∀{as:List Addr}{kvs:List (Key×V)}{H:Hp}{j:Nat}{a:Addr}{kv:Key×V},as.Nodup->as[j]? =some a->kvs[j]? =some kv->mkH as kvs H a=some (.tup [kV kv.1,kv.2])
 |[],_,_,_,_,_,_,h,_=>by simp at h
 | a::as,[],_,_,_,_,_,_,h=>by simp at h
 | a::as,kv::kvs,H,0,b,kv',_,h1,h2=>by
   cases h1;cases h2
   exact ak
 | a::as,kv::kvs,H,j+1,b,kv',nd,h1,h2=>by
   rw[List.nodup_cons] at nd
   have hb:b∈as:=List.mem_of_getElem? (by simpa using h1)
   show upd (mkH as kvs H) a _ b=_
   rw[ao (fun z:b=a=>nd.1 (by rw[<-z];exact hb))]
   exact SN nd.2 (by simpa using h1) (by simpa using h2)
theorem O2:∀{as:List Addr}{kvs:List (Key×V)}{H:Hp}{b:Addr}{o:HO},as.Nodup->mkH as kvs H b=some o->(b∉as/\H b=some o)\/(∃(j:Nat) (kv:Key×V),as[j]? =some b/\kvs[j]? =some kv/\o= .tup [kV kv.1,kv.2])\/(H b=some o)
 |[],kvs,H,b,o,_,h=> .inl ⟨by simp,by cases kvs<;>exact h⟩
 | a::as,[],H,b,o,_,h=> .inr (.inr h)
 | a::as,kv::kvs,H,b,o,nd,h=>by
   rw[List.nodup_cons] at nd
   have h:upd (mkH as kvs H) a _ b=some o:=h
   by_cases z:b=a
   ·subst z
    rw[ak] at h;cases h
    exact .inr (.inl ⟨0,kv,rfl,rfl,rfl⟩)
   ·rw[ao z] at h
    rcases O2 nd.2 h with⟨h1,h2⟩ | ⟨j,kv',h1,h2,h3⟩ | h1
    ·exact .inl ⟨by simp[z,h1],h2⟩
    ·exact .inr (.inl ⟨j+1,kv',by simpa using h1,by simpa using h2,h3⟩)
    ·exact .inr (.inr h1)
def adF (to:TE):TE:=fun σ H Q=>to σ H fun x H1=>∃a kvs,x= .ref a/\H1 a=some (.dK kvs)/\∀(l:Addr) (as:List Addr) (H':Hp),aN H1 H'->H1 l=none->H' l=some (.lst (as.map V.ref))->as.length=kvs.length->(∀(j:Nat) (b:Addr) (kv:Key×V),as[j]? =some b->kvs[j]? =some kv->H' b=some (.tup [kV kv.1,kv.2]))->Q (.ref l) H'
theorem aaP {X:Cx}{o:Expr}{to:TE}{p apos cpos pos:Pos} (hc:X.calm=true) (ho:PE X o to) (hg:Gl X "list") (hm:X.mg "list"=none) (hv:bootBuiltins "list"=some (.type "list"))
 (hbase:attributeBase o "items" X.env (eval o X.env)=eval o X.env:=by rfl) (hline:(apos.endLine==cpos.line)=true:=by rfl)
 (he:starEach [.Call (.Attribute o "items" apos) [] [] cpos] X.env=(false,eval (.Call (.Attribute o "items" apos) [] [] cpos) X.env)::starEach [] X.env:=by rfl) (hpl:(backTo pos (starEach [] X.env)).any (·.1)=false:=by rfl):
 PE X (.Call (.Name "list" p) [.Call (.Attribute o "items" apos) [] [] cpos] [] pos) (adF to):=by
 intro pins s σ H Q I h
 refine wpAny_Call_Name_kw (yD I hg hm hv ?_ (by decide) (by decide))
 refine PyProof.Rows.callWith_type1 ?_ he hpl
 rw[he]
 show wpAny _ _ (spliced ((false,eval (.Call (.Attribute o "items" apos) [] [] cpos) X.env)::backTo pos (starEach [] X.env))) _ _ s
 refine Calls.spliced_cons ?_
 refine wpAny_Call_method0_late hbase hline (thn (ho pins s σ H _ I h) fun v s1 ⟨x,H1,I1,r1,a,kvs,ex,ha,q⟩=> ?_)
 subst ex
 obtain rfl:v=Value.ref a:=r1
 obtain⟨t1,t2,hlo⟩:=aab I1 (.inl ⟨kvs, .inl ha⟩)
 refine⟨"dict","dict.items",PySem.F.plainAttrs_dict,PySem.F.slot_dict_items,PySem.F.type_dict_items,t1,t2,Calls.callWith_builtin rfl (PySem.evalArgs_none ?_)⟩
 obtain⟨hz,_,vs,hkv,hd⟩:=Ob I1.hok ha
 obtain⟨ep,hat⟩:=hd.dictAt
 obtain⟨od,hod,hocls⟩:=id t1
 refine call_meetsIn PySem.F.slot_dict_items t1 PySem.F.entry_dict_items (PySem.F.args_dict_items_1 _) (KD a od hlo hocls) ⟨hod, ?_⟩
 show wpAny (model X.prog X.w) X.A (spliced []) _ X.xe _
 refine Calls.spliced_nil ?_
 have hk1:∀b u,s1.heap.get? b=some u->(s1.heap.push {cls:= .type "dict_items",data:= .fields #[.ref a]}).get? b=some u:=fun b u e=>Heap.get?_push_of_some _ e
 have hsz:(s1.heap.push {cls:= .type "dict_items",data:= .fields #[.ref a]}).objs.size=s1.heap.objs.size+1:=by simp[Heap.push]
 obtain⟨_,_,vs',hkv',hd'⟩:=Ob (I1.hok.kept hk1) ha
 obtain⟨ep',hat'⟩:=hd'.dictAt
 obtain⟨hvl,hvk⟩:=Ex hkv'
 have hview:(s1.heap.push {cls:= .type "dict_items",data:= .fields #[.ref a]}).IsItemsView s1.heap.objs.size a:=⟨_,Heap.get?_push_size _ rfl,rfl,rfl⟩
 refine PySem.W.kdx_call (I1.ok.hd hc) hview hat' (by rw[<-hvl];exact hz) fun h' tk acc c as kp e hlen hG hacc=> ?_
 have hal:as.length=kvs.length:=hlen.trans hvl.symm
 have hnd:as.Nodup:=hG.rise.imp fun z=>Nat.ne_of_lt z
 have hlow:∀b∈as,s1.heap.objs.size+1<b:=fun b hb=>by rw[<-hsz];exact hG.above b hb
 have hfresh:∀{b:Addr}{o:HO},H1 b=some o->@LT.lt Nat _ b s1.heap.objs.size:=fun{b o} e=>I1.hok.lt e
 have hl:(s1.heap.push {cls:= .type "dict_items",data:= .fields #[.ref a]}).objs.size∉as:=fun z=>by have:=hlow _ z;rw[hsz] at this;exact absurd this (Nat.lt_irrefl _)
 have sm:aN H1 (upd (mkH as kvs H1) (s1.heap.push {cls:= .type "dict_items",data:= .fields #[.ref a]}).objs.size (.lst (as.map V.ref))):=fun b o eb=>by
  have h1:@LT.lt Nat _ b s1.heap.objs.size:=hfresh eb
  have n1:b∉as:=fun z=>absurd (Nat.lt_trans h1 (Nat.lt_of_succ_lt (hlow b z))) (Nat.lt_irrefl _)
  rw[ao (by rw[hsz];exact Nat.ne_of_lt (Nat.lt_succ_of_lt h1)),O1 n1];exact eb
 have hpairs:∀(j:Nat) (b:Addr) (kv:Key×V),as[j]? =some b->kvs[j]? =some kv->mkH as kvs H1 b=some (.tup [kV kv.1,kv.2]):=fun j b kv h1 h2=>SN hnd h1 h2
 have hne:∀{b:Addr},b∈as->b≠(s1.heap.push {cls:= .type "dict_items",data:= .fields #[.ref a]}).objs.size:=fun hb z=>hl (z▸hb)
 refine⟨.ref _,_,I1.more (t':=tk) (fun b u eb=>kp b u (hk1 b u eb)) sm (fun b o eb=> ?_),rfl,q _ as _ sm (I1.hok.fresh (by rw[hsz];omega)) ak hal fun j b kv h1 h2=> ?_⟩
 ·by_cases z:b=(s1.heap.push {cls:= .type "dict_items",data:= .fields #[.ref a]}).objs.size
  ·subst z
   rw[ak] at eb;cases eb
   refine .inr ⟨by rw[hsz];omega,by rw[List.length_map,hal];exact hz,acc.toList,c, ?_,by simpa using e⟩
   rw[hacc]
   clear e hacc q sm hpairs hG hlow hnd hal hlen hl hne
   induction as with
   | nil=>exact .nil
   | cons x as ih=>exact .cons rfl ih
  ·rw[ao z] at eb
   rcases O2 hnd eb with⟨_,h2⟩ | ⟨j,kv,h1,h2,h3⟩ | h1
   ·exact .inl h2
   ·subst h3
    have hbm:=List.mem_of_getElem? h1
    have:=hlow b hbm
    obtain⟨key,k,x,e1,e2,e3⟩:=hG.pairs j b h1
    obtain⟨y,ey,ry⟩:=R5 hkv' j k x e1
    rw[h2] at ey
    cases ey
    exact .inr ⟨by omega,by show 2<=sizeLine;decide,[key,x], .cons (DG e2) (.cons ry .nil),⟨_,e3,rfl,_,rfl⟩⟩
   ·exact .inl h1
 ·rw[ao (hne (List.mem_of_getElem? h1))]
  exact hpairs j b kv h1 h2
theorem aaQ {X:Cx}{o:Expr}{to:TE}{p apos cpos pos:Pos} (hc:X.calm=true) (ho:QE X o to) (hg:Gl X "list") (hm:X.mg "list"=none)
 (hbase:attributeBase o "items" X.env (eval o X.env)=eval o X.env:=by rfl) (hline:(apos.endLine==cpos.line)=true:=by rfl)
 (he:starEach [.Call (.Attribute o "items" apos) [] [] cpos] X.env=(false,eval (.Call (.Attribute o "items" apos) [] [] cpos) X.env)::starEach [] X.env:=by rfl) (hpl:(backTo pos (starEach [] X.env)).any (·.1)=false:=by rfl):
 QE X (.Call (.Name "list" p) [.Call (.Attribute o "items" apos) [] [] cpos] [] pos) (adF to):=⟨aaP hc ho.h hg hm xr hbase hline he hpl⟩
section
variable {X:Cx}{tg:Expr}
end
theorem Qu {a:Addr}{o:Obj}{kvs:List (Key×V)}{g:TG}{tc:TT}{te:TE}{σ:St}{H:Hp}{D:Addr}{Q:VK} (Pv:Nat->St->Hp->Prop) (h0:Pv 0 σ (upd H D (.lst []))) (hl:∀i σ H,i<=kvs.length->Pv i σ H->H a=some (.frz o (.dK kvs)))
 (hs:∀i k v σ' H',kvs[i]? =some (k,v)->Pv i σ' H'->g (kV k) σ' H' fun σ3 H3=>tc σ3 H3 fun b H4=>
   if b=true then te σ3 H4 fun y H5=>∃ys,H5 D=some (.lst ys)/\ys.length<sizeLine/\Pv (i+1) σ3 (upd H5 D (.lst (ys++[y]))) else Pv (i+1) σ3 H4) (hd:∀σ' H',Pv kvs.length σ' H'->Q (.ref D) H'):
 Eh (Itd a o kvs) g tc te D σ (upd H D (.lst [])) Q:=by
 refine⟨fun i m σ H=>m=kvs.length - i/\i<=kvs.length/\Pv i σ H,⟨kvs.length,by simp,Nat.zero_le _,h0⟩, ?_⟩
 rintro i m σ H ⟨rfl,hi,p⟩
 have q:=hl i σ H hi p
 by_cases hlt:i<kvs.length
 ·refine .inr ⟨⟨hlt,q⟩,Pv (i+1),fun σ' H' p'=>⟨kvs.length - (i+1),by omega,rfl,hlt,p'⟩,fun x H' y=> ?_⟩
  obtain⟨e,k,v,hk,ex⟩:=y
  subst e ex
  exact hs i k v σ _ hk p
 ·have e:i=kvs.length:=by omega
  subst e
  exact .inl ⟨⟨Nat.le_refl _,q⟩,hd σ H p⟩
end L2
namespace RB
open PySem L2 PySem.Spec PyProof.Rows
theorem HN {r:R}:∀{us:List Rdp}{kn:Kn}{p:Rdp},Chn r kn us->p∈us->∃a b,us=a++p::b/\Chn r kn a/\ev (kn.puts a) r= .inl p.1
 | q::us,kn,p,c,m=>by
   rcases List.mem_cons.mp m with z | z
   ·subst z
    exact⟨[],us,rfl,trivial,c.1⟩
   ·obtain⟨a,b,e,ca,ea⟩:=HN (us:=us) c.2 z
    exact⟨q::a,b,by rw[e];rfl,⟨c.1,ca⟩,ea⟩
theorem O3 {r:R}{u v:Int}:∀{ps qs:List Rdp}{kn:Kn},Chn r kn ps->Chn r kn qs->ev (kn.puts ps) r= .inr u->ev (kn.puts qs) r= .inr v->(∀p∈ps,∀q∈qs,p.1=q.1->p.2=q.2)->u=v/\ps=qs
 |[],[],kn,_,_,e1,e2,_=>by
  have e1:ev kn r= .inr u:=e1
  have e2:ev kn r= .inr v:=e2
  rw[e1] at e2
  exact⟨Sum.inr.inj e2,rfl⟩
 |[],q::qs,kn,_,c,e1,_,_=>by
  have e1:ev kn r= .inr u:=e1
  rw[c.1] at e1;cases e1
 | p::ps,[],kn,c,_,_,e2,_=>by
   have e2:ev kn r= .inr v:=e2
   rw[c.1] at e2;cases e2
 | p::ps,q::qs,kn,c1,c2,e1,e2,h=>by
   have e:p.1=q.1:=Sum.inl.inj (c1.1.symm.trans c2.1)
   have e':=h p (by simp) q (by simp) e
   have hpq:p=q:=Prod.ext e e'
   subst hpq
   obtain⟨a,b⟩:=O3 (ps:=ps) (qs:=qs) c1.2 c2.2 e1 e2 fun p' hp q' hq=>h p' (by simp[hp]) q' (by simp[hq])
   exact⟨a,by rw[b]⟩
section
variable {n:Nat}{gv:Kn}{rc:Rn}{kn1 kn2:Kn}{rm1 rm2:Rm}{ws:List Str}
end
end RB
namespace L2
open PySem PySem.Spec PyProof.Rows RB
section
variable {X:Cx}
end
end L2
namespace RB
open PySem L2 PySem.Spec PyProof.Rows
section
variable {H H':Hp}{kp kq:List (Key×V)}{gv:Kn}{rc:Rn}{rm:Rm}{kn:Kn}{ks qs:List Str}
end
theorem SQ {kw:List (Key×V)}{ws:List Str}{kn:Kn} (k:j9 kw ws) (h:∀x,dX kw (.inr x)=(kn x).map V.int) (x:Str):x∈ws ↔ kn x≠none:=by
 constructor
 ·intro hx z
  exact k.none.mp (by rw[h,z];rfl) hx
 ·intro hx
  refine Decidable.byContradiction fun z=>hx ?_
  have:=k.none.mpr z
  rw[h] at this
  cases e:kn x with
  | none=>rfl
  | some u=>rw[e] at this;cases this
namespace SJ
theorem agN:typeLookup (.type "dict") "__len__"=pure (some (.builtin "dict.__len__")):=by
 rw[typeLookup_type,builtinLookup_eq_fast]
 kernel_rfl
theorem agO:isSubtype (.type "dict") (.type "dict")=pure true:=by
 rw[isSubtype_type]
 kernel_rfl
end SJ
section
variable {prog:Program}{w:World}{A:Around}{E:Value->Shared->Prop}{s:Shared}
theorem S6 {a:Addr}{vs:List (Key×Value)}{ep:Nat}{Q:List Value->Shared->Prop} (hh:A.handled=none) (hlo:(a==sysModules)=false) (hD:s.heap.DictAt (dR prog w) a vs ep) (hz:vs.length<=sizeLine)
 (q:∀(us:List Value) (h':Heap) (tk:Nat),us.length=vs.length->(∀(i:Nat) u,us[i]? =some u->∃k x,vs[i]? =some (k,x)/\(dR prog w).is k u=true)->(∀b o,s.heap.get? b=some o->h'.get? b=some o)->s.heap.objs.size<h'.objs.size->Q us {s with heap:=h',toks:=tk}):
 wpAny (model prog w) A (collect (.ref a)) Q E s:=by
 obtain⟨o,es,ho,hx,hdat,hk,hp,hn⟩:=id hD
 have hlt:=Heap.lt_size ho
 unfold collect
 refine wpAny_bind (wpAny_runValue (codeAny_builtin PySem.F.entry_proto_collect ?_))
 rw[Around.under_plainId PySem.F.plain_proto_collect _]
 show wpAny _ A.in1 (newList []>>=fun l=>PySem.again (.builtin "list.__iadd__" ⟨[l, .ref a],[]⟩)) _ _ s
 refine wpAny_bind (wpAny_newObj_type (wpAny_pure ⟨plainId_quiet PySem.F.plain_list_iadd _,codeAny_builtin PySem.F.entry_list_iadd ?_⟩))
 rw[Around.under_plainId PySem.F.plain_list_iadd _]
 show wpAny _ A.in1 (Builtin.List.listExtendWith (.ref s.heap.objs.size) (.ref a) (.ref s.heap.objs.size)) _ _ _
 unfold Builtin.List.listExtendWith
 have hD1:(s.heap.push {cls:= .type "list",data:= .seq ([]:List Value).toArray}).DictAt (dR prog w) a vs ep:=hD.push _
 have hT:Shared.TypeIs {s with heap:=s.heap.push {cls:= .type "list",data:= .seq ([]:List Value).toArray}} (.ref a) "dict":=hD1.dictOf.typeIs
 refine wpAny_bind (wpAny_typeOf hT ?_)
 have e1:Builtin.List.listSameRef (.ref s.heap.objs.size) (.ref a)=false:=by simpa [Builtin.List.listSameRef] using Nat.ne_of_gt hlt
 rw[if_neg (by rw[e1];decide)]
 refine wpAny_bind (wpAny_pyIter_dict (knd:=dR prog w) hlo hD1 ?_)
 refine wpAny_bind (wpAny_holding ?_)
 unfold Builtin.List.listLengthHint
 have hD2:((s.heap.push {cls:= .type "list",data:= .seq ([]:List Value).toArray}).push {cls:= .type "dict_keyiterator",data:= .fields #[.ref a, .int 0 0, .int vs.length 0, .int ep 0]}).DictAt (dR prog w) a vs ep:=hD1.push _
 have hT2:Shared.TypeIs {s with heap:=(s.heap.push {cls:= .type "list",data:= .seq ([]:List Value).toArray}).push {cls:= .type "dict_keyiterator",data:= .fields #[.ref a, .int 0 0, .int vs.length 0, .int ep 0]}} (.ref a) "dict":=hD2.dictOf.typeIs
 refine wpAny_bind (wpAny_specialOf hT2 SJ.agN ?_)
 generalize hid:("dict.__len__":String)=id0
 (fail_if_success (clear hid id0))
 wp_delta
 rw[show splitId id0=some ("dict","__len__") from by subst hid;decide +kernel]
 subst hid
 refine wpAny_bind (wpAny_isInstance (b:=true) hT2 SJ.agO ?_)
 rw[if_neg (by decide),if_pos (by decide)]
 refine wpAny_bind (wpAny_typeOf hT2 (wpAny_pure ?_))
 rw[if_pos (by decide)]
 refine wpAny_bind (wpAny_rule ?_)
 have hS1:((s.heap.push {cls:= .type "list",data:= .seq ([]:List Value).toArray}).push {cls:= .type "dict_keyiterator",data:= .fields #[.ref a, .int 0 0, .int vs.length 0, .int ep 0]}).get? s.heap.objs.size=some {cls:= .type "list",dict:=none,data:= .seq #[] 0,slots:= #[]}:=Heap.get?_push_of_some _ (Heap.get?_push_size _ rfl)
 have hsz:(s.heap.push {cls:= .type "list",data:= .seq ([]:List Value).toArray}).objs.size=s.heap.objs.size+1:=Heap.size_push _ _
 have hIt:((s.heap.push {cls:= .type "list",data:= .seq ([]:List Value).toArray}).push {cls:= .type "dict_keyiterator",data:= .fields #[.ref a, .int 0 0, .int vs.length 0, .int ep 0]}).IsKeyIter (s.heap.push {cls:= .type "list",data:= .seq ([]:List Value).toArray}).objs.size a 0 vs.length ep:=⟨_,Heap.get?_push_size _ rfl,rfl,rfl⟩
 have hk2:∀b o,s.heap.get? b=some o->((s.heap.push {cls:= .type "list",data:= .seq ([]:List Value).toArray}).push {cls:= .type "dict_keyiterator",data:= .fields #[.ref a, .int 0 0, .int vs.length 0, .int ep 0]}).get? b=some o:=fun b o z=>Heap.get?_push_of_some _ (Heap.get?_push_of_some _ z)
 have W:=Walks.dictKeys (prog:=prog) (w:=w) (A:=A.in1) (knd:=dR prog w) hh (s.heap.push {cls:= .type "list",data:= .seq ([]:List Value).toArray}).objs.size a (by rw[hsz];exact Nat.ne_of_lt (Nat.lt_succ_of_lt hlt)) vs ep
 have hSf:s.heap.objs.size∉[(s.heap.push {cls:= .type "list",data:= .seq ([]:List Value).toArray}).objs.size,a]:=fun z=>by
  rw[hsz] at z
  rcases List.mem_cons.mp z with y | y
  ·exact absurd y (Nat.ne_of_lt (Nat.lt_succ_self _))
  ·exact absurd (List.mem_singleton.mp y) (Nat.ne_of_gt hlt)
 show wpAny _ A.in1 (Builtin.List.listTouch (.ref s.heap.objs.size)>>=fun _=>PySem.again (.builtin "list.extend.loop" ⟨[.ref s.heap.objs.size, .ref (s.heap.push {cls:= .type "list",data:= .seq ([]:List Value).toArray}).objs.size, .ref s.heap.objs.size],[]⟩)) _ _ _
 generalize (s.heap.push {cls:= .type "list",data:= .seq ([]:List Value).toArray}).push {cls:= .type "dict_keyiterator",data:= .fields #[.ref a, .int 0 0, .int vs.length 0, .int ep 0]}=h2 at *
 generalize hI:(s.heap.push {cls:= .type "list",data:= .seq ([]:List Value).toArray}).objs.size=I at *
 refine wpAny_bind ?_
 show wpAny _ A.in1 (updateSeq s.heap.objs.size (·.push .none)>>=fun _=>updateSeq s.heap.objs.size (·.pop)) _ _ {s with heap:=h2}
 refine wpAny_bind (wpAny_updateSeq hS1 rfl (wpAny_updateSeq (Heap.get?_update_self (Obj.mapSeq (·.push Value.none)) hS1 rfl) rfl ?_))
 have hS3:=Heap.get?_update_self (Obj.mapSeq (·.pop)) (Heap.get?_update_self (Obj.mapSeq (·.push Value.none)) hS1 rfl) rfl
 have oth:∀b o,b≠s.heap.objs.size->h2.get? b=some o->((h2.update s.heap.objs.size (Obj.mapSeq (·.push Value.none))).update s.heap.objs.size (Obj.mapSeq (·.pop))).get? b=some o:=
  fun b o hb e=>(Heap.get?_update_other _ _ (Ne.symm hb)).trans ((Heap.get?_update_other _ _ (Ne.symm hb)).trans e)
 have Wc:=W.toS
 refine wpAny_pure ⟨plainId_quiet PySem.F.plain_extend_loop _,codeAny_extend_loopS Wc hz _ hSf _ vs.length 0 _ _ _ rfl (Nat.zero_le _) (Wc.frame 0 {s with heap:=h2} _ s.toks ⟨hIt,hD2⟩ (Nat.le_refl _) fun b hb o e=>oth b o (fun y=>hSf (y▸hb)) e) hS3 (ItemsOf.nil _) fun s3 ac c' mv hS' hit=> ?_⟩
 show wpAny _ A (load s.heap.objs.size>>=_) _ _ s3
 refine wpAny_bind (wpAny_load hS' ?_)
 obtain⟨h5,g5,d5,tk5,os5⟩:=s3
 have g1:g5=s.gens:=mv.gens
 have g2:d5=s.drawn:=mv.drawn
 have g3:os5=s.os:=mv.os
 subst g1 g2 g3
 refine wpAny_pure (q ac.toList h5 tk5 (by rw[Array.length_toList];exact hit.1) (fun i u hu=> ?_) (fun b o' z=> ?_) (Heap.lt_size hS'))
 ·rw[Array.getElem?_toList] at hu
  exact hit.2 i u hu
 ·have hbl:=Heap.lt_size z
  refine mv.heap b o' (fun y=> ?_) (oth b o' (Nat.ne_of_lt hbl) (hk2 b o' z))
  rcases List.mem_cons.mp y with y | y
  ·exact Nat.lt_irrefl _ (y▸hbl)
  ·rw[List.mem_singleton.mp y,hsz] at hbl
   exact Nat.lt_irrefl _ (Nat.lt_of_succ_lt hbl)
end
end RB
namespace L2
open PySem PySem.Spec PyProof.Rows RB
section
variable {prog:Program}{w:World}{A:Around}{E:Value->Shared->Prop}{s:Shared}{κ:PyProof.Rows.KeyKind}
theorem KH (hO:κ.OneLt) {v:Value}{Q:Value->Shared->Prop}
 (hc:∀A',A'.handled=A.handled->wpAny (model prog w) A' (collect v) (fun vs s1=>KeysOf κ (pairsOf vs)/\(∀x y r,vs=x::y::r->keyKind' (x::y::r).toArray=pure oneType')/\vs.length<64/\
   ∀t:SortSt,(arrOf t).Perm (pairsOf vs)->SortedToK κ (arrOf t) (pairsOf vs).size->Q (.ref s1.heap.objs.size) {s1 with heap:=sortedHeap (s1.heap.push (seqObj "list" vs.toArray 0)) s1.heap.objs.size vs ((arrOf t).map (·.2))}) E s):
 wpAny (model prog w) A (call (.builtin "sorted") [v]) Q E s:=by
 refine Calls.call_function_entry kind_sorted plain_sorted entry_sorted (args_sorted1 _) ?_
 unfold Builtin.«sorted»
 refine wpAny_bind (m:=checkCount "sorted" 1 1 _) (wpAny_pure ?_)
 refine wpAny_bind (wpAny_mono (hc _ ?_) (fun vs s1 h=> ?_) fun _ _ e=>e)
 ·simp
 obtain⟨h0,hkk,hz,h⟩:=h
 refine wpAny_bind (wpAny_newList ?_)
 have hoL:(s1.heap.push (seqObj "list" vs.toArray 0)).get? s1.heap.objs.size=some (seqObj "list" vs.toArray 0):=Heap.get?_push_size _ rfl
 refine wpAny_bind (wpAny_holding (wpAny_call_entry slot_list_sort ⟨_,hoL,rfl⟩ entry_list_sort (list_sort_treeK (κ:=κ) hO hoL h0 hkk hz fun t t1 t2=>⟨_,rfl, ?_⟩) (args_list_sort _)))
 exact wpAny_pure ⟨_,rfl,h t t1 t2⟩
end
section
variable {X:Cx}{pins:List (Addr×Obj)}{σ:St}{H:Hp}{s:Shared}
theorem KJ {vs:List Value}{ss:List Str}{ts:List Str}{Q:VK}{h1:Heap}{tk:Nat} (I:Inv X pins σ H s) (hk:∀b o,s.heap.get? b=some o->h1.get? b=some o) (hsz:s.heap.objs.size<=h1.objs.size) (hS:StrsAre vs ss) (hp:ss.Perm ts) (hz:ts.length<=sizeLine)
 (q:∀(p:Addr) (us:List Str),H p=none->us.Perm ts->sortedS us=true->Q (.ref p) (upd H p (.lst (us.map V.str)))) (t:SortSt) (t1:(arrOf t).Perm (pairsOf vs)) (t2:SortedToK PyProof.Rows.strKind (arrOf t) (pairsOf vs).size):
 EP X pins σ Q (.ref h1.objs.size) {s with heap:=sortedHeap (h1.push (seqObj "list" vs.toArray 0)) h1.objs.size vs ((arrOf t).map (·.2)),toks:=tk}:=by
 obtain⟨us,u1,u2,u3⟩:=sorted_out_str hS t1 t2
 have hn:(h1.push (seqObj "list" vs.toArray 0)).get? h1.objs.size=some (seqObj "list" vs.toArray 0):=Heap.get?_push_size _ rfl
 obtain⟨e,he⟩:=sortedHeap_at (out:=(arrOf t).map (·.2)) hn
 have kk:∀b o,s.heap.get? b=some o->(sortedHeap (h1.push (seqObj "list" vs.toArray 0)) h1.objs.size vs ((arrOf t).map (·.2))).get? b=some o:=fun b o z=>by
  have hb:=Heap.lt_size (hk b o z)
  rw[sortedHeap_old (Nat.ne_of_lt hb) (by rw[Heap.size_push];exact Nat.lt_succ_of_lt hb)]
  exact Heap.get?_push_of_some _ (hk b o z)
 have hl:(us.map V.str).length<=sizeLine:=by rw[List.length_map,u2.length_eq,hp.length_eq];exact hz
 exact⟨.ref h1.objs.size,_,(I.laid (t':=tk) (o:= .lst (us.map V.str)) kk hsz ⟨hl,_,e,Bw u1,by rw[Array.toArray_toList];exact he⟩),rfl,q _ us (I.hok.fresh hsz) (u2.trans hp) u3⟩
end
section
variable {X:Cx}
theorem Jg (hc:X.calm=true):pM X (.builtin "sorted") (fun xs H Q=>∃(a:Addr) (kvs:List (Key×V)) (ts:List Str),xs=[.ref a]/\Rd H a (.dK kvs)/\kvs.length<64/\kvs.map (·.1)=ts.map Sum.inr/\∀(p:Addr) (us:List Str),H p=none->us.Perm ts->sortedS us=true->Q (.ref p) (upd H p (.lst (us.map V.str)))):=by
 intro pins s σ H xs us Q I r h
 obtain⟨a,kvs,ts,rfl,ha,h64,hts,q⟩:=h
 obtain⟨u,rfl,rx⟩:=vals1 r
 cases rx
 obtain⟨hz,lo,vs,hkv,hd⟩:=Ec I.hok ha
 obtain⟨ep,hat⟩:=hd.dictAt
 obtain⟨hl,hvk⟩:=Ex hkv
 have htl:ts.length=kvs.length:=by have:=congrArg List.length hts;simpa using this.symm
 refine KH (κ:=PyProof.Rows.strKind) strKind_oneLt fun A' hA=>S6 (hA.trans (I.ok.hd hc)) lo hat (by rw[<-hl];exact hz) fun us h1 tk hul hus hk hlt=> ?_
 have hS:StrsAre us ts:=by
  refine yK (yJ (by rw[List.length_map,hul,<-hl,htl]) fun i v hv=> ?_)
  obtain⟨k,x,hx,hkk⟩:=hus i v hv
  obtain⟨y,hy⟩:=hvk i k x hx
  have e1:(kvs.map (·.1))[i]? =some k:=by rw[List.getElem?_map,hy];rfl
  rw[hts,List.getElem?_map] at e1
  cases ht:ts[i]? with
  | none=>rw[ht] at e1;cases e1
  | some t=>
    rw[ht] at e1
    have ek:k=Sum.inr t:=(Option.some.inj e1).symm
    subst ek
    exact⟨.str t,by rw[List.getElem?_map,ht];rfl,DG (k:=Sum.inr t) (v:=v) (show CG (Sum.inr t) v=true from hkk)⟩
 have hvl:us.length=ts.length:=by rw[hul,<-hl,htl]
 have hz':ts.length<=sizeLine:=by rw[htl];exact hz
 refine⟨hS.keysOf,fun x y r e=>keyKind_strs (by rw[<-e];exact hS),by rw[hvl,htl];exact h64,fun t t1 t2=> ?_⟩
 exact KJ I hk (Nat.le_of_lt hlt) hS (List.Perm.refl _) hz' q t t1 t2
theorem yN (hc:X.calm=true):pQ X (.builtin "sorted") (fun xs H Q=>∃(a:Addr) (kvs:List (Key×V)) (ts:List Str),xs=[.ref a]/\Rd H a (.dK kvs)/\kvs.length<64/\kvs.map (·.1)=ts.map Sum.inr/\∀(p:Addr) (us:List Str),H p=none->us.Perm ts->sortedS us=true->Q (.ref p) (upd H p (.lst (us.map V.str)))):=⟨Jg hc⟩
end
def aaR (K:PySem.W.Frag):R2:=fun x y H Q=>∃a b xs,x= .ref a/\y= .ref b/\SqL K H a xs/\SqL K H b []/\Q (.bl (!xs.isEmpty)) H
theorem Qv {X:Cx} (hu:X.A.units+64<cLine):QOp X (compareOp .NotEq) (aaR X.K):=⟨fun pins s σ H x y v u Q I rx ry h=>by
 obtain⟨a,b,xs,rfl,rfl,ha,hb,q⟩:=h
 cases xs with
 | nil=>exact RJ hu pins s σ H _ _ v u Q I rx ry ⟨.list [], .list [], .lst ha .nil, .lst hb .nil,shaped_ints [],shaped_ints [],q⟩
 | cons x r=>
   cases rx
   cases ry
   obtain⟨its,rv,pl,_⟩:=I.list ha
   obtain⟨its',rv',pl',_⟩:=I.list hb
   cases rv
   cases rv'
   exact PySem.SeqAt.RcNeAt.lists_lengths pl.isList pl'.isList rfl (by omega) _ _ _ _ ⟨.bl true,H,I,rfl,q⟩⟩
end L2
namespace RB
open PySem L2 PySem.Spec PyProof.Rows
section
variable {n:Nat}{gv gv':Kn}{rc:Rn}{kn kn':Kn}{rm rm' rm1 rm2:Rm}
end
end RB
namespace L2
open PySem PySem.Spec PyProof.Rows RB
end L2
namespace RB
open PySem L2 PySem.Spec PyProof.Rows
def slJ (a b:Str):Prop:=a.cps.toList<b.cps.toList
theorem Jh (a:Str):¬slJ a a:=List.lt_irrefl _
theorem HQ {a b c:Str} (h1:slJ a b) (h2:slJ b c):slJ a c:=List.lt_trans h1 h2
theorem S7 {a b:Str} (h:a.cps.toList=b.cps.toList):a=b:=by
 obtain⟨a⟩:=a;obtain⟨b⟩:=b
 exact congrArg Str.mk (Array.toList_inj.mp h)
theorem Wg {a b:Str} (h1:¬slJ a b) (h2:¬slJ b a):a=b:=S7 (List.le_antisymm (List.not_lt.mp h2) (List.not_lt.mp h1))
theorem M7 {a b:Str} (h:¬slJ b a):a=b\/slJ a b:=by
 by_cases c:slJ a b
 ·exact .inr c
 ·exact .inl (Wg c h)
theorem zZ:∀{us vs:List Str},us.Pairwise slJ->vs.Pairwise slJ->(∀x,x∈us ↔ x∈vs)->us=vs
 |[],[],_,_,_=>rfl
 |[],v::vs,_,_,h=>absurd ((h v).mpr List.mem_cons_self) (by simp)
 | u::us,[],_,_,h=>absurd ((h u).mp List.mem_cons_self) (by simp)
 | u::us,v::vs,hu,hv,h=>by
   have hu':=List.pairwise_cons.mp hu
   have hv':=List.pairwise_cons.mp hv
   have e:u=v:=by
    rcases List.mem_cons.mp ((h u).mp List.mem_cons_self) with z | z
    ·exact z
    ·rcases List.mem_cons.mp ((h v).mpr List.mem_cons_self) with y | y
     ·exact y.symm
     ·exact absurd (HQ (hu'.1 v y) (hv'.1 u z)) (Jh u)
   subst e
   congr 1
   refine zZ hu'.2 hv'.2 fun x=>⟨fun z=> ?_,fun z=> ?_⟩
   ·rcases List.mem_cons.mp ((h x).mp (List.mem_cons_of_mem _ z)) with y | y
    ·subst y;exact absurd (hu'.1 x z) (Jh x)
    ·exact y
   ·rcases List.mem_cons.mp ((h x).mpr (List.mem_cons_of_mem _ z)) with y | y
    ·subst y;exact absurd (hv'.1 x z) (Jh x)
    ·exact y
theorem Fo:∀(l:List Str) (p:Str),risingS p l=true->(∀x∈l,¬slJ x p)/\l.Pairwise fun a b=>¬slJ b a
 |[],p,_=>⟨fun x hx=>absurd hx (by simp),List.Pairwise.nil⟩
 | y::l,p,h=>by
   have h':(!ltCps y.cps.toList p.cps.toList&&risingS y l)=true:=h
   rw[Bool.and_eq_true] at h'
   have hy:¬slJ y p:=by
    have:=h'.1
    rw[ltCps_eq] at this
    simpa [slJ] using this
   obtain⟨k1,k2⟩:=Fo l y h'.2
   refine⟨fun x hx=> ?_,List.pairwise_cons.mpr ⟨k1,k2⟩⟩
   rcases List.mem_cons.mp hx with rfl | hx
   ·exact hy
   ·intro z
    rcases M7 hy with e | e
    ·rw[e] at z;exact k1 x hx z
    ·exact k1 x hx (HQ z e)
theorem Fp {l:List Str} (h:sortedS l=true):l.Pairwise fun a b=>¬slJ b a:=by
 cases l with
 | nil=>exact List.Pairwise.nil
 | cons p l=>
   obtain⟨k1,k2⟩:=Fo l p h
   exact List.pairwise_cons.mpr ⟨k1,k2⟩
theorem Fq {us vs ts ws:List Str} (h1:us.Perm ts) (s1:sortedS us=true) (h2:vs.Perm ws) (s2:sortedS vs=true) (n1:ts.Nodup) (n2:ws.Nodup) (e:∀x,x∈ts ↔ x∈ws):us=vs:=by
 have hn1:us.Nodup:=h1.nodup_iff.mpr n1
 have hn2:vs.Nodup:=h2.nodup_iff.mpr n2
 refine zZ (((Fp s1).and hn1).imp fun h=> ?_) (((Fp s2).and hn2).imp fun h=> ?_) fun x=>(h1.mem_iff.trans (e x)).trans h2.mem_iff.symm
 ·rcases M7 h.1 with z | z
  ·exact absurd z h.2
  ·exact z
 ·rcases M7 h.1 with z | z
  ·exact absurd z h.2
  ·exact z
section
variable {gv:Kn}{rc:Rn}{kn kn':Kn}{od od' p:List Str}{x y:Str}{r:R}
end
section
variable {Hf:Hp}{h g c rcd st wd ml:Addr}{n:Nat}{gv:Kn}{rc:Rn}{kr:List (Key×V)}{rm:Rm}{kn:Kn}{od:List Str}{H H':Hp}
end
section
variable {kn:Kn}{a b c:R}{op:Op}{y x:Str}{u v:Int}{ns:List Str}
end
end RB
namespace L2
open PySem PySem.Spec PyProof.Rows RB
end L2
namespace RB
open PySem L2 PySem.Spec PyProof.Rows
theorem yO:∀(r:R) (d:Nat),r.Eo->r.depth<=d->r.nms.length<=3 * 3 ^ d
 | r,0,_,h=>absurd (rR r) (by omega)
 | .num _,d+1,_,_=>Nat.zero_le _
 | .rd _,d+1,_,_=>by
   have:1<=3 ^(d+1):=Nat.one_le_pow _ _ (by decide)
   show 1<=_
   omega
 | .bin _ a b,d+1,g,h=>by
   have h:max a.depth b.depth+1<=d+1:=h
   have h1:=yO a d g.1 (by omega)
   have h2:=yO b d g.2 (by omega)
   show(a.nms++b.nms).length<=_
   rw[List.length_append,Nat.pow_succ];omega
 | .pick a b c,d+1,g,h=>by
   have h:max a.depth (max b.depth c.depth)+1<=d+1:=h
   have h1:=yO a d g.1 (by omega)
   have h2:=yO b d g.2.1 (by omega)
   have h3:=yO c d g.2.2 (by omega)
   show(a.nms++(b.nms++c.nms)).length<=_
   rw[List.length_append,List.length_append,Nat.pow_succ];omega
 | .cho a ns,d+1,g,h=>by
   have h:a.depth+1<=d+1:=h
   have h0:=rR a
   have h1:=yO a d g.1 (by omega)
   have h2:=g.2.2.1
   obtain⟨d',rfl⟩:∃d',d=d'+1:=⟨d - 1,by omega⟩
   have:1<=3 ^ d':=Nat.one_le_pow _ _ (by decide)
   show(a.nms++ns).length<=_
   rw[List.length_append,Nat.pow_succ,Nat.pow_succ] at *;omega
theorem Ji {ns:List Str} (nd:ns.Nodup) {j m:Nat}{y:Str} (h:ns[j]? =some y) (hm:m<=j):y∉ns.take m:=fun z=>by
 obtain⟨i,hi⟩:=List.getElem?_of_mem z
 rw[List.getElem?_take] at hi
 split at hi
 ·have:=(List.getElem?_inj (List.getElem?_eq_some_iff.mp hi).1 nd).mp (hi.trans h.symm)
  omega
 ·cases hi
theorem Ft {ns:List Str}{m:Nat}{z:Str} (h:z∈ns.take m):∃i,i<m/\ns[i]? =some z:=by
 obtain⟨i,hi⟩:=List.getElem?_of_mem h
 rw[List.getElem?_take] at hi
 split at hi
 ·exact⟨i,by assumption,hi⟩
 ·cases hi
theorem S8 {ns:List Str}{i m:Nat}{z:Str} (h:ns[i]? =some z) (hi:i<m):z∈ns.take m:=by
 refine List.mem_of_getElem? (i:=i) ?_
 rw[List.getElem?_take,if_pos hi];exact h
theorem O4 {gv:Kn}{rc:Rn}{I:Ms->Prop} (hs:∀s t,I s->mv gv rc s=some t->I t):∀{k:Nat}{s t:Ms},I s->itM gv rc k s=some t->I t
 | 0,s,t,h,e=>by cases e;exact h
 | k+1,s,t,h,e=>by
   unfold itM at e
   cases z:mv gv rc s with
   | none=>rw[z] at e;cases e
   | some u=>rw[z] at e;exact O4 hs (hs s u h z) e
theorem Mvs.inv {gv:Kn}{rc:Rn}{I:Ms->Prop} (hs:∀s t,I s->mv gv rc s=some t->I t) {s t:Ms} (m:Mvs gv rc s t) (h:I s):I t:=let ⟨_,e⟩:=m;O4 hs h e
theorem Fv {ns:List Str}{i j:Nat} (h:i<=j):∀x∈ns.take i,x∈ns.take j:=fun x hx=>by
 obtain⟨k,hk,e⟩:=Ft hx
 exact S8 e (by omega)
section
variable {H0 Hf Hf':Hp}{h g c st:Addr}{A:S1}{gs cs:List Str}{gv:Kn}{rc:Rn}{ops:List Str}{ls:List Addr}{kn:Kn}{rm:Rm}{od:List Str}{H H':Hp}
end
section
variable {H0 Hf:Hp}{h g c st:Addr}{A:S1}{gs cs:List Str}{gv:Kn}{rc:Rn}{ops:List Str}{ls:List Addr}{kn:Kn}{rm:Rm}{od:List Str}{H:Hp}
end
structure agP (q:R×List Rdp×Int):Prop where
 g:q.1.Good
 d:q.1.depth<=8
 p:∀p∈q.2.1,lR p.1
def RmG (rm:Rm):Prop:=∀x q,rm x=some q->agP q
section
variable {gv gv':Kn}{rc:Rn}{kn kn':Kn}{rm rm' rm1 rm2:Rm}
theorem StG.rmG (s:StG gv rc kn rm) (hg:∀x r,rc x=some r->r.Good/\r.depth<=8) (hn:∀y,kn y≠none->lR y):RmG rm:=fun x q e=>by
 obtain⟨r,ps,v⟩:=q
 obtain⟨h1,_,_,_,h5⟩:=s.b _ _ _ _ e
 exact⟨(hg x r h1).1,(hg x r h1).2,fun p hp=>hn _ (by rw[h5.s p hp];simp)⟩
end
end RB
namespace L2
open PySem PySem.Spec PyProof.Rows RB PySem.W
section
variable {prog:Program}{w:World}{A:Around}{E:Value->Shared->Prop}{s:Shared}
end
end L2
namespace L2
open PySem PySem.Spec PyProof.Rows RB
end L2
namespace RB
open PySem L2 PySem.Spec PyProof.Rows
end RB
namespace L2
open PySem PySem.Spec PyProof.Rows RB
theorem Fw {y:Str}:∀{vs:List Value}{ns:List Str},StrsAre vs ns->∀{j:Nat}{v:Value},vs[j]? =some v->isStrOf y v=decide (ns[j]? =some y)
 | _,_, .nil,j,v,h=>by simp at h
 | _,_, .cons z t r,0,v,h=>by
   cases h
   show(z==y)=decide (some z=some y)
   by_cases h:z=y<;>simp[h]
 | _,_, .cons z t r,j+1,v,h=>by
   have:=Fw (y:=y) r (j:=j) (v:=v) (by simpa using h)
   simpa using this
def S9 (K:PySem.W.Frag):V->List V->Hp->VK->Prop:=fun x vs H Q=>∃(l:Addr) (ns:List Str) (y:Str) (j:Nat),x= .ref l/\vs=[.str y]/\SqL K H l (ns.map V.str)/\ns[j]? =some y/\(∀i,i<j->ns[i]? ≠some y)/\Q (.int (j:Int)) H
theorem Tc {X:Cx}:MtR X "list.index" (S9 X.K):=by
 intro pins s σ H x vs v us Q I rx rv h
 obtain⟨l,ns,y,j,rfl,rfl,hS,hj,hno,q⟩:=h
 cases rx
 obtain⟨u,rfl,ru⟩:=rv.one
 obtain⟨t,rfl⟩:∃t,u= .str y t:=ru
 obtain⟨its,r,pl,hz⟩:=I.list hS
 have hA:=yK r
 have hl:=r.length
 rw[List.length_map] at hl hz
 obtain⟨⟨cls,dd,data,sl⟩,ho,hc,n,hd⟩:=pl.isList
 simp only at hc hd
 subst hc hd
 have hjl:j<ns.length:=(List.getElem?_eq_some_iff.mp hj).1
 have hn:=Bl
 have hat:∀(i:Nat) (hi:i<its.toArray.size),isStrOf y its.toArray[i]=decide (ns[i]? =some y):=fun i hi=>by
  have hi':i<its.length:=by simpa using hi
  refine Fw hA ?_
  rw[List.getElem?_eq_getElem hi']
  simp
 refine call_meets PySem.F.slot_list_index ⟨_,ho,rfl⟩ PySem.F.entry_list_index (PySem.F.args_list_index_2 _ _) (SeqAt.list_indexAt l its.toArray n dd sl (.str y t) (isStrOf y) j (by simp;omega) (by
  have:its.length<=sizeLine:=by omega
  omega) ?_ ?_) ⟨ho,fun z hz=>(eq_isStrOf y t hA z (by simpa using hz)).at _ _, ?_⟩
 ·rw[hat];exact decide_eq_true hj
 ·intro i hi hlt
  rw[hat];exact decide_eq_false (hno i hlt)
 ·exact⟨.int (j:Int),H,I.tok _,⟨_,rfl⟩,q⟩
theorem Qw {X:Cx}:QMt X "list.index" (S9 X.K):=⟨Tc⟩
end L2
namespace L2
open PySem PySem.Spec PyProof.Rows
def Hd (c:Value) (d:Option Addr) (o:Obj):Prop:=o.cls=c/\o.dict=d
theorem Hd.map {c:Value}{d:Option Addr}{o:Obj} (h:Hd c d o) (f:Array Value->Array Value):Hd c d (o.mapFields f):=by
 obtain⟨oc,od,dt,sl⟩:=o
 obtain⟨h1,h2⟩:=h
 cases dt<;>exact⟨h1,h2⟩
def TrD (h base:Heap) (e:Addr) (c:Value) (d:Option Addr) (fl:Value):Prop:=∃oe vs T oT ts,h.get? e=some oe/\Hd c d oe/\oe.data= .fields vs/\vs[1]? =some (Value.ref T)/\base.get? T=none/\T≠e/\h.get? T=some oT/\oT.data= .fields ts/\ts[3]? =some fl
structure xV (base:Heap) (l:List Env) (e:Addr) (c:Value) (d:Option Addr) (fl:Value) (h:Heap):Prop where
 stays:base.StaysIn h
 new:base.get? e=none
 frames:h.FunFrames base l
 tr:TrD h base e c d fl
theorem xV.there {base h:Heap}{l:List Env}{e:Addr}{c fl:Value}{d:Option Addr} (x:xV base l e c d fl h):∃o vs,h.get? e=some o/\Hd c d o/\o.data= .fields vs:=by
 obtain⟨oe,vs,_,_,_,h1,h2,h3,_⟩:=x.tr
 exact⟨oe,vs,h1,h2,h3⟩
theorem xV.out {base h:Heap}{env:Env}{l:List Env}{e:Addr}{c fl:Value}{d:Option Addr} (x:xV base (env::l) e c d fl h):xV base l e c d fl h:=⟨x.stays,x.new,x.frames.2.2,x.tr⟩
section
variable {M:Model}{A:Around}{E:Value->Shared->Prop}{s:Shared}{base:Heap}{env:Env}{outer:List Env}{L e:Addr}{Q:Unit->Shared->Prop}{c:Value}{d:Option Addr}
theorem Yg {oe:Obj}{vs:Array Value}{head:Value}{more:Bool} (fr:A.frames=some (env::outer)) (ff:s.heap.FunFrames base (env::outer)) (fl:env.frame=some L) (he:s.heap.get? e=some oe) (st:base.StaysIn s.heap) (en:base.get? e=none)
 (hd:oe.data= .fields vs) (sz:1<vs.size) (hh:Hd c d oe) (k:∀h',xV base (env::outer) e c d (rawInt L) h'->s.heap.UpToSlots h'->Q () {s with heap:=h'}):
 wpAny M A (do let a <-frameOf env;let pl <-entryPlaceOf L more;let b <-EntryCells.newEntry head a .none (rawInt L) .none pl;setField (.ref e) 1 b) Q E s:=by
 have nf:e∉(env::outer).filterMap (·.frame):=fun hm=>by
  obtain⟨_,o,q,nq⟩:=ff.mem hm
  rw[he] at q
  cases q
  exact nq vs hd
 refine wpAny_bind (wpAny_frameOf_fun fr ff fl fun h1 so=> ?_)
 refine wpAny_bind (wpAny_entryPlaceOf fun pl hpl=> ?_)
 unfold EntryCells.newEntry newFields
 refine wpAny_bind (wpAny_newObj_type ?_ (hpl.sizeOk5 _ _ _ _ _))
 have e1:h1.get? e=some oe:=by rw[so.2.1 e nf];exact he
 have st1:base.StaysIn h1:=fun b o q=>by
  rw[so.2.1 b fun hm=>by rw[(ff.mem hm).1] at q;cases q]
  exact st b o q
 generalize hnew:({cls:= .type "traceback",dict:=none,data:= .fields ([head, .ref L, .none,rawInt L, .none]++(if pl.isEmpty then List.replicate 6 Value.none else pl)).toArray}:Obj)=nt
 have hnd:∃ts,nt.data= .fields ts/\ts[3]? =some (rawInt L):=by
  subst hnew
  exact⟨_,rfl,by first | (simp;done) | (rcases hpl with rfl | ⟨_,_,_,_,_,_,_,rfl⟩<;>simp)⟩
 have nfree:nt.isFreed=false:=by subst hnew;rfl
 have e2:=Heap.get?_push_of_some (h:=h1) nt e1
 refine wpAny_setField e2 hd sz ?_
 have nT:h1.objs.size≠e:=Nat.ne_of_gt (Heap.lt_size e1)
 have d3:=Obj.data_mapFields hd (·.setIfInBounds 1 (Value.ref h1.objs.size))
 have keep:∀b o,b≠e->h1.get? b=some o->((h1.push nt).update e (Obj.mapFields (·.setIfInBounds 1 (Value.ref h1.objs.size)))).get? b=some o:=fun b o nb q=>by
  rw[Heap.get?_update_other _ _ (Ne.symm nb)];exact Heap.get?_push_of_some nt q
 have nrec:∀b o,s.heap.get? b=some o->(∀ws,o.data≠ .fields ws)->b≠e:=fun b o q nq z=>by
  rw[z,he] at q;cases q;exact nq vs hd
 obtain⟨ts,t1,t2⟩:=hnd
 refine k _ ⟨fun b o q=>keep b o (fun z=>by rw[z,en] at q;cases q) (st1 b o q),en,ff.of_keeps fun b o q nq=> ?_,_,_,h1.objs.size,nt,ts,Heap.get?_update_self _ e2 (Obj.isFreed_of_fields d3),hh.map _,d3,by simp[sz],st1.fresh,nT, ?_,t1,t2⟩ fun b o q nq=> ?_
 ·obtain⟨sl,z⟩:=so.2.2 b o q
  exact⟨_,keep b _ (nrec b o q nq) z,rfl⟩
 ·rw[Heap.get?_update_other _ _ (Ne.symm nT)]
  exact Heap.get?_push_size h1 nfree
 ·obtain⟨sl,z⟩:=so.2.2 b o q
  exact⟨sl,keep b _ (nrec b o q nq) z⟩
theorem Qx {oe:Obj}{vs:Array Value} (fr:A.frames=some (env::outer)) (ff:s.heap.FunFrames base (env::outer)) (fl:env.frame=some L) (he:s.heap.get? e=some oe) (st:base.StaysIn s.heap) (en:base.get? e=none)
 (hd:oe.data= .fields vs) (h1:vs[1]? =some .none) (hh:Hd c d oe) (k:∀h',xV base (env::outer) e c d (rawInt L) h'->s.heap.UpToSlots h'->Q () {s with heap:=h'}):wpAny M A (noteFrame (.ref e) env) Q E s:=by
 unfold noteFrame
 simp only[fl]
 refine wpAny_bind (wpAny_field he hd h1 ?_)
 rw[if_neg (by decide)]
 exact Yg fr ff fl he st en hd (Array.getElem?_eq_some_iff.mp h1).1 hh k
theorem KN (fr:A.frames=some (env::outer)) (fl:env.frame=some L) (x:xV base (env::outer) e c d .none s.heap) (k:∀h',xV base (env::outer) e c d (rawInt L) h'->s.heap.UpToSlots h'->Q () {s with heap:=h'}):wpAny M A (noteFrame (.ref e) env) Q E s:=by
 obtain⟨oe,vs,T,oT,ts,he,hh,hd,h1,bT,nT,hT,dT,h3⟩:=x.tr
 unfold noteFrame
 simp only[fl]
 refine wpAny_bind (wpAny_field he hd h1 ?_)
 rw[if_pos (show(Value.ref T !=Value.none)=true from by simp)]
 refine wpAny_bind (wpAny_field hT dT h3 ?_)
 rw[if_neg (show¬((Value.none==rawInt L)=true) from by simp[rawInt])]
 refine wpAny_bind (wpAny_setField hT dT (Array.getElem?_eq_some_iff.mp h3).1 ?_)
 have oth:∀b,b≠T->(s.heap.update T (Obj.mapFields (·.setIfInBounds 3 Value.none))).get? b=s.heap.get? b:=fun b nb=>Heap.get?_update_other _ _ (Ne.symm nb)
 have nrec:∀b o,s.heap.get? b=some o->(∀ws,o.data≠ .fields ws)->b≠T:=fun b o q nq z=>by
  rw[z,hT] at q;cases q;exact nq ts dT
 refine Yg fr (x.frames.of_keeps fun b o q nq=>⟨o,by rw[oth b (nrec b o q nq)];exact q,rfl⟩) fl (by rw[oth e (Ne.symm nT)];exact he) (fun b o q=>by
  rw[oth b fun z=>by rw[z,bT] at q;cases q]
  exact x.stays b o q) x.new hd (Array.getElem?_eq_some_iff.mp h1).1 hh fun h' f u=>k h' f fun b o q nq=>u b o (by rw[oth b (nrec b o q nq)];exact q) nq
theorem O5 {fl:Value}{l:List Env} (x:xV base l e c d fl s.heap) (k:∀h',xV base l e c d .none h'->s.heap.UpToSlots h'->Q () {s with heap:=h'}):wpAny M A (setFlight (.ref e) none) Q E s:=by
 obtain⟨oe,vs,T,oT,ts,he,hh,hd,h1,bT,nT,hT,dT,h3⟩:=x.tr
 have sz:3<ts.size:=(Array.getElem?_eq_some_iff.mp h3).1
 have oth:∀b,b≠T->(s.heap.update T (Obj.mapFields (·.setIfInBounds 3 ((none:Option Addr).elim Value.none fun f=>rawInt f)))).get? b=s.heap.get? b:=fun b nb=>Heap.get?_update_other _ _ (Ne.symm nb)
 have nrec:∀b o,s.heap.get? b=some o->(∀ws,o.data≠ .fields ws)->b≠T:=fun b o q nq z=>by
  rw[z,hT] at q;cases q;exact nq ts dT
 unfold setFlight
 refine wpAny_bind (wpAny_field he hd h1 ?_)
 rw[if_pos (show(Value.ref T !=Value.none)=true from by simp)]
 refine wpAny_setField hT dT sz (k _ ⟨fun b o q=> ?_,x.new,x.frames.of_keeps fun b o q nq=>⟨o,by rw[oth b (nrec b o q nq)];exact q,rfl⟩,oe,vs,T,_,_,by rw[oth e (Ne.symm nT)];exact he,hh,hd,h1,bT,nT,Heap.get?_update_self _ hT (Obj.isFreed_of_fields (Obj.data_mapFields dT _)),Obj.data_mapFields dT _,by simp[sz]⟩ fun b o q nq=>⟨o.slots, ?_⟩)
 ·rw[oth b fun z=>by rw[z,bT] at q;cases q]
  exact x.stays b o q
 ·rw[oth b (nrec b o q nq)];exact q
theorem M8 {oe:Obj}{vs:Array Value} (fr:A.frames=some (env::outer)) (ff:s.heap.FunFrames base (env::outer)) (fl:env.frame=some L) (he:s.heap.get? e=some oe) (st:base.StaysIn s.heap) (en:base.get? e=none)
 (hd:oe.data= .fields vs) (h1:vs[1]? =some .none) (hh:Hd c d oe) (k:∀h',xV base outer e c d .none h'->s.heap.UpToSlots h'->Q () {s with heap:=h'}):wpAny M A (leaving env (.ref e)) Q E s:=by
 unfold leaving
 refine wpAny_bind (Qx fr ff fl he st en hd h1 hh fun h' f u=> ?_)
 exact O5 (s:={s with heap:=h'}) f fun h2 f2 u2=>k h2 f2.out (u.trans u2)
theorem Qy (fr:A.frames=some (env::outer)) (fl:env.frame=some L) (x:xV base (env::outer) e c d .none s.heap) (k:∀h',xV base outer e c d .none h'->s.heap.UpToSlots h'->Q () {s with heap:=h'}):wpAny M A (leaving env (.ref e)) Q E s:=by
 unfold leaving
 refine wpAny_bind (KN fr fl x fun h' f u=> ?_)
 exact O5 (s:={s with heap:=h'}) f fun h2 f2 u2=>k h2 f2.out (u.trans u2)
end
section
variable {prog:Program}{w:World}{A:Around}{E:Value->Shared->Prop}{h:Heap}{g:Array GenState}{d:Drawn}{t:Nat}{os:OsState}
variable {nm q:Str}{C N:Addr}{bs bm bmB:List Value}{hdct:Bool}{sn:List Str}{sub:List Value}{ab:Bool}{col:Option Bool}{dd:Option Addr}{k0 k1 k2 k3 k5:Option Value}{B newId initId:String}
theorem Dh (F:ExcBaseFacts B newId initId bmB) (T:OwnTail h bmB bm) {mN:Str->Option Value}{rest:List Value}{fI:Addr}{oI:Obj}{Q:Fin->Shared->Prop}
 (hC:h.get? C=some (excClassObj nm q C N bs bm hdct sn sub ab col dd k0 k1 k2 k3 k5 newId)) (hn:h.Ns N mN) (hi:mN "__init__"=some (.ref fI)) (hfI:h.get? fI=some oI) (hfc:oI.cls= .type "function")
 (hq:∀h' e,Heap.MadeExcOf h h' e (.ref C) rest->wpAny (model prog w) A (call (.ref fI) (.ref e::rest)) (fun r s'=>r= .none/\Q (.done (.ret (.ref e))) s') E ⟨h',g,d,t,os⟩) (hrest:rest.length<=sizeLine):
 wpAny (model prog w) A (Builtin.«type.__call__» ⟨.ref C::rest,[]⟩) Q E ⟨h,g,d,t,os⟩:=by
 repeat (first | with_reducible refine wpAny_loadPart_at hC ?_ | with_reducible refine wpAny_madeBy_exc hC ?_ | wp_step)
 refine codeAny_call_builtin_code (Code.quiet_builtin _ F.quiet) (wpAny_check_new_subT F T hC ?_)
 refine codeAny_exc_new_subT F T hC ?_ hrest
 show wpAny _ _ _ _ _ _
 have hC₁:=Heap.get?_push_of_some {cls:= .ref C,data:= .fields #[.ref h.objs.size, .none, .none, .none, .bool false, .none]}
  (Heap.get?_push_of_some {cls:= .type "tuple",data:= .seq rest.toArray} hC)
 have hfI₁:=Heap.get?_push_of_some {cls:= .ref C,data:= .fields #[.ref h.objs.size, .none, .none, .none, .bool false, .none]}
  (Heap.get?_push_of_some {cls:= .type "tuple",data:= .seq rest.toArray} hfI)
 have hn₁:((h.push {cls:= .type "tuple",data:= .seq rest.toArray}).push {cls:= .ref C,data:= .fields #[.ref h.objs.size, .none, .none, .none, .bool false, .none]}).Ns N mN:=
  let ⟨o,es,ep,e,r⟩:=hn;⟨o,es,ep,Heap.get?_push_of_some _ (Heap.get?_push_of_some _ e),r⟩
 have hget:((h.push {cls:= .type "tuple",data:= .seq rest.toArray}).push
  {cls:= .ref C,data:= .fields #[.ref h.objs.size, .none, .none, .none, .bool false, .none]}).get? (h.objs.size+1)=some
  {cls:= .ref C,data:= .fields #[.ref h.objs.size, .none, .none, .none, .bool false, .none]}:=by heap_get
 have hcC:(Value.ref C::bm).contains (.ref C)=true:=by simp
 have T₁:=T.keeps (h':=(h.push {cls:= .type "tuple",data:= .seq rest.toArray}).push {cls:= .ref C,data:= .fields #[.ref h.objs.size, .none, .none, .none, .bool false, .none]})
  fun b o e=>Heap.get?_push_of_some _ (Heap.get?_push_of_some _ e)
 unfold isInstance
 repeat (first | with_reducible refine wpAny_loadPart_at hget ?_ | (with_reducible refine wpAny_isSubtype_exc hC₁ ?_;rw[hcC]) | wp_step)
 show wpAny _ _ (typeLookup (.ref C) _) _ _ _
 refine wpAny_typeLookup_tail hC₁ hn₁ T₁ F.mroIs F.init.lookup ?_
 rw[hi]
 refine wpAny_holding (wpAny_bind ?_)
 unfold bindSpecial
 refine wpAny_bind (wpAny_typeOf (T:="function") ⟨_,hfI₁,hfc⟩ ?_)
 rw[if_pos (by decide)]
 refine wpAny_pure (wpAny_bind (wpAny_mono (hq _ (h.objs.size+1) ⟨fun b o hb=>Heap.get?_push_of_some _ (Heap.get?_push_of_some _ hb),Heap.get?_none_of_le (Nat.le_succ _),h.objs.size,hget,Heap.get?_none_of_le (Nat.le_refl _), ?_⟩) (fun r s' hr=> ?_) fun _ _ x=>x))
 ·exact Heap.get?_push_of_some _ (Heap.get?_push_at rfl rfl)
 ·obtain⟨rfl,hQ⟩:=hr
  wp_walk
  exact hQ
theorem Fx (F:ExcBaseFacts B newId initId bmB) (T:OwnTail h bmB bm) {mN:Str->Option Value}{rest:List Value}{fI:Addr}{oI:Obj}{Q:Value->Shared->Prop}
 (hC:h.get? C=some (excClassObj nm q C N bs bm hdct sn sub ab col dd k0 k1 k2 k3 k5 newId)) (hn:h.Ns N mN) (hi:mN "__init__"=some (.ref fI)) (hfI:h.get? fI=some oI) (hfc:oI.cls= .type "function")
 (hq:∀h' e,Heap.MadeExcOf h h' e (.ref C) rest->wpAny (model prog w) (A.under (.builtin "type.__call__" ⟨.ref C::rest,[]⟩)) (call (.ref fI) (.ref e::rest)) (fun r s'=>r= .none/\Q (.ref e) s') E ⟨h',g,d,t,os⟩) (hrest:rest.length<=sizeLine):
 wpAny (model prog w) A (call (.ref C) rest) Q E ⟨h,g,d,t,os⟩:=by
 have f1:=tc_lookup
 have f2:=tc_bind (.ref C)
 have hT:(⟨h,g,d,t,os⟩:Shared).TypeIs (.ref C) "type":=⟨_,hC,rfl⟩
 refine wpAny_call (codeAny_of_tree ?_)
 show wpAny _ _ (callAny (.ref C) _) _ _ _
 repeat (any_goals (first | assumption | with_reducible refine wpAny_loadPart_at hC ?_ | wp_step))
 refine⟨rfl, ?_⟩
 refine codeAny_call_builtin_at (Code.quiet_builtin _ (by decide +kernel)) entry_typeCall (wpAny_check_type_call_sub hC (Dh (hrest:=hrest) F T hC hn hi hfI hfc fun h' e hm=> ?_))
 exact hq h' e hm
theorem yP {M:Model}{s:Shared}{env:Env}{x:Sem Value}{Q:Flow->Shared->Prop} (hbase:bm.contains (.type "BaseException")=true) (hh:A.handled=none)
 (hx:wpAny M A x (fun v s₁=>∃e od t sl,v= .ref e/\s₁.heap.get? C=some (excClassObj nm q C N bs bm hdct sn sub ab col dd k0 k1 k2 k3 k5 newId)/\
   s₁.heap.get? e=some {cls:= .ref C,dict:=od,data:= .fields #[.ref t, .none, .none, .none, .bool false, .none],slots:=sl}/\E (.ref e) s₁) E s):
 wpAny M A (raiseStmt env (some x) none) Q E s:=by
 have hcB:(Value.ref C::bm).contains (.type "BaseException")=true:=by rw[List.contains_cons,hbase,Bool.or_true]
 unfold raiseStmt
 refine wpAny_bind (wpAny_mono hx (fun v s₁ h₁=> ?_) fun _ _ x=>x)
 obtain⟨e,od,t,sl,rfl,hC,he,hE⟩:=h₁
 obtain⟨hp,g,d,tk,os⟩:=s₁
 repeat (first | with_reducible refine wpAny_loadPart_at he ?_ | with_reducible refine wpAny_loadPart_at hC ?_ | (with_reducible refine wpAny_isSubtype_exc hC ?_;rw[hcB]) | wp_step)
 exact wpAny_raiseNew_none hh hE
end
end L2
namespace L2
open PySem PySem.Spec PyProof.Rows PySem.W
def oJ (C:Addr) (od:Option Addr) (t:Addr) (sl:Array (Option Value)):Obj:={cls:= .ref C,dict:=od,data:= .fields #[.ref t, .none, .none, .none, .bool false, .none],slots:=sl}
section
variable {prog:Program}{w:World}{A:Around}{E:Value->Shared->Prop}{h:Heap}{g:Array GenState}{d:Drawn}{t:Nat}{os:OsState}{K:PySem.W.Frag}
variable {nm q:Str}{C N x:Addr}{bs bm:List Value}{hdct:Bool}{sn:List Str}{sub:List Value}{ab:Bool}{col:Option Bool}{dd:Option Addr}{k0 k1 k2 k3 k5:Option Value}
theorem Qz {e t0:Addr}{od:Option Addr}{sl:Array (Option Value)}{v:Value}{Q:Value->Shared->Prop} (T:OwnTail h [.type "ValueError", .type "Exception", .type "BaseException", .type "object"] bm)
 (hC:h.get? C=some (excClassObj nm q C N bs bm hdct sn sub ab col dd k0 k1 k2 k3 k5 "ValueError.__new__")) (he:h.get? e=some (oJ C od t0 sl))
 (hq:∀h' t1,(∀b o,b≠e->h.get? b=some o->h'.get? b=some o)->h'.get? e=some (oJ C od t1 sl)->Q .none ⟨h',g,d,t,os⟩):
 wpAny (model prog w) A (call (.builtin "ValueError.__init__") [.ref e,v]) Q E ⟨h,g,d,t,os⟩:=by
 have F:=PySem.F.excBase_ValueError
 refine wpAny_call (codeAny_call_builtin F.init.plain F.initEntry (wpAny_check_init_subT F T hC he rfl ?_))
 unfold oJ at he
 wp_walk
 refine hq _ h.objs.size (fun b o nb hb=> ?_) ?_
 ·rw[Heap.get?_update_other _ _ (Ne.symm nb)]
  exact Heap.get?_push_of_some _ hb
 ·rw[Heap.get?_update_self _ (Heap.get?_push_of_some _ he) rfl]
  rfl
theorem KQ {self:Value}{what:Str}{bmB:List Value} (T:OwnTail h bmB bm) (hp:refuseLoop self what bmB=pure ()):refuseLoop self what bm=pure ():=by
 induction T with
 | base=>exact hp
 | own _ _ _ _ ih=>rw[refuseLoop_ref];exact ih
theorem QB {M:Model}{o:Obj}{nameV v:Value}{Q:Unit->Shared->Prop} (T:OwnTail h [.type "ValueError", .type "Exception", .type "BaseException", .type "object"] bm)
 (hC:h.get? C=some (excClassObj nm q C N bs bm true sn sub ab col dd k0 k1 k2 k3 k5 "ValueError.__new__")) (hx:h.get? x=some o) (hc:o.cls= .ref C) (hq:Q () ⟨h,g,d,t,os⟩):
 wpAny M A (checkBuiltinCall "object.__setattr__" ⟨[.ref x,nameV,v],[]⟩) Q E ⟨h,g,d,t,os⟩:=by
 have SF:=PySem.F.store_ValueError
 have hcB:(Value.ref C::bm).contains (.type "object")=true:=by rw[List.contains_cons,T.hasType SF.hasOwner,Bool.or_true]
 have ha:=SF.args (.ref x) nameV v
 simp only[checkBuiltinCall,SF.kind,SF.split]
 refine wpAny_bind ?_
 ·unfold isInstance
  repeat (first | (with_reducible refine wpAny_loadPart_at hx ?_;rw[hc]) | (with_reducible refine wpAny_isSubtype_exc hC ?_;rw[hcB]) | wp_step)
  exact hq
theorem Jj {e t0:Addr}{tk:Tok}{sl:Array (Option Value)}{name:Str}{v:Value}{Q:Fin->Shared->Prop} (X:K.In h) (T:OwnTail h [.type "ValueError", .type "Exception", .type "BaseException", .type "object"] bm)
 (hC:h.get? C=some (excClassObj nm q C N bs bm true sn sub ab col dd k0 k1 k2 k3 k5 "ValueError.__new__")) (na:findIn K (.ref C) name=some none) (hx:h.get? e=some (oJ C none t0 sl))
 (hq:∀h' dx tk,h.get? dx=none->dx≠e->(∀b o,b≠e->h.get? b=some o->h'.get? b=some o)->h'.get? e=some (oJ C (some dx) t0 sl)->h'.Ns1 dx (fun y=>if y=name then some v else none)->Q (.done (.ret .none)) ⟨h',g,d,tk,os⟩):
 wpAny (model prog w) A (Builtin.«object.__setattr__» ⟨[.ref e, .str name tk,v],[]⟩) Q E ⟨h,g,d,t,os⟩:=by
 have hpass:refuseLoop (.ref e) "__setattr__" bm=pure ():=KQ T (PySem.F.store_ValueError.passes _)
 have LN:=looks_findIn (M:=model prog w) X na
 obtain⟨o,ho⟩:∃o,o=oJ C none t0 sl:=⟨_,rfl⟩
 rw[<-ho] at hx
 have hc:o.cls= .ref C:=by rw[ho];rfl
 have hdn:o.dict=none:=by rw[ho];rfl
 have hnc:∀c,o.data≠ .cls c:=fun c z=>by rw[ho] at z;cases z
 unfold Builtin.«object.__setattr__»
 repeat (first | rw[refuse_eq] | (rw[refuseLoop_ref,hpass]) | (with_reducible refine wpAny_loadPart_at hx ?_;rw[hc]) | with_reducible refine wpAny_mroOf_exc hC ?_ | with_reducible refine LN.at ?_ | wp_step)
 rw[hdn,if_neg (by simp[typeHasDict])]
 split
 ·rename_i hcd
  cases hcd
 split
 ·rename_i c hcd
  exact absurd hcd (hnc c)
 have hx₁:(h.push {cls:= .type "dict",data:= .dict #[]}).get? e=some o:=Heap.get?_push_of_some _ hx
 have hxs:e≠h.objs.size:=Nat.ne_of_lt (Heap.lt_size hx)
 refine wpAny_bind (wpAny_alloc' ?_)
 refine wpAny_bind (wpAny_update' hx₁ ?_)
 refine wpAny_pure ?_
 have hgd:((h.push {cls:= .type "dict",data:= .dict #[]}).update e fun o=>{cls:=o.cls,dict:=some h.objs.size,data:=o.data,slots:=o.slots}).get? h.objs.size
  =some {cls:= .type "dict",data:= .dict #[]}:=
  (Heap.get?_update_ne _ _ _ _ hxs.symm).trans (Heap.get?_push_at rfl rfl)
 have hnd:((h.push {cls:= .type "dict",data:= .dict #[]}).update e fun o=>{cls:=o.cls,dict:=some h.objs.size,data:=o.data,slots:=o.slots}).Ns h.objs.size (fun _=>none):=
  ⟨_, #[],_,hgd,rfl,fun e he=>absurd he (by simp),fun _=>rfl⟩
 show wpAny _ _ (Builtin.ObjectAttr.storeInDict h.objs.size (.str name tk) name v) _ _ _
 unfold Builtin.ObjectAttr.storeInDict Builtin.ObjectAttr.newKeyGuard
 refine wpAny_bind (wpAny_pure (wpAny_bind (wpAny_nsSet1 (Heap.Ns1.of_empty hnd) fun h' hn' hs=> ?_)))
 obtain⟨oD,esD,epD,hoD,hdD,hcD⟩:=hn'.count (Within.cons name v Within.nil)
 refine wpAny_bind (wpAny_lookBehind hoD (by rw[hdD];exact pastItsLine_dict (Nat.le_trans hcD (by rw[List.length_cons,List.length_nil,sizeLine_eq];omega))) ?_)
 wp_walk
 refine hq h' h.objs.size _ (Heap.get?_none_of_le (Nat.le_refl _)) hxs.symm (fun b ob nb hb=> ?_) ?_ hn'
 ·exact(hs.2 b (Nat.ne_of_lt (Heap.lt_size hb))).trans ((Heap.get?_update_ne _ _ _ _ nb).trans (Heap.get?_push_of_some _ hb))
 ·have:=(hs.2 e hxs).trans (Heap.get?_update_self (fun o=>{cls:=o.cls,dict:=some h.objs.size,data:=o.data,slots:=o.slots}) hx₁ (by rw[ho];rfl))
  rw[this,ho];rfl
theorem Td {e t0:Addr}{sl:Array (Option Value)}{name:Str}{v:Value}{Q:Unit->Shared->Prop} (X:K.In h) (T:OwnTail h [.type "ValueError", .type "Exception", .type "BaseException", .type "object"] bm)
 (hC:h.get? C=some (excClassObj nm q C N bs bm true sn sub ab col dd k0 k1 k2 k3 k5 "ValueError.__new__")) (sa:findIn K (.ref C) "__setattr__"=some (some (.builtin "object.__setattr__"))) (na:findIn K (.ref C) name=some none)
 (he:h.get? e=some (oJ C none t0 sl))
 (hq:∀h' dx tk,h.get? dx=none->dx≠e->(∀b o,b≠e->h.get? b=some o->h'.get? b=some o)->h'.get? e=some (oJ C (some dx) t0 sl)->h'.Ns1 dx (fun y=>if y=name then some v else none)->Q () ⟨h',g,d,tk,os⟩):
 wpAny (model prog w) A (setAttr (.ref e) name v) Q E ⟨h,g,d,t,os⟩:=by
 have SF:=PySem.F.store_ValueError
 refine set_plain (s:=⟨h,g,d,t,os⟩) (ox:=oJ C none t0 sl) (od:=none) X ⟨he,rfl,rfl,trivial⟩ sa ?_
 exact codeAny_call_builtin SF.slot.plain SF.entry (QB T hC he rfl (Jj X T hC na he fun h' dx tk a1 a2 a3 a4 a5=>hq h' dx tk a1 a2 a3 a4 a5))
end
end L2
namespace L2
open PySem PySem.Spec PyProof.Rows
def u9 (C:Addr) (od:Option Addr) (e:Addr):HO:= .ext fun h=>∃t sl,h.get? e=some (oJ C od t sl)
theorem Jk {P:Program}{w:World}{H:Hp}{h:Heap}{C e t:Addr}{od:Option Addr}{sl:Array (Option Value)} (he:h.get? e=some (oJ C od t sl)):eF P w H h e (u9 C od e):=
 ⟨⟨t,sl,he⟩,⟨_,he⟩,fun _ _ ⟨t,sl,q⟩ k=>⟨t,sl,k _ q⟩⟩
structure ExI (K:PySem.W.Frag) (C fI:Addr):Prop where
 obj:∃nm q N bs bm sn sub ab col dd k0 k1 k2 k3 k5,K.lookup C=some (excClassObj nm q C N bs bm true sn sub ab col dd k0 k1 k2 k3 k5 "ValueError.__new__")/\PySem.W.nsOkIn K N=true/\PySem.W.nsIn K N "__init__"=some (some (.ref fI))/\
  PySem.W.tailIn K [.type "ValueError", .type "Exception", .type "BaseException", .type "object"] bm=true
 sa:PySem.W.findIn K (.ref C) "__setattr__"=some (some (.builtin "object.__setattr__"))
structure ExU (K:PySem.W.Frag) (M:Addr):Prop where
 sp:PySem.W.specialIn K (.ref M) "__getattribute__"=some (some (.builtin "type.__getattribute__"))
 rd:PySem.W.readsIn K M (.type "type")=true
 fc:PySem.W.findCls K (.ref M) (.type "type") "__init__"=some (.val (.builtin "ValueError.__init__"))
section
variable {X:Cx}{pins:List (Addr×Obj)}{σ:St}{H:Hp}{s:Shared}
theorem ExI.at {C fI:Addr} (cl:ExI X.K C fI) (I:Inv X pins σ H s):∃nm q N bs bm sn sub ab col dd k0 k1 k2 k3 k5,s.heap.get? C=some (excClassObj nm q C N bs bm true sn sub ab col dd k0 k1 k2 k3 k5 "ValueError.__new__")/\OwnTail s.heap [.type "ValueError", .type "Exception", .type "BaseException", .type "object"] bm:=by
 obtain⟨nm,q,N,bs,bm,sn,sub,ab,col,dd,k0,k1,k2,k3,k5,lk,_,_,tk⟩:=cl.obj
 exact⟨nm,q,N,bs,bm,sn,sub,ab,col,dd,k0,k1,k2,k3,k5,I.kIn _ _ lk,PySem.W.tail_of_in I.kIn tk⟩
def Yh (K:PySem.W.Frag) (t1 t2:TE):TE:=fun σ H Q=>t1 σ H fun x H1=>t2 σ H1 fun v H2=>∃e C fI od,x= .ref e/\H2 e=some (u9 C od e)/\ExI K C fI/\Q .non H2
theorem aaS {M:Addr}{x:Str}{np apos cpos:Pos}{e₁ e₂:Expr}{t1 t2:TE} (cu:ExU X.K M) (hg:Gl X x) (hm:X.mg x=some (.ref M)) (h1:PE X e₁ t1) (h2:PE X e₂ t2) (hdb:(x==("__debug__":Str))=false) (m:M2 X (.Name x np) "__init__" apos e₁ e₂ cpos):
 PE X (.Call (.Attribute (.Name x np) "__init__" apos) [e₁,e₂] [] cpos) (Yh X.K t1 t2):=by
 intro pins s σ H Q I h
 have hform:methodCallForm ([e₁,e₂].length+([]:List Keyword).length) (backTo cpos (starEach [e₁,e₂] X.env)) (backToKw cpos (keywordEach [] X.env))=true:=m.few
 have hpos:methodCallPos true (.Name x np) X.env apos cpos=pure cpos:=by unfold methodCallPos;simp[m.line]
 rw[arm_eval_Call,m.base]
 refine wpAny_bind (tY I hg hm ?_ hdb)
 refine wpAny_bind (wpAny_standAt ?_)
 unfold methodCall
 rw[hform]
 refine wpAny_bind (wpAny_holding ?_)
 show wpAny _ _ (PySem.getMethod (.ref M) _ _) _ _ _
 refine PySem.W.method_cls I.kIn cu.sp (PySem.W.cls_value I.kIn cu.rd cu.fc (by decide +kernel) ?_)
 refine wpAny_bind (wpAny_of_eq hpos ?_)
 rw[m.trees]
 refine Calls.callWith_builtin rfl (Calls.evalArgs_plain (Calls.spliced_cons (thn (h1 pins _ σ H _ (I.tok _) h) fun u s1 ⟨y,H1,I1,ry,q1⟩=>Calls.spliced_cons (thn (h2 pins s1 σ H1 _ I1 q1) fun v s2 ⟨z,H2,I2,rz,e,C,fI,od,ey,ee,cl,q⟩=>Calls.spliced_nil ?_))))
 subst ey
 obtain rfl:u=Value.ref e:=ry
 obtain⟨nm,q',N,bs,bm,sn,sub,ab,col,dd,k0,k1,k2,k3,k5,hC,T⟩:=cl.at I2
 obtain⟨⟨t0,sl,he⟩,_⟩:=(show eF X.prog X.w H2 s2.heap e (u9 C od e) from I2.hok e _ ee)
 obtain⟨hp,g,d,tk,os⟩:=s2
 refine Qz T hC he fun h' t1 kp he'=> ?_
 have I3:Inv X pins σ (upd H2 e (u9 C od e)) ⟨h',g,d,tk,os⟩:=Inv.write (s:=⟨hp,g,d,tk,os⟩) (x:=e) (e:=e) (t':=tk) I2 (by rw[ee];exact True.intro) (.inl rfl) kp ⟨_,he'⟩ (Jk he')
 have e3:upd H2 e (u9 C od e)=H2:=by
  funext z
  by_cases w:z=e
  ·rw[w,ak,ee]
  ·rw[ao w]
 rw[e3] at I3
 exact⟨.non,H2,I3,rfl,q⟩
def Yi (K:PySem.W.Frag) (ta tv:TE) (f:Str):TS:=fun D σ H=>tv σ H fun y H1=>ta σ H1 fun x H2=>∃e C fI,x= .ref e/\H2 e=some (u9 C none e)/\ExI K C fI/\PySem.W.findIn K (.ref C) f=some none/\
 ∀dx,H2 dx=none->dx≠e->D.nx σ (upd (upd H2 dx (.xd [(f,y)])) e (u9 C (some dx) e))
theorem su {H:Hp}{a b:Addr}{u v:HO} (h:a≠b):upd (upd H a u) b v=upd (upd H b v) a u:=by
 funext z
 by_cases w:z=a
 ·subst w;rw[ao h,ak,ak]
 ·by_cases w2:z=b
  ·subst w2;rw[ak,ao w,ak]
  ·rw[ao w2,ao w,ao w,ao w2]
theorem Inv.Te {a:Addr}{o:HO}{h':Heap}{g':Array GenState}{d':Drawn}{t' t:Nat}{g:Array GenState}{d:Drawn}{h:Heap}{os:OsState}{H':Hp} (hex:X.ex=[]) (I:Inv X pins σ H ⟨h,g,d,t,os⟩) (J:Inv X pins σ H' ⟨h',g',d',t',os⟩) (hn:h.get? a=none) (hH:H' a=none)
 (new:eF X.prog X.w (upd H' a o) h' a o):Inv X pins σ (upd H' a o) ⟨h',g',d',t',os⟩:=by
 refine J.track hH ?_ ?_ ?_ ?_ new
 ·cases z:X.s₀.heap.get? a with
  | none=>rfl
  | some u=>
    obtain⟨o',e'⟩:=I.base.there a u z (by rw[hex];simp)
    have e':h.get? a=some o':=e'
    rw[hn] at e';cases e'
 ·rintro rfl
  obtain⟨m,⟨oL,_,_,hoL,_⟩,_⟩:=I.loc
  have hoL:h.get? _=some oL:=hoL
  rw[hn] at hoL;cases hoL
 ·rintro y c ec rfl
  obtain⟨v,u,ho,_⟩:=I.cell y _ ec
  have ho:h.get? _=some u:=ho
  rw[hn] at ho;cases ho
 ·rintro p hp rfl
  have:=(I.pin p hp).1
  have this:h.get? p.1=some p.2:=this
  rw[hn] at this;cases this
theorem Wh {o value:Expr}{f:Str}{pos pos':Pos}{ta tv:TE} (hex:X.ex=[]) (ha:PE X o ta) (hv:PE X value tv) (hs:swapsWith value (some (.Attribute o f pos')) pos.line X.env=pure false):PS X (.Assign [.Attribute o f pos'] value pos) (Yi X.K ta tv f):=by
 intro pins s σ H D I h
 refine plainObj_wpAny_Assign_Attribute (thn (hv pins s σ H _ I h) fun u s1 ⟨y,H1,I1,ry,q⟩=>thn (ha pins s1 σ H1 _ I1 q) fun ov s2 ⟨x,H2,I2,rx,e,C,fI,ex,ee,cl,nf,q2⟩=> ?_) hs
 subst ex
 obtain rfl:ov=Value.ref e:=rx
 obtain⟨nm,q',N,bs,bm,sn,sub,ab,col,dd,k0,k1,k2,k3,k5,hC,T⟩:=cl.at I2
 obtain⟨⟨t0,sl,he⟩,_⟩:=(show eF X.prog X.w H2 s2.heap e (u9 C none e) from I2.hok e _ ee)
 have hKI:=I2.kIn
 obtain⟨hp,g,d,tk,os⟩:=s2
 refine Td hKI T hC cl.sa nf he fun h' dx tk' dn ne kp he' hns=> ?_
 have hH:H2 dx=none:=by
  cases z:H2 dx with
  | none=>rfl
  | some v=>
    obtain⟨o,ho⟩:=(I2.hok dx v z).some
    rw[dn] at ho;cases ho
 have I3:Inv X pins σ (upd H2 e (u9 C (some dx) e)) ⟨h',g,d,tk',os⟩:=Inv.write (s:=⟨hp,g,d,tk,os⟩) (x:=e) (e:=e) (t':=tk') I2 (by rw[ee];exact True.intro) (.inl rfl) kp ⟨_,he'⟩ (Jk he')
 have I4:=Inv.Te (o:= .xd [(f,y)]) hex I2 I3 dn (by rw[ao ne];exact hH) ⟨_,hns,fun z=>by
  by_cases w:z=f
  ·rw[w,if_pos rfl]
   show u6 (List.lookup f [(f,y)]) _
   rw[List.lookup_cons,beq_self_eq_true];exact ry
  ·rw[if_neg w]
   show u6 (List.lookup z [(f,y)]) _
   rw[List.lookup_cons,beq_eq_false_iff_ne.mpr w];exact True.intro⟩
 rw[su (Ne.symm ne)] at I4
 exact⟨σ,_,I4,q2 dx hH ne⟩
end
structure Tf (P:Program) (w:World) (outer:List Env) (H:Hp) (s:Shared) (a:Addr) (cls:Value) (d:Option Addr) (H':Hp) (s':Shared):Prop where
 os:s'.os=s.os
 bare:AllBare s'.gens
 un:Un (frs outer) [] H H' s.heap s'.heap
 hok:HOk P w H' s'.heap
 free:H' a=none
 fly:∃B:Heap,xV B outer a cls d .none s'.heap/\Holds (frs outer) H' s.heap s'.heap B
def CXd (P:Program) (w:World):CXT:=fun outer H s E e s'=>∃a cls d H',e= .ref a/\Tf P w outer H s a cls d H' s'/\E cls d H'
section
variable {X:Cx}{pins:List (Addr×Obj)}{σ:St}{H H':Hp}{s s':Shared}{a:Addr}{cls:Value}{d:Option Addr}
theorem Tf.land (F:Tf X.prog X.w X.stack H s a cls d H' s') (I:Inv X pins σ H s) {B h2:Heap} (kc:Holds (frs X.stack) H' s.heap s'.heap B) (st:B.StaysIn h2) (up:s'.heap.UpToSlots h2):Inv X pins σ H' {s' with heap:=h2}:=
 I.landed F.os F.bare F.un F.hok kc st up
end
section
variable {P:Program}{w:World}{K:PySem.W.Frag}{mg:Str->Option Value}{base:Heap}{N:List Str}{qual:Str}{scope:Scope}{f:Addr}{cd:Value}{A:Around}{outer:List Env}{s₀:Shared}{H₀:Hp}{E:XK}
theorem KR:Passes (CXd P w) (jC (CXd P w) P w K mg base N qual scope f cd A outer s₀ H₀ E) E:=by
 intro pins σ H s e s' I h
 obtain⟨a,cls,d,H',rfl,F,hE⟩:=h
 obtain⟨B,fl,kc⟩:=F.fly
 refine Qy (L:=(jC (CXd P w) P w K mg base N qual scope f cd A outer s₀ H₀ E).env.locals) I.ok.frames rfl fl fun h2 fl2 up=> ?_
 have J:=F.land I kc fl2.stays up
 exact⟨a,cls,d,H',rfl,⟨J.os,J.bare,J.base,J.hok,F.free,B,fl2,Hu rfl rfl rfl I (Kf (X:=(jC (CXd P w) P w K mg base N qual scope f cd A outer s₀ H₀ E)) F.un F.hok fl2.stays kc) J.free⟩,hE⟩
end
section
variable {prog:Program}{w:World}{A:Around}{E:Value->Shared->Prop}{s:Shared}{env:Env}
variable {nm q:Str}{C N:Addr}{bs bm bmB:List Value}{hdct:Bool}{sn:List Str}{sub:List Value}{ab:Bool}{col:Option Bool}{dd:Option Addr}{k0 k1 k2 k3 k5:Option Value}{B newId initId:String}
theorem BP (F:ExcBaseFacts B newId initId bmB) {mN:Str->Option Value}{x:Str}{np cpos pos:Pos}{args:List Expr}{fI:Addr}{oI:Obj}{Q:Flow->Shared->Prop}
 (hbase:bm.contains (.type "BaseException")=true) (hh:A.handled=none) (hplain:(backTo cpos (starEach args env)).any (·.1)=false) (hi:mN "__init__"=some (.ref fI)) (hfc:oI.cls= .type "function")
 (h:wpAny (model prog w) A (eval (.Name x np) env) (fun f s₁=>f= .ref C/\wpAny (model prog w) A (evalArgs (.ref C) true (backTo cpos (starEach args env)) [])
   (fun a s₂=>a.kw=[]/\a.pos.length<=sizeLine/\s₂.heap.get? C=some (excClassObj nm q C N bs bm hdct sn sub ab col dd k0 k1 k2 k3 k5 newId)/\s₂.heap.Ns N mN/\OwnTail s₂.heap bmB bm/\s₂.heap.get? fI=some oI/\
     ∀h' e,Heap.MadeExcOf s₂.heap h' e (.ref C) a.pos->wpAny (model prog w) (A.under (.builtin "type.__call__" ⟨.ref C::a.pos,[]⟩)) (call (.ref fI) (.ref e::a.pos)) (fun r s'=>r= .none/\s'.heap.get? C=some (excClassObj nm q C N bs bm hdct sn sub ab col dd k0 k1 k2 k3 k5 newId)/\
      ∃od t sl,s'.heap.get? e=some (oJ C od t sl)/\E (.ref e) s') E {s₂ with heap:=h'}) E s₁) E s):
 wpAny (model prog w) A (exec (.Raise (some (.Call (.Name x np) args [] cpos)) none pos) env) Q E s:=by
 rw[arm_exec_Raise]
 first
  | refine wpAny_bind (wpAny_standAt (yP (C:=C) (nm:=nm) (q:=q) (N:=N) (bs:=bs) (bm:=bm) (hdct:=hdct) (sn:=sn) (sub:=sub) (ab:=ab) (col:=col) (dd:=dd) (k0:=k0) (k1:=k1) (k2:=k2) (k3:=k3) (k5:=k5) (newId:=newId) hbase hh (wpAny_bind (wpAny_mono (wpAny_Call_ofName (wpAny_mono h (fun f s₁ h₁=> ?_) fun _ _ x=>x)) (fun v s₃ h₃=>wpAny_bind (wpAny_standAt (wpAny_pure h₃))) fun _ _ x=>x))))
  | (simp only[evalOpt,Option.map];refine wpAny_bind (wpAny_standAt (yP (C:=C) (nm:=nm) (q:=q) (N:=N) (bs:=bs) (bm:=bm) (hdct:=hdct) (sn:=sn) (sub:=sub) (ab:=ab) (col:=col) (dd:=dd) (k0:=k0) (k1:=k1) (k2:=k2) (k3:=k3) (k5:=k5) (newId:=newId) hbase hh (wpAny_bind (wpAny_mono (wpAny_Call_ofName (wpAny_mono h (fun f s₁ h₁=> ?_) fun _ _ x=>x)) (fun v s₃ h₃=>wpAny_bind (wpAny_standAt (wpAny_pure h₃))) fun _ _ x=>x)))))
  | (refine wpAny_bind (wpAny_standAt (yP (C:=C) (nm:=nm) (q:=q) (N:=N) (bs:=bs) (bm:=bm) (hdct:=hdct) (sn:=sn) (sub:=sub) (ab:=ab) (col:=col) (dd:=dd) (k0:=k0) (k1:=k1) (k2:=k2) (k3:=k3) (k5:=k5) (newId:=newId) hbase hh ?_));refine wpAny_bind (wpAny_mono (wpAny_Call_ofName (wpAny_mono h (fun f s₁ h₁=> ?_) fun _ _ x=>x)) (fun v s₃ h₃=>wpAny_bind (wpAny_standAt (wpAny_pure h₃))) fun _ _ x=>x))
 obtain⟨rfl,h₁⟩:=h₁
 unfold callWith
 refine wpAny_bind (wpAny_holding (wpAny_mono h₁ (fun a s₂ h₂=>wpAny_bind (wpAny_standAt ?_)) fun _ _ x=>x))
 obtain⟨apos,akw⟩:=a
 obtain⟨hkw,hlen,hC,hn,T,hfI,h₂⟩:=h₂
 obtain rfl:akw=[]:=hkw
 obtain⟨hp,g,d,tk,os⟩:=s₂
 simp only[hplain]
 refine wpAny_bind (wpAny_keeperOf_exc hC ?_)
 refine wpAny_bind (Fx (hrest:=hlen) F T hC hn hi hfI hfc fun h' e hm=>wpAny_mono (h₂ h' e hm) (fun r s' hr=> ?_) fun _ _ x=>x)
 obtain⟨rfl,hC',od,t,sl,he,hE⟩:=hr
 refine⟨rfl,wpAny_bind (wpAny_holding (wpAny_point (wpAny_pure ?_)))⟩
 exact⟨e,od,t,sl,rfl,hC',he,hE⟩
end
theorem M9 {K:PySem.W.Frag}{h:Heap}{N:Addr}{mg:Str->Option Value}{n:Str}{v:Value} (X:K.In h) (G:h.Ns N mg) (e:PySem.W.nsIn K N n=some (some v)):mg n=some v:=by
 obtain⟨o,es,ep,ho,hd,_,hf⟩:=G
 unfold PySem.W.nsIn at e
 split at e
 ·rename_i c d es' n' sl q
  have:=X _ _ q
  rw[ho] at this
  cases this
  cases hd
  split at e
  ·rename_i e0 he
   cases e
   rw[<-hf]
   unfold nsFind findBy
   rw[<-Array.find?_toList,he]
   rfl
  ·split at e<;>cases e
 ·cases e
section
variable {P:Program}{w:World}{K:PySem.W.Frag}{mg:Str->Option Value}{base:Heap}{N:List Str}{qual:Str}{scope:Scope}{f:Addr}{cd:Value}{A:Around}{outer:List Env}{s₀:Shared}{H₀:Hp}{E:XK}
def O6 (C:Addr) (sp:Sp) (E:XK) (t:TA):TS:=fun _ σ H=>t σ H fun vs H1=>vs.length<=sizeLine/\∀e,H1 e=none->
 sp (.ref e::vs) (upd H1 e (u9 C none e)) (fun v H2=>v= .non/\∃dx H3,H2=upd H3 e (u9 C (some dx) e)/\H3 e=none/\E (.ref C) (some dx) H3) (fun _ _ _=>False)
theorem QC {k:Nat}{x:Str}{np cpos pos:Pos}{e₀:Expr}{es:List Expr}{t:TA}{C fI:Addr}{fd:FuncData}{ps:List Str}{sp:Sp} (cl:ExI K C fI) (F:aX P w K mg base CX0 k fI fd ps sp) (hr:jB (k+1) (jC (CXd P w) P w K mg base N qual scope f cd A outer s₀ H₀ E).A) (hfn:PySem.W.isFn K (.ref fI)=true) (hb:Binds K fd ps [])
 (hg:Gl (jC (CXd P w) P w K mg base N qual scope f cd A outer s₀ H₀ E) x) (hm:mg x=some (.ref C))
 (ha:PA (jC (CXd P w) P w K mg base N qual scope f cd A outer s₀ H₀ E) (e₀::es) t) (hdb:(x==("__debug__":Str))=false:=by decide)
 (he:starEach (e₀::es) (jC (CXd P w) P w K mg base N qual scope f cd A outer s₀ H₀ E).env=(false,eval e₀ (jC (CXd P w) P w K mg base N qual scope f cd A outer s₀ H₀ E).env)::starEach es (jC (CXd P w) P w K mg base N qual scope f cd A outer s₀ H₀ E).env:=by rfl)
 (hpl:(backTo cpos (starEach es (jC (CXd P w) P w K mg base N qual scope f cd A outer s₀ H₀ E).env)).any (·.1)=false:=by rfl):
 PS (jC (CXd P w) P w K mg base N qual scope f cd A outer s₀ H₀ E) (.Raise (some (.Call (.Name x np) (e₀::es) [] cpos)) none pos) (O6 C sp E t):=by
 intro pins s σ H D I h
 obtain⟨nm,q,N',bs,bm,sn,sub,ab,col,dd,k0,k1,k2,k3,k5,lk,nk,ik,tk⟩:=cl.obj
 have XB:K.In base:=I.mod.kin
 have hN:base.Ns N' (base.nsMap N'):= .of_isNs (PySem.W.isNs_of_in XB nk)
 have T:OwnTail base [.type "ValueError", .type "Exception", .type "BaseException", .type "object"] bm:=PySem.W.tail_of_in XB tk
 obtain⟨oI,hoI,hfc⟩:∃oI,base.get? fI=some oI/\oI.cls= .type "function":=by
  obtain⟨o,ho,hc⟩:=Option.map_eq_some_iff.mp (show(K.lookup fI).map (·.cls)=some (.type "function") from beq_iff_eq.mp hfn)
  exact⟨o,XB _ _ ho,hc⟩
 have hi:base.nsMap N' "__init__"=some (.ref fI):=M9 XB hN ik
 refine BP (nm:=nm) (q:=q) (N:=N') (bs:=bs) (bm:=bm) (hdct:=true) (sn:=sn) (sub:=sub) (ab:=ab) (col:=col) (dd:=dd) (k0:=k0) (k1:=k1) (k2:=k2) (k3:=k3) (k5:=k5) (oI:=oI) PySem.F.excBase_ValueError (mN:=base.nsMap N') (T.hasType PySem.F.excBase_ValueError.hasBase) (I.ok.hd rfl)
  (by rw[he];show(false||(backTo cpos (starEach es _)).any (·.1))=false;rw[hpl];rfl) hi hfc (tY I hg hm ⟨rfl, ?_⟩ hdb)
 have ha':=ha cpos pins s σ H _ I h
 rw[he] at ha' ⊢
 refine Calls.evalArgs_plain (thn ha' fun us s2 ⟨vs,H1,I1,r,hz,hE⟩=>⟨rfl,by rw[<-r.length];exact hz,I1.bk _ _ (XB _ _ lk),hN.keeps I1.bk,T.keeps I1.bk,I1.bk _ _ hoI,fun h' e hx=> ?_⟩)
 have fre:H1 e=none:=by
  cases z:H1 e with
  | none=>rfl
  | some v=>
    obtain⟨o,ho⟩:=(I1.hok e v z).some
    rw[hx.new] at ho;cases ho
 obtain⟨t0,het,_⟩:=hx.there
 obtain⟨hp,g,d,tk',os⟩:=s2
 have I2:Inv (jC (CXd P w) P w K mg base N qual scope f cd A outer s₀ H₀ E) pins σ H1 ⟨h',g,d,tk',os⟩:=Inv.un (s:=⟨hp,g,d,tk',os⟩) (t':=tk') I1 (Un.kept hx.keeps) (I1.hok.kept hx.keeps)
 have I3:=Inv.Te (o:=u9 C none e) rfl I1 I2 hx.new fre (Jk het)
 have hq:=hE e fre
 have r2:Vals (V.ref e::vs) (Value.ref e::us):= .cons rfl r
 have hl:(Value.ref e::us++[]).length=ps.length:=by
  have e':=r2.length
  rw[F.len _ _ _ _ hq] at e'
  rw[List.append_nil];exact e'.symm
 have hbt:=hb _ (Value.ref e::us) I3.kIn hl
 rw[List.append_nil] at hbt
 refine wpAny_call (codeAny_mono (F.run _ (jC (CXd P w) P w K mg base N qual scope f cd A outer s₀ H₀ E).stack _ _ ⟨Value.ref e::us,[]⟩ (Value.ref e::us) _ _ _ (hr.make C us []) (I3.env0.make C us []) hbt r2 hq) fun rr s' hq'=> ?_)
 cases rr with
 | error e=>exact hq'.elim
 | ok fl=>
   cases fl with
   | next=>exact hq'.elim
   | brk=>exact hq'.elim
   | cont=>exact hq'.elim
   | ret u=>
     obtain⟨v,H2,os',bare',un',hok',rv,ev,dx,H3,eH,e3,q3⟩:=id hq'
     obtain⟨_,_,I4,_⟩:=I3.after hq'
     subst ev
     subst eH
     obtain rfl:u=Value.none:=rv
     obtain⟨⟨t1,sl1,he1⟩,_⟩:=(show eF P w _ s'.heap e (u9 C (some dx) e) from hok' e _ ak)
     refine⟨rfl,I4.bk _ _ (XB _ _ lk),some dx,t1,sl1,he1, ?_⟩
     have hne:∀{b o},hp.get? b=some o->b≠e:=fun q z=>by rw[z] at q;have:=hx.new;rw[show(⟨hp,g,d,tk',os⟩:Shared).heap.get? e=hp.get? e from rfl] at this;rw[this] at q;cases q
     have un:Un (frs (jC (CXd P w) P w K mg base N qual scope f cd A outer s₀ H₀ E).stack) [] H1 H3 hp s'.heap:=
      {keep:=fun b o q n hb hx'=>un'.keep b o (hx.keeps b o q) (by rw[ao (hne q)];exact n) hb hx'
       slot:=fun b o q n hb hx'=>un'.slot b o (hx.keeps b o q) (by rw[ao (hne q)];exact n) hb hx'
       free:=fun b o q n hx'=>by
        have:=un'.free b o (hx.keeps b o q) (by rw[ao (hne q)];exact n) hx'
        rwa [ao (hne q)] at this
       there:=fun b o q hx'=>un'.there b o (hx.keeps b o q) hx'
       tups:=fun b xs q=>by
        have nb:b≠e:=fun z=>by rw[z,fre] at q;cases q
        have:=un'.tups b xs (by rw[ao nb];exact q)
        rwa [ao nb] at this
       frzs:=fun b o u q=>by
        have nb:b≠e:=fun z=>by rw[z,fre] at q;cases q
        have:=un'.frzs b o u (by rw[ao nb];exact q)
        rwa [ao nb] at this
       tbls:=fun b ps q=>by
        have nb:b≠e:=fun z=>by rw[z,fre] at q;cases q
        obtain⟨m,this⟩:=un'.tbls b ps (by rw[ao nb];exact q)
        exact⟨m,by rwa [ao nb] at this⟩}
     have hok:HOk P w H3 s'.heap:=fun b u q=>by
      have nb:b≠e:=fun z=>by rw[z,e3] at q;cases q
      refine(hok' b u (by rw[ao nb];exact q)).stay (fun c v _ r=>r) (fun c r=> ?_) fun c xs r=> ?_
      ·by_cases z:c=e
       ·rw[z,ak] at r;cases r
       ·rwa [ao z] at r
      ·by_cases z:c=e
       ·rw[z,ak] at r;cases r
       ·rwa [ao z] at r
     have hin:∀env∈(jC (CXd P w) P w K mg base N qual scope f cd A outer s₀ H₀ E).stack,∀b,env.frame=some b->b∈e::frs (jC (CXd P w) P w K mg base N qual scope f cd A outer s₀ H₀ E).stack:=fun env hen b hb=>List.mem_cons_of_mem _ (List.mem_filterMap.mpr ⟨env,hen,hb⟩)
     refine M8 (base:=PySem.W.hideAll s'.heap (e::frs (jC (CXd P w) P w K mg base N qual scope f cd A outer s₀ H₀ E).stack)) (L:=(jC (CXd P w) P w K mg base N qual scope f cd A outer s₀ H₀ E).env.locals) (c:= .ref C) (d:=some dx) I4.ok.frames
      (PySem.W.funFrames_hide I4.stack hin) rfl he1 (fun b o z=>PySem.W.of_hideAll _ z) (PySem.W.hideAll_none _ (List.mem_cons_self ..)) rfl rfl ⟨rfl,rfl⟩ fun h2 fl up=> ?_
     have kc:Holds (frs (jC (CXd P w) P w K mg base N qual scope f cd A outer s₀ H₀ E).stack) H3 hp s'.heap (PySem.W.hideAll s'.heap (e::frs (jC (CXd P w) P w K mg base N qual scope f cd A outer s₀ H₀ E).stack)):=fun b o q nb hb=>by
      refine PySem.W.hideAll_get _ q fun z=> ?_
      rcases List.mem_cons.mp z with z | z
      ·rcases hb with⟨o0,z0⟩ | z0
       ·exact hne z0 z
       ·rw[z,e3] at z0;cases z0
      ·exact nb z
     have J:=I1.landed (s':=s') os' bare' un hok kc fl.stays up
     exact⟨e, .ref C,some dx,H3,rfl,⟨J.os,J.bare,J.base,J.hok,e3,_,fl,Hu rfl rfl rfl I1 (Kf (X:=jC (CXd P w) P w K mg base N qual scope f cd A outer s₀ H₀ E) un hok fl.stays kc) J.free⟩,q3⟩
end
section
variable {X:Cx}{x n:Str}{i:Nat}{C:Addr}{np hpos pos:Pos}{body suite:List Stmt}{b₀:Stmt}{tb:(St->XK)->TS}{th:TS}
end
section
variable {X:Cx}
theorem Tg {M:Addr}{x:Str}{np apos cpos:Pos}{e₁ e₂:Expr}{t1 t2:TE} (cu:ExU X.K M) (hg:Gl X x) (hm:X.mg x=some (.ref M)) (h1:QE X e₁ t1) (h2:QE X e₂ t2) (hdb:(x==("__debug__":Str))=false) (m:M2 X (.Name x np) "__init__" apos e₁ e₂ cpos):
 QE X (.Call (.Attribute (.Name x np) "__init__" apos) [e₁,e₂] [] cpos) (Yh X.K t1 t2):=⟨aaS cu hg hm h1.h h2.h hdb m⟩
theorem O7 {o value:Expr}{f:Str}{pos pos':Pos}{ta tv:TE} (hex:X.ex=[]) (ha:QE X o ta) (hv:QE X value tv) (hs:swapsWith value (some (.Attribute o f pos')) pos.line X.env=pure false):QS X (.Assign [.Attribute o f pos'] value pos) (Yi X.K ta tv f):=⟨Wh hex ha.h hv.h hs⟩
end
section
variable {P:Program}{w:World}{K:PySem.W.Frag}{mg:Str->Option Value}{base:Heap}{N:List Str}{qual:Str}{scope:Scope}{f:Addr}{cd:Value}{A:Around}{outer:List Env}{s₀:Shared}{H₀:Hp}{E:XK}
theorem HR {k:Nat}{x:Str}{np cpos pos:Pos}{e₀:Expr}{es:List Expr}{t:TA}{C fI:Addr}{fd:FuncData}{ps:List Str}{sp:Sp} (cl:ExI K C fI) (F:aX P w K mg base CX0 k fI fd ps sp) (hr:jB (k+1) (jC (CXd P w) P w K mg base N qual scope f cd A outer s₀ H₀ E).A) (hfn:PySem.W.isFn K (.ref fI)=true) (hb:Binds K fd ps [])
 (hg:Gl (jC (CXd P w) P w K mg base N qual scope f cd A outer s₀ H₀ E) x) (hm:mg x=some (.ref C))
 (ha:QA (jC (CXd P w) P w K mg base N qual scope f cd A outer s₀ H₀ E) (e₀::es) t) (hdb:(x==("__debug__":Str))=false)
 (he:starEach (e₀::es) (jC (CXd P w) P w K mg base N qual scope f cd A outer s₀ H₀ E).env=(false,eval e₀ (jC (CXd P w) P w K mg base N qual scope f cd A outer s₀ H₀ E).env)::starEach es (jC (CXd P w) P w K mg base N qual scope f cd A outer s₀ H₀ E).env:=by rfl)
 (hpl:(backTo cpos (starEach es (jC (CXd P w) P w K mg base N qual scope f cd A outer s₀ H₀ E).env)).any (·.1)=false:=by rfl):
 QS (jC (CXd P w) P w K mg base N qual scope f cd A outer s₀ H₀ E) (.Raise (some (.Call (.Name x np) (e₀::es) [] cpos)) none pos) (O6 C sp E t):=⟨QC cl F hr hfn hb hg hm ha.h hdb he hpl⟩
end
theorem Fun.okD {P:Program}{w:World}{K:PySem.W.Frag}{mg:Str->Option Value}{base:Heap}{x qual:Str}{st:Stmt}{f:Addr}{fd:FuncData}{N ps:List Str}{k:Nat}{sp:Sp} (F:Fun K x qual st f fd) (S:bI N ps (aa st)) (len:∀vs H Q E,sp vs H Q E->vs.length=ps.length)
 (hbody:∀(cdv:Value) (A:Around) (outer:List Env) (s:Shared) (H:Hp) (vs:List V) (Q:VK) (E:XK),jB k (A.deeper (envOfC qual (aa st) s.heap.objs.size f cdv))->sp vs H Q E->
   ∃t,QSs (jC (CXd P w) P w K mg base N qual (aa st) f cdv A outer s H E) (bw st) t/\t {nx:=fun _ H'=>Q .non H',rt:=Q} (start N vs) H):aX P w K mg base (CXd P w) (k+1) f fd ps sp:=by
 obtain⟨oc,od,kV,doc,pm,an,cdv,ct,osl,rfl,lk,hcd⟩:=F.ex
 refine XN lk hcd S len fun A outer s H vs Q E hr hsp=> ?_
 obtain⟨t,h,q⟩:=hbody cdv A outer s H vs Q E hr hsp
 exact⟨t,h.h,q⟩
section
variable {X:Cx}
theorem Ti {e:Expr}{y:Str}{k:Nat}{p p2 pos:Pos}{ta:TE} (ha:PE X e ta) (hy:y.length<=1000):PE X (.JoinedStr [.Constant (.str y) k p2, .FormattedValue e 114 none p] pos) (tFr ta):=by
 intro pins s σ H Q I h
 refine wpAny_JoinedStr ?_
 show wpAny _ _ (eval (.Constant (.str y) k p2) X.env) _ _ _
 refine thn (Q4 (X:=X) pins s σ H (fun v H2=>v= .str y/\H2=H) I ⟨rfl,rfl⟩) fun u2 s2 ⟨v2,H2,I2,r2,e2,e3⟩=> ?_
 subst e2 e3
 obtain⟨t2,rfl⟩:=r2
 have e1:(Str.empty++y).length=y.length:=by rw[PySem.strLen_append];show 0+_=_;omega
 refine⟨y,t2,rfl,by rw[e1,sizeLine_eq];omega, ?_⟩
 show wpAny _ _ (eval (.FormattedValue e 114 none p) X.env) _ _ _
 refine wpAny_FormattedValue_repr (thn (ha pins s2 σ H2 _ I2 h) fun u s1 ⟨v,H1,I1,r,q⟩=> ?_)
 obtain⟨z,rfl,hz,hc,q⟩:=q
 obtain⟨t,rfl⟩:=r
 have hl:=PySem.StrLaws.reprText_len z hc
 have hz1:(PySem.reprText z).length<=sizeLine:=by rw[sizeLine_eq];omega
 refine wpAny_pyReprObj_str ?_ hz1
 have hlen:(Str.empty++y++PySem.reprText z).length<=11012:=by rw[PySem.strLen_append,e1];omega
 have fin:∀tk tk',∃y' t',(Value.str (PySem.reprText z) tk)= .str y' t'/\(Str.empty++y++y').length<=sizeLine/\Joins (model X.prog X.w) X.A X.xe [] (Str.empty++y++y') (fun out s₁=>out.length<=sizeLine/\EP X pins σ Q (.str out s₁.toks) {s₁ with toks:=s₁.toks+1}) {s1 with toks:=tk'}:=fun tk tk'=>by
  refine⟨_,_,rfl,by rw[sizeLine_eq];omega,by rw[sizeLine_eq];omega, ?_⟩
  exact⟨.str _,H1,I1.tok _,⟨_,rfl⟩,q _ (by omega)⟩
 exact wpAny_formatField_str (fin _ _) (fin _ _) hz1
theorem Tj {e:Expr}{y:Str}{k:Nat}{p p2 pos:Pos}{ta:TE} (ha:QE X e ta) (hy:y.length<=1000):QE X (.JoinedStr [.Constant (.str y) k p2, .FormattedValue e 114 none p] pos) (tFr ta):=⟨Ti ha.h hy⟩
end
end L2
namespace RB
open PySem L2 PySem.Spec PyProof.Rows
inductive Er where
 | no (x:Str)
 | ring (zs:List Str)
def gJ (p:List Str) (z:Str):List Str:=p.reverse.drop (p.reverse.idxOf z)++[z]
def kE (gv:Kn) (rc:Rn):Ms->Option Er
 | ([],_,_)=>none
 | (y::p,kn,_)=>match kn y with
   | some _=>none
   | none=>match gv y with
     | some _=>none
     | none=>match rc y with
       | none=>some (.no y)
       | some r=>match ev kn r with
         | .inr _=>none
         | .inl z=>if z∈y::p then some (.ring (gJ (y::p) z)) else none
def Tn (y:Str):Prop:=y.length<=1000/\∀c∈y.cps.toList,c<16 ^ 8
def Yj (gv:Kn) (rc:Rn):Ms->Prop
 | (p,kn,_)=>∀y,p.head?=some y->kn y=none->gv y=none->(∀r,rc y=some r->r.Fn kn)/\(rc y=none->Tn y)
def jN (gv:Kn) (rc:Rn) (s t:Ms):Prop:=∃k,itM gv rc k s=some t/\∀j,j<k->∀u,itM gv rc j s=some u->kE gv rc u=none
theorem jN.mvs {gv:Kn}{rc:Rn}{s t:Ms} (h:jN gv rc s t):Mvs gv rc s t:=let ⟨k,e,_⟩:=h;⟨k,e⟩
theorem jN.refl {gv:Kn}{rc:Rn} (s:Ms):jN gv rc s s:=⟨0,rfl,fun j h=>absurd h (by omega)⟩
theorem vV {gv:Kn}{rc:Rn}:∀(k j:Nat) {s t:Ms},itM gv rc k s=some t->itM gv rc (k+j) s=itM gv rc j t
 | 0,j,s,t,h=>by cases h;rw[Nat.zero_add]
 | k+1,j,s,t,h=>by
   rw[Nat.succ_add]
   have h:(match mv gv rc s with | none=>none | some t=>itM gv rc k t)=some t:=h
   show(match mv gv rc s with | none=>none | some t=>itM gv rc (k+j) t)=itM gv rc j t
   cases z:mv gv rc s with
   | none=>rw[z] at h;cases h
   | some u=>rw[z] at h;exact vV k j h
theorem Wi {gv:Kn}{rc:Rn}{s t:Ms} (h:mv gv rc s=some t):itM gv rc 1 s=some t:=by unfold itM;rw[h];rfl
theorem jN.snoc {gv:Kn}{rc:Rn}{s t u:Ms} (h:jN gv rc s t) (he:kE gv rc t=none) (hm:mv gv rc t=some u):jN gv rc s u:=by
 obtain⟨k,e,n⟩:=h
 refine⟨k+1,by rw[vV k 1 e];exact Wi hm,fun j hj w hw=> ?_⟩
 by_cases z:j<k
 ·exact n j z w hw
 ·have:j=k:=by omega
  rw[this,e] at hw;cases hw;exact he
theorem jN.trans {gv:Kn}{rc:Rn}{s t u:Ms} (h:jN gv rc s t) (g:jN gv rc t u):jN gv rc s u:=by
 obtain⟨k,e,n⟩:=h
 obtain⟨k2,e2,n2⟩:=g
 refine⟨k+k2,by rw[vV k k2 e];exact e2,fun j hj w hw=> ?_⟩
 by_cases z:j<k
 ·exact n j z w hw
 ·obtain⟨d,rfl⟩:∃d,j=k+d:=⟨j - k,by omega⟩
  rw[vV k d e] at hw
  exact n2 d (by omega) w hw
theorem jN.errs {gv:Kn}{rc:Rn}{s t t':Ms}{e:Er} (h:jN gv rc s t) (he:kE gv rc t=some e) (h':jN gv rc s t') (hend:kE gv rc t'≠none\/t'.1=[]):t=t':=by
 obtain⟨k,e1,n1⟩:=h
 obtain⟨k',e2,n2⟩:=h'
 rcases Nat.lt_trichotomy k k' with z | z | z
 ·have:=n2 k z t e1;rw[he] at this;cases this
 ·subst z;rw[e1] at e2;exact Option.some.inj e2
 ·rcases hend with w | w
  ·exact absurd (n1 k' z t' e2) w
  ·obtain⟨d,rfl⟩:∃d,k=k'+(d+1):=⟨k - k' - 1,by omega⟩
   rw[vV k' (d+1) e2] at e1
   obtain⟨p,c⟩:=t'
   obtain⟨kn,od⟩:=c
   have w:p=[]:=w
   subst w
   unfold itM at e1
   rw[aaO] at e1;cases e1
def jg (gv:Kn) (rc:Rn):List Str->Kn×List Str->Kn×List Str->Prop
 |[],a,b=>a=b
 | x::ws,a,b=>∃c,jN gv rc ([x],a) ([],c)/\jg gv rc ws c b
theorem jg.snoc {gv:Kn}{rc:Rn}:∀{ws:List Str}{x:Str}{a b c:Kn×List Str},jg gv rc ws a b->jN gv rc ([x],b) ([],c)->jg gv rc (ws++[x]) a c
 |[],x,a,b,c,h,g=>by cases h;exact⟨c,g,rfl⟩
 | y::ws,x,a,b,c,⟨d,h,h2⟩,g=>⟨d,h,jg.snoc h2 g⟩
theorem jg.runs {gv:Kn}{rc:Rn}:∀{ws:List Str}{a b:Kn×List Str},jg gv rc ws a b->Runs gv rc ws a b
 |[],a,b,h=>h
 | y::ws,a,b,⟨d,h,h2⟩=>⟨d,h.mvs,jg.runs h2⟩
theorem aaT {gv:Kn}{rc:Rn}{y:Str}{p:List Str}{kn:Kn}{od:List Str} (h1:kn y=none) (h2:gv y=none) (h3:rc y=none):kE gv rc (y::p,kn,od)=some (.no y):=by
 unfold kE;simp only[h1,h2,h3]
theorem KY {gv:Kn}{rc:Rn}{y z:Str}{r:R}{p:List Str}{kn:Kn}{od:List Str} (h1:kn y=none) (h2:gv y=none) (h3:rc y=some r) (h4:ev kn r= .inl z) (h5:z∈y::p):kE gv rc (y::p,kn,od)=some (.ring (gJ (y::p) z)):=by
 unfold kE;simp only[h1,h2,h3,h4,if_pos h5]
theorem BR {gv:Kn}{rc:Rn}{y:Str}{v:Int}{p:List Str}{kn:Kn}{od:List Str} (h1:kn y=some v):kE gv rc (y::p,kn,od)=none:=by
 unfold kE;simp only[h1]
theorem BV {gv:Kn}{rc:Rn}{y:Str}{v:Int}{p:List Str}{kn:Kn}{od:List Str} (h1:gv y=some v):kE gv rc (y::p,kn,od)=none:=by
 unfold kE
 cases z:kn y with
 | some _=>simp only[z]
 | none=>simp only[z,h1]
theorem Jl {gv:Kn}{rc:Rn}{y:Str}{r:R}{v:Int}{p:List Str}{kn:Kn}{od:List Str} (h2:gv y=none) (h3:rc y=some r) (h4:ev kn r= .inr v):kE gv rc (y::p,kn,od)=none:=by
 unfold kE
 cases z:kn y with
 | some _=>simp only[z]
 | none=>simp only[z,h2,h3,h4]
theorem Fy {gv:Kn}{rc:Rn}{y z:Str}{r:R}{p:List Str}{kn:Kn}{od:List Str} (h2:gv y=none) (h3:rc y=some r) (h4:ev kn r= .inl z) (h5:z∉y::p):kE gv rc (y::p,kn,od)=none:=by
 unfold kE
 cases w:kn y with
 | some _=>simp only[w]
 | none=>simp only[w,h2,h3,h4,if_neg h5]
def Nb (CNo CRi:Addr) (e:Er) (cls:Value) (d:Option Addr) (H:Hp):Prop:=match e with
 | .no y=>cls= .ref CNo/\∃dx,d=some dx/\H dx=some (.xd [("name", .str y)])
 | .ring zs=>cls= .ref CRi/\∃dx l,d=some dx/\H dx=some (.xd [("ring", .ref l)])/\H l=some (.lst (zs.map V.str))
theorem HS {ns:List Str}{z:Str} (h:z∈ns):ns[ns.idxOf z]? =some z/\∀k,k<ns.idxOf z->ns[k]? ≠some z:=by
 have hl:=List.idxOf_lt_length_iff.mpr h
 refine⟨by rw[List.getElem?_eq_getElem hl];exact congrArg some (List.getElem_idxOf hl),fun k hk e=> ?_⟩
 obtain⟨hkl,e⟩:=List.getElem?_eq_some_iff.mp e
 have:=List.not_of_lt_findIdx (p:=(· ==z)) (xs:=ns) (i:=k) hk
 rw[e] at this
 simp at this
def Yk (C:Addr):Sp:=fun vs H Q _=>∃(e:Addr) (y:Str),vs=[.ref e, .str y]/\H e=some (u9 C none e)/\Tn y/\∀dx,H dx=none->dx≠e->Q .non (upd (upd H dx (.xd [("name", .str y)])) e (u9 C (some dx) e))
def Yl (C:Addr):Sp:=fun vs H Q _=>∃(e l:Addr) (xs:List V),vs=[.ref e, .ref l]/\H e=some (u9 C none e)/\H l=some (.lst xs)/\xs.length<=1000/\
 ∀l' dx,H l'=none->upd H l' (.lst xs) dx=none->dx≠e->Q .non (upd (upd (upd H l' (.lst xs)) dx (.xd [("ring", .ref l')])) e (u9 C (some dx) e))
def KZ (CSe CN CS CR CNo CRi:Addr):Sp:=fun vs H Q E=>∃(D:SrD) (gs cs:List Str) (gv:Kn) (rc:Rn) (kg kc kr:List (Key×V)) (rm:Rm) (y:Str),vs=[.ref D.so, .str y]/\Gx CSe CN D gs cs gv rc kg kc kr rm H/\
 (∀r,rc y=some r->∀(A:SeD) H',aN H H'->(∀z∈A.ft,H z=none)->(∀kn,um CS CR kr rm y r kn A H')->Q (.ref A.s) H')/\
 (rc y=none->Tn y/\∀cls d H',aN H H'->Nb CNo CRi (.no y) cls d H'->E cls d H')
def HW (CSe CN CNo CRi:Addr):Sp:=fun vs H Q E=>∃(H0:Hp) (D:SrD) (gs cs:List Str) (gv:Kn) (rc:Rn) (kg kc kr:List (Key×V)) (rm:Rm) (kn:Kn) (rmN:Rm) (rkn:Str->Bool) (od:List Str) (Hf:Hp) (x:Str),vs=[.ref D.so, .str x]/\Gx CSe CN D gs cs gv rc kg kc kr rm Hf/\j0 H0 D gv rc rm kn rmN rkn od Hf H/\(∀t,jN gv rc ([x],kn,od) t->Yj gv rc t)/\
 (∀(kn':Kn) (KC:Rm) (rkn':Str->Bool) (od':List Str) (Hf' H':Hp),But [D.kd,D.sd,D.rd] H H'->aN Hf Hf'->(∀z,Mu H z->Hf z=none->Hf' z=none)->j0 H0 D gv rc rm kn' KC rkn' od' Hf' H'->jN gv rc ([x],kn,od) ([],kn',od')->Kn.Le kn kn'->kn' x≠none->(∀y,kn' y≠none->kn y≠none\/Rch gv rc kn' x y)->Q .non H')/\
 (∀t e cls d H',jN gv rc ([x],kn,od) t->kE gv rc t=some e->But [D.kd,D.sd,D.rd] H H'->Nb CNo CRi e cls d H'->E cls d H')
def Fz (gv:Kn) (rc:Rn) (ws:List Str) (a:Kn×List Str) (e:Er):Prop:=∃(i:Nat) (x:Str) (b:Kn×List Str) (t:Ms),ws[i]? =some x/\jg gv rc (ws.take i) a b/\jN gv rc ([x],b) t/\kE gv rc t=some e
def uX (gv:Kn) (rc:Rn) (ws:List Str) (a:Kn×List Str):Prop:=∀(i:Nat) (x:Str) (b:Kn×List Str) (t:Ms),ws[i]? =some x->jg gv rc (ws.take i) a b->jN gv rc ([x],b) t->Yj gv rc t
def qz (CSe CN CNo CRi:Addr):Sp:=fun vs H Q E=>∃(h g c o dxo rcd wl:Addr) (gs cs:List Str) (gv:Kn) (rc:Rn) (kg kc kr:List (Key×V)) (rm:Rm) (ws:List Str),vs=[.ref h, .ref o, .ref wl]/\H h=some (.tup [.ref g, .ref c])/\H g=some (.dK kg)/\H c=some (.dK kc)/\BK H kg kc gs cs gv rc/\H o=some (.ins CN dxo (nrF rcd))/\H rcd=some (.dK kr)/\uv H kr rm/\RmF gv rc rm/\H wl=some (.lst (ws.map V.str))/\uX gv rc ws (kn0,[])/\
 (∀(D:SrD) (kn:Kn) (rmN:Rm) (rkn:Str->Bool) (od:List Str) (Hf H':Hp),aN H H'->aN H Hf->Gx CSe CN D gs cs gv rc kg kc kr rm Hf->j0 H D gv rc rm kn rmN rkn od Hf H'->jg gv rc ws (kn0,[]) (kn,od)->H D.kd=none->H D.sd=none->H D.rd=none->(∀x∈ws,kn x≠none)->(∀y,kn y≠none->∃x∈ws,Rch gv rc kn x y)->Q (.ref D.so) H')/\
 (∀e cls d H',Fz gv rc ws (kn0,[]) e->aN H H'->Nb CNo CRi e cls d H'->E cls d H')
def K1 (CNo CRi:Addr):Sp:=fun vs H Q E=>∃(h g c wl:Addr) (gs cs:List Str) (gv:Kn) (rc:Rn) (ws:List Str),vs=[.ref h, .ref wl]/\oH H h g c gs cs gv rc/\H wl=some (.lst (ws.map V.str))/\uX gv rc ws (kn0,[])/\
 (∀(t kd sd l:Addr) (kw ks:List (Key×V)) (wn sn:List Str) (kn:Kn) (rmN:Rm) (H':Hp),aN H H'->H' t=some (.tup [.ref kd, .ref sd, .ref l])->H t=none->H kd=none->H sd=none->H l=none->kd≠sd->H' kd=some (.dK kw)->j9 kw wn->wn.length<=60->(∀x,dX kw (.inr x)=(kn x).map V.int)->H' sd=some (.dK ks)->j9 ks sn->RecM H H' ks rmN->H' l=some (.lst (sn.map V.str))->SM gv rc (fun _=>none) ws kn rmN (fun x=>(rmN x).isSome) sn->jg gv rc ws (kn0,[]) (kn,sn)->Q (.ref t) H')/\
 (∀e cls d H',Fz gv rc ws (kn0,[]) e->aN H H'->Nb CNo CRi e cls d H'->E cls d H')
def FJ (CNo CRi:Addr):Sp:=fun vs H Q E=>∃(h g c:Addr) (gs cs:List Str) (gv:Kn) (rc:Rn) (x:Str),vs=[.ref h, .str x]/\oH H h g c gs cs gv rc/\uX gv rc [x] (kn0,[])/\
 (∀(v:Int) (kn:Kn) (rmN:Rm) (od:List Str) (H':Hp),aN H H'->StG gv rc kn rmN->jg gv rc [x] (kn0,[]) (kn,od)->kn x=some v->Q (.int v) H')/\
 (∀e cls d H',Fz gv rc [x] (kn0,[]) e->aN H H'->Nb CNo CRi e cls d H'->E cls d H')
def K3 (CNo CRi:Addr):Sp:=fun vs H Q E=>∃(h g c:Addr) (gs cs:List Str) (gv:Kn) (rc:Rn) (x:Str),vs=[.ref h, .str x]/\oH H h g c gs cs gv rc/\uX gv rc [x] (kn0,[])/\
 (∀(l:Addr) (as:List Addr) (ps:List Rdp) (kn:Kn) (rmN:Rm) (od:List Str) (H':Hp),aN H H'->H l=none->StG gv rc kn rmN->jg gv rc [x] (kn0,[]) (kn,od)->H' l=some (.lst (as.map V.ref))->jZ H' as ps->((∃r v,rmN x=some (r,ps,v))\/(rmN x=none/\ps=[]))->Q (.ref l) H')/\
 (∀e cls d H',Fz gv rc [x] (kn0,[]) e->aN H H'->Nb CNo CRi e cls d H'->E cls d H')
def vW (rest:Int) (mixed:Bool) (turn:Int):List (Key×V):=[(.inr "rest", .int rest),(.inr "mixed", .bl mixed),(.inr "turn", .int turn)]
def lO (H:Hp) (p:Addr) (c:Nat):Prop:=∃(rest:Int) (mixed:Bool) (turn:Int),H p=some (.dK (vW rest mixed turn))/\0<=turn/\turn<=(c:Int)
theorem lO.keep {S:List Addr}{H H':Hp}{p:Addr}{c:Nat} (h:lO H p c) (b:But S H H') (hp:p∉S):lO H' p c:=by
 obtain⟨r,m,k,e,h⟩:=h
 exact⟨r,m,k,b _ _ hp e,h⟩
theorem lO.same {H H':Hp}{p:Addr}{c:Nat} (h:lO H p c) (b:aN H H'):lO H' p c:=h.keep (S:=[]) (But.of_same b) (by simp)
theorem lO.tups {H H':Hp}{p:Addr}{c:Nat} (h:lO H p c) (b:But [p] H H'):jX H H':=fun q xs e=>b q _ (fun z=>by
 obtain⟨r,m,k,e',_⟩:=h
 have:q=p:=by simpa using z
 rw[this,e'] at e;cases e) e
theorem lO.off {H:Hp}{p z:Addr}{c:Nat}{o:HO} (h:lO H p c) (e:H z=some o) (ho:∀k,o≠ .dK k):z∉[p]:=fun w=>by
 obtain⟨r,m,k,e',_⟩:=h
 have:z=p:=by simpa using w
 rw[this,e'] at e;cases e;exact ho _ rfl
theorem FN {H:Hp}{p:Addr}{a c:Int}{b:Bool} (e:H p=some (.dK (vW a b c))):cL H p (.str "rest") (some (.int a)):=cL.k (k:= .inr "rest") e
theorem QD {H:Hp}{p:Addr}{a c:Int}{b:Bool} (e:H p=some (.dK (vW a b c))):cL H p (.str "mixed") (some (.bl b)):=cL.k (k:= .inr "mixed") e
theorem K4 {H:Hp}{p:Addr}{a c:Int}{b:Bool} (e:H p=some (.dK (vW a b c))):cL H p (.str "turn") (some (.int c)):=cL.k (k:= .inr "turn") e
theorem Aa {H:Hp}{p:Addr}{a c:Int}{b:Bool} (e:H p=some (.dK (vW a b c))) (x:Int):lD H p (.str "rest") (.int x) (upd H p (.dK (vW x b c))):=lD.k (k:= .inr "rest") e (bY (by show 3<=1000;decide))
theorem Jm {H:Hp}{p:Addr}{a c:Int}{b:Bool} (e:H p=some (.dK (vW a b c))) (x:Int):lD H p (.str "turn") (.int x) (upd H p (.dK (vW a b x))):=lD.k (k:= .inr "turn") e (bY (by show 3<=1000;decide))
def DQ (K:PySem.W.Frag):Sp:=fun vs H Q _=>∃(a:Addr) (ns:List Int) (k:Int),vs=[.ref a, .int k]/\SqL K H a (ns.map V.int)/\0<=k/\k<=1000/\∀n,Q (.int n) H
def Ym (K:PySem.W.Frag):Sp:=fun vs H Q _=>∃(a:Addr) (ns:List Int) (k:Int),vs=[.ref a, .int k]/\SqL K H a (ns.map V.int)/\0<=k/\k<=1000/\∀p H',aN H H'->H p=none->lO H' p 1000->Q (.ref p) H'
def FP:Sp:=fun vs H Q _=>∃(p:Addr) (c:Nat) (many:Int),vs=[.ref p, .int many]/\lO H p c/\c<=100000/\0<many/\many.natAbs.log2<9000/\∀n H',0<=n->n<many->But [p] H H'->lO H' p (c+1)->Q (.int n) H'
theorem Tp {kn:Kn}{ns:List Str}{x:Str} (hx:x∈ns) {kn':Kn} (le:Kn.Le kn kn') (h:kn x=none) (h':kn' x≠none):Fj kn' ns+1<=Fj kn ns:=by
 unfold Fj
 refine yM (p:=fun x=>(kn x).isNone) (p':=fun x=>(kn' x).isNone) (fun j _ hj=> ?_) hx (by rw[h];rfl) ?_
 ·cases e:kn j with
  | none=>rfl
  | some v=>rw[le j v e] at hj;cases hj
 ·cases e:kn' x with
  | none=>exact absurd e h'
  | some v=>rfl
theorem Tq {NS:List Str}{gv:Kn}{rc:Rn} (hin:∀x r,rc x=some r->r.In NS) {s t:Ms} (h:∀y∈s.1,y∈NS) (e:mv gv rc s=some t):∀y∈t.1,y∈NS:=by
 obtain⟨p,kn,od⟩:=s
 cases p with
 | nil=>cases e
 | cons y p=>
   unfold mv at e
   cases hk:kn y with
   | some v=>
     simp only[hk] at e
     cases e
     exact fun z hz=>h z (by simp[hz])
   | none=>
     simp only[hk] at e
     cases hg:gv y with
     | some v=>
       simp only[hg] at e
       cases e
       exact h
     | none=>
       simp only[hg] at e
       cases hr:rc y with
       | none=>simp only[hr] at e;cases e
       | some r=>
         simp only[hr] at e
         cases he:ev kn r with
         | inr v=>
           simp only[he] at e
           cases e
           exact h
         | inl z=>
           simp only[he] at e
           cases e
           intro w hw
           rcases List.mem_cons.mp hw with q | q
           ·rw[q];exact zV (hin y r hr) he
           ·exact h w q
open PySem.Builtin.Int (intBits)
def R.Lin:R->Prop
 | .num n=>intBits n<=41
 | .rd _=>True
 | .bin op a b=>a.Lin/\b.Lin/\(op= .times->(∃n,a= .num n/\intBits n<=2)\/∃n,b= .num n/\intBits n<=2)
 | .pick a b c=>a.Lin/\b.Lin/\c.Lin
 | .cho a ns=>a.Lin/\1<=ns.length
def R.Top (r:R):Prop:=r.Lin\/∃x s,r= .bin .times (.rd x) s/\s.Lin
theorem xT {kn:Kn}{m:Nat} (hk:∀x v,kn x=some v->intBits v<=m) {x:Str}{v:Int} (e:look kn x= .inr v):intBits v<=m:=by
 unfold look at e
 cases z:kn x with
 | none=>rw[z] at e;cases e
 | some u=>rw[z] at e;cases e;exact hk x _ z
theorem pW {kn:Kn}{m:Nat} (h41:41<=m) (hk:∀x v,kn x=some v->intBits v<=m):∀(r:R) (d:Nat) (v:Int),r.Lin->r.depth<=d->ev kn r= .inr v->intBits v<=m+2 * d
 | .num n,d,v,h,_,e=>by
   cases e
   have:intBits n<=41:=h
   omega
 | .rd x,d,v,_,_,e=>by
   have:=xT hk (x:=x) e
   omega
 | .bin op a b,d,v,⟨ha,hb,ht⟩,hd,e=>by
   simp only[R.depth] at hd
   obtain⟨d',rfl⟩:∃d',d=d'+1:=⟨d - 1,by omega⟩
   simp only[ev] at e
   cases ea:ev kn a with
   | inl x=>rw[ea] at e;cases e
   | inr u=>
     rw[ea] at e
     cases eb:ev kn b with
     | inl x=>rw[eb] at e;cases e
     | inr w=>
       rw[eb] at e
       cases e
       have ia:=pW h41 hk a d' u ha (by omega) ea
       have ib:=pW h41 hk b d' w hb (by omega) eb
       cases op with
       | plus=>have:=intBits_add_le ia ib;show intBits (u+w)<=_;omega
       | minus=>have:=intBits_sub_le ia ib;show intBits (u - w)<=_;omega
       | most=>have:=intBits_ite_le (c:=w>u) ib ia;show intBits (if w>u then w else u)<=_;omega
       | times=>
         show intBits (u * w)<=_
         rcases ht rfl with⟨n,rfl,hn⟩ | ⟨n,rfl,hn⟩
         ·cases ea
          have:=intBits_mul_le hn ib;omega
         ·cases eb
          have:=intBits_mul_le ia hn;omega
 | .pick a b c,d,v,⟨ha,hb,hc⟩,hd,e=>by
   simp only[R.depth] at hd
   obtain⟨d',rfl⟩:∃d',d=d'+1:=⟨d - 1,by omega⟩
   simp only[ev] at e
   cases ea:ev kn a with
   | inl x=>rw[ea] at e;cases e
   | inr u=>
     rw[ea] at e
     by_cases hu:u>0
     ·simp only[if_pos hu] at e
      have:=pW h41 hk b d' v hb (by omega) e;omega
     ·simp only[if_neg hu] at e
      have:=pW h41 hk c d' v hc (by omega) e;omega
 | .cho a ns,d,v,⟨ha,_⟩,hd,e=>by
   simp only[ev] at e
   cases ea:ev kn a with
   | inl x=>rw[ea] at e;cases e
   | inr u=>
     rw[ea] at e
     cases ep:pU ns u with
     | none=>
       simp only[ep] at e
       cases e
       have:intBits 0<=41:=by decide
       omega
     | some x=>
       simp only[ep] at e
       have:=xT hk e
       omega
theorem vX {kn:Kn}:∀(r:R),r.Lin->r.Fn kn
 | .num _,_=>trivial
 | .rd _,_=>trivial
 | .bin op a b,⟨ha,hb,ht⟩=>⟨vX a ha,vX b hb,fun e u v ea eb=>by
   have sm:∀n:Int,intBits n<=2-> -(2 ^ 64)<n/\n<2 ^ 64:=fun n h=>by
    have:=intBits_le_iff.mp h
    have e4:(2:Nat)^ 2=4:=by decide
    rw[e4] at this
    have e64:(2:Int)^ 64=18446744073709551616:=by decide
    rw[e64]
    omega
   rcases ht e with⟨n,rfl,hn⟩ | ⟨n,rfl,hn⟩
   ·cases ea;exact .inl (sm _ hn)
   ·cases eb;exact .inr (sm _ hn)⟩
 | .pick a b c,⟨ha,hb,hc⟩=>⟨vX a ha,vX b hb,vX c hc⟩
 | .cho a ns,⟨ha,hn⟩=>⟨vX a ha,hn⟩
theorem Tr {kn:Kn}{m:Nat} (h41:41<=m) (hk:∀x v,kn x=some v->intBits v<=m) {r:R}{v:Int} (h:r.Top) (hd:r.depth<=6) (e:ev kn r= .inr v):intBits v<=2 * m+12:=by
 rcases h with h | ⟨x,s,rfl,hs⟩
 ·have:=pW h41 hk r 6 v h hd e;omega
 ·simp only[R.depth] at hd
  simp only[ev] at e
  cases ea:look kn x with
  | inl y=>rw[ea] at e;cases e
  | inr u=>
    rw[ea] at e
    cases eb:ev kn s with
    | inl y=>rw[eb] at e;cases e
    | inr w=>
      rw[eb] at e
      cases e
      have:=intBits_mul_le (xT hk ea) (pW h41 hk s 6 w hs (by omega) eb)
      show intBits (u * w)<=_
      omega
def bd:Nat->Nat
 | 0=>41
 | k+1=>2 * bd k+12
theorem O8:∀k,41<=bd k
 | 0=>Nat.le_refl _
 | k+1=>by have:=O8 k;unfold bd;omega
theorem O9:∀{k j:Nat},k<=j->bd k<=bd j
 | k,0,h=>by rw[show k=0 by omega];exact Nat.le_refl _
 | k,j+1,h=>by
   by_cases e:k=j+1
   ·rw[e];exact Nat.le_refl _
   ·have:=O9 (k:=k) (j:=j) (by omega)
    show bd k<=2 * bd j+12
    omega
theorem adG:bd 20<=60000000:=by decide +kernel
structure BdI (rc:Rn) (s:Ms):Prop where
 nd:s.2.2.Nodup
 kn:∀x∈s.2.2,s.2.1 x≠none
 rc:∀x∈s.2.2,rc x≠none
 b:∀x v,s.2.1 x=some v->intBits v<=bd s.2.2.length
theorem BdI.step {gv:Kn}{rc:Rn} (hg:∀x v,gv x=some v->intBits v<=41) (hr:∀x r,rc x=some r->r.Top/\r.depth<=6) {s t:Ms} (h:BdI rc s) (e:mv gv rc s=some t):BdI rc t:=by
 obtain⟨p,kn,od⟩:=s
 cases p with
 | nil=>cases e
 | cons y p=>
   unfold mv at e
   cases hk:kn y with
   | some v=>
     simp only[hk] at e
     cases e
     exact⟨h.nd,h.kn,h.rc,h.b⟩
   | none=>
     simp only[hk] at e
     cases hgy:gv y with
     | some v=>
       simp only[hgy] at e
       cases e
       refine⟨h.nd,fun x hx=> ?_,h.rc,fun x u hu=> ?_⟩
       ·show Kn.put kn y v x≠none
        unfold Kn.put
        split
        ·simp
        ·exact h.kn x hx
       ·have hu:Kn.put kn y v x=some u:=hu
        unfold Kn.put at hu
        by_cases z:x=y
        ·rw[if_pos z] at hu;cases hu
         have:=hg y _ hgy
         have h2:=O8 od.length
         show intBits v<=bd od.length
         omega
        ·rw[if_neg z] at hu;exact h.b x u hu
     | none=>
       simp only[hgy] at e
       cases hry:rc y with
       | none=>simp only[hry] at e;cases e
       | some r=>
         simp only[hry] at e
         cases he:ev kn r with
         | inr v=>
           simp only[he] at e
           cases e
           have hyo:y∉od:=fun z=>h.kn y z hk
           have hb:=Tr (O8 od.length) h.b (hr y r hry).1 (hr y r hry).2 he
           refine⟨?_,fun x hx=> ?_,fun x hx=> ?_,fun x u hu=> ?_⟩
           ·show(od++[y]).Nodup
            rw[List.nodup_append]
            exact⟨h.nd,by simp,fun a ha c hc z=>hyo (by rw[show c=y by simpa using hc] at z;rw[<-z];exact ha)⟩
           ·show Kn.put kn y v x≠none
            unfold Kn.put
            by_cases z:x=y
            ·rw[if_pos z];simp
            ·rw[if_neg z]
             rcases List.mem_append.mp hx with w | w
             ·exact h.kn x w
             ·exact absurd (by simpa using w) z
           ·rcases List.mem_append.mp hx with w | w
            ·exact h.rc x w
            ·rw[show x=y by simpa using w,hry];simp
           ·have hu:Kn.put kn y v x=some u:=hu
            show intBits u<=bd (od++[y]).length
            rw[List.length_append]
            show intBits u<=2 * bd od.length+12
            unfold Kn.put at hu
            by_cases z:x=y
            ·rw[if_pos z] at hu;cases hu;exact hb
            ·rw[if_neg z] at hu
             have:intBits u<=bd od.length:=h.b x u hu
             omega
         | inl z=>
           simp only[he] at e
           cases e
           exact⟨h.nd,h.kn,h.rc,h.b⟩
end RB
namespace RB
open PySem L2 PySem.Spec PyProof.Rows
open PySem.Builtin.Int (intBits)
theorem Tu {n:Int} (h:n.natAbs<=1000000000000):intBits n<=41:=intBits_le_iff.mpr (by
 have:(2:Nat)^ 41=2199023255552:=by decide
 omega)
def Tv:Sp:=fun vs H Q _=>∃(p:Addr) (c:Nat),vs=[.ref p]/\lO H p c/\c<=90000/\∀n H',intBits n<=41->But [p] H H'->lO H' p (c+2)->Q (.int n) H'
def CW (ns:List Str):R->Prop
 | .num n=>intBits n<=41
 | .rd x=>x∈ns
 | _=>False
def Pa:Sp:=fun vs H Q _=>∃(p l:Addr) (c:Nat) (ns:List Str),vs=[.ref p, .ref l]/\lO H p c/\c<=80000/\H l=some (.lst (ns.map V.str))/\ns.length<=100/\
 ∀a r H',But [p] H H'->lO H' p (c+3)->IsR H' a r->CW ns r->Q (.ref a) H'
theorem CW.lin {ns:List Str}{r:R} (h:CW ns r):r.Lin:=by
 cases r<;>first | exact h | trivial | cases h
theorem CW.in_ {ns:List Str}{r:R} (h:CW ns r):r.In ns:=by
 cases r<;>first | exact h | trivial | cases h
end RB
namespace RB
open PySem L2 PySem.Spec PyProof.Rows
open PySem.Builtin.Int (intBits)
theorem lO.ne {H:Hp}{p a:Addr}{c:Nat} (h:lO H p c) (e:H a=none):a≠p:=fun z=>by
 obtain⟨_,_,_,e',_⟩:=h
 rw[<-z,e] at e';cases e'
theorem lO.mono {H:Hp}{p:Addr}{c c':Nat} (h:lO H p c) (hc:c<=c'):lO H p c':=by
 obtain⟨r,m,k,e,h1,h2⟩:=h
 exact⟨r,m,k,e,h1,by omega⟩
def Nf:Nat->Nat
 | 0=>4
 | d+1=>14+3 * Nf d
theorem adH:∀d,4<=Nf d
 | 0=>Nat.le_refl _
 | d+1=>by show 4<=14+_;omega
theorem QF {n:Int} (h0:0<=n) (h1:n<7):intBits (n - 3)<=2:=intBits_le_iff.mpr (by
 have:(2:Nat)^ 2=4:=by decide
 omega)
structure Rc4 (ns:List Str) (d:Nat) (r:R):Prop where
 l:r.Lin
 i:r.In ns
 d:r.depth<=d+1
 g:r.Good
theorem CW.rc {ns:List Str}{r:R}{d:Nat} (hg:∀x∈ns,lR x) (h:CW ns r):Rc4 ns d r:=by
 refine⟨h.lin,h.in_, ?_, ?_⟩
 ·cases r<;>first | (show 1<=d+1;omega) | cases h
 ·cases r with
  | num n=>
    have:=intBits_le_iff.mp (show intBits n<=41 from h)
    show n.natAbs<10 ^ 40
    exact Nat.lt_of_lt_of_le this (by decide)
  | rd x=>exact hg x h
  | _=>cases h
def Tw (d:Nat):Sp:=fun vs H Q _=>∃(p l:Addr) (c:Nat) (ns:List Str) (deep:Int),vs=[.ref p, .ref l, .int deep]/\deep=(d:Int)/\d<=3/\lO H p c/\c+Nf d<=70000/\H l=some (.lst (ns.map V.str))/\ns.length<=100/\(∀x∈ns,lR x)/\
 ∀a r H',But [p] H H'->lO H' p (c+Nf d)->IsR H' a r->Rc4 ns d r->Q (.ref a) H'
def agQ:Nat->Sp
 | 0=>fun _ _ _ _=>False
 | d+1=>Tw d
def Yn:Sp:=fun vs H Q _=>∃(p l:Addr) (c:Nat) (ns:List Str) (deep:Int),vs=[.ref p, .ref l, .int deep]/\0<=deep/\deep<4/\lO H p c/\c<=60000/\H l=some (.lst (ns.map V.str))/\ns.length<=100/\(∀x∈ns,lR x)/\
 ∀a r H',But [p] H H'->lO H' p (c+290)->IsR H' a r->Rc4 ns 3 r->Q (.ref a) H'
end RB
namespace RB
open PySem L2 PySem.Spec PyProof.Rows
def d8:List Str:=["a","b","ab","ba","aa","read","plus","zz","number","pick","z","abcdefgh","most","given","c","aaaaaaaa","times","choose"]
theorem Wj:d8.Nodup:=by decide +kernel
theorem BW:∀x∈d8,lR x:=by
 unfold lR Ht
 decide +kernel
theorem QH:lR "nowhere":=by
 unfold lR Ht
 decide +kernel
def Tz:Sp:=fun vs H Q _=>vs=[]/\∀l H',aN H H'->H l=none->H' l=some (.lst (d8.map V.str))->Q (.ref l) H'
def Yo:Sp:=fun vs H Q _=>∃(h g c:Addr) (gs cs:List Str) (gv:Kn) (rc:Rn) (x:Str),vs=[.ref h, .str x]/\oH H h g c gs cs gv rc/\uX gv rc [x] (kn0,[])/\
 (∀(v:Int) (kn:Kn) (rmN:Rm) (od:List Str) (H':Hp),aN H H'->StG gv rc kn rmN->jg gv rc [x] (kn0,[]) (kn,od)->kn x=some v->Q (.int v) H')/\
 (∀e H',Fz gv rc [x] (kn0,[]) e->aN H H'->Q .non H')
end RB
namespace L2
open PySem PySem.Spec PyProof.Rows
def TF (K:PySem.W.Frag) (C:Addr) (tb:(St->XK)->TS) (th:TS):TS:=fun D σ H=>tb (fun σ1 cls _ H1=>PySem.W.exmOne K cls (.ref C)=some true/\th D σ1 H1) D σ H
section
variable {X:Cx}{x:Str}{C:Addr}{np hpos pos:Pos}{body suite:List Stmt}{b₀:Stmt}{tb:(St->XK)->TS}{th:TS}
theorem TJ (hex:X.ex=[]) (hst:X.stack=X.env::X.outer) (hfr:X.env.frame=some X.env.locals) (hg:Gl X x) (hm:X.mg x=some (.ref C))
 (hb:∀pn xe (E:St->XK),Kg (CXd X.prog X.w) (X.tryd pn xe) E->PSs (X.tryd pn xe) body (tb E)) (hs:∀e,PSs (X.held e) (b₀::suite) th) (hdb:(x==("__debug__":Str))=false:=by decide):
 PS X (.Try body [.ExceptHandler (some (.Name x np)) none (b₀::suite) hpos] [] [] pos) (TF X.K C tb th):=by
 intro pins s σ H D I h
 rw[arm_exec_Try]
 refine wpAny_bind (wpAny_standAt (wpAny_tryStmt_except ?_))
 refine wpAny_mono (hb pins (fun e s₁=>wpAny (model X.prog X.w) X.A (noteFrame e X.env) (fun _ s₂=>wpAny (model X.prog X.w) X.A (setFlight e none) (fun _ s₃=>wpAny (model X.prog X.w) X.A (handleBy e X.env [.ExceptHandler (some (.Name x np)) none (b₀::suite) hpos]) (SP X pins D) X.xe s₃) X.xe s₂) X.xe s₁)
  _ ?_ [] s σ H D (I.tryd _) h) (fun f s1 q=> ?_) fun _ _ z=>z
 ·intro aih σ1 H1 s1 e s' I1 hx
  obtain⟨a,cls,d,H',rfl,F,hm1,hth⟩:=hx
  obtain⟨B,fl,kc⟩:=F.fly
  have hcls:(X.env.scope.kind== .class||(X.env.scope.kind== .module&&X.env.locals !=X.env.globals))=false:=by rw[I.ok.kind];rfl
  have hframes:X.A.frames=some (X.env::X.outer):=by rw[<-hst];exact I.ok.frames
  have fl':xV B (X.env::X.outer) a cls d .none s'.heap:=by rw[<-hst];exact fl
  refine KN hframes hfr fl' fun h4 adI up4=> ?_
  refine O5 (s:={s' with heap:=h4}) adI fun h5 fl5 up5=> ?_
  have J5:=(Tf.land (X:=X.tryd pins _) F I1 kc fl5.stays (up4.trans up5)).untryd
  obtain⟨oe,vs,heo,hec,_⟩:=fl5.there
  refine wpAny_handleBy_cons (codeAny_handlers_test (tY (J5.held (.ref a)) hg hm ?_ hdb)) (by intro q;cases q)
  have LT:PySem.W.Looks (model X.prog X.w) h5 (typeOf (.ref a)) cls:=by
   obtain⟨hec,_⟩:=hec
   subst hec
   exact(PySem.W.Looks.ld heo).andThen .now
  refine(PySem.W.exm_one J5.kIn LT hm1).here ?_
  refine codeAny_handlers_suite ?_
  refine O5 (s:={s' with heap:=h5}) fl5 fun h6 fl6 up6=> ?_
  have J6:=(Tf.land (X:=X.tryd pins _) F I1 kc fl6.stays ((up4.trans up5).trans up6)).untryd
  refine wpAny_mono (hs (.ref a) pins _ _ _ _ (J6.held (.ref a)) hth) (fun f s8 q=> ?_) fun _ _ z=>False.elim z
  cases f with
  | next=>obtain⟨σ2,H2,J8,q⟩:=q;exact⟨σ2,H2,J8.unheld I.ok,q⟩
  | brk=>obtain⟨σ2,H2,J8,q⟩:=q;exact⟨σ2,H2,J8.unheld I.ok,q⟩
  | cont=>obtain⟨σ2,H2,J8,q⟩:=q;exact⟨σ2,H2,J8.unheld I.ok,q⟩
  | ret u=>obtain⟨v,σ2,H2,J8,r,q⟩:=q;exact⟨v,σ2,H2,J8.unheld I.ok,r,q⟩
 ·cases f with
  | next=>obtain⟨σ',H',J,q⟩:=q;exact wpAny_execs_nil ⟨σ',H',J.untryd,q⟩
  | brk=>obtain⟨σ',H',J,q⟩:=q;exact⟨σ',H',J.untryd,q⟩
  | cont=>obtain⟨σ',H',J,q⟩:=q;exact⟨σ',H',J.untryd,q⟩
  | ret u=>obtain⟨v,σ',H',J,r,q⟩:=q;exact⟨v,σ',H',J.untryd,r,q⟩
theorem TQ (hex:X.ex=[]) (hst:X.stack=X.env::X.outer) (hfr:X.env.frame=some X.env.locals) (hg:Gl X x) (hm:X.mg x=some (.ref C))
 (hb:∀pn xe (E:St->XK),Kg (CXd X.prog X.w) (X.tryd pn xe) E->QSs (X.tryd pn xe) body (tb E)) (hs:∀e,QSs (X.held e) (b₀::suite) th) (hdb:(x==("__debug__":Str))=false):
 QS X (.Try body [.ExceptHandler (some (.Name x np)) none (b₀::suite) hpos] [] [] pos) (TF X.K C tb th):=⟨TJ hex hst hfr hg hm (fun pn xe E h=>(hb pn xe E h).h) (fun e=>(hs e).h) hdb⟩
end
end L2
namespace RB
open PySem L2 PySem.Spec PyProof.Rows
def Rcs (H:Hp) (c:Addr) (ks:List Str) (rc:Rn):Prop:=∃kc,H c=some (.dK kc)/\j9 kc ks/\(∀x r,rc x=some r->∃b,dX kc (.inr x)=some (.ref b)/\IsR H b r)/\∀x,rc x=none->dX kc (.inr x)=none
theorem Rcs.keep {S:List Addr}{H H':Hp}{c:Addr}{ks:List Str}{rc:Rn} (h:Rcs H c ks rc) (b:But S H H') (hc:c∉S) (t:jX H H'):Rcs H' c ks rc:=by
 obtain⟨kc,e,k,r,n⟩:=h
 exact⟨kc,b _ _ hc e,k,fun x r' e'=>let ⟨b,h1,h2⟩:=r x r' e';⟨b,h1,h2.tups t⟩,n⟩
theorem Rcs.put {H:Hp}{c:Addr}{ks:List Str}{rc:Rn} (h:Rcs H c ks rc) (hl:ks.length<=100) {x:Str}{r:R}{b:Addr} (hx:x∉ks) (hR:IsR H b r):∃H',lD H c (.str x) (.ref b) H'/\But [c] H H'/\jX H H'/\Rcs H' c (ks++[x]) (rc.put x r):=by
 obtain⟨kc,e,k,rr,n⟩:=h
 have t:jX H (upd H c (.dK (putK kc (.inr x) (.ref b)))):=ug e
 refine⟨_,lD.k (k:= .inr x) e (bY (by rw[k.len];omega)),But.set _ (by simp),t,_,ak,k.uf hx _,fun y r' e'=> ?_,fun y e'=> ?_⟩
 ·rw[jw]
  unfold Rn.put at e'
  by_cases z:y=x
  ·rw[if_pos z] at e';cases e'
   exact⟨b,by rw[if_pos (by rw[z])],hR.tups t⟩
  ·rw[if_neg z] at e'
   obtain⟨b',h1,h2⟩:=rr y r' e'
   exact⟨b',by rw[if_neg (lV z)];exact h1,h2.tups t⟩
 ·rw[jw]
  unfold Rn.put at e'
  by_cases z:y=x
  ·rw[if_pos z] at e';cases e'
  ·rw[if_neg z] at e'
   rw[if_neg (lV z)];exact n y e'
theorem K5:∀{zs:List Str},(∀y∈zs,PyData.strOk y=true)->PyData.canLayAll0 (zs.map .str)=true
 |[],_=>rfl
 | z::zs,h=>by
   show(PyData.canLay0 (.str z)&&PyData.canLayAll0 (zs.map .str))=true
   rw[Bool.and_eq_true]
   exact⟨h z (by simp),K5 fun y hy=>h y (by simp[hy])⟩
theorem K6:∀(zs:List Str),PyData.depthAll (zs.map .str)<=4
 |[]=>by simp[PyData.depthAll]
 | z::zs=>by
   have:=K6 zs
   simp only[List.map_cons,PyData.depthAll,PyData.depth]
   omega
open PySem.Builtin.Int (intBits)
def Gy:List Str:=d8++(["nowhere"]:List Str)
theorem Ng:∀x∈Gy,lR x:=fun x hx=>by
 rcases List.mem_append.mp hx with h | h
 ·exact BW x h
 ·rw[show x="nowhere" by simpa using h];exact QH
structure Ok4 (r:R):Prop where
 t:r.Top
 d:r.depth<=5
 i:r.In Gy
 g:r.Good
theorem Ok4.rcg {r:R} (h:Ok4 r):RcG r:=by
 have hf:=mU h.g
 have h1:=Fd r 5 h.d
 have h2:=yO r 5 hf h.d
 have e1:(3:Nat)^ 5=243:=by decide
 exact⟨hf,by have:=h.d;omega,by omega,by omega⟩
theorem Rcs.Bx {H:Hp}{c:Addr}{ks:List Str}{rc:Rn} (h:Rcs H c ks rc) (hl:ks.length<=100) {x:Str}{r:R}{b:Addr} (hx:x∈ks) (hR:IsR H b r):∃H',lD H c (.str x) (.ref b) H'/\But [c] H H'/\jX H H'/\Rcs H' c ks (rc.put x r):=by
 obtain⟨kc,e,k,rr,n⟩:=h
 have t:jX H (upd H c (.dK (putK kc (.inr x) (.ref b)))):=ug e
 refine⟨_,lD.k (k:= .inr x) e (bY (by rw[k.len];omega)),But.set _ (by simp),t,_,ak,k.Bx hx _,fun y r' e'=> ?_,fun y e'=> ?_⟩
 ·rw[jw]
  unfold Rn.put at e'
  by_cases z:y=x
  ·rw[if_pos z] at e';cases e'
   exact⟨b,by rw[if_pos (by rw[z])],hR.tups t⟩
  ·rw[if_neg z] at e'
   obtain⟨b',h1,h2⟩:=rr y r' e'
   exact⟨b',by rw[if_neg (lV z)];exact h1,h2.tups t⟩
 ·rw[jw]
  unfold Rn.put at e'
  by_cases z:y=x
  ·rw[if_pos z] at e';cases e'
  ·rw[if_neg z] at e'
   rw[if_neg (lV z)];exact n y e'
structure HoI (H:Hp) (g c:Addr) (ks gs cs:List Str) (gv:Kn) (rc:Rn):Prop where
 kg:∃kg,H g=some (.dK kg)/\j9 kg gs/\∀x,dX kg (.inr x)=(gv x).map V.int
 kc:Rcs H c cs rc
 ne:g≠c
 gk:∀x∈gs,x∈ks
 ck:∀x∈cs,x∈ks
 dj:∀x∈gs,x∉cs
 l:gs.length+cs.length<=ks.length
 b:∀x v,gv x=some v->intBits v<=41
 o:∀x r,rc x=some r->Ok4 r
section
variable {S:List Addr}{H H':Hp}{g c:Addr}{ks gs cs:List Str}{gv:Kn}{rc:Rn}
theorem HoI.keep (h:HoI H g c ks gs cs gv rc) (b:But S H H') (hg:g∉S) (hc:c∉S) (t:jX H H'):HoI H' g c ks gs cs gv rc:=
 ⟨let ⟨kg,e,k⟩:=h.kg;⟨kg,b _ _ hg e,k⟩,h.kc.keep b hc t,h.ne,h.gk,h.ck,h.dj,h.l,h.b,h.o⟩
theorem HoI.same (h:HoI H g c ks gs cs gv rc) (s:aN H H'):HoI H' g c ks gs cs gv rc:=h.keep (S:=[]) (But.of_same s) (by simp) (by simp) (aN.tups s)
theorem HoI.nil (e1:H g=some (.dK [])) (e2:H c=some (.dK [])) (ne:g≠c):HoI H g c [] [] [] kn0 (fun _=>none):=
 ⟨⟨[],e1,⟨rfl,by simp⟩,fun _=>rfl⟩,⟨[],e2,⟨rfl,by simp⟩,fun _ _ h=>(by simp at h),fun _ _=>rfl⟩,ne,by simp,by simp,by simp,by simp,fun _ _ h=>(by cases h),fun _ _ h=>(by cases h)⟩
theorem HoI.dk (h:HoI H g c ks gs cs gv rc):(∃k,H g=some (.dK k))/\∃k,H c=some (.dK k):=⟨let ⟨kg,e,_⟩:=h.kg;⟨kg,e⟩,let ⟨kc,e,_⟩:=h.kc;⟨kc,e⟩⟩
theorem HoI.Wf (h:HoI H g c ks gs cs gv rc) (hl:ks.length<=50) {x:Str}{v:Int} (hx:x∉ks) (hv:intBits v<=41):∃H',lD H g (.str x) (.int v) H'/\But [g] H H'/\jX H H'/\HoI H' g c (ks++[x]) (gs++[x]) cs (gv.put x v) rc:=by
 obtain⟨kg,e,k,hk⟩:=h.kg
 have t:jX H (upd H g (.dK (putK kg (.inr x) (.int v)))):=ug e
 have b:But [g] H (upd H g (.dK (putK kg (.inr x) (.int v)))):=But.set _ (by simp)
 have hxg:x∉gs:=fun z=>hx (h.gk x z)
 have hxc:x∉cs:=fun z=>hx (h.ck x z)
 refine⟨_,lD.k (k:= .inr x) e (bY (by have:=h.l;rw[k.len];omega)),b,t,⟨_,ak,k.uf hxg _,DK hk x v⟩,h.kc.keep b (by simpa using Ne.symm h.ne) t,h.ne,fun y hy=> ?_,fun y hy=>List.mem_append_left _ (h.ck y hy),fun y hy=> ?_,by have:=h.l;simp only[List.length_append,List.length_cons,List.length_nil];omega,fun y u e'=> ?_,h.o⟩
 ·rcases List.mem_append.mp hy with z | z
  ·exact List.mem_append_left _ (h.gk y z)
  ·exact List.mem_append_right _ z
 ·rcases List.mem_append.mp hy with z | z
  ·exact h.dj y z
  ·rw[show y=x by simpa using z];exact hxc
 ·unfold Kn.put at e'
  by_cases z:y=x
  ·rw[if_pos z] at e';cases e';exact hv
  ·rw[if_neg z] at e';exact h.b y u e'
theorem TV {rc:Rn} (h:∀x r,rc x=some r->Ok4 r) {x:Str}{r:R} (hr:Ok4 r):∀y r',(rc.put x r) y=some r'->Ok4 r':=fun y u e'=>by
 unfold Rn.put at e'
 by_cases z:y=x
 ·rw[if_pos z] at e';cases e';exact hr
 ·rw[if_neg z] at e';exact h y u e'
theorem HoI.rY (h:HoI H g c ks gs cs gv rc) (hl:ks.length<=50) {x:Str}{r:R}{b:Addr} (hx:x∉ks) (hR:IsR H b r) (hr:Ok4 r):∃H',lD H c (.str x) (.ref b) H'/\But [c] H H'/\jX H H'/\HoI H' g c (ks++[x]) gs (cs++[x]) gv (rc.put x r):=by
 have hxg:x∉gs:=fun z=>hx (h.gk x z)
 have hxc:x∉cs:=fun z=>hx (h.ck x z)
 obtain⟨H',d,bb,t,k⟩:=h.kc.put (by have:=h.l;omega) hxc hR
 obtain⟨kg,e,kk⟩:=h.kg
 refine⟨H',d,bb,t,⟨kg,bb _ _ (by simpa using h.ne) e,kk⟩,k,h.ne,fun y hy=>List.mem_append_left _ (h.gk y hy),fun y hy=> ?_,fun y hy z=> ?_,by have:=h.l;simp only[List.length_append,List.length_cons,List.length_nil];omega,h.b,TV h.o hr⟩
 ·rcases List.mem_append.mp hy with z | z
  ·exact List.mem_append_left _ (h.ck y z)
  ·exact List.mem_append_right _ z
 ·rcases List.mem_append.mp z with z | z
  ·exact h.dj y hy z
  ·rw[show y=x by simpa using z] at hy;exact hxg hy
theorem HoI.adJ (h:HoI H g c ks gs cs gv rc) (hl:ks.length<=50) {x:Str}{r:R}{b:Addr} (hx:x∈cs) (hR:IsR H b r) (hr:Ok4 r):∃H',lD H c (.str x) (.ref b) H'/\But [c] H H'/\jX H H'/\HoI H' g c ks gs cs gv (rc.put x r):=by
 obtain⟨H',d,bb,t,k⟩:=h.kc.Bx (by have:=h.l;omega) hx hR
 obtain⟨kg,e,kk⟩:=h.kg
 exact⟨H',d,bb,t,⟨kg,bb _ _ (by simpa using h.ne) e,kk⟩,k,h.ne,h.gk,h.ck,h.dj,h.l,h.b,TV h.o hr⟩
theorem HoI.get (h:HoI H g c ks gs cs gv rc) {x:Str} (hx:x∈cs):∃b r,cL H c (.str x) (some (.ref b))/\IsR H b r/\rc x=some r:=by
 obtain⟨kc,e,k,rr,n⟩:=h.kc
 cases hr:rc x with
 | none=>exact absurd hx (k.none.mp (n x hr))
 | some r=>
   obtain⟨b,hb,hR⟩:=rr x r hr
   exact⟨b,r,hb▸cL.k (k:= .inr x) e,hR,rfl⟩
structure Ho4 (gs cs:List Str) (gv:Kn) (rc:Rn):Prop where
 gk:∀x∈gs,x∈d8.take 14
 ck:∀x∈cs,x∈d8.take 14
 dj:∀x∈gs,x∉cs
 a:("a":Str)∈gs
 l:gs.length+cs.length<=14
 b:∀x v,gv x=some v->intBits v<=41
 o:∀x r,rc x=some r->Ok4 r
theorem HoI.aaU (h:HoI H g c ks gs cs gv rc) (hl:ks.length<=50) {a:Addr} (e:H a=some (.tup [.ref g, .ref c])):oH H a g c gs cs gv rc:=by
 obtain⟨kg,e1,k1,v1⟩:=h.kg
 obtain⟨kc,e2,k2,r2,n2⟩:=h.kc
 exact⟨kg,kc,e,e1,e2,k1,k2,by have:=h.l;omega,v1,r2,n2,fun x r er=>(h.o x r er).rcg⟩
theorem HoI.ho4 (h:HoI H g c ks gs cs gv rc) (hk:∀x∈ks,x∈d8.take 14) (hl:ks.length<=14) (ha:("a":Str)∈gs):Ho4 gs cs gv rc:=
 ⟨fun x hx=>hk x (h.gk x hx),fun x hx=>hk x (h.ck x hx),h.dj,ha,by have:=h.l;omega,h.b,h.o⟩
end
def Yp (K:PySem.W.Frag):Sp:=fun vs H Q _=>∃(a:Addr) (zs:List Int) (first:Int),vs=[.ref a, .int first]/\SqL K H a (zs.map V.int)/\0<=first/\first<=10/\
 ∀(h g c:Addr) (gs cs:List Str) (gv:Kn) (rc:Rn) (H':Hp),aN H H'->H h=none->H g=none->H c=none->g≠c->oH H' h g c gs cs gv rc->Ho4 gs cs gv rc->Q (.ref h) H'
theorem Rc4.ok {ns:List Str}{r:R} (h:Rc4 ns 3 r) (hn:∀x∈ns,x∈Gy):Ok4 r:=⟨.inl h.l,by have:=h.d;omega,h.i.mono hn,h.g⟩
theorem Rc4.okT {ns:List Str}{r:R} (h:Rc4 ns 3 r) (hn:∀x∈ns,x∈Gy) {x:Str} (hx:x∈Gy):Ok4 (.bin .times (.rd x) r):=
 ⟨.inr ⟨x,r,rfl,h.l⟩,by show max 1 r.depth+1<=5;have:=h.d;omega,⟨hx,h.i.mono hn⟩,⟨Ng x hx,h.g⟩⟩
end RB
namespace RB
open PySem L2 PySem.Spec PyProof.Rows
theorem TX {us:List Str}{n:Int} (h0:0<=n) (h1:n<(us.length:Int)):∃x,atI (us.map V.str) n=some (.str x)/\x∈us:=by
 obtain⟨j,rfl⟩:=Int.eq_ofNat_of_zero_le h0
 have hj:j<us.length:=by omega
 exact⟨us[j],lB (by rw[List.getElem?_map,List.getElem?_eq_getElem hj];rfl),List.getElem_mem hj⟩
theorem CZ {ws:List Str} (h:∀y∈ws,PyData.strOk y=true):SeqAt.shaped (.list (ws.map .str))=true:=by
 have h5:(PyData.list (ws.map .str)).canLay0=true:=K5 h
 have h4:(PyData.list (ws.map .str)).depth<=64:=by
  have:=K6 ws
  simp only[PyData.depth];omega
 show(_&&decide _)=true
 rw[h5,decide_eq_true h4];rfl
def KAg (k1 k2:Kn):Prop:=∀x a b,k1 x=some a->k2 x=some b->a=b
theorem FQ {k1 k2:Kn} (h:KAg k1 k2) {x:Str}{u v:Int} (e1:look k1 x= .inr u) (e2:look k2 x= .inr v):u=v:=by
 unfold look at e1 e2
 cases z1:k1 x with
 | none=>rw[z1] at e1;cases e1
 | some a=>
   cases z2:k2 x with
   | none=>rw[z2] at e2;cases e2
   | some b=>
     rw[z1] at e1;rw[z2] at e2
     cases e1;cases e2
     exact h x _ _ z1 z2
theorem lW {k1 k2:Kn} (h:KAg k1 k2):∀(r:R) (u v:Int),ev k1 r= .inr u->ev k2 r= .inr v->u=v
 | .num n,u,v,e1,e2=>by cases e1;cases e2;rfl
 | .rd x,u,v,e1,e2=>FQ h (x:=x) e1 e2
 | .bin op a b,u,v,e1,e2=>by
   simp only[ev] at e1 e2
   cases a1:ev k1 a with
   | inl x=>rw[a1] at e1;cases e1
   | inr u1=>
     cases a2:ev k2 a with
     | inl x=>rw[a2] at e2;cases e2
     | inr u2=>
       rw[a1] at e1;rw[a2] at e2
       cases b1:ev k1 b with
       | inl x=>rw[b1] at e1;cases e1
       | inr w1=>
         cases b2:ev k2 b with
         | inl x=>rw[b2] at e2;cases e2
         | inr w2=>
           rw[b1] at e1;rw[b2] at e2
           cases e1;cases e2
           rw[lW h a u1 u2 a1 a2,lW h b w1 w2 b1 b2]
 | .pick a b c,u,v,e1,e2=>by
   simp only[ev] at e1 e2
   cases a1:ev k1 a with
   | inl x=>rw[a1] at e1;cases e1
   | inr u1=>
     cases a2:ev k2 a with
     | inl x=>rw[a2] at e2;cases e2
     | inr u2=>
       rw[a1] at e1;rw[a2] at e2
       have:=lW h a u1 u2 a1 a2
       subst this
       by_cases hu:u1>0
       ·simp only[if_pos hu] at e1 e2
        exact lW h b u v e1 e2
       ·simp only[if_neg hu] at e1 e2
        exact lW h c u v e1 e2
 | .cho a ns,u,v,e1,e2=>by
   simp only[ev] at e1 e2
   cases a1:ev k1 a with
   | inl x=>rw[a1] at e1;cases e1
   | inr u1=>
     cases a2:ev k2 a with
     | inl x=>rw[a2] at e2;cases e2
     | inr u2=>
       rw[a1] at e1;rw[a2] at e2
       have:=lW h a u1 u2 a1 a2
       subst this
       cases ep:pU ns u1 with
       | none=>simp only[ep] at e1 e2;cases e1;cases e2;rfl
       | some x=>
         simp only[ep] at e1 e2
         exact FQ h e1 e2
def JuI (gv:Kn) (rc:Rn) (s:Ms):Prop:=∀x u,s.2.1 x=some u->gv x=some u\/(gv x=none/\∃k r kn',s.2.2[k]? =some x/\rc x=some r/\ev kn' r= .inr u/\Kn.Le kn' s.2.1/\∀y,kn' y≠none->gv y≠none\/y∈s.2.2.take k)
theorem JuI.step {gv:Kn}{rc:Rn}{s t:Ms} (h:JuI gv rc s) (hn:∀y,s.2.1 y≠none->gv y≠none\/y∈s.2.2) (e:mv gv rc s=some t):JuI gv rc t/\∀y,t.2.1 y≠none->gv y≠none\/y∈t.2.2:=by
 obtain⟨p,kn,od⟩:=s
 cases p with
 | nil=>cases e
 | cons y p=>
   unfold mv at e
   cases hk:kn y with
   | some v=>
     simp only[hk] at e
     cases e
     exact⟨h,hn⟩
   | none=>
     simp only[hk] at e
     have le:∀v,Kn.Le kn (kn.put y v):=fun v=>Kn.qK hk
     cases hgy:gv y with
     | some v=>
       simp only[hgy] at e
       cases e
       refine⟨fun x u hu=> ?_,fun x hx=> ?_⟩
       ·have hu:Kn.put kn y v x=some u:=hu
        unfold Kn.put at hu
        by_cases z:x=y
        ·rw[if_pos z] at hu;cases hu;rw[z];exact .inl hgy
        ·rw[if_neg z] at hu
         rcases h x u hu with w | ⟨g,k,r,kn',h1,h2,h3,h4,h5⟩
         ·exact .inl w
         ·exact .inr ⟨g,k,r,kn',h1,h2,h3,h4.trans (le v),h5⟩
       ·have hx:Kn.put kn y v x≠none:=hx
        unfold Kn.put at hx
        by_cases z:x=y
        ·rw[z,hgy];exact .inl (by simp)
        ·rw[if_neg z] at hx;exact hn x hx
     | none=>
       simp only[hgy] at e
       cases hry:rc y with
       | none=>simp only[hry] at e;cases e
       | some r=>
         simp only[hry] at e
         cases he:ev kn r with
         | inr v=>
           simp only[he] at e
           cases e
           refine⟨fun x u hu=> ?_,fun x hx=> ?_⟩
           ·have hu:Kn.put kn y v x=some u:=hu
            unfold Kn.put at hu
            by_cases z:x=y
            ·rw[if_pos z] at hu;cases hu
             refine .inr ⟨by rw[z];exact hgy,od.length,r,kn, ?_,by rw[z];exact hry,he,le v,fun w hw=> ?_⟩
             ·show(od++[y])[od.length]? =some x
              rw[List.getElem?_append_right (Nat.le_refl _),z];simp
             ·rcases hn w hw with q | q
              ·exact .inl q
              ·refine .inr ?_
               show w∈(od++[y]).take od.length
               rw[List.take_append_of_le_length (Nat.le_refl _),List.take_length];exact q
            ·rw[if_neg z] at hu
             rcases h x u hu with w | ⟨g,k,r',kn',h1,h2,h3,h4,h5⟩
             ·exact .inl w
             ·have hkl:k<od.length:=(List.getElem?_eq_some_iff.mp h1).1
              refine .inr ⟨g,k,r',kn', ?_,h2,h3,h4.trans (le v),fun w hw=> ?_⟩
              ·show(od++[y])[k]? =some x
               rw[List.getElem?_append_left hkl];exact h1
              ·rcases h5 w hw with q | q
               ·exact .inl q
               ·refine .inr ?_
                show w∈(od++[y]).take k
                rw[List.take_append_of_le_length (by omega)];exact q
           ·have hx:Kn.put kn y v x≠none:=hx
            unfold Kn.put at hx
            by_cases z:x=y
            ·exact .inr (by show x∈od++[y];rw[z];simp)
            ·rw[if_neg z] at hx
             rcases hn x hx with q | q
             ·exact .inl q
             ·exact .inr (List.mem_append_left _ q)
         | inl z=>
           simp only[he] at e
           cases e
           exact⟨h,hn⟩
def OdI (s:Ms):Prop:=s.2.2.Nodup/\∀x∈s.2.2,s.2.1 x≠none
theorem OdI.step {gv:Kn}{rc:Rn}{s t:Ms} (h:OdI s) (e:mv gv rc s=some t):OdI t:=by
 obtain⟨p,kn,od⟩:=s
 cases p with
 | nil=>cases e
 | cons y p=>
   unfold mv at e
   cases hk:kn y with
   | some v=>
     simp only[hk] at e
     cases e
     exact h
   | none=>
     simp only[hk] at e
     have kp:∀v x,kn x≠none->Kn.put kn y v x≠none:=fun v x hx=>by
      unfold Kn.put
      by_cases z:x=y
      ·rw[if_pos z];simp
      ·rw[if_neg z];exact hx
     cases hgy:gv y with
     | some v=>
       simp only[hgy] at e
       cases e
       exact⟨h.1,fun x hx=>kp v x (h.2 x hx)⟩
     | none=>
       simp only[hgy] at e
       cases hry:rc y with
       | none=>simp only[hry] at e;cases e
       | some r=>
         simp only[hry] at e
         cases he:ev kn r with
         | inr v=>
           simp only[he] at e
           cases e
           have hyo:y∉od:=fun z=>h.2 y z hk
           refine⟨?_,fun x hx=> ?_⟩
           ·show(od++[y]).Nodup
            rw[List.nodup_append]
            exact⟨h.1,by simp,fun a ha c hc z=>hyo (by rw[show c=y by simpa using hc] at z;rw[<-z];exact ha)⟩
           ·show Kn.put kn y v x≠none
            rcases List.mem_append.mp hx with w | w
            ·exact kp v x (h.2 x w)
            ·unfold Kn.put;rw[if_pos (by simpa using w)];simp
         | inl z=>
           simp only[he] at e
           cases e
           exact h
structure JuA (gv:Kn) (rc:Rn) (s:Ms):Prop where
 j:JuI gv rc s
 n:∀y,s.2.1 y≠none->gv y≠none\/y∈s.2.2
 o:OdI s
theorem JuA.mvs {gv:Kn}{rc:Rn}{s t:Ms} (m:Mvs gv rc s t) (h:JuA gv rc s):JuA gv rc t:=m.inv (I:=JuA gv rc) (fun _ _ hs e=>⟨(hs.j.step hs.n e).1,(hs.j.step hs.n e).2,hs.o.step e⟩) h
theorem JuA.runs {gv:Kn}{rc:Rn}:∀{ws:List Str}{a b:Kn×List Str},jg gv rc ws a b->JuA gv rc ([],a)->JuA gv rc ([],b)
 |[],a,b,h,i=>by cases h;exact i
 | x::ws,a,b,⟨c,m,h⟩,i=>JuA.runs h (JuA.mvs (s:=([x],a)) m.mvs ⟨i.j,i.n,i.o⟩)
theorem JuA.zero {gv:Kn}{rc:Rn}:JuA gv rc ([],kn0,[]) where
 j:=fun x u h=>by
  have h:(none:Option Int)=some u:=h
  cases h
 n:=fun y h=>absurd rfl h
 o:=⟨List.nodup_nil,fun x h=>by cases h⟩
theorem JuA.agree {gv:Kn}{rc:Rn}{s t:Ms} (h1:JuA gv rc s) (h2:JuA gv rc t):KAg s.2.1 t.2.1:=by
 have giv:∀x u v g,gv x=some g->s.2.1 x=some u->t.2.1 x=some v->u=v:=fun x u v g hg hu hv=>by
  rcases h1.j x u hu with a | ⟨a,_⟩
  ·rcases h2.j x v hv with b | ⟨b,_⟩
   ·rw[a] at b;exact Option.some.inj b
   ·rw[hg] at b;cases b
  ·rw[hg] at a;cases a
 have key:∀(n:Nat) (x:Str) (u v:Int),x∈s.2.2.take n->s.2.1 x=some u->t.2.1 x=some v->u=v:=fun n=>by
  induction n with
  | zero=>intro x u v hx;simp at hx
  | succ n ih=>
    intro x u v hx hu hv
    cases hgx:gv x with
    | some g=>exact giv x u v g hgx hu hv
    | none=>
      rcases h1.j x u hu with a | ⟨_,k,r,k1,e1,e2,e3,e4,e5⟩
      ·rw[hgx] at a;cases a
      ·rcases h2.j x v hv with b | ⟨_,k',r',k2,f1,f2,f3,f4,f5⟩
       ·rw[hgx] at b;cases b
       ·rw[e2] at f2;cases f2
        obtain⟨i,hi,hxi⟩:=Ft hx
        have hki:i=k:=(List.getElem?_inj (List.getElem?_eq_some_iff.mp hxi).1 h1.o.1).mp (hxi.trans e1.symm)
        refine lW (fun y a b ha hb=> ?_) r u v e3 f3
        rcases e5 y (by rw[ha];simp) with g | g
        ·cases hgy:gv y with
         | none=>exact absurd hgy g
         | some c=>exact giv y a b c hgy (e4 y a ha) (f4 y b hb)
        ·exact ih y a b (Fv (by omega) y g) (e4 y a ha) (f4 y b hb)
 intro x a b ha hb
 rcases h1.n x (by rw[ha];simp) with g | g
 ·cases hgx:gv x with
  | none=>exact absurd hgx g
  | some c=>exact giv x a b c hgx ha hb
 ·exact key s.2.2.length x a b (by rw[List.take_length];exact g) ha hb
theorem FT {gv:Kn}{rc:Rn}{ws ws':List Str}{a b:Kn×List Str} (h1:jg gv rc ws (kn0,[]) a) (h2:jg gv rc ws' (kn0,[]) b):KAg a.1 b.1:=(JuA.runs h1 JuA.zero).agree (JuA.runs h2 JuA.zero)
theorem HX {k1 k2:Kn}{x z:Str}{v:Int} (e1:look k1 x= .inl z) (e2:look k2 x= .inr v):k2 z≠none:=by
 unfold look at e1 e2
 cases z1:k1 x with
 | some a=>rw[z1] at e1;cases e1
 | none=>
   rw[z1] at e1;cases e1
   cases z2:k2 x with
   | none=>rw[z2] at e2;cases e2
   | some b=>simp
theorem pq {k1 k2:Kn} (h:KAg k1 k2):∀(r:R) (z:Str) (v:Int),ev k1 r= .inl z->ev k2 r= .inr v->k2 z≠none
 | .num n,z,v,e1,e2=>by cases e1
 | .rd x,z,v,e1,e2=>HX (x:=x) e1 e2
 | .bin op a b,z,v,e1,e2=>by
   simp only[ev] at e1 e2
   cases a2:ev k2 a with
   | inl x=>rw[a2] at e2;cases e2
   | inr u2=>
     rw[a2] at e2
     cases a1:ev k1 a with
     | inl x=>rw[a1] at e1;cases e1;exact pq h a z u2 a1 a2
     | inr u1=>
       rw[a1] at e1
       cases b2:ev k2 b with
       | inl x=>rw[b2] at e2;cases e2
       | inr w2=>
         cases b1:ev k1 b with
         | inl x=>rw[b1] at e1;cases e1;exact pq h b z w2 b1 b2
         | inr w1=>rw[b1] at e1;cases e1
 | .pick a b c,z,v,e1,e2=>by
   simp only[ev] at e1 e2
   cases a2:ev k2 a with
   | inl x=>rw[a2] at e2;cases e2
   | inr u2=>
     rw[a2] at e2
     cases a1:ev k1 a with
     | inl x=>rw[a1] at e1;cases e1;exact pq h a z u2 a1 a2
     | inr u1=>
       rw[a1] at e1
       have:=lW h a u1 u2 a1 a2
       subst this
       by_cases hu:u1>0
       ·simp only[if_pos hu] at e1 e2
        exact pq h b z v e1 e2
       ·simp only[if_neg hu] at e1 e2
        exact pq h c z v e1 e2
 | .cho a ns,z,v,e1,e2=>by
   simp only[ev] at e1 e2
   cases a2:ev k2 a with
   | inl x=>rw[a2] at e2;cases e2
   | inr u2=>
     rw[a2] at e2
     cases a1:ev k1 a with
     | inl x=>rw[a1] at e1;cases e1;exact pq h a z u2 a1 a2
     | inr u1=>
       rw[a1] at e1
       have:=lW h a u1 u2 a1 a2
       subst this
       cases ep:pU ns u1 with
       | none=>simp only[ep] at e1 e2;cases e1
       | some x=>
         simp only[ep] at e1 e2
         exact HX e1 e2
theorem JuA.top {gv:Kn}{rc:Rn}{p q:List Str}{a:Kn×List Str} (h:JuA gv rc (p,a)):JuA gv rc (q,a):=⟨h.j,h.n,h.o⟩
theorem JuA.go {gv:Kn}{rc:Rn}{G:Ms} (hG:JuA gv rc G):∀(k:Nat) (x:Str),(gv x≠none\/x∈G.2.2.take k)->∀(p:List Str) (kn:Kn) (od:List Str),JuA gv rc (x::p,kn,od)->(∀z∈p,gv z=none/\z∉G.2.2.take k)->
 ∃kn' od',jN gv rc (x::p,kn,od) (p,kn',od')/\Kn.Le kn kn'/\kn' x≠none:=fun k=>by
 induction k using Nat.strongRecOn with
 | ind k ih=>
   intro x hx p
   have put:∀(kn:Kn) (od:List Str) (v:Int) (od':List Str),kn x=none->kE gv rc (x::p,kn,od)=none->mv gv rc (x::p,kn,od)=some (x::p,kn.put x v,od')->∃kn' od',jN gv rc (x::p,kn,od) (p,kn',od')/\Kn.Le kn kn'/\kn' x≠none:=fun kn od v od' hk he hmv=>by
    have hkx:(kn.put x v) x=some v:=by unfold Kn.put;rw[if_pos rfl]
    exact⟨kn.put x v,od',((jN.refl _).snoc he hmv).snoc (BR hkx) (Ff (by rw[hkx];simp)),Kn.qK hk,by rw[hkx];simp⟩
   have old:∀(kn:Kn) (od:List Str) (v:Int),kn x=some v->∃kn' od',jN gv rc (x::p,kn,od) (p,kn',od')/\Kn.Le kn kn'/\kn' x≠none:=fun kn od v hk=>
    ⟨kn,od,(jN.refl _).snoc (BR hk) (Ff (by rw[hk];simp)),Kn.Le.refl _,by rw[hk];simp⟩
   cases hg:gv x with
   | some v=>
     intro kn od hJ hp
     cases hk:kn x with
     | some u=>exact old kn od u hk
     | none=>exact put kn od v od hk (BV hg) (M5 hk hg)
   | none=>
     have hx:x∈G.2.2.take k:=hx.resolve_left (fun w=>w hg)
     obtain⟨j,hj,hxj⟩:=Ft hx
     obtain⟨u,hu⟩:∃u,G.2.1 x=some u:=by
      cases e:G.2.1 x with
      | none=>exact absurd e (hG.o.2 x (List.mem_of_mem_take hx))
      | some u=>exact⟨u,rfl⟩
     rcases hG.j x u hu with a | ⟨_,k',r,k1,e1,e2,e3,e4,e5⟩
     ·rw[hg] at a;cases a
     ·have hkj:j=k':=(List.getElem?_inj (List.getElem?_eq_some_iff.mp hxj).1 hG.o.1).mp (hxj.trans e1.symm)
      subst hkj
      have hxn:x∉G.2.2.take j:=Ji hG.o.1 hxj (Nat.le_refl _)
      have inner:∀(m:Nat) (kn:Kn) (od:List Str),Fj kn r.nms<=m->JuA gv rc (x::p,kn,od)->(∀z∈p,gv z=none/\z∉G.2.2.take k)->∃kn' od',jN gv rc (x::p,kn,od) (p,kn',od')/\Kn.Le kn kn'/\kn' x≠none:=fun m=>by
       induction m using Nat.strongRecOn with
       | ind m ihm=>
         intro kn od hm hJ hp
         cases hk:kn x with
         | some v=>exact old kn od v hk
         | none=>
           cases he:ev kn r with
           | inr v=>exact put kn od v (od++[x]) hk (Jl hg e2 he) (Fg hg hk e2 he)
           | inl z=>
             have ag:KAg kn k1:=fun y a b ha hb=>hJ.agree hG y a b ha (e4 y b hb)
             have hz:=e5 z (pq ag r z u he e3)
             have hzx:z≠x:=fun w=>by
              rw[w] at hz
              rcases hz with c | c
              ·exact c hg
              ·exact hxn c
             have hzp:z∉x::p:=fun w=>by
              rcases List.mem_cons.mp w with w | w
              ·exact hzx w
              ·obtain⟨p1,p2⟩:=hp z w
               rcases hz with c | c
               ·exact c p1
               ·exact p2 (Fv (by omega) z c)
             obtain⟨kn1,od1,m1,le1,hz1⟩:=ih j hj z hz (x::p) kn od hJ.top (fun y hy=>by
              rcases List.mem_cons.mp hy with w | w
              ·rw[w];exact⟨hg,hxn⟩
              ·exact⟨(hp y w).1,fun c=>(hp y w).2 (Fv (by omega) y c)⟩)
             have hzm:z∈r.nms:=zV r.uo he
             have hul:=Tp hzm le1 (nj he) hz1
             have hJ1:JuA gv rc (x::p,kn1,od1):=JuA.mvs m1.mvs hJ.top
             obtain⟨kn2,od2,m2,le2,hx2⟩:=ihm (m - 1) (by omega) kn1 od1 (by omega) hJ1 hp
             exact⟨kn2,od2,(((jN.refl _).snoc (Fy hg e2 he hzp) (DN hg hk e2 he)).trans m1).trans m2,le1.trans le2,hx2⟩
      exact fun kn od=>inner _ kn od (Nat.le_refl _)
def FW (gv:Kn) (rc:Rn) (x:Str):Prop:=∃(b:Kn×List Str) (v:Int),jg gv rc [x] (kn0,[]) b/\b.1 x=some v
theorem FW.one {gv:Kn}{rc:Rn}{x:Str} (h:FW gv rc x) {a:Kn×List Str} (ha:JuA gv rc ([],a)):∃c,jN gv rc ([x],a) ([],c)/\c.1 x≠none:=by
 obtain⟨b,v,hr,hv⟩:=h
 have hG:=JuA.runs hr JuA.zero
 obtain⟨kn',od',m,_,hx⟩:=hG.go b.2.length x (by
  rcases hG.n x (by show b.1 x≠none;rw[hv];simp) with c | c
  ·exact .inl c
  ·exact .inr (by show x∈b.2.take _;rw[List.take_length];exact c)) [] a.1 a.2 ha.top (fun z hz=>by cases hz)
 exact⟨(kn',od'),m,hx⟩
theorem K7 {gv:Kn}{rc:Rn}{ws:List Str}{e:Er} (h:∀x∈ws,FW gv rc x) (he:Fz gv rc ws (kn0,[]) e):False:=by
 obtain⟨i,x,b,t,hi,hr,hm,he⟩:=he
 obtain⟨c,m,_⟩:=(h x (List.mem_of_getElem? hi)).one (JuA.runs hr JuA.zero)
 have:=hm.errs he m (.inr rfl)
 rw[this] at he
 cases he
theorem Jo {gv:Kn}{rc:Rn}{x:Str}{e:Er} (he:Fz gv rc [x] (kn0,[]) e):¬FW gv rc x:=fun h=>K7 (fun y hy=>by rw[show y=x by simpa using hy];exact h) he
theorem QJ {gv:Kn}{rc:Rn}{ws:List Str}{b:Kn×List Str} (h:jg gv rc ws (kn0,[]) b) {x:Str} (hx:b.1 x≠none):FW gv rc x:=by
 have hG:=JuA.runs h JuA.zero
 obtain⟨kn',od',m,_,hk⟩:=hG.go b.2.length x (by
  rcases hG.n x hx with c | c
  ·exact .inl c
  ·exact .inr (by show x∈b.2.take _;rw[List.take_length];exact c)) [] kn0 [] JuA.zero.top (fun z hz=>by cases hz)
 cases e:kn' x with
 | none=>exact absurd e hk
 | some v=>exact⟨(kn',od'),v,⟨_,m,rfl⟩,e⟩
section
variable {gv:Kn}{rc:Rn}{kn1 kn2:Kn}{rm1 rm2:Rm}
theorem QK (ag:KAg kn1 kn2) (s1:StG gv rc kn1 rm1) (s2:StG gv rc kn2 rm2) {x:Str}{q1 q2:R×List Rdp×Int} (e1:rm1 x=some q1) (e2:rm2 x=some q2):q1=q2:=by
 obtain⟨r,ps,u⟩:=q1
 obtain⟨r',qs,v⟩:=q2
 obtain⟨a1,_,_,t1,w1⟩:=s1.b _ _ _ _ e1
 obtain⟨a2,_,_,t2,w2⟩:=s2.b _ _ _ _ e2
 rw[a1] at a2;cases a2
 obtain⟨h1,h2⟩:=O3 t1.c t2.c t1.e t2.e fun p hp q hq e=>by
  have h1:=w1.s p hp
  have h2:=w2.s q hq
  rw[<-e] at h2
  exact ag _ _ _ h1 h2
 rw[h1,h2]
theorem Wk (ag:KAg kn1 kn2) (s2:StG gv rc kn2 rm2) {x:Str} (hx:kn2 x≠none) {y:Str} (h:Rch gv rc kn1 x y):kn2 y≠none:=by
 induction h with
 | refl=>exact hx
 | @step y z r _ hg hr hs ih=>
   obtain⟨qs,cq,eq,rq⟩:=hs
   cases ey:kn2 y with
   | none=>exact absurd ey ih
   | some v=>
     rcases s2.a _ _ ey with g2 | ⟨g2,r',ps,hr',m2⟩
     ·rw[hg] at g2;cases g2
     ·rw[hr] at hr';cases hr'
      obtain⟨_,_,_,t2,u2⟩:=s2.b _ _ _ _ m2
      have cT:Chn r kn0 (qs++[(z,0)]):=cq.app ⟨eq,trivial⟩
      have key:∀j p,j<qs.length->(qs++[(z,0)])[j]? =some p->kn2 p.1=some p.2:=fun j=>by
       induction j using Nat.strongRecOn with
       | ind j ihj=>
         intro p hj hp
         obtain⟨u,hu⟩:=again j cT t2.c t2.e u2.s (fun i p' hi hp'=>ihj i hi p' (by omega) hp') p hp
         have hm:p∈qs:=by
          rw[List.getElem?_append_left hj] at hp
          exact List.mem_of_getElem? hp
         rw[hu,ag _ _ _ (rq.s p hm) hu]
      obtain⟨u,hu⟩:=again qs.length cT t2.c t2.e u2.s key (z,0) (by simp)
      rw[hu];simp
end
open PySem.Builtin.Int (intBits)
theorem aaV {kn:Kn}{m:Nat} (h41:41<=m) (hm:m<=60000000) (hk:∀x v,kn x=some v->intBits v<=m) {r:R} (h:r.Top) (hd:r.depth<=6):r.Fn kn:=by
 rcases h with h | ⟨x,s,rfl,hs⟩
 ·exact vX r h
 ·simp only[R.depth] at hd
  exact⟨trivial,vX s hs,fun _ u v eu ev'=> .big (IntMulOk.of_le (xT hk (x:=x) eu) (pW h41 hk s 6 v hs (by omega) ev') (by omega))⟩
theorem BdI.runs {gv:Kn}{rc:Rn} (hg:∀x v,gv x=some v->intBits v<=41) (hr:∀x r,rc x=some r->r.Top/\r.depth<=6):∀{ws:List Str}{a b:Kn×List Str},jg gv rc ws a b->BdI rc ([],a)->BdI rc ([],b)
 |[],a,b,h,i=>by cases h;exact i
 | x::ws,a,b,⟨c,m,h⟩,i=>by
   have i1:BdI rc ([x],a):=⟨i.nd,i.kn,i.rc,i.b⟩
   exact BdI.runs hg hr h (m.mvs.inv (I:=BdI rc) (fun s t hs e=>hs.step hg hr e) i1)
theorem Wl {NS cs:List Str}{gv:Kn}{rc:Rn}{ws:List Str} (hin:∀x r,rc x=some r->r.In NS) (hok:∀y∈NS,Tn y) (hw:∀x∈ws,x∈NS) (hcs:∀x,rc x≠none->x∈cs) (hl:cs.length<=20) (hg:∀x v,gv x=some v->intBits v<=41) (hr:∀x r,rc x=some r->r.Top/\r.depth<=6):uX gv rc ws (kn0,[]):=fun i x b t hi hru hm=>by
 have i0:BdI rc ([],kn0,[]):=
  {nd:=List.nodup_nil,kn:=(fun x h=>by cases h),rc:=(fun x h=>by cases h),b:=(fun x v h=>by
    have h:(none:Option Int)=some v:=h
    cases h)}
 have i1:=BdI.runs hg hr hru i0
 have i2:BdI rc ([x],b):=⟨i1.nd,i1.kn,i1.rc,i1.b⟩
 have i3:=hm.mvs.inv (I:=BdI rc) (fun s t hs e=>hs.step hg hr e) i2
 have hn:∀y∈t.1,y∈NS:=hm.mvs.inv (I:=fun s=>∀y∈s.1,y∈NS) (fun _ _ h e=>Tq hin h e) (fun y hy=>by
  have:y=x:=by simpa using hy
  rw[this];exact hw x (List.mem_of_getElem? hi))
 have hlen:t.2.2.length<=20:=Nat.le_trans (jA i3.nd (fun y hy=>hcs y (i3.rc y hy))) hl
 have hb:=Nat.le_trans (O9 hlen) adG
 obtain⟨p,kn,od⟩:=t
 intro y hy hk hg'
 refine⟨fun r hr'=>aaV (O8 od.length) hb i3.b (hr y r hr').1 (hr y r hr').2,fun _=>hok y (hn y ?_)⟩
 cases p with
 | nil=>cases hy
 | cons z p=>cases hy;simp
end RB
namespace RB
open PySem L2 PySem.Spec PyProof.Rows
section
variable {prog:Program}{w:World}{A:Around}{E:Value->Shared->Prop}{s:Shared}
end
section
variable {prog:Program}{w:World}{A:Around}{R:Result->Shared->Prop}{I:Addr}{fp wr:List Addr}{G:Array GenState->Array GenState->Prop}{n:Nat}{P:Nat->Value->Prop}{St:Nat->Shared->Prop}
end
section
variable {prog:Program}{w:World}{A:Around}{E:Value->Shared->Prop}{s:Shared}
end
namespace SI
end SI
section
variable {prog:Program}{w:World}{A:Around}{E:Value->Shared->Prop}{s:Shared}
end
namespace SI
end SI
section
variable {prog:Program}{w:World}{A:Around}{E:Value->Shared->Prop}{s:Shared}
end
section
variable {prog:Program}{w:World}{A:Around}{E:Value->Shared->Prop}{s:Shared}
end
section
variable {prog:Program}{w:World}{A:Around}{E:Value->Shared->Prop}{s:Shared}
end
end RB
namespace TS
open PySem PyProof.Rows
section
variable {prog:Program}{w:World}{A:Around}{E:Value->Shared->Prop}{s:Shared}
end
section
variable {κ:PyProof.Rows.KeyKind}
end
section
variable {prog:Program}{w:World}{A:Around}{E:Value->Shared->Prop}{s:Shared}{κ:PyProof.Rows.KeyKind}
end
section
variable {prog:Program}{w:World}{A:Around}{E:Value->Shared->Prop}{s:Shared}{κ:PyProof.Rows.KeyKind}
end
section
variable {prog:Program}{w:World}{A:Around}{E:Value->Shared->Prop}{s:Shared}{κ:PyProof.Rows.KeyKind}{a b r:Array Keyed}{i j:Nat}{st st':SortSt}
end
section
variable {prog:Program}{w:World}{A:Around}{E:Value->Shared->Prop}{s:Shared}{κ:PyProof.Rows.KeyKind}{a b r:Array Keyed}{i j:Nat}{st st':SortSt}
end
section
variable {prog:Program}{w:World}{A:Around}{E:Value->Shared->Prop}{s:Shared}{κ:PyProof.Rows.KeyKind}{a b r:Array Keyed}{i j:Nat}{st st':SortSt}
end
section
variable {κ:PyProof.Rows.KeyKind}
end
section
variable {κ:PyProof.Rows.KeyKind}{a b r:Array Keyed}{i j:Nat}
end
section
variable {prog:Program}{w:World}{A:Around}{E:Value->Shared->Prop}{s:Shared}{κ:PyProof.Rows.KeyKind}{a b r:Array Keyed}{i j:Nat}{st st':SortSt}
end
section
variable {prog:Program}{w:World}{A:Around}{E:Value->Shared->Prop}{s:Shared}{κ:PyProof.Rows.KeyKind}{a b r:Array Keyed}{i j:Nat}{st st':SortSt}
end
section
variable {prog:Program}{w:World}{A:Around}{E:Value->Shared->Prop}{s:Shared}{κ:PyProof.Rows.KeyKind}{st:SortSt}
end
section
variable {prog:Program}{w:World}{A:Around}{E:Value->Shared->Prop}{s:Shared}{κ:PyProof.Rows.KeyKind}{st:SortSt}
end
section
variable {prog:Program}{w:World}{A:Around}{E:Value->Shared->Prop}{s:Shared}{κ:PyProof.Rows.KeyKind}{a₀:Array Keyed}{p₀:Array (Nat×Nat×Nat)}{b:Nat}{st:SortSt}
end
section
variable {prog:Program}{w:World}{A:Around}{E:Value->Shared->Prop}{s:Shared}{κ:PyProof.Rows.KeyKind}{a₀:Array Keyed}{p₀:Array (Nat×Nat×Nat)}{b:Nat}{st:SortSt}
end
section
variable {prog:Program}{w:World}{A:Around}{E:Value->Shared->Prop}{s:Shared}{κ:PyProof.Rows.KeyKind}{a₀:Array Keyed}{st:SortSt}{Rs:List (List Keyed)}{S:List Keyed}
end
section
variable {prog:Program}{w:World}{A:Around}{E:Value->Shared->Prop}{s:Shared}{κ:PyProof.Rows.KeyKind}{a₀:Array Keyed}{st:SortSt}{Rs:List (List Keyed)}{S:List Keyed}
end
section
variable {prog:Program}{w:World}{A:Around}{E:Value->Shared->Prop}{s:Shared}{κ:PyProof.Rows.KeyKind}{a₀:Array Keyed}{st:SortSt}{Rs:List (List Keyed)}{S:List Keyed}
end
section
variable {prog:Program}{w:World}{A:Around}{E:Value->Shared->Prop}{s:Shared}{κ:PyProof.Rows.KeyKind}
end
end TS
namespace RB
open PySem L2 PySem.Spec PyProof.Rows
namespace SI
end SI
section
variable {prog:Program}{w:World}{A:Around}{E:Value->Shared->Prop}{s:Shared}
end
end RB
namespace L2
open PySem PySem.Spec PyProof.Rows RB
section
variable {X:Cx}{pins:List (Addr×Obj)}{σ:List (Option V)}{H:Hp}{s:Shared}
end
end L2
namespace L2
open PySem PySem.Spec PyProof.Rows
namespace SI
end SI
end L2
namespace RB
open PySem L2 PySem.Spec PyProof.Rows
namespace SI
end SI
section
variable {prog:Program}{w:World}{A:Around}{E:Value->Shared->Prop}{s:Shared}
end
end RB
namespace L2
open PySem PySem.Spec PyProof.Rows RB
section
variable {X:Cx}{tg:Expr}
end
end L2
namespace RB
open PySem L2 PySem.Spec PyProof.Rows
end RB
namespace L2
open PySem PySem.Spec PyProof.Rows
section
variable {P:Program}{w:World}{A:Around}{E:Value->Shared->Prop}{s:Shared}
end
section
variable {P:Program}{w:World}{A:Around}{E:Value->Shared->Prop}{s:Shared}{u:Value}
end
section
variable {P:Program}{w:World}{A:Around}{E:Value->Shared->Prop}{s:Shared}{d it:Addr}{es:Array DictEntry}{ep i:Nat}
end
section
variable {P:Program}{w:World}{A:Around}{E:Value->Shared->Prop}{s:Shared}{d it:Addr}{es:Array DictEntry}{ep i:Nat}
end
section
variable {X:Cx}{tg:Expr}
end
section
variable {X:Cx}{pins:List (Addr×Obj)}{σ:St}{H:Hp}{s:Shared}{a:Addr}{kvs:List (Key×V)}{last:Option (V×V)}{y:Str}{u:Value}{A:Around}{E:Value->Shared->Prop}
end
section
variable {X:Cx}{o i:Expr}{pos:Pos}{td ty:TE}
end
section
variable {X:Cx}
end
end L2
namespace L2
open PySem PySem.Spec PyProof.Rows RB
end L2
namespace RB
open PySem L2 PySem.Spec PyProof.Rows
section
variable {ns:List Str}{gv:Kn}{rc:Rn}{kn1 kn2:Kn}{rm1 rm2:Rm}
end
end RB
namespace L2
open PySem PySem.Spec PyProof.Rows RB
end L2
namespace RB
open PySem L2 PySem.Spec PyProof.Rows
section
variable {K:PySem.W.Frag}{H:Hp}{kg kc kg' kc':List (Key×V)}{gs cs gs' cs':List Str}{gv gv':Kn}{rc rc':Rn}
end
end RB
namespace L2
open PySem PySem.Spec PyProof.Rows
end L2
namespace RB
open PySem L2 PySem.Spec PyProof.Rows
structure Frs (gv:Kn) (rc:Rn) (ws:List Str) (H H':Hp) (t kd sd l:Addr) (kw ks:List (Key×V)) (sn:List Str) (kn:Kn) (rm:Rm):Prop where
 s:aN H H'
 et:H' t=some (.tup [.ref kd, .ref sd, .ref l])
 fk:H kd=none
 fs:H sd=none
 fl:H l=none
 ne:kd≠sd
 ek:H' kd=some (.dK kw)
 wn:∃wn,j9 kw wn/\wn.length<=60
 kv:∀x,dX kw (.inr x)=(kn x).map V.int
 es:H' sd=some (.dK ks)
 kk:j9 ks sn
 rr:RecM H H' ks rm
 el:H' l=some (.lst (sn.map V.str))
 b:SM gv rc (fun _=>none) ws kn rm (fun x=>(rm x).isSome) sn
 r:jg gv rc ws (kn0,[]) (kn,sn)
theorem Wm:∀y∈Gy,Tn y:=fun y hy=>by
 have h:=Ng y hy
 exact⟨by have:=h.2.1;omega,fun c hc=>by have:=h.2.2 c hc;unfold Ht at this;omega⟩
theorem Ho4.safe {gs cs:List Str}{gv:Kn}{rc:Rn}{H:Hp}{h g c:Addr} (k:Ho4 gs cs gv rc) (ho:oH H h g c gs cs gv rc) {ws:List Str} (hw:∀x∈ws,x∈Gy):uX gv rc ws (kn0,[]):=by
 obtain⟨kg,kc,_,_,_,b⟩:=ho
 exact Wl (NS:=Gy) (cs:=cs) (fun x r e=>(k.o x r e).i) Wm hw (fun x hx=>b.cm hx) (by have:=k.l;omega) k.b (fun x r e=>⟨(k.o x r e).t,by have:=(k.o x r e).d;omega⟩)
theorem Ho4.good {gs cs:List Str}{gv:Kn}{rc:Rn}{H:Hp}{h g c:Addr} (k:Ho4 gs cs gv rc) (ho:oH H h g c gs cs gv rc) {kn:Kn}{rm:Rm} (s:StG gv rc kn rm):(∀y,kn y≠none->y∈d8)/\RmG rm:=by
 obtain⟨kg,kc,_,_,_,b⟩:=ho
 have h1:∀y,kn y≠none->y∈d8:=fun y hy=>by
  rcases List.mem_append.mp (s.Sy b hy) with z | z
  ·exact List.mem_of_mem_take (k.gk y z)
  ·exact List.mem_of_mem_take (k.ck y z)
 exact⟨h1,s.rmG (fun x r e=>⟨(k.o x r e).g,by have:=(k.o x r e).d;omega⟩) fun y hy=>BW y (h1 y hy)⟩
section
variable {gv:Kn}{rc:Rn}{ws us:List Str}{H H' G G':Hp}{t kd sd l t2 kd2 sd2 l2:Addr}{kw ks kw2 ks2:List (Key×V)}{sn sn2:List Str}{kn kn2:Kn}{rm rm2:Rm}
theorem Frs.tol (f:Frs gv rc ws H H' t kd sd l kw ks sn kn rm) {x:Str} (hx:kn x≠none):FW gv rc x:=QJ f.r hx
theorem Frs.od (f:Frs gv rc ws H H' t kd sd l kw ks sn kn rm) {x:Str} (hx:x∈sn):kn x≠none:=by
 have:=(f.b.om x).mp hx
 cases e:rm x with
 | none=>exact absurd e this
 | some q=>
   obtain⟨r,ps,v⟩:=q
   rw[(f.b.ok.b _ _ _ _ e).2.2.1];simp
theorem Frs.wnm (f:Frs gv rc ws H H' t kd sd l kw ks sn kn rm) {wn:List Str} (k:j9 kw wn) {x:Str}:x∈wn ↔ kn x≠none:=SQ k f.kv x
end
theorem FZ {kn:Kn}{ps:List Rdp} (h:∀p∈ps,kn p.1=some p.2):Kn.Le (kn0.puts ps) kn:=fun y v e=>by
 rcases rZ e with z | z
 ·exact h _ z
 ·cases z
theorem KAg.of_le {a b c:Kn} (h1:Kn.Le a c) (h2:Kn.Le b c):KAg a b:=fun x u v hu hv=>by
 have h:=h1 x u hu
 rw[h2 x v hv] at h
 exact(Option.some.inj h).symm
section
variable {gv:Kn}{rc:Rn}{ws:List Str}{H H':Hp}{t kd sd l:Addr}{kw ks:List (Key×V)}{sn:List Str}{kn:Kn}{rm:Rm}
theorem Frs.ahead (f:Frs gv rc ws H H' t kd sd l kw ks sn kn rm) {k:Nat}{x:Str} (hx:sn[k]? =some x) {r:R}{ps:List Rdp}{v:Int} (hr:rm x=some (r,ps,v)) {p:Rdp} (hp:p∈ps):gv p.1≠none\/p.1∈sn.take k:=by
 have J:=JuA.runs f.r JuA.zero
 obtain⟨h1,h2,h3,h4,h5⟩:=f.b.ok.b _ _ _ _ hr
 rcases J.j x v h3 with a | ⟨_,k',r',k1,e1,e2,e3,e4,e5⟩
 ·rw[h2] at a;cases a
 ·rw[h1] at e2;cases e2
  have:k=k':=(List.getElem?_inj (List.getElem?_eq_some_iff.mp hx).1 f.b.nd).mp (hx.trans e1.symm)
  subst this
  obtain⟨a,b,e,ca,ea⟩:=HN h4.c hp
  refine e5 p.1 (pq (KAg.of_le (FZ fun q hq=>h5.s q (by rw[e];simp[hq])) e4) r p.1 v ea e3)
theorem Frs.aaW (f:Frs gv rc ws H H' t kd sd l kw ks sn kn rm) {y:Str} (hy:kn y≠none):y∈ws\/∃x∈sn,∃r ps v,rm x=some (r,ps,v)/\∃p∈ps,p.1=y:=by
 obtain⟨x,hx,h⟩:=f.b.r y hy
 cases h with
 | refl=>exact .inl hx
 | @step z _ r h hg hr hs=>
   have hz:kn z≠none:=Wk (fun _ _ _ a b=>by rw[a] at b;exact Option.some.inj b) f.b.ok (f.b.w x hx) h
   cases e:kn z with
   | none=>exact absurd e hz
   | some v=>
     rcases f.b.ok.a _ _ e with g | ⟨_,r',ps,hr',m⟩
     ·rw[hg] at g;cases g
     ·rw[hr] at hr';cases hr'
      obtain⟨_,_,_,h4,h5⟩:=f.b.ok.b _ _ _ _ m
      obtain⟨qs,cq,eq,rq⟩:=hs
      have:=pq (KAg.of_le (FZ rq.s) (FZ h5.s)) r y v eq h4.e
      refine .inr ⟨z,(f.b.om z).mpr (by rw[m];simp),r,ps,v,m, ?_⟩
      cases e2:kn0.puts ps y with
      | none=>exact absurd e2 this
      | some u=>
        rcases rZ e2 with w | w
        ·exact⟨_,w,rfl⟩
        ·cases w
theorem Frs.recAt (f:Frs gv rc ws H H' t kd sd l kw ks sn kn rm) {x:Str} (hx:x∈sn):∃r ps v,rm x=some (r,ps,v)/\rc x=some r/\gv x=none/\kn x=some v/\Rows kn ps:=by
 cases e:rm x with
 | none=>exact absurd e ((f.b.om x).mp hx)
 | some q=>
   obtain⟨r,ps,v⟩:=q
   obtain⟨h1,h2,h3,_,h5⟩:=f.b.ok.b _ _ _ _ e
   exact⟨r,ps,v,rfl,h1,h2,h3,h5⟩
theorem FW.known {x:Str} (h:FW gv rc x) {b:Kn×List Str} (hr:jg gv rc [x] (kn0,[]) b):b.1 x≠none:=by
 obtain⟨b',v,h1,h2⟩:=h
 have:=Runs.det h1.runs hr.runs
 subst this
 rw[h2];simp
theorem Frs.wt (f:Frs gv rc ws H H' t kd sd l kw ks sn kn rm) {x:Str}{v u:Int} (hx:kn x=some v) {b:Kn×List Str} (hr:jg gv rc [x] (kn0,[]) b) (hu:b.1 x=some u):u=v:=(FT f.r hr x v u hx hu).symm
theorem Frs.rt (f:Frs gv rc ws H H' t kd sd l kw ks sn kn rm) {x:Str}{r:R}{ps qs:List Rdp}{v:Int} (hx:rm x=some (r,ps,v)) {kn2:Kn}{rm2:Rm}{od:List Str} (s2:StG gv rc kn2 rm2) (hr:jg gv rc [x] (kn0,[]) (kn2,od)) (hq:(∃r' v',rm2 x=some (r',qs,v'))\/(rm2 x=none/\qs=[])):qs=ps:=by
 obtain⟨h1,h2,h3,_,_⟩:=f.b.ok.b _ _ _ _ hx
 have hk:=(f.tol (x:=x) (by rw[h3];simp)).known hr
 rcases hq with⟨r',v',e⟩ | ⟨e,_⟩
 ·have:=QK (FT f.r hr) f.b.ok s2 hx e
  cases this;rfl
 ·cases e2:kn2 x with
  | none=>exact absurd e2 hk
  | some u=>
    rcases s2.a _ _ e2 with g | ⟨_,r',ps',_,m⟩
    ·rw[h2] at g;cases g
    ·rw[e] at m;cases m
end
def TrD (H:Hp) (d:Addr) (ns:List Str):Prop:=∃kt,H d=some (.dK kt)/\j9 kt ns/\∀x,x∈ns->dX kt (.inr x)=some (.bl true)
theorem TrD.same {H H':Hp}{d:Addr}{ns:List Str} (h:TrD H d ns) (s:aN H H'):TrD H' d ns:=let ⟨kt,e,k⟩:=h;⟨kt,s _ _ e,k⟩
theorem TrD.but {S:List Addr}{H H':Hp}{d:Addr}{ns:List Str} (h:TrD H d ns) (b:But S H H') (hd:d∉S):TrD H' d ns:=let ⟨kt,e,k⟩:=h;⟨kt,b _ _ hd e,k⟩
theorem TrD.nil {H:Hp}{d:Addr} (e:H d=some (.dK [])):TrD H d []:=⟨[],e,⟨rfl,by simp⟩,by simp⟩
theorem TrD.put {H:Hp}{d:Addr}{ns:List Str} (h:TrD H d ns) (hl:ns.length<=100) (x:Str):∃H' ns',lD H d (.str x) (.bl true) H'/\But [d] H H'/\jX H H'/\TrD H' d ns'/\(∀y,y∈ns' ↔ y∈ns\/y=x)/\(x∉ns->ns'=ns++[x]):=by
 obtain⟨kt,e,k,v⟩:=h
 have dp:lD H d (.str x) (.bl true) (upd H d (.dK (putK kt (.inr x) (.bl true)))):=lD.k (k:= .inr x) e (bY (by rw[k.len];omega))
 have vv:∀y,y∈ns\/y=x->dX (putK kt (.inr x) (.bl true)) (.inr y)=some (.bl true):=fun y hy=>by
  rw[jw]
  by_cases z:y=x
  ·rw[if_pos (by rw[z])]
  ·rw[if_neg (lV z)];exact v y (hy.resolve_right z)
 by_cases hx:x∈ns
 ·refine⟨_,ns,dp,But.set _ (by simp),ug e,⟨_,ak,k.Bx hx _,fun y hy=>vv y (.inl hy)⟩,fun y=>⟨.inl,fun h=>h.elim id fun z=>by rw[z];exact hx⟩,fun h=>absurd hx h⟩
 ·refine⟨_,ns++[x],dp,But.set _ (by simp),ug e,⟨_,ak,k.uf hx _,fun y hy=>vv y (by simpa using hy)⟩,fun y=>by simp,fun _=>rfl⟩
theorem TrD.get {H:Hp}{d:Addr}{ns:List Str} (h:TrD H d ns) (x:Str):(x∈ns/\cL H d (.str x) (some (.bl true)))\/(x∉ns/\cL H d (.str x) none):=by
 obtain⟨kt,e,k,v⟩:=h
 have g:=cL.k (k:= .inr x) e
 by_cases hx:x∈ns
 ·rw[v x hx] at g;exact .inl ⟨hx,g⟩
 ·rw[k.none.mpr hx] at g;exact .inr ⟨hx,g⟩
theorem TY {r:R} (h:r.Good) (hd:r.depth<=8):SeqAt.shaped r.dat=true:=by
 have h3:=r.mV
 show(PyData.canLay0 r.dat&&decide (r.dat.depth<=64))=true
 rw[decide_eq_true (by omega),Bool.and_true]
 exact r.lay h
def Prs (H:Hp) (as:List Addr):Prop:=∀b∈as,∃(i:Int) (j:Nat),j<18/\H b=some (.tup [.int i, .int (j:Int)])
theorem Prs.tups {H H':Hp}{as:List Addr} (h:Prs H as) (t:jX H H'):Prs H' as:=fun b hb=>let ⟨i,j,hj,e⟩:=h b hb;⟨i,j,hj,t _ _ e⟩
theorem aaX {H:Hp}{d:Addr}{xs:List V}{o:HO} (e:H d=some (.lst xs)):jX H (upd H d o):=fun y xs z=>(ao (fun w=>by rw[w,e] at z;cases z)).trans z
theorem TrD.len {H:Hp}{d:Addr}{ns ms:List Str} (h:TrD H d ns) (hs:∀x∈ns,x∈ms):ns.length<=ms.length:=let ⟨_,_,k,_⟩:=h;jA k.nd hs
end RB
namespace L2
open PySem PySem.Spec PyProof.Rows RB
theorem Jp {X:Cx}:Kg (CXd X.prog X.w) X (fun _ _ _ _=>False):=fun pins σ H s e s' I h=>by
 obtain⟨a,cls,d,H',_,_,z⟩:=h
 exact z.elim
def agR (t:TS):TS:=fun D σ H=>∃N:St->Hp->Prop,(∀σ' H',N σ' H'->D.nx σ' H')/\t {D with nx:=N} σ H
theorem BX {X:Cx}{st:Stmt}{t:TS} (h:QS X st t):QS X st (agR t):=⟨by
 intro pins s σ H D I ⟨N,hN,q⟩
 refine thn (h.h pins s σ H _ I q) fun f s' q=> ?_
 cases f with
 | next=>obtain⟨σ',H',J,q⟩:=q;exact⟨σ',H',J,hN σ' H' q⟩
 | brk=>exact q
 | cont=>exact q
 | ret u=>exact q⟩
end L2
namespace SP
open PySem PySem.W PySem.Calls PyProof.Rows
def AllP {α:Type} (n:Nat) (P:α->Prop):KasT α->Prop
 | .ret a=>P a
 | .ask i j k=>i<n/\j<n/\∀b,AllP n P (k b)
theorem AllP.bind {α β:Type}{n:Nat}{P:α->Prop}{R:β->Prop}{f:α->KasT β} (hf:∀a,P a->AllP n R (f a)):∀{t:KasT α},AllP n P t->AllP n R (t.bind f)
 | .ret a,h=>hf a h
 | .ask i j k,h=>⟨h.1,h.2.1,fun b=>AllP.bind hf (t:=k b) (h.2.2 b)⟩
theorem AllP.wp {α:Type}{n:Nat}{P:α->Prop}{cmp:Nat->Nat->(Bool->Shared->Prop)->Shared->Prop}{G:α->Shared->Prop}{s:Shared} (hc:∀i j,i<n->j<n->∃b,∀C:Bool->Shared->Prop,C b s->cmp i j C s) (hG:∀a,P a->G a s):∀{t:KasT α},AllP n P t->t.kasWp cmp G s
 | .ret a,h=>hG a h
 | .ask i j k,h=>by
   obtain⟨b,hb⟩:=hc i j h.1 h.2.1
   exact hb _ (AllP.wp hc hG (t:=k b) (h.2.2 b))
def Pm (n:Nat) (p:Array Nat):Prop:=p.toList.Perm (List.range n)
theorem Pm.at {n:Nat}{p:Array Nat} (h:Pm n p) (hn:0<n) (k:Nat):p.getD k 0<n:=by
 by_cases hk:k<p.size
 ·have:p.getD k 0∈p.toList:=by
   rw[show p.getD k 0=p[k] by simp[Array.getD,hk]]
   exact Array.getElem_mem_toList hk
  exact List.mem_range.mp (h.mem_iff.mp this)
 ·rw[show p.getD k 0=0 by simp[Array.getD,hk]];exact hn
theorem Pm.perm {n:Nat}{p p':Array Nat} (h:Pm n p) (e:p'.Perm p):Pm n p':=(Array.perm_iff_toList_perm.mp e).trans h
theorem Pm.rev {n:Nat}{p:Array Nat} (h:Pm n p) (i j:Nat):Pm n (kas_rev p i j):=h.perm (mirror_perm _ _ _ _)
section
variable {n:Nat} (hn:0<n)
include hn
theorem Jq {p:Array Nat} (h:Pm n p):∀f k,AllP n (fun _=>True) (kas_asc p f k)
 | 0,k=>trivial
 | f+1,k=>⟨h.at hn _,h.at hn _,fun b=>by
   cases b with
   | true=>exact trivial
   | false=>exact Jq h f (k+1)⟩
theorem Ab:∀(f:Nat) (p:Array Nat) (k q:Nat),Pm n p->AllP n (fun r:Array Nat×Nat×Nat=>Pm n r.1) (kas_desc f p k q)
 | 0,p,k,q,h=>h
 | f+1,p,k,q,h=>⟨h.at hn _,h.at hn _,fun b=>by
   cases b with
   | true=>
     show AllP n _ (if q>0 then _ else _)
     split
     ·exact Ab f _ _ _ (h.rev _ _)
     ·exact Ab f _ _ _ h
   | false=>
     refine⟨h.at hn _,h.at hn _,fun d=> ?_⟩
     cases d with
     | true=>exact h
     | false=>exact Ab f _ _ _ h⟩
theorem K8 (k m:Nat) {p:Array Nat} (h:Pm n p):AllP n (fun r:Nat×Array Nat=>Pm n r.2) (kas_tail3 k m p):=by
 unfold kas_tail3
 refine AllP.bind (P:=fun _=>True) (fun _ _=> ?_) (Jq hn (h.rev 0 k) _ _)
 exact h.rev 0 k
theorem HY (k m:Nat) {p:Array Nat} (h:Pm n p):AllP n (fun r:Nat×Array Nat=>Pm n r.2) (kas_descPart k m p):=by
 unfold kas_descPart
 refine AllP.bind (P:=fun r:Array Nat×Nat×Nat=>Pm n r.1) (fun r hr=> ?_) (Ab hn _ _ _ _ h)
 split
 ·exact K8 hn _ _ (hr.rev _ _)
 ·exact K8 hn _ _ hr
theorem QL (m:Nat) {p:Array Nat} (h:Pm n p):AllP n (fun r:Nat×Array Nat=>Pm n r.2) (kas_count m p):=by
 unfold kas_count
 refine AllP.bind (P:=fun _=>True) (fun k _=> ?_) (Jq hn h _ _)
 split
 ·exact h
 ·split
  ·refine⟨h.at hn _,h.at hn _,fun c=> ?_⟩
   cases c with
   | true=>exact h
   | false=>exact HY hn _ _ (h.rev _ _)
  ·exact HY hn _ _ h
theorem BZ {p:Array Nat} (h:Pm n p) (k:Nat):∀f l r,AllP n (fun _=>True) (kas_place p k f l r)
 | 0,l,r=>trivial
 | f+1,l,r=>by
   unfold kas_place
   split
   ·exact trivial
   ·refine⟨h.at hn _,h.at hn _,fun c=> ?_⟩
    cases c with
    | true=>exact BZ h k f _ _
    | false=>exact BZ h k f _ _
theorem Pb:∀(f:Nat) (p:Array Nat) (k:Nat),Pm n p->AllP n (Pm n) (kas_bin f p k)
 | 0,p,k,h=>h
 | f+1,p,k,h=>by
   unfold kas_bin
   exact AllP.bind (P:=fun _=>True) (fun l _=>Pb f _ _ (h.perm (bubble_perm _ _ _))) (BZ hn h k k 0 k)
theorem T3:AllP n (Pm n) (kas_sort n):=by
 unfold kas_sort
 refine AllP.bind (P:=fun r:Nat×Array Nat=>Pm n r.2) (fun r hr=> ?_) (QL hn n (show Pm n (List.toArray (List.range n)) from List.Perm.refl _))
 split
 ·exact Pb hn _ _ _ hr
 ·exact hr
end
section
variable {prog:Program}{w:World}{A:Around}{E:Value->Shared->Prop}{s:Shared}
theorem Wn {x y:Addr}{i j i' j':Int}{t u t' u':Tok} (hx:IsTup s.heap x #[.int i t, .int j u]) (hy:IsTup s.heap y #[.int i' t', .int j' u']):
 ∃b,∀C:Bool->Shared->Prop,C b s->wpAny (model prog w) A (keyLt' (tuples' true) (.ref x) (.ref y)) C (fun _ _=>False) s:=by
 obtain⟨ox,ex,_,n,dx⟩:=hx
 obtain⟨oy,ey,_,m,dy⟩:=hy
 refine⟨if i==i' then(if j==j' then false else decide (j<j')) else decide (i<i'),fun C h=>kat_lt ex dx ey dy ?_⟩
 refine kat_cons (SeqAt.EqAt.int_int i t i' t' prog w _ _ (kat_go (fun e=> ?_) fun e=> ?_))
 ·rw[e] at h
  refine kat_yes (kat_cons (SeqAt.EqAt.int_int j u j' u' prog w _ _ (kat_go (fun e2=> ?_) fun e2=> ?_)))
  ·rw[e2] at h
   exact kat_yes h
  ·rw[e2] at h
   exact kat_no (kat_one _ _ (lt_int h))
 ·rw[e] at h
  exact kat_no (oneLt_int h)
theorem Nh {a:Addr}{vs:List Value}{n:Nat}{P:PySem.Fin->Shared->Prop} (ho:s.heap.get? a=some (seqObj "list" vs.toArray n)) (h2:2<=vs.length) (h64:vs.length<64)
 (hv:∀v∈vs,∃x i j t u,v= .ref x/\x≠a/\IsTup s.heap x #[.int i t, .int j u])
 (q:∀p:List Nat,p.Perm (List.range vs.length)->P (.done (.ret .none)) {s with heap:=sortedHeap s.heap a vs (List.toArray (p.map fun k=>vs.getD k .none))}):
 wpAny (model prog w) A (Builtin.«list.sort» ⟨[.ref a],[]⟩) P E s:=by
 have hz:vs.toArray.size<=sizeLine:=by rw[List.size_toArray,sizeLine_eq];omega
 have ha:=Heap.lt_size ho
 rw[list_sort_plain]
 obtain⟨e1,ho1⟩:∃e1,(s.heap.update a (Obj.mapSeq fun _=> #[])).get? a=some (seqObj "list" #[] e1):=⟨_,get?_update_seq ho _⟩
 refine wpAny_bind (listItems_at ho rfl (wpAny_bind (listUpdate_at ho rfl (wpAny_bind (seqEpoch_at ho1 rfl (wpAny_bind (wpAny_newTuple (wpAny_bind (wpAny_newList (wpAny_holding ?_))))))) hz (Nat.zero_le _))))
 have ho6:(((s.heap.update a (Obj.mapSeq fun _=> #[])).push (seqObj "tuple" vs.toArray 0)).push (seqObj "list" #[] 0)).get? a=some (seqObj "list" #[] e1):=
  Heap.get?_push_of_some _ (Heap.get?_push_of_some _ ho1)
 have kp:∀x its,x≠a->IsTup s.heap x its->IsTup (((s.heap.update a (Obj.mapSeq fun _=> #[])).push (seqObj "tuple" vs.toArray 0)).push (seqObj "list" #[] 0)) x its:=fun x its hx ⟨o,e,r⟩=>
  ⟨o,Heap.get?_push_of_some _ (Heap.get?_push_of_some _ ((Heap.get?_update_ne _ _ _ _ hx).trans e)),r⟩
 have fin:∀out,(((s.heap.update a (Obj.mapSeq fun _=> #[])).push (seqObj "tuple" vs.toArray 0)).push (seqObj "list" #[] 0)).update a (Obj.mapSeq fun _=>out)=sortedHeap s.heap a vs out:=fun _=>rfl
 show wpAny _ A _ P E {s with heap:=((s.heap.update a (Obj.mapSeq fun _=> #[])).push (seqObj "tuple" vs.toArray 0)).push (seqObj "list" #[] 0)}
 generalize ((s.heap.update a (Obj.mapSeq fun _=> #[])).push (seqObj "tuple" vs.toArray 0)).push (seqObj "list" #[] 0)=g at *
 have hv6:∀v∈vs,∃x i j t u,v= .ref x/\IsTup g x #[.int i t, .int j u]:=fun v m=>by
  obtain⟨x,i,j,t,u,e,hx,r⟩:=hv v m
  exact⟨x,i,j,t,u,e,kp x _ hx r⟩
 dsimp only
 have hn2:¬vs.toArray.size<2:=by rw[List.size_toArray];omega
 rw[if_neg hn2,if_neg hn2]
 obtain⟨fs,tf,hf⟩:∃fs,KatTups g vs fs/\(fs.length=vs.length/\∀v∈fs,∃i t,v=Value.int i t):=by
  clear h2 h64 hv q ho ho1 ho6 hz hn2 kp fin
  induction vs with
  | nil=>exact⟨[], .nil,rfl,by simp⟩
  | cons v vs ih=>
    obtain⟨x,i,j,t,u,rfl,o,e,c,n,d⟩:=hv6 v (by simp)
    obtain⟨fs,tf,hl,hf⟩:=ih fun v m=>hv6 v (by simp[m])
    refine⟨.int i t::fs, .cons e c d rfl tf,by simp[hl],fun v m=> ?_⟩
    rcases List.mem_cons.mp m with rfl | m
    ·exact⟨i,t,rfl⟩
    ·exact hf v m
 refine wpAny_bind (kat_kind (T:= .type "int") tf (by omega) (fun v m=> ?_) (by decide) ?_)
 ·obtain⟨i,t,rfl⟩:=hf.2 v m
  exact .now
 have cmp:∀i j,i<vs.length->j<vs.length->∃b,∀C:Bool->Shared->Prop,C b {s with heap:=g}->kas_ask prog w A (tuples' true) vs i j C {s with heap:=g}:=fun i j hi hj=>by
  obtain⟨x,i1,j1,t,u,e1,r1⟩:=hv6 vs[i] (List.getElem_mem hi)
  obtain⟨y,i2,j2,t2,u2,e2,r2⟩:=hv6 vs[j] (List.getElem_mem hj)
  obtain⟨b,hb⟩:=Wn (prog:=prog) (w:=w) (A:=A) (s:={s with heap:=g}) r1 r2
  refine⟨b,fun C hC=> ?_⟩
  unfold kas_ask
  rw[show vs.getD i Value.none= .ref x by rw[<-e1];simp[hi],show vs.getD j Value.none= .ref y by rw[<-e2];simp[hj]]
  exact hb C hC
 have run:=AllP.wp (G:=fun(p:Array Nat) s'=>Pm vs.length p/\s'={s with heap:=g}) cmp (fun p hp=>⟨hp,rfl⟩) (T3 (show 0<vs.length by omega))
 refine wpAny_bind (wpAny_mono (kat_run (Q:=fun st' s'=>∃p:Array Nat,arrOf st'=p.map (kas_item (vs.toArray.zip vs.toArray))/\failedOf st'=none/\Pm vs.length p/\s'={s with heap:=g}) rfl h2 h64 (fun p st' s' _ a2 a3 a4=>⟨p,a2,a3,a4⟩) run) ?_ fun _ _ e=>e)
 rintro⟨⟨⟩,st'⟩ s' ⟨p,har,hfl,hp,rfl⟩
 dsimp only
 rw[kat_snds rfl har]
 have hpl:p.toList.length=vs.length:=by rw[hp.length_eq,List.length_range]
 refine wpAny_bind (seqEpoch_at ho6 rfl (wpAny_bind (listUpdate_at ho6 rfl ?_ (Nat.zero_le _) (by rw[List.size_toArray,List.length_map,hpl,sizeLine_eq];omega))))
 rw[hfl]
 simp only[bne_self_eq_false,Bool.false_eq_true,if_false]
 refine wpAny_pure ?_
 rw[fin]
 exact q p.toList hp
end
end SP
namespace L2
open PySem PySem.Spec PyProof.Rows RB
theorem Ga:∀as:List Addr,(List.range as.length).filterMap (as[·]?)=as
 |[]=>rfl
 | a::as=>by
   rw[List.length_cons,List.range_succ_eq_map,List.filterMap_cons,List.filterMap_map]
   show a::(List.range as.length).filterMap (fun k=>(a::as)[k+1]?)=a::as
   rw[show(fun k=>(a::as)[k+1]?)=(as[·]?) from rfl,Ga as]
theorem Jr {X:Cx}:pM X (.builtin "sorted") (fun xs H Q=>∃(a:Addr) (as:List Addr),xs=[.ref a]/\SqL X.K H a (as.map V.ref)/\2<=as.length/\as.length<64/\(∀b∈as,∃i j,H b=some (.tup [.int i, .int j]))/\∀(p:Addr) (bs:List Addr),H p=none->bs.Perm as->Q (.ref p) (upd H p (.lst (bs.map V.ref)))):=by
 intro pins s σ H xs us Q I r h
 obtain⟨a,as,rfl,ha,h2,h64,hp,q⟩:=h
 obtain⟨u,rfl,rx⟩:=vals1 r
 cases rx
 obtain⟨its,rv,pl,hz⟩:=I.list ha
 have hli:its.length=as.length:=by have:=rv.length;rw[List.length_map] at this;exact this.symm
 have agS:its.length<=sizeLine:=by rw[hli,sizeLine_eq];omega
 have hk:∀b o,s.heap.get? b=some o->(((s.heap.push (seqObj "list" #[] 0)).update s.heap.objs.size (Obj.mapSeq (· ++its.toArray))).push (seqObj "list" its.toArray 0)).get? b=some o:=fun b o z=>by
  refine Heap.get?_push_of_some _ ?_
  rw[Heap.get?_update_ne _ _ _ _ (Nat.ne_of_lt (Heap.lt_size z))]
  exact Heap.get?_push_of_some _ z
 have hsz:((s.heap.push (seqObj "list" #[] 0)).update s.heap.objs.size (Obj.mapSeq (· ++its.toArray))).objs.size=s.heap.objs.size+1:=by rw[Heap.size_update,Heap.size_push]
 refine Calls.call_function_entry kind_sorted plain_sorted entry_sorted (args_sorted1 _) ?_
 unfold Builtin.«sorted»
 refine wpAny_bind (m:=checkCount "sorted" 1 1 _) (wpAny_pure (wpAny_bind (collect_list pl.isList (wpAny_bind (wpAny_newList ?_)) agS)))
 have hoL:(((s.heap.push (seqObj "list" #[] 0)).update s.heap.objs.size (Obj.mapSeq (· ++its.toArray))).push (seqObj "list" its.toArray 0)).get? (s.heap.objs.size+1)=some (seqObj "list" its.toArray 0):=by rw[<-hsz];exact Heap.get?_push_size _ rfl
 show wpAny _ _ _ _ _ {s with heap:=((s.heap.push (seqObj "list" #[] 0)).update s.heap.objs.size (Obj.mapSeq (· ++its.toArray))).push (seqObj "list" its.toArray 0)}
 rw[hsz]
 refine wpAny_bind (wpAny_holding (wpAny_call_entry slot_list_sort ⟨_,hoL,rfl⟩ entry_list_sort (SP.Nh hoL (by omega) (by omega) (fun v m=> ?_) fun p hpm=>⟨_,rfl,wpAny_pure ⟨_,rfl, ?_⟩⟩) (args_list_sort _)))
 ·obtain⟨k,hk',e⟩:=List.getElem_of_mem m
  obtain⟨b,hb⟩:∃b,as[k]? =some b:=⟨_,List.getElem?_eq_getElem (by omega)⟩
  obtain⟨u,hu,ru⟩:=rv.get (i:=k) (x:= .ref b) (by rw[List.getElem?_map,hb];rfl)
  have:u=v:=by rw[List.getElem?_eq_getElem hk',e] at hu;exact(Option.some.inj hu).symm
  subst this
  cases ru
  obtain⟨i,j,hbt⟩:=hp b (List.mem_of_getElem? hb)
  obtain⟨ts,rt,tt,_⟩:=I.tuple (SqT.of hbt)
  obtain⟨v1,v2,rfl,r1,r2⟩:=vals2 rt
  obtain⟨t1,rfl⟩:=r1
  obtain⟨t2,rfl⟩:=r2
  obtain⟨o,eo,ro⟩:=tt
  exact⟨b,i,j,t1,t2,rfl,Nat.ne_of_lt (Nat.lt_succ_of_lt (Heap.lt_size eo)),o,hk _ _ eo,ro⟩
 ·obtain⟨e,he⟩:=sortedHeap_at (out:=List.toArray (p.map fun k=>its.getD k .none)) hoL
  have hmem:∀k∈p,k<as.length:=fun k m=>by
   have:=List.mem_range.mp (hpm.mem_iff.mp m)
   omega
  have e1:p.map (fun k=>its.getD k .none)=p.filterMap (its[·]?):=by
   clear hpm he
   induction p with
   | nil=>rfl
   | cons k p ih=>
     have hk:=hmem k (by simp)
     have:its[k]? =some its[k]:=List.getElem?_eq_getElem (by omega)
     rw[List.map_cons,List.filterMap_cons,this,ih fun j m=>hmem j (by simp[m])]
     simp[hli,hk]
  have e2:p.filterMap ((as.map V.ref)[·]?)=(p.filterMap (as[·]?)).map V.ref:=by
   clear hpm he e1 hmem
   induction p with
   | nil=>rfl
   | cons k p ih=>
     rw[List.filterMap_cons,List.filterMap_cons,List.getElem?_map]
     cases as[k]? with
     | none=>exact ih
     | some b=>rw[Option.map_some,ih];rfl
  have pm:(p.filterMap (as[·]?)).Perm as:=by
   have h1:=hpm.filterMap (as[·]?)
   rw[hli] at h1
   refine h1.trans ?_
   rw[Ga]
  have vp:=BL rv p
  rw[e2,<-e1] at vp
  refine⟨.ref (s.heap.objs.size+1),_,I.laid (t':=s.toks) (o:= .lst ((p.filterMap (as[·]?)).map V.ref)) (fun b o z=> ?_) (Nat.le_succ _) ⟨?_,_,e,vp,he⟩,rfl,q _ _ (I.hok.fresh (Nat.le_succ _)) pm⟩
  ·rw[sortedHeap_old (Nat.ne_of_lt (Nat.lt_succ_of_lt (Heap.lt_size z))) (Heap.lt_size (hk _ _ z))]
   exact hk _ _ z
  ·rw[List.length_map,pm.length_eq,sizeLine_eq];omega
theorem Ni {X:Cx}:pQ X (.builtin "sorted") (fun xs H Q=>∃(a:Addr) (as:List Addr),xs=[.ref a]/\SqL X.K H a (as.map V.ref)/\2<=as.length/\as.length<64/\(∀b∈as,∃i j,H b=some (.tup [.int i, .int j]))/\∀(p:Addr) (bs:List Addr),H p=none->bs.Perm as->Q (.ref p) (upd H p (.lst (bs.map V.ref)))):=⟨Jr⟩
end L2
namespace L2
open PySem PySem.Spec PyProof.Rows
theorem QM {K:PySem.W.Frag}{a:Addr}{xs:List V}{g:TG}{tc:TT}{te:TE}{σ:St}{H:Hp}{D:Addr}{Q:VK} (Pv:Nat->St->Hp->Prop) (h0:Pv 0 σ (upd H D (.lst []))) (hl:∀i σ H,i<=xs.length->Pv i σ H->SqL K H a xs)
 (hs:∀i x T σ' H',xs[i]? =some x->H' T=none->Pv i σ' H'->g (.ref T) σ' (upd H' T (.tup [.int (i:Int),x])) fun σ3 H3=>tc σ3 H3 fun b H4=>
   if b=true then te σ3 H4 fun y H5=>∃ys,H5 D=some (.lst ys)/\ys.length<sizeLine/\Pv (i+1) σ3 (upd H5 D (.lst (ys++[y]))) else Pv (i+1) σ3 H4) (hd:∀σ' H',Pv xs.length σ' H'->Q (.ref D) H'):
 Eh (Ite K a) g tc te D σ (upd H D (.lst [])) Q:=by
 refine⟨fun i m σ H=>m=xs.length - i/\i<=xs.length/\Pv i σ H,⟨xs.length,by simp,Nat.zero_le _,h0⟩, ?_⟩
 rintro i m σ H ⟨rfl,hi,p⟩
 have q:=hl i σ H hi p
 by_cases hlt:i<xs.length
 ·refine .inr ⟨⟨xs,xs[i],q,List.getElem?_eq_getElem hlt⟩,Pv (i+1),fun σ' H' z=>⟨_,by omega,rfl,hlt,z⟩, ?_⟩
  rintro x H' ⟨T,u,rfl,hT,rfl,e1⟩
  exact hs i u T σ H (e1 xs q) hT p
 ·have e:i=xs.length:=by omega
  subst e
  exact .inl ⟨⟨xs,q,rfl⟩,hd σ H p⟩
end L2
set_option maxHeartbeats 4000000
namespace K17
open PySem L2 PySem.Spec PyProof.Rows RB
local macro_rules | `(tactic| walk_at "ne") => `(tactic| first | assumption | exact Ne.symm (by assumption) | exact aF (by assumption) (by assumption) | exact Ne.symm (aF (by assumption) (by assumption)))
local macro_rules | `(tactic| walk_at "heap") => `(tactic| first | assumption | exact ak | (refine (ao (by walk_at "ne")).trans ?_; walk_at "heap"))
local macro_rules | `(tactic| walk_at "side") => `(tactic| first | with_reducible rfl | rfl | assumption | exact SqL.of (by walk_at "heap") | exact SqT.of (by walk_at "heap") | exact Or.inl (SqL.of (by walk_at "heap")) | exact Or.inr (SqT.of (by walk_at "heap")) | exact qI.str _ | exact qI.int _ | exact qI.bl _ | exact qI.tup (by walk_at "heap") | exact Or.inl ⟨rfl, _, SqL.of (by walk_at "heap")⟩ | exact Or.inl ⟨_, SqL.of (by walk_at "heap"), rfl⟩ | exact adK _ | exact Or.inl (by assumption) | exact Or.inr (by assumption) | walk_at "heap" | omega | (show _ ≤ sizeLine; decide) | (show _ < sizeLine; decide) | exact Or.inr ⟨by decide, by decide⟩ | exact Or.inl ⟨by decide, by decide⟩ | exact Or.inl ⟨by omega, by omega⟩ | exact Or.inr ⟨by omega, by omega⟩ | exact qp.inr ⟨by decide, by decide⟩ | exact qp.inl ⟨by decide, by decide⟩ | exact qp.inl ⟨by omega, by omega⟩ | exact qp.inr ⟨by omega, by omega⟩ | exact ⟨by omega, by decide⟩ | exact ⟨by omega, by assumption⟩ | exact ⟨by decide, by decide, by decide⟩ | exact ⟨_, SqT.of (by walk_at "heap")⟩ | exact ⟨_, SqL.of (by walk_at "heap")⟩ | (intro z; exact absurd (show (1 : Nat) = 0 from z.1) (by decide)) | (show Nat.log2 _ < 9000; decide +kernel) | ((rw [sizeLine_eq]); (try simp only [len_app]); omega) | exact Nat.le_of_lt (bY (by (simp only [List.length_cons, List.length_nil]); omega)) | decide +kernel)
local macro_rules | `(tactic| walk_at "v") => `(tactic| first
 | ((apply Exists.intro); (repeat apply Exists.intro); (refine And.intro ?_ ?_); walk_at "side")
 | ((refine And.intro ?_ ?_); walk_at "side"))
local macro_rules | `(tactic| walk_at "vs") => `(tactic| repeat walk_at "v")
def top (i:Nat):Stmt:=PySem.Challenge.pw_madeagain_k17_whole_records_are_true.main.body.getD i (.Pass ⟨0,0,0,0⟩)
def vY (i j:Nat):Stmt:=match top i with
 | .ClassDef _ _ _ b _ _ _ _ _ _ _=>b.getD j (.Pass ⟨0,0,0,0⟩)
 | _=> .Pass ⟨0,0,0,0⟩
section
local macro_rules | `(tactic| walk_at "side") => `(tactic| first | exact IW _ _ _ | exact Eu _ _ _ | exact Ew _ _ _ | exact X7 _ _ _ | exact zU _ _ _ | exact Nat.le_of_ble_eq_true rfl)
variable {P:Program}{w:World}{K:PySem.W.Frag}{mg:Str->Option Value}{base:Heap}{C:Addr}
abbrev jO:Stmt:=top 6
theorem QV:bI ["kind","r","s"] ["kind","r","s"] (aa jO):=⟨rfl,rfl,rfl,by decide +kernel,rfl,by decide +kernel,by decide +kernel⟩
theorem pX:aG (aa jO) "kind":=by decide +kernel
theorem qC:aG (aa jO) "r":=by decide +kernel
theorem qD:aG (aa jO) "s":=by decide +kernel
theorem Gz:(aa jO).names.lookup ("max":Str)=some NameKind.globalImplicit:=by decide +kernel
theorem GC:("max":Str)≠"__name__":=by decide +kernel
theorem GD:(("max":Str)==("__debug__":Str))=false:=by decide +kernel
theorem QX {f:Addr}{fd:FuncData} (nY:FnT K mg "joined" jO ["kind","r","s"] f fd) (T:Blt mg):aX P w K mg base CX0 1 f fd ["kind","r","s"] Oo:=by
 refine nY.F.okQ QV (fun vs H Q E h=> ?_) (fun cdv A outer s H vs Q E hr h=> ?_)
 ·obtain⟨op,u,v,rfl,_⟩:=h
  rfl
 obtain⟨op,u,v,rfl,hm,q⟩:=h
 refine⟨_,(aq (eY (cQ gH (aj 0 pX) aY (bB _)) (aB (bR (bz iI (aj 1 qC) (aj 2 qD)))) dz)
  (aq (eY (cQ gH (aj 0 pX) aY (bB _)) (aB (bR (bz jW (aj 1 qC) (aj 2 qD)))) dz)
  (aq (eY (cQ gH (aj 0 pX) aY (bB _)) (aB (bR (bz lC (aj 1 qC) (aj 2 qD)))) dz)
  (aB (bR (cN (VF rfl) Gz T.adn aag (aQ (aj 1 qC) (aQ (aj 2 qD) au)) GC GD)))))), ?_⟩
 cases op with
 | plus=>walk_at "vs";exact q
 | minus=>walk_at "vs";exact q
 | times=>
   have hm:=hm rfl
   walk_at "vs";exact q
 | most=>walk_at "vs";exact q
abbrev bZ:Stmt:=vY 7 0
theorem vd:bI ["self","r"] ["self","r"] (aa bZ):=⟨rfl,rfl,rfl,by decide +kernel,rfl,by decide +kernel,by decide +kernel⟩
theorem gY:aG (aa bZ) "self":=by decide +kernel
theorem sy:aG (aa bZ) "r":=by decide +kernel
theorem vf {f:Addr}{fd:FuncData} (eG:fX K C "__init__" "Reckoning.__init__" bZ ["self","r"] f fd) (rc:RkC K C):aX P w K mg base CX0 1 f fd ["self","r"] (Kh C):=by
 refine eG.F.okQ vd (fun vs H Q E h=> ?_) (fun cdv A outer s H vs Q E hr h=> ?_)
 ·obtain⟨a,dx,b,r,rfl,_⟩:=h
  rfl
 obtain⟨a,dx,b,r,rfl,e,hR,hw,q⟩:=h
 have lF:=rc.cl
 have nT:=rc.nT
 have nF:=rc.nF
 have nR:=rc.nR
 refine⟨_,(aq (j8 (aj 0 gY) (gR (aQ (aj 1 sy) au)))
  (aq (j8 (aj 0 gY) (gR au))
  (aB (j8 (aj 0 gY) jx)))), ?_⟩
 walk_at "vs"
 intro a1 h1
 have e1:upd H a1 (.lst [V.ref b]) a=some (.ins C dx []):=(ao (aF e h1)).trans e
 walk_at "vs"
 intro a2 h2
 obtain⟨n2a,h2⟩:=gF h2
 obtain⟨n21,h2⟩:=gF h2
 have e2:upd (upd (upd H a1 (.lst [V.ref b])) a (.ins C dx (aP "todo" (.ref a1) []))) a2 (.lst []) a=some (.ins C dx (aP "todo" (.ref a1) [])):=(ao (Ne.symm n2a)).trans ak
 walk_at "vs"
 intro a3 h3
 obtain⟨n3a,h3⟩:=gF h3
 obtain⟨n32,h3⟩:=gF h3
 obtain⟨_,h3⟩:=gF h3
 obtain⟨n31,h3⟩:=gF h3
 have e3:upd (upd (upd (upd (upd H a1 (.lst [V.ref b])) a (.ins C dx (aP "todo" (.ref a1) []))) a2 (.lst [])) a (.ins C dx (aP "found" (.ref a2) (aP "todo" (.ref a1) [])))) a3 (.dK []) a=some (.ins C dx (aP "found" (.ref a2) (aP "todo" (.ref a1) []))):=(ao (Ne.symm n3a)).trans ak
 walk_at "vs"
 have n1a:a1≠a:=fun z=>by rw[z,e] at h1;cases h1
 refine q a1 a2 a3 _ (fun p o hp z=> ?_) h1 h2 h3 ⟨ak,⟨[.ref b], ?_, .cons (.r ?_) .nil⟩, ?_, ?_,Ne.symm n21, ?_⟩
 ·have hp:p≠a:=by simpa using hp
  rw[ao hp,ao (aF z h3),ao hp,ao (aF z h2),ao hp,ao (aF z h1)];exact z
 ·rw[ao n1a,ao (Ne.symm n31),ao n1a,ao (Ne.symm n21),ao n1a];exact ak
 ·refine hR.tups fun p xs z=> ?_
  have hp:p≠a:=fun y=>by rw[y,e] at z;cases z
  rw[ao hp,ao (aF z h3),ao hp,ao (aF z h2),ao hp,ao (aF z h1)];exact z
 ·rw[ao n2a,ao (Ne.symm n32),ao n2a];exact ak
 ·rw[ao n3a];exact ak
 ·show 0+0+2 *(wR r+0)<=10000;omega
abbrev aJ:Stmt:=vY 7 2
theorem gZ:bI ["self","step","kind","names","s","r"] ["self","step"] (aa aJ):=⟨rfl,rfl,rfl,by decide +kernel,rfl,by decide +kernel,by decide +kernel⟩
theorem sG:Loc (aa aJ) "kind":=by decide +kernel
theorem aL:aG (aa aJ) "step":=by decide +kernel
theorem cA:aG (aa aJ) "kind":=by decide +kernel
theorem aR:aG (aa aJ) "self":=by decide +kernel
theorem qL:Loc (aa aJ) "names":=by decide +kernel
theorem kI:aG (aa aJ) "names":=by decide +kernel
theorem uw:(aa aJ).names.lookup ("len":Str)=some NameKind.globalImplicit:=by decide +kernel
theorem ux:("len":Str)≠"__name__":=by decide +kernel
theorem uy:(("len":Str)==("__debug__":Str))=false:=by decide +kernel
theorem vZ:Loc (aa aJ) "s":=by decide +kernel
theorem v5:Loc (aa aJ) "r":=by decide +kernel
theorem qt:(aa aJ).names.lookup ("joined":Str)=some NameKind.globalImplicit:=by decide +kernel
theorem v7:aG (aa aJ) "s":=by decide +kernel
theorem v8:aG (aa aJ) "r":=by decide +kernel
theorem qu:(("joined":Str)==("__debug__":Str))=false:=by decide +kernel
theorem yQ {f g:Addr}{fd gd:FuncData} (eZ:fX K C "go_on" "Reckoning.go_on" aJ ["self","step"] f fd) (nY:FnT K mg "joined" jO ["kind","r","s"] g gd) (T4:aX P w K mg base CX0 1 g gd ["kind","r","s"] Oo)
 (T:Blt mg) (rc:RkC K C):aX P w K mg base CX0 2 f fd ["self","step"] (adB C):=by
 refine eZ.F.okQ gZ (fun vs H Q E h=> ?_) (fun cdv A outer s H vs Q E hr h=> ?_)
 ·obtain⟨a,dx,a1,a2,a3,v,s,t,f,d,kn,c,rfl,_⟩:=h
  rfl
 obtain⟨a,dx,a1,a2,a3,v,st,t,fo,d,kn,c,rfl,rca,hst,hno,h1,hw,q⟩:=h
 have lF:=rc.cl
 have nT:=rc.nT
 have nF:=rc.nF
 have nR:=rc.nR
 have n13:=rca.n13
 have n23:=rca.n23
 obtain⟨e,⟨ws,e1,hws⟩,e2,e3,ne,hw0⟩:=id rca
 have e2:H a2=some (.lst (fo.map V.int)):=e2
 have e3:H a3=some (.dK (rdK d)):=e3
 refine⟨_,(aq (bV (i:=2) gZ.nd rfl sG (cM cF (aj 1 aL) aA))
  (aB (eY (cQ gH (aj 2 cA) aY (bB _)) (aB (iz (vO PySem.F.plainAttrs_list PySem.F.slot_list_append PySem.F.type_list_append lE (bA (aj 0 aR)) (mR (cM cF (aj 1 aL) aA) au)))) (aB (eY (cQ gH (aj 2 cA) aY (bB _)) (aB (iz (vO PySem.F.plainAttrs_list PySem.F.slot_list_extend PySem.F.type_list_extend yF (bA (aj 0 aR)) (RW (gR (Mx (jn (fP aY (mR (cM cF (aj 1 aL) aA) (mR (cM cF (aj 1 aL) aA) au)))) (mR (cM cF (aj 1 aL) aA) au))) au)))) (aB (eY (cQ gH (aj 2 cA) aY (bB _)) (aB (iz (vO PySem.F.plainAttrs_list PySem.F.slot_list_extend PySem.F.type_list_extend yF (bA (aj 0 aR)) (RW (gR (Mx (jn (fP aY (mR (cM cF (aj 1 aL) aA) au))) (mR (cM cF (aj 1 aL) aA) au))) au)))) (aB (eY (cQ gH (aj 2 cA) aY (bB _)) (aB (iz (vO PySem.F.plainAttrs_list PySem.F.slot_list_append PySem.F.type_list_append lE (bA (aj 0 aR)) (agM (J7 (cQ aan (Br PySem.F.plainAttrs_list PySem.F.slot_list_pop PySem.F.type_list_pop xH (bA (aj 0 aR))) aA (bB _)) (cM cF (aj 1 aL) aA) (cM cF (aj 1 aL) aA)) au)))) (aB (eY (cQ gH (aj 2 cA) aY (bB _)) (aq (bV (i:=3) gZ.nd rfl qL (cM cF (aj 1 aL) aA))
  (aB (iz (vO PySem.F.plainAttrs_list PySem.F.slot_list_append PySem.F.type_list_append lE (bA (aj 0 aR)) (Mx (jn (fP aY (mR (cM cF (aj 3 kI) (bz iJ (Br PySem.F.plainAttrs_list PySem.F.slot_list_pop PySem.F.type_list_pop xH (bA (aj 0 aR))) (cN gU uw T.uW oG (aQ (aj 3 kI) au) ux uy))) au))) au))))) (aB (eY (cQ gH (aj 2 cA) aY (bB _)) (aq (bV (i:=4) gZ.nd rfl vZ (Br PySem.F.plainAttrs_list PySem.F.slot_list_pop PySem.F.type_list_pop xH (bA (aj 0 aR))))
  (aq (bV (i:=5) gZ.nd rfl v5 (Br PySem.F.plainAttrs_list PySem.F.slot_list_pop PySem.F.type_list_pop xH (bA (aj 0 aR))))
  (aB (iz (vO PySem.F.plainAttrs_list PySem.F.slot_list_append PySem.F.type_list_append lE (bA (aj 0 aR)) (vQ (bM (T4.mono (by omega)) hr qt nY.m nY.F.kp nY.b .nil cz (mR (cM cF (aj 1 aL) aA) (aQ (aj 5 v8) (aQ (aj 4 v7) au))) qu) au)))))) (aB (iz (vO PySem.F.plainAttrs_list PySem.F.slot_list_extend PySem.F.type_list_extend yF (bA (aj 0 aR)) (RW (gR (Mx (jn (fP aY (aQ (aj 2 cA) au))) (mR (cM cF (aj 1 aL) aA) (mR (cM cF (aj 1 aL) aA) au)))) au))))))))))))))))), ?_⟩
 have hi:=h1.inv _ _ rfl
 have hlw:ws.length=t.length:=hws.length
 have hlt:=MN t
 have hw1:d.length+fo.length+2 * wT t<=10000:=hw0
 cases hst with
 | @r b r hr'=>
   cases hr' with
   | @num _ n eb=>
     have hi:c=⟨t,fo++[n],d⟩:=hi
     have hz:(fo.map V.int).length<sizeLine:=by rw[List.length_map,sizeLine_eq];omega
     subst hi
     walk_at "vs"
     have b:But [a1,a2,a3] H (upd H a2 (.lst (fo.map V.int++[V.int n]))):=But.set _ (by simp)
     exact q _ b (rca.next b ((ao ne).trans e1) (hws.tups (rca.lists b)) (by rw[ak,List.map_append];rfl) ((ao (Ne.symm n23)).trans e3) hw)
   | rd eb=>exact absurd rfl (hno _)
   | @bin _ x y op ra rb eb hx hy=>
     have hi:c=⟨t++[.join op, .r rb, .r ra],fo,d⟩:=hi
     subst hi
     have hz:∀p:Addr,ws.length+[V.ref p,V.ref y,V.ref x].length<=sizeLine:=fun p=>by rw[sizeLine_eq];show ws.length+3<=_;omega
     have aij:atI [V.str op.word,V.ref x,V.ref y] 0=some (.str op.word):=lB (j:=0) rfl
     have aik:atI [V.str op.word,V.ref x,V.ref y] 1=some (.ref x):=lB (j:=1) rfl
     have ail:atI [V.str op.word,V.ref x,V.ref y] 2=some (.ref y):=lB (j:=2) rfl
     have fin:∀p1 p2,H p1=none->upd H p1 (.tup [V.str "join",V.str op.word]) p2=none->Q .non (upd (upd (upd H p1 (.tup [V.str "join",V.str op.word])) p2 (.lst [V.ref p1,V.ref y,V.ref x])) a1 (.lst (ws++[V.ref p1,V.ref y,V.ref x]))):=fun p1 p2 h1 h2=>by
      have b:But [a1,a2,a3] H (upd (upd (upd H p1 (.tup [V.str "join",V.str op.word])) p2 (.lst [V.ref p1,V.ref y,V.ref x])) a1 (.lst (ws++[V.ref p1,V.ref y,V.ref x]))):=(But.new _ h1).trans ((But.new _ h2).trans (But.set _ (by simp)))
      have tp:=rca.lists b
      have n1:p1≠a1:=fun z=>by rw[z,e1] at h1;cases h1
      have n2:p1≠p2:=fun z=>by rw[<-z,ak] at h2;cases h2
      have h2':=(gF h2).2
      refine q _ b (rca.next b ak ((hws.tups tp).app (.cons (.join ?_) (.cons (.r (hy.tups tp)) (.cons (.r (hx.tups tp)) .nil)))) ?_ ?_ hw)
      ·rw[ao n1,ao n2];exact ak
      ·rw[ao (Ne.symm ne),ao (aF e2 h2'),ao (aF e2 h1)];exact e2
      ·rw[ao (Ne.symm n13),ao (aF e3 h2'),ao (aF e3 h1)];exact e3
     have ex1:∀p1,H p1=none->upd H p1 (.tup [V.str "join",V.str op.word]) a1=some (.lst ws):=fun p1 h1=>(ao (aF e1 h1)).trans e1
     have ex2:∀p1 p2,H p1=none->upd H p1 (.tup [V.str "join",V.str op.word]) p2=none->upd (upd H p1 (.tup [V.str "join",V.str op.word])) p2 (.lst [V.ref p1,V.ref y,V.ref x]) a1=some (.lst ws):=fun p1 p2 h1 h2=>(ao (aF (ex1 p1 h1) h2)).trans (ex1 p1 h1)
     have ez:∀p1,H p1=none->upd H p1 (.tup [V.str "join",V.str op.word]) b=some (.tup [V.str op.word,V.ref x,V.ref y]):=fun p1 h1=>(ao (aF eb h1)).trans eb
     cases op with
     | plus=>
       walk_at "vs"
       intro p1 h1
       have ez1:=ez p1 h1
       walk_at "vs"
       intro p2 h2
       have ex:=ex2 p1 p2 h1 h2
       have hz1:=hz p1
       walk_at "vs"
       exact fin p1 p2 h1 h2
     | minus=>
       walk_at "vs"
       intro p1 h1
       have ez1:=ez p1 h1
       walk_at "vs"
       intro p2 h2
       have ex:=ex2 p1 p2 h1 h2
       have hz1:=hz p1
       walk_at "vs"
       exact fin p1 p2 h1 h2
     | times=>
       walk_at "vs"
       intro p1 h1
       have ez1:=ez p1 h1
       walk_at "vs"
       intro p2 h2
       have ex:=ex2 p1 p2 h1 h2
       have hz1:=hz p1
       walk_at "vs"
       exact fin p1 p2 h1 h2
     | most=>
       walk_at "vs"
       intro p1 h1
       have ez1:=ez p1 h1
       walk_at "vs"
       intro p2 h2
       have ex:=ex2 p1 p2 h1 h2
       have hz1:=hz p1
       walk_at "vs"
       exact fin p1 p2 h1 h2
   | @pick _ x y z ra rb rc eb hx hy hz0=>
     have hi:c=⟨t++[.branch rb rc, .r ra],fo,d⟩:=hi
     subst hi
     have hz:∀p:Addr,ws.length+[V.ref p,V.ref x].length<=sizeLine:=fun p=>by rw[sizeLine_eq];show ws.length+2<=_;omega
     walk_at "vs"
     intro p1 h1
     have ez1:upd H p1 (.tup [V.str "branch",V.ref y,V.ref z]) b=some (.tup [V.str "pick",V.ref x,V.ref y,V.ref z]):=(ao (aF eb h1)).trans eb
     walk_at "vs"
     intro p2 h2
     have ex:upd (upd H p1 (.tup [V.str "branch",V.ref y,V.ref z])) p2 (.lst [V.ref p1,V.ref x]) a1=some (.lst ws):=(ao (aF e1 (gF h2).2)).trans ((ao (aF e1 h1)).trans e1)
     have hz1:=hz p1
     walk_at "vs"
     have b:But [a1,a2,a3] H (upd (upd (upd H p1 (.tup [V.str "branch",V.ref y,V.ref z])) p2 (.lst [V.ref p1,V.ref x])) a1 (.lst (ws++[V.ref p1,V.ref x]))):=(But.new _ h1).trans ((But.new _ h2).trans (But.set _ (by simp)))
     have tp:=rca.lists b
     have n1:p1≠a1:=fun z=>by rw[z,e1] at h1;cases h1
     have n2:p1≠p2:=fun z=>by rw[<-z,ak] at h2;cases h2
     have h2':=(gF h2).2
     refine q _ b (rca.next b ak ((hws.tups tp).app (.cons (.branch (by rw[ao n1,ao n2];exact ak) (hy.tups tp) (hz0.tups tp)) (.cons (.r (hx.tups tp)) .nil))) ?_ ?_ hw)
     ·rw[ao (Ne.symm ne),ao (aF e2 h2'),ao (aF e2 h1)];exact e2
     ·rw[ao (Ne.symm n13),ao (aF e3 h2'),ao (aF e3 h1)];exact e3
   | @cho _ x y ra ns eb hx hy=>
     have hi:c=⟨t++[.among ns, .r ra],fo,d⟩:=hi
     subst hi
     have hz:∀p:Addr,ws.length+[V.ref p,V.ref x].length<=sizeLine:=fun p=>by rw[sizeLine_eq];show ws.length+2<=_;omega
     walk_at "vs"
     intro p1 h1
     have ez1:upd H p1 (.tup [V.str "among",V.ref y]) b=some (.tup [V.str "choose",V.ref x,V.ref y]):=(ao (aF eb h1)).trans eb
     walk_at "vs"
     intro p2 h2
     have ex:upd (upd H p1 (.tup [V.str "among",V.ref y])) p2 (.lst [V.ref p1,V.ref x]) a1=some (.lst ws):=(ao (aF e1 (gF h2).2)).trans ((ao (aF e1 h1)).trans e1)
     have hz1:=hz p1
     walk_at "vs"
     have b:But [a1,a2,a3] H (upd (upd (upd H p1 (.tup [V.str "among",V.ref y])) p2 (.lst [V.ref p1,V.ref x])) a1 (.lst (ws++[V.ref p1,V.ref x]))):=(But.new _ h1).trans ((But.new _ h2).trans (But.set _ (by simp)))
     have tp:=rca.lists b
     have n1:p1≠a1:=fun z=>by rw[z,e1] at h1;cases h1
     have n2:p1≠p2:=fun z=>by rw[<-z,ak] at h2;cases h2
     have h2':=(gF h2).2
     refine q _ b (rca.next b ak ((hws.tups tp).app (.cons (.among (by rw[ao n1,ao n2];exact ak) (tp _ _ hy)) (.cons (.r (hx.tups tp)) .nil))) ?_ ?_ hw)
     ·rw[ao (Ne.symm ne),ao (aF e2 h2'),ao (aF e2 h1)];exact e2
     ·rw[ao (Ne.symm n13),ao (aF e3 h2'),ao (aF e3 h1)];exact e3
 | @branch b x y ra rb eb hx hy=>
   obtain⟨g,v,hf,hi⟩:=hi
   have hf:fo=g++[v]:=hf
   subst hf
   subst hi
   have hl:((g++[v]).map V.int)[((g++[v]).map V.int).length - 1]? =some (.int v):=by rw[List.map_append,List.length_append];exact List.getElem?_concat_length
   have hd:((g++[v]).map V.int).dropLast=g.map V.int:=by rw[List.map_append];exact List.dropLast_concat
   have hz:ws.length<sizeLine:=by rw[sizeLine_eq];omega
   walk_at "vs"
   rw[hd]
   have nb:b≠a2:=fun z=>by rw[z,e2] at eb;cases eb
   have eb1:upd H a2 (.lst (g.map V.int)) b=some (.tup [V.str "branch",V.ref x,V.ref y]):=(ao nb).trans eb
   have e11:upd H a2 (.lst (g.map V.int)) a1=some (.lst ws):=(ao ne).trans e1
   have fin:∀(z:Addr) (rz:R),IsR H z rz->rz=(if v>0 then ra else rb)->Q .non (upd (upd H a2 (.lst (g.map V.int))) a1 (.lst (ws++[V.ref z]))):=fun z rz hz1 hz2=>by
    subst hz2
    have b:But [a1,a2,a3] H (upd (upd H a2 (.lst (g.map V.int))) a1 (.lst (ws++[V.ref z]))):=(But.set _ (by simp)).trans (But.set _ (by simp))
    have tp:=rca.lists b
    exact q _ b (rca.next b ak ((hws.tups tp).app (.cons (.r (hz1.tups tp)) .nil)) ((ao (Ne.symm ne)).trans ak) ((ao (Ne.symm n13)).trans ((ao (Ne.symm n23)).trans e3)) hw)
   by_cases hv:0<v
   ·refine adt hv ?_
    walk_at "vs"
    exact fin x ra hx (if_pos hv).symm
   ·refine adu hv ?_
    walk_at "vs"
    exact fin y rb hy (if_neg hv).symm
 | @among b x ns eb hx=>
   obtain⟨g,v,y,hf,hy,hi⟩:=hi
   have hf:fo=g++[v]:=hf
   subst hf
   subst hi
   have hl:((g++[v]).map V.int)[((g++[v]).map V.int).length - 1]? =some (.int v):=by rw[List.map_append,List.length_append];exact List.getElem?_concat_length
   have hd:((g++[v]).map V.int).dropLast=g.map V.int:=by rw[List.map_append];exact List.dropLast_concat
   have hz:ws.length<sizeLine:=by rw[sizeLine_eq];omega
   have hln:(ns.map V.str).length=ns.length:=List.length_map _
   have hpos:0<((ns.map V.str).length:Int):=by
    rw[hln]
    cases ns with
    | nil=>simp[pU] at hy
    | cons n ns=>simp only[List.length_cons];omega
   have hat:atI (ns.map V.str) (v % ((ns.map V.str).length:Int))=some (.str y):=by
    rw[hln] at hpos ⊢
    have z0:=Int.emod_nonneg v (show(ns.length:Int)≠0 by omega)
    obtain⟨k,hk⟩:=Int.eq_ofNat_of_zero_le z0
    unfold pU at hy
    rw[hk] at hy ⊢
    exact lB (by rw[List.getElem?_map,show ns[k]? =some y from hy];rfl)
   have nx:x≠a2:=fun z=>by rw[z,e2] at hx;cases hx
   have ex1:upd H a2 (.lst (((g++[v]).map V.int).dropLast)) x=some (.tup (ns.map V.str)):=(ao nx).trans hx
   have e11:upd H a2 (.lst (((g++[v]).map V.int).dropLast)) a1=some (.lst ws):=(ao ne).trans e1
   walk_at "vs"
   intro p1 h1
   have e12:upd (upd H a2 (.lst (((g++[v]).map V.int).dropLast))) p1 (.tup [V.str "read",V.str y]) a1=some (.lst ws):=(ao (aF e11 h1)).trans e11
   walk_at "vs"
   have n1:p1≠a1:=fun z=>by rw[z,e11] at h1;cases h1
   obtain⟨n2,h1'⟩:=gF h1
   have b:But [a1,a2,a3] H (upd (upd (upd H a2 (.lst (((g++[v]).map V.int).dropLast))) p1 (.tup [V.str "read",V.str y])) a1 (.lst (ws++[V.ref p1]))):=(But.set _ (by simp)).trans ((But.new _ h1).trans (But.set _ (by simp)))
   have tp:=rca.lists b
   refine q _ b (rca.next b ak ((hws.tups tp).app (.cons (.r (.rd ((ao n1).trans ak))) .nil)) ?_ ?_ hw)
   ·rw[ao (Ne.symm ne),ao (Ne.symm n2),ak,hd]
   ·rw[ao (Ne.symm n13),ao (aF e3 h1'),ao (Ne.symm n23)];exact e3
 | @join b op eb=>
   obtain⟨g,u,v,hf,hm,hi⟩:=hi
   have hf:fo=g++[u,v]:=hf
   subst hf
   subst hi
   have hl:((g++[u,v]).map V.int)[((g++[u,v]).map V.int).length - 1]? =some (.int v):=by simp
   have hd:((g++[u,v]).map V.int).dropLast=(g++[u]).map V.int:=by simp
   have hl2:((g++[u]).map V.int)[((g++[u]).map V.int).length - 1]? =some (.int u):=by simp
   have hd2:((g++[u]).map V.int).dropLast=g.map V.int:=by simp
   have hz:(g.map V.int).length<sizeLine:=by
    rw[List.length_map,sizeLine_eq]
    have:(g++[u,v]).length=g.length+2:=by rw[List.length_append];rfl
    omega
   have nb:b≠a2:=fun z=>by rw[z,e2] at eb;cases eb
   have na2:a≠a2:=fun z=>rca.ins (by simp[z])
   have hl3:(((g++[u,v]).map V.int).dropLast)[(((g++[u,v]).map V.int).dropLast).length - 1]? =some (.int u):=by rw[hd];exact hl2
   have hd3:(((g++[u,v]).map V.int).dropLast).dropLast=g.map V.int:=by rw[hd];exact hd2
   have hz3:((((g++[u,v]).map V.int).dropLast).dropLast).length<sizeLine:=by rw[hd3];exact hz
   walk_at "vs"
   have b:But [a1,a2,a3] H (upd H a2 (.lst (g.map V.int++[V.int (op.ap u v)]))):=But.set _ (by simp)
   have q1:=q _ b (rca.next b ((ao ne).trans e1) (hws.tups (rca.lists b)) (by rw[ak,List.map_append];rfl) ((ao (Ne.symm n23)).trans e3) hw)
   have eq:upd (upd (upd H a2 (.lst (((g++[u,v]).map V.int).dropLast))) a2 (.lst ((((g++[u,v]).map V.int).dropLast).dropLast))) a2 (.lst ((((g++[u,v]).map V.int).dropLast).dropLast++[V.int (op.ap u v)]))=upd H a2 (.lst (g.map V.int++[V.int (op.ap u v)])):=by rw[ni,ni,hd3]
   show Q .non (upd (upd (upd H a2 (.lst (((g++[u,v]).map V.int).dropLast))) a2 (.lst ((((g++[u,v]).map V.int).dropLast).dropLast))) a2 (.lst ((((g++[u,v]).map V.int).dropLast).dropLast++[V.int (op.ap u v)])))
   rw[eq]
   exact q1
end
section
local macro_rules | `(tactic| walk_at "side") => `(tactic| first | exact IW _ _ _ | exact Eu _ _ _ | exact Ew _ _ _ | exact X7 _ _ _ | exact zU _ _ _ | exact Nat.le_of_ble_eq_true rfl)
variable {P:Program}{w:World}{K:PySem.W.Frag}{mg:Str->Option Value}{base:Heap}{C:Addr}
abbrev bG:Stmt:=vY 7 1
theorem nZ:bI ["self","known","step"] ["self","known"] (aa bG):=⟨rfl,rfl,rfl,by decide +kernel,rfl,by decide +kernel,by decide +kernel⟩
theorem cO:aG (aa bG) "self":=by decide +kernel
theorem qw:Loc (aa bG) "step":=by decide +kernel
theorem bF:aG (aa bG) "step":=by decide +kernel
theorem ie:aG (aa bG) "known":=by decide +kernel
theorem v9 {f g:Addr}{fd gd:FuncData} (dN:fX K C "lacking" "Reckoning.lacking" bG ["self","known"] f fd) (eZ:fX K C "go_on" "Reckoning.go_on" aJ ["self","step"] g gd) (Ac:aX P w K mg base CX0 2 g gd ["self","step"] (adB C))
 (T:Blt mg) (rc:RkC K C):aX P w K mg base CX0 3 f fd ["self","known"] (R4 C):=by
 refine dN.F.okQ nZ (fun vs H Q E h=> ?_) (fun cdv A outer s H vs Q E hr h=> ?_)
 ·obtain⟨a,dx,a1,a2,a3,d,kn,n,c,c',rfl,_⟩:=h
  rfl
 obtain⟨a,dx,a1,a2,a3,dd,kn,n0,c0,c',rfl,aaY,⟨kvs,ed,hkn⟩,nd3,hn0,hhalt,q⟩:=h
 have lF:=rc.cl
 have nT:=rc.nT
 have nF:=rc.nF
 have nR:=rc.nR
 have hdS:dd∉[a1,a2,a3]:=fun z=>by
  obtain⟨ws,e1,_⟩:=aaY.e1
  have z:dd=a1\/dd=a2\/dd=a3:=by simpa using z
  rcases z with z | z | z
  ·rw[z,e1] at ed;cases ed
  ·rw[z,aaY.e2] at ed;cases ed
  ·exact nd3 z
 refine⟨_,(aq (En PassesOwn.never (Ek (bA (aj 0 cO))) (aq (bV (i:=2) nZ.nd rfl qw (Br PySem.F.plainAttrs_list PySem.F.slot_list_pop PySem.F.type_list_pop xH (bA (aj 0 cO))))
  (aB (eY (cQ Bt (cM cF (aj 2 bF) aA) aY (bB _)) (aB (iz (o8 (aj 0 cO) lF eZ.m (Ac.mono (by omega)) hr eZ.b .nil cz (aQ (aj 2 bF) au)))) (aB (eY (yI (cP hr) (cM cF (aj 2 bF) aA) (aj 1 ie)) (aq (iT (cP hr) (bA (aj 0 cO)) (cM cF (aj 2 bF) aA) (dY (cP hr) (aj 1 ie) (cM cF (aj 2 bF) aA)))
  (aB (iz (vO PySem.F.plainAttrs_list PySem.F.slot_list_append PySem.F.type_list_append lE (bA (aj 0 cO)) (mR (dY (cP hr) (aj 1 ie) (cM cF (aj 2 bF) aA)) au))))) (aq (iz (vO PySem.F.plainAttrs_list PySem.F.slot_list_append PySem.F.type_list_append lE (bA (aj 0 cO)) (aQ (aj 2 bF) au)))
  (aB (bR (cM cF (aj 2 bF) aA))))))))))
  (aB (bR Bq))), ?_⟩
 refine⟨fun n σ H'=>∃c t,σ=[some (.ref a),some (.ref dd),t]/\But [a1,a2,a3] H H'/\RcAt H' a C dx a1 a2 a3 c/\StN kn n c c',
  ⟨n0,c0,none,rfl,But.refl _ _,aaY,hn0⟩, ?_⟩
 rintro n σ H1 ⟨c,t0,rfl,b1,rca,hst⟩
 have n13:=rca.n13
 have n23:=rca.n23
 have na:a∉[a1,a2,a3]:=rca.ins
 have na1:a≠a1:=fun z=>na (by simp[z])
 have na2:a≠a2:=fun z=>na (by simp[z])
 have na3:a≠a3:=fun z=>na (by simp[z])
 obtain⟨e,⟨ws,e1,hws⟩,e2,e3,ne,hw0⟩:=id rca
 have ed1:=b1 _ _ hdS ed
 rcases List.eq_nil_or_concat c.todo with hnil | ⟨t,st,hs⟩
 ·rw[hnil] at hws
  cases hws
  have ec:=hst.halt (.inl hnil)
  subst ec
  walk_at "vs"
  exact(q H1 b1 rca).1 hnil
 ·rw[List.concat_eq_append] at hs
  rw[hs] at hws
  obtain⟨us,v,rfl,hus,hv⟩:=hws.snoc
  have hlu:=hus.length
  have hlt:=MN t
  have hw1:c.rds.length+c.found.length+2 * wT (t++[st])<=10000:=by have:=hw0;unfold Cf.w at this;rw[hs] at this;exact this
  rw[lU] at hw1
  have hl:(us++[v])[(us++[v]).length - 1]? =some v:=by simp
  have hd:(us++[v]).dropLast=us:=List.dropLast_concat
  have hne:(us++[v]).isEmpty=false:=by simp
  have hz:us.length<sizeLine:=by rw[sizeLine_eq];omega
  refine⟨_,rfl,a,C,dx,_, .ref a1,rfl,e,lF,nT,IW _ _ _,true, .inl ⟨us++[v],SqL.of e1,by simp⟩, ?_⟩
  refine(if_pos (rfl:true=true)).mpr ?_
  cases hst with
  | zero=>
    rcases hhalt with h | ⟨t',x,h,hx⟩
    ·rw[hs] at h;simp at h
    ·rw[hs] at h
     obtain⟨rfl,rfl⟩:=jy h
     refine⟨fun _ _=>False,fun _ _ z=>z.elim, ?_⟩
     cases hv with
     | @r p _ hr'=>
     cases hr' with
     | rd ep=>
     have np:p≠a1:=fun z=>by rw[z,e1] at ep;cases ep
     have nda:dd≠a1:=fun z=>hdS (by simp[z])
     have g1:cL (upd H1 a1 (.lst (us++[V.ref p]).dropLast)) dd (.str x) none:=by
      have:=cL.k (H:=upd H1 a1 (.lst (us++[V.ref p]).dropLast)) (k:= .inr x) ((ao nda).trans ed1)
      rw[hkn,hx] at this
      exact this
     have hzd:((us++[V.ref p]).dropLast).length<sizeLine:=by rw[hd];exact hz
     walk_at "vs"
     have hq:=(q H1 b1 rca).2 _ x hs
     have eq:upd (upd H1 a1 (.lst (us++[V.ref p]).dropLast)) a1 (.lst ((us++[V.ref p]).dropLast++[V.ref p]))=H1:=by rw[ni,hd,aaJ e1]
     show Q (.str x) (upd (upd H1 a1 (.lst (us++[V.ref p]).dropLast)) a1 (.lst ((us++[V.ref p]).dropLast++[V.ref p])))
     rw[eq]
     exact hq
  | @succ n _ c1 _ h1 ht=>
    have hi:=h1.inv _ _ hs
    refine⟨fun σ' H'=>Wr (∃c t,σ'=[some (.ref a),some (.ref dd),t]/\But [a1,a2,a3] H H'/\RcAt H' a C dx a1 a2 a3 c/\StN kn n c c'), ?_, ?_⟩
    ·rintro σ' H' ⟨h⟩
     exact⟨n,by omega,h⟩
    by_cases hrd:∃x,st= .r (.rd x)
    ·obtain⟨x,rfl⟩:=hrd
     obtain⟨val,hx,rfl⟩:=hi
     cases hv with
     | @r p _ hr'=>
     cases hr' with
     | rd ep=>
     have np:p≠a1:=fun z=>by rw[z,e1] at ep;cases ep
     have np3:p≠a3:=fun z=>by rw[z,e3] at ep;cases ep
     have nda:dd≠a1:=fun z=>hdS (by simp[z])
     have agT:dd≠a3:=fun z=>hdS (by simp[z])
     have ne2:a2≠a1:=Ne.symm ne
     have agU:a3≠a1:=Ne.symm n13
     have agV:a3≠a2:=Ne.symm n23
     have hv0:dX kvs (.inr x)=some (.int val):=by rw[hkn,hx];rfl
     have ed2:upd H1 a1 (.lst (us++[V.ref p]).dropLast) dd=some (.dK kvs):=(ao nda).trans ed1
     have e32:upd H1 a1 (.lst (us++[V.ref p]).dropLast) a3=some (.dK (rdK c.rds)):=(ao agU).trans e3
     have g1:cL (upd H1 a1 (.lst (us++[V.ref p]).dropLast)) dd (.str x) (some (.int val)):=by
      have:=cL.k (k:= .inr x) ed2
      rw[hv0] at this
      exact this
     have hlr:(rdK c.rds).length<sizeLine:=by rw[show(rdK c.rds).length=c.rds.length from List.length_map _,sizeLine_eq];omega
     have pt:lD (upd H1 a1 (.lst (us++[V.ref p]).dropLast)) a3 (.str x) (.int val) (upd (upd H1 a1 (.lst (us++[V.ref p]).dropLast)) a3 (.dK (rdK (rY c.rds x val)))):=by
      have:=lD.k (k:= .inr x) (v:= .int val) e32 hlr
      rw[VJ] at this
      exact this
     have ed3:upd (upd H1 a1 (.lst (us++[V.ref p]).dropLast)) a3 (.dK (rdK (rY c.rds x val))) dd=some (.dK kvs):=(ao agT).trans ed2
     have g2:cL (upd (upd H1 a1 (.lst (us++[V.ref p]).dropLast)) a3 (.dK (rdK (rY c.rds x val)))) dd (.str x) (some (.int val)):=by
      have:=cL.k (k:= .inr x) ed3
      rw[hv0] at this
      exact this
     have hzf:(c.found.map V.int).length<sizeLine:=by rw[List.length_map,sizeLine_eq];omega
     walk_at "vs"
     have b2:But [a1,a2,a3] H1 (upd (upd (upd H1 a1 (.lst (us++[V.ref p]).dropLast)) a3 (.dK (rdK (rY c.rds x val)))) a2 (.lst (c.found.map V.int++[V.int val]))):=(But.set _ (by simp)).trans ((But.set _ (by simp)).trans (But.set _ (by simp)))
     have tp:=rca.lists b2
     refine⟨⟨⟨t,c.found++[val],rY c.rds x val⟩,_,rfl,b1.trans b2,rca.next b2 (ws:=us) ?_ (hus.tups tp) ?_ ?_ (Nat.le_trans h1.w hw0),ht⟩⟩
     ·rw[ao ne,ao n13,ak,hd]
     ·rw[ak,List.map_append];rfl
     ·rw[ao agV,ak]
    ·have hno:∀x,st≠ .r (.rd x):=fun x z=>hrd ⟨x,z⟩
     obtain⟨p,k,xs,rfl,ep,hk⟩:=hv.hd hno
     have np:p≠a1:=fun z=>by rw[z,e1] at ep;cases ep
     have at0:atI (V.str k::xs) 0=some (.str k):=lB (j:=0) rfl
     walk_at "vs"
     refine adv (fun z=>hk (V.str.inj z)) ?_
     have b2:But [a1,a2,a3] H1 (upd H1 a1 (.lst (us++[V.ref p]).dropLast)):=But.set _ (by simp)
     have tp:=rca.lists b2
     have rc2:RcAt (upd H1 a1 (.lst (us++[V.ref p]).dropLast)) a C dx a1 a2 a3 ⟨t,c.found,c.rds⟩:=rca.next b2 (ws:=us) (by rw[ak,hd]) (hus.tups tp) ((ao (Ne.symm ne)).trans e2) ((ao (Ne.symm n13)).trans e3) (by show c.rds.length+c.found.length+2 * wT t<=10000;omega)
     have h1':St1 kn ⟨t++[st],c.found,c.rds⟩ c1:=by rw[<-hs];exact h1
     have hv2:=hv.tups tp
     have hwc:=Nat.le_trans h1.w hw0
     walk_at "vs"
     intro H3 b3 rc3
     exact⟨⟨c1,_,rfl,b1.trans (b2.trans b3),rc3,ht⟩⟩
end
section
variable {P:Program}{w:World}{K:PySem.W.Frag}{mg:Str->Option Value}{base:Heap}
abbrev bN:Stmt:=top 9
theorem yR:bI ["thing"] ["thing"] (aa bN):=⟨rfl,rfl,rfl,by decide +kernel,rfl,by decide +kernel,by decide +kernel⟩
theorem jh:(aa bN).names.lookup ("isinstance":Str)=some NameKind.globalImplicit:=by decide +kernel
theorem sH:(aa bN).names.lookup ("bool":Str)=some NameKind.globalImplicit:=by decide +kernel
theorem sI:("bool":Str)≠"__name__":=by decide +kernel
theorem sJ:(("bool":Str)==("__debug__":Str))=false:=by decide +kernel
theorem kJ:aG (aa bN) "thing":=by decide +kernel
theorem ji:("isinstance":Str)≠"__name__":=by decide +kernel
theorem jj:(("isinstance":Str)==("__debug__":Str))=false:=by decide +kernel
theorem uz:(aa bN).names.lookup ("int":Str)=some NameKind.globalImplicit:=by decide +kernel
theorem uA:("int":Str)≠"__name__":=by decide +kernel
theorem uB:(("int":Str)==("__debug__":Str))=false:=by decide +kernel
theorem yS {f:Addr}{fd:FuncData} (aZ:FnT K mg "is_whole_number" bN ["thing"] f fd) (T:Blt mg) (kd:Kinds K):aX P w K mg base CX0 1 f fd ["thing"] (IK K):=by
 refine aZ.F.okQ yR (fun vs H Q E h=> ?_) (fun cdv A outer s H vs Q E hr h=> ?_)
 ·obtain⟨v,t,rfl,_⟩:=h
  rfl
 obtain⟨v,t,rfl,ht,q⟩:=h
 refine⟨_,(aB (bR (Iu (cN Bu jh T.jY jz (aQ (aj 0 kJ) (aQ (xu (v:= .ty "int") uz T.adl aaj rfl uA uB) au)) ji jj) (Mp (aal (cN Bu jh T.jY jz (aQ (aj 0 kJ) (aQ (xu (v:= .ty "bool") sH T.aao Vu rfl sI sJ) au)) ji jj)))))), ?_⟩
 have h1:=ht.ty
 have h2:=ht.isi kd (c:="int") (by simp[tys])
 have h3:=ht.isi kd (c:="bool") (by simp[tys])
 walk_at "vs"
 cases ht with
 | bl b=>walk_at "vs";exact q
 | int i=>walk_at "vs";exact q
 | non=>exact q
 | str x=>exact q
 | tup e h=>exact q
 | oth h hT k=>rcases hT with rfl | rfl<;>exact q
abbrev dU:Stmt:=top 10
theorem Nj:bI ["told","thing"] ["told","thing"] (aa dU):=⟨rfl,rfl,rfl,by decide +kernel,rfl,by decide +kernel,by decide +kernel⟩
theorem iB:(aa dU).names.lookup ("isinstance":Str)=some NameKind.globalImplicit:=by decide +kernel
theorem sO:(aa dU).names.lookup ("tuple":Str)=some NameKind.globalImplicit:=by decide +kernel
theorem sS:("tuple":Str)≠"__name__":=by decide +kernel
theorem sU:(("tuple":Str)==("__debug__":Str))=false:=by decide +kernel
theorem gw:aG (aa dU) "told":=by decide +kernel
theorem iC:("isinstance":Str)≠"__name__":=by decide +kernel
theorem iD:(("isinstance":Str)==("__debug__":Str))=false:=by decide +kernel
theorem wg:(aa dU).names.lookup ("len":Str)=some NameKind.globalImplicit:=by decide +kernel
theorem wj:("len":Str)≠"__name__":=by decide +kernel
theorem wk:(("len":Str)==("__debug__":Str))=false:=by decide +kernel
theorem fQ:aG (aa dU) "thing":=by decide +kernel
theorem Gb:(aa dU).names.lookup ("all":Str)=some NameKind.globalImplicit:=by decide +kernel
theorem Gd:(aa dU).names.lookup ("zip":Str)=some NameKind.globalImplicit:=by decide +kernel
theorem yU:(("is_same":Str)==("__debug__":Str))=false:=by decide +kernel
theorem Ge:("all":Str)≠"__name__":=by decide +kernel
theorem Gf:(("all":Str)==("__debug__":Str))=false:=by decide +kernel
theorem jP:(aa dU).names.lookup ("is_whole_number":Str)=some NameKind.globalImplicit:=by decide +kernel
theorem jQ:(("is_whole_number":Str)==("__debug__":Str))=false:=by decide +kernel
theorem wu:(aa dU).names.lookup ("str":Str)=some NameKind.globalImplicit:=by decide +kernel
theorem wz:("str":Str)≠"__name__":=by decide +kernel
theorem wA:(("str":Str)==("__debug__":Str))=false:=by decide +kernel
theorem Ad {d:Nat}{f g0:Addr}{fd gd0:FuncData} (fU:FnT K mg "is_same" dU ["told","thing"] f fd) (Ca:aX P w K mg base CX0 (d+1) f fd ["told","thing"] (fun vs H Q E=>0<d/\Jc K (d - 1) vs H Q E))
 (aZ:FnT K mg "is_whole_number" bN ["thing"] g0 gd0) (fZ:aX P w K mg base CX0 1 g0 gd0 ["thing"] (IK K)) (T:Blt mg) (kd:Kinds K):
 aX P w K mg base CX0 (d+2) f fd ["told","thing"] (Jc K d):=by
 refine fU.F.okQ Nj (fun vs H Q E h=> ?_) (fun cdv A outer s H vs Q E hr h=> ?_)
 ·obtain⟨v,t,v',t',rfl,_⟩:=h
  rfl
 obtain⟨v,t,v',t',rfl,ht,hu,hd,q⟩:=h
 refine⟨_,(aq (eY (yE (cN Bu iB T.jY jz (aQ (aj 0 gw) (aQ (xu (v:= .ty "tuple") sO T.Iz Ei rfl sS sU) au)) iC iD)) (aq (eY (El (zQ (RM (yE (cN Bu iB T.jY jz (aQ (aj 1 fQ) (aQ (xu (v:= .ty "tuple") sO T.Iz Ei rfl sS sU) au)) iC iD))) (vN (cQ Bt (cN gU wg T.uW oG (aQ (aj 0 gw) au) wj wk) (cN gU wg T.uW oG (aQ (aj 1 fQ) au) wj wk) (bB _))))) (aB (bR zP)) dz)
  (aB (bR (cN (VB rfl) Gb T.adm aai (aaD (zT rfl (n:=2) (fr:=[]) (N:=["part","other"]) (Hq (scX:=aa dU) (NX:=["told","thing"]) rfl rfl (by decide +kernel)) (V6 Gd T.adp (aQ (aj 0 gw) (aQ (aj 1 fQ) au))) (fun _ _ _ _ _=>(IV (K:=K) (n:=2) rfl rfl (gD (qgx (i:=0) (show List.Nodup (α:=Str) ["part","other"] by decide) (Io (by decide +kernel))) (gD (qgx (i:=1) (show List.Nodup (α:=Str) ["part","other"] by decide) (Io (by decide +kernel))) ud)))) (fun _ _ _ _ _=>Mr) (fun _ _ _ _ _=>(bM (Ca.mono (by omega)) hr (glC (by decide +kernel)) fU.m fU.F.kp fU.b .nil cz (aQ (aj 0 (nH.ok (by decide +kernel))) (aQ (aj 1 (nH.ok (by decide +kernel))) au)) yU))) au) Ge Gf)))) dz)
  (aq (eY (yE (bM (fZ.mono (by omega)) hr jP aZ.m aZ.F.kp aZ.b .nil cz (aQ (aj 0 gw) au) jQ)) (aB (bR (Iu (bM (fZ.mono (by omega)) hr jP aZ.m aZ.F.kp aZ.b .nil cz (aQ (aj 1 fQ) au) jQ) (Mp (Ej gH (aj 0 gw) (aj 1 fQ) (bB _)))))) dz)
  (aB (bR (Iu (cN Bu iB T.jY jz (aQ (aj 0 gw) (aQ (xu (v:= .ty "str") wu T.X6 RL rfl wz wA) au)) iC iD) (Iu (cN Bu iB T.jY jz (aQ (aj 1 fQ) (aQ (xu (v:= .ty "str") wu T.X6 RL rfl wz wA) au)) iC iD) (Mp (Ej gH (aj 0 gw) (aj 1 fQ) (bB _))))))))), ?_⟩
 have h1:=ht.ty
 have h2:=ht.isi kd (c:="tuple") (by simp[tys])
 have h3:=ht.isi kd (c:="str") (by simp[tys])
 have g1:=hu.ty
 have g2:=hu.isi kd (c:="tuple") (by simp[tys])
 have g3:=hu.isi kd (c:="str") (by simp[tys])
 walk_at "vs"
 have ht2:=ht
 cases ht2 with
 | @tup a vs ts ea ha=>
   have ct:RT (Ke (.tup ts)) "tuple"=true:=rfl
   rw[ct]
   walk_at "vs"
   have hu2:=hu
   cases hu2 with
   | @tup b us rs eb hb=>
     have cu:RT (Ke (.tup rs)) "tuple"=true:=rfl
     rw[cu]
     walk_at "vs"
     have l1:=ha.length
     have l2:=hb.length
     by_cases hl:vs.length=us.length
     ·refine adx (by rw[hl];simp) ?_
      walk_at "vs"
      intro D hD
      have hd0:0<d:=by
       cases d with
       | zero=>exact absurd hd (by simp[DpT])
       | succ d=>omega
      obtain⟨d,rfl⟩:∃e,d=e+1:=⟨d - 1,by omega⟩
      obtain⟨hd1,hd2⟩:ts.length<=1000/\∀t∈ts,DpT d t:=hd
      have nDa:a≠D:=fun z=>by rw[z,hD] at ea;cases ea
      have nDb:b≠D:=fun z=>by rw[z,hD] at eb;cases eb
      refine Qo (fun i σ' H'=>(∃t1 t2,σ'=[t1,t2])/\H' D=some (.lst (((List.zipWith dI ts rs).take i).map V.bl))/\aN H H') hl ?_ ?_ ?_ ?_
      ·exact⟨⟨none,none,rfl⟩,ak,az _ hD⟩
      ·intro i σ' H' hi hP
       exact⟨SqT.of (hP.2.2 _ _ ea),SqT.of (hP.2.2 _ _ eb)⟩
      ·intro i x y T0 σ' H' hx hy hP hT
       obtain⟨⟨t1,t2,rfl⟩,eD,kp⟩:=hP
       obtain⟨hi1,tx⟩:=ha.at hx
       obtain⟨hi2,ty⟩:=hb.at hy
       have S0:=kp.trans (az (.tup [x,y]) hT)
       have tx0:=tx.same S0
       have ty0:=ty.same S0
       have dx:=hd2 _ (List.getElem_mem hi1)
       have eT:upd H' T0 (.tup [x,y]) T0=some (.tup [x,y]):=ak
       have eD0:=(az (.tup [x,y]) hT) _ _ eD
       generalize upd H' T0 (.tup [x,y])=H0 at *
       walk_at "vs"
       intro H5 S5
       have eD5:=S5 _ _ eD0
       refine⟨_,eD5, ?_,⟨_,_,rfl⟩, ?_, ?_⟩
       ·rw[List.length_map,List.length_take];exact bY (by omega)
       ·rw[ak,<-Qp dI hi1 hi2,List.map_append];rfl
       ·exact rT _ hD (S0.trans S5)
      ·intro σ' H' hP
       obtain⟨_,eD,kp⟩:=hP
       rw[List.take_of_length_le (by simp;omega)] at eD
       have eq:dI (.tup ts) (.tup rs)=((List.zipWith dI ts rs).all id):=by rw[dI];exact Fb (by omega)
       rw[eq] at q
       walk_at "vs"
       exact q _ kp
     ·refine adw (by simp;omega) ?_
      rw[show dI (.tup ts) (.tup rs)=false from by rw[dI];exact EY (by omega)] at q
      walk_at "vs"
      exact q _ (aN.refl _)
   | non=>walk_at "vs";exact q _ (aN.refl _)
   | bl b=>walk_at "vs";exact q _ (aN.refl _)
   | int i=>walk_at "vs";exact q _ (aN.refl _)
   | str x=>walk_at "vs";exact q _ (aN.refl _)
   | oth h hT k=>rcases hT with rfl | rfl<;>walk_at "vs"<;>exact q _ (aN.refl _)
 | non=>walk_at "vs";exact q _ (aN.refl _)
 | bl b=>walk_at "vs";exact q _ (aN.refl _)
 | int i=>
   walk_at "vs"
   have hu2:=hu
   cases hu2 with
   | int j=>
     have ej:dI (.int i) (.int j)=decide (V.int i=V.int j):=by simp[dI]
     rw[ej] at q
     walk_at "vs";exact q _ (aN.refl _)
   | non=>walk_at "vs";exact q _ (aN.refl _)
   | bl b=>walk_at "vs";exact q _ (aN.refl _)
   | str x=>walk_at "vs";exact q _ (aN.refl _)
   | tup e h=>walk_at "vs";exact q _ (aN.refl _)
   | oth h hT k=>rcases hT with rfl | rfl<;>walk_at "vs"<;>exact q _ (aN.refl _)
 | str x=>
   walk_at "vs"
   have hu2:=hu
   cases hu2 with
   | str y=>
     have ej:dI (.str x) (.str y)=decide (V.str x=V.str y):=by simp[dI]
     rw[ej] at q
     walk_at "vs";exact q _ (aN.refl _)
   | non=>walk_at "vs";exact q _ (aN.refl _)
   | bl b=>walk_at "vs";exact q _ (aN.refl _)
   | int j=>walk_at "vs";exact q _ (aN.refl _)
   | tup e h=>walk_at "vs";exact q _ (aN.refl _)
   | oth h hT k=>rcases hT with rfl | rfl<;>walk_at "vs"<;>exact q _ (aN.refl _)
 | oth h hT k=>rcases hT with rfl | rfl<;>walk_at "vs"<;>exact q _ (aN.refl _)
theorem Gg {f g0:Addr}{fd gd0:FuncData} (fU:FnT K mg "is_same" dU ["told","thing"] f fd)
 (aZ:FnT K mg "is_whole_number" bN ["thing"] g0 gd0) (fZ:aX P w K mg base CX0 1 g0 gd0 ["thing"] (IK K)) (T:Blt mg) (kd:Kinds K):
 ∀d,aX P w K mg base CX0 (d+2) f fd ["told","thing"] (Jc K d)
 | 0=>Ad fU (never fun vs H Q E h=>absurd h.1 (by omega)) aZ fZ T kd
 | d+1=>Ad fU ((Gg fU aZ fZ T kd d).imp fun vs H Q E h=>h.2) aZ fZ T kd
end
section
local macro_rules | `(tactic| walk_at "side") => `(tactic| first | exact xP _ _ _ _ | exact uh _ _ _ _ | exact xQ _ _ _ _ | exact o9 _ _ _ _ | exact (gq _ _ _ _).1 | exact (gq _ _ _ _).2.1 | exact (gq _ _ _ _).2.2.1 | exact (gq _ _ _ _).2.2.2 | exact Nat.le_of_ble_eq_true rfl)
variable {P:Program}{w:World}{K:PySem.W.Frag}{mg:Str->Option Value}{base:Heap}{CN CS CR:Addr}
abbrev aU:Stmt:=vY 12 0
theorem qM:bI ["self","records"] ["self","records"] (aa aU):=⟨rfl,rfl,rfl,by decide +kernel,rfl,by decide +kernel,by decide +kernel⟩
theorem n8:aG (aa aU) "self":=by decide +kernel
theorem lX:aG (aa aU) "records":=by decide +kernel
theorem qN {f:Addr}{fd:FuncData} (aO:fX K CN "__init__" "NamedRecords.__init__" aU ["self","records"] f fd) (nc:NrC K CN):aX P w K mg base CX0 1 f fd ["self","records"] (zW CN):=by
 refine aO.F.okQ qM (fun vs H Q E h=> ?_) (fun cdv A outer s H vs Q E hr h=> ?_)
 ·obtain⟨a,dx,rcd,rfl,_⟩:=h
  rfl
 obtain⟨a,dx,rcd,rfl,e,q⟩:=h
 have kO:=nc.cl
 have nB:=nc.nB
 refine⟨_,(aB (j8 (aj 0 n8) (aj 1 lX))), ?_⟩
 walk_at "vs"
 exact q _ (But.set _ (by simp)) ak
abbrev cB:Stmt:=vY 12 2
theorem qO:bI ["self","record"] ["self","record"] (aa cB):=⟨rfl,rfl,rfl,by decide +kernel,rfl,by decide +kernel,by decide +kernel⟩
theorem qP {f:Addr}{fd:FuncData} (cC:fX K CN "put_made" "NamedRecords.put_made" cB ["self","record"] f fd):aX P w K mg base CX0 1 f fd ["self","record"] Yd:=by
 refine cC.F.okQ qO (fun vs H Q E h=> ?_) (fun cdv A outer s H vs Q E hr h=> ?_)
 ·obtain⟨⟨v,w,rfl⟩,_⟩:=h
  rfl
 obtain⟨⟨v,w,rfl⟩,q⟩:=h
 refine⟨_,(aB Vx), ?_⟩
 exact q
abbrev aM:Stmt:=vY 12 1
theorem pA:bI ["self","name","r"] ["self","name","r"] (aa aM):=⟨rfl,rfl,rfl,by decide +kernel,rfl,by decide +kernel,by decide +kernel⟩
theorem kW:(aa aM).names.lookup ("is_same":Str)=some NameKind.globalImplicit:=by decide +kernel
theorem fj:aG (aa aM) "self":=by decide +kernel
theorem fu:aG (aa aM) "name":=by decide +kernel
theorem oh:aG (aa aM) "r":=by decide +kernel
theorem kY:(("is_same":Str)==("__debug__":Str))=false:=by decide +kernel
theorem pB {f g0:Addr}{fd gd0:FuncData} (bO:fX K CN "records_for" "NamedRecords.records_for" aM ["self","name","r"] f fd)
 (fU:FnT K mg "is_same" dU ["told","thing"] g0 gd0) (Ca:aX P w K mg base CX0 12 g0 gd0 ["told","thing"] (Jc K 10)) (T:Blt mg) (nc:NrC K CN):aX P w K mg base CX0 13 f fd ["self","name","r"] (Oz CN):=by
 refine bO.F.okQ pA (fun vs H Q E h=> ?_) (fun cdv A outer s H vs Q E hr h=> ?_)
 ·obtain⟨o,dx,rcd,b,kr,rm,y,r,rfl,_⟩:=h
  rfl
 obtain⟨o,dx,rcd,b,kr,rm,y,r,rfl,eo,er,rD,hR,hg,hdp,q⟩:=h
 have kO:=nc.cl
 have nB:=nc.nB
 have lkB:List.lookup ("by_name":Str) (nrF rcd)=some (.ref rcd):=rfl
 refine⟨_,(aq (eY (El (Mm (yI (cP hr) (aj 1 fu) (bA (aj 0 fj))) (Ir (yE (bM (Ca.mono (by omega)) hr kW fU.m fU.F.kp fU.b .nil cz (aQ (aj 2 oh) (mR (cM cF (dY (cP hr) (bA (aj 0 fj)) (aj 1 fu)) aA) au)) kY))))) (aB (bR (gR (mR (dY (cP hr) (bA (aj 0 fj)) (aj 1 fu)) au)))) dz)
  (aB (bR (gR au)))), ?_⟩
 have dr:cL H rcd (.str y) (dX kr (.inr y)):=cL.k (k:= .inr y) er
 cases erm:rm y with
 | none=>
   rw[rD.w y erm] at dr
   walk_at "vs"
   intro fl hfl
   exact q fl _ (az _ hfl) hfl fun kn=> .inr ⟨ak,fun r' ps v e=>by rw[erm] at e;cases e⟩
 | some qq=>
   obtain⟨r',ps,v'⟩:=qq
   obtain⟨bb,hbb,br,l,as,e1,R1,el,hRs,_⟩:=rD.v y _ erm
   rw[hbb] at dr
   have e1:H bb=some (.tup [.ref br, .ref l, .int v']):=e1
   have R1:IsR H br r':=R1
   have hat:atI [V.ref br, .ref l, .int v'] 0=some (.ref br):=rfl
   have t1:o7 K H (.ref b) r.fM:=hR.ady
   have t2:o7 K H (.ref br) r'.fM:=R1.ady
   have dp:DpT 10 r.fM:=(r.dpT hg).mono (by omega)
   walk_at "vs"
   intro H1 s1
   have dr1:cL H1 rcd (.str y) (some (.ref bb)):=by rw[<-hbb];exact cL.k (k:= .inr y) (s1 _ _ er)
   have eo1:=s1 _ _ eo
   by_cases hrr:r=r'
   ·rw[V8 hrr]
    subst hrr
    walk_at "vs"
    intro fl hfl
    exact q fl _ (s1.trans (az _ hfl)) (same_none s1 hfl) fun kn=> .inl ⟨bb,ps,v',ak,hbb,erm,Nat.zero_le _,fun j p hj=>by omega⟩
   ·rw[V9 hrr]
    walk_at "vs"
    intro fl hfl
    exact q fl _ (s1.trans (az _ hfl)) (same_none s1 hfl) fun kn=> .inr ⟨ak,fun r2 ps2 v2 e=>by
     rw[erm] at e;cases e;exact .inl (Ne.symm hrr)⟩
abbrev bH:Stmt:=vY 13 0
theorem wB:bI ["self","r","records"] ["self","r","records"] (aa bH):=⟨rfl,rfl,rfl,by decide +kernel,rfl,by decide +kernel,by decide +kernel⟩
theorem fO:aG (aa bH) "self":=by decide +kernel
theorem lY:aG (aa bH) "r":=by decide +kernel
theorem oK:aG (aa bH) "records":=by decide +kernel
theorem mW:(aa bH).names.lookup ("Reckoning":Str)=some NameKind.globalImplicit:=by decide +kernel
theorem mX:(("Reckoning":Str)==("__debug__":Str))=false:=by decide +kernel
theorem wC {f g0:Addr}{fd gd0:FuncData} (fL:fX K CS "__init__" "Settling.__init__" bH ["self","r","records"] f fd)
 (eG:fX K CR "__init__" "Reckoning.__init__" bZ ["self","r"] g0 gd0) (wD:aX P w K mg base CX0 1 g0 gd0 ["self","r"] (Kh CR))
 (wF:Mk K CR g0) (wG:mg "Reckoning"=some (.ref CR)) (sc:SeC K CS):aX P w K mg base CX0 3 f fd ["self","r","records"] (Kq CS CR):=by
 refine fL.F.okQ wB (fun vs H Q E h=> ?_) (fun cdv A outer s H vs Q E hr h=> ?_)
 ·obtain⟨a,dx,b,fl,r,rfl,_⟩:=h
  rfl
 obtain⟨a,dx,b,fl,r,rfl,e,hR,hw,q⟩:=h
 have iY:=sc.cl
 have nR:=sc.nR
 have nF:=sc.nF
 have nP:=sc.nP
 have nK:=sc.nK
 refine⟨_,(aq (j8 (aj 0 fO) (aj 1 lY))
  (aq (j8 (aj 0 fO) (aj 2 oK))
  (aq (j8 (aj 0 fO) aA)
  (aB (j8 (aj 0 fO) (xK wF (wD.mono (by omega)) hr mW wG eG.b .nil cz (aQ (aj 1 lY) au) mX)))))), ?_⟩
 walk_at "vs"
 have F3:upd (upd (upd H a (.ins CS dx (aP "recipe" (.ref b) []))) a (.ins CS dx (aP "fitting" (.ref fl) (aP "recipe" (.ref b) [])))) a (.ins CS dx (aP "place" (.int 0) (aP "fitting" (.ref fl) (aP "recipe" (.ref b) []))))=upd H a (.ins CS dx (aP "place" (.int 0) (aP "fitting" (.ref fl) (aP "recipe" (.ref b) [])))):=by rw[ni,ni]
 rw[F3]
 have b1:But [a] H (upd H a (.ins CS dx (aP "place" (.int 0) (aP "fitting" (.ref fl) (aP "recipe" (.ref b) []))))):=But.set _ (by simp)
 have t1:jX H (upd H a (.ins CS dx (aP "place" (.int 0) (aP "fitting" (.ref fl) (aP "recipe" (.ref b) []))))):=fun p xs z=>(ao (fun y=>by rw[y,e] at z;cases z)).trans z
 have e1:upd H a (.ins CS dx (aP "place" (.int 0) (aP "fitting" (.ref fl) (aP "recipe" (.ref b) [])))) a=some (.ins CS dx (aP "place" (.int 0) (aP "fitting" (.ref fl) (aP "recipe" (.ref b) [])))):=ak
 have n1:∀{z},upd H a (.ins CS dx (aP "place" (.int 0) (aP "fitting" (.ref fl) (aP "recipe" (.ref b) [])))) z=none->H z=none:=fun z=>(gF z).2
 generalize upd H a (.ins CS dx (aP "place" (.int 0) (aP "fitting" (.ref fl) (aP "recipe" (.ref b) []))))=H1 at *
 intro rk dxr hrk hdxr hne
 have agW:(upd H1 dxr (.own rk)) rk=none:=(ao (Ne.symm hne)).trans hrk
 have S1:=(az (.own rk) hdxr).trans (az (.ins CR dxr []) agW)
 refine⟨rk,dxr,b,r,rfl,ak,(hR.tups t1).same S1,hw,fun a1 a2 a3 H2 b2 h1 h2 h3 rc2=>⟨rfl, ?_⟩⟩
 have h1:=same_none S1 h1
 have h2:=same_none S1 h2
 have h3:=same_none S1 h3
 have S2:aN H1 H2:=dH S1 (fun p hp=>by
  have:p=rk:=by simpa using hp
  rw[this];exact hrk) b2
 have e2:=S2 _ _ e1
 have nak:a≠rk:=fun z=>by rw[<-z,e1] at hrk;cases hrk
 have na1:a≠a1:=fun z=>by rw[<-z,e1] at h1;cases h1
 have na2:a≠a2:=fun z=>by rw[<-z,e1] at h2;cases h2
 have na3:a≠a3:=fun z=>by rw[<-z,e1] at h3;cases h3
 walk_at "vs"
 have t3:jX H2 (upd H2 a (.ins CS dx (aP "reckoning" (.ref rk) (aP "place" (.int 0) (aP "fitting" (.ref fl) (aP "recipe" (.ref b) [])))))):=fun p xs z=>(ao (fun y=>by rw[y,e2] at z;cases z)).trans z
 refine q ⟨a,dx,b,fl,rk,dxr,a1,a2,a3,0⟩ _ ((b1.trans (But.of_same S2)).trans (But.set _ (by simp))) rfl rfl rfl rfl ak (rc2.move (S:=[a]) (But.set _ (by simp)) t3 ?_) ?_
 ·intro z hz w
  have w:z=a:=by simpa using w
  have hz:z=rk\/z=a1\/z=a2\/z=a3:=by simpa using hz
  rcases hz with y | y | y | y
  ·exact nak (w.symm.trans y)
  ·exact na1 (w.symm.trans y)
  ·exact na2 (w.symm.trans y)
  ·exact na3 (w.symm.trans y)
 ·intro z hz
  have hz:z=rk\/z=a1\/z=a2\/z=a3:=by simpa using hz
  rcases hz with rfl | rfl | rfl | rfl
  ·exact n1 hrk
  ·exact n1 h1
  ·exact n1 h2
  ·exact n1 h3
end
section
local macro_rules | `(tactic| walk_at "side") => `(tactic| first | exact xP _ _ _ _ | exact uh _ _ _ _ | exact xQ _ _ _ _ | exact o9 _ _ _ _ | exact (gq _ _ _ _).1 | exact (gq _ _ _ _).2.1 | exact (gq _ _ _ _).2.2.1 | exact (gq _ _ _ _).2.2.2 | exact zU _ _ _ | exact Nat.le_of_ble_eq_true rfl)
variable {P:Program}{w:World}{K:PySem.W.Frag}{mg:Str->Option Value}{base:Heap}{CN CS CR:Addr}
abbrev bu:Stmt:=vY 13 3
theorem qQ:bI ["self"] ["self"] (aa bu):=⟨rfl,rfl,rfl,by decide +kernel,rfl,by decide +kernel,by decide +kernel⟩
theorem oM:(aa bu).names.lookup ("len":Str)=some NameKind.globalImplicit:=by decide +kernel
theorem oA:aG (aa bu) "self":=by decide +kernel
theorem oN:("len":Str)≠"__name__":=by decide +kernel
theorem oO:(("len":Str)==("__debug__":Str))=false:=by decide +kernel
def T5 (CS:Addr):Sp:=fun vs H Q _=>∃(s dx b fl rk:Addr) (k:Nat) (xs:List V),vs=[.ref s]/\H s=some (.ins CS dx (seF b fl k rk))/\H fl=some (.lst xs)/\Q (.bl (decide (xs.length=0))) H
theorem qR {f:Addr}{fd:FuncData} (aV:fX K CS "was_reckoned" "Settling.was_reckoned" bu ["self"] f fd) (T:Blt mg) (sc:SeC K CS):aX P w K mg base CX0 1 f fd ["self"] (T5 CS):=by
 refine aV.F.okQ qQ (fun vs H Q E h=> ?_) (fun cdv A outer s H vs Q E hr h=> ?_)
 ·obtain⟨a,dx,b,fl,rk,k,xs,rfl,_⟩:=h
  rfl
 obtain⟨a,dx,b,fl,rk,k,xs,rfl,e,ef,q⟩:=h
 have iY:=sc.cl
 have nF:=sc.nF
 refine⟨_,(aB (bR (Ej gH (cN gU oM T.uW oG (Mz (bA (aj 0 oA)) au) oN oO) aA (bB _)))), ?_⟩
 walk_at "vs"
 have:decide (V.int (xs.length:Int)=V.int 0)=decide (xs.length=0):=by
  by_cases z:xs.length=0
  ·rw[decide_eq_true z,z];rfl
  ·rw[decide_eq_false z]
   exact decide_eq_false fun w=>z (by have:=V.int.inj w;omega)
 rw[this]
 exact q
abbrev di:Stmt:=vY 13 2
theorem yV:bI ["self","worth"] ["self","worth"] (aa di):=⟨rfl,rfl,rfl,by decide +kernel,rfl,by decide +kernel,by decide +kernel⟩
theorem gb:aG (aa di) "self":=by decide +kernel
theorem yW {f:Addr}{fd:FuncData} (fB:fX K CS "fit_on" "Settling.fit_on" di ["self","worth"] f fd) (sc:SeC K CS):aX P w K mg base CX0 1 f fd ["self","worth"] (Ye CS):=by
 refine fB.F.okQ yV (fun vs H Q E h=> ?_) (fun cdv A outer s H vs Q E hr h=> ?_)
 ·obtain⟨a,dx,b,fl,rk,rb,br,l,k,as,ps,v,w',u,x,rfl,_⟩:=h
  rfl
 obtain⟨a,dx,b,fl,rk,rb,br,l,k,as,ps,v,w',u,x,rfl,e,ef,erb,el,hRs,hk,q⟩:=h
 have iY:=sc.cl
 have nF:=sc.nF
 have nP:=sc.nP
 refine⟨_,(aq (j8 (aj 0 gb) (zT rfl (n:=1) (fr:=[1,0]) (N:=["record","worth","self"]) (Hq (scX:=aa di) (NX:=["self","worth"]) rfl rfl (by decide +kernel)) (xG (bA (aj 0 gb))) (fun _ _ _ _ _=>(qgx (i:=0) (show List.Nodup (α:=Str) ["record","worth","self"] by decide) (Io (by decide +kernel)))) (fun _ _ _ _ _=>(Mt (cQ gH (cM (Kc (K:=K) rfl) (cM (xJ (K:=K) rfl) (cM (Kc (K:=K) rfl) (aj 0 (nH.ok (by decide +kernel))) aA) (Wb (K:=K) rfl (aj 2 (nH.ok (by decide +kernel))))) aA) (aj 1 (nH.ok (by decide +kernel))) (bB _)))) (fun _ _ _ _ _=>(aj 0 (nH.ok (by decide +kernel))))))
  (aB (j8 (aj 0 gb) (bz iI (bA (aj 0 gb)) aA)))), ?_⟩
 have hkl:k<ps.length:=(List.getElem?_eq_some_iff.mp hk).1
 have hka:k<as.length:=by rw[hRs.length];exact hkl
 have hae:as[k]? =some as[k]:=List.getElem?_eq_getElem hka
 obtain⟨p,hp,ep⟩:=hRs.get k _ hae
 rw[hk] at hp
 cases hp
 have ep:H as[k]=some (.tup [.str x, .int u]):=ep
 have a1:atI [V.ref br, .ref l, .int v] 1=some (.ref l):=rfl
 have a2:atI (as.map V.ref) (k:Int)=some (.ref as[k]):=lB (by rw[List.getElem?_map,hae];rfl)
 have a3:atI [V.str x, .int u] 1=some (.int u):=rfl
 walk_at "vs"
 intro D hD
 have sD:=az (.lst []) hD
 refine Hr (xs:=[.ref rb]) (fun i σ' H'=>(∃t,σ'=[t,some (.int w'),some (.ref a)])/\aN H H'/\H' D=some (.lst (if i=0 then [] else if u=w' then [.ref rb] else []))) ?_ ?_ ?_ ?_
 ·exact⟨⟨none,rfl⟩,sD,ak⟩
 ·intro i σ' H' _ hP
  exact SqL.of (hP.2.1 _ _ ef)
 ·intro i y σ' H' hy hP
  obtain⟨⟨t,rfl⟩,S1,eD⟩:=hP
  obtain⟨rfl,rfl⟩:i=0/\y= .ref rb:=by
   match i,hy with
   | 0,hy=>exact⟨rfl,(Option.some.inj hy).symm⟩
   | i+1,hy=>simp at hy
  rw[if_pos rfl] at eD
  have e1:=S1 _ _ e
  have aim:=S1 _ _ erb
  have el1:=S1 _ _ el
  have ep1:=S1 _ _ ep
  have hz:([]:List V).length<sizeLine:=bY (by simp)
  walk_at "vs"
  refine vK (fun c=> ?_) (fun c=> ?_)
  ·have c:u=w':=V.int.inj (of_decide_eq_true c)
   walk_at "vs"
   refine⟨⟨_,rfl⟩,rT _ hD S1, ?_⟩
   rw[if_neg (by decide),if_pos c];exact ak
  ·have c:¬u=w':=fun z=>c (decide_eq_true (by rw[z]))
   refine⟨⟨_,rfl⟩,S1, ?_⟩
   rw[if_neg (by decide),if_neg c];exact eD
 ·intro σ' H1 hP
  obtain⟨_,S1,eD⟩:=hP
  rw[show(if([V.ref rb]:List V).length=0 then([]:List V) else if u=w' then [.ref rb] else [])=if u=w' then [.ref rb] else [] from if_neg (by simp)] at eD
  have e1:=S1 _ _ e
  have naD:a≠D:=fun z=>by rw[z,hD] at e;cases e
  walk_at "vs"
  refine q D _ ((But.of_same S1).trans ((But.set _ (by simp)).trans (But.set _ (by simp)))) hD ak ?_
  rw[ao (Ne.symm naD),ao (Ne.symm naD)];exact eD
end
section
local macro_rules | `(tactic| walk_at "side") => `(tactic| first | exact xP _ _ _ _ | exact uh _ _ _ _ | exact xQ _ _ _ _ | exact o9 _ _ _ _ | exact (gq _ _ _ _).1 | exact (gq _ _ _ _).2.1 | exact (gq _ _ _ _).2.2.1 | exact (gq _ _ _ _).2.2.2 | exact zU _ _ _ | exact Nat.le_of_ble_eq_true rfl)
variable {P:Program}{w:World}{K:PySem.W.Frag}{mg:Str->Option Value}{base:Heap}{CN CS CR:Addr}
abbrev bf:Stmt:=vY 13 1
theorem kh:bI ["self","known","reads","name"] ["self","known"] (aa bf):=⟨rfl,rfl,rfl,by decide +kernel,rfl,by decide +kernel,by decide +kernel⟩
theorem cV:aG (aa bf) "self":=by decide +kernel
theorem qx:Loc (aa bf) "reads":=by decide +kernel
theorem sV:(aa bf).names.lookup ("len":Str)=some NameKind.globalImplicit:=by decide +kernel
theorem j7:aG (aa bf) "reads":=by decide +kernel
theorem sW:("len":Str)≠"__name__":=by decide +kernel
theorem sX:(("len":Str)==("__debug__":Str))=false:=by decide +kernel
theorem qT:Loc (aa bf) "name":=by decide +kernel
theorem iQ:aG (aa bf) "name":=by decide +kernel
theorem iG:aG (aa bf) "known":=by decide +kernel
theorem xW {f g0 g1:Addr}{fd gd0 gd1:FuncData} (d9:fX K CS "lacking" "Settling.lacking" bf ["self","known"] f fd)
 (fB:fX K CS "fit_on" "Settling.fit_on" di ["self","worth"] g0 gd0) (Ae:aX P w K mg base CX0 1 g0 gd0 ["self","worth"] (Ye CS))
 (dN:fX K CR "lacking" "Reckoning.lacking" bG ["self","known"] g1 gd1) (xX:aX P w K mg base CX0 3 g1 gd1 ["self","known"] (R4 CR))
 (T:Blt mg) (sc:SeC K CS) (rcC:RkC K CR):aX P w K mg base CX0 4 f fd ["self","known"] (HJ CS CR):=by
 refine d9.F.okQ kh (fun vs H Q E h=> ?_) (fun cdv A0 outer s H vs Q E hr h=> ?_)
 ·obtain⟨A,d,kr,rm,y,r,kn,rfl,_⟩:=h
  rfl
 obtain⟨A,d,kr,rm,y,r,kn,rfl,se,rD,rf,rcg,⟨kvs,ed,hkn⟩,nd3,hfn,q⟩:=h
 have iY:=sc.cl
 have nR:=sc.nR
 have nF:=sc.nF
 have nP:=sc.nP
 have nK:=sc.nK
 have lF:=rcC.cl
 refine⟨_,(aq (En PassesOwn.never (Ek (bA (aj 0 cV))) (aq (bV (i:=2) kh.nd rfl qx (cM cF (cM fY (bA (aj 0 cV)) aA) aA))
  (aq (eY (cQ gH (bA (aj 0 cV)) (cN gU sV T.uW oG (aQ (aj 2 j7) au) sW sX) (bB _)) (aB (bR Bq)) dz)
  (aq (bV (i:=3) kh.nd rfl qT (cM cF (cM fY (aj 2 j7) (bA (aj 0 cV))) aA))
  (aq (eY (xM (cP hr) (aj 3 iQ) (aj 1 iG)) (aB (bR (aj 3 iQ))) dz)
  (aB (iz (o8 (aj 0 cV) iY fB.m (Ae.mono (by omega)) hr fB.b .nil cz (mR (dY (cP hr) (aj 1 iG) (aj 3 iQ)) au)))))))))
  (aB (bR (o8 (bA (aj 0 cV)) lF dN.m (xX.mono (by omega)) hr dN.b .nil cz (aQ (aj 1 iG) au))))), ?_⟩
 have nds:d∉[A.s]:=fun z=>by
  have z:d=A.s:=by simpa using z
  have:=se.e
  rw[<-z,ed] at this;cases this
 refine⟨fun m σ H'=>∃(A1:SeD) (t1 t2:Option V),σ=[some (.ref A.s),some (.ref d),t1,t2]/\But [A.s] H H'/\um CS CR kr rm y r kn A1 H'/\A1.s=A.s/\A1.b=A.b/\A1.rk=A.rk/\A1.a1=A.a1/\A1.a2=A.a2/\A1.a3=A.a3/\A1.dx=A.dx/\(A1.fl=A.fl\/H A1.fl=none)/\m=1000 - A1.k,
  ⟨_,A,none,none,rfl,But.refl _ _,se,rfl,rfl,rfl,rfl,rfl,rfl,rfl, .inl rfl,rfl⟩, ?_⟩
 rintro m σ H1 ⟨A1,t1,t2,rfl,b1,se1,es,eb,erk,ea1,ea2,ea3,edx,efl,rfl⟩
 have e1:=se1.e
 rw[es] at e1
 have tp1:jX H H1:=fun p xs z=>b1 p _ (fun w=>by
  have w:p=A.s:=by simpa using w
  have:=se.e
  rw[<-w,z] at this;cases this) z
 have ed1:=b1 _ _ nds ed
 have rD1:uv H1 kr rm:=rD.map fun b' q' z=>z.but b1 tp1 (fun y hy=> .inr fun xs w=>by
  have w':y=A.s:=by simpa using hy
  have:=se.e
  rw[<-w',w] at this;cases this)
 have fin:∀H2,But [A.s] H1 H2->But A.ft H H2:=fun H2 b=>(b1.trans b).mono (by simp[SeD.ft])
 rcases se1.f with⟨rb,ps,v,GF,hval,hrm,hkle,hall⟩ | ⟨GF,nof⟩
 ·obtain⟨bb,hbb,br,l,as,f1,R1,el,hRs,_⟩:=rD1.v y _ hrm
  rw[hval] at hbb
  cases hbb
  have f1:H1 rb=some (.tup [.ref br, .ref l, .int v]):=f1
  have hRs:jZ H1 as ps:=hRs
  have got:=rf ps v hrm
  have hpl:ps.length<=900:=Nat.le_trans (Kv got.c r.uo) rcg.l
  have a0:atI [V.ref rb] 0=some (.ref rb):=rfl
  have a1:atI [V.ref br, .ref l, .int v] 1=some (.ref l):=rfl
  have hlm:(as.map V.ref).length=ps.length:=by rw[List.length_map];exact hRs.length
  walk_at "vs"
  refine⟨fun σ' H'=>∃(A2:SeD) (t1 t2:Option V),σ'=[some (.ref A.s),some (.ref d),t1,t2]/\But [A.s] H H'/\um CS CR kr rm y r kn A2 H'/\A2.s=A.s/\A2.b=A.b/\A2.rk=A.rk/\A2.a1=A.a1/\A2.a2=A.a2/\A2.a3=A.a3/\A2.dx=A.dx/\(A2.fl=A.fl\/H A2.fl=none)/\A2.k=A1.k+1,fun σ' H' ⟨A2,t1,t2,z1,z2,z3,z4,z5,z6,z7,z8,z9,z10,z11,z12⟩=>⟨1000 - A2.k,by omega,A2,t1,t2,z1,z2,z3,z4,z5,z6,z7,z8,z9,z10,z11,rfl⟩, ?_⟩
  walk_at "vs"
  refine vK (fun c=> ?_) (fun c=> ?_)
  ·have c:A1.k=ps.length:=by have:=V.int.inj (of_decide_eq_true c);omega
   walk_at "vs"
   refine(q A1 H1 (fin H1 (But.refl _ _)) es eb erk ea1 ea2 ea3 efl se1).1 (.inl ⟨rb,ps,v,GF,hval,hrm,fun p hp=> ?_⟩)
   obtain⟨j,hj⟩:=List.getElem?_of_mem hp
   exact hall j p (by rw[c];exact(List.getElem?_eq_some_iff.mp hj).1) hj
  ·have c:A1.k<ps.length:=by
    have:¬A1.k=ps.length:=fun z=>c (decide_eq_true (by rw[hlm,z]))
    omega
   have hka:A1.k<as.length:=by rw[hRs.length];exact c
   have hae:as[A1.k]? =some as[A1.k]:=List.getElem?_eq_getElem hka
   obtain⟨⟨x,u⟩,hp,ep⟩:=hRs.get A1.k _ hae
   have ep:H1 as[A1.k]=some (.tup [.str x, .int u]):=ep
   have a2:atI (as.map V.ref) (A1.k:Int)=some (.ref as[A1.k]):=lB (by rw[List.getElem?_map,hae];rfl)
   have a3:atI [V.str x, .int u] 0=some (.str x):=rfl
   have dw:cL H1 d (.str x) ((kn x).map V.int):=by rw[<-hkn];exact cL.k (k:= .inr x) ed1
   cases ekn:kn x with
   | none=>
     rw[ekn] at dw
     have dw:cL H1 d (.str x) none:=dw
     walk_at "vs"
     exact(q A1 H1 (fin H1 (But.refl _ _)) es eb erk ea1 ea2 ea3 efl se1).2 x ekn (M4 got.c hp hall)
   | some w'=>
     rw[ekn] at dw
     have dw:cL H1 d (.str x) (some (.int w')):=dw
     walk_at "vs"
     intro fl' H2 b2 hfl' e2 QZ
     have hs1:∀xs,H1 A.s≠some (.lst xs):=fun xs z=>by rw[e1] at z;cases z
     have tp2:jX H1 H2:=fun p xs z=>b2 p _ (fun w=>by
      have w:p=A.s:=by simpa using w
      rw[w,e1] at z;cases z) z
     obtain⟨cf,rc1,rch⟩:=se1.c
     have hns:∀{z:Addr},z≠A.s->z∉[A.s]:=fun h w=>h (by simpa using w)
     have nrk:A1.rk≠A.s:=fun z=>se1.n1 (by rw[es,z])
     have n1:A1.a1≠A.s:=fun z=>by obtain⟨ws,w1,_⟩:=rc1.e1;rw[z,e1] at w1;cases w1
     have n2:A1.a2≠A.s:=fun z=>by have w1:=rc1.e2;rw[z,e1] at w1;cases w1
     have n3:A1.a3≠A.s:=fun z=>by have w1:=rc1.e3;rw[z,e1] at w1;cases w1
     have f1n:fl'≠A1.a1:=fun z=>by obtain⟨ws,w1,_⟩:=rc1.e1;rw[<-z,hfl'] at w1;cases w1
     have f2n:fl'≠A1.a2:=fun z=>by have w1:=rc1.e2;rw[<-z,hfl'] at w1;cases w1
     refine⟨⟨A.s,A1.dx,A1.b,fl',A1.rk,A1.dxr,A1.a1,A1.a2,A1.a3,A1.k+1⟩,_,_,rfl,b1.trans b2,⟨e2,se1.hr.tups tp2,⟨cf,rc1.move b2 tp2 (fun z hz=> ?_),rch⟩, ?_,fun z=>nrk z.symm,f1n,f2n⟩,rfl,eb,erk,ea1,ea2,ea3,edx, .inr ?_,rfl⟩
     ·have hz:z=A1.rk\/z=A1.a1\/z=A1.a2\/z=A1.a3:=by simpa using hz
      rcases hz with rfl | rfl | rfl | rfl
      ·exact hns nrk
      ·exact hns n1
      ·exact hns n2
      ·exact hns n3
     ·by_cases huw:u=w'
      ·rw[if_pos huw] at QZ
       refine .inl ⟨rb,ps,v,QZ,hval,hrm,c,fun j p hj hpj=> ?_⟩
       have hj:j<A1.k+1:=hj
       by_cases hjk:j=A1.k
       ·rw[hjk,hp] at hpj;cases hpj
        rw[ekn,huw]
       ·exact hall j p (by omega) hpj
      ·rw[if_neg huw] at QZ
       refine .inr ⟨QZ,fun r2 ps2 v2 e=> ?_⟩
       rw[hrm] at e;cases e
       exact .inr ⟨(x,u),List.mem_of_getElem? hp,w',ekn,fun z=>huw z.symm⟩
     ·exact Ey b1 hfl' (hns (show fl'≠A.s from fun z=>by rw[z,e1] at hfl';cases hfl'))
 ·obtain⟨cf,rc1,rch⟩:=se1.c
  have ain:=rc1.e
  obtain⟨nn,cf',hst,hhalt,rch',gg⟩:=rch.adD hfn
  have knA:R3 H1 d kn:=⟨kvs,ed1,hkn⟩
  have aio:d≠A1.a3:=by rw[ea3];exact nd3
  walk_at "vs"
  intro H2 b2 rc2
  have tp2:=rc1.lists b2
  have nss:A1.s∉[A1.a1,A1.a2,A1.a3]:=fun z=>by
   have e1:=se1.e
   have z:A1.s=A1.a1\/A1.s=A1.a2\/A1.s=A1.a3:=by simpa using z
   rcases z with z | z | z
   ·obtain⟨ws,w1,_⟩:=rc1.e1;rw[z,w1] at e1;cases e1
   ·rw[z,rc1.e2] at e1;cases e1
   ·rw[z,rc1.e3] at e1;cases e1
  have nfl:A1.fl∉[A1.a1,A1.a2,A1.a3]:=fun z=>by
   have z:A1.fl=A1.a1\/A1.fl=A1.a2\/A1.fl=A1.a3:=by simpa using z
   rcases z with z | z | z
   ·exact se1.n2 z
   ·exact se1.n3 z
   ·rw[z,rc1.e3] at GF;cases GF
  have se2:um CS CR kr rm y r kn A1 H2:=⟨b2 _ _ nss se1.e,se1.hr.tups tp2,⟨cf',rc2,rch'⟩, .inr ⟨b2 _ _ nfl GF,nof⟩,se1.n1,se1.n2,se1.n3⟩
  have bb:But A.ft H H2:=(b1.mono (by simp[SeD.ft])).trans (b2.mono (by rw[ea1,ea2,ea3];simp[SeD.ft]))
  have qq:=q A1 H2 bb es eb erk ea1 ea2 ea3 efl se2
  unfold Goes at gg
  cases eev:ev kn r with
  | inr v=>
    rw[eev] at gg
    obtain⟨g1,g2,g3,g4⟩:=gg
    exact⟨fun _=>qq.1 (.inr ⟨b2 _ _ nfl GF,nof,cf',v,rc2,g2,g3,g4⟩),fun t x z=>by rw[g1] at z;simp at z⟩
  | inl x=>
    rw[eev] at gg
    obtain⟨⟨t,g1⟩,g2,g3⟩:=gg
    refine⟨fun z=>by rw[g1] at z;simp at z,fun t' x' z=> ?_⟩
    rw[g1] at z
    obtain⟨_,z⟩:=jy z
    cases z
    exact qq.2 x g2 g3
end
section
local macro_rules | `(tactic| walk_at "side") => `(tactic| first | exact xP _ _ _ _ | exact uh _ _ _ _ | exact xQ _ _ _ _ | exact o9 _ _ _ _ | exact (gq _ _ _ _).1 | exact (gq _ _ _ _).2.1 | exact (gq _ _ _ _).2.2.1 | exact (gq _ _ _ _).2.2.2 | exact zU _ _ _ | exact Eu _ _ _ | exact Ew _ _ _ | exact Nat.le_of_ble_eq_true rfl)
variable {P:Program}{w:World}{K:PySem.W.Frag}{mg:Str->Option Value}{base:Heap}{CN CS CR:Addr}
abbrev bQ:Stmt:=vY 13 4
theorem uC:bI ["self"] ["self"] (aa bQ):=⟨rfl,rfl,rfl,by decide +kernel,rfl,by decide +kernel,by decide +kernel⟩
theorem bJ:aG (aa bQ) "self":=by decide +kernel
theorem jJ:(aa bQ).names.lookup ("list":Str)=some NameKind.globalImplicit:=by decide +kernel
theorem pC:("list":Str)≠"__name__":=by decide +kernel
theorem pD:(("list":Str)==("__debug__":Str))=false:=by decide +kernel
theorem uD {f g0:Addr}{fd gd0:FuncData} (cW:fX K CS "new_record" "Settling.new_record" bQ ["self"] f fd)
 (aV:fX K CS "was_reckoned" "Settling.was_reckoned" bu ["self"] g0 gd0) (iZ:aX P w K mg base CX0 1 g0 gd0 ["self"] (T5 CS))
 (T:Blt mg) (sc:SeC K CS) (rcC:RkC K CR):aX P w K mg base CX0 2 f fd ["self"] (OD CS CR):=by
 refine cW.F.okQ uC (fun vs H Q E h=> ?_) (fun cdv A0 outer s H vs Q E hr h=> ?_)
 ·obtain⟨A,kr,rm,y,r,kn,rfl,_⟩:=h
  rfl
 obtain⟨A,kr,rm,y,r,kn,rfl,e,rD,rf,rcg,se,q⟩:=h
 have iY:=sc.cl
 have nR:=sc.nR
 have nF:=sc.nF
 have nP:=sc.nP
 have nK:=sc.nK
 have lF:=rcC.cl
 have nFo:=rcC.nF
 have nRe:=rcC.nR
 refine⟨_,(aq (eY (yE (Et (aj 0 bJ) iY aV.m (iZ.mono (by omega)) hr aV.b .nil cz)) (aB (bR (jn (Mz (bA (aj 0 bJ)) (vQ (aaQ rfl (bA (bA (aj 0 bJ))) jJ T.Bv) (mR (cM fY (bA (bA (aj 0 bJ))) aA) au)))))) dz)
  (aB (bR (jn (Mz (bA (aj 0 bJ)) (vQ (pK yG jJ T.Bv xr (mR (cM cF (cM fY (bA (aj 0 bJ)) aA) aA) au) pC pD) (mR (cM cF (cM fY (bA (aj 0 bJ)) aA) aA) au))))))), ?_⟩
 rcases se with⟨rb,ps,v,efl,hval,hrm,hall⟩ | ⟨efl,nof,c,v,rc1,hfo,got,rows⟩
 ·obtain⟨bb,hbb,br,l,as,f1,R1,el,hRs,_⟩:=rD.v y _ hrm
  rw[hval] at hbb
  cases hbb
  have f1:H rb=some (.tup [.ref br, .ref l, .int v]):=f1
  have hRs:jZ H as ps:=hRs
  have got:=rf ps v hrm
  have hpl:ps.length<=900:=Nat.le_trans (Kv got.c r.uo) rcg.l
  have a0:atI [V.ref rb] 0=some (.ref rb):=rfl
  have a1:atI [V.ref br, .ref l, .int v] 1=some (.ref l):=rfl
  have a2:atI [V.ref br, .ref l, .int v] 2=some (.int v):=rfl
  walk_at "vs"
  intro l' hl'
  have s1:=az (.lst (as.map V.ref)) hl'
  have el1:upd H l' (.lst (as.map V.ref)) l'=some (.lst (as.map V.ref)):=ak
  have e1:=s1 _ _ e
  have GF:=s1 _ _ efl
  have f11:=s1 _ _ f1
  generalize upd H l' (.lst (as.map V.ref))=H1 at *
  walk_at "vs"
  intro rb' hrb'
  have s2:=az (.tup [.ref A.b, .ref l', .int v]) hrb'
  exact q rb' l' as ps v false _ (s1.trans s2) ak hl' (s2 _ _ el1) (hRs.same (s1.trans s2)) ⟨got,⟨hall,(xN got.c).2⟩,hrm⟩ ⟨_,s2 _ _ GF,rfl⟩
 ·have e1:=rc1.e
  have e2:=rc1.e2
  rw[hfo] at e2
  have e3:=rc1.e3
  have a0:atI [V.int v] 0=some (.int v):=rfl
  walk_at "vs"
  intro l' as H1 s1 hl' el1 hal hit
  have e1':=s1 _ _ e1
  have e2':H1 A.a2=some (.lst [.int v]):=s1 _ _ e2
  have eS:=s1 _ _ e
  have GF:=s1 _ _ efl
  walk_at "vs"
  intro rb' hrb'
  have s2:=az (.tup [.ref A.b, .ref l', .int v]) hrb'
  have hR:jZ H1 as c.rds:=Ks (by rw[hal];unfold rdK;rw[List.length_map]) fun j b p h1 h2=>by
   have h3:(rdK c.rds)[j]? =some (.inr p.1, .int p.2):=by unfold rdK;rw[List.getElem?_map,h2];rfl
   exact hit j b _ h1 h3
  exact q rb' l' as c.rds v true _ (s1.trans s2) ak hl' (s2 _ _ el1) (hR.same s2) ⟨got,rows,nof⟩ ⟨_,s2 _ _ GF,rfl⟩
end
section
local macro_rules | `(tactic| walk_at "side") => `(tactic| first | exact zX _ _ _ _ _ _ | exact uq _ _ _ _ _ _ | exact Je _ _ _ _ _ _ | exact zY _ _ _ _ _ _ | exact ur _ _ _ _ _ _ | exact qy _ _ _ _ _ _ | exact (iW _ _ _ _ _ _).1 | exact (iW _ _ _ _ _ _).2.1 | exact (iW _ _ _ _ _ _).2.2.1 | exact (iW _ _ _ _ _ _).2.2.2.1 | exact (iW _ _ _ _ _ _).2.2.2.2 | exact (BJ _).1 | exact (BJ _).2 | exact (gq _ _ _ _).1 | exact (gq _ _ _ _).2.2.1 | exact (gq _ _ _ _).2.2.2 | exact Nat.le_of_ble_eq_true rfl)
variable {P:Program}{w:World}{K:PySem.W.Frag}{mg:Str->Option Value}{base:Heap}{CSe CN CS CR CM CNo CRi:Addr}
abbrev cG:Stmt:=vY 14 0
theorem yX:bI ["self","house","old"] ["self","house","old"] (aa cG):=⟨rfl,rfl,rfl,by decide +kernel,rfl,by decide +kernel,by decide +kernel⟩
theorem dm:aG (aa cG) "self":=by decide +kernel
theorem kZ:aG (aa cG) "house":=by decide +kernel
theorem uE:aG (aa cG) "old":=by decide +kernel
theorem yZ {f:Addr}{fd:FuncData} (gf:fX K CSe "__init__" "Search.__init__" cG ["self","house","old"] f fd) (sc:SrC K CSe):aX P w K mg base CX0 1 f fd ["self","house","old"] (Kw CSe):=by
 refine gf.F.okQ yX (fun vs H Q E h=> ?_) (fun cdv A outer s H vs Q E hr h=> ?_)
 ·obtain⟨a,dx,h,g,c,o,rfl,_⟩:=h
  rfl
 obtain⟨a,dx,h,g,c,o,rfl,e,eh,q⟩:=h
 have nu:=sc.cl
 have nG:=sc.nG
 have nR:=sc.nR
 have nO:=sc.nO
 have nK:=sc.nK
 have nS:=sc.nS
 have nM:=sc.nM
 refine⟨_,(aq (j8 (aj 0 dm) (cM cF (aj 1 kZ) aA))
  (aq (j8 (aj 0 dm) (cM cF (aj 1 kZ) aA))
  (aq (j8 (aj 0 dm) (aj 2 uE))
  (aq (j8 (aj 0 dm) jx)
  (aq (j8 (aj 0 dm) jx)
  (aB (j8 (aj 0 dm) jx))))))), ?_⟩
 have nha:h≠a:=fun z=>by rw[z,e] at eh;cases eh
 have a0:atI [V.ref g, .ref c] 0=some (.ref g):=rfl
 have a1:atI [V.ref g, .ref c] 1=some (.ref c):=rfl
 walk_at "vs"
 rw[ni,ni]
 have b1:But [a] H (upd H a (.ins CSe dx (aP "old" (.ref o) (aP "recipes" (.ref c) (aP "given" (.ref g) []))))):=But.set _ (by simp)
 have e1:upd H a (.ins CSe dx (aP "old" (.ref o) (aP "recipes" (.ref c) (aP "given" (.ref g) [])))) a=some (.ins CSe dx (aP "old" (.ref o) (aP "recipes" (.ref c) (aP "given" (.ref g) [])))):=ak
 have n1:∀{z},upd H a (.ins CSe dx (aP "old" (.ref o) (aP "recipes" (.ref c) (aP "given" (.ref g) [])))) z=none->H z=none:=fun z=>(gF z).2
 generalize upd H a (.ins CSe dx (aP "old" (.ref o) (aP "recipes" (.ref c) (aP "given" (.ref g) []))))=H1 at *
 walk_at "vs"
 intro kd hkd
 have s2:=az (.dK []) hkd
 have ek2:upd H1 kd (.dK []) kd=some (.dK []):=ak
 have e2:=s2 _ _ e1
 generalize upd H1 kd (.dK [])=H2 at *
 have nka:kd≠a:=fun z=>by rw[z,e2] at ek2;cases ek2
 walk_at "vs"
 have b3:But [a] H2 (upd H2 a (.ins CSe dx (aP "known" (.ref kd) (aP "old" (.ref o) (aP "recipes" (.ref c) (aP "given" (.ref g) [])))))):=But.set _ (by simp)
 have e3:upd H2 a (.ins CSe dx (aP "known" (.ref kd) (aP "old" (.ref o) (aP "recipes" (.ref c) (aP "given" (.ref g) []))))) a=some (.ins CSe dx (aP "known" (.ref kd) (aP "old" (.ref o) (aP "recipes" (.ref c) (aP "given" (.ref g) []))))):=ak
 have ek3:upd H2 a (.ins CSe dx (aP "known" (.ref kd) (aP "old" (.ref o) (aP "recipes" (.ref c) (aP "given" (.ref g) []))))) kd=some (.dK []):=(ao nka).trans ek2
 have n3:∀{z},upd H2 a (.ins CSe dx (aP "known" (.ref kd) (aP "old" (.ref o) (aP "recipes" (.ref c) (aP "given" (.ref g) []))))) z=none->H2 z=none:=fun z=>(gF z).2
 generalize upd H2 a (.ins CSe dx (aP "known" (.ref kd) (aP "old" (.ref o) (aP "recipes" (.ref c) (aP "given" (.ref g) [])))))=H3 at *
 intro sd hsd
 have s4:=az (.dK []) hsd
 have es4:upd H3 sd (.dK []) sd=some (.dK []):=ak
 have nks:kd≠sd:=fun z=>by rw[<-z,ek3] at hsd;cases hsd
 have ek4:=s4 _ _ ek3
 have e4:=s4 _ _ e3
 generalize upd H3 sd (.dK [])=H4 at *
 have nsa:sd≠a:=fun z=>by rw[z,e4] at es4;cases es4
 walk_at "vs"
 have b5:But [a] H4 (upd H4 a (.ins CSe dx (aP "settled" (.ref sd) (aP "known" (.ref kd) (aP "old" (.ref o) (aP "recipes" (.ref c) (aP "given" (.ref g) []))))))):=But.set _ (by simp)
 have e5:upd H4 a (.ins CSe dx (aP "settled" (.ref sd) (aP "known" (.ref kd) (aP "old" (.ref o) (aP "recipes" (.ref c) (aP "given" (.ref g) [])))))) a=some (.ins CSe dx (aP "settled" (.ref sd) (aP "known" (.ref kd) (aP "old" (.ref o) (aP "recipes" (.ref c) (aP "given" (.ref g) [])))))):=ak
 have ek5:upd H4 a (.ins CSe dx (aP "settled" (.ref sd) (aP "known" (.ref kd) (aP "old" (.ref o) (aP "recipes" (.ref c) (aP "given" (.ref g) [])))))) kd=some (.dK []):=(ao nka).trans ek4
 have es5:upd H4 a (.ins CSe dx (aP "settled" (.ref sd) (aP "known" (.ref kd) (aP "old" (.ref o) (aP "recipes" (.ref c) (aP "given" (.ref g) [])))))) sd=some (.dK []):=(ao nsa).trans es4
 have n5:∀{z},upd H4 a (.ins CSe dx (aP "settled" (.ref sd) (aP "known" (.ref kd) (aP "old" (.ref o) (aP "recipes" (.ref c) (aP "given" (.ref g) [])))))) z=none->H4 z=none:=fun z=>(gF z).2
 generalize upd H4 a (.ins CSe dx (aP "settled" (.ref sd) (aP "known" (.ref kd) (aP "old" (.ref o) (aP "recipes" (.ref c) (aP "given" (.ref g) []))))))=H5 at *
 intro rd hrd
 have s6:=az (.dK []) hrd
 have er6:upd H5 rd (.dK []) rd=some (.dK []):=ak
 have nkr:kd≠rd:=fun z=>by rw[<-z,ek5] at hrd;cases hrd
 have nsr:sd≠rd:=fun z=>by rw[<-z,es5] at hrd;cases hrd
 have ek6:=s6 _ _ ek5
 have es6:=s6 _ _ es5
 have e6:=s6 _ _ e5
 generalize upd H5 rd (.dK [])=H6 at *
 have nra:rd≠a:=fun z=>by rw[z,e6] at er6;cases er6
 walk_at "vs"
 have hk0:H kd=none:=n1 hkd
 have hs0:H sd=none:=n1 (same_none s2 (n3 hsd))
 have hr0:H rd=none:=n1 (same_none s2 (n3 (same_none s4 (n5 hrd))))
 exact q kd sd rd _ ((b1.trans (But.of_same s2)).trans (b3.trans ((But.of_same s4).trans (b5.trans ((But.of_same s6).trans (But.set _ (by simp))))))) ak hk0 hs0 hr0 nks nkr nsr ((ao nka).trans ek6) ((ao nsa).trans es6) ((ao nra).trans er6)
abbrev cH:Stmt:=vY 3 0
theorem za:bI ["self","name"] ["self","name"] (aa cH):=⟨rfl,rfl,rfl,by decide +kernel,rfl,by decide +kernel,by decide +kernel⟩
theorem oR:(aa cH).names.lookup ("MadeError":Str)=some NameKind.globalImplicit:=by decide +kernel
theorem lM:aG (aa cH) "self":=by decide +kernel
theorem lN:aG (aa cH) "name":=by decide +kernel
theorem oU:(("MadeError":Str)==("__debug__":Str))=false:=by decide +kernel
theorem zb {f:Addr}{fd:FuncData} (gh:fX K CNo "__init__" "NoName.__init__" cH ["self","name"] f fd) (xU:ExI K CNo f) (wH:ExU K CM) (pY:mg "MadeError"=some (.ref CM)) (nN:PySem.W.findIn K (.ref CNo) "name"=some none):aX P w K mg base CX0 1 f fd ["self","name"] (Yk CNo):=by
 refine gh.F.okQ za (fun vs H Q E h=> ?_) (fun cdv A outer s H vs Q E hr h=> ?_)
 ·obtain⟨e,y,rfl,_⟩:=h
  rfl
 obtain⟨e,y,rfl,ee,⟨y1,y2⟩,q⟩:=h
 refine⟨_,(aq (iz (Tg wH oR pY (aj 0 lM) (Tj (aj 1 lN) (by decide +kernel)) oU ⟨rfl,rfl,rfl,rfl⟩))
  (aB (O7 rfl (aj 0 lM) (aj 1 lN) rfl))), ?_⟩
 walk_at "vs"
 intro z hz
 refine⟨e,CNo,f,none,rfl,ee,xU, ?_⟩
 walk_at "vs"
 exact q
abbrev cR:Stmt:=vY 4 0
theorem Cd:bI ["self","ring"] ["self","ring"] (aa cR):=⟨rfl,rfl,rfl,by decide +kernel,rfl,by decide +kernel,by decide +kernel⟩
theorem pZ:(aa cR).names.lookup ("MadeError":Str)=some NameKind.globalImplicit:=by decide +kernel
theorem mK:aG (aa cR) "self":=by decide +kernel
theorem p6:(("MadeError":Str)==("__debug__":Str))=false:=by decide +kernel
theorem vg:(aa cR).names.lookup ("list":Str)=some NameKind.globalImplicit:=by decide +kernel
theorem vh:aG (aa cR) "ring":=by decide +kernel
theorem vm:("list":Str)≠"__name__":=by decide +kernel
theorem vo:(("list":Str)==("__debug__":Str))=false:=by decide +kernel
theorem Ce {f:Addr}{fd:FuncData} (iH:fX K CRi "__init__" "Ring.__init__" cR ["self","ring"] f fd) (K9:ExI K CRi f) (wH:ExU K CM) (pY:mg "MadeError"=some (.ref CM)) (nN:PySem.W.findIn K (.ref CRi) "ring"=some none) (T:Blt mg):aX P w K mg base CX0 1 f fd ["self","ring"] (Yl CRi):=by
 refine iH.F.okQ Cd (fun vs H Q E h=> ?_) (fun cdv A outer s H vs Q E hr h=> ?_)
 ·obtain⟨e,l,xs,rfl,_⟩:=h
  rfl
 obtain⟨e,l,xs,rfl,ee,el,hxl,q⟩:=h
 refine⟨_,(aq (iz (Tg wH pZ pY (aj 0 mK) aY p6 ⟨rfl,rfl,rfl,rfl⟩))
  (aB (O7 rfl (aj 0 mK) (pK yG vg T.Bv xr (aQ (aj 1 vh) au) vm vo) rfl))), ?_⟩
 walk_at "vs"
 intro l' hl'
 have nel:e≠l':=fun z=>by rw[z,hl'] at ee;cases ee
 have ee':upd H l' (.lst xs) e=some (u9 CRi none e):=(ao nel).trans ee
 walk_at "vs"
 exact fun dx hdx ne=>q l' dx hl' hdx ne
abbrev cD:Stmt:=vY 14 1
theorem uY:bI ["self","name","r"] ["self","name"] (aa cD):=⟨rfl,rfl,rfl,by decide +kernel,rfl,by decide +kernel,by decide +kernel⟩
theorem iK:aG (aa cD) "name":=by decide +kernel
theorem jR:aG (aa cD) "self":=by decide +kernel
theorem uF:(aa cD).names.lookup ("NoName":Str)=some NameKind.globalImplicit:=by decide +kernel
theorem uG:(("NoName":Str)==("__debug__":Str))=false:=by decide +kernel
theorem Af:Loc (aa cD) "r":=by decide +kernel
theorem qU:(aa cD).names.lookup ("Settling":Str)=some NameKind.globalImplicit:=by decide +kernel
theorem qF:aG (aa cD) "r":=by decide +kernel
theorem qW:(("Settling":Str)==("__debug__":Str))=false:=by decide +kernel
theorem Di {f g0 g1 g2:Addr}{fd gd0 gd1 gd2:FuncData} (ig:fX K CSe "begin" "Search.begin" cD ["self","name"] f fd)
 (bO:fX K CN "records_for" "NamedRecords.records_for" aM ["self","name","r"] g0 gd0) (p7:aX P w K mg base CX0 13 g0 gd0 ["self","name","r"] (Oz CN))
 (fL:fX K CS "__init__" "Settling.__init__" bH ["self","r","records"] g1 gd1) (xY:aX P w K mg base CX0 3 g1 gd1 ["self","r","records"] (Kq CS CR))
 (zc:Mk K CS g1) (zf:mg "Settling"=some (.ref CS)) (gh:fX K CNo "__init__" "NoName.__init__" cH ["self","name"] g2 gd2) (Ag:aX P w K mg base CX0 1 g2 gd2 ["self","name"] (Yk CNo)) (xU:ExI K CNo g2) (T6:PySem.W.isFn K (.ref g2)=true) (Wo:mg "NoName"=some (.ref CNo))
 (T:Blt mg) (sc:SrC K CSe) (nc:NrC K CN):aX P w K mg base (CXd P w) 14 f fd ["self","name"] (KZ CSe CN CS CR CNo CRi):=by
 refine ig.F.okD uY (fun vs H Q E h=> ?_) (fun cdv A0 outer s H vs Q E hr h=> ?_)
 ·obtain⟨D,gs,cs,gv,rc,kg,kc,kr,rm,y,rfl,_⟩:=h
  rfl
 obtain⟨D,gs,cs,gv,rc,kg,kc,kr,rm,y,rfl,sh,q,qe⟩:=h
 have nu:=sc.cl
 have nR:=sc.nR
 have nO:=sc.nO
 have kO:=nc.cl
 have e:=sh.e
 have ec:=sh.ec
 have eo:=sh.eo
 have er:=sh.er
 have rD:=sh.rD
 refine⟨_,(aq (eY (xM (cP hr) (aj 1 iK) (bA (aj 0 jR))) (aB (HR xU (Ag.mono (by omega)) hr T6 gh.b uF Wo (aQ (aj 1 iK) au) uG)) dz)
  (aq (bV (i:=2) uY.nd rfl Af (dY (cP hr) (bA (aj 0 jR)) (aj 1 iK)))
  (aB (bR (xK zc (xY.mono (by omega)) hr qU zf fL.b .nil cz (aQ (aj 2 qF) (vQ (o8 (bA (aj 0 jR)) kO bO.m (p7.mono (by omega)) hr bO.b .nil cz (aQ (aj 1 iK) (aQ (aj 2 qF) au))) au)) qW))))), ?_⟩
 cases hrc:rc y with
 | none=>
   obtain⟨nm,qe⟩:=qe hrc
   have dc:cL H D.c (.str y) none:=by rw[<-sh.bd.rn y hrc];exact cL.k (k:= .inr y) ec
   walk_at "vs"
   intro e he
   refine⟨e,y,rfl,ak,nm,fun dx hdx ne=>⟨rfl,dx,upd H dx (.xd [("name", .str y)]), ?_,(ao (Ne.symm ne)).trans he,qe _ _ _ (az _ ((ao ne).symm.trans hdx)) ⟨rfl,dx,rfl,ak⟩⟩⟩
   rw[su (Ne.symm ne),ni]
 | some r=>
   have q:=q r hrc
   obtain⟨br,hbr,hR⟩:=sh.bd.r y r hrc
   have rk0:=sh.bd.ok y r hrc
   have hg:=rk0.g
   have hd8:=rk0.d
   have hw:=rk0.w
   have dc:cL H D.c (.str y) (some (.ref br)):=by rw[<-hbr];exact cL.k (k:= .inr y) ec
   walk_at "vs"
   intro fl H1 s1 hfl fit
   have hR1:=hR.same s1
   walk_at "vs"
   intro a dx ha hdx hne
   have haH:(upd H1 dx (.own a)) a=none:=(ao (Ne.symm hne)).trans ha
   have S1:=(az (.own a) hdx).trans (az (.ins CS dx []) haH)
   refine⟨a,dx,br,fl,r,rfl,ak,hR1.same S1,hw,fun A H2 b2 eA eb efl ek e2 rc2 hfr=>⟨rfl, ?_⟩⟩
   have S2:aN H1 H2:=dH S1 (fun p hp=>by
    have:p=a:=by simpa using hp
    rw[this];exact ha) b2
   have Q0:∀z∈[A.rk,A.a1,A.a2,A.a3],H1 z=none:=fun z hz=>same_none S1 (hfr z hz)
   have adL:H1 fl≠none:=fun z=>by
    rcases fit kn0 with⟨rb,ps,v,w1,_⟩ | ⟨w1,_⟩
    ·rw[z] at w1;cases w1
    ·rw[z] at w1;cases w1
   rw[<-eA]
   refine q A H2 (s1.trans S2) (fun z hz=> ?_) (fun kn=>⟨?_, ?_,⟨_,rc2,⟨0, .zero⟩⟩, ?_,fun z=> ?_,fun z=> ?_,fun z=> ?_⟩)
   ·have hz:z=A.s\/z=A.fl\/z=A.rk\/z=A.a1\/z=A.a2\/z=A.a3:=by simpa [SeD.ft] using hz
    rcases hz with w | w | w | w | w | w
    ·rw[w,eA];exact same_none s1 ha
    ·rw[w,efl];exact hfl
    ·exact same_none s1 (Q0 z (by simp[w]))
    ·exact same_none s1 (Q0 z (by simp[w]))
    ·exact same_none s1 (Q0 z (by simp[w]))
    ·exact same_none s1 (Q0 z (by simp[w]))
   ·rw[eA,eb,efl,ek];exact e2
   ·rw[eb];exact hR1.same S2
   ·rw[efl,ek];exact(fit kn).at fun o e=>S2 _ _ e
   ·have:=hfr A.rk (by simp)
    rw[<-z,eA,ak] at this;cases this
   ·exact adL (by rw[<-efl,z];exact Q0 _ (by simp))
   ·exact adL (by rw[<-efl,z];exact Q0 _ (by simp))
end
section
local macro_rules | `(tactic| walk_at "side") => `(tactic| first | exact zX _ _ _ _ _ _ | exact uq _ _ _ _ _ _ | exact Je _ _ _ _ _ _ | exact zY _ _ _ _ _ _ | exact ur _ _ _ _ _ _ | exact qy _ _ _ _ _ _ | exact (iW _ _ _ _ _ _).1 | exact (iW _ _ _ _ _ _).2.1 | exact (iW _ _ _ _ _ _).2.2.1 | exact (iW _ _ _ _ _ _).2.2.2.1 | exact (iW _ _ _ _ _ _).2.2.2.2 | exact (BJ _).1 | exact (BJ _).2 | exact (gq _ _ _ _).1 | exact (gq _ _ _ _).2.2.1 | exact (gq _ _ _ _).2.2.2 | exact Nat.le_of_ble_eq_true rfl)
variable {P:Program}{w:World}{K:PySem.W.Frag}{mg:Str->Option Value}{base:Heap}{CSe CN CS CR:Addr}
abbrev dZ:Stmt:=vY 14 2
theorem yw:bI ["self","name","settling","record"] ["self","name","settling"] (aa dZ):=⟨rfl,rfl,rfl,by decide +kernel,rfl,by decide +kernel,by decide +kernel⟩
theorem wI:Loc (aa dZ) "record":=by decide +kernel
theorem lZ:aG (aa dZ) "settling":=by decide +kernel
theorem jo:aG (aa dZ) "self":=by decide +kernel
theorem lG:aG (aa dZ) "name":=by decide +kernel
theorem jT:aG (aa dZ) "record":=by decide +kernel
theorem GJ {f g0 g1 g2:Addr}{fd gd0 gd1 gd2:FuncData} (jq:fX K CSe "end" "Search.end" dZ ["self","name","settling"] f fd)
 (cW:fX K CS "new_record" "Settling.new_record" bQ ["self"] g0 gd0) (vq:aX P w K mg base CX0 2 g0 gd0 ["self"] (OD CS CR))
 (aV:fX K CS "was_reckoned" "Settling.was_reckoned" bu ["self"] g1 gd1) (iZ:aX P w K mg base CX0 1 g1 gd1 ["self"] (T5 CS))
 (cC:fX K CN "put_made" "NamedRecords.put_made" cB ["self","record"] g2 gd2) (sY:aX P w K mg base CX0 1 g2 gd2 ["self","record"] Yd)
 (T:Blt mg) (sr:SrC K CSe) (sc:SeC K CS) (nc:NrC K CN):aX P w K mg base CX0 3 f fd ["self","name","settling"] (OJ CSe CN CS CR):=by
 refine jq.F.okQ yw (fun vs H Q E h=> ?_) (fun cdv A0 outer s H vs Q E hr h=> ?_)
 ·obtain⟨H0,D,gs,cs,gv,rc,kg,kc,kr,rm,kn,rmN,rkn,od,Hf,A,y,r,rfl,_⟩:=h
  rfl
 obtain⟨H0,D,gs,cs,gv,rc,kg,kc,kr,rm,kn,rmN,rkn,od,Hf,A,y,r,rfl,sh,so,e,hR,se,hkn,hgv,hrc,hft,q⟩:=h
 have nu:=sr.cl
 have nK:=sr.nK
 have nS:=sr.nS
 have nM:=sr.nM
 have nO:=sr.nO
 have iY:=sc.cl
 have kO:=nc.cl
 obtain⟨e0,_,_,_,eo0,_,rD0,rf0,nks,nkr,nsr⟩:=sh.same so.sm
 have rfy:∀ps v,rm y=some (r,ps,v)->nU r kn0 ps v:=fun ps v h=>rf0 y r ps v h hgv hrc
 have rcgy:=sh.bd.ok y r hrc
 refine⟨_,(aq (bV (i:=3) yw.nd rfl wI (Et (aj 2 lZ) iY cW.m (vq.mono (by omega)) hr cW.b .nil cz))
  (aq (iT (cP hr) (bA (aj 0 jo)) (aj 1 lG) (cM cF (aj 3 jT) aA))
  (aq (iT (cP hr) (bA (aj 0 jo)) (aj 1 lG) (aj 3 jT))
  (aB (eY (yE (Et (aj 2 lZ) iY aV.m (iZ.mono (by omega)) hr aV.b .nil cz)) (aq (iT (cP hr) (bA (aj 0 jo)) (aj 1 lG) zP)
  (aB (iz (o8 (bA (aj 0 jo)) kO cC.m (sY.mono (by omega)) hr cC.b .nil cz (aQ (aj 3 jT) au))))) dz))))), ?_⟩
 walk_at "vs"
 intro rb l as ps v made H1 s1 erb hl el hRs rcd ⟨xs,efl,exs⟩
 obtain⟨kw,ws,ek,kk1,hkw⟩:=so.ek
 obtain⟨ks,es,rDs,kod⟩:=so.es
 obtain⟨kk,rs,er,kk3,hkk,hrn⟩:=so.er
 have hkl:kw.length<=60:=so.kl sh.bd kk1 hkw
 have hsl:ks.length<=60:=so.sl sh.bd kod rDs.s.w
 have hrm:rmN y=none:=by
  cases z:rmN y with
  | none=>rfl
  | some q'=>
    obtain⟨r1,ps1,v1⟩:=q'
    have:=(so.ok.b y r1 ps1 v1 z).2.2.1
    rw[hkn] at this;cases this
 have hry:rkn y=false:=by
  cases z:rkn y with
  | false=>rfl
  | true=>exact absurd hrm (hrn y z)
 have hrl:kk.length<=60:=so.sl sh.bd kk3 fun x z=>by
  have:rkn x=false:=by
   cases w:rkn x with
   | false=>rfl
   | true=>exact absurd z (hrn x w)
  rw[hkk,this];rfl
 have e1:=s1 _ _ e
 have e01:=s1 _ _ e0
 have ek1:=s1 _ _ ek
 have es1:=s1 _ _ es
 have er1:=s1 _ _ er
 have eo1:=s1 _ _ eo0
 have a2:atI [V.ref A.b, .ref l, .int v] 2=some (.int v):=rfl
 obtain⟨H2,eH2⟩:∃H2,H2=upd H1 D.kd (.dK (putK kw (.inr y) (.int v))):=⟨_,rfl⟩
 have dp1:lD H1 D.kd (.str y) (.int v) H2:=by rw[eH2];exact lD.k (k:= .inr y) ek1 (bY (by omega))
 have k2:∀{z:Addr}{o:HO},z≠D.kd->H1 z=some o->H2 z=some o:=fun h h'=>by rw[eH2];exact(ao h).trans h'
 have j2:∀{z:Addr}{o:HO},H1 z=some o->(∀ks',o≠ .dK ks')->H2 z=some o:=fun{z o} h1 h2=>k2 (fun w=>by rw[w,ek1] at h1;cases h1;exact h2 _ rfl) h1
 have ek2:H2 D.kd=some (.dK (putK kw (.inr y) (.int v))):=by rw[eH2];exact ak
 have es2:=k2 (Ne.symm nks) es1
 have er2:=k2 (Ne.symm nkr) er1
 have b2:But [D.kd,D.sd,D.rd] H1 H2:=by rw[eH2];exact But.set _ (by simp)
 have e02:=j2 e01 (by simp)
 have e2:=j2 e1 (by simp)
 have eo2:=j2 eo1 (by simp)
 have QZ:=j2 efl (by simp)
 have aip:=j2 erb (by simp)
 clear eH2
 obtain⟨H3,eH3⟩:∃H3,H3=upd H2 D.sd (.dK (putK ks (.inr y) (.ref rb))):=⟨_,rfl⟩
 have dp2:lD H2 D.sd (.str y) (.ref rb) H3:=by rw[eH3];exact lD.k (k:= .inr y) es2 (bY (by omega))
 have k3:∀{z:Addr}{o:HO},z≠D.sd->H2 z=some o->H3 z=some o:=fun h h'=>by rw[eH3];exact(ao h).trans h'
 have j3:∀{z:Addr}{o:HO},H2 z=some o->(∀ks',o≠ .dK ks')->H3 z=some o:=fun{z o} h1 h2=>k3 (fun w=>by rw[w,es2] at h1;cases h1;exact h2 _ rfl) h1
 have es3:H3 D.sd=some (.dK (putK ks (.inr y) (.ref rb))):=by rw[eH3];exact ak
 have ek3:=k3 nks ek2
 have er3:=k3 (Ne.symm nsr) er2
 have b3:But [D.kd,D.sd,D.rd] H2 H3:=by rw[eH3];exact But.set _ (by simp)
 have e03:=j3 e02 (by simp)
 have e3:=j3 e2 (by simp)
 have eo3:=j3 eo2 (by simp)
 have aiq:=j3 QZ (by simp)
 have B3:But [D.kd,D.sd,D.rd] H H3:=(But.of_same s1).trans (b2.trans b3)
 clear eH3
 have gs:=Wd so.sm s1
 have gi:=We so.sm s1
 have gt:jX H1 (grow Hf H H1):=Qt
 have gk:=DP (Hf:=Hf) s1 ⟨_,ek,by simp⟩ so.fk
 have gss:=DP (Hf:=Hf) s1 ⟨_,es,by simp⟩ so.fs
 have gr:=DP (Hf:=Hf) s1 ⟨_,er,by simp⟩ so.fr
 have gl:grow Hf H H1 l=some (.lst (as.map V.ref)):=(Sx hl).trans el
 have ra:Dg [] (grow Hf H H1) rb (r,ps,v):=⟨A.b,l,as,gt _ _ erb,(hR.same s1).tups gt,gl,hRs.tups gt,by simp⟩
 have hgot:=rcd.1
 have hrows:=rcd.2.1
 have rDg:=rDs.same gs
 have hl0:H0 l=none:=by
  cases z:H0 l with
  | none=>rfl
  | some u=>have:=so.sm _ _ (so.h0 _ _ z);rw[hl] at this;cases this
 have rD':=rDg.put (x:=y) ra (gt _ _ erb) hl0 hrm (fun y' u b' br' l' v' w1 w2 w3=>by
  rintro rfl
  obtain⟨b2,h2,br2,l2,as2,x1,_,x3,_⟩:=rDs.s.v y' u w1
  rw[w2] at h2;cases h2
  have:=gs _ _ x1
  rw[w3] at this;cases this
  have:=so.sm _ _ x3
  rw[hl] at this;cases this)
 have ok':=so.ok.rY hkn hgv hrc hgot hrows
 have lek:Kn.Le kn (kn.put y v):=Kn.qK hkn
 have md':∀x r1 ps1 v1,(rmN.put y (r,ps,v)) x=some (r1,ps1,v1)->Rcd rm x r1 (kn.put y v) ps1 v1 (if x=y then made else rkn x):=fun x r1 ps1 v1 h=>by
  unfold Rm.put at h
  by_cases z:x=y
  ·rw[if_pos z] at h ⊢
   cases h
   rw[z];exact rcd.le lek
  ·rw[if_neg z] at h ⊢
   exact(so.md x r1 ps1 v1 h).le lek
 have hev:=aaN hgot hrows
 have hyo:y∉od:=kod.none.mp (rDs.s.w y hrm)
 have hyw:y∉ws:=kk1.none.mp (by rw[hkw,hkn];rfl)
 have hyr:y∉rs:=kk3.none.mp (by rw[hkk,hry];rfl)
 have adM:∀{H'},But [D.kd,D.sd,D.rd] H1 H'->aN (grow Hf H H1) H':=fun b z o h=>b z o (fun w=>by
  have w:z=D.kd\/z=D.sd\/z=D.rd:=by simpa using w
  rcases w with w | w | w
  ·rw[w,gk] at h;cases h
  ·rw[w,gss] at h;cases h
  ·rw[w,gr] at h;cases h) (gi z o h)
 have fin:∀H' kk' rs',But [D.kd,D.sd,D.rd] H1 H'->H' D.kd=some (.dK (putK kw (.inr y) (.int v)))->H' D.sd=some (.dK (putK ks (.inr y) (.ref rb)))->H' D.rd=some (.dK kk')->j9 kk' rs'->(∀x,dX kk' (.inr x)=if(if x=y then made else rkn x)=true then some (.bl true) else none)->Q .non H':=fun H' kk' rs' bb h1 h2 h3 h4 h5=>by
  refine q v ps made (grow Hf H H1) H' ((But.of_same s1).trans bb) gs (fun z m hz=>DP s1 m hz) ⟨adM bb,gk,gss,gr,⟨_,_,h1,kk1.uf hyw _,DK hkw y v⟩,⟨_,h2,rD',kod.uf hyo _⟩,⟨_,_,h3,h4,h5,fun x hx=> ?_⟩,ok',md',so.h0.trans gs⟩ hev
  unfold Rm.put
  by_cases z:x=y
  ·rw[if_pos z];simp
  ·rw[if_neg z] at hx ⊢;exact hrn x hx
 cases hm:made with
 | false=>
   rw[hm] at exs
   have hxs:decide (xs.length=0)=false:=exs
   walk_at "vs"
   rw[hxs]
   walk_at "vs"
   refine fin H3 kk rs (b2.trans b3) ek3 es3 er3 kk3 fun x=> ?_
   rw[hkk,hm]
   by_cases z:x=y
   ·rw[if_pos z,z,hry]
   ·rw[if_neg z]
 | true=>
   rw[hm] at exs
   have hxs:decide (xs.length=0)=true:=exs
   obtain⟨H4,eH4⟩:∃H4,H4=upd H3 D.rd (.dK (putK kk (.inr y) (.bl true))):=⟨_,rfl⟩
   have dp3:lD H3 D.rd (.str y) (.bl true) H4:=by rw[eH4];exact lD.k (k:= .inr y) er3 (bY (by omega))
   have k4:∀{z:Addr}{o:HO},z≠D.rd->H3 z=some o->H4 z=some o:=fun h h'=>by rw[eH4];exact(ao h).trans h'
   have j4:∀{z:Addr}{o:HO},H3 z=some o->(∀ks',o≠ .dK ks')->H4 z=some o:=fun{z o} h1 h2=>k4 (fun w=>by rw[w,er3] at h1;cases h1;exact h2 _ rfl) h1
   have er4:H4 D.rd=some (.dK (putK kk (.inr y) (.bl true))):=by rw[eH4];exact ak
   have ek4:=k4 nkr ek3
   have es4:=k4 nsr es3
   have b4:But [D.kd,D.sd,D.rd] H3 H4:=by rw[eH4];exact But.set _ (by simp)
   have e04:=j4 e03 (by simp)
   have eo4:=j4 eo3 (by simp)
   clear eH4
   walk_at "vs"
   rw[hxs]
   walk_at "vs"
   refine⟨⟨_,_,rfl⟩, ?_⟩
   refine fin H4 _ _ (b2.trans (b3.trans b4)) ek4 es4 er4 (kk3.uf hyr _) fun x=> ?_
   rw[jw,hm]
   by_cases z:x=y
   ·rw[if_pos (by rw[z]),if_pos z];rfl
   ·rw[if_neg (lV z),if_neg z];exact hkk x
end
section
local macro_rules | `(tactic| walk_at "side") => `(tactic| first | exact zX _ _ _ _ _ _ | exact uq _ _ _ _ _ _ | exact Je _ _ _ _ _ _ | exact zY _ _ _ _ _ _ | exact ur _ _ _ _ _ _ | exact qy _ _ _ _ _ _ | exact (iW _ _ _ _ _ _).1 | exact (iW _ _ _ _ _ _).2.1 | exact (iW _ _ _ _ _ _).2.2.1 | exact (iW _ _ _ _ _ _).2.2.2.1 | exact (iW _ _ _ _ _ _).2.2.2.2 | exact (BJ _).1 | exact (BJ _).2 | exact (gq _ _ _ _).1 | exact (gq _ _ _ _).2.2.1 | exact (gq _ _ _ _).2.2.2 | exact Nat.le_of_ble_eq_true rfl)
variable {P:Program}{w:World}{K:PySem.W.Frag}{mg:Str->Option Value}{base:Heap}{CSe CN CS CR CNo CRi:Addr}
abbrev aW:Stmt:=vY 14 5
theorem jb:bI ["self","name","path","begun","last","other"] ["self","name"] (aa aW):=⟨rfl,rfl,rfl,by decide +kernel,rfl,by decide +kernel,by decide +kernel⟩
theorem vz:Loc (aa aW) "path":=by decide +kernel
theorem vA:aG (aa aW) "name":=by decide +kernel
theorem uH:Loc (aa aW) "begun":=by decide +kernel
theorem cX:aG (aa aW) "path":=by decide +kernel
theorem vB:Loc (aa aW) "last":=by decide +kernel
theorem bD:aG (aa aW) "last":=by decide +kernel
theorem cY:aG (aa aW) "self":=by decide +kernel
theorem gK:aG (aa aW) "begun":=by decide +kernel
theorem uI:Loc (aa aW) "other":=by decide +kernel
theorem fD:aG (aa aW) "other":=by decide +kernel
theorem vC:(aa aW).names.lookup ("Ring":Str)=some NameKind.globalImplicit:=by decide +kernel
theorem vD:(("Ring":Str)==("__debug__":Str))=false:=by decide +kernel
theorem Cg {f g0 g1 g2 g3:Addr}{fd gd0 gd1 gd2 gd3:FuncData} (gA:fX K CSe "settle" "Search.settle" aW ["self","name"] f fd)
 (ig:fX K CSe "begin" "Search.begin" cD ["self","name"] g0 gd0) (Gh:aX P w K mg base (CXd P w) 14 g0 gd0 ["self","name"] (KZ CSe CN CS CR CNo CRi))
 (d9:fX K CS "lacking" "Settling.lacking" bf ["self","known"] g1 gd1) (zg:aX P w K mg base CX0 4 g1 gd1 ["self","known"] (HJ CS CR))
 (jq:fX K CSe "end" "Search.end" dZ ["self","name","settling"] g2 gd2) (Js:aX P w K mg base CX0 3 g2 gd2 ["self","name","settling"] (OJ CSe CN CS CR))
 (iH:fX K CRi "__init__" "Ring.__init__" cR ["self","ring"] g3 gd3) (Dj:aX P w K mg base CX0 1 g3 gd3 ["self","ring"] (Yl CRi)) (K9:ExI K CRi g3) (aaZ:PySem.W.isFn K (.ref g3)=true) (adN:mg "Ring"=some (.ref CRi))
 (T:Blt mg) (sr:SrC K CSe) (sc:SeC K CS):aX P w K mg base (CXd P w) 15 f fd ["self","name"] (HW CSe CN CNo CRi):=by
 refine gA.F.okD jb (fun vs H Q E h=> ?_) (fun cdv A0 outer s H vs Q E hr h=> ?_)
 ·obtain⟨H0,D,gs,cs,gv,rc,kg,kc,kr,rm,kn,rmN,rkn,od,Hf,x,rfl,_⟩:=h
  rfl
 obtain⟨H0,D,gs,cs,gv,rc,kg,kc,kr,rm,knI,adO,adP,odI,HfI,x,rfl,shI,soI,hx,q,qe⟩:=h
 have nu:=sr.cl
 have nG:=sr.nG
 have nK:=sr.nK
 have iY:=sc.cl
 have nle:=shI.bd.n
 have e0:=soI.sm _ _ shI.e
 refine⟨_,(aq (bV (i:=2) jb.nd rfl vz (gR (aQ (aj 1 vA) au)))
  (aq (bV (i:=3) jb.nd rfl uH jx)
  (aB (En PassesOwn.leaving (Ek (aj 2 cX)) (aq (bV (i:=4) jb.nd rfl vB (cM fY (aj 2 cX) (adk Vy aA)))
  (aq (eY (yI (cP hr) (aj 4 bD) (bA (aj 0 cY))) (aB (iT (cP hr) (bA (aj 0 cY)) (aj 4 bD) (dY (cP hr) (bA (aj 0 cY)) (aj 4 bD)))) dz)
  (aq (eY (yI (cP hr) (aj 4 bD) (bA (aj 0 cY))) (aq (iz (Br PySem.F.plainAttrs_list PySem.F.slot_list_pop PySem.F.type_list_pop xH (aj 2 cX)))
  (aB J9)) dz)
  (aq (eY (xM (cP hr) (aj 4 bD) (aj 3 gK)) (aB (iT (cP hr) (aj 3 gK) (aj 4 bD) (o8 (aj 0 cY) nu ig.m (Gh.mono (by omega)) hr ig.b .nil KR (aQ (aj 4 bD) au)))) dz)
  (aq (bV (i:=5) jb.nd rfl uI (o8 (dY (cP hr) (aj 3 gK) (aj 4 bD)) iY d9.m (zg.mono (by omega)) hr d9.b .nil cz (Mz (bA (aj 0 cY)) au)))
  (aB (eY (cQ Vz (aj 5 fD) Bq (bB _)) (aB (iz (o8 (aj 0 cY) nu jq.m (Js.mono (by omega)) hr jq.b .nil cz (aQ (aj 4 bD) (mR (dY (cP hr) (aj 3 gK) (aj 4 bD)) au))))) (aB (eY (cQ Mv (aj 5 fD) (aj 2 cX) rfl) (aB (HR K9 (Dj.mono (by omega)) hr aaZ iH.b vC adN (yH (bz Iw (rP rQ (aj 2 cX) (xF (vO PySem.F.plainAttrs_list PySem.F.slot_list_index PySem.F.type_list_index Qw (aj 2 cX) (aQ (aj 5 fD) au))) xx) (gR (aQ (aj 5 fD) au))) au) vD)) (aB (iz (vO PySem.F.plainAttrs_list PySem.F.slot_list_append PySem.F.type_list_append lE (aj 2 cX) (aQ (aj 5 fD) au))))))))))))))))), ?_⟩
 walk_at "vs"
 intro pth hpth
 have s1:=az (.lst [.str x]) hpth
 have ep1:upd H pth (.lst [.str x]) pth=some (.lst [.str x]):=ak
 have so1:=soI.same s1
 generalize upd H pth (.lst [.str x])=H1 at *
 walk_at "vs"
 intro bgd hbgd
 have s2:=az (.dK []) hbgd
 have eb2:upd H1 bgd (.dK []) bgd=some (.dK []):=ak
 have so2:=so1.same s2
 have ep2:=s2 _ _ ep1
 have S2:=s1.trans s2
 have nn:pth≠bgd:=fun z=>by rw[<-z,ep1] at hbgd;cases hbgd
 have fI:∀{z:Addr},H z=none->HfI z=none:=fun{z} h=>by
  cases q':HfI z with
  | none=>rfl
  | some o=>have:=soI.sm _ _ q';rw[h] at this;cases this
 have hb0:=same_none s1 hbgd
 have alI:∀z∈[D.kd,D.sd,D.rd],H z≠none:=fun z hz=>by
  obtain⟨kw,ws,e2,_⟩:=soI.ek
  obtain⟨ks',e3,_⟩:=soI.es
  obtain⟨kk,rs,e4,_⟩:=soI.er
  have hz:z=D.kd\/z=D.sd\/z=D.rd:=by simpa using hz
  rcases hz with rfl | rfl | rfl
  ·rw[e2];simp
  ·rw[e3];simp
  ·rw[e4];simp
 generalize upd H1 bgd (.dK [])=H2 at *
 have lp0:LpG H0 CSe CN CS CR D pth bgd gs cs gv rc kg kc kr rm knI odI HfI H x [x] knI adO adP odI (fun _=>none) HfI H2:=
  ⟨But.of_same S2,aN.refl _,fun _ _ z=>z,shI,so2,ep2,fI hpth,fI hb0,hpth,hb0,fun z=>alI _ z hpth,fun z=>alI _ z hb0,nn,by simp,by simp,fun i hi=>by
    have:i=x:=by simpa using hi
    rw[this];exact .refl,Kn.Le.refl _,fun y hy=> .inl hy,⟨⟨[],[],eb2,⟨rfl,by simp⟩,fun y=>by rw[pN];rfl⟩,fun y hy=>absurd rfl hy,fun y A hy=>(nomatch hy),fun y A hy=>(nomatch hy),fun y y' A A' _ hy=>(nomatch hy)⟩, .inl rfl,fun y A hy=>(nomatch hy),Mvs.refl _⟩
 refine⟨fun m σ H'=>∃(is:List Str) (kn:Kn) (rmN:Rm) (rkn:Str->Bool) (od:List Str) (bg:Str->Option SeD) (Hf:Hp) (t1 t2:Option V),σ=[some (.ref D.so),some (.str x),some (.ref pth),some (.ref bgd),t1,t2]/\LpG H0 CSe CN CS CR D pth bgd gs cs gv rc kg kc kr rm knI odI HfI H x is kn rmN rkn od bg Hf H'/\jN gv rc ([x],knI,odI) (is.reverse,kn,od)/\m=CV (gs++cs) kn is,
  ⟨_,[x],knI,adO,adP,odI,fun _=>none,HfI,none,none,rfl,lp0,jN.refl _,rfl⟩, ?_⟩
 rintro m σ H3 ⟨is,kn,rmN,rkn,od,bg,Hf,t1,t2,rfl,lp,mn,rfl⟩
 have ep:=lp.ep
 have e3:=lp.so.sm _ _ lp.sh.e
 have hlen:=lp.len
 rcases List.eq_nil_or_concat is with hnil | ⟨js,i,his⟩
 ·subst hnil
  have ep:H3 pth=some (.lst []):=ep
  walk_at "vs"
  have hkx:kn x≠none:=by
   rcases lp.hd with z | ⟨_,z⟩
   ·cases z
   ·exact z
  exact q kn rmN rkn od Hf H3 lp.b lp.sf lp.fm lp.so mn lp.le hkx lp.new
 ·rw[List.concat_eq_append] at his
  subst his
  have hne:((js++[i]).map V.str).isEmpty=false:=by simp
  have hla:atI ((js++[i]).map V.str) (-1)=some (.str i):=VH (by rw[List.map_append];rfl)
  have hdl:((js++[i]).map V.str).dropLast=js.map V.str:=by rw[List.map_append];exact List.dropLast_concat
  have hll:((js++[i]).map V.str)[((js++[i]).map V.str).length - 1]? =some (.str i):=by simp
  have hjl:js.length+1<=61:=by rw[List.length_append] at hlen;exact hlen
  have un:=lp.un
  rw[List.dropLast_concat] at un
  refine⟨_,rfl,true, .inl ⟨_,SqL.of ep,by simp⟩, ?_⟩
  refine(if_pos (rfl:true=true)).mpr ?_
  refine⟨fun σ' H'=>Wr (∃(is:List Str) (kn':Kn) (rmN:Rm) (rkn:Str->Bool) (od:List Str) (bg:Str->Option SeD) (Hf:Hp) (t1 t2:Option V),σ'=[some (.ref D.so),some (.str x),some (.ref pth),some (.ref bgd),t1,t2]/\LpG H0 CSe CN CS CR D pth bgd gs cs gv rc kg kc kr rm knI odI HfI H x is kn' rmN rkn od bg Hf H'/\jN gv rc ([x],knI,odI) (is.reverse,kn',od)/\CV (gs++cs) kn' is<CV (gs++cs) kn (js++[i])),fun σ' H' ⟨⟨is',kn',KC,rkn',od',bg',Hf',t1',t2',z1,z2,z4,z3⟩⟩=>⟨_,z3,is',kn',KC,rkn',od',bg',Hf',t1',t2',z1,z2,z4,rfl⟩, ?_⟩
  obtain⟨kw,ws,ek,kkw,hkw⟩:=lp.so.ek
  have hkl:=lp.so.kl lp.sh.bd kkw hkw
  have eg3:=lp.so.sm _ _ lp.sh.eg
  have hbd:=lp.sh.bd
  have fine:=hx _ mn
  have dg:cL H3 D.g (.str i) ((gv i).map V.int):=by rw[<-hbd.g];exact cL.k (k:= .inr i) eg3
  have np:=lp.np
  simp only[List.mem_cons,List.not_mem_nil,or_false,not_or] at np
  cases hgv:gv i with
  | some v=>
    rw[hgv] at dg
    have dg:cL H3 D.g (.str i) (some (.int v)):=dg
    obtain⟨so4,le4⟩:=lp.so.giv ek kkw hkw hgv lp.sh.ne
    have hi:i∈gs++cs:=List.mem_append_left _ (hbd.gm (by rw[hgv];simp))
    have b4:But [D.kd,D.sd,D.rd] H3 (upd H3 D.kd (.dK (putK kw (.inr i) (.int v)))):=But.set _ (by simp)
    obtain⟨H4,eH4⟩:∃H4,H4=upd H3 D.kd (.dK (putK kw (.inr i) (.int v))):=⟨_,rfl⟩
    have dp:lD H3 D.kd (.str i) (.int v) H4:=by rw[eH4];exact lD.k (k:= .inr i) ek (bY (by omega))
    rw[<-eH4] at so4 b4
    have hmv:Mvs gv rc ((js++[i]).reverse,kn,od) ((js++[i]).reverse,kn.put i v,od):=by
     cases hkn:kn i with
     | none=>exact(Mvs.refl _).snoc (by rw[List.reverse_append];exact M5 hkn hgv)
     | some u=>
       have e:kn.put i v=kn:=by
        have:=le4 _ _ hkn
        unfold Kn.put at this
        rw[if_pos rfl] at this
        funext y
        unfold Kn.put
        by_cases w:y=i
        ·rw[if_pos w,w,hkn,this]
        ·rw[if_neg w]
       rw[e];exact Mvs.refl _
    have lp4:=lp.know b4 (aN.refl _) (fun _ _ z=>z) so4 le4 (fun y hy=>by
     unfold Kn.put at hy
     by_cases w:y=i
     ·exact .inr w
     ·rw[if_neg w] at hy;exact .inl hy) (fun y hne h=>by unfold Kn.put;rw[if_neg hne];exact h) hmv
    have e4:=lp4.so.sm _ _ lp4.sh.e
    have ep4:=lp4.ep
    have dk4:cL H4 D.kd (.str i) (some (.int v)):=by
     obtain⟨kw4,ws4,ek4,_,hk4⟩:=lp4.so.ek
     have:dX kw4 (.inr i)=some (.int v):=by rw[hk4];unfold Kn.put;rw[if_pos rfl];rfl
     rw[<-this];exact cL.k (k:= .inr i) ek4
    have hk4:(kn.put i v) i≠none:=by unfold Kn.put;rw[if_pos rfl];simp
    have lp5:=lp4.pop hk4
    have mn4:jN gv rc ([x],knI,odI) ((js++[i]).reverse,kn.put i v,od):=by
     cases hkn:kn i with
     | none=>exact mn.snoc (by rw[List.reverse_append];exact BV hgv) (by rw[List.reverse_append];exact M5 hkn hgv)
     | some u=>
       have e:kn.put i v=kn:=by
        have:=le4 _ _ hkn
        unfold Kn.put at this
        rw[if_pos rfl] at this
        funext y
        unfold Kn.put
        by_cases w:y=i
        ·rw[if_pos w,w,hkn,this]
        ·rw[if_neg w]
       rw[e];exact mn
    have mn5:jN gv rc ([x],knI,odI) (js.reverse,kn.put i v,od):=mn4.snoc (by rw[List.reverse_append];exact BV hgv) (by rw[List.reverse_append];exact Ff hk4)
    have un4:=lp4.un
    rw[List.dropLast_concat] at un4
    have hm:=Kz (ns:=gs++cs) (js:=js) fun j hj=>(un4 j hj).1
    walk_at "vs"
    rw[hdl]
    refine⟨js,_,_,_,_,_,_,_,_,rfl,lp5,mn5, ?_⟩
    cases hkn:kn i with
    | none=>
      have hu:=Fl (v:=v) hi hkn
      rw[nW hkn]
      omega
    | some u=>
      have e:kn.put i v=kn:=by
       have:=le4 _ _ hkn
       unfold Kn.put at this
       rw[if_pos rfl] at this
       funext y
       unfold Kn.put
       by_cases w:y=i
       ·rw[if_pos w,w,hkn,this]
       ·rw[if_neg w]
      rw[e] at hm ⊢
      rw[xR (by rw[hkn];simp)]
      omega
  | none=>
    rw[hgv] at dg
    have dg:cL H3 D.g (.str i) none:=dg
    cases hkn:kn i with
    | some u=>
      have hk4:kn i≠none:=by rw[hkn];simp
      have dk4:cL H3 D.kd (.str i) (some (.int u)):=by
       have:dX kw (.inr i)=some (.int u):=by rw[hkw,hkn];rfl
       rw[<-this];exact cL.k (k:= .inr i) ek
      have lp5:=lp.pop hk4
      have mn5:jN gv rc ([x],knI,odI) (js.reverse,kn,od):=mn.snoc (by rw[List.reverse_append];exact BR hkn) (by rw[List.reverse_append];exact Ff hk4)
      have hm:=Kz (ns:=gs++cs) (js:=js) fun j hj=>(un j hj).1
      walk_at "vs"
      rw[hdl]
      refine⟨js,_,_,_,_,_,_,_,_,rfl,lp5,mn5, ?_⟩
      rw[xR hk4]
      omega
    | none=>
      have dk4:cL H3 D.kd (.str i) none:=by
       have:dX kw (.inr i)=none:=by rw[hkw,hkn];rfl
       rw[<-this];exact cL.k (k:= .inr i) ek
      obtain⟨hfnr,hnm⟩:=fine i (by rw[List.reverse_append];rfl) hkn hgv
      cases hrc:rc i with
      | none=>
        obtain⟨kb,ks,eb,kkb,hkb⟩:=lp.bgi.e
        have hA:bg i=none:=by
         cases z:bg i with
         | none=>rfl
         | some A=>exact absurd hrc (lp.bgi.nm i (by rw[z];simp))
        have db:cL H3 bgd (.str i) none:=by
         have:dX kb (.inr i)=none:=by rw[hkb,hA];rfl
         rw[<-this];exact cL.k (k:= .inr i) eb
        have sh3:=lp.sh.same lp.so.sm
        walk_at "vs"
        refine⟨fun r' hr'=>(by rw[hrc] at hr';cases hr'),fun _=>⟨hnm hrc,fun cls d H' s' er=> ?_⟩⟩
        exact qe _ _ cls d H' mn (by rw[List.reverse_append];exact aaT hkn hgv hrc) (lp.b.trans (But.of_same s')) er
      | some r=>
        have hfn:=hfnr r hrc
        have hi:i∈gs++cs:=List.mem_append_right _ (hbd.cm (by rw[hrc];simp))
        have rcgi:=hbd.ok i r hrc
        have rfi:∀ps v,rm i=some (r,ps,v)->nU r kn0 ps v:=fun ps v h=>lp.sh.rf i r ps v h hgv hrc
        obtain⟨kb,ks,eb,kkb,hkb⟩:=lp.bgi.e
        cases hA:bg i with
        | some A=>
          have db:cL H3 bgd (.str i) (some (.ref A.s)):=by
           have:dX kb (.inr i)=some (.ref A.s):=by rw[hkb,hA];rfl
           rw[<-this];exact cL.k (k:= .inr i) eb
          have lp6:=lp
          obtain⟨kb6,ks6,eb6,kk6,aa0⟩:=lp6.bgi.e
          obtain⟨r',hr',_,seo⟩:=lp6.bgi.ok i A hA hkn
          rw[hrc] at hr'
          cases hr'
          have e6:=lp6.so.sm _ _ lp6.sh.e
          have rD6:=lp6.sh.rD.same lp6.so.sm
          obtain⟨kw6,ws6,ek6,agX,aa1⟩:=lp6.so.ek
          have knA:R3 H3 D.kd kn:=⟨kw6,ek6,aa1⟩
          have nd3:D.kd≠A.a3:=fun z=>(lp6.bgi.al i A hA A.a3 (by simp[SeD.ft])).2.2 (by rw[<-z];simp)
          have db6:cL H3 bgd (.str i) (some (.ref A.s)):=by
           have:dX kb6 (.inr i)=some (.ref A.s):=by rw[aa0,hA];rfl
           rw[<-this];exact cL.k (k:= .inr i) eb6
          have eA6:=seo.e
          walk_at "vs"
          intro A' H7 b7 es eb' erk e1' e2' e3' efl so7
          have lp7:=lp6.gone hA b7 so7 hrc hgv es erk e1' e2' e3' efl
          have e7:=lp7.so.sm _ _ lp7.sh.e
          have ep7:=lp7.ep
          refine⟨fun hend=> ?_,fun z hzn hsk=> ?_⟩
          ·obtain⟨kb7,ks7,eb7,kk7,aa2⟩:=lp7.bgi.e
           have db7:cL H7 bgd (.str i) (some (.ref A'.s)):=by
            have:dX kb7 (.inr i)=some (.ref A'.s):=by rw[aa2];unfold j6;rw[if_pos rfl];rfl
            rw[<-this];exact cL.k (k:= .inr i) eb7
           have agY:=lp7.so
           have sh7:=lp7.sh
           have eA7:=so7.e
           have hR7:=so7.hr
           have hft:∀z∈A'.ft,z∉[D.kd,D.sd,D.rd]:=fun z hz w=>(lp7.bgi.al i A' (by unfold j6;rw[if_pos rfl]) z hz).2.2 (by
            simp only[List.mem_cons,List.not_mem_nil,or_false] at w ⊢
            rcases w with q | q | q
            ·exact .inr (.inr (.inl q))
            ·exact .inr (.inr (.inr (.inl q)))
            ·exact .inr (.inr (.inr (.inr q))))
           walk_at "vs"
           intro v ps made Hf' H8 b8 sf8 fm8 so8 hev
           have lp8:=lp7.know b8 sf8 fm8 so8 (Kn.qK hkn) (fun y hy=>by
            unfold Kn.put at hy
            by_cases w:y=i
            ·exact .inr w
            ·rw[if_neg w] at hy;exact .inl hy) (fun y hne h=>by unfold Kn.put;rw[if_neg hne];exact h) ((Mvs.refl _).snoc (by rw[List.reverse_append];exact Fg hgv hkn hrc hev))
           walk_at "vs"
           refine⟨_,_,_,_,_,_,_,_,_,rfl,lp8,mn.snoc (by rw[List.reverse_append];exact Jl hgv hrc hev) (by rw[List.reverse_append];exact Fg hgv hkn hrc hev), ?_⟩
           have hu:=Fl (v:=v) hi hkn
           rw[nW hkn,xR (by unfold Kn.put;rw[if_pos rfl];simp)]
           omega
          ·by_cases hj:z∈js++[i]
           ·have hin:inV (.str z) ((js++[i]).map V.str)=true:=by
             unfold inV
             rw[List.any_eq_true]
             exact⟨.str z,List.mem_map.mpr ⟨z,hj,rfl⟩,by show(z==z)=true;simp⟩
            have hfl:((js++[i]).map V.str).all uU=true:=by
             rw[List.all_eq_true]
             intro u hu
             obtain⟨k,hk,rfl⟩:=List.mem_map.mp hu
             rfl
            have hsz:((js++[i]).map V.str).length<sizeLine:=by rw[List.length_map];exact bY (by omega)
            obtain⟨agZ,ag0⟩:=HS hj
            have hmvr:kE gv rc ((js++[i]).reverse,kn,od)=some (.ring (gJ (js++[i]).reverse z)):=by
             rw[List.reverse_append]
             exact KY hkn hgv hrc (hsk.ev hzn) (by show z∈[i].reverse++js.reverse;rw[<-List.reverse_append];exact List.mem_reverse.mpr hj)
            walk_at "vs"
            rw[hin]
            walk_at "vs"
            intro p1 hp1
            rw[show Bo ((js++[i]).map V.str) (some (((js++[i]).idxOf z:Nat):Int)) none=((js++[i]).drop ((js++[i]).idxOf z)).map V.str by rw[Hy,List.map_drop]]
            have sA:=az (.lst (((js++[i]).drop ((js++[i]).idxOf z)).map V.str)) hp1
            have eA:upd H7 p1 (.lst (((js++[i]).drop ((js++[i]).idxOf z)).map V.str)) p1=some (.lst (((js++[i]).drop ((js++[i]).idxOf z)).map V.str)):=ak
            have ag1:(((js++[i]).drop ((js++[i]).idxOf z)).map V.str).length<=61:=by rw[List.length_map,List.length_drop];omega
            generalize upd H7 p1 (.lst (((js++[i]).drop ((js++[i]).idxOf z)).map V.str))=HA at *
            walk_at "vs"
            intro p2 hp2
            have sB:=az (.lst [.str z]) hp2
            have eB:upd HA p2 (.lst [.str z]) p2=some (.lst [.str z]):=ak
            have eA2:=sB _ _ eA
            generalize upd HA p2 (.lst [.str z])=HB at *
            have hcl:(((js++[i]).drop ((js++[i]).idxOf z)).map V.str).length+[V.str z].length<=sizeLine:=Nat.le_of_lt (bY (by show _+1<=1000;omega))
            walk_at "vs"
            intro p3 hp3
            have eCC:((js++[i]).drop ((js++[i]).idxOf z)).map V.str++[V.str z]=(gJ (js++[i]).reverse z).map V.str:=by
             unfold gJ
             rw[List.reverse_reverse,List.map_append];rfl
            rw[eCC]
            have hrl:((gJ (js++[i]).reverse z).map V.str).length<=1000:=by rw[<-eCC,List.length_append];show _+1<=1000;omega
            have sC:=az (.lst ((gJ (js++[i]).reverse z).map V.str)) hp3
            have eC:upd HB p3 (.lst ((gJ (js++[i]).reverse z).map V.str)) p3=some (.lst ((gJ (js++[i]).reverse z).map V.str)):=ak
            generalize upd HB p3 (.lst ((gJ (js++[i]).reverse z).map V.str))=HC at *
            walk_at "vs"
            intro e he
            have nep:p3≠e:=fun z'=>by rw[<-z',eC] at he;cases he
            refine⟨e,p3,_,rfl,ak,(ao nep).trans eC,hrl,fun l' dx hl' hdx ne=> ?_⟩
            have nel:l'≠e:=fun z'=>by rw[z',ak] at hl';cases hl'
            have hl0:HC l'=none:=(ao nel).symm.trans hl'
            have nld:dx≠l':=fun z'=>by rw[z',ak] at hdx;cases hdx
            have hd0:upd HC l' (.lst ((gJ (js++[i]).reverse z).map V.str)) dx=none:=by
             rw[ao nld,ao ne] at hdx
             rw[ao nld];exact hdx
            have sD:=az (.lst ((gJ (js++[i]).reverse z).map V.str)) hl0
            have sE:=az (.xd [("ring", .ref l')]) hd0
            refine⟨rfl,dx,upd (upd HC l' (.lst ((gJ (js++[i]).reverse z).map V.str))) dx (.xd [("ring", .ref l')]), ?_,(ao (Ne.symm ne)).trans ((ao (Ne.symm nel)).trans he), ?_⟩
            ·rw[su (H:=HC) (a:=e) (b:=l') (Ne.symm nel),su (a:=e) (b:=dx) (Ne.symm ne),ni]
            ·exact qe _ _ _ _ _ mn hmvr (lp7.b.trans (But.of_same (sA.trans (sB.trans (sC.trans (sD.trans sE)))))) ⟨rfl,dx,l',rfl,ak,sE _ _ ak⟩
           ·have hin:inV (.str z) ((js++[i]).map V.str)=false:=by
             unfold inV
             rw[List.any_eq_false]
             intro u hu
             obtain⟨k,hk,rfl⟩:=List.mem_map.mp hu
             intro w
             have w:(k==z)=true:=w
             exact hj (eq_of_beq w▸hk)
            have hfl:((js++[i]).map V.str).all uU=true:=by
             rw[List.all_eq_true]
             intro u hu
             obtain⟨k,hk,rfl⟩:=List.mem_map.mp hu
             rfl
            have hsz:((js++[i]).map V.str).length<sizeLine:=by rw[List.length_map];exact bY (by omega)
            walk_at "vs"
            rw[hin]
            walk_at "vs"
            have em:((js++[i]).map V.str)++[V.str z]=(js++[i]++[z]).map V.str:=by rw[List.map_append (l₁:=js++[i])];rfl
            rw[em]
            refine⟨js++[i]++[z],_,_,_,_,_,_,_,_,rfl,lp7.push hkn hj hgv hrc hsk hzn,mn.snoc (by rw[List.reverse_append];exact Fy hgv hrc (hsk.ev hzn) (fun w=>hj (List.mem_reverse.mp (by rw[List.reverse_append];exact w)))) (by rw[List.reverse_append (as:=js++[i]),List.reverse_append];exact DN hgv hkn hrc (hsk.ev hzn)), ?_⟩
            rw[nW hkn,nW hzn,List.length_append]
            simp only[List.length_cons,List.length_nil]
            omega
        | none=>
          have db:cL H3 bgd (.str i) none:=by
           have:dX kb (.inr i)=none:=by rw[hkb,hA];rfl
           rw[<-this];exact cL.k (k:= .inr i) eb
          have sh3:=lp.sh.same lp.so.sm
          have hkbl:kb.length<=60:=by
           rw[kkb.len]
           have:=jA (ws:=ks) (ns:=cs) kkb.nd fun y hy=>hbd.cm (lp.bgi.nm y fun z=>kkb.none.mp (by rw[hkb,z];rfl) hy)
           omega
          walk_at "vs"
          refine⟨fun r' hr'=> ?_,fun hn=>by rw[hrc] at hn;cases hn⟩
          rw[hrc] at hr'
          cases hr'
          intro A H4 s4 hA4 so4
          have lp6:=lp.begun s4 hA4 (so4 kn) hrc hgv hA eb
          have dpb:lD H4 bgd (.str i) (.ref A.s) (upd H4 bgd (.dK (putK kb (.inr i) (.ref A.s)))):=lD.k (k:= .inr i) (s4 _ _ eb) (bY (by omega))
          have hA:j6 bg i A i=some A:=by unfold j6;rw[if_pos rfl]
          generalize upd H4 bgd (.dK (putK kb (.inr i) (.ref A.s)))=H5 at *
          obtain⟨kb6,ks6,eb6,kk6,aa0⟩:=lp6.bgi.e
          obtain⟨r',hr',_,seo⟩:=lp6.bgi.ok i A hA hkn
          rw[hrc] at hr'
          cases hr'
          have e6:=lp6.so.sm _ _ lp6.sh.e
          have rD6:=lp6.sh.rD.same lp6.so.sm
          obtain⟨kw6,ws6,ek6,agX,aa1⟩:=lp6.so.ek
          have knA:R3 H5 D.kd kn:=⟨kw6,ek6,aa1⟩
          have nd3:D.kd≠A.a3:=fun z=>(lp6.bgi.al i A hA A.a3 (by simp[SeD.ft])).2.2 (by rw[<-z];simp)
          have db6:cL H5 bgd (.str i) (some (.ref A.s)):=by
           have:dX kb6 (.inr i)=some (.ref A.s):=by rw[aa0,hA];rfl
           rw[<-this];exact cL.k (k:= .inr i) eb6
          have eA6:=seo.e
          walk_at "vs"
          intro A' H7 b7 es eb' erk e1' e2' e3' efl so7
          have lp7:=lp6.gone hA b7 so7 hrc hgv es erk e1' e2' e3' efl
          have e7:=lp7.so.sm _ _ lp7.sh.e
          have ep7:=lp7.ep
          refine⟨fun hend=> ?_,fun z hzn hsk=> ?_⟩
          ·obtain⟨kb7,ks7,eb7,kk7,aa2⟩:=lp7.bgi.e
           have db7:cL H7 bgd (.str i) (some (.ref A'.s)):=by
            have:dX kb7 (.inr i)=some (.ref A'.s):=by rw[aa2];unfold j6;rw[if_pos rfl];rfl
            rw[<-this];exact cL.k (k:= .inr i) eb7
           have agY:=lp7.so
           have sh7:=lp7.sh
           have eA7:=so7.e
           have hR7:=so7.hr
           have hft:∀z∈A'.ft,z∉[D.kd,D.sd,D.rd]:=fun z hz w=>(lp7.bgi.al i A' (by unfold j6;rw[if_pos rfl]) z hz).2.2 (by
            simp only[List.mem_cons,List.not_mem_nil,or_false] at w ⊢
            rcases w with q | q | q
            ·exact .inr (.inr (.inl q))
            ·exact .inr (.inr (.inr (.inl q)))
            ·exact .inr (.inr (.inr (.inr q))))
           walk_at "vs"
           intro v ps made Hf' H8 b8 sf8 fm8 so8 hev
           have lp8:=lp7.know b8 sf8 fm8 so8 (Kn.qK hkn) (fun y hy=>by
            unfold Kn.put at hy
            by_cases w:y=i
            ·exact .inr w
            ·rw[if_neg w] at hy;exact .inl hy) (fun y hne h=>by unfold Kn.put;rw[if_neg hne];exact h) ((Mvs.refl _).snoc (by rw[List.reverse_append];exact Fg hgv hkn hrc hev))
           walk_at "vs"
           refine⟨_,_,_,_,_,_,_,_,_,rfl,lp8,mn.snoc (by rw[List.reverse_append];exact Jl hgv hrc hev) (by rw[List.reverse_append];exact Fg hgv hkn hrc hev), ?_⟩
           have hu:=Fl (v:=v) hi hkn
           rw[nW hkn,xR (by unfold Kn.put;rw[if_pos rfl];simp)]
           omega
          ·by_cases hj:z∈js++[i]
           ·have hin:inV (.str z) ((js++[i]).map V.str)=true:=by
             unfold inV
             rw[List.any_eq_true]
             exact⟨.str z,List.mem_map.mpr ⟨z,hj,rfl⟩,by show(z==z)=true;simp⟩
            have hfl:((js++[i]).map V.str).all uU=true:=by
             rw[List.all_eq_true]
             intro u hu
             obtain⟨k,hk,rfl⟩:=List.mem_map.mp hu
             rfl
            have hsz:((js++[i]).map V.str).length<sizeLine:=by rw[List.length_map];exact bY (by omega)
            obtain⟨agZ,ag0⟩:=HS hj
            have hmvr:kE gv rc ((js++[i]).reverse,kn,od)=some (.ring (gJ (js++[i]).reverse z)):=by
             rw[List.reverse_append]
             exact KY hkn hgv hrc (hsk.ev hzn) (by show z∈[i].reverse++js.reverse;rw[<-List.reverse_append];exact List.mem_reverse.mpr hj)
            walk_at "vs"
            rw[hin]
            walk_at "vs"
            intro p1 hp1
            rw[show Bo ((js++[i]).map V.str) (some (((js++[i]).idxOf z:Nat):Int)) none=((js++[i]).drop ((js++[i]).idxOf z)).map V.str by rw[Hy,List.map_drop]]
            have sA:=az (.lst (((js++[i]).drop ((js++[i]).idxOf z)).map V.str)) hp1
            have eA:upd H7 p1 (.lst (((js++[i]).drop ((js++[i]).idxOf z)).map V.str)) p1=some (.lst (((js++[i]).drop ((js++[i]).idxOf z)).map V.str)):=ak
            have ag1:(((js++[i]).drop ((js++[i]).idxOf z)).map V.str).length<=61:=by rw[List.length_map,List.length_drop];omega
            generalize upd H7 p1 (.lst (((js++[i]).drop ((js++[i]).idxOf z)).map V.str))=HA at *
            walk_at "vs"
            intro p2 hp2
            have sB:=az (.lst [.str z]) hp2
            have eB:upd HA p2 (.lst [.str z]) p2=some (.lst [.str z]):=ak
            have eA2:=sB _ _ eA
            generalize upd HA p2 (.lst [.str z])=HB at *
            have hcl:(((js++[i]).drop ((js++[i]).idxOf z)).map V.str).length+[V.str z].length<=sizeLine:=Nat.le_of_lt (bY (by show _+1<=1000;omega))
            walk_at "vs"
            intro p3 hp3
            have eCC:((js++[i]).drop ((js++[i]).idxOf z)).map V.str++[V.str z]=(gJ (js++[i]).reverse z).map V.str:=by
             unfold gJ
             rw[List.reverse_reverse,List.map_append];rfl
            rw[eCC]
            have hrl:((gJ (js++[i]).reverse z).map V.str).length<=1000:=by rw[<-eCC,List.length_append];show _+1<=1000;omega
            have sC:=az (.lst ((gJ (js++[i]).reverse z).map V.str)) hp3
            have eC:upd HB p3 (.lst ((gJ (js++[i]).reverse z).map V.str)) p3=some (.lst ((gJ (js++[i]).reverse z).map V.str)):=ak
            generalize upd HB p3 (.lst ((gJ (js++[i]).reverse z).map V.str))=HC at *
            walk_at "vs"
            intro e he
            have nep:p3≠e:=fun z'=>by rw[<-z',eC] at he;cases he
            refine⟨e,p3,_,rfl,ak,(ao nep).trans eC,hrl,fun l' dx hl' hdx ne=> ?_⟩
            have nel:l'≠e:=fun z'=>by rw[z',ak] at hl';cases hl'
            have hl0:HC l'=none:=(ao nel).symm.trans hl'
            have nld:dx≠l':=fun z'=>by rw[z',ak] at hdx;cases hdx
            have hd0:upd HC l' (.lst ((gJ (js++[i]).reverse z).map V.str)) dx=none:=by
             rw[ao nld,ao ne] at hdx
             rw[ao nld];exact hdx
            have sD:=az (.lst ((gJ (js++[i]).reverse z).map V.str)) hl0
            have sE:=az (.xd [("ring", .ref l')]) hd0
            refine⟨rfl,dx,upd (upd HC l' (.lst ((gJ (js++[i]).reverse z).map V.str))) dx (.xd [("ring", .ref l')]), ?_,(ao (Ne.symm ne)).trans ((ao (Ne.symm nel)).trans he), ?_⟩
            ·rw[su (H:=HC) (a:=e) (b:=l') (Ne.symm nel),su (a:=e) (b:=dx) (Ne.symm ne),ni]
            ·exact qe _ _ _ _ _ mn hmvr (lp7.b.trans (But.of_same (sA.trans (sB.trans (sC.trans (sD.trans sE)))))) ⟨rfl,dx,l',rfl,ak,sE _ _ ak⟩
           ·have hin:inV (.str z) ((js++[i]).map V.str)=false:=by
             unfold inV
             rw[List.any_eq_false]
             intro u hu
             obtain⟨k,hk,rfl⟩:=List.mem_map.mp hu
             intro w
             have w:(k==z)=true:=w
             exact hj (eq_of_beq w▸hk)
            have hfl:((js++[i]).map V.str).all uU=true:=by
             rw[List.all_eq_true]
             intro u hu
             obtain⟨k,hk,rfl⟩:=List.mem_map.mp hu
             rfl
            have hsz:((js++[i]).map V.str).length<sizeLine:=by rw[List.length_map];exact bY (by omega)
            walk_at "vs"
            rw[hin]
            walk_at "vs"
            have em:((js++[i]).map V.str)++[V.str z]=(js++[i]++[z]).map V.str:=by rw[List.map_append (l₁:=js++[i])];rfl
            rw[em]
            refine⟨js++[i]++[z],_,_,_,_,_,_,_,_,rfl,lp7.push hkn hj hgv hrc hsk hzn,mn.snoc (by rw[List.reverse_append];exact Fy hgv hrc (hsk.ev hzn) (fun w=>hj (List.mem_reverse.mp (by rw[List.reverse_append];exact w)))) (by rw[List.reverse_append (as:=js++[i]),List.reverse_append];exact DN hgv hkn hrc (hsk.ev hzn)), ?_⟩
            rw[nW hkn,nW hzn,List.length_append]
            simp only[List.length_cons,List.length_nil]
            omega
end
section
local macro_rules | `(tactic| walk_at "side") => `(tactic| first | exact zX _ _ _ _ _ _ | exact uq _ _ _ _ _ _ | exact Je _ _ _ _ _ _ | exact zY _ _ _ _ _ _ | exact ur _ _ _ _ _ _ | exact qy _ _ _ _ _ _ | exact (iW _ _ _ _ _ _).1 | exact (iW _ _ _ _ _ _).2.1 | exact (iW _ _ _ _ _ _).2.2.1 | exact (iW _ _ _ _ _ _).2.2.2.1 | exact (iW _ _ _ _ _ _).2.2.2.2 | exact Nat.le_of_ble_eq_true rfl)
variable {P:Program}{w:World}{K:PySem.W.Frag}{mg:Str->Option Value}{base:Heap}{CSe CN CS CR CNo CRi:Addr}
abbrev dB:Stmt:=top 15
theorem wJ:bI ["house","old","wishes","search","name"] ["house","old","wishes"] (aa dB):=⟨rfl,rfl,rfl,by decide +kernel,rfl,by decide +kernel,by decide +kernel⟩
theorem zj:Loc (aa dB) "search":=by decide +kernel
theorem zm:(aa dB).names.lookup ("Search":Str)=some NameKind.globalImplicit:=by decide +kernel
theorem Dk:aG (aa dB) "old":=by decide +kernel
theorem Ah:aG (aa dB) "house":=by decide +kernel
theorem zp:(("Search":Str)==("__debug__":Str))=false:=by decide +kernel
theorem zq:aG (aa dB) "wishes":=by decide +kernel
theorem Ci:Loc (aa dB) "name":=by decide +kernel
theorem p8:aG (aa dB) "search":=by decide +kernel
theorem Cj:aG (aa dB) "name":=by decide +kernel
theorem La {f g0 g1:Addr}{fd gd0 gd1:FuncData} (cZ:FnT K mg "searched" dB ["house","old","wishes"] f fd)
 (gf:fX K CSe "__init__" "Search.__init__" cG ["self","house","old"] g0 gd0) (Ai:aX P w K mg base CX0 1 g0 gd0 ["self","house","old"] (Kw CSe))
 (gA:fX K CSe "settle" "Search.settle" aW ["self","name"] g1 gd1) (Dl:aX P w K mg base (CXd P w) 15 g1 gd1 ["self","name"] (HW CSe CN CNo CRi))
 (Gi:Mk K CSe g0) (Gj:mg "Search"=some (.ref CSe)) (T:Blt mg) (sr:SrC K CSe):aX P w K mg base (CXd P w) 16 f fd ["house","old","wishes"] (qz CSe CN CNo CRi):=by
 refine cZ.F.okD wJ (fun vs H Q E h=> ?_) (fun cdv A outer s H vs Q E hr h=> ?_)
 ·obtain⟨h,g,c,o,dxo,rcd,wl,gs,cs,gv,rc,kg,kc,kr,rm,ws,rfl,_⟩:=h
  rfl
 obtain⟨h,g,c,o,dxo,rcd,wl,gs,cs,gv,rc,kg,kc,kr,rm,ws,rfl,eh,eg,ec,bd,eo,er,rD,rf,ewl,hws,q,qe⟩:=h
 have nu:=sr.cl
 refine⟨_,(aq (bV (i:=3) wJ.nd rfl zj (xK Gi (Ai.mono (by omega)) hr zm Gj gf.b .nil cz (aQ (aj 0 Ah) (aQ (aj 1 Dk) au)) zp))
  (aq (Bs PassesOwn.leaving rfl (xG (aj 2 zq)) (jH (i:=4) wJ.nd rfl Ci) (aB (iz (o8 (aj 3 p8) nu gA.m (Dl.mono (by omega)) hr gA.b .nil KR (aQ (aj 4 Cj) au)))))
  (aB (bR (aj 3 p8))))), ?_⟩
 walk_at "vs"
 intro a dx ha hdx hne
 have haH:(upd H dx (.own a)) a=none:=(ao (Ne.symm hne)).trans ha
 have S1:=(az (.own a) hdx).trans (az (.ins CSe dx []) haH)
 refine⟨a,dx,h,g,c,o,rfl,ak,S1 _ _ eh,fun kd sd rd H2 b2 e2 hk hs hr' nks nkr nsr ek2 es2 er2=>⟨rfl, ?_⟩⟩
 have hk0:=same_none S1 hk
 have hs0:=same_none S1 hs
 have hr0:=same_none S1 hr'
 have S2:aN H H2:=dH S1 (fun p hp=>by
  have:p=a:=by simpa using hp
  rw[this];exact ha) b2
 have nka:kd≠a:=fun z=>by rw[z,ak] at hk;cases hk
 have nsa:sd≠a:=fun z=>by rw[z,ak] at hs;cases hs
 have nra:rd≠a:=fun z=>by rw[z,ak] at hr';cases hr'
 have sf0:aN H (upd H a (.ins CSe dx (srF g c o kd sd rd))):=az _ ha
 have sm0:aN (upd H a (.ins CSe dx (srF g c o kd sd rd))) H2:=fun z ob e=>by
  by_cases w:z=a
  ·subst w;rw[ak] at e;cases e;exact e2
  ·rw[ao w] at e;exact S2 _ _ e
 have shf:Gx CSe CN ⟨a,dx,g,c,o,dxo,rcd,kd,sd,rd⟩ gs cs gv rc kg kc kr rm (upd H a (.ins CSe dx (srF g c o kd sd rd))):=
  ⟨ak,sf0 _ _ eg,sf0 _ _ ec,bd.tups (aN.tups sf0),sf0 _ _ eo,sf0 _ _ er,rD.same sf0,rf,nks,nkr,nsr⟩
 have so2:j0 H ⟨a,dx,g,c,o,dxo,rcd,kd,sd,rd⟩ gv rc rm kn0 (fun _=>none) (fun _=>false) [] (upd H a (.ins CSe dx (srF g c o kd sd rd))) H2:=
  ⟨sm0,(ao nka).trans hk0,(ao nsa).trans hs0,(ao nra).trans hr0,⟨[],[],ek2,⟨rfl,by simp⟩,fun x=>by rw[pN];rfl⟩,⟨[],es2,RecM.nil,⟨rfl,by simp⟩⟩,⟨[],[],er2,⟨rfl,by simp⟩,fun x=>by rw[pN];rfl,fun x h=>(nomatch h)⟩,⟨fun x v e=>(nomatch e),fun x r ps v e=>(nomatch e)⟩,fun x r ps v e=>(nomatch e),sf0⟩
 have ag2:=S2 _ _ ewl
 walk_at "vs"
 refine zN (xs:=ws.map V.str) (fun i σ H'=>∃(kn:Kn) (rmN:Rm) (rkn:Str->Bool) (od:List Str) (Hf:Hp) (t:Option V),σ=[some (.ref h),some (.ref o),some (.ref wl),some (.ref a),t]/\aN H H'/\aN H Hf/\Gx CSe CN ⟨a,dx,g,c,o,dxo,rcd,kd,sd,rd⟩ gs cs gv rc kg kc kr rm Hf/\j0 H ⟨a,dx,g,c,o,dxo,rcd,kd,sd,rd⟩ gv rc rm kn rmN rkn od Hf H'/\jg gv rc (ws.take i) (kn0,[]) (kn,od)/\(∀x∈ws.take i,kn x≠none)/\∀y,kn y≠none->∃x∈ws,Rch gv rc kn x y) ?_ ?_ ?_ ?_
 ·exact⟨_,_,_,_,_,none,rfl,S2,sf0,shf,so2,rfl,by simp,fun y hy=>absurd rfl hy⟩
 ·rintro i σ H' _ ⟨kn,rmN,rkn,od,Hf,t,_,S3,_⟩
  exact SqL.of (S3 _ _ ewl)
 ·rintro i v σ H3 hv ⟨kn,rmN,rkn,od,Hf,t,rfl,S3,sf3,sh3,so3,ru3,hw3,hr3⟩
  obtain⟨x,hxi,rfl⟩:∃x,ws[i]? =some x/\v=V.str x:=by
   rw[List.getElem?_map] at hv
   cases e:ws[i]? with
   | none=>rw[e] at hv;cases hv
   | some x=>rw[e] at hv;exact⟨x,rfl,(Option.some.inj hv).symm⟩
  have hxm:x∈ws:=List.mem_of_getElem? hxi
  have hxn:=fun t m=>hws i x (kn,od) t hxi ru3 m
  have e3:H3 a=some (.ins CSe dx (srF g c o kd sd rd)):=so3.sm _ _ sh3.e
  walk_at "vs"
  refine⟨H,⟨a,dx,g,c,o,dxo,rcd,kd,sd,rd⟩,gs,cs,gv,rc,kg,kc,kr,rm,kn,rmN,rkn,od,Hf,x,rfl,sh3,so3,hxn,fun kn' KC rkn' od' Hf' H4 b4 sf4 fm4 so4 mv4 le4 hx4 hr4=> ?_,fun t e cls d H4 mv4 he b4 er=>qe e cls d H4 ⟨i,x,(kn,od),t,hxi,ru3,mv4,he⟩ (dH S3 (fun p hp=> ?_) b4) er⟩
  case refine_2=>
   have hp:p=kd\/p=sd\/p=rd:=by simpa using hp
   rcases hp with rfl | rfl | rfl
   ·exact hk0
   ·exact hs0
   ·exact hr0
  refine⟨kn',KC,rkn',od',Hf',_,rfl,dH S3 (fun p hp=> ?_) b4,sf3.trans sf4,sh3.same sf4,so4,by rw[List.take_add_one,hxi];exact ru3.snoc mv4,fun y hy=> ?_,fun y hy=> ?_⟩
  ·have hp:p=kd\/p=sd\/p=rd:=by simpa using hp
   rcases hp with rfl | rfl | rfl
   ·exact hk0
   ·exact hs0
   ·exact hr0
  ·rw[List.take_add_one,hxi] at hy
   rcases List.mem_append.mp hy with z | z
   ·intro w
    cases e:kn y with
    | none=>exact hw3 y z e
    | some u=>rw[le4 y u e] at w;cases w
   ·have:y=x:=by simpa using z
    rw[this];exact hx4
  ·rcases hr4 y hy with z | z
   ·obtain⟨x',hx',r'⟩:=hr3 y z
    exact⟨x',hx',r'.le le4⟩
   ·exact⟨x,hxm,z⟩
 ·rintro σ H3 ⟨kn,rmN,rkn,od,Hf,t,rfl,S3,sf3,sh3,so3,ru3,hw3,hr3⟩
  walk_at "vs"
  rw[show ws.take (ws.map V.str).length=ws by rw[List.length_map];exact List.take_length] at hw3 ru3
  exact q ⟨a,dx,g,c,o,dxo,rcd,kd,sd,rd⟩ kn rmN rkn od Hf H3 S3 sf3 sh3 so3 ru3 hk0 hs0 hr0 hw3 hr3
--P Lb
abbrev cI:Stmt:=top 17
theorem wK:bI ["house","wishes","search"] ["house","wishes"] (aa cI):=⟨rfl,rfl,rfl,by decide +kernel,rfl,by decide +kernel,by decide +kernel⟩
theorem vG:Loc (aa cI) "search":=by decide +kernel
theorem sZ:(aa cI).names.lookup ("searched":Str)=some NameKind.globalImplicit:=by decide +kernel
theorem vH:aG (aa cI) "wishes":=by decide +kernel
theorem pF:(aa cI).names.lookup ("NamedRecords":Str)=some NameKind.globalImplicit:=by decide +kernel
theorem pG:(("NamedRecords":Str)==("__debug__":Str))=false:=by decide +kernel
theorem wL:aG (aa cI) "house":=by decide +kernel
theorem tu:(("searched":Str)==("__debug__":Str))=false:=by decide +kernel
theorem xZ:(aa cI).names.lookup ("list":Str)=some NameKind.globalImplicit:=by decide +kernel
theorem jF:aG (aa cI) "search":=by decide +kernel
theorem yc:("list":Str)≠"__name__":=by decide +kernel
theorem yd:(("list":Str)==("__debug__":Str))=false:=by decide +kernel
theorem Gk {f g0 g1:Addr}{fd gd0 gd1:FuncData} (gO:FnT K mg "fresh_build" cI ["house","wishes"] f fd)
 (cZ:FnT K mg "searched" dB ["house","old","wishes"] g0 gd0) (qb:aX P w K mg base (CXd P w) 16 g0 gd0 ["house","old","wishes"] (qz CSe CN CNo CRi))
 (aO:fX K CN "__init__" "NamedRecords.__init__" aU ["self","records"] g1 gd1) (eU:aX P w K mg base CX0 1 g1 gd1 ["self","records"] (zW CN))
 (fG:Mk K CN g1) (fH:mg "NamedRecords"=some (.ref CN))
 (T:Blt mg) (sr:SrC K CSe):aX P w K mg base (CXd P w) 17 f fd ["house","wishes"] (K1 CNo CRi):=by
 refine gO.F.okD wK (fun vs H Q E h=> ?_) (fun cdv A outer s H vs Q E hr h=> ?_)
 ·obtain⟨h,g,c,wl,gs,cs,gv,rc,ws,rfl,_⟩:=h
  rfl
 obtain⟨h,g,c,wl,gs,cs,gv,rc,ws,rfl,⟨kg,kc,eh,eg,ec,bd⟩,ewl,hws,q,qe⟩:=h
 have nu:=sr.cl
 have nK:=sr.nK
 have nS:=sr.nS
 refine⟨_,(aq (bV (i:=2) wK.nd rfl vG (bM (qb.mono (by omega)) hr sZ cZ.m cZ.F.kp cZ.b .nil KR (aQ (aj 0 wL) (vQ (xK fG (eU.mono (by omega)) hr pF fH aO.b .nil cz (aay jx au) pG) (aQ (aj 1 vH) au))) tu))
  (aB (bR (jn (Mz (bA (aj 2 jF)) (Mz (bA (aj 2 jF)) (vQ (pK (Kl rfl) xZ T.Bv xr (Mz (bA (aj 2 jF)) au) yc yd) au))))))), ?_⟩
 walk_at "vs"
 intro rcd hrcd
 have S0:=az (.dK []) hrcd
 have er0:upd H rcd (.dK []) rcd=some (.dK []):=ak
 generalize upd H rcd (.dK [])=H0 at *
 walk_at "vs"
 intro o dxo ho hdxo hne
 have hoH:(upd H0 dxo (.own o)) o=none:=(ao (Ne.symm hne)).trans ho
 have S1:=(az (.own o) hdxo).trans (az (.ins CN dxo []) hoH)
 refine⟨o,dxo,rcd,rfl,ak,fun H2 b2 e2=>⟨rfl, ?_⟩⟩
 have S2':aN H0 H2:=dH S1 (fun p hp=>by
  have:p=o:=by simpa using hp
  rw[this];exact ho) b2
 have S2:=S0.trans S2'
 have eh2:=S2 _ _ eh
 have eg2:=S2 _ _ eg
 have ec2:=S2 _ _ ec
 have bd2:=bd.tups (aN.tups S2)
 have er2:=S2' _ _ er0
 have rD2:uv H2 [] (fun _=>none):=⟨⟨[],⟨rfl,by simp⟩⟩,fun x q e=>(nomatch e),fun x _=>pN⟩
 have rf2:RmF gv rc (fun _=>none):=fun x r ps v e=>(nomatch e)
 have ag2:=S2 _ _ ewl
 walk_at "vs"
 refine⟨?_,fun e cls d H' he s' er=>qe e cls d H' he (S2.trans s') er⟩
 intro D kn rmN rkn sn Hf H3 s3 sf3 sh3 so3 ru3 hk3 hs3 hr3 hw3 hrch
 have S3:=S2.trans s3
 have e3:=so3.sm _ _ sh3.e
 obtain⟨kw,wn,ek,kkw,hkw⟩:=so3.ek
 obtain⟨ks,es,rDs,kks⟩:=so3.es
 obtain⟨kk,rs,er3,kkr,hkk,hrn⟩:=so3.er
 obtain⟨nks,nkr,nsr⟩:=sh3.ne
 have hk0:=same_none S2 hk3
 have hs0:=same_none S2 hs3
 have hwl:=so3.kl bd kkw hkw
 rw[kkw.len] at hwl
 have adQ:=so3.sl bd kks rDs.s.w
 rw[kks.len] at adQ
 have som:∀x,x∈sn ↔ rmN x≠none:=fun x=>⟨fun hx z=>kks.none.mp (rDs.s.w x z) hx,fun hx=>Decidable.byContradiction fun w=>by
  have:=kks.none.mpr w
  cases e:rmN x with
  | none=>exact hx e
  | some qq=>
    obtain⟨b,hb,_⟩:=rDs.s.v x qq e
    rw[hb] at this;cases this⟩
 walk_at "vs"
 intro l hl
 rw[Qn kks.k]
 have s4:=az (.lst (sn.map V.str)) hl
 have el4:upd H3 l (.lst (sn.map V.str)) l=some (.lst (sn.map V.str)):=ak
 have ek4:=s4 _ _ ek
 have es4:=s4 _ _ es
 generalize upd H3 l (.lst (sn.map V.str))=H4 at *
 walk_at "vs"
 intro t ht
 have s6:=az (.tup [.ref D.kd, .ref D.sd, .ref l]) ht
 have hrk:∀x,rkn x=(rmN x).isSome:=fun x=>by
  cases e:rmN x with
  | none=>
    cases w:rkn x with
    | false=>rfl
    | true=>exact absurd e (hrn x w)
  | some qq=>
    obtain⟨r,ps,v⟩:=qq
    have h3:=(so3.md x r ps v e).2.2
    cases w:rkn x with
    | true=>rfl
    | false=>rw[w,if_neg (by decide)] at h3;cases h3
 exact q t D.kd D.sd l kw ks wn sn kn rmN _ (S3.trans (s4.trans s6)) ak (same_none (S3.trans s4) ht) hk0 hs0 (same_none S3 hl) nks (s6 _ _ ek4) kkw hwl hkw (s6 _ _ es4) kks ((rDs.same (so3.sm.trans (s4.trans s6))).low S2) (s6 _ _ el4) ⟨so3.ok,fun x r ps v e=>by rw[<-hrk];exact so3.md x r ps v e,hw3,hrch,fun x hx z=>(by rw[z] at hx;cases hx),ru3.runs,kks.nd,som,adQ⟩ ru3
--Q Lb
--P T7
abbrev gB:Stmt:=top 19
theorem Ld:bI ["house","name"] ["house","name"] (aa gB):=⟨rfl,rfl,rfl,by decide +kernel,rfl,by decide +kernel,by decide +kernel⟩
theorem wM:(aa gB).names.lookup ("searched":Str)=some NameKind.globalImplicit:=by decide +kernel
theorem tD:aG (aa gB) "name":=by decide +kernel
theorem qX:(aa gB).names.lookup ("NamedRecords":Str)=some NameKind.globalImplicit:=by decide +kernel
theorem qY:(("NamedRecords":Str)==("__debug__":Str))=false:=by decide +kernel
theorem Aj:aG (aa gB) "house":=by decide +kernel
theorem wN:(("searched":Str)==("__debug__":Str))=false:=by decide +kernel
theorem Lf {f g0 g1:Addr}{fd gd0 gd1:FuncData} (dO:FnT K mg "worth_of" gB ["house","name"] f fd)
 (cZ:FnT K mg "searched" dB ["house","old","wishes"] g0 gd0) (qb:aX P w K mg base (CXd P w) 16 g0 gd0 ["house","old","wishes"] (qz CSe CN CNo CRi))
 (aO:fX K CN "__init__" "NamedRecords.__init__" aU ["self","records"] g1 gd1) (eU:aX P w K mg base CX0 1 g1 gd1 ["self","records"] (zW CN))
 (fG:Mk K CN g1) (fH:mg "NamedRecords"=some (.ref CN))
 (T:Blt mg) (sr:SrC K CSe):aX P w K mg base (CXd P w) 17 f fd ["house","name"] (FJ CNo CRi):=by
 refine dO.F.okD Ld (fun vs H Q E h=> ?_) (fun cdv A outer s H vs Q E hr h=> ?_)
 ·obtain⟨h,g,c,gs,cs,gv,rc,x,rfl,_⟩:=h
  rfl
 obtain⟨h,g,c,gs,cs,gv,rc,x,rfl,⟨kg,kc,eh,eg,ec,bd⟩,hws,q,qe⟩:=h
 have nu:=sr.cl
 have nK:=sr.nK
 have nS:=sr.nS
 refine⟨_,(aB (bR (dY (cP hr) (bA (bM (qb.mono (by omega)) hr wM cZ.m cZ.F.kp cZ.b .nil KR (aQ (aj 0 Aj) (vQ (xK fG (eU.mono (by omega)) hr qX fH aO.b .nil cz (aay jx au) qY) (RW (gR (aQ (aj 1 tD) au)) au))) wN)) (aj 1 tD)))), ?_⟩
 walk_at "vs"
 intro rcd hrcd
 have S0:=az (.dK []) hrcd
 have er0:upd H rcd (.dK []) rcd=some (.dK []):=ak
 generalize upd H rcd (.dK [])=H0 at *
 walk_at "vs"
 intro o dxo ho hdxo hne
 have hoH:(upd H0 dxo (.own o)) o=none:=(ao (Ne.symm hne)).trans ho
 have S1:=(az (.own o) hdxo).trans (az (.ins CN dxo []) hoH)
 refine⟨o,dxo,rcd,rfl,ak,fun H2 b2 e2=>⟨rfl, ?_⟩⟩
 have S2':aN H0 H2:=dH S1 (fun p hp=>by
  have:p=o:=by simpa using hp
  rw[this];exact ho) b2
 have S2:=S0.trans S2'
 have er2:=S2' _ _ er0
 walk_at "vs"
 intro wl hwl
 have s3:=az (.lst [.str x]) hwl
 have ag3:upd H2 wl (.lst [.str x]) wl=some (.lst ([x].map V.str)):=ak
 have S3:=S2.trans s3
 have eh3:=S3 _ _ eh
 have eg3:=S3 _ _ eg
 have ec3:=S3 _ _ ec
 have bd3:=bd.tups (aN.tups S3)
 have er3:=s3 _ _ er2
 have e23:=s3 _ _ e2
 have rD3:uv (upd H2 wl (.lst [.str x])) [] (fun _=>none):=⟨⟨[],⟨rfl,by simp⟩⟩,fun x q e=>(nomatch e),fun x _=>pN⟩
 have rf3:RmF gv rc (fun _=>none):=fun x r ps v e=>(nomatch e)
 generalize upd H2 wl (.lst [.str x])=H3 at *
 walk_at "vs"
 refine⟨?_,fun e cls d H' he s' er=>qe e cls d H' he (S3.trans s') er⟩
 intro D kn rmN rkn sn Hf H4 s4 sf4 sh4 so4 ru4 hk4 hs4 hr4 hw4 hrch
 have S4:=S3.trans s4
 have e4:=so4.sm _ _ sh4.e
 obtain⟨kw,wn,ek,kkw,hkw⟩:=so4.ek
 obtain⟨ks,es,rDs,kks⟩:=so4.es
 obtain⟨v,hv⟩:∃v,kn x=some v:=by
  cases z:kn x with
  | none=>exact absurd z (hw4 x (by simp))
  | some v=>exact⟨v,rfl⟩
 have dk:cL H4 D.kd (.str x) (some (.int v)):=by
  have:=cL.k (k:= .inr x) ek
  rw[hkw,hv] at this;exact this
 walk_at "vs"
 exact q v kn rmN sn H4 S4 so4.ok ru4 hv
--Q T7
--P T8
abbrev fV:Stmt:=top 20
theorem Dc:bI ["house","name","settled"] ["house","name"] (aa fV):=⟨rfl,rfl,rfl,by decide +kernel,rfl,by decide +kernel,by decide +kernel⟩
theorem ye:Loc (aa fV) "settled":=by decide +kernel
theorem wO:(aa fV).names.lookup ("searched":Str)=some NameKind.globalImplicit:=by decide +kernel
theorem mY:aG (aa fV) "name":=by decide +kernel
theorem qZ:(aa fV).names.lookup ("NamedRecords":Str)=some NameKind.globalImplicit:=by decide +kernel
theorem rA:(("NamedRecords":Str)==("__debug__":Str))=false:=by decide +kernel
theorem Ak:aG (aa fV) "house":=by decide +kernel
theorem wQ:(("searched":Str)==("__debug__":Str))=false:=by decide +kernel
theorem oV:aG (aa fV) "settled":=by decide +kernel
theorem Lg {f g0 g1:Addr}{fd gd0 gd1:FuncData} (jU:FnT K mg "reads_of" fV ["house","name"] f fd)
 (cZ:FnT K mg "searched" dB ["house","old","wishes"] g0 gd0) (qb:aX P w K mg base (CXd P w) 16 g0 gd0 ["house","old","wishes"] (qz CSe CN CNo CRi))
 (aO:fX K CN "__init__" "NamedRecords.__init__" aU ["self","records"] g1 gd1) (eU:aX P w K mg base CX0 1 g1 gd1 ["self","records"] (zW CN))
 (fG:Mk K CN g1) (fH:mg "NamedRecords"=some (.ref CN))
 (T:Blt mg) (sr:SrC K CSe):aX P w K mg base (CXd P w) 17 f fd ["house","name"] (K3 CNo CRi):=by
 refine jU.F.okD Dc (fun vs H Q E h=> ?_) (fun cdv A outer s H vs Q E hr h=> ?_)
 ·obtain⟨h,g,c,gs,cs,gv,rc,x,rfl,_⟩:=h
  rfl
 obtain⟨h,g,c,gs,cs,gv,rc,x,rfl,⟨kg,kc,eh,eg,ec,bd⟩,hws,q,qe⟩:=h
 have nu:=sr.cl
 have nK:=sr.nK
 have nS:=sr.nS
 refine⟨_,(aq (bV (i:=2) Dc.nd rfl ye (bA (bM (qb.mono (by omega)) hr wO cZ.m cZ.F.kp cZ.b .nil KR (aQ (aj 0 Ak) (vQ (xK fG (eU.mono (by omega)) hr qZ fH aO.b .nil cz (aay jx au) rA) (RW (gR (aQ (aj 1 mY) au)) au))) wQ)))
  (aB (bR (J7 (yI (cP hr) (aj 1 mY) (aj 2 oV)) (cM cF (dY (cP hr) (aj 2 oV) (aj 1 mY)) aA) (gR au))))), ?_⟩
 walk_at "vs"
 intro rcd hrcd
 have S0:=az (.dK []) hrcd
 have er0:upd H rcd (.dK []) rcd=some (.dK []):=ak
 generalize upd H rcd (.dK [])=H0 at *
 walk_at "vs"
 intro o dxo ho hdxo hne
 have hoH:(upd H0 dxo (.own o)) o=none:=(ao (Ne.symm hne)).trans ho
 have S1:=(az (.own o) hdxo).trans (az (.ins CN dxo []) hoH)
 refine⟨o,dxo,rcd,rfl,ak,fun H2 b2 e2=>⟨rfl, ?_⟩⟩
 have S2':aN H0 H2:=dH S1 (fun p hp=>by
  have:p=o:=by simpa using hp
  rw[this];exact ho) b2
 have S2:=S0.trans S2'
 have er2:=S2' _ _ er0
 walk_at "vs"
 intro wl hwl
 have s3:=az (.lst [.str x]) hwl
 have ag3:upd H2 wl (.lst [.str x]) wl=some (.lst ([x].map V.str)):=ak
 have S3:=S2.trans s3
 have eh3:=S3 _ _ eh
 have eg3:=S3 _ _ eg
 have ec3:=S3 _ _ ec
 have bd3:=bd.tups (aN.tups S3)
 have er3:=s3 _ _ er2
 have e23:=s3 _ _ e2
 have rD3:uv (upd H2 wl (.lst [.str x])) [] (fun _=>none):=⟨⟨[],⟨rfl,by simp⟩⟩,fun x q e=>(nomatch e),fun x _=>pN⟩
 have rf3:RmF gv rc (fun _=>none):=fun x r ps v e=>(nomatch e)
 generalize upd H2 wl (.lst [.str x])=H3 at *
 walk_at "vs"
 refine⟨?_,fun e cls d H' he s' er=>qe e cls d H' he (S3.trans s') er⟩
 intro D kn rmN rkn sn Hf H4 s4 sf4 sh4 so4 ru4 hk4 hs4 hr4 hw4 hrch
 have S4:=S3.trans s4
 have e4:=so4.sm _ _ sh4.e
 obtain⟨kw,wn,ek,kkw,hkw⟩:=so4.ek
 obtain⟨ks,es,rDs,kks⟩:=so4.es
 obtain⟨v,hv⟩:∃v,kn x=some v:=by
  cases z:kn x with
  | none=>exact absurd z (hw4 x (by simp))
  | some v=>exact⟨v,rfl⟩
 have ds:=cL.k (k:= .inr x) es
 cases erm:rmN x with
 | none=>
   rw[rDs.s.w x erm] at ds
   walk_at "vs"
   intro l hl
   exact q l [] [] kn rmN sn _ (S4.trans (az _ hl)) (same_none S4 hl) so4.ok ru4 ak .nil (.inr ⟨erm,rfl⟩)
 | some qq=>
   obtain⟨r,ps,u⟩:=qq
   obtain⟨b,hb,br,l,as,eb,hR,el,hRs,_⟩:=rDs.s.v x _ erm
   rw[hb] at ds
   obtain⟨br',l',v',eb',hl'⟩:=rDs.f x _ b erm hb
   rw[eb] at eb'
   cases eb'
   have ebs:=so4.sm _ _ eb
   have els:=so4.sm _ _ el
   walk_at "vs"
   exact q l as ps kn rmN sn H4 S4 (same_none S3 hl') so4.ok ru4 els (hRs.tups (aN.tups so4.sm)) (.inl ⟨r,u,erm⟩)
--Q T8
end
section
variable {P:Program}{w:World}{K:PySem.W.Frag}{mg:Str->Option Value}{base:Heap}
abbrev gC:Stmt:=top 22
theorem Lh:bI ["script","k"] ["script","k"] (aa gC):=⟨rfl,rfl,rfl,by decide +kernel,rfl,by decide +kernel,by decide +kernel⟩
theorem lg:aG (aa gC) "k":=by decide +kernel
theorem Dm:(aa gC).names.lookup ("len":Str)=some NameKind.globalImplicit:=by decide +kernel
theorem qd:aG (aa gC) "script":=by decide +kernel
theorem Dn:("len":Str)≠"__name__":=by decide +kernel
theorem Dp:(("len":Str)==("__debug__":Str))=false:=by decide +kernel
theorem Li {f:Addr}{fd:FuncData} (bK:FnT K mg "_law_cell" gC ["script","k"] f fd) (T:Blt mg):aX P w K mg base CX0 1 f fd ["script","k"] (DQ K):=by
 refine bK.F.okQ Lh (fun vs H Q E h=> ?_) (fun cdv A outer s H vs Q E hr h=> ?_)
 ·obtain⟨a,ns,k,rfl,_⟩:=h
  rfl
 obtain⟨a,ns,k,rfl,hS,h0,h80,q⟩:=h
 refine⟨_,(aq (eY (cQ RP (aj 1 lg) (cN gU Dm T.uW oG (aQ (aj 0 qd) au) Dn Dp) (bB _)) (aB (bR (cM fY (aj 0 qd) (aj 1 lg)))) dz)
  (aB (bR (bz iI (bz iI (bz lC (bz lC aA (aj 1 lg)) (aj 1 lg)) (bz lC aA (aj 1 lg))) aA)))), ?_⟩
 walk_at "vs"
 refine vK (fun c1=> ?_) (fun c1=> ?_)
 ·have c1':k<((ns.map V.int).length:Int):=by simpa using c1
  obtain⟨v,j,hv,_⟩:=adq h0 c1'
  walk_at "vs"
  exact q _
 ·have m1:qp 5 k:= .inl ⟨by decide,by decide⟩
  have m2:qp (5 * k) k:= .inl ⟨by omega,by omega⟩
  have m3:qp 9 k:= .inl ⟨by decide,by decide⟩
  walk_at "vs"
  exact q _
abbrev gP:Stmt:=top 23
theorem Jt:bI ["script","k"] ["script","k"] (aa gP):=⟨rfl,rfl,rfl,by decide +kernel,rfl,by decide +kernel,by decide +kernel⟩
theorem wU:aG (aa gP) "k":=by decide +kernel
theorem mj:(aa gP).names.lookup ("_law_cell":Str)=some NameKind.globalImplicit:=by decide +kernel
theorem oW:aG (aa gP) "script":=by decide +kernel
theorem mq:(("_law_cell":Str)==("__debug__":Str))=false:=by decide +kernel
theorem Ju {f g:Addr}{fd gd:FuncData} (jk:FnT K mg "_law_state" gP ["script","k"] f fd) (bK:FnT K mg "_law_cell" gC ["script","k"] g gd) (lH:aX P w K mg base CX0 1 g gd ["script","k"] (DQ K)) (T:Blt mg):
 aX P w K mg base CX0 2 f fd ["script","k"] (Ym K):=by
 refine jk.F.okQ Jt (fun vs H Q E h=> ?_) (fun cdv A outer s H vs Q E hr h=> ?_)
 ·obtain⟨a,ns,k,rfl,_⟩:=h
  rfl
 obtain⟨a,ns,k,rfl,hS,h0,h1,q⟩:=h
 refine⟨_,(aB (bR (Vw (Iv aY (bM (lH.mono (by omega)) hr mj bK.m bK.F.kp bK.b .nil cz (aQ (aj 0 oW) (aQ (aj 1 wU) au)) mq) (Iv aY (Ej gH (bz iJ (bM (lH.mono (by omega)) hr mj bK.m bK.F.kp bK.b .nil cz (aQ (aj 0 oW) (fP aA au)) mq) aA) aA (bB _)) (Iv aY (aj 1 wU) aam)))))), ?_⟩
 walk_at "vs"
 intro p hp
 have s1:=az (.dK []) hp
 have hS1:=SqL.same s1 hS
 have e1:upd H p (.dK []) p=some (.dK []):=ak
 generalize upd H p (.dK [])=H1 at *
 walk_at "vs"
 intro n1
 walk_at "vs"
 intro n2
 walk_at "vs"
 refine⟨vW n1 (decide (V.int (n2 % 2)=V.int 1)) k,rfl,by show 3<=15;decide, ?_⟩
 have em:Bp [] (vW n1 (decide (V.int (n2 % 2)=V.int 1)) k)=vW n1 (decide (V.int (n2 % 2)=V.int 1)) k:=rfl
 rw[em]
 exact q p _ (rT _ hp s1) hp ⟨_,_,_,ak,by omega,by omega⟩
abbrev dh:Stmt:=top 24
theorem qG:bI ["state","many","found","stir"] ["state","many"] (aa dh):=⟨rfl,rfl,rfl,by decide +kernel,rfl,by decide +kernel,by decide +kernel⟩
theorem cJ:aG (aa dh) "state":=by decide +kernel
theorem Al:Loc (aa dh) "found":=by decide +kernel
theorem mZ:aG (aa dh) "many":=by decide +kernel
theorem Am:aG (aa dh) "found":=by decide +kernel
theorem tE:Loc (aa dh) "stir":=by decide +kernel
theorem m5:aG (aa dh) "stir":=by decide +kernel
theorem Lj {f:Addr}{fd:FuncData} (aC:FnT K mg "_law_take" dh ["state","many"] f fd) (T:Blt mg):aX P w K mg base CX0 1 f fd ["state","many"] FP:=by
 refine aC.F.okQ qG (fun vs H Q E h=> ?_) (fun cdv A outer s H vs Q E hr h=> ?_)
 ·obtain⟨p,c,many,rfl,_⟩:=h
  rfl
 obtain⟨p,c,many,rfl,⟨rest,mixed,count,e,h0,h1⟩,hc,hm,hlg,q⟩:=h
 refine⟨_,(aq (eY (RM (yE (dY (cP hr) (aj 0 cJ) aY))) (aq (bV (i:=2) qG.nd rfl Al (bz iJ (dY (cP hr) (aj 0 cJ) aY) (aj 1 mZ)))
  (aq (iT (cP hr) (aj 0 cJ) aY (bz nJ (dY (cP hr) (aj 0 cJ) aY) (aj 1 mZ)))
  (aB (bR (aj 2 Am))))) dz)
  (aq (iT (cP hr) (aj 0 cJ) aY (bz iI (dY (cP hr) (aj 0 cJ) aY) aA))
  (aq (bV (i:=3) qG.nd rfl tE (bz iJ (bz iI (bz iJ (dY (cP hr) (aj 0 cJ) aY) aA) (bz lC aA (dY (cP hr) (aj 0 cJ) aY))) aA))
  (aq (bV (i:=3) qG.nd rfl tE (bz iJ (bz lC (aj 3 m5) (aj 3 m5)) aA))
  (aq (iT (cP hr) (aj 0 cJ) aY (bz iJ (bz iI (bz lC (aj 3 m5) aA) aA) aA))
  (aB (bR (bz iJ (bz nJ (dY (cP hr) (aj 0 cJ) aY) aA) (aj 1 mZ))))))))), ?_⟩
 have d1:=FN e
 have d2:=QD e
 have d3:=K4 e
 walk_at "vs"
 cases mixed with
 | false=>
   walk_at "vs"
   refine And.intro (Aa e _) ?_
   walk_at "vs"
   exact q _ _ (Int.emod_nonneg _ (by omega)) (Int.emod_lt_of_pos _ hm) (But.set _ (by simp)) ⟨_,_,_,ak,h0,by omega⟩
 | true=>
   walk_at "vs"
   refine And.intro (Jm e _) ?_
   have e2:upd H p (.dK (vW rest true (count+1))) p=some (.dK (vW rest true (count+1))):=ak
   have b2:But [p] H (upd H p (.dK (vW rest true (count+1)))):=But.set _ (by simp)
   clear d1 d2 d3
   generalize upd H p (.dK (vW rest true (count+1)))=H2 at *
   have d1:=FN e2
   have d3:=K4 e2
   have m1:qp 70001 (count+1):= .inl ⟨by decide,by decide⟩
   have r0:=Int.emod_nonneg (rest % 2147483579+70001 *(count+1)) (show(2147483579:Int)≠0 by decide)
   have r1:=Int.emod_lt_of_pos (rest % 2147483579+70001 *(count+1)) (show(0:Int)<2147483579 by decide)
   have m2:qp ((rest % 2147483579+70001 *(count+1)) % 2147483579) ((rest % 2147483579+70001 *(count+1)) % 2147483579):= .inl ⟨by omega,by omega⟩
   have z1:=Int.emod_nonneg ((rest % 2147483579+70001 *(count+1)) % 2147483579 *((rest % 2147483579+70001 *(count+1)) % 2147483579)) (show(2147483563:Int)≠0 by decide)
   have z2:=Int.emod_lt_of_pos ((rest % 2147483579+70001 *(count+1)) % 2147483579 *((rest % 2147483579+70001 *(count+1)) % 2147483579)) (show(0:Int)<2147483563 by decide)
   have m3:qp ((rest % 2147483579+70001 *(count+1)) % 2147483579 *((rest % 2147483579+70001 *(count+1)) % 2147483579) % 2147483563) 50021:= .inl ⟨by omega,by omega⟩
   walk_at "vs"
   refine And.intro (Aa e2 _) ?_
   have e3:upd H2 p (.dK (vW (((rest % 2147483579+70001 *(count+1)) % 2147483579 *((rest % 2147483579+70001 *(count+1)) % 2147483579) % 2147483563 * 50021+7) % 2147483579) true (count+1))) p=some (.dK (vW (((rest % 2147483579+70001 *(count+1)) % 2147483579 *((rest % 2147483579+70001 *(count+1)) % 2147483579) % 2147483563 * 50021+7) % 2147483579) true (count+1))):=ak
   have d4:=FN e3
   walk_at "vs"
   exact q _ _ (Int.emod_nonneg _ (by omega)) (Int.emod_lt_of_pos _ hm) (b2.trans (But.set _ (by simp))) ⟨_,_,_,ak,by omega,by omega⟩
end
section
variable {P:Program}{w:World}{K:PySem.W.Frag}{mg:Str->Option Value}{base:Heap}
abbrev d7:Stmt:=top 25
theorem yx:bI ["state","kind"] ["state"] (aa d7):=⟨rfl,rfl,rfl,by decide +kernel,rfl,by decide +kernel,by decide +kernel⟩
theorem zu:Loc (aa d7) "kind":=by decide +kernel
theorem jc:(aa d7).names.lookup ("_law_take":Str)=some NameKind.globalImplicit:=by decide +kernel
theorem kj:aG (aa d7) "state":=by decide +kernel
theorem jd:(("_law_take":Str)==("__debug__":Str))=false:=by decide +kernel
theorem lJ:aG (aa d7) "kind":=by decide +kernel
theorem GK {f g0:Addr}{fd gd0:FuncData} (dF:FnT K mg "_law_number" d7 ["state"] f fd)
 (aC:FnT K mg "_law_take" dh ["state","many"] g0 gd0) (bW:aX P w K mg base CX0 1 g0 gd0 ["state","many"] FP)
 (T:Blt mg):aX P w K mg base CX0 2 f fd ["state"] Tv:=by
 refine dF.F.okQ yx (fun vs H Q E h=> ?_) (fun cdv A outer s H vs Q E hr h=> ?_)
 ·obtain⟨p,c,rfl,_⟩:=h
  rfl
 obtain⟨p,c,rfl,st,hc,q⟩:=h
 refine⟨_,(aq (bV (i:=1) yx.nd rfl zu (bM (bW.mono (by omega)) hr jc aC.m aC.F.kp aC.b .nil cz (aQ (aj 0 kj) (fP aA au)) jd))
  (aq (eY (cQ gH (aj 1 lJ) aA (bB _)) (aB (bR (bz jW (bM (bW.mono (by omega)) hr jc aC.m aC.F.kp aC.b .nil cz (aQ (aj 0 kj) (yH (bz iI (bz lC aA (bz Oi aA aA)) aA) au)) jd) (bz Oi aA aA)))) dz)
  (aB (bR (bz jW (bM (bW.mono (by omega)) hr jc aC.m aC.F.kp aC.b .nil cz (aQ (aj 0 kj) (mR (cM fY (gR (fP aA (fP aA (fP aA au)))) (aj 1 lJ)) au)) jd) (cM fY (gR (fP aA (fP aA (fP aA au)))) (aj 1 lJ))))))), ?_⟩
 walk_at "vs"
 intro kind H1 k0 k1 b1 st1
 walk_at "vs"
 by_cases hk:kind=3
 ·rw[show decide (V.int kind=V.int 3)=true by subst hk;rfl]
  walk_at "vs"
  intro n H2 n0 n1 b2 st2
  have e10:(10:Int)^ Int.toNat 12=1000000000000:=by decide
  rw[e10] at n1
  walk_at "vs"
  rw[e10]
  exact q _ _ (Tu (by omega)) (b1.trans b2) st2
 ·rw[show decide (V.int kind=V.int 3)=false from decide_eq_false fun z=>hk (by cases z;rfl)]
  have three:∃m d:Int,atI [V.int 5, .int 21, .int 2001] kind=some (.int m)/\atI [V.int 2, .int 10, .int 1000] kind=some (.int d)/\0<m/\m<=2001/\0<=d/\d<=1000:=by
   have:kind=0\/kind=1\/kind=2:=by omega
   rcases this with rfl | rfl | rfl
   ·exact⟨5,2,rfl,rfl,by decide,by decide,by decide,by decide⟩
   ·exact⟨21,10,rfl,rfl,by decide,by decide,by decide,by decide⟩
   ·exact⟨2001,1000,rfl,rfl,by decide,by decide,by decide,by decide⟩
  obtain⟨m,d,am,ad,m0,m1,d0,d1⟩:=three
  have hlg:m.natAbs.log2<9000:=Nat.lt_of_le_of_lt (Nat.log2_le_self _) (by omega)
  walk_at "vs"
  intro l hl
  have sl:=az (.lst [V.int 5, .int 21, .int 2001]) hl
  have el:upd H1 l (.lst [V.int 5, .int 21, .int 2001]) l=some (.lst [V.int 5, .int 21, .int 2001]):=ak
  replace st1:=st1.same sl
  replace b1:=b1.trans (But.of_same sl)
  generalize upd H1 l (.lst [V.int 5, .int 21, .int 2001])=H2 at *
  walk_at "vs"
  intro n H3 n0 n1 b3 st3
  replace b1:=b1.trans b3
  walk_at "vs"
  intro l2 hl2
  have sl2:=az (.lst [V.int 2, .int 10, .int 1000]) hl2
  have el2:upd H3 l2 (.lst [V.int 2, .int 10, .int 1000]) l2=some (.lst [V.int 2, .int 10, .int 1000]):=ak
  replace st3:=st3.same sl2
  replace b1:=b1.trans (But.of_same sl2)
  generalize upd H3 l2 (.lst [V.int 2, .int 10, .int 1000])=H4 at *
  walk_at "vs"
  exact q _ _ (Tu (by omega)) b1 st3
abbrev fJ:Stmt:=top 26
theorem Lk:bI ["state","some"] ["state","some"] (aa fJ):=⟨rfl,rfl,rfl,by decide +kernel,rfl,by decide +kernel,by decide +kernel⟩
theorem mL:(aa fJ).names.lookup ("_law_take":Str)=some NameKind.globalImplicit:=by decide +kernel
theorem mz:aG (aa fJ) "state":=by decide +kernel
theorem mO:(("_law_take":Str)==("__debug__":Str))=false:=by decide +kernel
theorem m6:aG (aa fJ) "some":=by decide +kernel
theorem tG:(aa fJ).names.lookup ("_law_number":Str)=some NameKind.globalImplicit:=by decide +kernel
theorem tH:(("_law_number":Str)==("__debug__":Str))=false:=by decide +kernel
theorem Dq:(aa fJ).names.lookup ("len":Str)=some NameKind.globalImplicit:=by decide +kernel
theorem Dr:("len":Str)≠"__name__":=by decide +kernel
theorem Ds:(("len":Str)==("__debug__":Str))=false:=by decide +kernel
theorem Ln {f g0 g1:Addr}{fd gd0 gd1:FuncData} (fK:FnT K mg "_law_leaf" fJ ["state","some"] f fd)
 (aC:FnT K mg "_law_take" dh ["state","many"] g0 gd0) (bW:aX P w K mg base CX0 1 g0 gd0 ["state","many"] FP)
 (dF:FnT K mg "_law_number" d7 ["state"] g1 gd1) (uJ:aX P w K mg base CX0 2 g1 gd1 ["state"] Tv)
 (T:Blt mg):aX P w K mg base CX0 3 f fd ["state","some"] Pa:=by
 refine fK.F.okQ Lk (fun vs H Q E h=> ?_) (fun cdv A outer s H vs Q E hr h=> ?_)
 ·obtain⟨p,l,c,ns,rfl,_⟩:=h
  rfl
 obtain⟨p,l,c,ns,rfl,st,hc,el,hn,q⟩:=h
 refine⟨_,(aq (eY (El (zQ (cQ (Hv hr.units) (aj 1 m6) (gR au) (bB _)) (vN (cQ gH (bM (bW.mono (by omega)) hr mL aC.m aC.F.kp aC.b .nil cz (aQ (aj 0 mz) (fP aA au)) mO) aA (bB _))))) (aB (bR (jn (fP aY (vQ (bM (uJ.mono (by omega)) hr tG dF.m dF.F.kp dF.b .nil cz (aQ (aj 0 mz) au) tH) au))))) dz)
  (aB (bR (jn (fP aY (mR (cM fY (aj 1 m6) (bM (bW.mono (by omega)) hr mL aC.m aC.F.kp aC.b .nil cz (aQ (aj 0 mz) (vQ (cN gU Dq T.uW oG (aQ (aj 1 m6) au) Dr Ds) au)) mO)) au)))))), ?_⟩
 walk_at "vs"
 intro z hz
 have sz:=az (.lst []) hz
 have ez:upd H z (.lst []) z=some (.lst []):=ak
 replace st:=st.same sz
 replace el:=sz _ _ el
 have b0:But [p] H (upd H z (.lst [])):=But.of_same sz
 generalize upd H z (.lst [])=H0 at *
 have num:∀(Hx:Hp) (cx:Nat),But [p] H Hx->lO Hx p cx->cx<=c+1->∀n H',PySem.Builtin.Int.intBits n<=41->But [p] Hx H'->lO H' p (cx+2)->∀a,H' a=none->Q (.ref a) (upd H' a (.tup [.str "number", .int n])):=fun Hx cx bx sx hcx n H' hb b' s' a ha=>by
  have s2:=az (.tup [.str "number", .int n]) ha
  refine q a (.num n) _ (bx.trans (b'.trans (But.of_same s2))) ?_ (.num ak) hb
  obtain⟨r,m,k,e,h1,h2⟩:=s'.same s2
  exact⟨r,m,k,e,h1,by omega⟩
 cases ns with
 | nil=>
   walk_at "vs"
   intro n H1 hb b1 st1
   walk_at "vs"
   exact fun a ha=>num H0 c b0 st (by omega) n H1 hb b1 st1 a ha
 | cons y ys=>
   walk_at "vs"
   intro t H1 t0 t1 b1 st1
   have el1:=b1 _ _ (st.off el (by simp)) el
   walk_at "vs"
   by_cases ht:t=0
   ·rw[show decide (V.int t=V.int 0)=true by subst ht;rfl]
    walk_at "vs"
    intro n H2 hb b2 st2
    walk_at "vs"
    exact fun a ha=>num H1 (c+1) (b0.trans b1) st1 (Nat.le_refl _) n H2 hb b2 st2 a ha
   ·rw[show decide (V.int t=V.int 0)=false from decide_eq_false fun z=>ht (by cases z;rfl)]
    have hm0:(0:Int)<((((y::ys).map V.str).length:Nat):Int):=by rw[List.length_map];show(0:Int)<((ys.length+1:Nat):Int);omega
    have hlg:((((y::ys).map V.str).length:Nat):Int).natAbs.log2<9000:=Nat.lt_of_le_of_lt (Nat.log2_le_self _) (by rw[List.length_map,Int.natAbs_natCast];omega)
    walk_at "vs"
    intro n H2 n0 n1 b2 st2
    have el2:=b2 _ _ (st1.off el1 (by simp)) el1
    obtain⟨x,hx,hxm⟩:∃x,atI ((y::ys).map V.str) n=some (.str x)/\x∈y::ys:=by
     obtain⟨j,rfl⟩:=Int.eq_ofNat_of_zero_le n0
     have hj:j<(y::ys).length:=by rw[List.length_map] at n1;omega
     exact⟨(y::ys)[j],lB (by rw[List.getElem?_map,List.getElem?_eq_getElem hj];rfl),List.getElem_mem hj⟩
    walk_at "vs"
    intro a ha
    have s2:=az (.tup [.str "read", .str x]) ha
    refine q a (.rd x) _ (b0.trans (b1.trans (b2.trans (But.of_same s2)))) ?_ (.rd ak) hxm
    obtain⟨r,m,k,e,h1,h2⟩:=st2.same s2
    exact⟨r,m,k,e,h1,by omega⟩
end
section
variable {P:Program}{w:World}{K:PySem.W.Frag}{mg:Str->Option Value}{base:Heap}
abbrev aH:Stmt:=top 27
theorem iR:bI ["state","some","deep","kind","small","other","names","first","second"] ["state","some","deep"] (aa aH):=⟨rfl,rfl,rfl,by decide +kernel,rfl,by decide +kernel,by decide +kernel⟩
theorem zx:Loc (aa aH) "kind":=by decide +kernel
theorem gj:(aa aH).names.lookup ("_law_take":Str)=some NameKind.globalImplicit:=by decide +kernel
theorem bU:aG (aa aH) "state":=by decide +kernel
theorem eV:(("_law_take":Str)==("__debug__":Str))=false:=by decide +kernel
theorem ir:aG (aa aH) "kind":=by decide +kernel
theorem fW:aG (aa aH) "deep":=by decide +kernel
theorem tK:(aa aH).names.lookup ("_law_leaf":Str)=some NameKind.globalImplicit:=by decide +kernel
theorem eE:aG (aa aH) "some":=by decide +kernel
theorem tL:(("_law_leaf":Str)==("__debug__":Str))=false:=by decide +kernel
theorem yf:Loc (aa aH) "small":=by decide +kernel
theorem yg:Loc (aa aH) "other":=by decide +kernel
theorem dJ:(aa aH).names.lookup ("_law_recipe":Str)=some NameKind.globalImplicit:=by decide +kernel
theorem dM:(("_law_recipe":Str)==("__debug__":Str))=false:=by decide +kernel
theorem oX:aG (aa aH) "small":=by decide +kernel
theorem oY:aG (aa aH) "other":=by decide +kernel
theorem yh:Loc (aa aH) "names":=by decide +kernel
theorem yj:(aa aH).names.lookup ("tuple":Str)=some NameKind.globalImplicit:=by decide +kernel
theorem yl:(aa aH).names.lookup ("range":Str)=some NameKind.globalImplicit:=by decide +kernel
theorem An:("len":Str)≠"__name__":=by decide +kernel
theorem Ao:(("len":Str)==("__debug__":Str))=false:=by decide +kernel
theorem ym:("tuple":Str)≠"__name__":=by decide +kernel
theorem yo:(("tuple":Str)==("__debug__":Str))=false:=by decide +kernel
theorem yp:aG (aa aH) "names":=by decide +kernel
theorem yq:Loc (aa aH) "first":=by decide +kernel
theorem wV:Loc (aa aH) "second":=by decide +kernel
theorem oE:aG (aa aH) "second":=by decide +kernel
theorem oZ:aG (aa aH) "first":=by decide +kernel
theorem uZ {d:Nat}{f g0 g1:Addr}{fd gd0 gd1:FuncData} (aK:FnT K mg "_law_recipe" aH ["state","some","deep"] f fd)
 (aC:FnT K mg "_law_take" dh ["state","many"] g0 gd0) (bW:aX P w K mg base CX0 1 g0 gd0 ["state","many"] FP)
 (fK:FnT K mg "_law_leaf" fJ ["state","some"] g1 gd1) (lK:aX P w K mg base CX0 3 g1 gd1 ["state","some"] Pa)
 (jr:aX P w K mg base CX0 (d+3) f fd ["state","some","deep"] (agQ d)) (T:Blt mg):
 aX P w K mg base CX0 (d+4) f fd ["state","some","deep"] (Tw d):=by
 refine aK.F.okQ iR (fun vs H Q E h=> ?_) (fun cdv A outer s H vs Q E hr h=> ?_)
 ·obtain⟨p,l,c,ns,deep,rfl,_⟩:=h
  rfl
 obtain⟨p,l,c,ns,deep,rfl,hdeep,hd3,hp,hc,el,hn1,hg,q⟩:=h
 refine⟨_,(aq (bV (i:=3) iR.nd rfl zx (bM (bW.mono (by omega)) hr gj aC.m aC.F.kp aC.b .nil cz (aQ (aj 0 bU) (fP aA au)) eV))
  (aq (eY (El (zQ (cQ gH (aj 2 fW) aA (bB _)) (vN (cQ gH (aj 3 ir) aA (bB _))))) (aB (bR (bM (lK.mono (by omega)) hr tK fK.m fK.F.kp fK.b .nil cz (aQ (aj 0 bU) (aQ (aj 1 eE) au)) tL))) dz)
  (aq (eY (cQ gH (aj 3 ir) aA (bB _)) (aq (bV (i:=4) iR.nd rfl yf (jn (fP aY (yH (bz jW (bM (bW.mono (by omega)) hr gj aC.m aC.F.kp aC.b .nil cz (aQ (aj 0 bU) (fP aA au)) eV) aA) au))))
  (aq (bV (i:=5) iR.nd rfl yg (bM (jr.mono (by omega)) hr dJ aK.m aK.F.kp aK.b .nil cz (aQ (aj 0 bU) (aQ (aj 1 eE) (yH (bz jW (aj 2 fW) aA) au))) dM))
  (aB (bR (cM fY (gR (Mx (jn (fP aY (aQ (aj 4 oX) (aQ (aj 5 oY) au)))) (Mx (jn (fP aY (aQ (aj 5 oY) (aQ (aj 4 oX) au)))) au))) (bM (bW.mono (by omega)) hr gj aC.m aC.F.kp aC.b .nil cz (aQ (aj 0 bU) (fP aA au)) eV)))))) dz)
  (aq (eY (El (Mm (cQ gH (aj 3 ir) aA (bB _)) (Ir (cQ (Qv hr.units) (aj 1 eE) (gR au) (bB _))))) (aq (bV (i:=6) iR.nd rfl yh (pK Ka yj T.Iz Ei (aaD (zT rfl (n:=1) (fr:=[1,0]) (N:=["k","some","state"]) (Hq (scX:=aa aH) (NX:=["state","some","deep","kind","small","other","names","first","second"]) rfl rfl (by decide +kernel)) (Hs yl T.Ol (yH (bz iI aA (bM (bW.mono (by omega)) hr gj aC.m aC.F.kp aC.b .nil cz (aQ (aj 0 bU) (fP aA au)) eV)) au)) (fun _ _ _ _ _=>(qgx (i:=0) (show List.Nodup (α:=Str) ["k","some","state"] by decide) (Io (by decide +kernel)))) (fun _ _ _ _ _=>Mr) (fun _ _ _ _ _=>(cM (xJ (K:=K) rfl) (aj 1 (nH.ok (by decide +kernel))) (bM (bW.mono (by omega)) hr (glC (by decide +kernel)) aC.m aC.F.kp aC.b .nil cz (aQ (aj 2 (nH.ok (by decide +kernel))) (vQ (cN (Kd (K:=K) rfl) (glC (by decide +kernel)) T.uW oG (aQ (aj 1 (nH.ok (by decide +kernel))) au) An Ao) au)) eV)))) au) ym yo))
  (aB (bR (jn (fP aY (vQ (bM (jr.mono (by omega)) hr dJ aK.m aK.F.kp aK.b .nil cz (aQ (aj 0 bU) (aQ (aj 1 eE) (yH (bz jW (aj 2 fW) aA) au))) dM) (aQ (aj 6 yp) au))))))) dz)
  (aq (bV (i:=7) iR.nd rfl yq (bM (jr.mono (by omega)) hr dJ aK.m aK.F.kp aK.b .nil cz (aQ (aj 0 bU) (aQ (aj 1 eE) (yH (bz jW (aj 2 fW) aA) au))) dM))
  (aq (bV (i:=8) iR.nd rfl wV (bM (jr.mono (by omega)) hr dJ aK.m aK.F.kp aK.b .nil cz (aQ (aj 0 bU) (aQ (aj 1 eE) (yH (bz jW (aj 2 fW) aA) au))) dM))
  (aq (eY (cQ RP (aj 3 ir) aA (bB _)) (aB (bR (jn (fP aY (aQ (aj 7 oZ) (aQ (aj 8 oE) (vQ (bM (jr.mono (by omega)) hr dJ aK.m aK.F.kp aK.b .nil cz (aQ (aj 0 bU) (aQ (aj 1 eE) (yH (bz jW (aj 2 fW) aA) au))) dM) au))))))) dz)
  (aB (bR (jn (mR (cM fY (gR (fP aY (fP aY (fP aY (fP aY au))))) (bz jW (aj 3 ir) aA)) (aQ (aj 7 oZ) (aQ (aj 8 oE) au))))))))))))), ?_⟩
 have ht:=adH d
 have nlp:=hp.off el (by simp)
 walk_at "vs"
 intro kind H1 k0 k1 b1 pl1
 have el1:=b1 _ _ nlp el
 have leafq:∀a r H',But [p] H1 H'->lO H' p (c+1+3)->IsR H' a r->CW ns r->Q (.ref a) H':=fun a r H' b pl R ok=>
  q a r H' (b1.trans b) (pl.mono (by omega)) R (ok.rc hg)
 cases d with
 | zero=>
   have hdeep:deep=0:=hdeep
   subst hdeep
   walk_at "vs"
   exact leafq
 | succ d=>
   have hdeep:deep=(d:Int)+1:=hdeep
   have hnd:¬(deep=0):=by omega
   have et:Nf (d+1)=14+3 * Nf d:=rfl
   walk_at "vs"
   refine vK (fun c0=>absurd (V.int.inj (of_decide_eq_true c0)) hnd) (fun _=> ?_)
   walk_at "vs"
   refine vK (fun c0=> ?_) (fun c0=> ?_)
   ·walk_at "vs"
    exact leafq
   ·have c0':¬(kind=0):=fun z=>c0 (by rw[z];rfl)
    walk_at "vs"
    --BRANCHES
    have pl:=pl1
    have B:=b1
    clear pl1
    refine vK (fun c1=> ?_) (fun c1=> ?_)
    ·walk_at "vs"
     intro n W1 n0 n1 b_ st_
     replace B:=B.trans b_
     replace el1:=b_ _ _ (pl.off el1 (by simp)) el1
     replace pl:=st_
     clear b_
     walk_at "vs"
     intro sm hsm
     have s_:=az (.tup [.str "number", .int (n - 3)]) hsm
     have esm:upd W1 sm (.tup [.str "number", .int (n - 3)]) sm=some (.tup [.str "number", .int (n - 3)]):=ak
     replace B:=B.trans (But.of_same s_)
     replace el1:=s_ _ _ el1
     replace pl:=pl.same s_
     generalize upd W1 sm (.tup [.str "number", .int (n - 3)])=W2 at *
     clear s_
     have Rsm:IsR W2 sm (.num (n - 3)):= .num esm
     clear esm
     walk_at "vs"
     intro a1 ra1 W3 b_ st_ Ra1 mG
     replace B:=B.trans b_
     replace el1:=b_ _ _ (pl.off el1 (by simp)) el1
     replace Rsm:=Rsm.tups (pl.tups b_)
     replace pl:=st_
     clear b_
     have aa3:=mG.d
     walk_at "vs"
     intro t1 ht1
     have s_:=az (.tup [.str "times", .ref sm, .ref a1]) ht1
     have et1:upd W3 t1 (.tup [.str "times", .ref sm, .ref a1]) t1=some (.tup [.str "times", .ref sm, .ref a1]):=ak
     replace B:=B.trans (But.of_same s_)
     replace el1:=s_ _ _ el1
     replace Rsm:=Rsm.same s_
     replace Ra1:=Ra1.same s_
     replace pl:=pl.same s_
     generalize upd W3 t1 (.tup [.str "times", .ref sm, .ref a1])=W4 at *
     clear s_
     walk_at "vs"
     intro t2 ht2
     have s_:=az (.tup [.str "times", .ref a1, .ref sm]) ht2
     have et2:upd W4 t2 (.tup [.str "times", .ref a1, .ref sm]) t2=some (.tup [.str "times", .ref a1, .ref sm]):=ak
     replace B:=B.trans (But.of_same s_)
     replace el1:=s_ _ _ el1
     replace Rsm:=Rsm.same s_
     replace Ra1:=Ra1.same s_
     replace et1:=s_ _ _ et1
     replace pl:=pl.same s_
     generalize upd W4 t2 (.tup [.str "times", .ref a1, .ref sm])=W5 at *
     clear s_
     walk_at "vs"
     intro l9 hl9
     have s_:=az (.lst [.ref t1, .ref t2]) hl9
     have el9:upd W5 l9 (.lst [.ref t1, .ref t2]) l9=some (.lst [.ref t1, .ref t2]):=ak
     replace B:=B.trans (But.of_same s_)
     replace el1:=s_ _ _ el1
     replace Rsm:=Rsm.same s_
     replace Ra1:=Ra1.same s_
     replace et1:=s_ _ _ et1
     replace et2:=s_ _ _ et2
     replace pl:=pl.same s_
     generalize upd W5 l9 (.lst [.ref t1, .ref t2])=W6 at *
     clear s_
     walk_at "vs"
     intro m W7 m0 m1 b_ st_
     replace B:=B.trans b_
     replace el1:=b_ _ _ (pl.off el1 (by simp)) el1
     replace Rsm:=Rsm.tups (pl.tups b_)
     replace Ra1:=Ra1.tups (pl.tups b_)
     replace et1:=b_ _ _ (pl.off et1 (by simp)) et1
     replace et2:=b_ _ _ (pl.off et2 (by simp)) et2
     replace el9:=b_ _ _ (pl.off el9 (by simp)) el9
     replace pl:=st_
     clear b_
     have I1:IsR W7 t1 (.bin .times (.num (n - 3)) ra1):= .bin (op:= .times) et1 Rsm Ra1
     have I2:IsR W7 t2 (.bin .times ra1 (.num (n - 3))):= .bin (op:= .times) et2 Ra1 Rsm
     have sn:=QF n0 n1
     have gn:R.Good (.num (n - 3)):=by show(n - 3).natAbs<10 ^ 40;omega
     have ln:R.Lin (.num (n - 3)):=Nat.le_trans sn (by decide)
     have two:m=0\/m=1:=by omega
     rcases two with rfl | rfl
     ·have hat:atI [V.ref t1, .ref t2] 0=some (.ref t1):=rfl
      walk_at "vs"
      exact q _ _ _ B (pl.mono (by omega)) I1 ⟨⟨ln,mG.l,fun _=> .inl ⟨_,rfl,sn⟩⟩,⟨trivial,mG.i⟩,by show max 1 ra1.depth+1<=_;omega,⟨gn,mG.g⟩⟩
     ·have hat:atI [V.ref t1, .ref t2] 1=some (.ref t2):=rfl
      walk_at "vs"
      exact q _ _ _ B (pl.mono (by omega)) I2 ⟨⟨mG.l,ln,fun _=> .inr ⟨_,rfl,sn⟩⟩,⟨mG.i,trivial⟩,by show max ra1.depth 1+1<=_;omega,⟨mG.g,gn⟩⟩
    ·skip
     walk_at "vs"
     refine vK (fun c2=> ?_) (fun c2=> ?_)
     ·walk_at "vs"
      intro z0 hz0
      have s_:=az (.lst []) hz0
      have ez0:upd H1 z0 (.lst []) z0=some (.lst []):=ak
      replace B:=B.trans (But.of_same s_)
      replace el1:=s_ _ _ el1
      replace pl:=pl.same s_
      generalize upd H1 z0 (.lst [])=W8 at *
      clear s_
      cases hns:ns with
      | nil=>
        subst hns
        walk_at "vs"
        intro a1 ra1 W9 b_ st_ Ra1 mG
        replace B:=B.trans b_
        replace el1:=b_ _ _ (pl.off el1 (by simp)) el1
        replace ez0:=b_ _ _ (pl.off ez0 (by simp)) ez0
        replace pl:=st_
        clear b_
        have aa3:=mG.d
        walk_at "vs"
        intro a2 ra2 W10 b_ st_ Ra2 zy
        replace B:=B.trans b_
        replace el1:=b_ _ _ (pl.off el1 (by simp)) el1
        replace ez0:=b_ _ _ (pl.off ez0 (by simp)) ez0
        replace Ra1:=Ra1.tups (pl.tups b_)
        replace pl:=st_
        clear b_
        have ag4:=zy.d
        walk_at "vs"
        refine vK (fun c3=> ?_) (fun c3=> ?_)
        ·walk_at "vs"
         intro a3 ra3 W11 b_ st_ Ra3 Jv
         replace B:=B.trans b_
         replace el1:=b_ _ _ (pl.off el1 (by simp)) el1
         replace ez0:=b_ _ _ (pl.off ez0 (by simp)) ez0
         replace Ra1:=Ra1.tups (pl.tups b_)
         replace Ra2:=Ra2.tups (pl.tups b_)
         replace pl:=st_
         clear b_
         have ag5:=Jv.d
         walk_at "vs"
         intro p9 hp9
         have s_:=az (.tup [.str "pick", .ref a1, .ref a2, .ref a3]) hp9
         have e9:upd W11 p9 (.tup [.str "pick", .ref a1, .ref a2, .ref a3]) p9=some (.tup [.str "pick", .ref a1, .ref a2, .ref a3]):=ak
         replace B:=B.trans (But.of_same s_)
         replace el1:=s_ _ _ el1
         replace ez0:=s_ _ _ ez0
         replace Ra1:=Ra1.same s_
         replace Ra2:=Ra2.same s_
         replace Ra3:=Ra3.same s_
         replace pl:=pl.same s_
         generalize upd W11 p9 (.tup [.str "pick", .ref a1, .ref a2, .ref a3])=W12 at *
         clear s_
         exact q _ _ _ B (pl.mono (by omega)) (.pick e9 Ra1 Ra2 Ra3) ⟨⟨mG.l,zy.l,Jv.l⟩,⟨mG.i,zy.i,Jv.i⟩,by show max ra1.depth (max ra2.depth ra3.depth)+1<=_;omega,⟨mG.g,zy.g,Jv.g⟩⟩
        ·have c3':¬kind<5:=by simpa using c3
         obtain⟨op,hop,hat⟩:∃op:Op,op≠ .times/\atI [V.str "plus",V.str "minus",V.str "most",V.str "plus"] (kind - 5)=some (.str op.word):=by
          have hm:kind - 5=0\/kind - 5=1\/kind - 5=2\/kind - 5=3:=by omega
          rcases hm with hm | hm | hm | hm
          ·rw[hm];exact⟨.plus,by decide,rfl⟩
          ·rw[hm];exact⟨.minus,by decide,rfl⟩
          ·rw[hm];exact⟨.most,by decide,rfl⟩
          ·rw[hm];exact⟨.plus,by decide,rfl⟩
         walk_at "vs"
         intro lz hlz
         have s_:=az (.lst [.str "plus", .str "minus", .str "most", .str "plus"]) hlz
         have elz:upd W10 lz (.lst [.str "plus", .str "minus", .str "most", .str "plus"]) lz=some (.lst [.str "plus", .str "minus", .str "most", .str "plus"]):=ak
         replace B:=B.trans (But.of_same s_)
         replace el1:=s_ _ _ el1
         replace ez0:=s_ _ _ ez0
         replace Ra1:=Ra1.same s_
         replace Ra2:=Ra2.same s_
         replace pl:=pl.same s_
         generalize upd W10 lz (.lst [.str "plus", .str "minus", .str "most", .str "plus"])=W13 at *
         clear s_
         walk_at "vs"
         intro p9 hp9
         have s_:=az (.tup [.str op.word, .ref a1, .ref a2]) hp9
         have e9:upd W13 p9 (.tup [.str op.word, .ref a1, .ref a2]) p9=some (.tup [.str op.word, .ref a1, .ref a2]):=ak
         replace B:=B.trans (But.of_same s_)
         replace el1:=s_ _ _ el1
         replace ez0:=s_ _ _ ez0
         replace Ra1:=Ra1.same s_
         replace Ra2:=Ra2.same s_
         replace elz:=s_ _ _ elz
         replace pl:=pl.same s_
         generalize upd W13 p9 (.tup [.str op.word, .ref a1, .ref a2])=W14 at *
         clear s_
         exact q _ _ _ B (pl.mono (by omega)) (.bin e9 Ra1 Ra2) ⟨⟨mG.l,zy.l,fun z=>absurd z hop⟩,⟨mG.i,zy.i⟩,by show max ra1.depth ra2.depth+1<=_;omega,⟨mG.g,zy.g⟩⟩
      | cons y ys=>
        have hlm:(ns.map V.str).length=ns.length:=List.length_map _
        have hl0:0<((ns.map V.str).length:Int):=by rw[hlm,hns];show(0:Int)<((ys.length+1:Nat):Int);omega
        have hlog:((ns.map V.str).length:Int).natAbs.log2<9000:=by
         rw[hlm]
         exact Nat.lt_of_le_of_lt (Nat.log2_le_self _) (by rw[Int.natAbs_natCast];omega)
        have hne:(ns.map V.str).isEmpty=false:=by rw[hns];rfl
        walk_at "vs"
        rw[hne]
        walk_at "vs"
        intro n9 W15 n90 n91 b_ st_
        replace B:=B.trans b_
        replace el1:=b_ _ _ (pl.off el1 (by simp)) el1
        replace ez0:=b_ _ _ (pl.off ez0 (by simp)) ez0
        replace pl:=st_
        clear b_
        walk_at "vs"
        intro D hD
        have nD:D∉[p]:=fun z=>pl.ne hD (by simpa using z)
        have nDp:D≠p:=by simpa using nD
        have hD0:=Ey B hD nD
        refine Ml (fun i σ' H'=>(∃t,σ'=t::[some (.ref l),some (.ref p)])/\∃ts:List Str,H' D=some (.lst (ts.map V.str))/\ts.length=i/\(∀x∈ts,x∈ns)/\But [p] H H'/\lO H' p (c+1+1+i)) ?_ ?_ ?_
        ·exact⟨⟨none,rfl⟩,[],ak,rfl,by simp,B.upd _ hD0,pl.same (az _ hD)⟩
        ·intro i σ' H' hi hP
         obtain⟨⟨t,rfl⟩,ts,e,et',ho,hb,hpl⟩:=hP
         have elH:=hb _ _ nlp el
         have hi9:(i:Int)<10:=by omega
         walk_at "vs"
         intro n6 H5 n60 n61 b5 pl5
         have hb5:=hb.trans b5
         have el5:=hb5 _ _ nlp el
         have e5:=b5 _ _ nD e
         obtain⟨x,hx,hxm⟩:∃x,atI (ns.map V.str) n6=some (.str x)/\x∈ns:=by
          obtain⟨j,rfl⟩:=Int.eq_ofNat_of_zero_le n60
          have hj:j<ns.length:=by rw[hlm] at n61;omega
          exact⟨ns[j],lB (by rw[List.getElem?_map,List.getElem?_eq_getElem hj];rfl),List.getElem_mem hj⟩
         have hz:(ts.map V.str).length<sizeLine:=by rw[List.length_map];exact bY (by omega)
         walk_at "vs"
         refine⟨⟨_,rfl⟩,ts++[x], ?_,by rw[List.length_append,et'];rfl, ?_,hb5.upd _ hD0,pl5.keep (But.set _ (by simp)) (S:=[D]) (by simpa using Ne.symm nDp)⟩
         ·rw[List.map_append];exact ak
         ·intro y hy
          rcases List.mem_append.mp hy with z | z
          ·exact ho y z
          ·have:y=x:=by simpa using z
           rw[this];exact hxm
        ·intro σ' H' hP
         obtain⟨_,ts,e,et',ho,hb,hpl⟩:=hP
         clear B pl el1 ez0
         have B:=hb
         have pl:=hpl
         have el1:=hb _ _ nlp el
         clear hb hpl
         walk_at "vs"
         intro pt hpt
         have s_:=az (.tup (ts.map V.str)) hpt
         have ept:upd H' pt (.tup (ts.map V.str)) pt=some (.tup (ts.map V.str)):=ak
         replace B:=B.trans (But.of_same s_)
         replace el1:=s_ _ _ el1
         replace pl:=pl.same s_
         generalize upd H' pt (.tup (ts.map V.str))=W16 at *
         clear s_
         walk_at "vs"
         intro a1 ra1 W17 b_ st_ Ra1 mG
         replace B:=B.trans b_
         replace el1:=b_ _ _ (pl.off el1 (by simp)) el1
         replace ept:=b_ _ _ (pl.off ept (by simp)) ept
         replace pl:=st_
         clear b_
         have aa3:=mG.d
         walk_at "vs"
         intro p9 hp9
         have s_:=az (.tup [.str "choose", .ref a1, .ref pt]) hp9
         have e9:upd W17 p9 (.tup [.str "choose", .ref a1, .ref pt]) p9=some (.tup [.str "choose", .ref a1, .ref pt]):=ak
         replace B:=B.trans (But.of_same s_)
         replace el1:=s_ _ _ el1
         replace ept:=s_ _ _ ept
         replace Ra1:=Ra1.same s_
         replace pl:=pl.same s_
         generalize upd W17 p9 (.tup [.str "choose", .ref a1, .ref pt])=W18 at *
         clear s_
         exact q _ _ _ B (pl.mono (by omega)) (.cho e9 Ra1 ept) ⟨⟨mG.l,by omega⟩,⟨mG.i,ho⟩,by show ra1.depth+1<=_;omega,⟨mG.g,by omega,by omega,fun x hx=>hg x (ho x hx)⟩⟩
     ·walk_at "vs"
      intro a1 ra1 W19 b_ st_ Ra1 mG
      replace B:=B.trans b_
      replace el1:=b_ _ _ (pl.off el1 (by simp)) el1
      replace pl:=st_
      clear b_
      have aa3:=mG.d
      walk_at "vs"
      intro a2 ra2 W20 b_ st_ Ra2 zy
      replace B:=B.trans b_
      replace el1:=b_ _ _ (pl.off el1 (by simp)) el1
      replace Ra1:=Ra1.tups (pl.tups b_)
      replace pl:=st_
      clear b_
      have ag4:=zy.d
      walk_at "vs"
      refine vK (fun c3=> ?_) (fun c3=> ?_)
      ·walk_at "vs"
       intro a3 ra3 W21 b_ st_ Ra3 Jv
       replace B:=B.trans b_
       replace el1:=b_ _ _ (pl.off el1 (by simp)) el1
       replace Ra1:=Ra1.tups (pl.tups b_)
       replace Ra2:=Ra2.tups (pl.tups b_)
       replace pl:=st_
       clear b_
       have ag5:=Jv.d
       walk_at "vs"
       intro p9 hp9
       have s_:=az (.tup [.str "pick", .ref a1, .ref a2, .ref a3]) hp9
       have e9:upd W21 p9 (.tup [.str "pick", .ref a1, .ref a2, .ref a3]) p9=some (.tup [.str "pick", .ref a1, .ref a2, .ref a3]):=ak
       replace B:=B.trans (But.of_same s_)
       replace el1:=s_ _ _ el1
       replace Ra1:=Ra1.same s_
       replace Ra2:=Ra2.same s_
       replace Ra3:=Ra3.same s_
       replace pl:=pl.same s_
       generalize upd W21 p9 (.tup [.str "pick", .ref a1, .ref a2, .ref a3])=W22 at *
       clear s_
       exact q _ _ _ B (pl.mono (by omega)) (.pick e9 Ra1 Ra2 Ra3) ⟨⟨mG.l,zy.l,Jv.l⟩,⟨mG.i,zy.i,Jv.i⟩,by show max ra1.depth (max ra2.depth ra3.depth)+1<=_;omega,⟨mG.g,zy.g,Jv.g⟩⟩
      ·have c3':¬kind<5:=by simpa using c3
       obtain⟨op,hop,hat⟩:∃op:Op,op≠ .times/\atI [V.str "plus",V.str "minus",V.str "most",V.str "plus"] (kind - 5)=some (.str op.word):=by
        have hm:kind - 5=0\/kind - 5=1\/kind - 5=2\/kind - 5=3:=by omega
        rcases hm with hm | hm | hm | hm
        ·rw[hm];exact⟨.plus,by decide,rfl⟩
        ·rw[hm];exact⟨.minus,by decide,rfl⟩
        ·rw[hm];exact⟨.most,by decide,rfl⟩
        ·rw[hm];exact⟨.plus,by decide,rfl⟩
       walk_at "vs"
       intro lz hlz
       have s_:=az (.lst [.str "plus", .str "minus", .str "most", .str "plus"]) hlz
       have elz:upd W20 lz (.lst [.str "plus", .str "minus", .str "most", .str "plus"]) lz=some (.lst [.str "plus", .str "minus", .str "most", .str "plus"]):=ak
       replace B:=B.trans (But.of_same s_)
       replace el1:=s_ _ _ el1
       replace Ra1:=Ra1.same s_
       replace Ra2:=Ra2.same s_
       replace pl:=pl.same s_
       generalize upd W20 lz (.lst [.str "plus", .str "minus", .str "most", .str "plus"])=W23 at *
       clear s_
       walk_at "vs"
       intro p9 hp9
       have s_:=az (.tup [.str op.word, .ref a1, .ref a2]) hp9
       have e9:upd W23 p9 (.tup [.str op.word, .ref a1, .ref a2]) p9=some (.tup [.str op.word, .ref a1, .ref a2]):=ak
       replace B:=B.trans (But.of_same s_)
       replace el1:=s_ _ _ el1
       replace Ra1:=Ra1.same s_
       replace Ra2:=Ra2.same s_
       replace elz:=s_ _ _ elz
       replace pl:=pl.same s_
       generalize upd W23 p9 (.tup [.str op.word, .ref a1, .ref a2])=W24 at *
       clear s_
       exact q _ _ _ B (pl.mono (by omega)) (.bin e9 Ra1 Ra2) ⟨⟨mG.l,zy.l,fun z=>absurd z hop⟩,⟨mG.i,zy.i⟩,by show max ra1.depth ra2.depth+1<=_;omega,⟨mG.g,zy.g⟩⟩
theorem yz {f g0 g1:Addr}{fd gd0 gd1:FuncData} (aK:FnT K mg "_law_recipe" aH ["state","some","deep"] f fd)
 (aC:FnT K mg "_law_take" dh ["state","many"] g0 gd0) (bW:aX P w K mg base CX0 1 g0 gd0 ["state","many"] FP)
 (fK:FnT K mg "_law_leaf" fJ ["state","some"] g1 gd1) (lK:aX P w K mg base CX0 3 g1 gd1 ["state","some"] Pa) (T:Blt mg):∀d,aX P w K mg base CX0 (d+4) f fd ["state","some","deep"] (Tw d)
 | 0=>uZ aK aC bW fK lK (never fun vs H Q E h=>h) T
 | d+1=>uZ aK aC bW fK lK (yz aK aC bW fK lK T d) T
theorem Gm {f g0 g1:Addr}{fd gd0 gd1:FuncData} (aK:FnT K mg "_law_recipe" aH ["state","some","deep"] f fd)
 (aC:FnT K mg "_law_take" dh ["state","many"] g0 gd0) (bW:aX P w K mg base CX0 1 g0 gd0 ["state","many"] FP)
 (fK:FnT K mg "_law_leaf" fJ ["state","some"] g1 gd1) (lK:aX P w K mg base CX0 3 g1 gd1 ["state","some"] Pa) (T:Blt mg):aX P w K mg base CX0 7 f fd ["state","some","deep"] Yn:=by
 have ok:=yz aK aC bW fK lK T
 refine⟨fun vs H Q E h=> ?_,fun A outer s H args us vs Q E hr he hb hv hs=> ?_⟩
 ·obtain⟨p,l,c,ns,deep,rfl,_⟩:=h
  rfl
 ·obtain⟨p,l,c,ns,deep,rfl,h0,h4,hp,hc,el,hn,hg,q⟩:=hs
  obtain⟨d,rfl⟩:=Int.eq_ofNat_of_zero_le h0
  have hd:d=0\/d=1\/d=2\/d=3:=by omega
  have ht:Nf d<=290:=by rcases hd with rfl | rfl | rfl | rfl<;>decide
  exact((ok d).mono (by omega)).run A outer s H args us _ Q E hr he hb hv ⟨p,l,c,ns,_,rfl,rfl,by omega,hp,by omega,el,hn,hg,fun a r H' b pl R o=>q a r H' b (pl.mono (by omega)) R ⟨o.l,o.i,by have:=o.d;omega,o.g⟩⟩
end
section
variable {P:Program}{w:World}{K:PySem.W.Frag}{mg:Str->Option Value}{base:Heap}
abbrev gQ:Stmt:=top 28
theorem Aq:bI ["some"] [] (aa gQ):=⟨rfl,rfl,rfl,by decide +kernel,rfl,by decide +kernel,by decide +kernel⟩
theorem Ar:Loc (aa gQ) "some":=by decide +kernel
theorem Av:aG (aa gQ) "some":=by decide +kernel
theorem Jw {f:Addr}{fd:FuncData} (cg:FnT K mg "_law_names" gQ [] f fd) (T:Blt mg):aX P w K mg base CX0 1 f fd [] Tz:=by
 refine cg.F.okQ Aq (fun vs H Q E h=> ?_) (fun cdv A outer s H vs Q E hr h=> ?_)
 ·obtain⟨rfl,_⟩:=h
  rfl
 obtain⟨rfl,q⟩:=h
 refine⟨_,(aq (bV (i:=0) Aq.nd rfl Ar (gR (fP aY (fP aY (fP aY (fP aY (fP aY (fP aY (fP aY (fP aY (fP aY (fP aY (fP aY (fP aY (fP aY (fP aY au))))))))))))))))
  (aB (bR (bz Iw (aj 0 Av) (gR (fP aY (fP aY (fP aY (fP aY au))))))))), ?_⟩
 walk_at "vs"
 intro l1 h1
 have s1:=az (.lst [V.str "a", .str "b", .str "ab", .str "ba", .str "aa", .str "read", .str "plus", .str "zz", .str "number", .str "pick", .str "z", .str "abcdefgh", .str "most", .str "given"]) h1
 have e1:upd H l1 (.lst [V.str "a", .str "b", .str "ab", .str "ba", .str "aa", .str "read", .str "plus", .str "zz", .str "number", .str "pick", .str "z", .str "abcdefgh", .str "most", .str "given"]) l1=some (.lst [V.str "a", .str "b", .str "ab", .str "ba", .str "aa", .str "read", .str "plus", .str "zz", .str "number", .str "pick", .str "z", .str "abcdefgh", .str "most", .str "given"]):=ak
 generalize upd H l1 (.lst [V.str "a", .str "b", .str "ab", .str "ba", .str "aa", .str "read", .str "plus", .str "zz", .str "number", .str "pick", .str "z", .str "abcdefgh", .str "most", .str "given"])=H1 at *
 walk_at "vs"
 intro l2 h2
 have s2:=az (.lst [V.str "c", .str "aaaaaaaa", .str "times", .str "choose"]) h2
 have e2:upd H1 l2 (.lst [V.str "c", .str "aaaaaaaa", .str "times", .str "choose"]) l2=some (.lst [V.str "c", .str "aaaaaaaa", .str "times", .str "choose"]):=ak
 replace e1:=s2 _ _ e1
 generalize upd H1 l2 (.lst [V.str "c", .str "aaaaaaaa", .str "times", .str "choose"])=H2 at *
 walk_at "vs"
 intro l3 h3
 exact q l3 _ (s1.trans (s2.trans (az _ h3))) (same_none (s1.trans s2) h3) ak
end
section
variable {P:Program}{w:World}{K:PySem.W.Frag}{mg:Str->Option Value}{base:Heap}{CM CNo CRi:Addr}
abbrev bL:Stmt:=top 30
theorem iM:bI ["house","name","found"] ["house","name"] (aa bL):=⟨rfl,rfl,rfl,by decide +kernel,rfl,by decide +kernel,by decide +kernel⟩
theorem je:Loc (aa bL) "found":=by decide +kernel
theorem qg:(aa bL).names.lookup ("worth_of":Str)=some NameKind.globalImplicit:=by decide +kernel
theorem uK:aG (aa bL) "name":=by decide +kernel
theorem tM:aG (aa bL) "house":=by decide +kernel
theorem ql:(("worth_of":Str)==("__debug__":Str))=false:=by decide +kernel
theorem pH:(aa bL).names.lookup ("MadeError":Str)=some NameKind.globalImplicit:=by decide +kernel
theorem pI:(("MadeError":Str)==("__debug__":Str))=false:=by decide +kernel
theorem tO:aG (aa bL) "found":=by decide +kernel
theorem Aw {f g0:Addr}{fd gd0:FuncData} (eX:FnT K mg "_law_worth_told" bL ["house","name"] f fd)
 (eN:PySem.W.exmOne K (.ref CNo) (.ref CM)=some true) (eR:PySem.W.exmOne K (.ref CRi) (.ref CM)=some true)
 (dO:FnT K mg "worth_of" gB ["house","name"] g0 gd0) (uL:aX P w K mg base (CXd P w) 17 g0 gd0 ["house","name"] (FJ CNo CRi))
 (pY:mg "MadeError"=some (.ref CM)) (T:Blt mg):aX P w K mg base CX0 18 f fd ["house","name"] Yo:=by
 refine eX.F.okQ iM (fun vs H Q E h=> ?_) (fun cdv A outer s H vs Q E hr h=> ?_)
 ·obtain⟨h,g,c,gs,cs,gv,rc,x,rfl,_⟩:=h
  rfl
 obtain⟨h,g,c,gs,cs,gv,rc,x,rfl,ho,hsf,q,qe⟩:=h
 have S:=iM
 have exc:∀e cls d H1,Nb CNo CRi e cls d H1->PySem.W.exmOne K cls (.ref CM)=some true:=fun e cls d H1 er=>by
  cases e with
  | no y=>rw[er.1];exact eN
  | ring zs=>rw[er.1];exact eR
 refine⟨_,(aq (bV (i:=2) iM.nd rfl je Bq)
  (aq (TQ rfl rfl rfl pH pY (fun pn xe E hX=>(aB (bV (i:=2) iM.nd rfl je (vR (uL.mono (by omega)) hr qg dO.m dO.F.kp dO.b .nil hX (aQ (aj 0 tM) (aQ (aj 1 uK) au)) ql)))) (fun e=>(aB (bV (i:=2) iM.nd rfl je Bq))) pI)
  (aB (bR (aj 2 tO))))), ?_⟩
 walk_at "vs"
 refine⟨?_, ?_⟩
 ·intro v kn rmN od H1 s1 st ru hk
  walk_at "vs"
  exact q v kn rmN od H1 s1 st ru hk
 ·intro e cls d H1 he s1 er
  refine⟨exc e cls d H1 er, ?_⟩
  walk_at "vs"
  exact qe e H1 he s1
end
section
variable {P:Program}{w:World}{K:PySem.W.Frag}{mg:Str->Option Value}{base:Heap}
abbrev aD:Stmt:=top 29
theorem dG:bI ["script","first","shape","many","given","recipes","names","k","name","state","some","cooked","j","at"] ["script","first"] (aa aD):=⟨rfl,rfl,rfl,by decide +kernel,rfl,by decide +kernel,by decide +kernel⟩
theorem zz:Loc (aa aD) "shape":=by decide +kernel
theorem uM:(aa aD).names.lookup ("_law_cell":Str)=some NameKind.globalImplicit:=by decide +kernel
theorem o6:aG (aa aD) "script":=by decide +kernel
theorem uN:(("_law_cell":Str)==("__debug__":Str))=false:=by decide +kernel
theorem Ax:Loc (aa aD) "many":=by decide +kernel
theorem iu:aG (aa aD) "shape":=by decide +kernel
theorem zA:Loc (aa aD) "given":=by decide +kernel
theorem wW:Loc (aa aD) "recipes":=by decide +kernel
theorem zB:Loc (aa aD) "names":=by decide +kernel
theorem qH:aG (aa aD) "many":=by decide +kernel
theorem tQ:(aa aD).names.lookup ("_law_names":Str)=some NameKind.globalImplicit:=by decide +kernel
theorem tR:(("_law_names":Str)==("__debug__":Str))=false:=by decide +kernel
theorem uO:(aa aD).names.lookup ("enumerate":Str)=some NameKind.globalImplicit:=by decide +kernel
theorem iw:aG (aa aD) "names":=by decide +kernel
theorem Ay:Loc (aa aD) "name":=by decide +kernel
theorem Gn:Loc (aa aD) "k":=by decide +kernel
theorem zE:Loc (aa aD) "state":=by decide +kernel
theorem tU:(aa aD).names.lookup ("_law_state":Str)=some NameKind.globalImplicit:=by decide +kernel
theorem zF:aG (aa aD) "first":=by decide +kernel
theorem jf:aG (aa aD) "k":=by decide +kernel
theorem tV:(("_law_state":Str)==("__debug__":Str))=false:=by decide +kernel
theorem jt:(aa aD).names.lookup ("_law_take":Str)=some NameKind.globalImplicit:=by decide +kernel
theorem iy:aG (aa aD) "state":=by decide +kernel
theorem ju:(("_law_take":Str)==("__debug__":Str))=false:=by decide +kernel
theorem qm:aG (aa aD) "given":=by decide +kernel
theorem jK:aG (aa aD) "name":=by decide +kernel
theorem rB:(aa aD).names.lookup ("_law_number":Str)=some NameKind.globalImplicit:=by decide +kernel
theorem rC:(("_law_number":Str)==("__debug__":Str))=false:=by decide +kernel
theorem Az:Loc (aa aD) "some":=by decide +kernel
theorem dD:aG (aa aD) "recipes":=by decide +kernel
theorem rE:(aa aD).names.lookup ("_law_recipe":Str)=some NameKind.globalImplicit:=by decide +kernel
theorem mC:aG (aa aD) "some":=by decide +kernel
theorem rF:(("_law_recipe":Str)==("__debug__":Str))=false:=by decide +kernel
theorem m7:(aa aD).names.lookup ("len":Str)=some NameKind.globalImplicit:=by decide +kernel
theorem m8:("len":Str)≠"__name__":=by decide +kernel
theorem m9:(("len":Str)==("__debug__":Str))=false:=by decide +kernel
theorem yr:Loc (aa aD) "cooked":=by decide +kernel
theorem Ba:(aa aD).names.lookup ("list":Str)=some NameKind.globalImplicit:=by decide +kernel
theorem Bb:("list":Str)≠"__name__":=by decide +kernel
theorem Bc:(("list":Str)==("__debug__":Str))=false:=by decide +kernel
theorem zG:(aa aD).names.lookup ("range":Str)=some NameKind.globalImplicit:=by decide +kernel
theorem Ck:(aa aD).names.lookup ("min":Str)=some NameKind.globalImplicit:=by decide +kernel
theorem iU:aG (aa aD) "cooked":=by decide +kernel
theorem Cm:("min":Str)≠"__name__":=by decide +kernel
theorem Cp:(("min":Str)==("__debug__":Str))=false:=by decide +kernel
theorem Gp:Loc (aa aD) "j":=by decide +kernel
theorem Dt:Loc (aa aD) "at":=by decide +kernel
theorem wX:aG (aa aD) "j":=by decide +kernel
theorem u0:aG (aa aD) "at":=by decide +kernel
theorem Jx {f g0 g1 g2 g3 g4 g5:Addr}{fd gd0 gd1 gd2 gd3 gd4 gd5:FuncData} (jl:FnT K mg "_law_house" aD ["script","first"] f fd)
 (bK:FnT K mg "_law_cell" gC ["script","k"] g0 gd0) (lH:aX P w K mg base CX0 1 g0 gd0 ["script","k"] (DQ K))
 (jk:FnT K mg "_law_state" gP ["script","k"] g1 gd1) (Lp:aX P w K mg base CX0 2 g1 gd1 ["script","k"] (Ym K))
 (aC:FnT K mg "_law_take" dh ["state","many"] g2 gd2) (bW:aX P w K mg base CX0 1 g2 gd2 ["state","many"] FP)
 (dF:FnT K mg "_law_number" d7 ["state"] g3 gd3) (uJ:aX P w K mg base CX0 2 g3 gd3 ["state"] Tv)
 (aK:FnT K mg "_law_recipe" aH ["state","some","deep"] g4 gd4) (jr:aX P w K mg base CX0 7 g4 gd4 ["state","some","deep"] Yn)
 (cg:FnT K mg "_law_names" gQ [] g5 gd5) (oF:aX P w K mg base CX0 1 g5 gd5 [] Tz)
 (T:Blt mg):aX P w K mg base CX0 8 f fd ["script","first"] (Yp K):=by
 refine jl.F.okQ dG (fun vs H Q E h=> ?_) (fun cdv A outer s H vs Q E hr h=> ?_)
 ·obtain⟨a,zs,start,rfl,_⟩:=h
  rfl
 obtain⟨a,zs,start,rfl,hS,h0,h10,q⟩:=h
 refine⟨_,(aq (bV (i:=2) dG.nd rfl zz (bz nJ (bM (lH.mono (by omega)) hr uM bK.m bK.F.kp bK.b .nil cz (aQ (aj 0 o6) (fP aA au)) uN) aA))
  (aq (bV (i:=3) dG.nd rfl Ax (bz iI aA (bz iJ (aj 2 iu) aA)))
  (aq (bV (i:=4) dG.nd rfl zA jx)
  (aq (bV (i:=5) dG.nd rfl wW jx)
  (aq (bV (i:=6) dG.nd rfl zB (rP rQ (zR (oF.mono (by omega)) hr tQ cg.m cg.F.kp cg.b .nil cz tR) xx (xF (aj 3 qH))))
  (aq (Bs PassesOwn.never rfl (Ou uO T.CQ (aQ (aj 6 iw) au)) (Em rfl (gD (jH (i:=7) dG.nd rfl Gn) (gD (jH (i:=8) dG.nd rfl Ay) ud))) (aq (bV (i:=9) dG.nd rfl zE (bM (Lp.mono (by omega)) hr tU jk.m jk.F.kp jk.b .nil cz (aQ (aj 0 o6) (yH (bz iI (aj 1 zF) (aj 7 jf)) au)) tV))
  (aB (eY (El (zQ (cQ gH (bM (bW.mono (by omega)) hr jt aC.m aC.F.kp aC.b .nil cz (aQ (aj 9 iy) (fP aA au)) ju) aA (bB _)) (vN (cQ gH (aj 7 jf) aA (bB _))))) (aB (iT (cP hr) (aj 4 qm) (aj 8 jK) (bM (uJ.mono (by omega)) hr rB dF.m dF.F.kp dF.b .nil cz (aQ (aj 9 iy) au) rC))) (aq (bV (i:=10) dG.nd rfl Az (cM fY (gR (mR (rP rQ (aj 6 iw) xx (xF (aj 7 jf))) (mR (rP rQ (aj 6 iw) xx (xF (aj 7 jf))) (mR (rP rQ (aj 6 iw) xx (xF (aj 7 jf))) (yH (bz Iw (aj 6 iw) (gR (fP aY au))) au))))) (bz iJ (bz nJ (aj 2 iu) aA) aA)))
  (aq (iT (cP hr) (aj 5 dD) (aj 8 jK) (bM (jr.mono (by omega)) hr rE aK.m aK.F.kp aK.b .nil cz (aQ (aj 9 iy) (aQ (aj 10 mC) (yH (bz iI aA (bM (bW.mono (by omega)) hr jt aC.m aC.F.kp aC.b .nil cz (aQ (aj 9 iy) (fP aA au)) ju)) au))) rF))
  (aB (eY (cQ gH (aj 7 jf) (bz iI aA (bz iJ (bz nJ (aj 2 iu) aA) (aj 3 qH))) (bB _)) (aB (iT (cP hr) (aj 5 dD) (aj 8 jK) (jn (fP aY (Mx (jn (fP aY (mR (cM fY (aj 10 mC) (bM (bW.mono (by omega)) hr jt aC.m aC.F.kp aC.b .nil cz (aQ (aj 9 iy) (vQ (cN gU m7 T.uW oG (aQ (aj 10 mC) au) m8 m9) au)) ju)) au))) (mR (dY (cP hr) (aj 5 dD) (aj 8 jK)) au)))))) dz))))))))
  (aq (bV (i:=11) dG.nd rfl yr (pK (Kl rfl) Ba T.Bv xr (aQ (aj 5 dD) au) Bb Bc))
  (aq (Bs PassesOwn.never rfl (Hs zG T.Ol (vQ (cN (VG rfl) Ck T.ado aah (yH (bz iJ (bz nJ (aj 2 iu) aA) aA) (yH (bz jW (cN gU m7 T.uW oG (aQ (aj 11 iU) au) m8 m9) aA) au)) Cm Cp) au)) (jH (i:=12) dG.nd rfl Gp) (aq (bV (i:=13) dG.nd rfl Dt (bz jW (bz jW (cN gU m7 T.uW oG (aQ (aj 11 iU) au) m8 m9) aA) (aj 12 wX)))
  (aB (iT (cP hr) (aj 5 dD) (cM fY (aj 11 iU) (aj 13 u0)) (dY (cP hr) (aj 5 dD) (cM fY (aj 11 iU) (bz iJ (bz iI (bz nJ (aj 2 iu) aA) (bz lC aA (aj 12 wX))) (aj 13 u0))))))))
  (aB (bR (jn (aQ (aj 4 qm) (aQ (aj 5 dD) au))))))))))))), ?_⟩
 walk_at "vs"
 intro n0
 have hm0:=Int.emod_nonneg (n0 / 2) (show(13:Int)≠0 by decide)
 have hm8:=Int.emod_lt_of_pos (n0 / 2) (show(0:Int)<13 by decide)
 obtain⟨m,hm⟩:∃m:Nat,(m:Int)=2+n0 / 2 % 13:=⟨(2+n0 / 2 % 13).toNat,by omega⟩
 have m2:2<=m/\m<=14:=by omega
 walk_at "vs"
 intro g hg0
 have s1:=az (.dK []) hg0
 have e1:upd H g (.dK []) g=some (.dK []):=ak
 generalize upd H g (.dK [])=H1 at *
 walk_at "vs"
 intro c hc
 have hc0:=same_none s1 hc
 have ngc:g≠c:=fun z=>by rw[z,hc] at e1;cases e1
 have s2:=az (.dK []) hc
 have e2:upd H1 c (.dK []) c=some (.dK []):=ak
 replace e1:=s2 _ _ e1
 replace s1:=s1.trans s2
 generalize upd H1 c (.dK [])=H2 at *
 walk_at "vs"
 intro l0 H3 s3 hl0 el0
 replace e1:=s3 _ _ e1
 replace e2:=s3 _ _ e2
 replace s1:=s1.trans s3
 have hcut:Bo (d8.map V.str) none (some (2+n0 / 2 % 13))=(d8.take m).map V.str:=by rw[<-hm,MK,List.map_take]
 walk_at "vs"
 rw[hcut]
 intro nl hnl
 have s4:=az (.lst ((d8.take m).map V.str)) hnl
 have enl:upd H3 nl (.lst ((d8.take m).map V.str)) nl=some (.lst ((d8.take m).map V.str)):=ak
 replace e1:=s4 _ _ e1
 replace e2:=s4 _ _ e2
 replace s1:=s1.trans s4
 generalize upd H3 nl (.lst ((d8.take m).map V.str))=H4 at *
 have hrl:(d8.take m).length=m:=by rw[List.length_take,show d8.length=18 from rfl];omega
 have hnd:(d8.take m).Nodup:=Wj.sublist (List.take_sublist _ _)
 walk_at "vs"
 refine Sh (xs:=(d8.take m).map V.str) (fun j σ' H'=>Wr (∃(t7 t8 t9 t10:Option V) (gs cs:List Str) (gv:Kn) (rc:Rn),σ'=[some (.ref a),some (.int start),some (.int (n0 / 2)),some (.int (2+n0 / 2 % 13)),some (.ref g),some (.ref c),some (.ref nl),t7,t8,t9,t10,none,none,none]/\aN H H'/\H' nl=some (.lst ((d8.take m).map V.str))/\HoI H' g c ((d8.take m).take j) gs cs gv rc/\(1<=j->("a":Str)∈gs))) ?_ ?_ ?_ ?_
 ·exact⟨⟨_,_,_,_,_,_,_,_,rfl,s1,enl,HoI.nil e1 e2 ngc,fun z=>absurd z (by decide)⟩⟩
 ·rintro j σ' H' _ ⟨⟨_,_,_,_,_,_,_,_,_,_,e,_⟩⟩
  exact SqL.of e
 ·rintro j v T σ' Z hv hT ⟨⟨t7,t8,t9,t10,gs,cs,gv,rc,rfl,SX,enl,hI,ha⟩⟩
  obtain⟨x,hxj,rfl⟩:∃x,(d8.take m)[j]? =some x/\v=V.str x:=by
   rw[List.getElem?_map] at hv
   cases e:(d8.take m)[j]? with
   | none=>rw[e] at hv;cases hv
   | some x=>rw[e] at hv;exact⟨x,rfl,(Option.some.inj hv).symm⟩
  have hj:j<m:=by rw[<-hrl];exact(List.getElem?_eq_some_iff.mp hxj).1
  have hxn:x∉(d8.take m).take j:=Ji hnd hxj (Nat.le_refl _)
  have hkl:((d8.take m).take j).length<=50:=by rw[List.length_take];omega
  have hst:(d8.take m).take (j+1)=(d8.take m).take j++[x]:=by rw[List.take_add_one,hxj];rfl
  have s_:=az (.tup [.int (j:Int), .str x]) hT
  have eT:upd Z T (.tup [.int (j:Int), .str x]) T=some (.tup [.int (j:Int), .str x]):=ak
  replace enl:=s_ _ _ enl
  replace hI:=hI.same s_
  replace SX:=SX.trans s_
  generalize upd Z T (.tup [.int (j:Int), .str x])=Z1 at *
  clear s_
  have hS1:=SqL.same SX hS
  walk_at "vs"
  intro p Z2 s2 hp2 st
  have S1:aN Z1 Z2:=s2
  have hp0:H p=none:=same_none SX hp2
  obtain⟨⟨kg9,eg9⟩,⟨kc9,ec9⟩⟩:=hI.dk
  have npc:p≠c:=fun z=>by rw[<-z,hp2] at ec9;cases ec9
  have npg:p≠g:=fun z=>by rw[<-z,hp2] at eg9;cases eg9
  have nlg:nl∉[g]:=fun z=>by rw[show nl=g by simpa using z,eg9] at enl;cases enl
  have nlc:nl∉[c]:=fun z=>by rw[show nl=c by simpa using z,ec9] at enl;cases enl
  have hpS:∀z∈[p],Z1 z=none:=fun z hz=>by rw[show z=p by simpa using hz];exact hp2
  have hgS:∀z∈[g],H z=none:=fun z hz=>by rw[show z=g by simpa using hz];exact hg0
  have hcS:∀z∈[c],H z=none:=fun z hz=>by rw[show z=c by simpa using hz];exact hc0
  have ha0:j=0->x=("a":Str):=fun z=>by
   subst z
   rw[List.getElem?_take_of_lt (by omega)] at hxj
   exact(Option.some.inj hxj).symm
  walk_at "vs"
  intro t Z3 t0 t1 b3 st3
  have S3:=dH S1 hpS b3
  clear b3 st S1 s2
  walk_at "vs"
  refine vK (fun c1=> ?_) (fun c1=> ?_)
  ·walk_at "vs"
   intro n Z4 hb b4 st4
   have S4:=dH S3 hpS b4
   obtain⟨Z5,dp,b5,t5,hI5⟩:=(hI.same S4).Wf hkl (v:=n) hxn hb
   walk_at "vs"
   exact⟨⟨_,_,_,_,_,_,_,_,rfl,dH (SX.trans S4) hgS b5,b5 _ _ nlg (S4 _ _ enl),by rw[hst];exact hI5,fun _=>by
    by_cases z:j=0
    ·rw[ha0 z];simp
    ·exact List.mem_append_left _ (ha (by omega))⟩⟩
  ·walk_at "vs"
   refine vK (fun c2=> ?_) (fun c2=> ?_)
   ·walk_at "vs"
    intro n Z4 hb b4 st4
    have S4:=dH S3 hpS b4
    obtain⟨Z5,dp,b5,t5,hI5⟩:=(hI.same S4).Wf hkl (v:=n) hxn hb
    walk_at "vs"
    exact⟨⟨_,_,_,_,_,_,_,_,rfl,dH (SX.trans S4) hgS b5,b5 _ _ nlg (S4 _ _ enl),by rw[hst];exact hI5,fun _=>by
     by_cases z:j=0
     ·rw[ha0 z];simp
     ·exact List.mem_append_left _ (ha (by omega))⟩⟩
   ·have hj0:¬j=0:=fun z=>c2 (by subst z;rfl)
    have hcj:Bo ((d8.take m).map V.str) none (some (j:Int))=((d8.take m).take j).map V.str:=by rw[MK,<-List.map_take]
    have en3:=S3 _ _ enl
    walk_at "vs"
    rw[hcj]
    intro l1 hl1
    have q1:=az (.lst (((d8.take m).take j).map V.str)) hl1
    have el1:upd Z3 l1 (.lst (((d8.take m).take j).map V.str)) l1=some (.lst (((d8.take m).take j).map V.str)):=ak
    replace en3:=q1 _ _ en3
    replace st3:=st3.same q1
    replace S3:=S3.trans q1
    generalize upd Z3 l1 (.lst (((d8.take m).take j).map V.str))=Z4 at *
    walk_at "vs"
    rw[hcj]
    intro l2 hl2
    have q2:=az (.lst (((d8.take m).take j).map V.str)) hl2
    have el2:upd Z4 l2 (.lst (((d8.take m).take j).map V.str)) l2=some (.lst (((d8.take m).take j).map V.str)):=ak
    replace en3:=q2 _ _ en3
    replace st3:=st3.same q2
    replace el1:=q2 _ _ el1
    replace S3:=S3.trans q2
    generalize upd Z4 l2 (.lst (((d8.take m).take j).map V.str))=Z5 at *
    walk_at "vs"
    rw[hcj]
    intro l3 hl3
    have q3:=az (.lst (((d8.take m).take j).map V.str)) hl3
    have el3:upd Z5 l3 (.lst (((d8.take m).take j).map V.str)) l3=some (.lst (((d8.take m).take j).map V.str)):=ak
    replace en3:=q3 _ _ en3
    replace st3:=st3.same q3
    replace el1:=q3 _ _ el1
    replace el2:=q3 _ _ el2
    replace S3:=S3.trans q3
    generalize upd Z5 l3 (.lst (((d8.take m).take j).map V.str))=Z6 at *
    clear q1 q2 q3
    walk_at "vs"
    intro l4 hl4
    have q4:=az (.lst [.str "nowhere"]) hl4
    have el4:upd Z6 l4 (.lst [.str "nowhere"]) l4=some (.lst [.str "nowhere"]):=ak
    replace en3:=q4 _ _ en3
    replace st3:=st3.same q4
    replace el1:=q4 _ _ el1
    replace el2:=q4 _ _ el2
    replace el3:=q4 _ _ el3
    replace S3:=S3.trans q4
    generalize upd Z6 l4 (.lst [.str "nowhere"])=Z7 at *
    clear q4
    have hc2:((d8.take m).map V.str).length+[V.str "nowhere"].length<=sizeLine:=Nat.le_of_lt (bY (by rw[List.length_map,hrl];show _+1<=1000;omega))
    walk_at "vs"
    intro l5 hl5
    have q5:=az (.lst ((d8.take m).map V.str++[.str "nowhere"])) hl5
    have el5:upd Z7 l5 (.lst ((d8.take m).map V.str++[.str "nowhere"])) l5=some (.lst ((d8.take m++(["nowhere"]:List Str)).map V.str)):=by rw[ak,List.map_append];rfl
    replace st3:=st3.same q5
    replace el1:=q5 _ _ el1
    replace el2:=q5 _ _ el2
    replace el3:=q5 _ _ el3
    replace S3:=S3.trans q5
    generalize upd Z7 l5 (.lst ((d8.take m).map V.str++[.str "nowhere"]))=Z8 at *
    clear q5 en3
    walk_at "vs"
    intro l6 hl6
    have q6:=az (.lst [.ref l1, .ref l2, .ref l3, .ref l5]) hl6
    have el6:upd Z8 l6 (.lst [.ref l1, .ref l2, .ref l3, .ref l5]) l6=some (.lst [.ref l1, .ref l2, .ref l3, .ref l5]):=ak
    replace st3:=st3.same q6
    replace el1:=q6 _ _ el1
    replace el2:=q6 _ _ el2
    replace el3:=q6 _ _ el3
    replace el5:=q6 _ _ el5
    replace S3:=S3.trans q6
    generalize upd Z8 l6 (.lst [.ref l1, .ref l2, .ref l3, .ref l5])=Z9 at *
    clear q6
    obtain⟨sl,us,hat,esl,hin,hu1,hu2⟩:∃(sl:Addr) (us:List Str),atI [V.ref l1, .ref l2, .ref l3, .ref l5] (n0 / 2 / 13 % 4)=some (.ref sl)/\Z9 sl=some (.lst (us.map V.str))/\(∀y∈us,y∈Gy)/\1<=us.length/\us.length<=20:=by
     have w0:=Int.emod_nonneg (n0 / 2 / 13) (show(4:Int)≠0 by decide)
     have w4:=Int.emod_lt_of_pos (n0 / 2 / 13) (show(0:Int)<4 by decide)
     have hw:n0 / 2 / 13 % 4=0\/n0 / 2 / 13 % 4=1\/n0 / 2 / 13 % 4=2\/n0 / 2 / 13 % 4=3:=by omega
     have hs:∀y∈(d8.take m).take j,y∈Gy:=fun y hy=>List.mem_append_left _ (List.mem_of_mem_take (List.mem_of_mem_take hy))
     have hl:((d8.take m).take j).length=j:=by rw[List.length_take,hrl];omega
     rcases hw with hw | hw | hw | hw
     ·rw[hw];exact⟨l1,_,rfl,el1,hs,by omega,by omega⟩
     ·rw[hw];exact⟨l2,_,rfl,el2,hs,by omega,by omega⟩
     ·rw[hw];exact⟨l3,_,rfl,el3,hs,by omega,by omega⟩
     ·rw[hw]
      refine⟨l5,_,rfl,el5,fun y hy=> ?_, ?_, ?_⟩
      ·rcases List.mem_append.mp hy with z | z
       ·exact List.mem_append_left _ (List.mem_of_mem_take z)
       ·exact List.mem_append_right _ z
      ·rw[List.length_append,hrl];show 1<=m+1;omega
      ·rw[List.length_append,hrl];show m+1<=20;omega
    clear el1 el2 el3 el5
    have hug:∀y∈us,lR y:=fun y hy=>Ng y (hin y hy)
    walk_at "vs"
    intro d Za d0 d1 ba sta
    replace esl:=ba _ _ (st3.off esl (by simp)) esl
    have Sa:=dH S3 hpS ba
    clear ba st3 S3
    walk_at "vs"
    intro b1 r Zb bb stb R1 hr1
    replace esl:=bb _ _ (sta.off esl (by simp)) esl
    have Sb:=dH Sa hpS bb
    clear bb sta Sa
    have hIb:=hI.same Sb
    obtain⟨Zc,dp,bc,tc,hIc⟩:=hIb.rY hkl hxn R1 (hr1.ok hin)
    obtain⟨_,⟨kcb,ecb⟩⟩:=hIb.dk
    have nsc:sl∉[c]:=fun z=>by rw[show sl=c by simpa using z,ecb] at esl;cases esl
    replace esl:=bc _ _ nsc esl
    replace stb:=stb.keep bc (by simpa using npc)
    have Sc:=dH (SX.trans Sb) hcS bc
    have enc:=bc _ _ nlc (Sb _ _ enl)
    have hxs:x∈cs++[x]:=by simp
    walk_at "vs"
    refine vK (fun c3=> ?_) (fun c3=> ?_)
    ·have hlu:(us.map V.str).length=us.length:=List.length_map _
     have hlg:((((us.map V.str).length:Nat)):Int).natAbs.log2<9000:=Nat.lt_of_le_of_lt (Nat.log2_le_self _) (by rw[hlu,Int.natAbs_natCast];omega)
     have hm1:(0:Int)<(((us.map V.str).length:Nat):Int):=by rw[hlu];omega
     walk_at "vs"
     intro n Zd n0' n1' bd std
     obtain⟨y,hy,hyu⟩:=TX (us:=us) n0' (by rw[<-hlu];exact n1')
     replace esl:=bd _ _ (stb.off esl (by simp)) esl
     have hId:=hIc.keep bd (by simpa using Ne.symm npg) (by simpa using Ne.symm npc) (stb.tups bd)
     have Sd:=dH Sc (fun z hz=>by rw[show z=p by simpa using hz];exact hp0) bd
     have end_:=bd _ _ (stb.off enc (by simp)) enc
     walk_at "vs"
     intro a1 ha1
     have q1:=az (.tup [.str "read", .str y]) ha1
     have ea1:upd Zd a1 (.tup [.str "read", .str y]) a1=some (.tup [.str "read", .str y]):=ak
     replace hId:=hId.same q1
     replace Sd:=Sd.trans q1
     replace end_:=q1 _ _ end_
     generalize upd Zd a1 (.tup [.str "read", .str y])=Ze at *
     clear q1
     obtain⟨b2,r2,dg,R2,hr2⟩:=hId.get hxs
     have:r2=r:=by
      unfold Rn.put at hr2
      rw[if_pos rfl] at hr2;exact(Option.some.inj hr2).symm
     subst this
     walk_at "vs"
     intro a2 ha2
     have q2:=az (.tup [.str "times", .ref a1, .ref b2]) ha2
     have ea2:upd Ze a2 (.tup [.str "times", .ref a1, .ref b2]) a2=some (.tup [.str "times", .ref a1, .ref b2]):=ak
     replace hId:=hId.same q2
     replace Sd:=Sd.trans q2
     replace end_:=q2 _ _ end_
     replace ea1:=q2 _ _ ea1
     replace R2:=R2.same q2
     generalize upd Ze a2 (.tup [.str "times", .ref a1, .ref b2])=Zf at *
     clear q2
     obtain⟨Zg,dp2,bg,tg,hIg⟩:=hId.adJ (by rw[<-hst,List.length_take];omega) hxs (.bin (op:= .times) ea2 (.rd ea1) R2) (hr1.okT hin (hin y hyu))
     walk_at "vs"
     exact⟨⟨_,_,_,_,_,_,_,_,rfl,dH Sd hcS bg,bg _ _ nlc end_,by rw[hst];exact hIg,fun _=>ha (by omega)⟩⟩
    ·walk_at "vs"
     exact⟨⟨_,_,_,_,_,_,_,_,rfl,Sc,enc,by rw[hst];exact hIc,fun _=>ha (by omega)⟩⟩
 ·rintro σ' H5 ⟨⟨t7,t8,t9,t10,gs,cs,gv,rc,rfl,SX,enl,hI,ha⟩⟩
  rw[List.length_map,hrl] at hI ha
  rw[List.take_of_length_le (by rw[hrl];exact Nat.le_refl _)] at hI
  have ha:("a":Str)∈gs:=ha (by omega)
  have hkl:(d8.take m).length<=50:=by omega
  obtain⟨kc,ec,kkc,_⟩:=hI.kc
  have hlc:cs.length<=14:=by have:=hI.l;omega
  have hlk:kc.map (fun kv=>kV kv.1)=cs.map V.str:=by
   have:=kkc.k
   rw[show(kc.map fun kv=>kV kv.1)=(kc.map (·.1)).map kV by rw[List.map_map];rfl,this,List.map_map];rfl
  walk_at "vs"
  rw[hlk]
  intro ck hck
  have q1:=az (.lst (cs.map V.str)) hck
  have eck:upd H5 ck (.lst (cs.map V.str)) ck=some (.lst (cs.map V.str)):=ak
  replace hI:=hI.same q1
  replace SX:=SX.trans q1
  generalize upd H5 ck (.lst (cs.map V.str))=H6 at *
  clear q1 ec enl
  have hlm:(cs.map V.str).length=cs.length:=List.length_map _
  have w0:=Int.emod_nonneg (n0 / 2 / 700) (show(4:Int)≠0 by decide)
  have w4:=Int.emod_lt_of_pos (n0 / 2 / 700) (show(0:Int)<4 by decide)
  walk_at "vs"
  refine Pu (fun i σ' H'=>Wr (∃(t12 t13:Option V) (rc:Rn),σ'=[some (.ref a),some (.int start),some (.int (n0 / 2)),some (.int (2+n0 / 2 % 13)),some (.ref g),some (.ref c),some (.ref nl),t7,t8,t9,t10,some (.ref ck),t12,t13]/\aN H H'/\H' ck=some (.lst (cs.map V.str))/\HoI H' g c (d8.take m) gs cs gv rc)) ?_ ?_ ?_
  ·exact⟨⟨_,_,_,rfl,SX,eck,hI⟩⟩
  ·clear SX eck hI
   rintro i σ' Z hi ⟨⟨t12,t13,rc,rfl,SX,eck,hI⟩⟩
   have hi2:i+1<cs.length:=by
    rw[hlm] at hi
    split at hi<;>omega
   have ei:(0+(i:Int))=(i:Int):=by omega
   rw[ei]
   have hp1:(0:Int)<(((cs.map V.str).length:Nat):Int) - 1 - (i:Int):=by rw[hlm];omega
   have v0:=Int.emod_nonneg (n0 / 2 / 2800+3 *(i:Int)) (show(((cs.map V.str).length:Nat):Int) - 1 - (i:Int)≠0 by omega)
   have v1:=Int.emod_lt_of_pos (n0 / 2 / 2800+3 *(i:Int)) hp1
   obtain⟨xb,hxb,mxb⟩:=TX (us:=cs) v0 (by rw[<-hlm];omega)
   obtain⟨xa,hxa,mxa⟩:=TX (us:=cs) (n:=(((cs.map V.str).length:Nat):Int) - 1 - (i:Int)) (by omega) (by rw[<-hlm];omega)
   obtain⟨b2,r2,dg,R2,hr2⟩:=hI.get mxb
   obtain⟨Z2,dp,bb,tt,hI2⟩:=hI.adJ hkl mxa R2 (hI.o xb r2 hr2)
   have m1:qp 3 (i:Int):= .inl ⟨by decide,by decide⟩
   obtain⟨_,⟨kcz,ecz⟩⟩:=hI.dk
   have ncc:ck∉[c]:=fun z=>by rw[show ck=c by simpa using z,ecz] at eck;cases eck
   walk_at "vs"
   exact⟨⟨_,_,_,rfl,dH SX (fun z hz=>by rw[show z=c by simpa using hz];exact hc0) bb,bb _ _ ncc eck,hI2⟩⟩
  ·rintro σ' Z ⟨⟨t12,t13,rc,rfl,SX,eck,hI⟩⟩
   walk_at "vs"
   intro h hh
   have q1:=az (.tup [.ref g, .ref c]) hh
   exact q h g c gs cs gv rc _ (SX.trans q1) (same_none SX hh) hg0 hc0 ngc ((hI.same q1).aaU hkl ak) (hI.ho4 (fun x hx=>List.take_subset_take_left _ (by omega) hx) (by omega) ha)
end
section
variable {P:Program}{w:World}{K:PySem.W.Frag}{mg:Str->Option Value}{base:Heap}{CNo CRi:Addr}
abbrev cU:Stmt:=top 31
theorem jG:bI ["script","house","key","names","wishes","worths","records","order","gone","name","stood","recipe","reads","worth","other","number"] ["script"] (aa cU):=⟨rfl,rfl,rfl,by decide +kernel,rfl,by decide +kernel,by decide +kernel⟩
theorem Jy:Loc (aa cU) "house":=by decide +kernel
theorem Bd:(aa cU).names.lookup ("_law_house":Str)=some NameKind.globalImplicit:=by decide +kernel
theorem rG:aG (aa cU) "script":=by decide +kernel
theorem Be:(("_law_house":Str)==("__debug__":Str))=false:=by decide +kernel
theorem Nk:Loc (aa cU) "key":=by decide +kernel
theorem tW:(aa cU).names.lookup ("_law_cell":Str)=some NameKind.globalImplicit:=by decide +kernel
theorem tX:(("_law_cell":Str)==("__debug__":Str))=false:=by decide +kernel
theorem Jz:Loc (aa cU) "names":=by decide +kernel
theorem lq:(aa cU).names.lookup ("sorted":Str)=some NameKind.globalImplicit:=by decide +kernel
theorem Cq:(aa cU).names.lookup ("enumerate":Str)=some NameKind.globalImplicit:=by decide +kernel
theorem Bf:(aa cU).names.lookup ("_law_names":Str)=some NameKind.globalImplicit:=by decide +kernel
theorem mD:(("_law_names":Str)==("__debug__":Str))=false:=by decide +kernel
theorem Nm:("len":Str)≠"__name__":=by decide +kernel
theorem Np:(("len":Str)==("__debug__":Str))=false:=by decide +kernel
theorem lu:("sorted":Str)≠"__name__":=by decide +kernel
theorem lA:(("sorted":Str)==("__debug__":Str))=false:=by decide +kernel
theorem yC:Loc (aa cU) "wishes":=by decide +kernel
theorem uP:(("_law_worth_told":Str)==("__debug__":Str))=false:=by decide +kernel
theorem JB:aG (aa cU) "names":=by decide +kernel
theorem rH:aG (aa cU) "wishes":=by decide +kernel
theorem zH:(aa cU).names.lookup ("fresh_build":Str)=some NameKind.globalImplicit:=by decide +kernel
theorem Lq:(aa cU).names.lookup ("list":Str)=some NameKind.globalImplicit:=by decide +kernel
theorem Lr:("list":Str)≠"__name__":=by decide +kernel
theorem Ls:(("list":Str)==("__debug__":Str))=false:=by decide +kernel
theorem mF:aG (aa cU) "house":=by decide +kernel
theorem zJ:(("fresh_build":Str)==("__debug__":Str))=false:=by decide +kernel
theorem JC:Loc (aa cU) "order":=by decide +kernel
theorem Gq:Loc (aa cU) "records":=by decide +kernel
theorem GP:Loc (aa cU) "worths":=by decide +kernel
theorem Lw:Loc (aa cU) "gone":=by decide +kernel
theorem Dd:Loc (aa cU) "name":=by decide +kernel
theorem wY:aG (aa cU) "gone":=by decide +kernel
theorem jm:aG (aa cU) "name":=by decide +kernel
theorem JD:Loc (aa cU) "stood":=by decide +kernel
theorem Bg:aG (aa cU) "order":=by decide +kernel
theorem wZ:aG (aa cU) "records":=by decide +kernel
theorem JF:Loc (aa cU) "worth":=by decide +kernel
theorem JG:Loc (aa cU) "reads":=by decide +kernel
theorem GQ:Loc (aa cU) "recipe":=by decide +kernel
theorem Bh:aG (aa cU) "reads":=by decide +kernel
theorem Du:(aa cU).names.lookup ("reads_of":Str)=some NameKind.globalImplicit:=by decide +kernel
theorem Dv:(("reads_of":Str)==("__debug__":Str))=false:=by decide +kernel
theorem GR:aG (aa cU) "recipe":=by decide +kernel
theorem uQ:aG (aa cU) "stood":=by decide +kernel
theorem GX:Loc (aa cU) "number":=by decide +kernel
theorem JH:Loc (aa cU) "other":=by decide +kernel
theorem pJ:aG (aa cU) "other":=by decide +kernel
theorem nC:aG (aa cU) "worths":=by decide +kernel
theorem GZ:aG (aa cU) "number":=by decide +kernel
theorem Bj:aG (aa cU) "worth":=by decide +kernel
theorem Dw:(aa cU).names.lookup ("worth_of":Str)=some NameKind.globalImplicit:=by decide +kernel
theorem u5:(("worth_of":Str)==("__debug__":Str))=false:=by decide +kernel
theorem aa4 {f g0 g1 g2 g3 g4 g5 g6:Addr}{fd gd0 gd1 gd2 gd3 gd4 gd5 gd6:FuncData} (T9:FnT K mg "law" cU ["script"] f fd)
 (jl:FnT K mg "_law_house" aD ["script","first"] g0 gd0) (Lx:aX P w K mg base CX0 8 g0 gd0 ["script","first"] (Yp K))
 (bK:FnT K mg "_law_cell" gC ["script","k"] g1 gd1) (lH:aX P w K mg base CX0 1 g1 gd1 ["script","k"] (DQ K))
 (cg:FnT K mg "_law_names" gQ [] g2 gd2) (oF:aX P w K mg base CX0 1 g2 gd2 [] Tz)
 (eX:FnT K mg "_law_worth_told" bL ["house","name"] g3 gd3) (Cr:aX P w K mg base CX0 18 g3 gd3 ["house","name"] Yo)
 (gO:FnT K mg "fresh_build" cI ["house","wishes"] g4 gd4) (G3:aX P w K mg base (CXd P w) 17 g4 gd4 ["house","wishes"] (K1 CNo CRi))
 (dO:FnT K mg "worth_of" gB ["house","name"] g5 gd5) (uL:aX P w K mg base (CXd P w) 17 g5 gd5 ["house","name"] (FJ CNo CRi))
 (jU:FnT K mg "reads_of" fV ["house","name"] g6 gd6) (Nq:aX P w K mg base (CXd P w) 17 g6 gd6 ["house","name"] (K3 CNo CRi))
 (T:Blt mg):aX P w K mg base CX0 19 f fd ["script"] (Oj K):=by
 refine T9.F.okQ jG (fun vs H Q E h=> ?_) (fun cdv A0 outer s H vs Q E hr h=> ?_)
 ·obtain⟨a,ns,rfl,_⟩:=h
  rfl
 obtain⟨a,zs,rfl,hS,h63,q⟩:=h
 refine⟨_,(aq (bV (i:=1) jG.nd rfl Jy (bM (Lx.mono (by omega)) hr Bd jl.m jl.F.kp jl.b .nil cz (aQ (aj 0 rG) (fP aA au)) Be))
  (aq (bV (i:=2) jG.nd rfl Nk (bz iI aA (bz iJ (bM (lH.mono (by omega)) hr tW bK.m bK.F.kp bK.b .nil cz (aQ (aj 0 rG) (fP aA au)) tX) aA)))
  (aq (BX (bV (i:=3) jG.nd rfl Jz (cN Ni lq T.vP rO (aaD (zT rfl (n:=2) (fr:=[2]) (N:=["k","name","key"]) (Hq (scX:=aa cU) (NX:=["script","house","key","names","wishes","worths","records","order","gone","name","stood","recipe","reads","worth","other","number"]) rfl rfl (by decide +kernel)) (Ou Cq T.CQ (vQ (zR (oF.mono (by omega)) hr Bf cg.m cg.F.kp cg.b .nil cz mD) au)) (fun _ _ _ _ _=>(IV (K:=K) (n:=2) rfl rfl (gD (qgx (i:=0) (show List.Nodup (α:=Str) ["k","name","key"] by decide) (Io (by decide +kernel))) (gD (qgx (i:=1) (show List.Nodup (α:=Str) ["k","name","key"] by decide) (Io (by decide +kernel))) ud)))) (fun _ _ _ _ _=>Mr) (fun _ _ _ _ _=>(jn (yH (bz iI (bz iJ (bz lC (bz lC (cN Mw (glC (by decide +kernel)) T.uW oG (aQ (aj 1 (nH.ok (by decide +kernel))) au) Nm Np) (aj 2 (nH.ok (by decide +kernel)))) aA) aA) (bz iJ (bz lC (aj 0 (nH.ok (by decide +kernel))) (aj 2 (nH.ok (by decide +kernel)))) aA)) (aQ (aj 0 (nH.ok (by decide +kernel))) au))))) au) lu lA)))
  (aq (BX (Mq (i:=4) rfl jG.nd rfl yC (n:=2) (fr:=[1]) (N:=["number","k","house"]) (Hq (scX:=aa cU) (NX:=["script","house","key","names","wishes","worths","records","order","gone","name","stood","recipe","reads","worth","other","number"]) rfl rfl (by decide +kernel)) (xG (aj 3 JB)) (fun _ _ _ _ _=>(IV (K:=K) (n:=2) rfl rfl (gD (qgx (i:=0) (show List.Nodup (α:=Str) ["number","k","house"] by decide) (Io (by decide +kernel))) (gD (qgx (i:=1) (show List.Nodup (α:=Str) ["number","k","house"] by decide) (Io (by decide +kernel))) ud)))) (fun _ _ _ _ _=>(Mt (cQ RQ (bM (Cr.mono (by omega)) hr (glC (by decide +kernel)) eX.m eX.F.kp eX.b .nil cz (aQ (aj 2 (nH.ok (by decide +kernel))) (mR (cM (xJ (K:=K) rfl) (zR (oF.mono (by omega)) hr (glC (by decide +kernel)) cg.m cg.F.kp cg.b .nil cz mD) (aj 1 (nH.ok (by decide +kernel)))) au)) uP) Bq (bB _)))) (fun _ _ _ _ _=>(cM (xJ (K:=K) rfl) (zR (oF.mono (by omega)) hr (glC (by decide +kernel)) cg.m cg.F.kp cg.b .nil cz mD) (aj 1 (nH.ok (by decide +kernel))))) rfl))
  (aq (bV (i:=4) jG.nd rfl yC (rP rQ (aj 4 rH) xx (xF (bz iI aA (bz iJ (bz nJ (bM (lH.mono (by omega)) hr tW bK.m bK.F.kp bK.b .nil cz (aQ (aj 0 rG) (fP aA au)) tX) aA) aA)))))
  (aq (RN (vR (G3.mono (by omega)) hr zH gO.m gO.F.kp gO.b .nil Jp (aQ (aj 1 mF) (vQ (pK yG Lq T.Bv xr (aQ (aj 4 rH) au) Lr Ls) au)) zJ) (Em rfl (gD (jH (i:=5) jG.nd rfl GP) (gD (jH (i:=6) jG.nd rfl Gq) (gD (jH (i:=7) jG.nd rfl JC) ud)))))
  (aq (bV (i:=8) jG.nd rfl Lw jx)
  (aq (BX (Bs PassesOwn.never rfl (xG (aj 4 rH)) (jH (i:=9) jG.nd rfl Dd) (aB (iT (cP hr) (aj 8 wY) (aj 9 jm) zP))))
  (aq (bV (i:=10) jG.nd rfl JD jx)
  (aq (BX (Bs PassesOwn.never rfl (xG (aj 7 Bg)) (jH (i:=9) jG.nd rfl Dd) (aq (RN (dY (cP hr) (aj 6 wZ) (aj 9 jm)) (Em rfl (gD (jH (i:=11) jG.nd rfl GQ) (gD (jH (i:=12) jG.nd rfl JG) (gD (jH (i:=13) jG.nd rfl JF) ud)))))
  (aq (BX (eY (El (zQ (yI (cP hr) (aj 9 jm) (aj 10 uQ)) (zQ (cQ (ue hr.units) (aj 11 GR) (dY (cP hr) (cM cF (aj 1 mF) aA) (aj 9 jm)) (bB _)) (vN (cQ (ue hr.units) (aj 12 Bh) (vR (Nq.mono (by omega)) hr Du jU.m jU.F.kp jU.b .nil Jp (aQ (aj 1 mF) (aQ (aj 9 jm) au)) Dv) (bB _)))))) (aB (bR zP)) dz))
  (aq (BX (Bs PassesOwn.never rfl (xG (aj 12 Bh)) (Em rfl (gD (jH (i:=14) jG.nd rfl JH) (gD (jH (i:=15) jG.nd rfl GX) ud))) (aq (iT (cP hr) (aj 8 wY) (aj 14 pJ) zP)
  (aB (eY (El (zQ (cQ Bt (dY (cP hr) (aj 5 nC) (aj 14 pJ)) (aj 15 GZ) (bB _)) (vN (El (Mm (yI (cP hr) (aj 14 pJ) (cM cF (aj 1 mF) aA)) (Ir (xM (cP hr) (aj 14 pJ) (aj 10 uQ)))))))) (aB (bR zP)) dz)))))
  (aq (iT (cP hr) (aj 10 uQ) (aj 9 jm) zP)
  (aB (eY (El (zQ (cQ Bt (aj 13 Bj) (vR (uL.mono (by omega)) hr Dw dO.m dO.F.kp dO.b .nil Jp (aQ (aj 1 mF) (aQ (aj 9 jm) au)) u5) (bB _)) (vN (cQ Bt (dY (cP hr) (aj 5 nC) (aj 9 jm)) (aj 13 Bj) (bB _))))) (aB (bR zP)) dz))))))))
  (aq (eY (El (zQ (cQ (ue hr.units) (cN (yN rfl) lq T.vP rO (aQ (aj 8 wY) au) lu lA) (cN (yN rfl) lq T.vP rO (aQ (aj 5 nC) au) lu lA) (bB _)) (vN (cQ (ue hr.units) (cN (yN rfl) lq T.vP rO (aQ (aj 6 wZ) au) lu lA) (cN M6 lq T.vP rO (aQ (aj 7 Bg) au) lu lA) (bB _))))) (aB (bR zP)) dz)
  (aB (bR (Ej (Hv hr.units) (zT rfl (n:=1) (fr:=[5,1]) (N:=["name","worths","house"]) (Hq (scX:=aa cU) (NX:=["script","house","key","names","wishes","worths","records","order","gone","name","stood","recipe","reads","worth","other","number"]) rfl rfl (by decide +kernel)) (VM (aj 5 nC)) (fun _ _ _ _ _=>(qgx (i:=0) (show List.Nodup (α:=Str) ["name","worths","house"] by decide) (Io (by decide +kernel)))) (fun _ _ _ _ _=>(Mt (cQ Bt (dY (cP hr) (aj 1 (nH.ok (by decide +kernel))) (aj 0 (nH.ok (by decide +kernel)))) (vR (uL.mono (by omega)) hr (glC (by decide +kernel)) dO.m dO.F.kp dO.b .nil Jp (aQ (aj 2 (nH.ok (by decide +kernel))) (aQ (aj 0 (nH.ok (by decide +kernel))) au)) u5) (bB _)))) (fun _ _ _ _ _=>(aj 0 (nH.ok (by decide +kernel))))) (gR au) (bB _))))))))))))))), ?_⟩
 walk_at "vs"
 intro h g c gs cs gv rc H1 s1 hh hg hc ngc ho k4
 have hS1:=SqL.same s1 hS
 walk_at "vs"
 intro cl
 have ke0:=Int.emod_nonneg cl (show(1000:Int)≠0 by decide)
 have ke1:=Int.emod_lt_of_pos cl (show(0:Int)<1000 by decide)
 walk_at "vs"
 refine⟨fun σ' H'=>Wr (∃(nl:Addr) (bs:List Addr),σ'=[some (.ref a),some (.ref h),some (.int (1+cl % 1000)),some (.ref nl),none,none,none,none,none,none,none,none,none,none,none,none]/\aN H1 H'/\H' nl=some (.lst (bs.map V.ref))/\bs.length<=18/\Prs H' bs), ?_, ?_⟩
 rotate_left
 ·walk_at "vs"
  intro l0 H2 s2 hl0 el0
  walk_at "vs"
  intro D hD
  have sD:=az (.lst []) hD
  refine QM (xs:=d8.map V.str) (fun i σ' H'=>Wr ((∃t u,σ'=[t,u,some (.int (1+cl % 1000))])/\aN H2 H'/\∃as:List Addr,H' D=some (.lst (as.map V.ref))/\as.length=i/\Prs H' as)) ?_ ?_ ?_ ?_
  ·exact⟨⟨none,none,rfl⟩,sD,[],ak,rfl,fun b hb=>by cases hb⟩
  ·rintro i σ' H' _ ⟨_,S,_⟩
   exact SqL.of (S _ _ el0)
  ·rintro i v Tt σ' Z hv hT ⟨⟨t,u,rfl⟩,S,as,eD,hl,hall⟩
   obtain⟨x,hx,rfl⟩:∃x,d8[i]? =some x/\v=V.str x:=by
    rw[List.getElem?_map] at hv
    cases e:d8[i]? with
    | none=>rw[e] at hv;cases hv
    | some x=>rw[e] at hv;exact⟨x,rfl,(Option.some.inj hv).symm⟩
   have hi:i<18:=(List.getElem?_eq_some_iff.mp hx).1
   have hxl:x.length<=8:=(BW x (List.mem_of_getElem? hx)).2.1
   have hxz:x.length<=sizeLine:=Nat.le_of_lt (bY (by omega))
   have q_:=az (.tup [.int (i:Int), .str x]) hT
   have eT:upd Z Tt (.tup [.int (i:Int), .str x]) Tt=some (.tup [.int (i:Int), .str x]):=ak
   replace S:=S.trans q_
   replace eD:=q_ _ _ eD
   replace hall:=hall.tups (aN.tups q_)
   generalize upd Z Tt (.tup [.int (i:Int), .str x])=Z1 at *
   have m1:qp ((x.length:Nat):Int) (1+cl % 1000):= .inl ⟨by omega,by omega⟩
   have m2:qp (((x.length:Nat):Int)*(1+cl % 1000)) 7001:= .inr ⟨by decide,by decide⟩
   have m3:qp ((i:Nat):Int) (1+cl % 1000):= .inl ⟨by omega,by omega⟩
   walk_at "vs"
   intro b hb
   have q2:=az (.tup [.int (((x.length:Nat):Int)*(1+cl % 1000)* 7001 % 1009+(i:Int)*(1+cl % 1000) % 97), .int (i:Int)]) hb
   have eb:upd Z1 b (.tup [.int (((x.length:Nat):Int)*(1+cl % 1000)* 7001 % 1009+(i:Int)*(1+cl % 1000) % 97), .int (i:Int)]) b=some (.tup [.int (((x.length:Nat):Int)*(1+cl % 1000)* 7001 % 1009+(i:Int)*(1+cl % 1000) % 97), .int (i:Int)]):=ak
   replace S:=S.trans q2
   replace eD:=q2 _ _ eD
   replace hall:=hall.tups (aN.tups q2)
   generalize upd Z1 b (.tup [.int (((x.length:Nat):Int)*(1+cl % 1000)* 7001 % 1009+(i:Int)*(1+cl % 1000) % 97), .int (i:Int)])=Z2 at *
   have hz:(as.map V.ref).length<sizeLine:=by rw[List.length_map];exact bY (by omega)
   walk_at "vs"
   refine⟨⟨_,_,rfl⟩,rT _ hD S,as++[b], ?_, ?_,fun z hz'=> ?_⟩
   ·rw[List.map_append];exact ak
   ·rw[List.length_append,hl];rfl
   ·have tp:=aaX (o:= .lst (as.map V.ref++[.ref b])) eD
    rcases List.mem_append.mp hz' with w | w
    ·exact(hall.tups tp) z w
    ·rw[show z=b by simpa using w]
     exact⟨_,i,hi,tp _ _ eb⟩
  ·rintro σ' H3 ⟨_,S,as,eD,hl,hall⟩
   have hl':as.length=18:=hl
   have hl2:2<=as.length:=by omega
   have air:as.length<64:=by omega
   have hpr:∀b∈as,∃i j:Int,H3 b=some (.tup [.int i, .int j]):=fun b hb=>let ⟨i,j,_,e⟩:=hall b hb;⟨i,j,e⟩
   walk_at "vs"
   intro p bs hp pm
   have q2:=az (.lst (bs.map V.ref)) hp
   walk_at "vs"
   refine⟨⟨p,bs,rfl,(s2.trans S).trans q2,ak,by rw[pm.length_eq];omega,fun b hb=> ?_⟩⟩
   exact(hall.tups (aN.tups q2)) b (pm.mem_iff.mp hb)
 rintro σ' H2 ⟨⟨nl,bs,rfl,s2,enl,hbl,hbs⟩⟩
 have ho2:=ho.same s2
 refine⟨fun σ' H'=>Wr (∃(wl:Addr) (us:List Str),σ'=[some (.ref a),some (.ref h),some (.int (1+cl % 1000)),some (.ref nl),some (.ref wl),none,none,none,none,none,none,none,none,none,none,none]/\aN H2 H'/\H' wl=some (.lst (us.map V.str))/\(∀x∈us,x∈d8/\FW gv rc x)/\us.length<=18), ?_, ?_⟩
 rotate_left
 ·walk_at "vs"
  intro D hD
  have sD:=az (.lst []) hD
  refine Hr (xs:=bs.map V.ref) (fun i σ' H'=>Wr ((∃t u,σ'=[t,u,some (.ref h)])/\aN H2 H'/\∃us:List Str,H' D=some (.lst (us.map V.str))/\(∀x∈us,x∈d8/\FW gv rc x)/\us.length<=i)) ?_ ?_ ?_ ?_
  ·exact⟨⟨none,none,rfl⟩,sD,[],ak,by simp,by simp⟩
  ·rintro i σ' H' _ ⟨_,S,_⟩
   exact SqL.of (S _ _ enl)
  ·rintro i v σ' Z hv ⟨⟨t,u,rfl⟩,S,us,eD,hus,hl⟩
   obtain⟨b,hb,rfl⟩:∃b,bs[i]? =some b/\v=V.ref b:=by
    rw[List.getElem?_map] at hv
    cases e:bs[i]? with
    | none=>rw[e] at hv;cases hv
    | some x=>rw[e] at hv;exact⟨x,rfl,(Option.some.inj hv).symm⟩
   have hi:i<18:=by have:=(List.getElem?_eq_some_iff.mp hb).1;omega
   obtain⟨num,j,hj,eb⟩:=hbs b (List.mem_of_getElem? hb)
   replace eb:=S _ _ eb
   obtain⟨x,hx⟩:∃x,d8[j]? =some x:=⟨_,List.getElem?_eq_getElem hj⟩
   have hxm:=List.mem_of_getElem? hx
   have hat:atI (d8.map V.str) (j:Int)=some (.str x):=lB (by rw[List.getElem?_map,hx];rfl)
   have hsf:uX gv rc [x] (kn0,[]):=k4.safe ho (fun y hy=>by rw[show y=x by simpa using hy];exact List.mem_append_left _ hxm)
   have hoZ:=ho2.same S
   walk_at "vs"
   intro l1 Z1 s1' hl1 el1
   replace S:=S.trans s1'
   replace eD:=s1' _ _ eD
   replace hoZ:=hoZ.same s1'
   walk_at "vs"
   refine⟨?_, ?_⟩
   ·intro n kn rmN od Z2 s5 st ru hk
    replace S:=S.trans s5
    replace eD:=s5 _ _ eD
    walk_at "vs"
    intro l2 Z3 s6 hl2 el2
    replace S:=S.trans s6
    replace eD:=s6 _ _ eD
    have hz:(us.map V.str).length<sizeLine:=by rw[List.length_map];exact bY (by omega)
    walk_at "vs"
    refine⟨⟨_,_,rfl⟩,rT _ hD S,us++[x], ?_, ?_, ?_⟩
    ·rw[List.map_append];exact ak
    ·intro y hy
     rcases List.mem_append.mp hy with z | z
     ·exact hus y z
     ·rw[show y=x by simpa using z];exact⟨hxm,(kn,od),n,ru,hk⟩
    ·rw[List.length_append];show us.length+1<=i+1;omega
   ·intro e Z2 he s5
    walk_at "vs"
    exact⟨⟨_,_,rfl⟩,S.trans s5,us,s5 _ _ eD,hus,by omega⟩
  ·rintro σ' H' ⟨_,S,us,eD,hus,hl⟩
   walk_at "vs"
   rw[List.length_map] at hl
   exact⟨⟨D,us,rfl,S,eD,hus,by omega⟩⟩
 rintro σ' H3 ⟨⟨wl0,us,rfl,s3,ais,hus,hul⟩⟩
 have hS3:=SqL.same ((s1.trans s2).trans s3) hS
 walk_at "vs"
 intro cl2
 have ka0:=Int.emod_nonneg (cl2 / 1000) (show(18:Int)≠0 by decide)
 have ka1:=Int.emod_lt_of_pos (cl2 / 1000) (show(0:Int)<18 by decide)
 obtain⟨m,hm⟩:∃m:Nat,(m:Int)=1+cl2 / 1000 % 18:=⟨(1+cl2 / 1000 % 18).toNat,by omega⟩
 have hcut:Bo (us.map V.str) none (some (1+cl2 / 1000 % 18))=(us.take m).map V.str:=by rw[<-hm,MK,List.map_take]
 walk_at "vs"
 rw[hcut]
 obtain⟨ws,hws⟩:∃ws,ws=us.take m:=⟨_,rfl⟩
 rw[<-hws]
 have hwt:∀x∈ws,x∈d8/\FW gv rc x:=fun x hx=>hus x (List.mem_of_mem_take (by rw[<-hws];exact hx))
 have hwl:ws.length<=18:=by rw[hws,List.length_take];omega
 clear hws hcut
 intro wl adR
 have q1:=az (.lst (ws.map V.str)) adR
 have ewl:upd H3 wl (.lst (ws.map V.str)) wl=some (.lst (ws.map V.str)):=ak
 have ho4:=(ho2.same s3).same q1
 generalize upd H3 wl (.lst (ws.map V.str))=H4 at *
 walk_at "vs"
 intro w1 hw1
 have q2:=az (.lst (ws.map V.str)) hw1
 have ew1:upd H4 w1 (.lst (ws.map V.str)) w1=some (.lst (ws.map V.str)):=ak
 replace ewl:=q2 _ _ ewl
 replace ho4:=ho4.same q2
 generalize upd H4 w1 (.lst (ws.map V.str))=H5 at *
 have hsf:uX gv rc ws (kn0,[]):=k4.safe ho (fun y hy=>List.mem_append_left _ (hwt y hy).1)
 walk_at "vs"
 refine⟨?_,fun e cls d H' he=>absurd he (fun he=>K7 (fun x hx=>(hwt x hx).2) he)⟩
 intro t kd sd l kw ks wn sn kn rm B f1 f2 f3 f4 f5 f6 f7 f8 f9 f10 f11 f12 f13 f14 f15 f16 f17
 have fr:Frs gv rc ws H5 B t kd sd l kw ks sn kn rm:=⟨f1,f2,f4,f5,f6,f7,f8,⟨wn,f9,f10⟩,f11,f12,f13,f14,f15,f16,f17⟩
 have adS:=f1 _ _ ewl
 have ho6:=ho4.same f1
 clear f1 f3 f4 f5 f6 f7 f10 f14 f16 f17 q1 q2 ewl ew1 hw1 adR hS3 hS1
 have hkg:=k4.good ho fr.b.ok
 have hwm:∀x,x∈wn ↔ kn x≠none:=fun x=>fr.wnm f9
 have hsn:sn.length<=18:=jA fr.b.nd (ns:=d8) fun x hx=>hkg.1 x (fr.od hx)
 have hrec:=fr.rr.s
 obtain⟨kg,kc,eh,eg,ec,bd⟩:=id ho6
 walk_at "vs"
 intro gd hgd
 have q1:=az (.dK []) hgd
 have egd:upd B gd (.dK []) gd=some (.dK []):=ak
 have tr0:=TrD.nil egd
 have S0:aN B _:=q1
 generalize upd B gd (.dK [])=B1 at *
 clear q1 egd
 have ag6:=S0 _ _ adS
 walk_at "vs"
 refine⟨fun σ' H'=>Wr (∃(t9:Option V) (gk:List Str),σ'=[some (.ref a),some (.ref h),some (.int (1+cl % 1000)),some (.ref nl),some (.ref wl),some (.ref kd),some (.ref sd),some (.ref l),some (.ref gd),t9,none,none,none,none,none,none]/\aN B H'/\TrD H' gd gk/\(∀y∈gk,kn y≠none)/\∀x∈ws,x∈gk), ?_, ?_⟩
 rotate_left
 ·walk_at "vs"
  refine zN (xs:=ws.map V.str) (fun i σ' H'=>Wr (∃(t9:Option V) (gk:List Str),σ'=[some (.ref a),some (.ref h),some (.int (1+cl % 1000)),some (.ref nl),some (.ref wl),some (.ref kd),some (.ref sd),some (.ref l),some (.ref gd),t9,none,none,none,none,none,none]/\aN B H'/\TrD H' gd gk/\(∀y∈gk,kn y≠none)/\∀x∈ws.take i,x∈gk)) ?_ ?_ ?_ ?_
  ·exact⟨⟨_,_,rfl,S0,tr0,by simp,by simp⟩⟩
  ·rintro i σ' H' _ ⟨⟨_,_,_,S,_⟩⟩
   exact SqL.of (S _ _ adS)
  ·rintro i v σ' Z hv ⟨⟨t9,gk,rfl,S,tr,hg1,hg2⟩⟩
   obtain⟨x,hx,rfl⟩:∃x,ws[i]? =some x/\v=V.str x:=by
    rw[List.getElem?_map] at hv
    cases e:ws[i]? with
    | none=>rw[e] at hv;cases hv
    | some x=>rw[e] at hv;exact⟨x,rfl,(Option.some.inj hv).symm⟩
   obtain⟨Z2,gk2,dp,bb,tt,tr2,hm2,_⟩:=tr.put (Nat.le_trans (tr.len (ms:=d8) fun y hy=>hkg.1 y (hg1 y hy)) (by decide)) x
   walk_at "vs"
   refine⟨⟨_,gk2,rfl,dH S (fun z hz=>by rw[show z=gd by simpa using hz];exact hgd) bb,tr2,fun y hy=> ?_,fun y hy=> ?_⟩⟩
   ·rcases(hm2 y).mp hy with z | z
    ·exact hg1 y z
    ·rw[z];exact fr.b.w x (List.mem_of_getElem? hx)
   ·rw[List.take_add_one,hx] at hy
    rcases List.mem_append.mp hy with z | z
    ·exact(hm2 y).mpr (.inl (hg2 y z))
    ·exact(hm2 y).mpr (.inr (by simpa using z))
  ·rintro σ' H' ⟨⟨t9,gk,rfl,S,tr,hg1,hg2⟩⟩
   rw[List.length_map,List.take_length] at hg2
   exact⟨⟨_,_,rfl,S,tr,hg1,hg2⟩⟩
 clear tr0 S0 ag6
 rintro σ' B2 ⟨⟨t9,gk0,rfl,S0,tr0,aa5,aa6⟩⟩
 walk_at "vs"
 intro std hstd
 have adT:=same_none S0 hstd
 obtain⟨kt0,adU,_⟩:=id tr0
 have ngs:gd≠std:=fun z=>by rw[z,hstd] at adU;cases adU
 have q1:=az (.dK []) hstd
 have est:upd B2 std (.dK []) std=some (.dK []):=ak
 have ts0:=TrD.nil est
 replace S0:=S0.trans q1
 replace tr0:=tr0.same q1
 generalize upd B2 std (.dK [])=B3 at *
 clear q1 est
 have eo3:=S0 _ _ f15
 walk_at "vs"
 refine⟨fun σ' H'=>Wr (∃(t9 t11 t12 t13 t14 t15:Option V) (gk:List Str),σ'=[some (.ref a),some (.ref h),some (.int (1+cl % 1000)),some (.ref nl),some (.ref wl),some (.ref kd),some (.ref sd),some (.ref l),some (.ref gd),t9,some (.ref std),t11,t12,t13,t14,t15]/\aN B H'/\TrD H' gd gk/\(∀y∈gk,kn y≠none)/\(∀x∈ws,x∈gk)/\∀x∈sn,∀r ps v,rm x=some (r,ps,v)->∀p∈ps,p.1∈gk), ?_, ?_⟩
 rotate_left
 ·walk_at "vs"
  refine zN (xs:=sn.map V.str) (fun i σ' H'=>Wr (∃(t9 t11 t12 t13 t14 t15:Option V) (gk:List Str),σ'=[some (.ref a),some (.ref h),some (.int (1+cl % 1000)),some (.ref nl),some (.ref wl),some (.ref kd),some (.ref sd),some (.ref l),some (.ref gd),t9,some (.ref std),t11,t12,t13,t14,t15]/\aN B H'/\TrD H' gd gk/\TrD H' std (sn.take i)/\(∀y∈gk,kn y≠none)/\(∀x∈ws,x∈gk)/\∀x∈sn.take i,∀r ps v,rm x=some (r,ps,v)->∀p∈ps,p.1∈gk)) ?_ ?_ ?_ ?_
  ·exact⟨⟨_,_,_,_,_,_,gk0,rfl,S0,tr0,ts0,aa5,aa6,fun x hx=>by simp at hx⟩⟩
  ·rintro i σ' H' _ ⟨⟨_,_,_,_,_,_,_,_,S,_⟩⟩
   exact SqL.of (S _ _ f15)
  ·clear S0 tr0 ts0 aa5 aa6 eo3
   rintro i v σ' Z hv ⟨⟨t9,t11,t12,t13,t14,t15,gk,rfl,S,tr,ts,hg1,hg2,hg3⟩⟩
   obtain⟨x,hx,rfl⟩:∃x,sn[i]? =some x/\v=V.str x:=by
    rw[List.getElem?_map] at hv
    cases e:sn[i]? with
    | none=>rw[e] at hv;cases hv
    | some x=>rw[e] at hv;exact⟨x,rfl,(Option.some.inj hv).symm⟩
   have hxm:=List.mem_of_getElem? hx
   obtain⟨r,ps,v,hrm,hrc,hgx,hkx,hrow⟩:=fr.recAt hxm
   have adV:=hkg.1 x (by rw[hkx];simp)
   have hxt:x∉sn.take i:=Ji fr.b.nd hx (Nat.le_refl _)
   obtain⟨b,hb,br,rl,as,e1,e2,e3,e4,_⟩:=hrec.v x _ hrm
   obtain⟨bh,hbh,eR⟩:=bd.r x r hrc
   have hps:∀p∈ps,lR p.1:=fun p hp=>BW _ (hkg.1 _ (by rw[hrow.s p hp];simp))
   have dgr:cL Z sd (.str x) (some (.ref b)):=hb▸cL.k (k:= .inr x) (S _ _ f12)
   have ebZ:=S _ _ e1
   walk_at "vs"
   refine⟨fun σ' H'=>Wr (σ'=[some (.ref a),some (.ref h),some (.int (1+cl % 1000)),some (.ref nl),some (.ref wl),some (.ref kd),some (.ref sd),some (.ref l),some (.ref gd),some (.str x),some (.ref std),some (.ref br),some (.ref rl),some (.int v),t14,t15]/\aN Z H'), ?_, ?_⟩
   rotate_left
   ·have dst:cL Z std (.str x) none:=(ts.get x).elim (fun w=>absurd w.1 hxt) fun w=>w.2
    have dgh:cL Z c (.str x) (some (.ref bh)):=hbh▸cL.k (k:= .inr x) (S _ _ ec)
    have ehZ:=S _ _ eh
    have dt1:pP K Z (.ref br) r.dat:=(e2.same S).dat
    have dt2:pP K Z (.ref bh) r.dat:=(eR.same S).dat
    have dsh:SeqAt.shaped r.dat=true:=TY (k4.o x r hrc).g (by have:=(k4.o x r hrc).d;omega)
    have hoZ:=ho6.same S
    have hsx:uX gv rc [x] (kn0,[]):=k4.safe ho (fun y hy=>by rw[show y=x by simpa using hy];exact List.mem_append_left _ adV)
    walk_at "vs"
    refine⟨?_,fun e cls d H' he=>absurd he (fun he=>Jo he (fr.tol (by rw[hkx];simp)))⟩
    intro l2 as2 qs kn2 rm2 od2 Z2 s2' hl2 st2 ru2 el2 ag7 hq2
    have eq:qs=ps:=fr.rt hrm st2 ru2 hq2
    subst eq
    have dt3:pP K Z2 (.ref rl) (.list (qs.map rdD)):= .lst (SqL.of (s2' _ _ (S _ _ e3))) (By ((e4.same S).same s2'))
    have dt4:pP K Z2 (.ref l2) (.list (qs.map rdD)):= .lst (SqL.of el2) (By ag7)
    have ait:=MT hps
    walk_at "vs"
    exact⟨⟨rfl,s2'⟩⟩
   rintro σ' Z2 ⟨⟨rfl,SZ⟩⟩
   replace tr:=tr.same SZ
   replace ts:=ts.same SZ
   replace S:=S.trans SZ
   clear SZ dgr ebZ
   have e3Z:=S _ _ e3
   refine⟨fun σ' H'=>Wr (∃(t14 t15:Option V) (gk2:List Str),σ'=[some (.ref a),some (.ref h),some (.int (1+cl % 1000)),some (.ref nl),some (.ref wl),some (.ref kd),some (.ref sd),some (.ref l),some (.ref gd),some (.str x),some (.ref std),some (.ref br),some (.ref rl),some (.int v),t14,t15]/\aN B H'/\TrD H' gd gk2/\TrD H' std (sn.take i)/\(∀y∈gk2,kn y≠none)/\(∀y∈gk,y∈gk2)/\∀p∈ps,p.1∈gk2), ?_, ?_⟩
   rotate_left
   ·walk_at "vs"
    refine zN (xs:=as.map V.ref) (fun k σ' H'=>Wr (∃(t14 t15:Option V) (gk2:List Str),σ'=[some (.ref a),some (.ref h),some (.int (1+cl % 1000)),some (.ref nl),some (.ref wl),some (.ref kd),some (.ref sd),some (.ref l),some (.ref gd),some (.str x),some (.ref std),some (.ref br),some (.ref rl),some (.int v),t14,t15]/\aN B H'/\TrD H' gd gk2/\TrD H' std (sn.take i)/\(∀y∈gk2,kn y≠none)/\(∀y∈gk,y∈gk2)/\∀p∈ps.take k,p.1∈gk2)) ?_ ?_ ?_ ?_
    ·exact⟨⟨_,_,gk,rfl,S,tr,ts,hg1,fun _ h=>h,by simp⟩⟩
    ·rintro k σ' H' _ ⟨⟨_,_,_,_,S',_⟩⟩
     exact SqL.of (S' _ _ e3)
    ·clear S tr ts
     rintro k u σ' Y hu ⟨⟨t14,t15,gk2,rfl,S,tr,ts,h1,h2,h3⟩⟩
     obtain⟨a1,ha1,rfl⟩:∃a1,as[k]? =some a1/\u=V.ref a1:=by
      rw[List.getElem?_map] at hu
      cases e:as[k]? with
      | none=>rw[e] at hu;cases hu
      | some x=>rw[e] at hu;exact⟨x,rfl,(Option.some.inj hu).symm⟩
     obtain⟨pr,hpr,ea1⟩:=e4.get k a1 ha1
     have hpm:=List.mem_of_getElem? hpr
     have hkp:=hrow.s pr hpm
     replace ea1:Y a1=some (.tup [.str pr.1, .int pr.2]):=S _ _ ea1
     obtain⟨Y2,gk3,dp,bb,tt,tr2,hm3,_⟩:=tr.put (Nat.le_trans (tr.len (ms:=d8) fun y hy=>hkg.1 y (h1 y hy)) (by decide)) pr.1
     have S2:=dH S (fun z hz=>by rw[show z=gd by simpa using hz];exact hgd) bb
     have ts2:=ts.but bb (by simpa using Ne.symm ngs)
     have dgw:cL Y2 kd (.str pr.1) (some (.int pr.2)):=by
      have:=cL.k (k:= .inr pr.1) (S2 _ _ f8)
      rw[f11,hkp] at this;exact this
     have done:Wr (∃(t14 t15:Option V) (gk2:List Str),[some (V.ref a),some (.ref h),some (.int (1+cl % 1000)),some (.ref nl),some (.ref wl),some (.ref kd),some (.ref sd),some (.ref l),some (.ref gd),some (.str x),some (.ref std),some (.ref br),some (.ref rl),some (.int v),some (.str pr.1),some (.int pr.2)]=[some (.ref a),some (.ref h),some (.int (1+cl % 1000)),some (.ref nl),some (.ref wl),some (.ref kd),some (.ref sd),some (.ref l),some (.ref gd),some (.str x),some (.ref std),some (.ref br),some (.ref rl),some (.int v),t14,t15]/\aN B Y2/\TrD Y2 gd gk2/\TrD Y2 std (sn.take i)/\(∀y∈gk2,kn y≠none)/\(∀y∈gk,y∈gk2)/\∀p∈ps.take (k+1),p.1∈gk2):=by
      refine⟨⟨_,_,gk3,rfl,S2,tr2,ts2,fun y hy=> ?_,fun y hy=>(hm3 y).mpr (.inl (h2 y hy)),fun p hp=> ?_⟩⟩
      ·rcases(hm3 y).mp hy with z | z
       ·exact h1 y z
       ·rw[z,hkp];simp
      ·rw[List.take_add_one,hpr] at hp
       rcases List.mem_append.mp hp with z | z
       ·exact(hm3 _).mpr (.inl (h3 p z))
       ·exact(hm3 _).mpr (.inr (by rw[show p=pr by simpa using z]))
     have ehY:=S2 _ _ eh
     rcases fr.ahead hx hrm hpm with hgp | hgp
     ·have hng:pr.1∉cs:=fun z=>k4.dj _ (bd.gm hgp) z
      have dgc:cL Y2 c (.str pr.1) none:=by
       have:=cL.k (k:= .inr pr.1) (S2 _ _ ec)
       rw[bd.k2.none.mpr hng] at this;exact this
      walk_at "vs"
      refine vK (fun c=>absurd c (by simp)) (fun _=> ?_)
      walk_at "vs"
      exact done
     ·obtain⟨rp,_,_,_,hrcp,_⟩:=fr.recAt (List.mem_of_mem_take hgp)
      obtain⟨bp,hbp,_⟩:=bd.r pr.1 rp hrcp
      have dgc:cL Y2 c (.str pr.1) (some (.ref bp)):=hbp▸cL.k (k:= .inr pr.1) (S2 _ _ ec)
      have dgs:cL Y2 std (.str pr.1) (some (.bl true)):=(ts2.get pr.1).elim (fun w=>w.2) fun w=>absurd hgp w.1
      walk_at "vs"
      refine vK (fun c=>absurd c (by simp)) (fun _=> ?_)
      walk_at "vs"
      exact done
    ·rintro σ' H' ⟨⟨t14,t15,gk2,rfl,S',tr',ts',h1,h2,h3⟩⟩
     rw[List.length_map,e4.length,List.take_length] at h3
     exact⟨⟨_,_,gk2,rfl,S',tr',ts',h1,h2,h3⟩⟩
   clear S tr ts e3Z
   rintro σ' Z3 ⟨⟨t14,t15,gk2,rfl,S,tr,ts,h1,h2,h3⟩⟩
   obtain⟨Z4,nst,dp,bb,tt,ts2,_,hnst⟩:=ts.put (by rw[List.length_take];omega) x
   have hnst:=hnst hxt
   subst hnst
   have S2:=dH S (fun z hz=>by rw[show z=std by simpa using hz];exact adT) bb
   have tr2:=tr.but bb (by simpa using ngs)
   have hoZ:=ho6.same S2
   have hsx:uX gv rc [x] (kn0,[]):=k4.safe ho (fun y hy=>by rw[show y=x by simpa using hy];exact List.mem_append_left _ adV)
   walk_at "vs"
   refine⟨?_,fun e cls d H' he=>absurd he (fun he=>Jo he (fr.tol (by rw[hkx];simp)))⟩
   intro v2 kn2 rm2 od2 Z5 s5 st2 ru2 hk2
   have ev2:v2=v:=fr.wt hkx ru2 hk2
   subst ev2
   have dgw:cL Z5 kd (.str x) (some (.int v2)):=by
    have:=cL.k (k:= .inr x) (s5 _ _ (S2 _ _ f8))
    rw[f11,hkx] at this;exact this
   walk_at "vs"
   refine vK (fun c=>absurd c (by simp)) (fun _=> ?_)
   walk_at "vs"
   refine vK (fun c=>absurd c (by simp)) (fun _=> ?_)
   walk_at "vs"
   refine⟨⟨_,_,_,_,_,_,gk2,rfl,S2.trans s5,tr2.same s5, ?_,h1,fun y hy=>h2 y (hg2 y hy),fun y hy r' ps' v' hr' p hp=> ?_⟩⟩
   ·rw[List.take_add_one,hx];exact ts2.same s5
   ·rw[List.take_add_one,hx] at hy
    rcases List.mem_append.mp hy with z | z
    ·exact h2 _ (hg3 y z r' ps' v' hr' p hp)
    ·have:y=x:=by simpa using z
     subst this
     rw[hrm] at hr';cases hr'
     exact h3 p hp
  ·rintro σ' H' ⟨⟨t9,t11,t12,t13,t14,t15,gk,rfl,S,tr,ts,hg1,hg2,hg3⟩⟩
   rw[List.length_map,List.take_length] at hg3
   exact⟨⟨_,_,_,_,_,_,gk,rfl,S,tr,hg1,hg2,hg3⟩⟩
 clear S0 tr0 ts0 aa5 aa6 eo3
 rintro σ' B4 ⟨⟨t9,t11,t12,t13,t14,t15,gk,rfl,S,tr,hg1,hg2,hg3⟩⟩
 obtain⟨kt,ekt,kkt,_⟩:=id tr
 have gkm:∀y,y∈gk ↔ y∈wn:=fun y=>by
  rw[hwm y]
  refine⟨hg1 y,fun hy=> ?_⟩
  rcases fr.aaW hy with z | ⟨z,hz,r,ps,v,hr,p,hp,rfl⟩
  ·exact hg2 y z
  ·exact hg3 z hz r ps v hr p hp
 have hgl:gk.length<=18:=tr.len (ms:=d8) fun y hy=>hkg.1 y (hg1 y hy)
 have hwnl:wn.length<=18:=jA f9.nd (ns:=d8) fun x hx=>hkg.1 x ((hwm x).mp hx)
 have rd1:Rd B4 gd (.dK kt):= .inl ekt
 have aiu:kt.length<64:=by rw[kkt.len];omega
 have aiv:=kkt.k
 walk_at "vs"
 intro p1 u1 hp1 pm1 so1
 have q_:=az (.lst (u1.map V.str)) hp1
 have ep1:upd B4 p1 (.lst (u1.map V.str)) p1=some (.lst (u1.map V.str)):=ak
 replace S:=S.trans q_
 generalize upd B4 p1 (.lst (u1.map V.str))=B5 at *
 clear q_ rd1
 have rd2:Rd B5 kd (.dK kw):= .inl (S _ _ f8)
 have aiw:kw.length<64:=by rw[f9.len];omega
 have aix:=f9.k
 walk_at "vs"
 intro p2 u2 hp2 pm2 so2
 have q_:=az (.lst (u2.map V.str)) hp2
 have ep2:upd B5 p2 (.lst (u2.map V.str)) p2=some (.lst (u2.map V.str)):=ak
 replace S:=S.trans q_
 replace ep1:=q_ _ _ ep1
 generalize upd B5 p2 (.lst (u2.map V.str))=B6 at *
 clear q_ rd2
 have eu:u1=u2:=Fq pm1 so1 pm2 so2 kkt.nd f9.nd gkm
 subst eu
 have dt1:pP K B6 (.ref p1) (.list (u1.map .str)):= .lst (SqL.of ep1) (mQ _)
 have dt2:pP K B6 (.ref p2) (.list (u1.map .str)):= .lst (SqL.of ep2) (mQ _)
 have dts:SeqAt.shaped (.list (u1.map .str))=true:=CZ fun y hy=>pR (BW y (hkg.1 y (hg1 y (pm1.mem_iff.mp hy))))
 have rd3:Rd B6 sd (.dK ks):= .inl (S _ _ f12)
 have aiy:ks.length<64:=by rw[f13.len];omega
 have aiz:=f13.k
 walk_at "vs"
 intro p3 u3 hp3 pm3 so3
 have q_:=az (.lst (u3.map V.str)) hp3
 have ep3:upd B6 p3 (.lst (u3.map V.str)) p3=some (.lst (u3.map V.str)):=ak
 replace S:=S.trans q_
 generalize upd B6 p3 (.lst (u3.map V.str))=B7 at *
 clear q_ rd3 dt1 dt2 dts
 have eo7:=S _ _ f15
 have aiA:sn.length<64:=by omega
 walk_at "vs"
 intro p4 u4 hp4 pm4 so4
 have q_:=az (.lst (u4.map V.str)) hp4
 have ep4:upd B7 p4 (.lst (u4.map V.str)) p4=some (.lst (u4.map V.str)):=ak
 replace S:=S.trans q_
 replace ep3:=q_ _ _ ep3
 generalize upd B7 p4 (.lst (u4.map V.str))=B8 at *
 clear q_ eo7
 have eu:u3=u4:=Fq pm3 so3 pm4 so4 fr.b.nd fr.b.nd fun x=>Iff.rfl
 subst eu
 have dt1:pP K B8 (.ref p3) (.list (u3.map .str)):= .lst (SqL.of ep3) (mQ _)
 have dt2:pP K B8 (.ref p4) (.list (u3.map .str)):= .lst (SqL.of ep4) (mQ _)
 have dts:SeqAt.shaped (.list (u3.map .str))=true:=CZ fun y hy=>pR (BW y (hkg.1 y (fr.od (pm3.mem_iff.mp hy))))
 walk_at "vs"
 have ag8:=S _ _ f8
 walk_at "vs"
 intro o D hD
 obtain⟨kg5,kc5,_,eg5,ec5,_⟩:=id ho4
 have nh:h≠kd:=fun z=>by rw[z,f8] at eh;cases eh
 have ng:g≠kd:=fun z=>by rw[z,fr.fk] at eg5;cases eg5
 have nc:c≠kd:=fun z=>by rw[z,fr.fk] at ec5;cases ec5
 have hoK:oH (upd B8 kd (.frz o (.dK kw))) h g c gs cs gv rc:=⟨kg,kc,(ao nh).trans (S _ _ eh),(ao ng).trans (S _ _ eg),(ao nc).trans (S _ _ ec),(bd.tups (aN.tups S)).tups (ug ag8)⟩
 have efr:upd B8 kd (.frz o (.dK kw)) kd=some (.frz o (.dK kw)):=ak
 generalize upd B8 kd (.frz o (.dK kw))=K2 at *
 refine Qu (kvs:=kw) (fun i σ' H'=>Wr ((∃t,σ'=[t,some (.ref kd),some (.ref h)])/\aN K2 H'/\H' D=some (.lst []))) ?_ ?_ ?_ ?_
 ·exact⟨⟨none,rfl⟩,az _ hD,ak⟩
 ·rintro i σ' H' _ ⟨_,S',_⟩
  exact S' _ _ efr
 ·rintro i k v σ' Z hkv ⟨⟨t,rfl⟩,S',eD⟩
  obtain⟨y,rfl,hy⟩:=f9.at hkv
  have hym:=(hwm y).mp (List.mem_of_getElem? hy)
  cases e:kn y with
  | none=>exact absurd e hym
  | some u=>
    have dgw:cL Z kd (.str y) (some (.int u)):= .inl ⟨kw, .inr y, .inr ⟨o,S' _ _ efr⟩,rfl,by rw[f11,e];rfl⟩
    have hoZ:=hoK.same S'
    have hsx:uX gv rc [y] (kn0,[]):=k4.safe ho (fun z hz=>by rw[show z=y by simpa using hz];exact List.mem_append_left _ (hkg.1 y hym))
    walk_at "vs"
    refine⟨?_,fun e' cls d H' he=>absurd he (fun he=>Jo he (fr.tol hym))⟩
    intro v2 kn2 rm2 od2 Z5 s5 st2 ru2 hk2
    have ev2:v2=u:=fr.wt e ru2 hk2
    subst ev2
    walk_at "vs"
    refine vK (fun c=>absurd c (by simp)) (fun _=> ?_)
    exact⟨⟨_,rfl⟩,S'.trans s5,s5 _ _ eD⟩
 ·rintro σ' Z ⟨_,S',eD⟩
  walk_at "vs"
  intro e1 he1
  have q_:=az (.lst []) he1
  have ee1:upd Z e1 (.lst []) e1=some (.lst []):=ak
  replace eD:=q_ _ _ eD
  generalize upd Z e1 (.lst [])=Z2 at *
  clear q_
  walk_at "vs"
  exact q _
end
theorem jV {K:PySem.W.Frag}{h:Heap}{mg:Str->Option Value} (X:K.In h) (G:h.Ns mainGlobals mg) {x:Str}{st:Stmt}{ps:List Str}{f:Addr}{oc:Value}{od an:Option Addr}{osl:Array (Option Value)}{kV doc pm cdv ct:Value}
 (a:PySem.W.nsIn K mainGlobals x=some (some (.ref f))) (l:K.lookup f=some ⟨oc,od, .func (PySem.W.fnOf x x (bC st) (bw st) (aa st) .none kV doc pm an cdv ct),osl⟩) (c:PySem.W.codeIn K cdv x=true) (k:PySem.W.keepIn K (.ref f)=true)
 (hb:∀us:List Value,us.length=ps.length->bindArgs (PySem.W.fnOf x x (bC st) (bw st) (aa st) .none kV doc pm an cdv ct) ⟨us,[]⟩=pure (ps.zip us)):
 FnT K mg x st ps f (PySem.W.fnOf x x (bC st) (bw st) (aa st) .none kV doc pm an cdv ct):=
 ⟨jD l c k,Binds.all hb,PySem.W.mg_of X G a⟩
theorem len0 {p:List Value->Prop} (h:p []) (us:List Value) (hl:us.length=0):p us:=by
 obtain rfl:=List.eq_nil_of_length_eq_zero hl;exact h
theorem Ua {p:List Value->Prop} (h:∀x0,p [x0]) (us:List Value) (hl:us.length=1):p us:=by
 match us,hl with |[x0],_=>exact h x0
theorem rJ {p:List Value->Prop} (h:∀x0 x1,p [x0,x1]) (us:List Value) (hl:us.length=2):p us:=by
 match us,hl with |[x0,x1],_=>exact h x0 x1
theorem Nr {p:List Value->Prop} (h:∀x0 x1 x2,p [x0,x1,x2]) (us:List Value) (hl:us.length=3):p us:=by
 match us,hl with |[x0,x1,x2],_=>exact h x0 x1 x2
theorem aiB {p:List Value->Prop} (h:∀x0 x1 x2 x3,p [x0,x1,x2,x3]) (us:List Value) (hl:us.length=4):p us:=by
 match us,hl with |[x0,x1,x2,x3],_=>exact h x0 x1 x2 x3
theorem aiC {p:List Value->Prop} (h:∀x0 x1 x2 x3 x4,p [x0,x1,x2,x3,x4]) (us:List Value) (hl:us.length=5):p us:=by
 match us,hl with |[x0,x1,x2,x3,x4],_=>exact h x0 x1 x2 x3 x4
theorem aiD {p:List Value->Prop} (h:∀x0 x1 x2 x3 x4 x5,p [x0,x1,x2,x3,x4,x5]) (us:List Value) (hl:us.length=6):p us:=by
 match us,hl with |[x0,x1,x2,x3,x4,x5],_=>exact h x0 x1 x2 x3 x4 x5
theorem all_mk {l:PySem.W.OpenLaw}{w:World}{K:PySem.W.Frag}{h:Heap}{mg:Str->Option Value}{fa f1 f2 f3 f4 f5 f6 f7 f8 f9 f10 f11 f12 f13 f14 f15 f16 f17:Addr} (X:K.In h) (G:h.Ns mainGlobals mg) (hfa:mg "law"=some (.ref fa))
 {od1 an1 od2 an2 od3 an3 od4 an4 od5 an5 od6 an6 od7 an7 od8 an8 od9 an9 ag9 aha ahb ahc ahd ahe ahf ahg ahh ahi ahj ahk ahl ahm ahn adW:Option Addr}{sl1 sl2 sl3 sl4 sl5 sl6 sl7 sl8 sl9 aho ahp ahq ahr ahs aht ahu ahv:Array (Option Value)}{oc1 kV1 dc1 pm1 cd1 ct1 oc2 kV2 dc2 pm2 cd2 ct2 oc3 kV3 dc3 pm3 cd3 ct3 oc4 kV4 dc4 pm4 cd4 ct4 oc5 kV5 dc5 pm5 cd5 ct5 oc6 kV6 dc6 pm6 cd6 ct6 oc7 kV7 dc7 pm7 cd7 ct7 oc8 kV8 dc8 pm8 cd8 ct8 oc9 kV9 dc9 pm9 cd9 ct9 ahw ahx ahy ahz adX ahA ahB ahC ahD ahE adY ahF ahG ahH ahI ahJ adZ ahK ahL ahM ahN ahO ad0 ahP ahQ ahR ahS ahT ad1 ahU ahV ahW ahX ahY ad2 ahZ ah0 ah1 ah2 ah3 ad3 ah4 ah5 ad4 ad5 ad6 aa7 ad7:Value}
 (a1:PySem.W.nsIn K mainGlobals "joined"=some (some (.ref f1))) (l1:K.lookup f1=some ⟨oc1,od1, .func (PySem.W.fnOf "joined" "joined" (bC jO) (bw jO) (aa jO) .none kV1 dc1 pm1 an1 cd1 ct1),sl1⟩) (c1:PySem.W.codeIn K cd1 "joined"=true) (k1:PySem.W.keepIn K (.ref f1)=true)
 (a2:PySem.W.nsIn K mainGlobals "is_whole_number"=some (some (.ref f2))) (l2:K.lookup f2=some ⟨oc2,od2, .func (PySem.W.fnOf "is_whole_number" "is_whole_number" (bC bN) (bw bN) (aa bN) .none kV2 dc2 pm2 an2 cd2 ct2),sl2⟩) (c2:PySem.W.codeIn K cd2 "is_whole_number"=true) (k2:PySem.W.keepIn K (.ref f2)=true)
 (a3:PySem.W.nsIn K mainGlobals "is_same"=some (some (.ref f3))) (l3:K.lookup f3=some ⟨oc3,od3, .func (PySem.W.fnOf "is_same" "is_same" (bC dU) (bw dU) (aa dU) .none kV3 dc3 pm3 an3 cd3 ct3),sl3⟩) (c3:PySem.W.codeIn K cd3 "is_same"=true) (k3:PySem.W.keepIn K (.ref f3)=true)
 (a4:PySem.W.nsIn K mainGlobals "searched"=some (some (.ref f4))) (l4:K.lookup f4=some ⟨oc4,od4, .func (PySem.W.fnOf "searched" "searched" (bC dB) (bw dB) (aa dB) .none kV4 dc4 pm4 an4 cd4 ct4),sl4⟩) (c4:PySem.W.codeIn K cd4 "searched"=true) (k4:PySem.W.keepIn K (.ref f4)=true)
 (a5:PySem.W.nsIn K mainGlobals "fresh_build"=some (some (.ref f5))) (l5:K.lookup f5=some ⟨oc5,od5, .func (PySem.W.fnOf "fresh_build" "fresh_build" (bC cI) (bw cI) (aa cI) .none kV5 dc5 pm5 an5 cd5 ct5),sl5⟩) (c5:PySem.W.codeIn K cd5 "fresh_build"=true) (k5:PySem.W.keepIn K (.ref f5)=true)
 (a6:PySem.W.nsIn K mainGlobals "worth_of"=some (some (.ref f6))) (l6:K.lookup f6=some ⟨oc6,od6, .func (PySem.W.fnOf "worth_of" "worth_of" (bC gB) (bw gB) (aa gB) .none kV6 dc6 pm6 an6 cd6 ct6),sl6⟩) (c6:PySem.W.codeIn K cd6 "worth_of"=true) (k6:PySem.W.keepIn K (.ref f6)=true)
 (a7:PySem.W.nsIn K mainGlobals "reads_of"=some (some (.ref f7))) (l7:K.lookup f7=some ⟨oc7,od7, .func (PySem.W.fnOf "reads_of" "reads_of" (bC fV) (bw fV) (aa fV) .none kV7 dc7 pm7 an7 cd7 ct7),sl7⟩) (c7:PySem.W.codeIn K cd7 "reads_of"=true) (k7:PySem.W.keepIn K (.ref f7)=true)
 (a8:PySem.W.nsIn K mainGlobals "_law_cell"=some (some (.ref f8))) (l8:K.lookup f8=some ⟨oc8,od8, .func (PySem.W.fnOf "_law_cell" "_law_cell" (bC gC) (bw gC) (aa gC) .none kV8 dc8 pm8 an8 cd8 ct8),sl8⟩) (c8:PySem.W.codeIn K cd8 "_law_cell"=true) (k8:PySem.W.keepIn K (.ref f8)=true)
 (a9:PySem.W.nsIn K mainGlobals "_law_state"=some (some (.ref f9))) (l9:K.lookup f9=some ⟨oc9,od9, .func (PySem.W.fnOf "_law_state" "_law_state" (bC gP) (bw gP) (aa gP) .none kV9 dc9 pm9 an9 cd9 ct9),sl9⟩) (c9:PySem.W.codeIn K cd9 "_law_state"=true) (k9:PySem.W.keepIn K (.ref f9)=true)
 (a10:PySem.W.nsIn K mainGlobals "_law_take"=some (some (.ref f10))) (l10:K.lookup f10=some ⟨ahw,ag9, .func (PySem.W.fnOf "_law_take" "_law_take" (bC dh) (bw dh) (aa dh) .none ahx ahy ahz aha adX ahA),aho⟩) (c10:PySem.W.codeIn K adX "_law_take"=true) (k10:PySem.W.keepIn K (.ref f10)=true)
 (a11:PySem.W.nsIn K mainGlobals "_law_number"=some (some (.ref f11))) (l11:K.lookup f11=some ⟨ahB,ahb, .func (PySem.W.fnOf "_law_number" "_law_number" (bC d7) (bw d7) (aa d7) .none ahC ahD ahE ahc adY ahF),ahp⟩) (c11:PySem.W.codeIn K adY "_law_number"=true) (k11:PySem.W.keepIn K (.ref f11)=true)
 (a12:PySem.W.nsIn K mainGlobals "_law_leaf"=some (some (.ref f12))) (l12:K.lookup f12=some ⟨ahG,ahd, .func (PySem.W.fnOf "_law_leaf" "_law_leaf" (bC fJ) (bw fJ) (aa fJ) .none ahH ahI ahJ ahe adZ ahK),ahq⟩) (c12:PySem.W.codeIn K adZ "_law_leaf"=true) (k12:PySem.W.keepIn K (.ref f12)=true)
 (a13:PySem.W.nsIn K mainGlobals "_law_recipe"=some (some (.ref f13))) (l13:K.lookup f13=some ⟨ahL,ahf, .func (PySem.W.fnOf "_law_recipe" "_law_recipe" (bC aH) (bw aH) (aa aH) .none ahM ahN ahO ahg ad0 ahP),ahr⟩) (c13:PySem.W.codeIn K ad0 "_law_recipe"=true) (k13:PySem.W.keepIn K (.ref f13)=true)
 (a14:PySem.W.nsIn K mainGlobals "_law_names"=some (some (.ref f14))) (l14:K.lookup f14=some ⟨ahQ,ahh, .func (PySem.W.fnOf "_law_names" "_law_names" (bC gQ) (bw gQ) (aa gQ) .none ahR ahS ahT ahi ad1 ahU),ahs⟩) (c14:PySem.W.codeIn K ad1 "_law_names"=true) (k14:PySem.W.keepIn K (.ref f14)=true)
 (a15:PySem.W.nsIn K mainGlobals "_law_house"=some (some (.ref f15))) (l15:K.lookup f15=some ⟨ahV,ahj, .func (PySem.W.fnOf "_law_house" "_law_house" (bC aD) (bw aD) (aa aD) .none ahW ahX ahY ahk ad2 ahZ),aht⟩) (c15:PySem.W.codeIn K ad2 "_law_house"=true) (k15:PySem.W.keepIn K (.ref f15)=true)
 (a16:PySem.W.nsIn K mainGlobals "_law_worth_told"=some (some (.ref f16))) (l16:K.lookup f16=some ⟨ah0,ahl, .func (PySem.W.fnOf "_law_worth_told" "_law_worth_told" (bC bL) (bw bL) (aa bL) .none ah1 ah2 ah3 ahm ad3 ah4),ahu⟩) (c16:PySem.W.codeIn K ad3 "_law_worth_told"=true) (k16:PySem.W.keepIn K (.ref f16)=true)
 (a17:PySem.W.nsIn K mainGlobals "law"=some (some (.ref f17))) (l17:K.lookup f17=some ⟨ah5,ahn, .func (PySem.W.fnOf "law" "law" (bC cU) (bw cU) (aa cU) .none ad4 ad5 ad6 adW aa7 ad7),ahv⟩) (c17:PySem.W.codeIn K aa7 "law"=true) (k17:PySem.W.keepIn K (.ref f17)=true)
 (kd:Kinds K)
 {CK:Addr} (ACK:PySem.W.nsIn K mainGlobals "Reckoning"=some (some (.ref CK)))
 {Wq:Addr}{ad8 ad9:Option Addr}{aea:Array (Option Value)}{aeb aec aed aee Yq aef:Value}
 (Ws:PySem.W.findIn K (.ref CK) "__init__"=some (some (.ref Wq))) (Wt:PySem.W.isFn K (.ref Wq)=true) (aa8:K.lookup Wq=some ⟨aeb,ad8, .func (PySem.W.fnOf "__init__" "Reckoning.__init__" (bC bZ) (bw bZ) (aa bZ) .none aec aed aee ad9 Yq aef),aea⟩) (aa9:PySem.W.codeIn K Yq "Reckoning.__init__"=true) (Wu:PySem.W.keepIn K (.ref Wq)=true)
 {Wv:Addr}{aeg aeh:Option Addr}{aei:Array (Option Value)}{aej aek ael aem Yr aen:Value}
 (aba:PySem.W.findIn K (.ref CK) "lacking"=some (some (.ref Wv))) (abb:PySem.W.isFn K (.ref Wv)=true) (abd:K.lookup Wv=some ⟨aej,aeg, .func (PySem.W.fnOf "lacking" "Reckoning.lacking" (bC bG) (bw bG) (aa bG) .none aek ael aem aeh Yr aen),aei⟩) (abe:PySem.W.codeIn K Yr "Reckoning.lacking"=true) (Ww:PySem.W.keepIn K (.ref Wv)=true)
 {Wx:Addr}{aeo aep:Option Addr}{aeq:Array (Option Value)}{aer aes aet aeu Ys aev:Value}
 (abf:PySem.W.findIn K (.ref CK) "go_on"=some (some (.ref Wx))) (abg:PySem.W.isFn K (.ref Wx)=true) (abh:K.lookup Wx=some ⟨aer,aeo, .func (PySem.W.fnOf "go_on" "Reckoning.go_on" (bC aJ) (bw aJ) (aa aJ) .none aes aet aeu aep Ys aev),aeq⟩) (abi:PySem.W.codeIn K Ys "Reckoning.go_on"=true) (Wy:PySem.W.keepIn K (.ref Wx)=true)
 (abj:PySem.W.plainGet K CK Str.empty=true) (abk:PySem.W.hasDictIn K CK=true) (abl:PySem.W.plainOver K CK=true) (abm:PySem.W.findIn K (.ref CK) "__setattr__"=some (some (.builtin "object.__setattr__"))) (abn:PySem.W.makesIn K CK=true) (abo:PySem.W.keepIn K (.ref CK)=true)
 (Gr:PySem.W.findIn K (.ref CK) "todo"=some none)
 (Cu:PySem.W.findIn K (.ref CK) "found"=some none)
 (Cv:PySem.W.findIn K (.ref CK) "reads"=some none)
 {CN:Addr} (ACN:PySem.W.nsIn K mainGlobals "NamedRecords"=some (some (.ref CN)))
 {Wz:Addr}{aew aex:Option Addr}{aey:Array (Option Value)}{aez aeA aeB aeC Yt aeD:Value}
 (WD:PySem.W.findIn K (.ref CN) "__init__"=some (some (.ref Wz))) (WK:PySem.W.isFn K (.ref Wz)=true) (abp:K.lookup Wz=some ⟨aez,aew, .func (PySem.W.fnOf "__init__" "NamedRecords.__init__" (bC aU) (bw aU) (aa aU) .none aeA aeB aeC aex Yt aeD),aey⟩) (abq:PySem.W.codeIn K Yt "NamedRecords.__init__"=true) (WL:PySem.W.keepIn K (.ref Wz)=true)
 {WM:Addr}{aeE aeF:Option Addr}{aeG:Array (Option Value)}{aeH aeI aeJ aeK Yu aeL:Value}
 (abr:PySem.W.findIn K (.ref CN) "records_for"=some (some (.ref WM))) (abt:PySem.W.isFn K (.ref WM)=true) (abu:K.lookup WM=some ⟨aeH,aeE, .func (PySem.W.fnOf "records_for" "NamedRecords.records_for" (bC aM) (bw aM) (aa aM) .none aeI aeJ aeK aeF Yu aeL),aeG⟩) (abv:PySem.W.codeIn K Yu "NamedRecords.records_for"=true) (WN:PySem.W.keepIn K (.ref WM)=true)
 {WQ:Addr}{aeM aeN:Option Addr}{aeO:Array (Option Value)}{aeP aeQ aeR aeS Yv aeT:Value}
 (abw:PySem.W.findIn K (.ref CN) "put_made"=some (some (.ref WQ))) (abx:PySem.W.isFn K (.ref WQ)=true) (aby:K.lookup WQ=some ⟨aeP,aeM, .func (PySem.W.fnOf "put_made" "NamedRecords.put_made" (bC cB) (bw cB) (aa cB) .none aeQ aeR aeS aeN Yv aeT),aeO⟩) (abz:PySem.W.codeIn K Yv "NamedRecords.put_made"=true) (WR:PySem.W.keepIn K (.ref WQ)=true)
 (abA:PySem.W.plainGet K CN Str.empty=true) (abB:PySem.W.hasDictIn K CN=true) (abC:PySem.W.plainOver K CN=true) (abD:PySem.W.findIn K (.ref CN) "__setattr__"=some (some (.builtin "object.__setattr__"))) (abE:PySem.W.makesIn K CN=true) (abF:PySem.W.keepIn K (.ref CN)=true)
 (w6:PySem.W.findIn K (.ref CN) "by_name"=some none)
 {CS:Addr} (ACS:PySem.W.nsIn K mainGlobals "Settling"=some (some (.ref CS)))
 {WT:Addr}{aeU aeV:Option Addr}{aeW:Array (Option Value)}{aeX aeY aeZ ae0 Yw ae1:Value}
 (WW:PySem.W.findIn K (.ref CS) "__init__"=some (some (.ref WT))) (WX:PySem.W.isFn K (.ref WT)=true) (abG:K.lookup WT=some ⟨aeX,aeU, .func (PySem.W.fnOf "__init__" "Settling.__init__" (bC bH) (bw bH) (aa bH) .none aeY aeZ ae0 aeV Yw ae1),aeW⟩) (abH:PySem.W.codeIn K Yw "Settling.__init__"=true) (WY:PySem.W.keepIn K (.ref WT)=true)
 {W0:Addr}{ae2 ae3:Option Addr}{ae4:Array (Option Value)}{ae5 ae6 ae7 ae8 Yx ae9:Value}
 (abI:PySem.W.findIn K (.ref CS) "lacking"=some (some (.ref W0))) (abJ:PySem.W.isFn K (.ref W0)=true) (abK:K.lookup W0=some ⟨ae5,ae2, .func (PySem.W.fnOf "lacking" "Settling.lacking" (bC bf) (bw bf) (aa bf) .none ae6 ae7 ae8 ae3 Yx ae9),ae4⟩) (abL:PySem.W.codeIn K Yx "Settling.lacking"=true) (Xa:PySem.W.keepIn K (.ref W0)=true)
 {Xb:Addr}{afa afb:Option Addr}{afc:Array (Option Value)}{afd afe afg afh Yy afi:Value}
 (abM:PySem.W.findIn K (.ref CS) "fit_on"=some (some (.ref Xb))) (abN:PySem.W.isFn K (.ref Xb)=true) (abO:K.lookup Xb=some ⟨afd,afa, .func (PySem.W.fnOf "fit_on" "Settling.fit_on" (bC di) (bw di) (aa di) .none afe afg afh afb Yy afi),afc⟩) (abP:PySem.W.codeIn K Yy "Settling.fit_on"=true) (Xc:PySem.W.keepIn K (.ref Xb)=true)
 {Xd:Addr}{afj afk:Option Addr}{afl:Array (Option Value)}{afm afn afo afp Yz afq:Value}
 (abQ:PySem.W.findIn K (.ref CS) "was_reckoned"=some (some (.ref Xd))) (abR:PySem.W.isFn K (.ref Xd)=true) (abS:K.lookup Xd=some ⟨afm,afj, .func (PySem.W.fnOf "was_reckoned" "Settling.was_reckoned" (bC bu) (bw bu) (aa bu) .none afn afo afp afk Yz afq),afl⟩) (abT:PySem.W.codeIn K Yz "Settling.was_reckoned"=true) (Xe:PySem.W.keepIn K (.ref Xd)=true)
 {Xf:Addr}{afr afs:Option Addr}{aft:Array (Option Value)}{afu afv afw afx YB afy:Value}
 (abU:PySem.W.findIn K (.ref CS) "new_record"=some (some (.ref Xf))) (abV:PySem.W.isFn K (.ref Xf)=true) (abW:K.lookup Xf=some ⟨afu,afr, .func (PySem.W.fnOf "new_record" "Settling.new_record" (bC bQ) (bw bQ) (aa bQ) .none afv afw afx afs YB afy),aft⟩) (abX:PySem.W.codeIn K YB "Settling.new_record"=true) (Xg:PySem.W.keepIn K (.ref Xf)=true)
 (abY:PySem.W.plainGet K CS Str.empty=true) (abZ:PySem.W.hasDictIn K CS=true) (ab0:PySem.W.plainOver K CS=true) (ab1:PySem.W.findIn K (.ref CS) "__setattr__"=some (some (.builtin "object.__setattr__"))) (ab2:PySem.W.makesIn K CS=true) (ab3:PySem.W.keepIn K (.ref CS)=true)
 (zK:PySem.W.findIn K (.ref CS) "recipe"=some none)
 (xg:PySem.W.findIn K (.ref CS) "fitting"=some none)
 (Cw:PySem.W.findIn K (.ref CS) "place"=some none)
 (rK:PySem.W.findIn K (.ref CS) "reckoning"=some none)
 {CE:Addr} (ACE:PySem.W.nsIn K mainGlobals "Search"=some (some (.ref CE)))
 {Xh:Addr}{afz afA:Option Addr}{afB:Array (Option Value)}{afC afD afE afF YC afG:Value}
 (Xi:PySem.W.findIn K (.ref CE) "__init__"=some (some (.ref Xh))) (Xj:PySem.W.isFn K (.ref Xh)=true) (ab4:K.lookup Xh=some ⟨afC,afz, .func (PySem.W.fnOf "__init__" "Search.__init__" (bC cG) (bw cG) (aa cG) .none afD afE afF afA YC afG),afB⟩) (ab5:PySem.W.codeIn K YC "Search.__init__"=true) (Xk:PySem.W.keepIn K (.ref Xh)=true)
 {Xl:Addr}{afH afI:Option Addr}{afJ:Array (Option Value)}{afK afL afM afN YD afO:Value}
 (ab6:PySem.W.findIn K (.ref CE) "begin"=some (some (.ref Xl))) (ab7:PySem.W.isFn K (.ref Xl)=true) (ab8:K.lookup Xl=some ⟨afK,afH, .func (PySem.W.fnOf "begin" "Search.begin" (bC cD) (bw cD) (aa cD) .none afL afM afN afI YD afO),afJ⟩) (ab9:PySem.W.codeIn K YD "Search.begin"=true) (Xm:PySem.W.keepIn K (.ref Xl)=true)
 {Xn:Addr}{afP afQ:Option Addr}{afR:Array (Option Value)}{afS afT afU afV YF afW:Value}
 (acd:PySem.W.findIn K (.ref CE) "end"=some (some (.ref Xn))) (ace:PySem.W.isFn K (.ref Xn)=true) (acf:K.lookup Xn=some ⟨afS,afP, .func (PySem.W.fnOf "end" "Search.end" (bC dZ) (bw dZ) (aa dZ) .none afT afU afV afQ YF afW),afR⟩) (acg:PySem.W.codeIn K YF "Search.end"=true) (Xo:PySem.W.keepIn K (.ref Xn)=true)
 {Xp:Addr}{afX afY:Option Addr}{afZ:Array (Option Value)}{af0 af1 af2 af3 YG af4:Value}
 (ach:PySem.W.findIn K (.ref CE) "settle"=some (some (.ref Xp))) (aci:PySem.W.isFn K (.ref Xp)=true) (acj:K.lookup Xp=some ⟨af0,afX, .func (PySem.W.fnOf "settle" "Search.settle" (bC aW) (bw aW) (aa aW) .none af1 af2 af3 afY YG af4),afZ⟩) (ack:PySem.W.codeIn K YG "Search.settle"=true) (Xq:PySem.W.keepIn K (.ref Xp)=true)
 (acn:PySem.W.plainGet K CE Str.empty=true) (aco:PySem.W.hasDictIn K CE=true) (acp:PySem.W.plainOver K CE=true) (acq:PySem.W.findIn K (.ref CE) "__setattr__"=some (some (.builtin "object.__setattr__"))) (acr:PySem.W.makesIn K CE=true) (acs:PySem.W.keepIn K (.ref CE)=true)
 (Cy:PySem.W.findIn K (.ref CE) "given"=some none)
 (xj:PySem.W.findIn K (.ref CE) "recipes"=some none)
 (JK:PySem.W.findIn K (.ref CE) "old"=some none)
 (Cz:PySem.W.findIn K (.ref CE) "known"=some none)
 (xm:PySem.W.findIn K (.ref CE) "settled"=some none)
 (uR:PySem.W.findIn K (.ref CE) "reckoned"=some none)
 {CNo:Addr} (acu:PySem.W.nsIn K mainGlobals "NoName"=some (some (.ref CNo)))
 {Ub:Addr}{af5 af6:Option Addr}{af7:Array (Option Value)}{af8 af9 aga agb YH agc:Value}
 (acv:PySem.W.findIn K (.ref CNo) "__init__"=some (some (.ref Ub)))
 (Xr:PySem.W.isFn K (.ref Ub)=true)
 (acw:K.lookup Ub=some ⟨af8,af5, .func (PySem.W.fnOf "__init__" "NoName.__init__" (bC cH) (bw cH) (aa cH) .none af9 aga agb af6 YH agc),af7⟩)
 (acy:PySem.W.codeIn K YH "NoName.__init__"=true)
 (Xu:PySem.W.keepIn K (.ref Ub)=true)
 {agd ah6:Str}{acz:Addr}{age YJ:List Value}{agf:List Str}{acA:List Value}{agg:Bool}{acB:Option Bool}{agh:Option Addr}{agi agj agk agl agm:Option Value}
 (Uc:K.lookup CNo=some (excClassObj agd ah6 CNo acz age YJ true agf acA agg acB agh agi agj agk agl agm "ValueError.__new__"))
 (Ud:PySem.W.nsOkIn K acz=true)
 (Ue:PySem.W.nsIn K acz "__init__"=some (some (.ref Ub)))
 (Ug:PySem.W.tailIn K [.type "ValueError", .type "Exception", .type "BaseException", .type "object"] YJ=true)
 (Uh:PySem.W.findIn K (.ref CNo) "__setattr__"=some (some (.builtin "object.__setattr__")))
 (Ui:PySem.W.findIn K (.ref CNo) "name"=some none)
 {CRi:Addr} (acC:PySem.W.nsIn K mainGlobals "Ring"=some (some (.ref CRi)))
 {Uj:Addr}{agn ago:Option Addr}{agp:Array (Option Value)}{agq agr ags agt YK agu:Value}
 (acD:PySem.W.findIn K (.ref CRi) "__init__"=some (some (.ref Uj)))
 (Xv:PySem.W.isFn K (.ref Uj)=true)
 (acE:K.lookup Uj=some ⟨agq,agn, .func (PySem.W.fnOf "__init__" "Ring.__init__" (bC cR) (bw cR) (aa cR) .none agr ags agt ago YK agu),agp⟩)
 (acF:PySem.W.codeIn K YK "Ring.__init__"=true)
 (Xw:PySem.W.keepIn K (.ref Uj)=true)
 {agv ah7:Str}{acG:Addr}{agw YL:List Value}{agx:List Str}{acH:List Value}{agy:Bool}{acI:Option Bool}{agz:Option Addr}{agA agB agC agD agE:Option Value}
 (Uk:K.lookup CRi=some (excClassObj agv ah7 CRi acG agw YL true agx acH agy acI agz agA agB agC agD agE "ValueError.__new__"))
 (Ul:PySem.W.nsOkIn K acG=true)
 (Um:PySem.W.nsIn K acG "__init__"=some (some (.ref Uj)))
 (Uo:PySem.W.tailIn K [.type "ValueError", .type "Exception", .type "BaseException", .type "object"] YL=true)
 (Up:PySem.W.findIn K (.ref CRi) "__setattr__"=some (some (.builtin "object.__setattr__")))
 (Uq:PySem.W.findIn K (.ref CRi) "ring"=some none)
 {CM:Addr} (ACM:PySem.W.nsIn K mainGlobals "MadeError"=some (some (.ref CM)))
 (spM:PySem.W.specialIn K (.ref CM) "__getattribute__"=some (some (.builtin "type.__getattribute__")))
 (rdM:PySem.W.readsIn K CM (.type "type")=true)
 (fcM:PySem.W.findCls K (.ref CM) (.type "type") "__init__"=some (.val (.builtin "ValueError.__init__")))
 (eN:PySem.W.exmOne K (.ref CNo) (.ref CM)=some true)
 (eR:PySem.W.exmOne K (.ref CRi) (.ref CM)=some true)
 (Ur:PySem.W.nsIn K mainGlobals "len"=some none)
 (JL:PySem.W.nsIn K mainGlobals "range"=some none)
 (Us:PySem.W.nsIn K mainGlobals "str"=some none)
 (Ut:PySem.W.nsIn K mainGlobals "int"=some none)
 (Nt:PySem.W.nsIn K mainGlobals "list"=some none)
 (JM:PySem.W.nsIn K mainGlobals "tuple"=some none)
 (uT:PySem.W.nsIn K mainGlobals "isinstance"=some none)
 (Nu:PySem.W.nsIn K mainGlobals "bool"=some none)
 (Nv:PySem.W.nsIn K mainGlobals "dict"=some none)
 (Uu:PySem.W.nsIn K mainGlobals "sum"=some none)
 (Uv:PySem.W.nsIn K mainGlobals "all"=some none)
 (Uw:PySem.W.nsIn K mainGlobals "any"=some none)
 (Ux:PySem.W.nsIn K mainGlobals "max"=some none)
 (Uy:PySem.W.nsIn K mainGlobals "min"=some none)
 (Gs:PySem.W.nsIn K mainGlobals "sorted"=some none)
 (Uz:PySem.W.nsIn K mainGlobals "set"=some none)
 (xq:PySem.W.nsIn K mainGlobals "enumerate"=some none)
 (UG:PySem.W.nsIn K mainGlobals "zip"=some none)
 (zL:PySem.W.nsIn K mainGlobals "reversed"=some none)
 (UJ:PySem.W.nsIn K mainGlobals "abs"=some none)
 :∃fd:FuncData,(∀(s:Shared) (v:Value),BindsTo s fd ⟨[v],[]⟩ [("script",v)])/\∀base:Heap,K.In base->base.Ns mainGlobals mg->aX l.prog w K mg base CX0 19 fa fd ["script"] (Oj K):=by
 have e:=hfa.symm.trans (PySem.W.mg_of X G a17)
 cases e
 have nY:FnT K mg "joined" jO ["kind","r","s"] _ _:=jV X G a1 l1 c1 k1 (Nr (fun _ _ _=>rfl))
 have aZ:FnT K mg "is_whole_number" bN ["thing"] _ _:=jV X G a2 l2 c2 k2 (Ua (fun _=>rfl))
 have fU:FnT K mg "is_same" dU ["told","thing"] _ _:=jV X G a3 l3 c3 k3 (rJ (fun _ _=>rfl))
 have cZ:FnT K mg "searched" dB ["house","old","wishes"] _ _:=jV X G a4 l4 c4 k4 (Nr (fun _ _ _=>rfl))
 have gO:FnT K mg "fresh_build" cI ["house","wishes"] _ _:=jV X G a5 l5 c5 k5 (rJ (fun _ _=>rfl))
 have dO:FnT K mg "worth_of" gB ["house","name"] _ _:=jV X G a6 l6 c6 k6 (rJ (fun _ _=>rfl))
 have jU:FnT K mg "reads_of" fV ["house","name"] _ _:=jV X G a7 l7 c7 k7 (rJ (fun _ _=>rfl))
 have bK:FnT K mg "_law_cell" gC ["script","k"] _ _:=jV X G a8 l8 c8 k8 (rJ (fun _ _=>rfl))
 have jk:FnT K mg "_law_state" gP ["script","k"] _ _:=jV X G a9 l9 c9 k9 (rJ (fun _ _=>rfl))
 have aC:FnT K mg "_law_take" dh ["state","many"] _ _:=jV X G a10 l10 c10 k10 (rJ (fun _ _=>rfl))
 have dF:FnT K mg "_law_number" d7 ["state"] _ _:=jV X G a11 l11 c11 k11 (Ua (fun _=>rfl))
 have fK:FnT K mg "_law_leaf" fJ ["state","some"] _ _:=jV X G a12 l12 c12 k12 (rJ (fun _ _=>rfl))
 have aK:FnT K mg "_law_recipe" aH ["state","some","deep"] _ _:=jV X G a13 l13 c13 k13 (Nr (fun _ _ _=>rfl))
 have cg:FnT K mg "_law_names" gQ [] _ _:=jV X G a14 l14 c14 k14 (len0 rfl)
 have jl:FnT K mg "_law_house" aD ["script","first"] _ _:=jV X G a15 l15 c15 k15 (rJ (fun _ _=>rfl))
 have eX:FnT K mg "_law_worth_told" bL ["house","name"] _ _:=jV X G a16 l16 c16 k16 (rJ (fun _ _=>rfl))
 have T9:FnT K mg "law" cU ["script"] _ _:=jV X G a17 l17 c17 k17 (Ua (fun _=>rfl))
 have eG:fX K CK "__init__" "Reckoning.__init__" bZ ["self","r"] _ _:=⟨jD aa8 aa9 Wu,Binds.all (rJ (fun _ _=>rfl)),⟨Ws,Wt,Wu⟩⟩
 have dN:fX K CK "lacking" "Reckoning.lacking" bG ["self","known"] _ _:=⟨jD abd abe Ww,Binds.all (rJ (fun _ _=>rfl)),⟨aba,abb,Ww⟩⟩
 have eZ:fX K CK "go_on" "Reckoning.go_on" aJ ["self","step"] _ _:=⟨jD abh abi Wy,Binds.all (rJ (fun _ _=>rfl)),⟨abf,abg,Wy⟩⟩
 have ah8:Cls K CK:=⟨abj,abk,abl,abm⟩
 have wF:Mk K CK _:=⟨abn,Ws,Wt,abo⟩
 have wG:=PySem.W.mg_of X G ACK
 have aO:fX K CN "__init__" "NamedRecords.__init__" aU ["self","records"] _ _:=⟨jD abp abq WL,Binds.all (rJ (fun _ _=>rfl)),⟨WD,WK,WL⟩⟩
 have bO:fX K CN "records_for" "NamedRecords.records_for" aM ["self","name","r"] _ _:=⟨jD abu abv WN,Binds.all (Nr (fun _ _ _=>rfl)),⟨abr,abt,WN⟩⟩
 have cC:fX K CN "put_made" "NamedRecords.put_made" cB ["self","record"] _ _:=⟨jD aby abz WR,Binds.all (rJ (fun _ _=>rfl)),⟨abw,abx,WR⟩⟩
 have ah9:Cls K CN:=⟨abA,abB,abC,abD⟩
 have fG:Mk K CN _:=⟨abE,WD,WK,abF⟩
 have fH:=PySem.W.mg_of X G ACN
 have fL:fX K CS "__init__" "Settling.__init__" bH ["self","r","records"] _ _:=⟨jD abG abH WY,Binds.all (Nr (fun _ _ _=>rfl)),⟨WW,WX,WY⟩⟩
 have d9:fX K CS "lacking" "Settling.lacking" bf ["self","known"] _ _:=⟨jD abK abL Xa,Binds.all (rJ (fun _ _=>rfl)),⟨abI,abJ,Xa⟩⟩
 have fB:fX K CS "fit_on" "Settling.fit_on" di ["self","worth"] _ _:=⟨jD abO abP Xc,Binds.all (rJ (fun _ _=>rfl)),⟨abM,abN,Xc⟩⟩
 have aV:fX K CS "was_reckoned" "Settling.was_reckoned" bu ["self"] _ _:=⟨jD abS abT Xe,Binds.all (Ua (fun _=>rfl)),⟨abQ,abR,Xe⟩⟩
 have cW:fX K CS "new_record" "Settling.new_record" bQ ["self"] _ _:=⟨jD abW abX Xg,Binds.all (Ua (fun _=>rfl)),⟨abU,abV,Xg⟩⟩
 have aia:Cls K CS:=⟨abY,abZ,ab0,ab1⟩
 have zc:Mk K CS _:=⟨ab2,WW,WX,ab3⟩
 have zf:=PySem.W.mg_of X G ACS
 have gf:fX K CE "__init__" "Search.__init__" cG ["self","house","old"] _ _:=⟨jD ab4 ab5 Xk,Binds.all (Nr (fun _ _ _=>rfl)),⟨Xi,Xj,Xk⟩⟩
 have ig:fX K CE "begin" "Search.begin" cD ["self","name"] _ _:=⟨jD ab8 ab9 Xm,Binds.all (rJ (fun _ _=>rfl)),⟨ab6,ab7,Xm⟩⟩
 have jq:fX K CE "end" "Search.end" dZ ["self","name","settling"] _ _:=⟨jD acf acg Xo,Binds.all (Nr (fun _ _ _=>rfl)),⟨acd,ace,Xo⟩⟩
 have gA:fX K CE "settle" "Search.settle" aW ["self","name"] _ _:=⟨jD acj ack Xq,Binds.all (rJ (fun _ _=>rfl)),⟨ach,aci,Xq⟩⟩
 have aib:Cls K CE:=⟨acn,aco,acp,acq⟩
 have Gi:Mk K CE _:=⟨acr,Xi,Xj,acs⟩
 have Gj:=PySem.W.mg_of X G ACE
 have T:Blt mg:=⟨PySem.W.mg_none_of X G Ur,PySem.W.mg_none_of X G JL,PySem.W.mg_none_of X G Us,PySem.W.mg_none_of X G Ut,PySem.W.mg_none_of X G Nt,PySem.W.mg_none_of X G JM,PySem.W.mg_none_of X G uT,PySem.W.mg_none_of X G Nu,PySem.W.mg_none_of X G Nv,PySem.W.mg_none_of X G Uu,PySem.W.mg_none_of X G Uv,PySem.W.mg_none_of X G Uw,PySem.W.mg_none_of X G Ux,PySem.W.mg_none_of X G Uy,PySem.W.mg_none_of X G Gs,PySem.W.mg_none_of X G Uz,PySem.W.mg_none_of X G xq,PySem.W.mg_none_of X G UG,PySem.W.mg_none_of X G zL,PySem.W.mg_none_of X G UJ⟩
 refine⟨PySem.W.fnOf "law" "law" (bC cU) (bw cU) (aa cU) .none ad4 ad5 ad6 adW aa7 ad7,fun s v=> .of_eq rfl,fun base _ _=> ?_⟩
 have gh:fX K CNo "__init__" "NoName.__init__" cH ["self","name"] _ _:=⟨jD acw acy Xu,Binds.all (rJ (fun _ _=>rfl)),⟨acv,Xr,Xu⟩⟩
 have iH:fX K CRi "__init__" "Ring.__init__" cR ["self","ring"] _ _:=⟨jD acE acF Xw,Binds.all (rJ (fun _ _=>rfl)),⟨acD,Xv,Xw⟩⟩
 have xU:ExI K CNo _:=⟨⟨_,_,_,_,_,_,_,_,_,_,_,_,_,_,_,Uc,Ud,Ue,Ug⟩,Uh⟩
 have K9:ExI K CRi _:=⟨⟨_,_,_,_,_,_,_,_,_,_,_,_,_,_,_,Uk,Ul,Um,Uo⟩,Up⟩
 have cuM:ExU K CM:=⟨spM,rdM,fcM⟩
 have mM:=PySem.W.mg_of X G ACM
 have mNo:=PySem.W.mg_of X G acu
 have mRi:=PySem.W.mg_of X G acC
 have NI:=zb (P:=l.prog) (w:=w) (base:=base) (mg:=mg) gh xU cuM mM Ui
 have RI:=Ce (P:=l.prog) (w:=w) (base:=base) (mg:=mg) iH K9 cuM mM Uq T
 have rkc:RkC K CK:=⟨ah8,Gr,Cu,Cv⟩
 have nrc:NrC K CN:=⟨ah9,w6⟩
 have sec:SeC K CS:=⟨aia,zK,xg,Cw,rK⟩
 have src:SrC K CE:=⟨aib,Cy,xj,JK,Cz,xm,uR⟩
 have D1:=QX (P:=l.prog) (w:=w) (base:=base) nY T
 have D2:=vf (P:=l.prog) (w:=w) (base:=base) (mg:=mg) eG rkc
 have D3:=yQ (P:=l.prog) (w:=w) (base:=base) eZ nY D1 T rkc
 have D4:=v9 (P:=l.prog) (w:=w) (base:=base) dN eZ D3 T rkc
 have D5:=yS (P:=l.prog) (w:=w) (base:=base) aZ T kd
 have D6:=Gg (P:=l.prog) (w:=w) (base:=base) fU aZ D5 T kd 10
 have D7:=qN (P:=l.prog) (w:=w) (base:=base) (mg:=mg) aO nrc
 have D8:=qP (P:=l.prog) (w:=w) (base:=base) (mg:=mg) cC
 have D9:=pB (P:=l.prog) (w:=w) (base:=base) bO fU D6 T nrc
 have C1:=wC (P:=l.prog) (w:=w) (base:=base) fL eG D2 wF wG sec
 have C2:=qR (P:=l.prog) (w:=w) (base:=base) aV T sec
 have C3:=yW (P:=l.prog) (w:=w) (base:=base) (mg:=mg) fB sec
 have C4:=xW (P:=l.prog) (w:=w) (base:=base) d9 fB C3 dN D4 T sec rkc
 have C5:=uD (P:=l.prog) (w:=w) (base:=base) cW aV C2 T sec rkc
 have C6:=yZ (P:=l.prog) (w:=w) (base:=base) (mg:=mg) gf src
 have C7:=Di (P:=l.prog) (w:=w) (base:=base) (CRi:=CRi) ig bO D9 fL C1 zc zf gh NI xU Xr mNo T src nrc
 have C8:=GJ (P:=l.prog) (w:=w) (base:=base) jq cW C5 aV C2 cC D8 T src sec nrc
 have C9:=Cg (P:=l.prog) (w:=w) (base:=base) gA ig C7 d9 C4 jq C8 iH RI K9 Xv mRi T src sec
 have CC:=La (P:=l.prog) (w:=w) (base:=base) cZ gf C6 gA C9 Gi Gj T src
 have DF:=Gk (P:=l.prog) (w:=w) (base:=base) gO cZ CC aO D7 fG fH T src
 have DW:=Lf (P:=l.prog) (w:=w) (base:=base) dO cZ CC aO D7 fG fH T src
 have DR:=Lg (P:=l.prog) (w:=w) (base:=base) jU cZ CC aO D7 fG fH T src
 have F1:=Li (P:=l.prog) (w:=w) (base:=base) bK T
 have F2:=Ju (P:=l.prog) (w:=w) (base:=base) jk bK F1 T
 have F3:=Lj (P:=l.prog) (w:=w) (base:=base) aC T
 have F4:=GK (P:=l.prog) (w:=w) (base:=base) dF aC F3 T
 have F5:=Ln (P:=l.prog) (w:=w) (base:=base) fK aC F3 dF F4 T
 have F6:=Gm (P:=l.prog) (w:=w) (base:=base) aK aC F3 fK F5 T
 have F7:=Jw (P:=l.prog) (w:=w) (base:=base) cg T
 have F8:=Jx (P:=l.prog) (w:=w) (base:=base) jl bK F1 jk F2 aC F3 dF F4 aK F6 cg F7 T
 have F9:=Aw (P:=l.prog) (w:=w) (base:=base) eX eN eR dO DW mM T
 exact aa4 T9 jl F8 bK F1 cg F7 eX F9 gO DF dO DW jU DR T
theorem walk {l:PySem.W.OpenLaw}{q:Program}{loose:List Str}{XP:(Str->Option Value)->Heap->Prop}{YP:World->Heap->Prop}{d:DefRec}{K:Params->PySem.W.Frag} (hn:l.most=some 63) (hdf:d.params.defaults=[])
 (hY:∀(w:World) (h:Heap),YP w h->(K w.params).In h)
 (F:∀(w:World) (mg:Str->Option Value) (fa:Addr) (h:Heap),(K w.params).In h->h.Ns mainGlobals mg->mg d.name=some (.ref fa)->
   ∃fd:FuncData,(∀(s:Shared) (u:Value),BindsTo s fd ⟨[u],[]⟩ [("script",u)])/\∀base:Heap,(K w.params).In base->base.Ns mainGlobals mg->aX l.prog w (K w.params) mg base CX0 19 fa fd ["script"] (Oj (K w.params))):
 PySem.W.WalkO q loose XP YP l.row.toRowW d [] (fun f vs=>PySem.call f vs):=
 L2.Oe (n:=63) (k:=19) (x:="script") (CX:=fun _=>CX0) (sp:=fun w=>Oj (K w.params)) hn (by decide) hdf ⟨rfl,by decide,by decide⟩ hY F (fun _ _ a ns hl _ hS=>⟨a,ns,rfl,hS,hl,fun _=>rfl⟩) fun _ _ _ _ _ z=>z
end K17
open PySem PySem.W PyProof.Rows
namespace PySem.W.Fast
def tw8370781720358314996:Nat:=0
def tw112677027786221709:Nat:=0
def tw9882212635602888819:Nat:=0
def tw11026895774795030535:Nat:=0
def tw1126710889406488443:Nat:=0
def tw17258851410663192904:Nat:=0
def tw16146795537487275078:Nat:=0
def tw1899042135832242999:Nat:=0
def tw2375468906885125395:Nat:=0
def tw8711860773669966206:Nat:=0
def tw1423966341435517004:Nat:=0
def tw3426857574190988453:Nat:=0
def tw18103042791356362679:Nat:=0
def tw4083299942635392370:Nat:=0
def tw5419027297218460647:Nat:=0
def tw18077791647013560797:Nat:=0
def tw2258003498295240653:Nat:=0
def tw17837320975650104740:Nat:=0
def tw15365627444570029685:Nat:=0
def tw9593000628442899390:Nat:=0
def tw14502785035478496883:Nat:=0
def tw12942981291399789896:Nat:=0
def tw3095125109400461844:Nat:=0
def tw16261767681123552597:Nat:=0
def tw15251492178501579716:Nat:=0
def tw6888510655658537812:Nat:=0
def tw16123862659642099721:Nat:=0
def tw6555492398867073915:Nat:=0
def tw13440402709628773983:Nat:=0
def tw16118076828109169492:Nat:=0
def tw10348194117977957359:Nat:=0
def tw4606483076499600053:Nat:=0
def tw17868771951639989599:Nat:=0
def tw1007769187504520428:Nat:=0
def tw5668245301487831947:Nat:=0
def tw3388534027051501066:Nat:=0
def tw6893959179957723950:Nat:=0
def tw12608317389071374070:Nat:=0
def tw13585916438808735973:Nat:=0
def tw9129814233439739763:Nat:=0
def tw5022474587480933469:Nat:=0
def tw8325134010647237754:Nat:=0
def tw11379900659346339015:Nat:=0
def tw2620654163958581856:Nat:=0
def tw8559741513863907779:Nat:=0
def tw16927521936819157098:Nat:=0
def tw2263704198338775505:Nat:=0
def tw4726000156751826975:Nat:=0
def tw13501792210016001089:Nat:=0
def tw12489204923286020102:Nat:=0
def tw12401623250529126761:Nat:=0
def tw8497615127820744897:Nat:=0
def tw17323282345510228018:Nat:=0
def tw15681614752936674295:Nat:=0
def tw4310303352844730237:Nat:=0
def tw1938037666263232152:Nat:=0
def tw4127354093336796056:Nat:=0
def tw9335103310299777127:Nat:=0
def tw17512312599627274130:Nat:=0
def tw3548665586067228430:Nat:=0
def tw1261744691827446154:Nat:=0
def tw2337228364942104056:Nat:=0
def tw3540551196797976065:Nat:=0
def tw17425318773385505304:Nat:=0
def tw6216312482717778609:Nat:=0
def tw17638129872370831776:Nat:=0
def tw13804370301688872713:Nat:=0
def tw1913646366197696273:Nat:=0
def tw1156866199764239344:Nat:=0
def tw10033062521871130759:Nat:=0
def tw3237254109535862776:Nat:=0
def tw733168239860888102:Nat:=0
def tw18241207146369064045:Nat:=0
def tw6319609522360899147:Nat:=0
def tw5188358916879699242:Nat:=0
def tw241788999664742529:Nat:=0
def tw4593386643491039753:Nat:=0
def tw13309706894545088865:Nat:=0
def tw8778064211486819352:Nat:=0
def tw10990002115373894900:Nat:=0
def tw8922727104338752288:Nat:=0
def tw2265864230488231406:Nat:=0
def tw18396999342982907720:Nat:=0
def tw12331439894356876756:Nat:=0
def tw3742310874012657034:Nat:=0
def tw10475716580745866059:Nat:=0
def tw12452416373344714761:Nat:=0
def tw4957803840593410974:Nat:=0
def tw11908676687688828134:Nat:=0
def tw10458704609394158774:Nat:=0
def tw1474313092686441900:Nat:=0
def tw405648958572232532:Nat:=0
def tw5042183312311829255:Nat:=0
def tw714468653400046352:Nat:=0
def tw8532372305330587020:Nat:=0
def tw1713826566556027388:Nat:=0
def tw17272266126513086086:Nat:=0
def tw4343867794323504349:Nat:=0
def tw6188697300804700262:Nat:=0
def tw9096980310345742314:Nat:=0
def tw15544564693475014263:Nat:=0
def tw11843280672655684987:Nat:=0
def tw16965448219307892049:Nat:=0
def tw6235717749425069308:Nat:=0
def tw18428038763124348865:Nat:=0
def tw16757315116850367327:Nat:=0
def tw8103202511819025068:Nat:=0
def tw8509054324852267975:Nat:=0
def tw8135838640945438777:Nat:=0
def tw12086499068034331084:Nat:=0
def tw2029331791823938636:Nat:=0
def tw13813536398903350696:Nat:=0
def tw6267052570028351158:Nat:=0
def tw12523498954134438187:Nat:=0
def tw7827616583608042918:Nat:=0
def tw12040188146094559014:Nat:=0
def tw13411481698265499471:Nat:=0
def tw15839030078638585470:Nat:=0
def tw7690812778915998785:Nat:=0
def tw2445976413475270391:Nat:=0
def tw7722380859262223033:Nat:=0
def tw17168594429986196244:Nat:=0
def tw15611752796382667920:Nat:=0
def tw2168330408012216462:Nat:=0
def tw5631158224989776524:Nat:=0
def tw4829792544919157173:Nat:=0
def tw6004198787597970953:Nat:=0
def tw171356208277643456:Nat:=0
def tw10297192339761909129:Nat:=0
def tw10896274680646238155:Nat:=0
def tw8076947310442003653:Nat:=0
def tw11734466909380169208:Nat:=0
def tw6315002565144675288:Nat:=0
def tw562344685216047922:Nat:=0
def tw4369730547203181193:Nat:=0
def tw11512826966908468440:Nat:=0
def tw14550944747193021698:Nat:=0
def tw9981068559457276541:Nat:=0
def tw12429582866231590049:Nat:=0
def tw10667132892147460528:Nat:=0
def tw7118327355823398165:Nat:=0
def tw17070406200005062061:Nat:=0
def tw4783247726617284163:Nat:=0
def tw5726015157216734462:Nat:=0
def tw8269778722866611736:Nat:=0
def tw1898874879781125297:Nat:=0
def tw10741077859821834502:Nat:=0
def tw13321631790869833316:Nat:=0
def tw5410257911057430931:Nat:=0
def tw14695784023653218604:Nat:=0
def tw1922383090317826121:Nat:=0
def tw17132934227262515697:Nat:=0
def tw7167899614255672059:Nat:=0
def tw4718236675160263130:Nat:=0
def tw15355413545465116281:Nat:=0
def tw13115780791668298053:Nat:=0
def tw1412936476247666823:Nat:=0
def tw3058322924334406374:Nat:=0
def tw11256204873014584849:Nat:=0
def tw6542271755907530252:Nat:=0
def tw10126332099515197030:Nat:=0
def tw11497438336432316851:Nat:=0
def tw16554130172119907833:Nat:=0
def tw8843508100480707998:Nat:=0
def tw209173854363026085:Nat:=0
def tw9874634691556178556:Nat:=0
def tw3232224514740573068:Nat:=0
def tw49497513086528682:Nat:=0
def tw16224924854171806026:Nat:=0
def tw85579191535573031:Nat:=0
def tw9343970781339593163:Nat:=0
def tw6996304213590120706:Nat:=0
def tw9529499630674312522:Nat:=0
def tw8813231688560909631:Nat:=0
def tw6748608959230566539:Nat:=0
def tw9569804552970878375:Nat:=0
def tw2722132536677750374:Nat:=0
def tw9450241073760560463:Nat:=0
def tw10544986576912258211:Nat:=0
def tw7206438856638215187:Nat:=0
def tw6978876972222602488:Nat:=0
def tw714859759563502629:Nat:=0
def tw226086739766470257:Nat:=0
def tw2105647781579069096:Nat:=0
def tw17088712810456462165:Nat:=0
def tw13337671921708918448:Nat:=0
def tw2772933319244939978:Nat:=0
def tw18184012554745714407:Nat:=0
def tw1809782415903367158:Nat:=0
def tw6042597002771854937:Nat:=0
def tw6002846005370001814:Nat:=0
def tw16621332439673546197:Nat:=0
def tw13012212000705465027:Nat:=0
def tw14391584784727594328:Nat:=0
def tw15945181167700791179:Nat:=0
def tw17373207649598879506:Nat:=0
def tw11803930281401038795:Nat:=0
def tw17859107281302158714:Nat:=0
def tw646966090911498616:Nat:=0
def tw521872601173764471:Nat:=0
def tw10155776059574249196:Nat:=0
def tw8086651084793675609:Nat:=0
def tw17504915957337540345:Nat:=0
def tw12198561548921737702:Nat:=0
def tw8395373425602187519:Nat:=0
def tw6614028938088118550:Nat:=0
def tw14869479800514656107:Nat:=0
def tw7633683001267847846:Nat:=0
def tw10331913329863144001:Nat:=0
def tw13074511313357149088:Nat:=0
def tw3581282798265881022:Nat:=0
def tw7707836372798628835:Nat:=0
def tw4677898282618669189:Nat:=0
def tw533785120385944299:Nat:=0
def tw3917701078528372763:Nat:=0
def tw6751509712350394892:Nat:=0
def tw148138618165814394:Nat:=0
def tw15980938736030983783:Nat:=0
def tw422665538218094179:Nat:=0
def tw785549055143495309:Nat:=0
def tw8605822749758593559:Nat:=0
def tw3069865336296971520:Nat:=0
def tw2683162610106126585:Nat:=0
def tw319918673412464425:Nat:=0
def tw3726637764158741150:Nat:=0
def tw4427684744556470644:Nat:=0
def tw17230542649171917609:Nat:=0
def tw12124610092742258040:Nat:=0
def tw11965786702688151864:Nat:=0
def tw3226005866715434733:Nat:=0
def tw7112173660939162209:Nat:=0
def tw2306289254604373251:Nat:=0
def tw3408961068131088448:Nat:=0
def tw4570805055220058982:Nat:=0
def tw3065302140115400493:Nat:=0
def tw4117546368398337938:Nat:=0
def tw5233265104856050357:Nat:=0
def tw16579675370185294155:Nat:=0
def tw10399569879234489104:Nat:=0
def tw8547443773177236011:Nat:=0
def tw15953417650330550150:Nat:=0
def tw1622510426981656792:Nat:=0
def tw17313835452966304107:Nat:=0
def tw13515986137829959739:Nat:=0
def tw17529899649601863273:Nat:=0
def tw17120747222433371697:Nat:=0
def tw6221522438876404237:Nat:=0
def tw15661591652695873316:Nat:=0
def tw15290843907427083232:Nat:=0
def tw1008976492485381345:Nat:=0
def tw18187563238075238483:Nat:=0
def tw10480510464108977060:Nat:=0
def tw669060630055238552:Nat:=0
def tw7831695015683837694:Nat:=0
def tw15115751461505811449:Nat:=0
def tw9863029689606891043:Nat:=0
def tw796356335379897500:Nat:=0
def tw2970366469418529280:Nat:=0
def tw14105776349527954550:Nat:=0
def tw1592689803394705022:Nat:=0
def tw64978173587288300:Nat:=0
def tw16039080046609485372:Nat:=0
def tw8289322281215998838:Nat:=0
def tw15459561637510804570:Nat:=0
def tw15728629522922362072:Nat:=0
def tw16732526052523982384:Nat:=0
def tw15059604297950170574:Nat:=0
def tw971220304882047053:Nat:=0
def tw10231809285841760577:Nat:=0
def tw5021854374390891803:Nat:=0
def tw14666323826803542624:Nat:=0
def tw8777558480380992250:Nat:=0
def tw7618558190391176318:Nat:=0
def tw6821864920014319550:Nat:=0
def tw3214335040711976272:Nat:=0
def tw10979978418039762177:Nat:=0
def tw5514715459074741259:Nat:=0
def tw3456179256358702499:Nat:=0
def tw9193754543911242032:Nat:=0
def tw14288776578203209227:Nat:=0
def tw13864690071583061817:Nat:=0
def tw5119484082645771848:Nat:=0
def tw7268966910070147789:Nat:=0
def tw5999369899699625036:Nat:=0
def tw10530751409011892288:Nat:=0
def tw17183976710104224665:Nat:=0
def tw8526089245447636121:Nat:=0
def tw4499182606244118181:Nat:=0
def tw9689983701322188011:Nat:=0
def tw12823086394428193172:Nat:=0
def tw4726958992479384978:Nat:=0
def tw5816126570352185048:Nat:=0
def tw9032042761719644168:Nat:=0
def tw9714423771768525846:Nat:=0
def tw12159314504669235746:Nat:=0
def tw7375663955892201578:Nat:=0
def tw9252868415423869824:Nat:=0
def tw15414768431431074666:Nat:=0
def tw16360339480390642207:Nat:=0
def tw4476841412296923181:Nat:=0
def tw13763322337702621214:Nat:=0
def tw7001796031964454879:Nat:=0
def tw17992848149892900997:Nat:=0
def tw15286500189225370662:Nat:=0
def tw16566759063076839245:Nat:=0
def tw12769655577615876739:Nat:=0
def tw15963853993206663261:Nat:=0
def tw11085533036813726529:Nat:=0
def tw14653567704508715290:Nat:=0
def tw4547301796823615509:Nat:=0
def tw2789110607941397747:Nat:=0
def tw15675518462201643945:Nat:=0
def tw17404946058797469403:Nat:=0
def tw13877758081408899165:Nat:=0
def tw4990723702053782706:Nat:=0
def tw15636253740945257823:Nat:=0
def tw17015250847073800381:Nat:=0
def tw14095258920069097938:Nat:=0
def tw748901153314765708:Nat:=0
def tw18244181273425274512:Nat:=0
def tw650828436256298080:Nat:=0
def tw3359540608044135334:Nat:=0
def tw14937118260508554004:Nat:=0
def tw14967501206434421277:Nat:=0
def tw17839367898248964698:Nat:=0
def tw11217412443220760528:Nat:=0
def tw15262914054778193804:Nat:=0
def tw17719215953655392116:Nat:=0
def tw16571300909627205203:Nat:=0
def tw6789855647526582383:Nat:=0
def tw2135364833891077561:Nat:=0
def tw11762509974815044329:Nat:=0
def tw13971149613883205157:Nat:=0
def tw1046724001471614950:Nat:=0
def tw875589033186166403:Nat:=0
def tw14417343472527708287:Nat:=0
def tw14241723750080423455:Nat:=0
def tw17902469905076149385:Nat:=0
def tw5686640419177430566:Nat:=0
end PySem.W.Fast
set_option maxRecDepth 100000 in
set_option maxHeartbeats 0 in
theorem PySem.Challenge.cw_madeagain_k17_whole_records_are_true_holds : PySem.Challenge.rw_madeagain_k17_whole_records_are_true.Holds := by
 w_on;o_law;k_head;(case hw=>w_witness2)
 k_fill
 refine K17.walk (l:=PySem.Challenge.rw_madeagain_k17_whole_records_are_true) rfl rfl (fun w h Y=>PySem.W.kIn_of Y) ?F
 case F=>
  intro w mg fa h KX G hmg
  refine' K17.all_mk KX G hmg ?a1 ?l1 ?c1 ?k1 ?a2 ?l2 ?c2 ?k2 ?a3 ?l3 ?c3 ?k3 ?a4 ?l4 ?c4 ?k4 ?a5 ?l5 ?c5 ?k5 ?a6 ?l6 ?c6 ?k6 ?a7 ?l7 ?c7 ?k7 ?a8 ?l8 ?c8 ?k8 ?a9 ?l9 ?c9 ?k9 ?a10 ?l10 ?c10 ?k10 ?a11 ?l11 ?c11 ?k11 ?a12 ?l12 ?c12 ?k12 ?a13 ?l13 ?c13 ?k13 ?a14 ?l14 ?c14 ?k14 ?a15 ?l15 ?c15 ?k15 ?a16 ?l16 ?c16 ?k16 ?a17 ?l17 ?c17 ?k17 ?kd ?ACK ?Ws ?Wt ?aa8 ?aa9 ?Wu ?aba ?abb ?abd ?abe ?Ww ?abf ?abg ?abh ?abi ?Wy ?abj ?abk ?abl ?abm ?abn ?abo ?Gr ?Cu ?Cv ?ACN ?WD ?WK ?abp ?abq ?WL ?abr ?abt ?abu ?abv ?WN ?abw ?abx ?aby ?abz ?WR ?abA ?abB ?abC ?abD ?abE ?abF ?w6 ?ACS ?WW ?WX ?abG ?abH ?WY ?abI ?abJ ?abK ?abL ?Xa ?abM ?abN ?abO ?abP ?Xc ?abQ ?abR ?abS ?abT ?Xe ?abU ?abV ?abW ?abX ?Xg ?abY ?abZ ?ab0 ?ab1 ?ab2 ?ab3 ?zK ?xg ?Cw ?rK ?ACE ?Xi ?Xj ?ab4 ?ab5 ?Xk ?ab6 ?ab7 ?ab8 ?ab9 ?Xm ?acd ?ace ?acf ?acg ?Xo ?ach ?aci ?acj ?ack ?Xq ?acn ?aco ?acp ?acq ?acr ?acs ?Cy ?xj ?JK ?Cz ?xm ?uR ?acu ?acv ?Xr ?acw ?acy ?Xu ?Uc ?Ud ?Ue ?Ug ?Uh ?Ui ?acC ?acD ?Xv ?acE ?acF ?Xw ?Uk ?Ul ?Um ?Uo ?Up ?Uq ?ACM ?spM ?rdM ?fcM ?eN ?eR ?Ur ?JL ?Us ?Ut ?Nt ?JM ?uT ?Nu ?Nv ?Uu ?Uv ?Uw ?Ux ?Uy ?Gs ?Uz ?xq ?UG ?zL ?UJ
  (case a1=>k_is);(case l1=>k_is);(case c1=>k_is);(case k1=>k_is)
  (case a2=>k_is);(case l2=>k_is);(case c2=>k_is);(case k2=>k_is)
  (case a3=>k_is);(case l3=>k_is);(case c3=>k_is);(case k3=>k_is)
  (case a4=>k_is);(case l4=>k_is);(case c4=>k_is);(case k4=>k_is)
  (case a5=>k_is);(case l5=>k_is);(case c5=>k_is);(case k5=>k_is)
  (case a6=>k_is);(case l6=>k_is);(case c6=>k_is);(case k6=>k_is)
  (case a7=>k_is);(case l7=>k_is);(case c7=>k_is);(case k7=>k_is)
  (case a8=>k_is);(case l8=>k_is);(case c8=>k_is);(case k8=>k_is)
  (case a9=>k_is);(case l9=>k_is);(case c9=>k_is);(case k9=>k_is)
  (case a10=>k_is);(case l10=>k_is);(case c10=>k_is);(case k10=>k_is)
  (case a11=>k_is);(case l11=>k_is);(case c11=>k_is);(case k11=>k_is)
  (case a12=>k_is);(case l12=>k_is);(case c12=>k_is);(case k12=>k_is)
  (case a13=>k_is);(case l13=>k_is);(case c13=>k_is);(case k13=>k_is)
  (case a14=>k_is);(case l14=>k_is);(case c14=>k_is);(case k14=>k_is)
  (case a15=>k_is);(case l15=>k_is);(case c15=>k_is);(case k15=>k_is)
  (case a16=>k_is);(case l16=>k_is);(case c16=>k_is);(case k16=>k_is)
  (case a17=>k_is);(case l17=>k_is);(case c17=>k_is);(case k17=>k_is)
  (case kd=>exact RB.RV (by kernel_rfl))
  (case ACK=>k_is);(case Ws=>k_is);(case Wt=>k_is);(case aa8=>k_is);(case aa9=>k_is);(case Wu=>k_is);(case aba=>k_is);(case abb=>k_is);(case abd=>k_is);(case abe=>k_is);(case Ww=>k_is);(case abf=>k_is);(case abg=>k_is);(case abh=>k_is);(case abi=>k_is);(case Wy=>k_is);(case abj=>k_is);(case abk=>k_is);(case abl=>k_is);(case abm=>k_is);(case abn=>k_is);(case abo=>k_is);(case Gr=>k_is);(case Cu=>k_is);(case Cv=>k_is);(case ACN=>k_is);(case WD=>k_is);(case WK=>k_is);(case abp=>k_is);(case abq=>k_is);(case WL=>k_is);(case abr=>k_is);(case abt=>k_is);(case abu=>k_is);(case abv=>k_is);(case WN=>k_is);(case abw=>k_is);(case abx=>k_is);(case aby=>k_is);(case abz=>k_is);(case WR=>k_is);(case abA=>k_is);(case abB=>k_is);(case abC=>k_is);(case abD=>k_is);(case abE=>k_is);(case abF=>k_is);(case w6=>k_is);(case ACS=>k_is);(case WW=>k_is);(case WX=>k_is);(case abG=>k_is);(case abH=>k_is);(case WY=>k_is);(case abI=>k_is);(case abJ=>k_is);(case abK=>k_is);(case abL=>k_is);(case Xa=>k_is);(case abM=>k_is);(case abN=>k_is);(case abO=>k_is);(case abP=>k_is);(case Xc=>k_is);(case abQ=>k_is);(case abR=>k_is);(case abS=>k_is);(case abT=>k_is);(case Xe=>k_is);(case abU=>k_is);(case abV=>k_is);(case abW=>k_is);(case abX=>k_is);(case Xg=>k_is);(case abY=>k_is);(case abZ=>k_is);(case ab0=>k_is);(case ab1=>k_is);(case ab2=>k_is);(case ab3=>k_is);(case zK=>k_is);(case xg=>k_is);(case Cw=>k_is);(case rK=>k_is);(case ACE=>k_is);(case Xi=>k_is);(case Xj=>k_is);(case ab4=>k_is);(case ab5=>k_is);(case Xk=>k_is);(case ab6=>k_is);(case ab7=>k_is);(case ab8=>k_is);(case ab9=>k_is);(case Xm=>k_is);(case acd=>k_is);(case ace=>k_is);(case acf=>k_is);(case acg=>k_is);(case Xo=>k_is);(case ach=>k_is);(case aci=>k_is);(case acj=>k_is);(case ack=>k_is);(case Xq=>k_is);(case acn=>k_is);(case aco=>k_is);(case acp=>k_is);(case acq=>k_is);(case acr=>k_is);(case acs=>k_is);(case Cy=>k_is);(case xj=>k_is);(case JK=>k_is);(case Cz=>k_is);(case xm=>k_is);(case uR=>k_is)
  (case acu=>k_is)
  (case acv=>k_is)
  (case Xr=>k_is)
  (case acw=>k_is)
  (case acy=>k_is)
  (case Xu=>k_is)
  (case Uc=>k_is)
  (case Ud=>kernel_rfl)
  (case Ue=>kernel_rfl)
  (case Ug=>kernel_rfl)
  (case Uh=>kernel_rfl)
  (case Ui=>kernel_rfl)
  (case acC=>k_is)
  (case acD=>k_is)
  (case Xv=>k_is)
  (case acE=>k_is)
  (case acF=>k_is)
  (case Xw=>k_is)
  (case Uk=>k_is)
  (case Ul=>kernel_rfl)
  (case Um=>kernel_rfl)
  (case Uo=>kernel_rfl)
  (case Up=>kernel_rfl)
  (case Uq=>kernel_rfl)
  (case ACM=>k_is)
  (case spM=>kernel_rfl)
  (case rdM=>kernel_rfl)
  (case fcM=>kernel_rfl)
  (case eN=>kernel_rfl)
  (case eR=>kernel_rfl)
  (case Ur=>k_is);(case JL=>k_is);(case Us=>k_is);(case Ut=>k_is);(case Nt=>k_is);(case JM=>k_is);(case uT=>k_is);(case Nu=>k_is);(case Nv=>k_is);(case Uu=>k_is);(case Uv=>k_is);(case Uw=>k_is);(case Ux=>k_is);(case Uy=>k_is);(case Gs=>k_is);(case Uz=>k_is);(case xq=>k_is);(case UG=>k_is);(case zL=>k_is);(case UJ=>k_is)
