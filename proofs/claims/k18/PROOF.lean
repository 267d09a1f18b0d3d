import PyProof.Rows.All
import Wide.All
import OpenK.AllK
import Wide.FinOn
import Lean
import PyProof.EqAt
import PyProof.EqKinds
import PyProof.TupleCall
import KE.KTops
import KE.KIntText
import KE.KTryMore
import PyProof.ExcBaseAll.ValueError
import PyProof.ZipIter
import KE.KTurns
import PyProof.Rows.SetFrom
import KE.KxText
import PyProof.Rows.SumGenD
import KE.KDictList
import PyProof.DictWalks
import KE.KEqDict
import KE.KDictOf
import PyProof.Rows.SortStr
import PyProof.Rows.SortWalk
import PyProof.WalksEnum
import PyProof.Rows.SumAny
import KE.KItemsList
import KE.KRevIter
import PyProof.ExcInit
import PyProof.InstStoreFacts
import OpenK.KCls
import KE.IntBitsLaws
import PyProof.Rows.SortRunsK
import PyProof.CollectWalk
import PyProof.DictItems
import Wide.Seal
import PyProof.P3Eq
import PySem.Challenge.RW_madeagain_k18_whole_wishes_turned_about
set_option Elab.async false
set_option linter.all false
set_option maxRecDepth 100000
noncomputable section
namespace L2
open PySem PySem.Spec PyProof.Rows
abbrev Key:=Sum Int Str
def Dg:Key->Value->Bool
 | .inl k,v=>Value.isInt k v
 | .inr x,v=>Value.isStrOf x v
def agU (w:World):Key->Int
 | .inl k=>hashInt k
 | .inr x=>hashStr w x
theorem gJ:∀{k:Key}{v:Value},Dg k v=true->(∃i t,k=Sum.inl i/\v=Value.int i t)\/(∃x t,k=Sum.inr x/\v=Value.str x t)
 | .inl i,v,h=>by
   obtain⟨t,e⟩:=Value.isInt_shape (k:=i) (v:=v) h
   exact .inl ⟨i,t,rfl,e⟩
 | .inr x,v,h=>by
   obtain⟨t,e⟩:=Value.isStrOf_shape (x:=x) (v:=v) h
   exact .inr ⟨x,t,rfl,e⟩
theorem O3 (i:Int) (t:Tok):Dg (.inl i) (.int i t)=true:=by simp[Dg,Value.isInt]
theorem O4 (x:Str) (t:Tok):Dg (.inr x) (.str x t)=true:=by simp[Dg,Value.isStrOf]
theorem Y6 (a b:Int):decide ((Sum.inl a:Key)=Sum.inl b)=(a==b):=by
 by_cases e:a=b
 ·subst e;simp
 ·have h:¬(Sum.inl a:Key)=Sum.inl b:=fun q=>e (Sum.inl.inj q)
  rw[decide_eq_false h]
  exact(beq_eq_false_iff_ne.mpr e).symm
theorem Y7 (a b:Str):decide ((Sum.inr a:Key)=Sum.inr b)=decide (a=b):=by
 by_cases e:a=b
 ·subst e;simp
 ·have h:¬(Sum.inr a:Key)=Sum.inr b:=fun q=>e (Sum.inr.inj q)
  rw[decide_eq_false h,decide_eq_false e]
theorem Y8 (a:Int) (b:Str):decide ((Sum.inl a:Key)=Sum.inr b)=false:=decide_eq_false (fun q=>nomatch q)
theorem Y9 (a:Str) (b:Int):decide ((Sum.inr a:Key)=Sum.inl b)=false:=decide_eq_false (fun q=>nomatch q)
def eV (prog:Program) (w:World):PySem.KeyKind prog w Key where
 is:=Dg
 hash:=agU w
 inj:=fun v a b ha hb=>by
  rcases gJ ha with⟨i,t,rfl,rfl⟩ | ⟨x,t,rfl,rfl⟩
  ·rcases gJ hb with⟨j,u,rfl,e⟩ | ⟨y,u,rfl,e⟩
   ·injection e with e1 _;rw[e1]
   ·exact nomatch e
  ·rcases gJ hb with⟨j,u,rfl,e⟩ | ⟨y,u,rfl,e⟩
   ·exact nomatch e
   ·injection e with e1 _;rw[e1]
 byValue:=fun k v h=>by
  rcases gJ h with⟨i,t,rfl,rfl⟩ | ⟨x,t,rfl,rfl⟩<;>rfl
 pyHash:=fun hv h=>by
  rcases gJ hv with⟨i,t,rfl,rfl⟩ | ⟨x,t,rfl,rfl⟩
  ·exact wpAny_pyHash_int h
  ·exact wpAny_pyHash_str h
 eqBool:=fun hu hv h=>by
  rcases gJ hu with⟨i,t,rfl,rfl⟩ | ⟨x,t,rfl,rfl⟩
  ·rcases gJ hv with⟨j,u,rfl,rfl⟩ | ⟨y,u,rfl,rfl⟩
   ·rw[Y6] at h;exact wpAny_eqBool_int h
   ·rw[Y8] at h;exact SeqAt.EqAt.int_str i t y u _ _ _ _ h
  ·rcases gJ hv with⟨j,u,rfl,rfl⟩ | ⟨y,u,rfl,rfl⟩
   ·rw[Y9] at h;exact SeqAt.EqAt.str_int x t j u _ _ _ _ h
   ·rw[Y7] at h;exact wpAny_eqBool_str h
 «strs»:=fun k x t v h=>by
  rcases gJ h with⟨i,u,rfl,e⟩ | ⟨y,u,rfl,e⟩
  ·exact nomatch e
  ·injection e with e1 _
   subst e1
   cases v<;>rfl
theorem Jl (prog:Program) (w:World) (i:Int) (t:Tok):(eV prog w).is (.inl i) (.int i t)=true:=O3 i t
theorem Jm (prog:Program) (w:World) (x:Str) (t:Tok):(eV prog w).is (.inr x) (.str x t)=true:=O4 x t
inductive V where
 | non | bl (b:Bool) | int (i:Int) | str (x:Str) | byt (b:Array UInt8) | flt (b:UInt64) | ref (a:Addr) | ty (n:String)
 deriving DecidableEq
def RelV:V->Value->Prop
 | .non,u=>u=Value.none
 | .bl b,u=>u=Value.bool b
 | .int i,u=>∃t,u=Value.int i t
 | .str x,u=>∃t,u=Value.str x t
 | .byt b,u=>∃t,u=Value.bytes b t
 | .flt b,u=>∃t,u=Value.float b t
 | .ref a,u=>u=Value.ref a
 | .ty n,u=>u=Value.type n
abbrev Vals:List V->List Value->Prop:=Paired RelV
theorem Vals.length {xs:List V}{us:List Value} (r:Vals xs us):xs.length=us.length:=Paired.length r
theorem Vals.get:∀{xs:List V}{us:List Value}{i:Nat}{x:V},Vals xs us->xs[i]? =some x->∃u,us[i]? =some u/\RelV x u
 | _,_,_,_, .nil,e=>by simp at e
 | _,_,0,_, .cons r _,e=>by simp at e;subst e;exact⟨_,rfl,r⟩
 | _,_,i+1,x, .cons _ t,e=>by
   obtain⟨u,h1,h2⟩:=Vals.get (i:=i) (x:=x) t (by simpa using e)
   exact⟨u,by simpa using h1,h2⟩
theorem Vals.append:∀{xs ys:List V}{us ws:List Value},Vals xs us->Vals ys ws->Vals (xs++ys) (us++ws)
 | _,_,_,_, .nil,s=>s
 | _,_,_,_, .cons r t,s=> .cons r (Vals.append t s)
theorem Vals.take:∀{xs:List V}{us:List Value} (n:Nat),Vals xs us->Vals (xs.take n) (us.take n)
 | _,_,0,_=> .nil
 | _,_,_+1, .nil=> .nil
 | _,_,n+1, .cons r t=> .cons r (Vals.take n t)
theorem Vals.drop:∀{xs:List V}{us:List Value} (n:Nat),Vals xs us->Vals (xs.drop n) (us.drop n)
 | _,_,0,r=>r
 | _,_,_+1, .nil=> .nil
 | _,_,n+1, .cons _ t=>Vals.drop n t
def tD:Option V->Option Value->Prop
 | some v,some u=>RelV v u
 | none,none=>True
 | _,_=>False
def KV {κ:Type}:List (κ×V)->List (κ×Value)->Prop:=Paired fun(p:κ×V) (q:κ×Value)=>p.1=q.1/\RelV p.2 q.2
def kV:Key->V
 | .inl i=> .int i
 | .inr x=> .str x
inductive HO where
 | lst (xs:List V)
 | tup (xs:List V)
 | dK (kvs:List (Key×V)) | dT (kvs:List (List Key×V))
 | set (S:Int->Bool) (n:Nat)
 | ins (C dx:Addr) (fs:List (Str×V))
 | own (x:Addr)
 | xd (fs:List (Str×V))
 | met (f x:Addr)
 | rng (lo hi:Int)
 | frz (o:Obj) (u:HO)
 | tbl (ps:Array Value)
 | ext (φ:Heap->Prop)
abbrev Hp:=Addr->Option HO
def upd (H:Hp) (a:Addr) (o:HO):Hp:=fun b=>if b=a then some o else H b
theorem ak {H:Hp}{a:Addr}{o:HO}:upd H a o a=some o:=by unfold upd;rw[if_pos rfl]
theorem ao {H:Hp}{a b:Addr}{o:HO} (h:b≠a):upd H a o b=H b:=by unfold upd;rw[if_neg h]
theorem mY {H:Hp}{a:Addr}{o u:HO}:upd (upd H a o) a u=upd H a u:=by
 funext b;unfold upd;split<;>rfl
theorem acZ {H:Hp}{a b:Addr}{o u:HO} (h:H a=some o) (h':H b=some u) (d:o≠u):a≠b:=by
 intro e;subst e;rw[h] at h';exact d (Option.some.inj h')
theorem aF {H:Hp}{a b:Addr}{o:HO} (h:H a=some o) (h':H b=none):a≠b:=by
 intro e;subst e;rw[h] at h';cases h'
section
variable (P:Program) (w:World)
def dJ (H:Hp) (h:Heap) (a:Addr):HO->Prop
 | .lst xs=>xs.length<=sizeLine/\∃(its:List Value) (n:Nat),Vals xs its/\h.get? a=some {cls:= .type "list",data:= .seq its.toArray n}
 | .tup xs=>xs.length<=sizeLine/\∃its:List Value,Vals xs its/\IsTup h a its.toArray
 | .dK kvs=>kvs.length<=sizeLine/\(a==sysModules)=false/\∃vs,KV kvs vs/\h.DictOf (eV P w) a vs
 | .dT kvs=>kvs.length<=sizeLine/\(a==sysModules)=false/\∃xs:List (List Key×Addr×Value),
     Paired (fun(p:List Key×V) (q:List Key×Addr×Value)=>p.1=q.1/\H q.2.1=some (.tup (p.1.map kV))/\RelV p.2 q.2.2) kvs xs/\
     ∃o es ep,h.get? a=some o/\o.ExactDict/\o.data= .dict es ep/\es.toList=xs.map (entryOfKey (tupleKind (eV P w)))/\(xs.map (·.1)).Nodup
 | .set S n=>h.SetOf (intKind P w) a S n
 | .ins C dx fs=>H dx=some (.own a)/\fs.length<=1000/\dx≠a/\h.get? a=some (PySem.W.instObj C dx)/\
     ∃mA,h.Ns1 dx mA/\(∀f,tD (fs.lookup f) (mA f))/\PySem.Within mA (fs.map (·.1))
 | .own _=>∃o,h.get? a=some o
 | .xd fs=>∃mA,h.Ns1 a mA/\∀f,tD (fs.lookup f) (mA f)
 | .rng lo hi=>∃t u v,h.get? a=some {cls:= .type "range",data:= .fields #[.int lo t, .int hi u, .int 1 v]}
 | .frz o u=>h.get? a=some o/\dJ H h a u
 | .tbl ps=>h.get? a=some {cls:= .none,data:= .fields ps}
 | .met f x=>h.get? a=some (PySem.W.methodObj (.ref f) (.ref x))
 | .ext φ=>φ h/\(∃o,h.get? a=some o)/\∀h1 h2:Heap,φ h1->(∀o,h1.get? a=some o->h2.get? a=some o)->φ h2
def HOk (H:Hp) (h:Heap):Prop:=∀a o,H a=some o->dJ P w H h a o
end
section
variable {P:Program}{w:World}{H H':Hp}{h h':Heap}{a:Addr}{o:HO}
theorem dJ.lt (x:dJ P w H h a o):a<h.objs.size:=by
 cases o with
 | lst xs=>obtain⟨_,_,_,_,e⟩:=x;exact Heap.lt_size e
 | tup xs=>obtain⟨_,_,_,p⟩:=x;exact p.lt
 | dK kvs=>obtain⟨_,_,_,_,o,_,_,e,_⟩:=x;exact Heap.lt_size e
 | dT kvs=>obtain⟨_,_,_,_,o,_,_,e,_⟩:=x;exact Heap.lt_size e
 | set S n=>obtain⟨o,_,_,_,e,_⟩:=x;exact Heap.lt_size e
 | ins C dx fs=>obtain⟨_,_,_,e,_⟩:=x;exact Heap.lt_size e
 | own y=>obtain⟨_,e⟩:=x;exact Heap.lt_size e
 | xd fs=>obtain⟨_,⟨_,_,_,e,_⟩,_⟩:=x;exact Heap.lt_size e
 | rng lo hi=>obtain⟨_,_,_,e⟩:=x;exact Heap.lt_size e
 | frz ob u=>obtain⟨e,_⟩:=x;exact Heap.lt_size e
 | tbl ps=>exact Heap.lt_size (show h.get? a=some _ from x)
 | met f y=>exact Heap.lt_size (show h.get? a=some _ from x)
 | ext φ=>obtain⟨_,⟨_,e⟩,_⟩:=x;exact Heap.lt_size e
theorem Paired.Zh {α β:Type}{F G:α->β->Prop}:∀{l₁:List α}{l₂:List β},Paired F l₁ l₂->(∀a b,F a b->G a b)->Paired G l₁ l₂
 | _,_, .nil,_=> .nil
 | _,_, .cons r t,f=> .cons (f _ _ r) (Paired.Zh t f)
theorem dJ.stay (x:dJ P w H h a o) (k:∀b u,(b=a\/H b=some (.own a))->h.get? b=some u->h'.get? b=some u)
 (ho:∀b,H b=some (.own a)->H' b=some (.own a)) (ht:∀b xs,H b=some (.tup xs)->H' b=some (.tup xs)):dJ P w H' h' a o:=by
 induction o with
 | lst xs=>obtain⟨z,its,n,r,e⟩:=x;exact⟨z,its,n,r,k _ _ (.inl rfl) e⟩
 | tup xs=>obtain⟨z,its,r,ob,e,c⟩:=x;exact⟨z,its,r,ob,k _ _ (.inl rfl) e,c⟩
 | dK kvs=>obtain⟨z,y,vs,r,ob,es,ep,e,c⟩:=x;exact⟨z,y,vs,r,ob,es,ep,k _ _ (.inl rfl) e,c⟩
 | dT kvs=>
   obtain⟨z,y,xs,r,ob,es,ep,e,c⟩:=x
   exact⟨z,y,xs,Paired.Zh r fun p q z=>⟨z.1,ht _ _ z.2.1,z.2.2⟩,ob,es,ep,k _ _ (.inl rfl) e,c⟩
 | set S n=>obtain⟨ob,es,ep,t,e,c⟩:=x;exact⟨ob,es,ep,t,k _ _ (.inl rfl) e,c⟩
 | ins C dx fs=>
   obtain⟨d,z,ne,e,mA,⟨od,es,ep,e2,c⟩,r⟩:=x
   exact⟨ho _ d,z,ne,k _ _ (.inl rfl) e,mA,⟨od,es,ep,k _ _ (.inr d) e2,c⟩,r⟩
 | own y=>obtain⟨ob,e⟩:=x;exact⟨ob,k _ _ (.inl rfl) e⟩
 | xd fs=>obtain⟨mA,⟨od,es,ep,e,c⟩,r⟩:=x;exact⟨mA,⟨od,es,ep,k _ _ (.inl rfl) e,c⟩,r⟩
 | rng lo hi=>obtain⟨t,u,v,e⟩:=x;exact⟨t,u,v,k _ _ (.inl rfl) e⟩
 | frz ob u ih=>obtain⟨e,q⟩:=x;exact⟨k _ _ (.inl rfl) e,ih q⟩
 | tbl ps=>
   have e:h.get? a=some {cls:= .none,data:= .fields ps}:=x
   show h'.get? a=some {cls:= .none,data:= .fields ps}
   exact k a _ (.inl rfl) e
 | met f y=>
   have e:h.get? a=some (PySem.W.methodObj (.ref f) (.ref y)):=x
   show h'.get? a=some (PySem.W.methodObj (.ref f) (.ref y))
   exact k a _ (.inl rfl) e
 | ext φ=>obtain⟨p,⟨o,e⟩,st⟩:=x;exact⟨st _ _ p fun o q=>k _ _ (.inl rfl) q,⟨o,k _ _ (.inl rfl) e⟩,st⟩
theorem HOk.lt (x:HOk P w H h) (e:H a=some o):a<h.objs.size:=(x a o e).lt
theorem HOk.fresh (x:HOk P w H h) (e:h.objs.size<=a):H a=none:=by
 cases q:H a with
 | none=>rfl
 | some u=>exact absurd (Nat.lt_of_lt_of_le (x.lt q) e) (Nat.lt_irrefl _)
theorem HOk.kept (x:HOk P w H h) (k:∀b u,h.get? b=some u->h'.get? b=some u):HOk P w H h':=fun a o e=>
 (x a o e).stay (fun b u _ q=>k b u q) (fun _ q=>q) fun _ _ q=>q
theorem HOk.laid (x:HOk P w H h) (k:∀b u,h.get? b=some u->h'.get? b=some u) (hp:h.objs.size<=a) (new:dJ P w (upd H a o) h' a o):HOk P w (upd H a o) h':=fun b u e=>by
 have hn:=x.fresh hp
 by_cases hb:b=a
 ·subst hb;rw[ak] at e;cases e;exact new
 ·rw[ao hb] at e
  exact(x b u e).stay (fun c v _ q=>k c v q) (fun c q=>by rw[ao (aF q hn)];exact q) fun c xs q=>by rw[ao (aF q hn)];exact q
end
def Rd (H:Hp) (a:Addr) (u:HO):Prop:=H a=some u\/∃o,H a=some (.frz o u)
theorem Rd.ok {P:Program}{w:World}{H:Hp}{h:Heap}{a:Addr}{u:HO} (r:Rd H a u) (x:HOk P w H h):dJ P w H h a u:=by
 rcases r with r | ⟨o,r⟩
 ·exact x a u r
 ·obtain⟨_,q⟩:=x a _ r
  exact q
def Mut:Option HO->Prop
 | some (.lst _)=>True
 | some (.dK _)=>True
 | some (.dT _)=>True
 | some (.set _ _)=>True
 | some (.ins _ _ _)=>True
 | some (.ext _)=>True
 | _=>False
section
variable {P:Program}{w:World}{H:Hp}{h h':Heap}{x e:Addr}{o':HO}
theorem HOk.write (ok:HOk P w H h) (mu:Mut (H x)) (he:e=x\/H e=some (.own x)) (k:∀b u,b≠e->h.get? b=some u->h'.get? b=some u) (heo:∃u,h'.get? e=some u)
 (new:dJ P w (upd H x o') h' x o'):HOk P w (upd H x o') h':=fun b u q=>by
 have nown:∀c y,H c=some (.own y)->c≠x:=fun c y r z=>by subst z;rw[r] at mu;exact mu
 have ntup:∀c xs,H c=some (.tup xs)->c≠x:=fun c xs r z=>by subst z;rw[r] at mu;exact mu
 by_cases hb:b=x
 ·subst hb;rw[ak] at q;cases q;exact new
 ·rw[ao hb] at q
  by_cases hbe:b=e
  ·have q':H b=some (.own x):=by
    rcases he with z | z
    ·exact absurd (hbe.trans z) hb
    ·rw[hbe];exact z
   rw[q] at q';cases q'
   obtain⟨v,hv⟩:=heo
   exact⟨v,by rw[hbe];exact hv⟩
  ·refine(ok b u q).stay (fun c v hc r=>k c v ?_ r) (fun c r=>by rw[ao (nown c b r)];exact r) fun c xs r=>by rw[ao (ntup c xs r)];exact r
   rcases hc with rfl | hc
   ·exact hbe
   ·rintro rfl
    rcases he with z | z
    ·exact nown c b hc z
    ·rw[hc] at z;cases z;exact hb rfl
end
structure Un (fs ex:List Addr) (H H':Hp) (h h':Heap):Prop where
 keep:∀b o,h.get? b=some o->H b=none->b∉fs->b∉ex->h'.get? b=some o
 slot:∀b o,h.get? b=some o->H b=none->b∈fs->b∉ex->∃sl,h'.get? b=some {o with slots:=sl}
 free:∀b o,h.get? b=some o->H b=none->b∉ex->H' b=none
 there:∀b o,h.get? b=some o->b∉ex->∃o',h'.get? b=some o'
 tups:∀b xs,H b=some (.tup xs)->H' b=some (.tup xs)
 frzs:∀b o u,H b=some (.frz o u)->H' b=some (.frz o u)
 tbls:∀b ps,H b=some (.tbl ps)->∃more,H' b=some (.tbl (ps++more))
section
variable {fs fs' ex ex':List Addr}{H H1 H2:Hp}{h h1 h2 h':Heap}{a x e:Addr}{o:HO}
theorem Un.any (u:Un fs ex H H1 h h1) {b:Addr}{ob:Obj} (q:h.get? b=some ob) (n:H b=none) (hx:b∉ex):∃sl,h1.get? b=some {ob with slots:=sl}:=by
 by_cases hb:b∈fs
 ·exact u.slot b ob q n hb hx
 ·exact⟨ob.slots,u.keep b ob q n hb hx⟩
theorem Un.kept (k:∀b u,h.get? b=some u->h'.get? b=some u):Un fs ex H H h h':=
 ⟨fun b ob q _ _ _=>k b ob q,fun b ob q _ _ _=>⟨ob.slots,k b ob q⟩,fun _ _ _ n _=>n,fun b ob q _=>⟨ob,k b ob q⟩,fun _ _ q=>q,fun _ _ _ q=>q,fun _ ps q=>⟨#[],by rw[q];simp⟩⟩
theorem Un.refl:Un fs ex H H h h:=Un.kept fun _ _ q=>q
theorem Un.laid (k:∀b u,h.get? b=some u->h'.get? b=some u) (hp:h.objs.size<=a) (hn:H a=none):Un fs ex H (upd H a o) h h' where
 keep:=fun b u q _ _ _=>k b u q
 slot:=fun b u q _ _ _=>⟨u.slots,k b u q⟩
 free:=fun b u q n _=>by rw[ao (Nat.ne_of_lt (Nat.lt_of_lt_of_le (Heap.lt_size q) hp))];exact n
 there:=fun b u q _=>⟨u,k b u q⟩
 tups:=fun b xs q=>by rw[ao (aF q hn)];exact q
 frzs:=fun b u xs q=>by rw[ao (aF q hn)];exact q
 tbls:=fun b ps q=>⟨#[],by rw[ao (aF q hn),q];simp⟩
theorem Un.write (mu:Mut (H x)) (he:e=x\/H e=some (.own x)) (k:∀b u,b≠e->h.get? b=some u->h'.get? b=some u) (heo:∃u,h'.get? e=some u):Un fs ex H (upd H x o) h h':=by
 have hx:∀b,H b=none->b≠x:=fun b n z=>by subst z;rw[n] at mu;exact mu
 have hb:∀b,H b=none->b≠e:=fun b n z=>by
  subst z
  rcases he with r | r
  ·exact hx b n r
  ·rw[n] at r;cases r
 have hm:∀b u,H b=some u->¬Mut (some u)->b≠x:=fun b u q nm z=>by subst z;rw[q] at mu;exact nm mu
 refine⟨fun b u q n _ _=>k b u (hb b n) q,fun b u q n _ _=>⟨u.slots,k b u (hb b n) q⟩,fun b u q n _=>by rw[ao (hx b n)];exact n,fun b u q _=> ?_,
  fun b xs q=>by rw[ao (hm b _ q fun z=>z)];exact q,fun b u xs q=>by rw[ao (hm b _ q fun z=>z)];exact q,fun b ps q=>⟨#[],by rw[ao (hm b _ q fun z=>z),q];simp⟩⟩
 by_cases hbe:b=e
 ·subst hbe;exact heo
 ·exact⟨u,k b u hbe q⟩
end
def trk (h:Heap) (H:Hp):List Addr:=(List.range h.objs.size).filter fun a=>(H a).isSome
def Hh (h:Heap) (H:Hp):Heap:=PySem.W.hideAll h (trk h H)
theorem O5 (h:Heap) (H:Hp):(Hh h H).objs.size=h.objs.size:=PySem.W.hideAll_size _ _
theorem QM {h:Heap}{H:Hp}{b:Addr}{o:Obj} (e:h.get? b=some o) (n:H b=none):(Hh h H).get? b=some o:=
 PySem.W.hideAll_get _ e fun hm=>by
  have q:(H b).isSome=true:=(List.mem_filter.mp hm).2
  rw[n] at q;simp at q
theorem U4 {h:Heap}{H:Hp}{b:Addr}{o:Obj} (e:(Hh h H).get? b=some o):h.get? b=some o/\H b=none:=by
 have e':h.get? b=some o:=PySem.W.of_hideAll (trk h H) e
 refine⟨e', ?_⟩
 cases q:H b with
 | none=>rfl
 | some x=>
   have hm:b∈trk h H:=List.mem_filter.mpr ⟨List.mem_range.mpr (Heap.lt_size e'),by simp[q]⟩
   have z:(Hh h H).get? b=none:=PySem.W.hideAll_none (trk h H) hm
   rw[z] at e;cases e
structure Mod (K:PySem.W.Frag) (mg:Str->Option Value) (base:Heap):Prop where
 kin:K.In base
 glob:base.Ns mainGlobals mg
 blt:∃mb,base.Ns builtinsNs mb/\∀x:Str,x≠"__name__"->mb x=bootBuiltins x
 nolimit:base.NoLimit
structure Cx where
 prog:Program
 w:World
 K:PySem.W.Frag
 mg:Str->Option Value
 base:Heap
 A:Around
 N:List Str
 s₀:Shared
 H₀:Hp
 env:Env
 outer:List Env
 stack:List Env
 ex:List Addr
 fn:Str->Bool
 calm:Bool
 pn:List (Addr×Obj)
 xe:Value->Shared->Prop
def frs (l:List Env):List Addr:=l.filterMap (·.frame)
abbrev Cx.fs (X:Cx):List Addr:=frs X.outer
def Vis (sc:Scope) (x:Str):Prop:=sc.names.lookup x=some .local\/sc.names.lookup x=some .cell\/sc.names.lookup x=some .free
def Loc (sc:Scope) (x:Str):Prop:=sc.names.lookup x=some .local\/sc.names.lookup x=some .cell
def Look (env:Env) (h:Heap) (m:Str->Option Value) (x:Str) (u:Value):Prop:=
 (env.kindOf x=some .local/\m x=some u)\/((env.kindOf x=some .cell\/env.kindOf x=some .free)/\∃c,env.cells.lookup x=some c/\h.IsCell c (some u))
structure Cx.Ok (X:Cx):Prop where
 mod:Mod X.K X.mg X.base
 kind:X.env.scope.kind= .function
 glob:X.env.globals=mainGlobals
 blt:X.env.builtins=builtinsNs
 above:X.s₀.heap.objs.size<=X.env.locals
 inj:∀x y c,X.env.cells.lookup x=some c->X.env.cells.lookup y=some c->x=y
 has:∀x,(X.env.kindOf x=some .cell\/X.env.kindOf x=some .free)->∃c,X.env.cells.lookup x=some c
 cab:∀x c,X.fn x=true->X.env.cells.lookup x=some c->X.s₀.heap.objs.size<=c
 hd:X.calm=true->X.A.handled=none
 frames:X.A.frames=some X.stack
 stk:X.stack=X.outer\/(X.stack=X.env::X.outer/\X.env.frame=some X.env.locals)
 exf:∀b∈X.ex,b≠X.env.locals/\∀x c,X.env.cells.lookup x=some c->c≠b
 bs:∀b o,X.base.get? b=some o->X.s₀.heap.get? b=some o/\X.H₀ b=none
 bsz:X.base.objs.size<=X.s₀.heap.objs.size
 noex:∀b o,X.base.get? b=some o->b∉X.ex
 exfs:∀b∈X.ex,b∉X.fs
 funs:X.s₀.heap.FunFrames X.base X.outer
 frf:∀b∈X.fs,X.H₀ b=none
structure Inv (X:Cx) (pins:List (Addr×Obj)) (σ:List (Option V)) (H:Hp) (s:Shared):Prop where
 ok:X.Ok
 os:s.os=X.s₀.os
 bare:AllBare s.gens
 base:Un X.fs X.ex X.H₀ H X.s₀.heap s.heap
 loc:∃m,s.heap.Ns X.env.locals m/\∀(i:Nat) (x:Str) (v:V),X.N[i]? =some x->σ[i]? =some (some v)->Vis X.env.scope x->∃u,RelV v u/\Look X.env s.heap m x u
 cell:∀x c,X.env.cells.lookup x=some c->∃v,s.heap.IsCell c v
 free:H X.env.locals=none
 pF:∀x c,X.env.cells.lookup x=some c->H c=none
 pin:∀p∈X.pn++pins,s.heap.get? p.1=some p.2/\H p.1=none/\p.1≠X.env.locals/\p.1∉X.fs/\∀v,p.2.data≠ .cell v
 hok:HOk X.prog X.w H s.heap
 len:σ.length=X.N.length
section
variable {X:Cx}{pins:List (Addr×Obj)}{σ:List (Option V)}{H H':Hp}{s:Shared}{h':Heap}
theorem Cx.Ok.nofr (ok:X.Ok) {b:Addr}{o:Obj} (e:X.base.get? b=some o):b∉X.fs:=fun hb=>by
 have:=(ok.funs.mem hb).1
 rw[e] at this;cases this
theorem Inv.bs (I:Inv X pins σ H s):∀b o,X.base.get? b=some o->s.heap.get? b=some o/\H b=none:=fun b o e=>
 ⟨I.base.keep b o (I.ok.bs b o e).1 (I.ok.bs b o e).2 (I.ok.nofr e) (I.ok.noex b o e),I.base.free b o (I.ok.bs b o e).1 (I.ok.bs b o e).2 (I.ok.noex b o e)⟩
theorem Inv.bk (I:Inv X pins σ H s):∀b o,X.base.get? b=some o->s.heap.get? b=some o:=fun b o e=>(I.bs b o e).1
theorem Inv.mod (I:Inv X pins σ H s):Mod X.K X.mg X.base:=I.ok.mod
theorem Inv.kIn (I:Inv X pins σ H s):X.K.In s.heap:=I.ok.mod.kin.keeps I.bk
theorem Inv.lt (I:Inv X pins σ H s):X.env.locals<s.heap.objs.size:=let ⟨_,hn,_⟩:=I.loc;hn.lt
theorem Inv.sz (I:Inv X pins σ H s):X.s₀.heap.objs.size<=s.heap.objs.size:=Nat.le_trans I.ok.above (Nat.le_of_lt I.lt)
theorem Inv.nofs (I:Inv X pins σ H s) {a:Addr} (h:s.heap.objs.size<=a):a∉X.fs:=fun hb=>by
 obtain⟨_,o,ho,_⟩:=I.ok.funs.mem hb
 exact absurd (Nat.lt_of_lt_of_le (Heap.lt_size ho) (Nat.le_trans I.sz h)) (Nat.lt_irrefl _)
theorem Inv.cne (I:Inv X pins σ H s):∀x c,X.env.cells.lookup x=some c->c≠X.env.locals:=fun x c e z=>by
 obtain⟨v,o,ho,hd⟩:=I.cell x c e
 obtain⟨m,⟨o',es,ep,ho',hd',_⟩,_⟩:=I.loc
 rw[z,ho'] at ho;cases ho;rw[hd'] at hd;cases hd
theorem Inv.funs (I:Inv X pins σ H s):s.heap.FunFrames X.base X.outer:=by
 have all:∀(l:List Env),(∀b∈frs l,b∈X.fs)->X.s₀.heap.FunFrames X.base l->s.heap.FunFrames X.base l:=by
  intro l
  induction l with
  | nil=>intro _ _;trivial
  | cons env r ih=>
    intro hs hl
    obtain⟨hk,⟨L,o,hf,hn,ho,hd⟩,hr⟩:=hl
    have hL:L∈X.fs:=hs L (by unfold frs;rw[List.filterMap_cons,hf];exact List.mem_cons_self)
    obtain⟨sl,e⟩:=I.base.slot L o ho (I.ok.frf L hL) hL fun z=>I.ok.exfs L z hL
    exact⟨hk,⟨L,_,hf,hn,e,hd⟩,ih (fun b hb=>hs b (by unfold frs;rw[List.filterMap_cons,hf];exact List.mem_cons_of_mem _ hb)) hr⟩
 exact all X.outer (fun _ hb=>hb) I.ok.funs
theorem Inv.stack (I:Inv X pins σ H s):s.heap.FunFrames X.base X.stack:=by
 rcases I.ok.stk with e | ⟨e,hf⟩
 ·rw[e];exact I.funs
 ·rw[e]
  obtain⟨m,hn,_⟩:=I.loc
  refine .cons (by rw[I.ok.kind];decide) hf hn ?_ I.funs
  exact Heap.get?_none_of_le (Nat.le_trans I.ok.bsz I.ok.above)
theorem Inv.Hi (I:Inv X pins σ H s):∀b∈frs X.stack,b∈X.env.locals::X.fs:=fun b hb=>by
 rcases I.ok.stk with e | ⟨e,hf⟩
 ·rw[e] at hb;exact List.mem_cons_of_mem _ hb
 ·rw[e] at hb
  unfold frs at hb
  rw[List.filterMap_cons,hf] at hb
  exact hb
theorem Inv.Hj (I:Inv X pins σ H s):∀b∈frs X.stack,H b=none:=fun b hb=>by
 rcases List.mem_cons.mp (I.Hi b hb) with e | hb
 ·rw[e];exact I.free
 ·obtain⟨_,o,ho,_⟩:=I.ok.funs.mem hb
  exact I.base.free b o ho (I.ok.frf b hb) fun z=>I.ok.exfs b z hb
theorem Inv.step {g':Array GenState}{t':Nat}{d':Drawn}{ch:List Addr} (I:Inv X pins σ H s)
 (hch:∀b∈ch,(b∈X.ex\/X.s₀.heap.objs.size<=b)/\b≠X.env.locals/\(∀x c,X.env.cells.lookup x=some c->c≠b)/\∀p∈X.pn++pins,p.1≠b)
 (keep:∀b o,b≠X.env.locals->b∉X.fs->b∉ch->s.heap.get? b=some o->H b=none->h'.get? b=some o)
 (slot:∀b o,b≠X.env.locals->b∈X.fs->b∉ch->s.heap.get? b=some o->H b=none->∃sl,h'.get? b=some {o with slots:=sl}) (free:∀b o,b∉ch->s.heap.get? b=some o->H b=none->H' b=none)
 (there:∀b o,b∉ch->s.heap.get? b=some o->∃o',h'.get? b=some o')
 (tups:∀b xs,H b=some (.tup xs)->H' b=some (.tup xs)) (frzs:∀b o u,H b=some (.frz o u)->H' b=some (.frz o u)) (tbls:∀b ps,H b=some (.tbl ps)->∃more,H' b=some (.tbl (ps++more)))
 (ns:∀m,s.heap.Ns X.env.locals m->h'.Ns X.env.locals m) (hok:HOk X.prog X.w H' h') (hg:AllBare g'):
 Inv X pins σ H' {s with heap:=h',gens:=g',drawn:=d',toks:=t'}:=by
 have neL:∀b o,X.s₀.heap.get? b=some o->b≠X.env.locals:=fun b o e=>Nat.ne_of_lt (Nat.lt_of_lt_of_le (Heap.lt_size e) I.ok.above)
 have neC:∀b o,X.s₀.heap.get? b=some o->b∉X.ex->b∉ch:=fun b o e hx hb=>by
  rcases(hch b hb).1 with z | z
  ·exact hx z
  ·exact absurd (Nat.lt_of_lt_of_le (Heap.lt_size e) z) (Nat.lt_irrefl _)
 have cellK:∀x c,X.env.cells.lookup x=some c->∀v,s.heap.IsCell c v->h'.IsCell c v:=fun x c e v ⟨o,ho,hd⟩=>by
  have nch:c∉ch:=fun z=>(hch c z).2.2.1 x c e rfl
  by_cases hc:c∈X.fs
  ·obtain⟨sl,q⟩:=slot c o (I.cne x c e) hc nch ho (I.pF x c e)
   exact⟨_,q,hd⟩
  ·exact⟨o,keep c o (I.cne x c e) hc nch ho (I.pF x c e),hd⟩
 refine⟨I.ok,I.os,hg,⟨fun b o e n hb hx=> ?_,fun b o e n hb hx=> ?_,fun b o e n hx=> ?_,fun b o e hx=> ?_,fun b xs e=>tups b xs (I.base.tups b xs e),fun b o xs e=>frzs b o xs (I.base.frzs b o xs e),fun b ps e=> ?_⟩, ?_,fun x c e=> ?_, ?_,fun x c e=> ?_,fun p hp=> ?_,hok,I.len⟩
 ·exact keep b o (neL b o e) hb (neC b o e hx) (I.base.keep b o e n hb hx) (I.base.free b o e n hx)
 ·obtain⟨sl,e1⟩:=I.base.slot b o e n hb hx
  obtain⟨sl',e2⟩:=slot b _ (neL b o e) hb (neC b o e hx) e1 (I.base.free b o e n hx)
  exact⟨sl',e2⟩
 ·obtain⟨o',e1⟩:=I.base.there b o e hx
  exact free b o' (neC b o e hx) e1 (I.base.free b o e n hx)
 ·obtain⟨o',e1⟩:=I.base.there b o e hx
  exact there b o' (neC b o e hx) e1
 ·obtain⟨m1,e1⟩:=I.base.tbls b ps e
  obtain⟨m2,e2⟩:=tbls b _ e1
  exact⟨m1++m2,by rw[e2,Array.append_assoc]⟩
 ·obtain⟨m,hn,hl⟩:=I.loc
  refine⟨m,ns m hn,fun i x v e1 e2 e3=> ?_⟩
  obtain⟨u,r,l⟩:=hl i x v e1 e2 e3
  refine⟨u,r, ?_⟩
  rcases l with l | ⟨k,c,e,z⟩
  ·exact .inl l
  ·exact .inr ⟨k,c,e,cellK x c e _ z⟩
 ·obtain⟨v,z⟩:=I.cell x c e
  exact⟨v,cellK x c e v z⟩
 ·obtain⟨m,⟨o,_,_,ho,_⟩,_⟩:=I.loc
  exact free _ o (fun z=>(hch _ z).2.1 rfl) ho I.free
 ·obtain⟨v,o,ho,hd⟩:=I.cell x c e
  exact free c o (fun z=>(hch c z).2.2.1 x c e rfl) ho (I.pF x c e)
 ·obtain⟨e,n,ne,nf,d⟩:=I.pin p hp
  have nch:p.1∉ch:=fun z=>(hch p.1 z).2.2.2 p hp rfl
  exact⟨keep p.1 p.2 ne nf nch e n,free p.1 p.2 nch e n,ne,nf,d⟩
theorem Inv.un {t':Nat} (I:Inv X pins σ H s) (u:Un X.fs [] H H' s.heap h') (hok:HOk X.prog X.w H' h'):Inv X pins σ H' {s with heap:=h',toks:=t'}:=by
 obtain⟨m,⟨o,es,ep,ho,r⟩,_⟩:=id I.loc
 obtain⟨sl,hL⟩:=u.any ho I.free (by simp)
 exact I.step (g':=s.gens) (d':=s.drawn) (ch:=[]) (fun _ z=>nomatch z) (fun b o _ hb _ e n=>u.keep b o e n hb (by simp)) (fun b o _ hb _ e n=>u.slot b o e n hb (by simp)) (fun b o _ e n=>u.free b o e n (by simp)) (fun b o _ e=>u.there b o e (by simp)) u.tups u.frzs u.tbls (fun m' hm=>by
  obtain⟨o',es',ep',ho',r'⟩:=hm
  rw[ho] at ho';cases ho'
  exact⟨_,es',ep',hL,r'⟩) hok I.bare
theorem Inv.call {g':Array GenState}{t':Nat}{d':Drawn}{ch:List Addr} (I:Inv X pins σ H s) (u:Un (frs X.stack) ch H H' s.heap h') (hok:HOk X.prog X.w H' h') (hg:AllBare g')
 (hch:∀b∈ch,(b∈X.ex\/X.s₀.heap.objs.size<=b)/\b≠X.env.locals/\(∀x c,X.env.cells.lookup x=some c->c≠b)/\∀p∈X.pn++pins,p.1≠b):
 Inv X pins σ H' {s with heap:=h',gens:=g',drawn:=d',toks:=t'}:=by
 obtain⟨m,⟨o,es,ep,ho,r⟩,_⟩:=id I.loc
 obtain⟨sl,hL⟩:=u.any ho I.free fun z=>(hch _ z).2.1 rfl
 exact I.step (ch:=ch) hch (fun b o hL hb hc e n=>u.keep b o e n (fun z=>(List.mem_cons.mp (I.Hi b z)).elim hL hb) hc) (fun b o _ _ hc e n=>u.any e n hc) (fun b o hc e n=>u.free b o e n hc) (fun b o hc e=>u.there b o e hc) u.tups u.frzs u.tbls (fun m' hm=>by
  obtain⟨o',es',ep',ho',r'⟩:=hm
  rw[ho] at ho';cases ho'
  exact⟨_,es',ep',hL,r'⟩) hok hg
theorem Inv.turned {t':Nat}{it:Addr} (I:Inv X pins σ H s) (k:∀b o,b≠it->s.heap.get? b=some o->h'.get? b=some o) (hn:H it=none) (hL:it≠X.env.locals)
 (h1:it∈X.ex\/X.s₀.heap.objs.size<=it) (h2:∀x c,X.env.cells.lookup x=some c->c≠it) (h3:∀p∈X.pn++pins,p.1≠it):Inv X pins σ H {s with heap:=h',toks:=t'}:=by
 have nit:∀b u,H b=some u->b≠it:=fun b u e z=>by rw[z,hn] at e;cases e
 refine I.step (g':=s.gens) (d':=s.drawn) (ch:=[it]) (fun b hb=> ?_) (fun b o _ _ hc e _=>k b o (fun z=>hc (by simp[z])) e) (fun b o _ _ hc e _=>⟨o.slots,k b o (fun z=>hc (by simp[z])) e⟩) (fun _ _ _ _ n=>n)
  (fun b o hc e=>⟨o,k b o (fun z=>hc (by simp[z])) e⟩) (fun _ _ e=>e) (fun _ _ _ e=>e) (fun b ps e=>⟨#[],by rw[e];simp⟩) (fun m hm=> ?_) (fun b u e=> ?_) I.bare
 ·have e:b=it:=by simpa using hb
  subst e
  exact⟨h1,hL,h2,h3⟩
 ·obtain⟨o,es,ep,ho,r⟩:=hm
  exact⟨o,es,ep,k _ o (Ne.symm hL) ho,r⟩
 ·refine(I.hok b u e).stay (fun c v hc q=>k c v ?_ q) (fun _ q=>q) fun _ _ q=>q
  rcases hc with z | z
  ·rw[z];exact nit b u e
  ·exact nit c _ z
theorem Inv.tok (I:Inv X pins σ H s) (t:Nat):Inv X pins σ H {s with toks:=t}:=I.un (h':=s.heap) (t':=t) Un.refl I.hok
theorem Inv.kept {t':Nat} (I:Inv X pins σ H s) (k:∀b u,s.heap.get? b=some u->h'.get? b=some u):Inv X pins σ H {s with heap:=h',toks:=t'}:=I.un (Un.kept k) (I.hok.kept k)
theorem Inv.laid {a:Addr}{o:HO}{t':Nat} (I:Inv X pins σ H s) (k:∀b u,s.heap.get? b=some u->h'.get? b=some u) (hp:s.heap.objs.size<=a) (new:dJ X.prog X.w (upd H a o) h' a o):
 Inv X pins σ (upd H a o) {s with heap:=h',toks:=t'}:=I.un (Un.laid k hp (I.hok.fresh hp)) (I.hok.laid k hp new)
theorem Inv.write {x e:Addr}{o:HO}{t':Nat} (I:Inv X pins σ H s) (mu:Mut (H x)) (he:e=x\/H e=some (.own x)) (k:∀b u,b≠e->s.heap.get? b=some u->h'.get? b=some u) (heo:∃u,h'.get? e=some u)
 (new:dJ X.prog X.w (upd H x o) h' x o):Inv X pins σ (upd H x o) {s with heap:=h',toks:=t'}:=I.un (Un.write mu he k heo) (I.hok.write mu he k heo new)
theorem Inv.Ng {pins':List (Addr×Obj)} (I:Inv X pins σ H s) (h:∀p∈pins',s.heap.get? p.1=some p.2/\H p.1=none/\p.1≠X.env.locals/\p.1∉X.fs/\∀v,p.2.data≠ .cell v):Inv X pins' σ H s:=
 ⟨I.ok,I.os,I.bare,I.base,I.loc,I.cell,I.free,I.pF,fun p hp=>(List.mem_append.mp hp).elim (fun z=>I.pin p (List.mem_append_left _ z)) (h p),I.hok,I.len⟩
theorem Jo {N:List Str} (hN:N.Nodup) {i j:Nat}{x:Str} (a:N[i]? =some x) (b:N[j]? =some x):i=j:=by
 obtain⟨h1,e1⟩:=List.getElem?_eq_some_iff.mp a
 obtain⟨h2,e2⟩:=List.getElem?_eq_some_iff.mp b
 exact(List.getElem_inj hN).mp (e1.trans e2.symm)
theorem Gi {M:Model}{A:Around}{E:Value->Shared->Prop}{i:Nat}{x:Str}{v:V}{u:Value}{Q:Unit->Shared->Prop} (I:Inv X pins σ H s) (hN:X.N.Nodup) (hi:X.N[i]? =some x) (hx:Loc X.env.scope x) (r:RelV v u)
 (h:∀s',Inv X pins (σ.set i (some v)) H s'->(∃a,Heap.SameBut a s.heap s'.heap/\(a=X.env.locals\/X.env.cells.lookup x=some a))->Q () s') (hf:X.fn x=true\/X.env.scope.names.lookup x=some .local:=by first | exact .inl rfl | exact .inr rfl | assumption):wpAny M A (storeName X.env x u) Q E s:=by
 obtain⟨m,hn,hl⟩:=id I.loc
 have hcls:(X.env.scope.kind== .class||(X.env.scope.kind== .module&&X.env.locals !=X.env.globals))=false:=by rw[I.ok.kind];rfl
 have hiσ:i<σ.length:=by rw[I.len];exact(List.getElem?_eq_some_iff.mp hi).1
 have cne:=I.cne
 have tracked:∀{a:Addr}{h':Heap},(∃o,s.heap.get? a=some o/\H a=none)->Heap.SameBut a s.heap h'->HOk X.prog X.w H h':=fun{a h'} ha hs b ob e=>by
  obtain⟨_,_,hfree⟩:=ha
  refine(I.hok b ob e).stay (fun c w' hc q=>(hs.2 c ?_).trans q) (fun _ q=>q) fun _ _ q=>q
  rintro rfl
  rcases hc with rfl | hc
  ·rw[hfree] at e;cases e
  ·rw[hfree] at hc;cases hc
 rcases hx with hk | hk
 ·refine wpAny_storeName_local hk hn (fun h' hn' hs=> ?_) hcls
  obtain⟨oL,_,_,hoL,_⟩:=id hn
  refine h _ ⟨I.ok,I.os,I.bare,⟨fun b o e n hb hx=> ?_,fun b o e n hb hx=> ?_,I.base.free,fun b o e hx=> ?_,I.base.tups,I.base.frzs,I.base.tbls⟩,⟨_,hn',fun j y v' e1 e2 e3=> ?_⟩,fun y c e=> ?_,I.free,I.pF,fun p hp=> ?_,tracked ⟨oL,hoL,I.free⟩ hs,by simpa using I.len⟩ ⟨_,hs, .inl rfl⟩
  ·exact(hs.2 b (Nat.ne_of_lt (Nat.lt_of_lt_of_le (Heap.lt_size e) I.ok.above))).trans (I.base.keep b o e n hb hx)
  ·obtain⟨sl,e1⟩:=I.base.slot b o e n hb hx
   exact⟨sl,(hs.2 b (Nat.ne_of_lt (Nat.lt_of_lt_of_le (Heap.lt_size e) I.ok.above))).trans e1⟩
  ·obtain⟨o',e1⟩:=I.base.there b o e hx
   exact⟨o',(hs.2 b (Nat.ne_of_lt (Nat.lt_of_lt_of_le (Heap.lt_size e) I.ok.above))).trans e1⟩
  ·by_cases hj:j=i
   ·subst hj
    rw[hi] at e1;cases e1
    rw[List.getElem?_set_self hiσ] at e2
    cases e2
    exact⟨u,r, .inl ⟨hk,by simp⟩⟩
   ·rw[List.getElem?_set_ne (Ne.symm hj)] at e2
    obtain⟨u',r',q⟩:=hl j y v' e1 e2 e3
    refine⟨u',r', ?_⟩
    rcases q with⟨k,e⟩ | ⟨k,c,e,z⟩
    ·refine .inl ⟨k, ?_⟩
     have:y≠x:=fun e=>hj (Jo hN e1 (e▸hi))
     simp[this,e]
    ·exact .inr ⟨k,c,e,z.sameBut hs (cne y c e)⟩
  ·obtain⟨w',z⟩:=I.cell y c e
   exact⟨w',z.sameBut hs (cne y c e)⟩
  ·obtain⟨e,n,ne,nf,d⟩:=I.pin p hp
   exact⟨(hs.2 p.1 ne).trans e,n,ne,nf,d⟩
 ·have hfn:X.fn x=true:=by
   rcases hf with z | z
   ·exact z
   ·rw[z] at hk;cases hk
  obtain⟨c,hc⟩:=I.ok.has x (.inl hk)
  obtain⟨w',z⟩:=I.cell x c hc
  refine wpAny_storeName_cell I.ok.kind hk hc z (fun h' hc' hs=> ?_)
  obtain⟨oc,hoc,hocd⟩:=id z
  refine h {s with heap:=h'} ⟨I.ok,I.os,I.bare,⟨fun b o e n hb hx=> ?_,fun b o e n hb hx=> ?_,I.base.free,fun b o e hx=> ?_,I.base.tups,I.base.frzs,I.base.tbls⟩,⟨m,hn.sameBut hs (Ne.symm (cne x c hc)),fun j y v' e1 e2 e3=> ?_⟩,fun y c' e=> ?_,I.free,I.pF,fun p hp=> ?_,tracked ⟨oc,hoc,I.pF x c hc⟩ hs,by simpa using I.len⟩ ⟨c,hs, .inr hc⟩
  ·exact(hs.2 b (Nat.ne_of_lt (Nat.lt_of_lt_of_le (Heap.lt_size e) (I.ok.cab x c hfn hc)))).trans (I.base.keep b o e n hb hx)
  ·obtain⟨sl,e1⟩:=I.base.slot b o e n hb hx
   exact⟨sl,(hs.2 b (Nat.ne_of_lt (Nat.lt_of_lt_of_le (Heap.lt_size e) (I.ok.cab x c hfn hc)))).trans e1⟩
  ·obtain⟨o',e1⟩:=I.base.there b o e hx
   exact⟨o',(hs.2 b (Nat.ne_of_lt (Nat.lt_of_lt_of_le (Heap.lt_size e) (I.ok.cab x c hfn hc)))).trans e1⟩
  ·by_cases hj:j=i
   ·subst hj
    rw[hi] at e1;cases e1
    rw[List.getElem?_set_self hiσ] at e2
    cases e2
    exact⟨u,r, .inr ⟨.inl hk,c,hc,hc'⟩⟩
   ·rw[List.getElem?_set_ne (Ne.symm hj)] at e2
    obtain⟨u',r',q⟩:=hl j y v' e1 e2 e3
    refine⟨u',r', ?_⟩
    rcases q with q | ⟨k,c',e,z'⟩
    ·exact .inl q
    ·refine .inr ⟨k,c',e,z'.sameBut hs ?_⟩
     rintro rfl
     exact hj (Jo hN e1 (I.ok.inj _ _ _ e hc▸hi))
  ·by_cases hcc:c'=c
   ·subst hcc;exact⟨_,hc'⟩
   ·obtain⟨w2,z2⟩:=I.cell y c' e
    exact⟨w2,z2.sameBut hs hcc⟩
  ·obtain⟨e,n,ne,nf,d⟩:=I.pin p hp
   refine⟨(hs.2 p.1 ?_).trans e,n,ne,nf,d⟩
   intro q
   rw[q,hoc] at e
   have q':oc=p.2:=Option.some.inj e
   exact d w' (by rw[<-q'];exact hocd)
theorem Jp {M:Model}{A:Around}{E:Value->Shared->Prop}{i:Nat}{x:Str}{v:V}{u:Value}{Q:Unit->Shared->Prop} (I:Inv X pins σ H s) (hN:X.N.Nodup) (hi:X.N[i]? =some x) (hx:Loc X.env.scope x) (r:RelV v u)
 (h:∀s',Inv X pins (σ.set i (some v)) H s'->Q () s') (hf:X.fn x=true\/X.env.scope.names.lookup x=some .local:=by first | exact .inl rfl | exact .inr rfl | assumption):wpAny M A (storeName X.env x u) Q E s:=
 Gi I hN hi hx r (fun s' I' _=>h s' I') hf
theorem Inv.call' {s':Shared}{ch:List Addr} (I:Inv X pins σ H s) (ho:s'.os=s.os) (u:Un (frs X.stack) ch H H' s.heap s'.heap) (hok:HOk X.prog X.w H' s'.heap) (hg:AllBare s'.gens)
 (hch:∀b∈ch,(b∈X.ex\/X.s₀.heap.objs.size<=b)/\b≠X.env.locals/\(∀x c,X.env.cells.lookup x=some c->c≠b)/\∀p∈X.pn++pins,p.1≠b):Inv X pins σ H' s':=by
 obtain⟨h',g',d',t',o'⟩:=s'
 have e:o'=s.os:=ho
 subst e
 exact I.call (g':=g') (t':=t') (d':=d') u hok hg hch
end
abbrev XK:=Value->Option Addr->Hp->Prop
abbrev St:=List (Option V)
abbrev VK:=V->Hp->Prop
abbrev TE:=St->Hp->VK->Prop
abbrev TT:=St->Hp->(Bool->Hp->Prop)->Prop
abbrev TA:=St->Hp->(List V->Hp->Prop)->Prop
structure Ends where
 nx:St->Hp->Prop
 rt:VK
 bk:St->Hp->Prop:=fun _ _=>False
 ct:St->Hp->Prop:=fun _ _=>False
abbrev TS:=Ends->St->Hp->Prop
def EP (X:Cx) (pins:List (Addr×Obj)) (σ:St) (Q:VK) (u:Value) (s':Shared):Prop:=∃v H',Inv X pins σ H' s'/\RelV v u/\Q v H'
def TP (X:Cx) (pins:List (Addr×Obj)) (σ:St) (Q:Bool->Hp->Prop) (b:Bool) (s':Shared):Prop:=∃H',Inv X pins σ H' s'/\Q b H'
def AP (X:Cx) (pins:List (Addr×Obj)) (σ:St) (Q:List V->Hp->Prop) (us:List Value) (s':Shared):Prop:=∃vs H',Inv X pins σ H' s'/\Vals vs us/\Q vs H'
def SP (X:Cx) (pins:List (Addr×Obj)) (D:Ends) (f:Flow) (s':Shared):Prop:=
 match f with
 | .next=>∃σ' H',Inv X pins σ' H' s'/\D.nx σ' H'
 | .brk=>∃σ' H',Inv X pins σ' H' s'/\D.bk σ' H'
 | .cont=>∃σ' H',Inv X pins σ' H' s'/\D.ct σ' H'
 | .ret u=>∃v σ' H',Inv X pins σ' H' s'/\RelV v u/\D.rt v H'
def PE (X:Cx) (e:Expr) (t:TE):Prop:=
 ∀(pins:List (Addr×Obj)) (s:Shared) (σ:St) (H:Hp) (Q:VK),Inv X pins σ H s->t σ H Q->wpAny (model X.prog X.w) X.A (eval e X.env) (EP X pins σ Q) X.xe s
def PT (X:Cx) (e:Expr) (t:TT):Prop:=
 ∀(pins:List (Addr×Obj)) (s:Shared) (σ:St) (H:Hp) (Q:Bool->Hp->Prop),Inv X pins σ H s->t σ H Q->wpAny (model X.prog X.w) X.A (isTrue e X.env (eval e X.env)) (TP X pins σ Q) X.xe s
def PW (X:Cx) (e:Expr) (t:TT):Prop:=
 ∀(whole:Sem Value) (pins:List (Addr×Obj)) (s:Shared) (σ:St) (H:Hp) (Q:Bool->Hp->Prop),Inv X pins σ H s->t σ H Q->wpAny (model X.prog X.w) X.A (isTrue e X.env whole) (TP X pins σ Q) X.xe s
theorem PW.pt {X:Cx}{e:Expr}{t:TT} (h:PW X e t):PT X e t:=h _
def PA (X:Cx) (es:List Expr) (t:TA):Prop:=
 ∀(pos:Pos) (pins:List (Addr×Obj)) (s:Shared) (σ:St) (H:Hp) (Q:List V->Hp->Prop),Inv X pins σ H s->t σ H Q->wpAny (model X.prog X.w) X.A (spliced (backTo pos (starEach es X.env))) (AP X pins σ Q) X.xe s
def PS (X:Cx) (st:Stmt) (t:TS):Prop:=
 ∀(pins:List (Addr×Obj)) (s:Shared) (σ:St) (H:Hp) (D:Ends),Inv X pins σ H s->t D σ H->wpAny (model X.prog X.w) X.A (exec st X.env) (SP X pins D) X.xe s
def PSs (X:Cx) (st:List Stmt) (t:TS):Prop:=
 ∀(pins:List (Addr×Obj)) (s:Shared) (σ:St) (H:Hp) (D:Ends),Inv X pins σ H s->t D σ H->wpAny (model X.prog X.w) X.A (execs st X.env) (SP X pins D) X.xe s
theorem thn {α:Type}{t:Sem α}{Q Q':α->Shared->Prop}{M:Model}{A:Around}{E:Value->Shared->Prop}{s:Shared} (h:wpAny M A t Q E s) (hQ:∀a s,Q a s->Q' a s):wpAny M A t Q' E s:=wpAny_mono h hQ fun _ _ x=>x
section
variable {X:Cx}
def Zi (i:Nat):TE:=fun σ H Q=>∃v,σ[i]? =some (some v)/\Q v H
def tC (v:V):TE:=fun _ H Q=>Q v H
theorem Zj {i:Nat}{x:Str}{pos:Pos} (hN:X.N[i]? =some x) (hv:Vis X.env.scope x) (hd:(x==("__debug__":Str))=false:=by decide) (hcd:(x==("__classdict__":Str))=false:=by decide):PE X (.Name x pos) (Zi i):=by
 intro pins s σ H Q I h
 obtain⟨v,e,h⟩:=h
 obtain⟨m,hn,hl⟩:=I.loc
 obtain⟨u,r,l⟩:=hl i x v hN e hv
 have fin:EP X pins σ Q u s:=⟨v,H,I,r,h⟩
 rcases l with⟨hk,hm⟩ | ⟨hk,c,hc,hcell⟩
 ·exact wpAny_Name (wpAny_loadName_local I.ok.kind hk hn hm fin) hd
 ·rcases hk with hk | hk
  ·exact wpAny_Name (wpAny_loadName_cell I.ok.kind hk hc hcell fin) hd
  ·exact wpAny_Name (wpAny_loadName_free I.ok.kind hk hc hcell fin hcd) hd
theorem Zk {i j pos}:PE X (.Constant (.int i) j pos) (tC (.int i)):=fun _ _ _ H _ I h=>wpAny_Constant_int ⟨.int i,H,I.tok _,⟨_,rfl⟩,h⟩
theorem ac0 {b j pos}:PE X (.Constant (.bool b) j pos) (tC (.bl b)):=fun _ _ _ H _ I h=>Constant_bool ⟨.bl b,H,I,rfl,h⟩
theorem Zm {j pos}:PE X (.Constant .none j pos) (tC .non):=fun _ _ _ H _ I h=>Constant_none ⟨.non,H,I,rfl,h⟩
theorem QV {x j pos}:PE X (.Constant (.str x) j pos) (tC (.str x)):=fun _ _ _ H _ I h=>Calls.Constant_str ⟨.str x,H,I.tok _,⟨_,rfl⟩,h⟩
def Gl (X:Cx) (x:Str):Prop:=X.env.kindOf x=some .globalImplicit
theorem tE {E:Value->Shared->Prop}{pins:List (Addr×Obj)}{s:Shared}{σ:St}{H:Hp}{x:Str}{u:Value}{pos:Pos}{Q:Value->Shared->Prop} (I:Inv X pins σ H s) (hg:Gl X x) (hm:X.mg x=some u) (h:Q u s)
 (hd:(x==("__debug__":Str))=false:=by decide):wpAny (model X.prog X.w) X.A (eval (.Name x pos) X.env) Q E s:=
 Calls.Name_function_global I.ok.kind hg (Calls.loadGlobal_global (by rw[I.ok.glob];exact I.mod.glob.keeps I.bk) hm h) hd
theorem yo {E:Value->Shared->Prop}{pins:List (Addr×Obj)}{s:Shared}{σ:St}{H:Hp}{x:Str}{u:Value}{pos:Pos}{Q:Value->Shared->Prop} (I:Inv X pins σ H s) (hg:Gl X x) (hm:X.mg x=none) (hv:bootBuiltins x=some u) (h:Q u s)
 (hn:x≠"__name__":=by decide) (hd:(x==("__debug__":Str))=false:=by decide):wpAny (model X.prog X.w) X.A (eval (.Name x pos) X.env) Q E s:=by
 obtain⟨mb,h1,h2⟩:=I.mod.blt
 exact Calls.Name_function_global I.ok.kind hg (Calls.loadGlobal_builtin (by rw[I.ok.glob];exact I.mod.glob.keeps I.bk) hm (by rw[I.ok.blt];exact h1.keeps I.bk) ((h2 x hn).trans hv) h) hd
theorem U5 {x:Str}{v:V}{u:Value}{pos:Pos} (hg:Gl X x) (hm:X.mg x=none) (hv:bootBuiltins x=some u) (r:RelV v u) (hn:x≠"__name__":=by decide) (hd:(x==("__debug__":Str))=false:=by decide):PE X (.Name x pos) (tC v):=
 fun _ _ _ H _ I h=>yo I hg hm hv ⟨v,H,I,r,h⟩ hn hd
variable {a b:Expr}{ta tb:TE}{pos:Pos}
def PC (X:Cx) (op:CmpOp) (a b:Expr) (t:TE):Prop:=
 ∀(pins:List (Addr×Obj)) (s:Shared) (σ:St) (H:Hp) (Q:VK),Inv X pins σ H s->t σ H Q->
  wpAny (model X.prog X.w) X.A (eval a X.env) (fun v s₁=>wpAny (model X.prog X.w) X.A (eval b X.env) (fun u s₂=>wpAny (model X.prog X.w) X.A (compareOp op v u) (EP X pins σ Q) X.xe s₂) X.xe s₁) X.xe s
def tB (t:TE):TT:=fun σ H Q=>t σ H fun x H1=>∃c,x= .bl c/\Q c H1
theorem QX {op:CmpOp}{t:TE} (h:PC X op a b t) (h1:behindInMarks op b=false:=by first | exact nobehind _ (by decide) (by decide) | rfl):PT X (.Compare a [op] [b] pos) (tB t):=by
 intro pins s σ H Q I hw
 refine wpAny_isTrue_Compare1 (thn (h pins s σ H _ I hw) fun v s1 h1=>thn h1 fun u s2 h2=>thn h2 fun c s3 ⟨x,H1,I1,r1,q1⟩=> ?_) h1
 obtain⟨d,rfl,q⟩:=q1
 cases r1
 exact wpAny_truthy_bool ⟨H1,I1,q⟩
theorem Zn {e:Expr}{t:TE} (h:PE X e t) (he:∀whole,isTrue e X.env whole=(do let v <-whole;standAt e.pos;holding [v] (truthy v)):=by intro _;rfl):PT X e (tB t):=by
 intro pins s σ H Q I hw
 refine isTrue_plain (thn (h pins s σ H _ I hw) fun v s1 ⟨x,H1,I1,r1,q1⟩=> ?_) (he _)
 obtain⟨d,rfl,q⟩:=q1
 cases r1
 exact wpAny_truthy_bool ⟨H1,I1,q⟩
variable {tA tB':TT}{rest:List Expr}
def ac1 (t u:TT):TT:=fun σ H Q=>t σ H fun c H1=>if c=true then u σ H1 Q else Q false H1
def tOr (t u:TT):TT:=fun σ H Q=>t σ H fun c H1=>if c=true then Q true H1 else u σ H1 Q
def ac2 (t:TT):TT:=fun σ H Q=>t σ H fun c H1=>Q (!c) H1
theorem U6 (ha:PT X a tA):PW X (.BoolOp .And [a] pos) tA:=by
 intro wh pins s σ H Q I h
 refine isTrue_and (thn (ha pins s σ H Q I h) fun c s1 e=> ?_)
 cases c with
 | true=>exact isTrue_and_nil e
 | false=>exact e
theorem Zo (ha:PT X a tA):PW X (.BoolOp .Or [a] pos) tA:=by
 intro wh pins s σ H Q I h
 refine isTrue_or (thn (ha pins s σ H Q I h) fun c s1 e=> ?_)
 cases c with
 | false=>exact isTrue_or_nil e
 | true=>exact e
theorem Zq (ha:PT X a tA) (hb:PW X (.BoolOp .And (b::rest) pos) tB'):PW X (.BoolOp .And (a::b::rest) pos) (ac1 tA tB'):=by
 intro wh pins s σ H Q I h
 refine isTrue_and (thn (ha pins s σ H _ I h) fun c s1 ⟨H1,I1,q1⟩=> ?_)
 cases c with
 | true=>exact hb wh pins s1 σ H1 Q I1 q1
 | false=>exact⟨H1,I1,q1⟩
theorem ac3 (ha:PT X a tA) (hb:PW X (.BoolOp .Or (b::rest) pos) tB'):PW X (.BoolOp .Or (a::b::rest) pos) (tOr tA tB'):=by
 intro wh pins s σ H Q I h
 refine isTrue_or (thn (ha pins s σ H _ I h) fun c s1 ⟨H1,I1,q1⟩=> ?_)
 cases c with
 | true=>exact⟨H1,I1,q1⟩
 | false=>exact hb wh pins s1 σ H1 Q I1 q1
theorem Zr (ha:PT X a tA):PT X (.UnaryOp .Not a pos) (ac2 tA):=by
 intro pins s σ H Q I h
 exact isTrue_not (ha pins s σ H (fun c H1=>Q (!c) H1) I h)
def XN (ta tb:TE):TE:=fun σ H Q=>ta σ H fun x H1=>∃c,x= .bl c/\if c=true then tb σ H1 Q else Q (.bl false) H1
def XQ (ta:TE):TE:=fun σ H Q=>ta σ H fun x H1=>∃c,x= .bl c/\Q (.bl (!c)) H1
theorem Zt {op}{t:TE} (h:PE X a t):PE X (.BoolOp op [a] pos) t:=fun pins s σ H Q I hw=>BoolOp_one (h pins s σ H Q I hw)
theorem Zu (ha:PE X a ta) (hb:PE X (.BoolOp .And (b::rest) pos) tb):PE X (.BoolOp .And (a::b::rest) pos) (XN ta tb):=by
 intro pins s σ H Q I h
 refine BoolOp_and (thn (ha pins s σ H _ I h) fun v s1 ⟨x,H1,I1,r1,q1⟩=> ?_)
 obtain⟨c,rfl,q1⟩:=q1
 cases r1
 refine wpAny_truthy_bool ?_
 cases c with
 | true=>exact hb pins s1 σ H1 Q I1 q1
 | false=>exact⟨.bl false,H1,I1,rfl,q1⟩
theorem Zv (ha:PE X a ta):PE X (.UnaryOp .Not a pos) (XQ ta):=by
 intro pins s σ H Q I h
 refine UnaryOp_ (thn (ha pins s σ H _ I h) fun v s1 ⟨x,H1,I1,r1,q1⟩=> ?_)
 obtain⟨c,rfl,q1⟩:=q1
 cases r1
 exact not_of (wpAny_truthy_bool ⟨.bl (!c),H1,I1,rfl,q1⟩)
def tIf (t:TT) (ta tb:TE):TE:=fun σ H Q=>t σ H fun c H1=>if c=true then ta σ H1 Q else tb σ H1 Q
theorem QZ {c:Expr} (hc:PT X c tA) (ha:PE X a ta) (hb:PE X b tb):PE X (.IfExp c a b pos) (tIf tA ta tb):=by
 intro pins s σ H Q I h
 refine wpAny_IfExp (thn (hc pins s σ H _ I h) fun d s1 ⟨H1,I1,q1⟩=> ?_)
 cases d with
 | true=>exact ha pins s1 σ H1 Q I1 q1
 | false=>exact hb pins s1 σ H1 Q I1 q1
end
def SqL (K:PySem.W.Frag) (H:Hp) (a:Addr) (xs:List V):Prop:=
 Rd H a (.lst xs)\/
  ∃(o:Obj) (its:Array Value) (n:Nat),K.lookup a=some o/\o.cls= .type "list"/\o.dict=none/\o.data= .seq its n/\its.size<=sizeLine/\Vals xs its.toList
def SqT (K:PySem.W.Frag) (H:Hp) (a:Addr) (xs:List V):Prop:=
 Rd H a (.tup xs)\/
  ∃(o:Obj) (its:Array Value) (n:Nat),K.lookup a=some o/\o.cls= .type "tuple"/\o.data= .seq its n/\its.size<=sizeLine/\Vals xs its.toList
def agV:Value->Option V
 | .none=>some .non
 | .bool b=>some (.bl b)
 | .int i _=>some (.int i)
 | .str x _=>some (.str x)
 | .bytes b _=>some (.byt b)
 | .float b _=>some (.flt b)
 | .ref a=>some (.ref a)
 | .type n=>some (.ty n)
 | _=>none
theorem RelV.abs {x:V}{u:Value} (r:RelV x u):agV u=some x:=by
 cases x with
 | non=>cases r;rfl
 | bl _=>cases r;rfl
 | int _=>obtain⟨t,rfl⟩:=r;rfl
 | str _=>obtain⟨t,rfl⟩:=r;rfl
 | byt _=>obtain⟨t,rfl⟩:=r;rfl
 | flt _=>obtain⟨t,rfl⟩:=r;rfl
 | ref _=>cases r;rfl
 | ty _=>cases r;rfl
theorem RelV.inj {x y:V}{u:Value} (r:RelV x u) (q:RelV y u):x=y:=Option.some.inj (r.abs.symm.trans q.abs)
theorem Vals.inj:∀{xs ys:List V}{us:List Value},Vals xs us->Vals ys us->xs=ys
 | _,_,_, .nil, .nil=>rfl
 | _,_,_, .cons r t, .cons r' t'=>by rw[r.inj r',Vals.inj t t']
section
variable {X:Cx}{pins:List (Addr×Obj)}{σ:St}{H:Hp}{s:Shared}{a:Addr}{xs ys:List V}
theorem SqL.of {K:PySem.W.Frag} (h:H a=some (.lst xs)):SqL K H a xs:= .inl (.inl h)
theorem SqT.of {K:PySem.W.Frag} (h:H a=some (.tup xs)):SqT K H a xs:= .inl (.inl h)
theorem Inv.list (I:Inv X pins σ H s) (h:SqL X.K H a xs):∃its:List Value,Vals xs its/\PlainL s.heap a its.toArray/\xs.length<=sizeLine:=by
 rcases h with h | ⟨o,its,n,hk,hc,hd,hs,hz,r⟩
 ·obtain⟨z,its,n,r,e⟩:=h.ok I.hok
  exact⟨its,r,⟨_,n,e,rfl,rfl,rfl⟩,z⟩
 ·refine⟨its.toList,r,⟨o,n,I.kIn a o hk,hc,hd,by simpa using hs⟩, ?_⟩
  have e:=r.length
  simp only[Array.length_toList] at e
  omega
theorem Inv.tuple (I:Inv X pins σ H s) (h:SqT X.K H a xs):∃its:List Value,Vals xs its/\IsTup s.heap a its.toArray/\xs.length<=sizeLine:=by
 rcases h with h | ⟨o,its,n,hk,hc,hs,hz,r⟩
 ·obtain⟨z,its,r,p⟩:=h.ok I.hok
  exact⟨its,r,p,z⟩
 ·refine⟨its.toList,r,⟨o,I.kIn a o hk,hc,n,by simpa using hs⟩, ?_⟩
  have e:=r.length
  simp only[Array.length_toList] at e
  omega
theorem Inv.Jq (I:Inv X pins σ H s) (h:SqL X.K H a xs) (h':SqL X.K H a ys):xs=ys:=by
 obtain⟨its,r,⟨o,n,e,_,_,d⟩,_⟩:=I.list h
 obtain⟨its',r',⟨o',n',e',_,_,d'⟩,_⟩:=I.list h'
 rw[e] at e';cases e'
 rw[d] at d'
 injection d' with d1 _
 have:its=its':=by simpa using congrArg Array.toList d1
 subst this
 exact r.inj r'
theorem Inv.Gj (I:Inv X pins σ H s) (h:SqT X.K H a xs) (h':SqT X.K H a ys):xs=ys:=by
 obtain⟨its,r,⟨o,e,_,n,d⟩,_⟩:=I.tuple h
 obtain⟨its',r',⟨o',e',_,n',d'⟩,_⟩:=I.tuple h'
 rw[e] at e';cases e'
 rw[d] at d'
 injection d' with d1 _
 have:its=its':=by simpa using congrArg Array.toList d1
 subst this
 exact r.inj r'
end
abbrev Cx.wish (X:Cx) (E:Value->Shared->Prop):Cx:={X with xe:=E}
abbrev Cx.nox (X:Cx):Cx:=X.wish fun _ _=>False
theorem Cx.Ok.wish {X:Cx} (ok:X.Ok) (E:Value->Shared->Prop):(X.wish E).Ok:=
 ⟨ok.mod,ok.kind,ok.glob,ok.blt,ok.above,ok.inj,ok.has,ok.cab,ok.hd,ok.frames,ok.stk,ok.exf,ok.bs,ok.bsz,ok.noex,ok.exfs,ok.funs,ok.frf⟩
theorem Cx.Ok.unwish {X:Cx}{E:Value->Shared->Prop} (ok:(X.wish E).Ok):X.Ok:=
 ⟨ok.mod,ok.kind,ok.glob,ok.blt,ok.above,ok.inj,ok.has,ok.cab,ok.hd,ok.frames,ok.stk,ok.exf,ok.bs,ok.bsz,ok.noex,ok.exfs,ok.funs,ok.frf⟩
section
variable {X:Cx}{pins:List (Addr×Obj)}{σ:St}{H:Hp}{s:Shared}{E:Value->Shared->Prop}
theorem Inv.wish (I:Inv X pins σ H s) (E:Value->Shared->Prop):Inv (X.wish E) pins σ H s:=⟨I.ok.wish E,I.os,I.bare,I.base,I.loc,I.cell,I.free,I.pF,I.pin,I.hok,I.len⟩
theorem Inv.unwish (I:Inv (X.wish E) pins σ H s):Inv X pins σ H s:=⟨I.ok.unwish,I.os,I.bare,I.base,I.loc,I.cell,I.free,I.pF,I.pin,I.hok,I.len⟩
theorem SP.unwish {D:Ends}{f:Flow}{s':Shared} (h:SP (X.wish E) pins D f s'):SP X pins D f s':=by
 cases f with
 | next=>obtain⟨σ',H',I,q⟩:=h;exact⟨σ',H',I.unwish,q⟩
 | brk=>obtain⟨σ',H',I,q⟩:=h;exact⟨σ',H',I.unwish,q⟩
 | cont=>obtain⟨σ',H',I,q⟩:=h;exact⟨σ',H',I.unwish,q⟩
 | ret u=>obtain⟨v,σ',H',I,r,q⟩:=h;exact⟨v,σ',H',I.unwish,r,q⟩
theorem PSs.nox {st:List Stmt}{t:TS} (h:PSs X.nox st t):PSs X st t:=fun pins s σ H D I hw=>
 wpAny_mono (h pins s σ H D (I.wish _) hw) (fun _ _ q=>q.unwish) fun _ _ z=>False.elim z
end
section
variable {X:Cx}{st:Stmt}{rest:List Stmt}{t u:TS}{e:Expr}{te:TE}{pos:Pos}
def Nh:TS:=fun D σ H=>D.nx σ H
def ac4 (t u:TS):TS:=fun D σ H=>t {D with nx:=u D} σ H
theorem U7:PSs X [] Nh:=fun _ _ σ H _ I h=>wpAny_execs_nil ⟨σ,H,I,h⟩
theorem Q0 (h1:PS X st t) (h2:PSs X rest u):PSs X (st::rest) (ac4 t u):=by
 intro pins s σ H D I h
 refine wpAny_execs_cons (thn (h1 pins s σ H {D with nx:=u D} I h) fun f s1 q=> ?_)
 cases f with
 | next=>
   obtain⟨σ',H',I',q⟩:=q
   exact h2 pins s1 σ' H' D I' q
 | ret v=>exact q
 | brk=>exact q
 | cont=>exact q
theorem U8 (h1:PS X st t):PSs X [st] t:=by
 intro pins s σ H D I h
 refine wpAny_execs_cons (thn (h1 pins s σ H D I h) fun f s1 q=> ?_)
 cases f with
 | next=>exact wpAny_execs_nil q
 | ret v=>exact q
 | brk=>exact q
 | cont=>exact q
def XR:TS:=fun D σ H=>D.ct σ H
theorem U9:PS X (.Pass pos) Nh:=fun _ _ σ H _ I h=>wpAny_Pass ⟨σ,H,I,h⟩
theorem Jr:PS X (.Continue pos) XR:=fun _ _ σ H _ I h=>wpAny_Continue ⟨σ,H,I,h⟩
theorem Inv.quiet {pins:List (Addr×Obj)}{σ:St}{H:Hp}{s:Shared} (I:Inv X pins σ H s):interactive X.env=false:=by simp[interactive,I.ok.kind]
def XS (te:TE):TS:=fun D σ H=>te σ H fun _ H1=>D.nx σ H1
theorem Va (he:PE X e te) (hs:swapsWith e none pos.line X.env=pure false:=by rfl):PS X (.Expr e pos) (XS te):=by
 intro pins s σ H D I h
 exact wpAny_Expr_any (thn (he pins s σ H _ I h) fun v s1 ⟨x,H1,I1,r1,q1⟩=>⟨σ,H1,I1,q1⟩) I.quiet hs
def ac5 (te:TE):TS:=fun D σ H=>te σ H D.rt
theorem Zw (he:PE X e te):PS X (.Return (some e) pos) (ac5 te):=by
 intro pins s σ H D I h
 exact wpAny_Return_some (thn (he pins s σ H _ I h) fun v s1 ⟨x,H1,I1,r1,q1⟩=>⟨x,σ,H1,I1,r1,q1⟩)
def ac6 (c:TT) (t u:TS):TS:=fun D σ H=>c σ H fun b H1=>if b=true then t D σ H1 else u D σ H1
theorem ac7 {c:Expr}{a b:List Stmt}{tc:TT} (hc:PT X c tc) (ha:PSs X a t) (hb:PSs X b u):PS X (.If c a b pos) (ac6 tc t u):=by
 intro pins s σ H D I h
 refine wpAny_If (thn (hc pins s σ H _ I h) fun d s1 ⟨H1,I1,q1⟩=> ?_)
 cases d with
 | true=>exact ha pins s1 σ H1 D I1 q1
 | false=>exact hb pins s1 σ H1 D I1 q1
end
abbrev TG:=V->St->Hp->(St->Hp->Prop)->Prop
abbrev TGs:=List V->St->Hp->(St->Hp->Prop)->Prop
def PG (X:Cx) (target:Expr) (t:TG):Prop:=
 ∀(pins:List (Addr×Obj)) (s:Shared) (σ:St) (H:Hp) (v:V) (u:Value) (Q:St->Hp->Prop),Inv X pins σ H s->RelV v u->t v σ H Q->
  wpAny (model X.prog X.w) X.A (assign target X.env u) (fun _ s'=>∃σ' H',Inv X pins σ' H' s'/\Q σ' H') X.xe s
def PGs (X:Cx) (ts:List Expr) (t:TGs):Prop:=
 ∀(pins:List (Addr×Obj)) (s:Shared) (σ:St) (H:Hp) (vs:List V) (us:List Value) (Q:St->Hp->Prop),Inv X pins σ H s->Vals vs us->t vs σ H Q->
  wpAny (model X.prog X.w) X.A (assignInOrder ((assignEach ts X.env).map (·.2)) us) (fun _ s'=>∃σ' H',Inv X pins σ' H' s'/\Q σ' H') X.xe s
section
variable {X:Cx}{pos:Pos}
def zm (i:Nat):TG:=fun v σ H Q=>Q (σ.set i (some v)) H
theorem Ni {i:Nat}{x:Str} (hN:X.N.Nodup) (hi:X.N[i]? =some x) (hx:Loc X.env.scope x) (hf:X.fn x=true\/X.env.scope.names.lookup x=some .local:=by first | exact .inl rfl | exact .inr rfl | assumption):PG X (.Name x pos) (zm i):=by
 intro pins s σ H v u Q I r h
 exact wpAny_assign_Name (Jp I hN hi hx r (fun s' I'=>⟨_,H,I',h⟩) hf)
def ac8:TGs:=fun vs σ H Q=>vs=[]/\Q σ H
def XX (t:TG) (u:TGs):TGs:=fun vs σ H Q=>∃v r,vs=v::r/\t v σ H fun σ' H'=>u r σ' H' Q
theorem Vb:PGs X [] ac8:=by
 intro pins s σ H vs us Q I r h
 obtain⟨e,h⟩:=h
 subst e
 cases r
 exact assignInOrder_nil ⟨σ,H,I,h⟩
theorem Q3 {e:Expr}{es:List Expr}{t:TG}{u:TGs} (h1:PG X e t) (h2:PGs X es u)
 (hs:(assignEach (e::es) X.env).map (·.2)=assign e X.env::(assignEach es X.env).map (·.2):=by rfl):PGs X (e::es) (XX t u):=by
 intro pins s σ H vs us Q I r h
 obtain⟨v,vr,e1,h⟩:=h
 subst e1
 cases r with
 | cons r rr=>
   rw[hs]
   refine assignInOrder_cons (thn (h1 pins s σ H _ _ _ I r h) fun _ s1 ⟨σ1,H1,I1,q1⟩=> ?_)
   exact h2 pins s1 σ1 H1 _ _ Q I1 rr q1
def Zx (K:PySem.W.Frag) (n:Nat) (t:TGs):TG:=fun v σ H Q=>∃a xs,v= .ref a/\SqT K H a xs/\xs.length=n/\t xs σ H Q
theorem Zy {es:List Expr}{k:Nat}{t:TGs}{n:Nat} (hc:X.calm=true) (h:PGs X es t)
 (hn:(assignEach es X.env).length=n:=by rfl) (hst:(assignEach es X.env).findIdx? (·.1)=none:=by rfl):PG X (.Tuple es k pos) (Zx X.K n t):=by
 intro pins s σ H v u Q I r hw
 obtain⟨a,xs,e1,hq,hl,hw⟩:=hw
 subst e1
 cases r
 obtain⟨its,rv,ht,hz⟩:=I.tuple hq
 refine assign_Tuple_tuple (I.ok.hd hc) ht (by simp[hn,<-hl,rv.length]) hst fun h' hx=> ?_
 have I1:Inv X pins σ H {s with heap:=h'}:=I.kept (t':=s.toks) fun b o e=>hx b o (Nat.ne_of_lt (Heap.lt_size e)) e
 exact h pins _ σ H xs _ Q I1 (by simpa using rv) hw
def O6 (te:TE) (g:TG):TS:=fun D σ H=>te σ H fun x H1=>g x σ H1 D.nx
theorem Zz {tg e:Expr}{te:TE}{g:TG} (he:PE X e te) (hg:PG X tg g) (hs:swapsWithSole [tg] e pos.line X.env=pure false:=by rfl) (hw:swappedStores [tg] e X.env=pure none:=by rfl)
 (h1:(assignEach [tg] X.env).map (·.2)=[assign tg X.env]:=by rfl):PS X (.Assign [tg] e pos) (O6 te g):=by
 intro pins s σ H D I h
 refine wpAny_Assign_stores (thn (he pins s σ H _ I h) fun v s1 ⟨x,H1,I1,r1,q1⟩=> ?_) hs hw
 rw[h1]
 exact thn (hg pins s1 σ H1 x v _ I1 r1 q1) fun _ s2 q=>q
theorem ZC {i:Nat}{x:Str}{e:Expr}{te:TE}{pos':Pos} (hN:X.N.Nodup) (hi:X.N[i]? =some x) (hx:Loc X.env.scope x) (he:PE X e te) (hs:swapsWith e (some (.Name x pos')) pos.line X.env=pure false:=by rfl) (hf:X.fn x=true\/X.env.scope.names.lookup x=some .local:=by first | exact .inl rfl | exact .inr rfl | assumption):
 PS X (.Assign [.Name x pos'] e pos) (O6 te (zm i)):=by
 intro pins s σ H D I h
 refine wpAny_Assign_Name (thn (he pins s σ H _ I h) fun v s1 ⟨y,H1,I1,r1,q1⟩=> ?_) hs
 exact Jp I1 hN hi hx r1 (fun s2 I2=>⟨_,H1,I2,q1⟩) hf
end
section
variable {X:Cx}{pos:Pos}
def Q4 (c:TT) (tb:TS):TS:=fun D σ H=>∃W:Nat->St->Hp->Prop,(∃m,W m σ H)/\∀m σ H,W m σ H->
 c σ H fun b H1=>if b=true then∃N:St->Hp->Prop,(∀σ' H',N σ' H'->∃m',m'<m/\W m' σ' H')/\tb {D with nx:=N,ct:=N,bk:=D.nx} σ H1 else D.nx σ H1
theorem Q5 {c:Expr}{body:List Stmt}{tc:TT}{tb:TS} (hp:PassesOwn (model X.prog X.w) X.A X.env X.xe) (hc:PT X c tc) (hb:PSs X body tb):PS X (.While c body [] pos) (Q4 tc tb):=by
 intro pins s σ H D I h
 obtain⟨W,⟨m0,w0⟩,turn⟩:=h
 refine wpAny_While (codeAny_whileLoop (fun n s'=>∃σ' H',Inv X pins σ' H' s'/\W n σ' H') ?_ m0 ⟨σ,H,I,w0⟩)
 rintro n s1 ⟨σ1,H1,I1,w1⟩
 refine wpAny_passesOwn hp (thn (hc pins s1 σ1 H1 _ I1 (turn n σ1 H1 w1)) fun b s2 ⟨H2,I2,q2⟩=> ?_)
 cases b with
 | true=>
   obtain⟨N,hN,q2⟩:=q2
   rw[if_pos rfl]
   refine wpAny_passesOwn hp (thn (hb pins s2 σ1 H2 _ I2 q2) fun f s3 q3=> ?_)
   cases f with
   | next=>
     obtain⟨σ3,H3,I3,n3⟩:=q3
     obtain⟨m',hm,w3⟩:=hN σ3 H3 n3
     exact⟨m',hm,σ3,H3,I3,w3⟩
   | cont=>
     obtain⟨σ3,H3,I3,n3⟩:=q3
     obtain⟨m',hm,w3⟩:=hN σ3 H3 n3
     exact⟨m',hm,σ3,H3,I3,w3⟩
   | brk=>exact q3
   | ret v=>exact q3
 | false=>
   rw[if_neg Bool.false_ne_true]
   exact wpAny_execs_nil ⟨σ1,H2,I2,q2⟩
end
structure It where
 go:Nat->Hp->Prop
 yld:Nat->Hp->V->Hp->Prop
 stop:Nat->Hp->Prop
def Aw (X:Cx) (pins:List (Addr×Obj)) (H:Hp) (b:Addr):Prop:=
 H b=none/\b≠X.env.locals/\b∉X.fs/\(b∈X.ex\/X.s₀.heap.objs.size<=b)/\(∀x c,X.env.cells.lookup x=some c->c≠b)/\∀p∈X.pn++pins,p.1≠b
theorem Inv.Js {X:Cx}{pins:List (Addr×Obj)}{σ:St}{H H':Hp}{s:Shared}{b:Addr} (I:Inv X pins σ H s) (hb:s.heap.objs.size<=b) (hn:H' b=none):Aw X pins H' b:=by
 refine⟨hn,Nat.ne_of_gt (Nat.lt_of_lt_of_le I.lt hb),I.nofs hb, .inr (Nat.le_trans I.sz hb),fun x c e z=> ?_,fun p hp z=> ?_⟩
 ·obtain⟨v,q⟩:=I.cell x c e
  exact absurd (Nat.lt_of_lt_of_le q.lt (by rw[z];exact hb)) (Nat.lt_irrefl _)
 ·exact absurd (Nat.lt_of_lt_of_le (Heap.lt_size (I.pin p hp).1) (by rw[z];exact hb)) (Nat.lt_irrefl _)
structure Turn (P:Program) (w:World) (K:PySem.W.Frag) (tg:Expr) (J:It) (fp:List Addr) (it:Addr) (tn:Nat->Heap->Prop):Prop where
 mem:it∈fp
 obj:∀i h,tn i h->∀b∈fp,∃o,h.get? b=some o/\∀v,o.data≠ .cell v
 keep:∀i h h',tn i h->(∀b∈fp,∀o,h.get? b=some o->h'.get? b=some o)->tn i h'
 item:∀(X:Cx),X.prog=P->X.w=w->X.K=K->X.calm=true->∀(i:Nat) (pins:List (Addr×Obj)) (s:Shared) (σ:St) (H:Hp) (E:Value->Shared->Prop),Inv X pins σ H s->(∀b∈fp,Aw X pins H b)->tn i s.heap->J.go i H->
  wpAny (model P w) X.A (pyNext (.ref it)) (fun r s1=>∃u,r=some u/\
   wpAny (model P w) X.A (letOwnedTupleGo tg (.ref it) u) (fun _ s2=>∃x H',Inv X pins σ H' s2/\RelV x u/\J.yld i H x H'/\tn (i+1) s2.heap/\∀b∈fp,H' b=none) E s1) E s
 done:∀(X:Cx),X.prog=P->X.w=w->X.K=K->X.calm=true->∀(i:Nat) (pins:List (Addr×Obj)) (s:Shared) (σ:St) (H:Hp) (E:Value->Shared->Prop),Inv X pins σ H s->(∀b∈fp,Aw X pins H b)->tn i s.heap->J.stop i H->
  wpAny (model P w) X.A (pyNext (.ref it)) (fun r s1=>r=none/\Inv X pins σ H s1) E s
 self:∀(A:Around) (i:Nat) (s:Shared) (Q:Value->Shared->Prop) (E:Value->Shared->Prop),tn i s.heap->Q (.ref it) s->wpAny (model P w) A (pyIter (.ref it)) Q E s
abbrev TI:=St->Hp->(It->Hp->Prop)->Prop
def PIE (X:Cx) (pins:List (Addr×Obj)) (σ:St) (tg:Expr) (R:It->Hp->Prop) (itv:Value) (s2:Shared):Prop:=
 ∃(it:Addr) (fp:List Addr) (tn:Nat->Heap->Prop) (J:It) (H':Hp),itv= .ref it/\Inv X pins σ H' s2/\Turn X.prog X.w X.K tg J fp it tn/\tn 0 s2.heap/\(∀b∈fp,Aw X pins H' b)/\R J H'
def PI (X:Cx) (tg iter:Expr) (wi:TI):Prop:=
 ∀(pins:List (Addr×Obj)) (s:Shared) (σ:St) (H:Hp) (R:It->Hp->Prop),Inv X pins σ H s->wi σ H R->
  wpAny (model X.prog X.w) X.A (eval iter X.env) (fun v s1=>wpAny (model X.prog X.w) X.A (pyIter v) (PIE X pins σ tg R) X.xe s1) X.xe s
theorem Q6 {M:Model}{A:Around}{E:Value->Shared->Prop}{s:Shared}{tg:Expr}{it:Addr}{u:Value}{o:Obj}{n:String}{vs:Array Value}{Q:Unit->Shared->Prop} (ho:s.heap.get? it=some o) (hc:o.cls= .type n) (hd:o.data= .fields vs)
 (hn:["enumerate","zip","dict_itemiterator","dict_reverseitemiterator","odict_iterator","itertools.zip_longest","itertools.pairwise"].contains n=false) (hQ:Q () s):wpAny M A (letOwnedTupleGo tg (.ref it) u) Q E s:=by
 unfold letOwnedTupleGo
 cases tg<;>first
  | exact wpAny_pure hQ
  | (cases u<;>first
      | exact wpAny_pure hQ
      | (refine wpAny_bind (wpAny_load ho ?_)
         rw[hc,hd]
         show wpAny M A (if(["enumerate","zip","dict_itemiterator","dict_reverseitemiterator","odict_iterator","itertools.zip_longest","itertools.pairwise"].contains n&&vs[0]? ==some (rawInt _))=true then _ else _) Q E s
         rw[if_neg (by intro h;rw[hn,Bool.false_and] at h;cases h)]
         exact wpAny_pure hQ))
def Itl (K:PySem.W.Frag) (a:Addr):It:=
 ⟨fun i H=>∃xs x,SqL K H a xs/\xs[i]? =some x,fun i H x H'=>H'=H/\∀xs,SqL K H a xs->xs[i]? =some x,fun i H=>∃xs,SqL K H a xs/\xs.length<=i⟩
def Itr (lo:Int) (n:Nat):It:=⟨fun i _=>i<n,fun i H x H'=>H'=H/\x= .int (lo+i),fun i _=>n<=i⟩
theorem O7 {P:Program}{w:World}{K:PySem.W.Frag}{tg:Expr} (a it:Addr):Turn P w K tg (Itl K a) [it] it (fun i h=>h.IsListIter it a i) where
 mem:=by simp
 obj:=fun i h st b hb=>by
  have e:b=it:=by simpa using hb
  subst e
  obtain⟨o,e,c,d⟩:=st
  exact⟨o,e,fun v z=>by rw[d] at z;cases z⟩
 keep:=fun i h h' st k=>st.at fun o e=>k it (by simp) o e
 item:=by
  intro X hP hw hK hc i pins s σ H E I hf st hg
  subst hP hw hK
  obtain⟨xs,x,hq,hx⟩:=hg
  obtain⟨its,rv,p,hz⟩:=I.list hq
  obtain⟨u,hu,ru⟩:=rv.get hx
  obtain⟨f0,f1,f2,f3,f4,f5⟩:=hf it (by simp)
  refine wpAny_pyNext_list_item st p.isList (x:=u) (by simpa using hu) fun h' st' sb=> ?_
  have I1:Inv X pins σ H {s with heap:=h'}:=I.turned (t':=s.toks) (fun b o hb e=>(sb.2 b hb).trans e) f0 f1 f3 f4 f5
  obtain⟨o,e,c,d⟩:=id st'
  exact⟨u,rfl,Q6 (s:={s with heap:=h'}) e c d (by decide) ⟨x,H,I1,ru,⟨rfl,fun ys hy=>by rw[I.Jq hy hq];exact hx⟩,st',fun b hb=>(hf b hb).1⟩⟩
 done:=by
  intro X hP hw hK hc i pins s σ H E I hf st hg
  subst hP hw hK
  obtain⟨xs,hq,hx⟩:=hg
  obtain⟨its,rv,p,hz⟩:=I.list hq
  obtain⟨f0,f1,f2,f3,f4,f5⟩:=hf it (by simp)
  have hl:=rv.length
  exact wpAny_pyNext_list_end (I.ok.hd hc) st p.isList (by simp;omega) fun h' eb=>⟨rfl,I.turned (t':=s.toks) (fun b o hb e=>eb b o hb e) f0 f1 f3 f4 f5⟩
 self:=fun _ _ _ _ _ st h=>wpAny_pyIter_listiter st h
theorem Lg {P:Program}{w:World}{K:PySem.W.Frag}{tg:Expr} (it:Addr) (lo:Int) (n:Nat):Turn P w K tg (Itr lo n) [it] it (fun i h=>IsRangeIter h it (lo+(i:Nat)* 1) ((n:Int) - (i:Nat)) 1) where
 mem:=by simp
 obj:=fun i h st b hb=>by
  have e:b=it:=by simpa using hb
  subst e
  exact⟨_,st,fun v z=>by
   have z':Data.fields _=Data.cell v:=z
   cases z'⟩
 keep:=fun i h h' st k=>k it (by simp) _ st
 item:=by
  intro X hP hw hK hc i pins s σ H E I hf st hg
  subst hP hw hK
  obtain⟨f0,f1,f2,f3,f4,f5⟩:=hf it (by simp)
  have W:=Walks.range (prog:=X.prog) (w:=X.w) (I.ok.hd hc) it lo 1 n
  refine W.item i s _ _ hg st fun v h' tk hv st' kk=> ?_
  obtain⟨t,rfl⟩:=hv
  have I1:Inv X pins σ H {s with heap:=h',toks:=tk}:=I.turned (fun b o hb e=>kk b o (by simpa using hb) e) f0 f1 f3 f4 f5
  refine⟨_,rfl,Q6 (s:={s with heap:=h',toks:=tk}) (n:="range_iterator") st' rfl rfl (by decide) ⟨.int (lo+i),H,I1,⟨t, ?_⟩,⟨rfl,rfl⟩,st',fun b hb=>(hf b hb).1⟩⟩
  rw[Int.mul_one]
 done:=by
  intro X hP hw hK hc i pins s σ H E I hf st hg
  subst hP hw hK
  obtain⟨f0,f1,f2,f3,f4,f5⟩:=hf it (by simp)
  exact wpAny_pyNext_range_end (I.ok.hd hc) st (by have:n<=i:=hg;omega) fun h' eb=>⟨rfl,I.turned (t':=s.toks) (fun b o hb e=>eb b o hb e) f0 f1 f3 f4 f5⟩
 self:=fun _ _ _ _ _ st h=>wpAny_pyIter_rangeiter st h
section
variable {X:Cx}{tg:Expr}
def X3 (K:PySem.W.Frag) (tl:TE):TI:=fun σ H R=>tl σ H fun x H1=>∃a,x= .ref a/\(∃xs,SqL K H1 a xs)/\R (Itl K a) H1
theorem Vc {l:Expr}{tl:TE} (hl:PE X l tl):PI X tg l (X3 X.K tl):=by
 intro pins s σ H R I h
 refine thn (hl pins s σ H _ I h) fun v s1 ⟨x,H1,I1,r1,q1⟩=> ?_
 obtain⟨a,e,⟨xs,hq⟩,q⟩:=q1
 subst e
 cases r1
 obtain⟨its,rv,p,hz⟩:=I1.list hq
 refine wpAny_pyIter_list p.isList ?_
 refine⟨s1.heap.objs.size,[s1.heap.objs.size],_,_,H1,rfl,I1.kept (t':=s1.toks) fun b o e=>Heap.get?_push_of_some _ e,O7 a _,⟨_,Heap.get?_push_size _ rfl,rfl,rfl⟩,fun b hb=> ?_,q⟩
 have e:b=s1.heap.objs.size:=by simpa using hb
 subst e
 exact I1.Js (Nat.le_refl _) (I1.hok.fresh (Nat.le_refl _))
theorem Q7 {pins:List (Addr×Obj)}{σ:St}{H:Hp}{s:Shared}{R:It->Hp->Prop}{E:Value->Shared->Prop}{lo hi:Int}{t u v:Tok}{tk:Nat} (I:Inv X pins σ H s) (h1: -(2 ^ 62)<=lo) (h2:lo<2 ^ 62) (h3: -(2 ^ 62)<=hi) (h4:hi<2 ^ 62)
 (q:R (Itr lo (hi - lo).toNat) H):wpAny (model X.prog X.w) X.A (pyIter (.ref s.heap.objs.size)) (PIE X pins σ tg R) E {s with heap:=s.heap.push {cls:= .type "range",data:= .fields #[.int lo t, .int hi u, .int 1 v]},toks:=tk}:=by
 refine wpAny_pyIter_range (IsRange.new ..) (small_one h1 h2 h3 h4) ?_
 have I1:Inv X pins σ H {s with heap:=s.heap.push {cls:= .type "range",data:= .fields #[.int lo t, .int hi u, .int 1 v]},toks:=tk}:=I.kept fun b o e=>Heap.get?_push_of_some _ e
 refine⟨(s.heap.push {cls:= .type "range",data:= .fields #[.int lo t, .int hi u, .int 1 v]}).objs.size,[(s.heap.push {cls:= .type "range",data:= .fields #[.int lo t, .int hi u, .int 1 v]}).objs.size],_,_,H,rfl,
  I1.kept (t':=tk) fun b o e=>Heap.get?_push_of_some _ e,Lg _ lo (hi - lo).toNat, ?_,fun b hb=> ?_,q⟩
 ·have e1:lo+((0:Nat):Int)* 1=lo:=by simp
  have e2:(((hi - lo).toNat:Nat):Int) - ((0:Nat):Int)=Builtin.Range.rangeSize lo hi 1:=by rw[rangeSize_one];split<;>omega
  show IsRangeIter _ _ (lo+((0:Nat):Int)* 1) ((((hi - lo).toNat:Nat):Int) - ((0:Nat):Int)) 1
  rw[e1,e2]
  exact Heap.get?_push_size _ rfl
 ·have e:b=(s.heap.push {cls:= .type "range",data:= .fields #[.int lo t, .int hi u, .int 1 v]}).objs.size:=by simpa using hb
  subst e
  exact I1.Js (Nat.le_refl _) (I1.hok.fresh (Nat.le_refl _))
def X4 (ta:TA):TI:=fun σ H R=>ta σ H fun vs H1=>∃j:Int,vs=[.int j]/\ -(2 ^ 62)<=j/\j<2 ^ 62/\R (Itr 0 j.toNat) H1
theorem O8 {a:Expr}{ta:TA}{p pos:Pos} (hg:Gl X "range") (hm:X.mg "range"=none) (ha:PA X [a] ta) (hs:starEach [a] X.env=[(false,eval a X.env)]:=by rfl):PI X tg (.Call (.Name "range" p) [a] [] pos) (X4 ta):=by
 intro pins s σ H R I h
 refine Call_ (yo I hg hm boot_range (PyProof.Rows.callWith_type1 (thn (ha pos pins s σ H _ I h) fun us s1 ⟨vs,H1,I1,r1,q1⟩=> ?_) hs rfl))
 obtain⟨j,e,q1,q2,q⟩:=q1
 subst e
 cases r1 with
 | cons r rr=>
   cases rr
   obtain⟨t,rfl⟩:=r
   exact call_range_1 (Q7 I1 (by omega) (by omega) q1 q2 (by simpa using q))
def ac9 (wi:TI) (g:TG) (tb:TS):TS:=fun D σ H=>wi σ H fun J H1=>∃W:Nat->Nat->St->Hp->Prop,(∃m,W 0 m σ H1)/\∀i m σ H,W i m σ H->
 (J.stop i H/\D.nx σ H)\/(J.go i H/\∃N:St->Hp->Prop,(∀σ' H',N σ' H'->∃m',m'<m/\W (i+1) m' σ' H')/\∀x H',J.yld i H x H'->g x σ H' fun σ2 H2=>tb {D with nx:=N,ct:=N,bk:=D.nx} σ2 H2)
def Dh (fp:List Addr) (h:Heap):List (Addr×Obj):=fp.filterMap fun b=>(h.get? b).map fun o=>(b,o)
theorem tG {fp:List Addr}{h:Heap}{b:Addr}{o:Obj} (hb:b∈fp) (e:h.get? b=some o):(b,o)∈Dh fp h:=List.mem_filterMap.mpr ⟨b,hb,by rw[e];rfl⟩
theorem O9 {fp:List Addr}{h:Heap}{p:Addr×Obj} (hp:p∈Dh fp h):p.1∈fp/\h.get? p.1=some p.2:=by
 obtain⟨b,hb,e⟩:=List.mem_filterMap.mp hp
 cases q:h.get? b with
 | none=>rw[q] at e;cases e
 | some o=>
   rw[q] at e
   have e':(b,o)=p:=Option.some.inj e
   subst e'
   exact⟨hb,q⟩
theorem Inv.pinned {pins:List (Addr×Obj)}{σ:St}{H:Hp}{s:Shared}{fp:List Addr} (I:Inv X pins σ H s) (hf:∀b∈fp,Aw X pins H b) (ho:∀b∈fp,∃o,s.heap.get? b=some o/\∀v,o.data≠ .cell v):Inv X (pins++Dh fp s.heap) σ H s:=
 I.Ng fun p hp=>(List.mem_append.mp hp).elim (fun z=>I.pin p (List.mem_append_right _ z)) fun z=>by
   obtain⟨hb,e⟩:=O9 z
   obtain⟨f0,f1,f2,_⟩:=hf p.1 hb
   obtain⟨o,e',d⟩:=ho p.1 hb
   rw[e] at e';cases e'
   exact⟨e,f0,f1,f2,d⟩
theorem Inv.unpinned {pins pl:List (Addr×Obj)}{σ:St}{H:Hp}{s:Shared} (I:Inv X (pins++pl) σ H s):Inv X pins σ H s:=I.Ng fun p hp=>I.pin p (List.mem_append_right _ (List.mem_append_left _ hp))
theorem ZD {iter:Expr}{body:List Stmt}{wi:TI}{g:TG}{tb:TS}{pos:Pos} (hp:PassesOwn (model X.prog X.w) X.A X.env X.xe) (hc:X.calm=true) (hi:PI X tg iter wi) (hg:PG X tg g) (hb:PSs X body tb)
 (hs:∀x,foldedSetIterable iter X.env x=pure x:=by intro _;rfl):PS X (.For tg iter body [] pos) (ac9 wi g tb):=by
 intro pins s σ H D I h
 refine wpAny_For (thn (hi pins s σ H _ I h) fun v s1 h1=>thn h1 fun itv s2 h2=> ?_) hs
 obtain⟨it,fp,tn,J,H2,e,I2,T,st2,f2,W,⟨m0,w0⟩,turn⟩:=h2
 subst e
 have stat:∀{H':Hp},(∀b∈fp,H' b=none)->∀b∈fp,Aw X pins H' b:=fun hn b hb=>⟨hn b hb,(f2 b hb).2⟩
 refine codeAny_forLoop_any (fun n s'=>∃i σ' H',Inv X pins σ' H' s'/\tn i s'.heap/\(∀b∈fp,H' b=none)/\W i n σ' H') ?_ m0 ⟨0,σ,H2,I2,st2,fun b hb=>(f2 b hb).1,w0⟩
 rintro n s3 ⟨i,σ3,H3,I3,st3,fr3,w3⟩
 rcases turn i n σ3 H3 w3 with⟨stop,qn⟩ | ⟨go,N,hN,step⟩
 ·refine wpAny_passesOwn hp (thn (T.done X rfl rfl rfl hc i pins s3 σ3 H3 X.xe I3 (stat fr3) st3 stop) fun r s4 ⟨hr,I4⟩=> ?_)
  subst hr
  exact wpAny_execs_nil ⟨σ3,H3,I4,qn⟩
 ·refine wpAny_passesOwn hp (thn (T.item X rfl rfl rfl hc i pins s3 σ3 H3 X.xe I3 (stat fr3) st3 go) fun r s4 ⟨u,hr,h4⟩=> ?_)
  subst hr
  refine wpAny_passesOwn hp (thn h4 fun _ s5 ⟨x,H5,I5,r5,y5,st5,fr5⟩=> ?_)
  have I5':=I5.pinned (stat fr5) (T.obj _ _ st5)
  refine wpAny_passesOwn hp (thn (hg _ s5 σ3 H5 x u _ I5' r5 (step x H5 y5)) fun _ s6 ⟨σ6,H6,I6,q6⟩=> ?_)
  refine wpAny_passesOwn hp (thn (hb _ s6 σ6 H6 _ I6 q6) fun f s7 q7=> ?_)
  have again:∀{σ7:St}{H7:Hp},Inv X (pins++Dh fp s5.heap) σ7 H7 s7->N σ7 H7->∃m,m<n/\∃i σ' H',Inv X pins σ' H' s7/\tn i s7.heap/\(∀b∈fp,H' b=none)/\W i m σ' H':=fun{σ7 H7} I7 n7=>by
   obtain⟨m',hm,w7⟩:=hN σ7 H7 n7
   refine⟨m',hm,i+1,σ7,H7,I7.unpinned,T.keep _ _ _ st5 fun b hb o e=>(I7.pin (b,o) (List.mem_append_right _ (List.mem_append_right _ (tG hb e)))).1,fun b hb=> ?_,w7⟩
   obtain⟨o,e,d⟩:=T.obj _ _ st5 b hb
   exact(I7.pin (b,o) (List.mem_append_right _ (List.mem_append_right _ (tG hb e)))).2.1
  cases f with
  | next=>obtain⟨σ7,H7,I7,n7⟩:=q7;exact again I7 n7
  | cont=>obtain⟨σ7,H7,I7,n7⟩:=q7;exact again I7 n7
  | brk=>obtain⟨σ7,H7,I7,q7⟩:=q7;exact⟨σ7,H7,I7.unpinned,q7⟩
  | ret v=>obtain⟨x7,σ7,H7,I7,r7,q7⟩:=q7;exact⟨x7,σ7,H7,I7.unpinned,r7,q7⟩
end
theorem Di {K:PySem.W.Frag}{a:Addr}{xs:List V}{g:TG}{tb:TS}{D:Ends}{σ:St}{H:Hp} (Pv:Nat->St->Hp->Prop) (h0:Pv 0 σ H) (hl:∀i σ H,i<=xs.length->Pv i σ H->SqL K H a xs)
 (hs:∀i x σ H,xs[i]? =some x->Pv i σ H->g x σ H fun σ2 H2=>tb {D with nx:=Pv (i+1),ct:=Pv (i+1),bk:=D.nx} σ2 H2) (hd:∀σ H,Pv xs.length σ H->D.nx σ H):
 ∃W:Nat->Nat->St->Hp->Prop,(∃m,W 0 m σ H)/\∀i m σ H,W i m σ H->
  ((Itl K a).stop i H/\D.nx σ H)\/((Itl K a).go i H/\∃N:St->Hp->Prop,(∀σ' H',N σ' H'->∃m',m'<m/\W (i+1) m' σ' H')/\∀x H',(Itl K a).yld i H x H'->g x σ H' fun σ2 H2=>tb {D with nx:=N,ct:=N,bk:=D.nx} σ2 H2):=by
 refine⟨fun i m σ H=>m=xs.length - i/\i<=xs.length/\Pv i σ H,⟨xs.length,by simp,Nat.zero_le _,h0⟩, ?_⟩
 rintro i m σ H ⟨rfl,hi,p⟩
 have q:=hl i σ H hi p
 by_cases hlt:i<xs.length
 ·refine .inr ⟨⟨xs,xs[i],q,by simp[hlt]⟩,Pv (i+1),fun σ' H' p'=>⟨xs.length - (i+1),by omega,rfl,hlt,p'⟩,fun x H' y=> ?_⟩
  obtain⟨e,y⟩:=y
  subst e
  exact hs i x σ _ (y xs q) p
 ·have e:i=xs.length:=by omega
  subst e
  exact .inl ⟨⟨xs,q,Nat.le_refl _⟩,hd σ H p⟩
theorem Pa {lo:Int}{n:Nat}{g:TG}{tb:TS}{D:Ends}{σ:St}{H:Hp} (Pv:Nat->St->Hp->Prop) (h0:Pv 0 σ H)
 (hs:∀i σ H,i<n->Pv i σ H->g (.int (lo+i)) σ H fun σ2 H2=>tb {D with nx:=Pv (i+1),ct:=Pv (i+1),bk:=D.nx} σ2 H2) (hd:∀σ H,Pv n σ H->D.nx σ H):
 ∃W:Nat->Nat->St->Hp->Prop,(∃m,W 0 m σ H)/\∀i m σ H,W i m σ H->
  ((Itr lo n).stop i H/\D.nx σ H)\/((Itr lo n).go i H/\∃N:St->Hp->Prop,(∀σ' H',N σ' H'->∃m',m'<m/\W (i+1) m' σ' H')/\∀x H',(Itr lo n).yld i H x H'->g x σ H' fun σ2 H2=>tb {D with nx:=N,ct:=N,bk:=D.nx} σ2 H2):=by
 refine⟨fun i m σ H=>m=n - i/\i<=n/\Pv i σ H,⟨n,by simp,Nat.zero_le _,h0⟩, ?_⟩
 rintro i m σ H ⟨rfl,hi,p⟩
 by_cases hlt:i<n
 ·refine .inr ⟨hlt,Pv (i+1),fun σ' H' p'=>⟨n - (i+1),by omega,rfl,hlt,p'⟩,fun x H' y=> ?_⟩
  obtain⟨e,y⟩:=y
  subst e y
  exact hs i σ _ hlt p
 ·have e:i=n:=by omega
  subst e
  exact .inl ⟨Nat.le_refl _,hd σ H p⟩
abbrev R2:=V->V->Hp->VK->Prop
def OpR (X:Cx) (f:Value->Value->Sem Value) (r:R2):Prop:=
 ∀(pins:List (Addr×Obj)) (s:Shared) (σ:St) (H:Hp) (x y:V) (v u:Value) (Q:VK),Inv X pins σ H s->RelV x v->RelV y u->r x y H Q->
  wpAny (model X.prog X.w) X.A (f v u) (EP X pins σ Q) X.xe s
def UnR (X:Cx) (f:Value->Sem Value) (r:V->Hp->VK->Prop):Prop:=
 ∀(pins:List (Addr×Obj)) (s:Shared) (σ:St) (H:Hp) (x:V) (v:Value) (Q:VK),Inv X pins σ H s->RelV x v->r x H Q->
  wpAny (model X.prog X.w) X.A (f v) (EP X pins σ Q) X.xe s
def uH (X:Cx) (f:Value) (r:List V->Hp->VK->Prop):Prop:=
 ∀(pins:List (Addr×Obj)) (s:Shared) (σ:St) (H:Hp) (xs:List V) (us:List Value) (Q:VK),Inv X pins σ H s->Vals xs us->r xs H Q->
  wpAny (model X.prog X.w) X.A (call f us) (EP X pins σ Q) X.xe s
def agW (X:Cx) (r:V->Hp->(Bool->Hp->Prop)->Prop):Prop:=
 ∀(pins:List (Addr×Obj)) (s:Shared) (σ:St) (H:Hp) (x:V) (v:Value) (Q:Bool->Hp->Prop),Inv X pins σ H s->RelV x v->r x H Q->
  wpAny (model X.prog X.w) X.A (truthy v) (TP X pins σ Q) X.xe s
def tOp (r:R2) (ta tb:TE):TE:=fun σ H Q=>ta σ H fun x H1=>tb σ H1 fun y H2=>r x y H2 Q
def tUn (r:V->Hp->VK->Prop) (ta:TE):TE:=fun σ H Q=>ta σ H fun x H1=>r x H1 Q
def rI (C:Int->Int->Prop) (g:Int->Int->V):R2:=fun x y H Q=>∃i j,x= .int i/\y= .int j/\C i j/\Q (g i j) H
def rI0 (g:Int->Int->V):R2:=fun x y H Q=>∃i j,x= .int i/\y= .int j/\Q (g i j) H
def rU (g:Int->V):V->Hp->VK->Prop:=fun x H Q=>∃i,x= .int i/\Q (g i) H
section
variable {X:Cx}{a b c:Expr}{ta tb tc:TE}{pos:Pos}
theorem ZF (ha:PE X a ta) (hb:PE X b tb) {pins:List (Addr×Obj)}{s:Shared}{σ:St}{H:Hp}{R:V->V->Hp->Prop} (I:Inv X pins σ H s)
 (h:ta σ H fun x H1=>tb σ H1 fun y H2=>R x y H2) {Q:Value->Shared->Prop}{f:Value->Value->Sem Value}
 (hf:∀v u s2 x y H2,Inv X pins σ H2 s2->RelV x v->RelV y u->R x y H2->wpAny (model X.prog X.w) X.A (f v u) Q X.xe s2):
 wpAny (model X.prog X.w) X.A (eval a X.env) (fun v s₁=>wpAny (model X.prog X.w) X.A (eval b X.env) (fun u s₂=>wpAny (model X.prog X.w) X.A (f v u) Q X.xe s₂) X.xe s₁) X.xe s:=by
 refine thn (ha pins s σ H _ I h) fun v s1 ⟨x,H1,I1,r1,q1⟩=> ?_
 refine thn (hb pins s1 σ H1 _ I1 q1) fun u s2 ⟨y,H2,I2,r2,q2⟩=> ?_
 exact hf v u s2 x y H2 I2 r1 r2 q2
theorem ada {op:Operator}{r:R2} (ho:OpR X (binaryOp op) r) (ha:PE X a ta) (hb:PE X b tb):PE X (.BinOp a op b pos) (tOp r ta tb):=by
 intro pins s σ H Q I h
 exact wpAny_BinOp (ZF ha hb I h fun v u s2 x y H2 I2 rx ry q=>ho pins s2 σ H2 x y v u Q I2 rx ry q)
theorem adb {op:UnaryOp}{r:V->Hp->VK->Prop} (ho:UnR X (unaryOp op) r) (ha:PE X a ta):PE X (.UnaryOp op a pos) (tUn r ta):=by
 intro pins s σ H Q I h
 exact UnaryOp_ (thn (ha pins s σ H _ I h) fun v s1 ⟨x,H1,I1,r1,q1⟩=>ho pins s1 σ H1 x v Q I1 r1 q1)
theorem opI {f:Value->Value->Sem Value}{C:Int->Int->Prop}{g:Int->Int->Int}
 (rule:∀(i j:Int) (t u:Tok) (s:Shared) (Q:Value->Shared->Prop) (E:Value->Shared->Prop),C i j->Q (.int (g i j) s.toks) {s with toks:=s.toks+1}->wpAny (model X.prog X.w) X.A (f (.int i t) (.int j u)) Q E s):
 OpR X f (rI C fun i j=> .int (g i j)):=by
 intro pins s σ H x y v u Q I rx ry h
 obtain⟨i,j,rfl,rfl,hc,q⟩:=h
 obtain⟨t,rfl⟩:=rx
 obtain⟨t',rfl⟩:=ry
 exact rule i j t t' s _ _ hc ⟨.int (g i j),H,I.tok _,⟨_,rfl⟩,q⟩
theorem ade {f:Value->Value->Sem Value}{g:Int->Int->Int}
 (rule:∀(i j:Int) (t u:Tok) (s:Shared) (Q:Value->Shared->Prop) (E:Value->Shared->Prop),Q (.int (g i j) s.toks) {s with toks:=s.toks+1}->wpAny (model X.prog X.w) X.A (f (.int i t) (.int j u)) Q E s):
 OpR X f (rI0 fun i j=> .int (g i j)):=by
 intro pins s σ H x y v u Q I rx ry h
 obtain⟨i,j,rfl,rfl,q⟩:=h
 obtain⟨t,rfl⟩:=rx
 obtain⟨t',rfl⟩:=ry
 exact rule i j t t' s _ _ ⟨.int (g i j),H,I.tok _,⟨_,rfl⟩,q⟩
theorem adf {f:Value->Value->Sem Value}{g:Int->Int->Bool}
 (rule:∀(i j:Int) (t u:Tok) (s:Shared) (Q:Value->Shared->Prop) (E:Value->Shared->Prop),Q (.bool (g i j)) s->wpAny (model X.prog X.w) X.A (f (.int i t) (.int j u)) Q E s):
 OpR X f (rI0 fun i j=> .bl (g i j)):=by
 intro pins s σ H x y v u Q I rx ry h
 obtain⟨i,j,rfl,rfl,q⟩:=h
 obtain⟨t,rfl⟩:=rx
 obtain⟨t',rfl⟩:=ry
 exact rule i j t t' s _ _ ⟨.bl (g i j),H,I,rfl,q⟩
def adg (i j:Int):Prop:=0<=j/\j<=1000000/\i.natAbs<2 ^ 64
inductive tH (i j:Int):Prop
 | inl (h: -(2 ^ 64)<i/\i<2 ^ 64)
 | inr (h: -(2 ^ 64)<j/\j<2 ^ 64)
 | big (h:IntMulOk i j)
theorem tH.ok {i j:Int} (h:tH i j):IntMulOk i j:=by
 cases h with
 | inl h=>exact IntMulOk.of_left (intBits_le_64 h.1 h.2)
 | inr h=>exact IntMulOk.of_right (intBits_le_64 h.1 h.2)
 | big h=>exact h
theorem ZG:OpR X (binaryOp .Add) (rI0 fun i j=> .int (i+j)):=ade fun _ _ _ _ _ _ _ q=>add_int q
theorem ZJ:OpR X (binaryOp .Sub) (rI0 fun i j=> .int (i - j)):=ade fun _ _ _ _ _ _ _ q=>sub_int q
theorem ZK:OpR X (binaryOp .Mult) (rI tH fun i j=> .int (i * j)):=opI fun _ _ _ _ _ _ _ hc q=>mul_int q hc.ok
theorem ZL:OpR X (binaryOp .Mod) (rI (fun _ j=>0<j) fun i j=> .int (i % j)):=opI fun i j _ _ _ _ _ hc q=>by
 have h1:(0:Int)<j:=hc
 exact mod_int' (by omega) (by rw[Int.fmod_eq_emod_of_nonneg i (by omega)];exact q)
theorem ZM:OpR X (binaryOp .Pow) (rI adg fun i j=> .int (i ^ j.toNat)):=opI fun _ _ _ _ _ _ _ hc q=>pow_int_small hc.1 hc.2.1 hc.2.2 q
theorem unI {f:Value->Sem Value}{g:Int->Int}
 (rule:∀(i:Int) (t:Tok) (s:Shared) (Q:Value->Shared->Prop) (E:Value->Shared->Prop),Q (.int (g i) s.toks) {s with toks:=s.toks+1}->wpAny (model X.prog X.w) X.A (f (.int i t)) Q E s):
 UnR X f (rU fun i=> .int (g i)):=by
 intro pins s σ H x v Q I rx h
 obtain⟨i,rfl,q⟩:=h
 obtain⟨t,rfl⟩:=rx
 exact rule i t s _ _ ⟨.int (g i),H,I.tok _,⟨_,rfl⟩,q⟩
theorem ZP:UnR X (unaryOp .USub) (rU fun i=> .int (-i)):=unI fun _ _ _ _ _ q=>neg_int q
end
def adh:V->V->Bool
 | .non, .non=>true | .non, .int _=>true | .int _, .non=>true | .non, .bl _=>true | .bl _, .non=>true | .non, .str _=>true | .str _, .non=>true
 | .int _, .int _=>true | .bl _, .bl _=>true | .str _, .str _=>true | .byt _, .byt _=>true
 | .int _, .str _=>true | .str _, .int _=>true | .bl _, .str _=>true | .str _, .bl _=>true
 | _,_=>false
def rEq:R2:=fun x y H Q=>adh x y=true/\Q (.bl (decide (x=y))) H
def rNe:R2:=fun x y H Q=>adh x y=true/\Q (.bl (!decide (x=y))) H
theorem Nj {i j:Int}:decide (V.int i=V.int j)=(i==j):=by
 rw[Bool.eq_iff_iff]
 simp
theorem Q8 {i j:Bool}:decide (V.bl i=V.bl j)=(i==j):=by
 rw[Bool.eq_iff_iff]
 simp
theorem Nk {i j:Str}:decide (V.str i=V.str j)=(i==j):=by
 rw[Bool.eq_iff_iff]
 simp
theorem Nm {i j:Array UInt8}:decide (V.byt i=V.byt j)=(i.toList==j.toList):=by
 rw[Bool.eq_iff_iff]
 cases i
 cases j
 simp
section
variable {X:Cx}{a b c:Expr}{ta tb tc:TE}{pos:Pos}
theorem dM {pins:List (Addr×Obj)}{σ:St}{H:Hp}{s:Shared}{Q:VK}{k k':Bool} (I:Inv X pins σ H s) (q:Q (.bl k) H) (e:k=k'):EP X pins σ Q (.bool k') s:=by
 subst e
 exact⟨.bl k,H,I,rfl,q⟩
theorem adi:OpR X (compareOp .Eq) rEq:=by
 intro pins s σ H x y v u Q I rx ry h
 obtain⟨hs,q⟩:=h
 cases x with
 | non=>
   cases rx
   cases y with
   | non=>cases ry;exact PySem.EqNone.eq_none_none (dM I q (by simp))
   | bl j=>cases ry;exact PySem.EqNone.eq_none_bool (dM I q (by simp))
   | int j=>obtain⟨t',rfl⟩:=ry;exact PySem.EqNone.eq_none_int (dM I q (by simp))
   | str j=>obtain⟨t',rfl⟩:=ry;exact PySem.EqNone.eq_none_str (dM I q (by simp))
   | _=>exact absurd (show false=true from hs) Bool.false_ne_true
 | bl i=>
   cases rx
   cases y with
   | non=>cases ry;exact PySem.EqNone.eq_bool_none (dM I q (by simp))
   | bl j=>cases ry;exact eq_bool (dM I q Q8)
   | str j=>obtain⟨t',rfl⟩:=ry;exact PySem.EqMixed.eq_bool_str (dM I q (by simp))
   | _=>exact absurd (show false=true from hs) Bool.false_ne_true
 | int i=>
   obtain⟨t,rfl⟩:=rx
   cases y with
   | non=>cases ry;exact PySem.EqNone.eq_int_none (dM I q (by simp))
   | int j=>obtain⟨t',rfl⟩:=ry;exact eq_int (dM I q Nj)
   | str j=>obtain⟨t',rfl⟩:=ry;exact PySem.EqMixed.eq_int_str (dM I q (by simp))
   | _=>exact absurd (show false=true from hs) Bool.false_ne_true
 | str i=>
   obtain⟨t,rfl⟩:=rx
   cases y with
   | non=>cases ry;exact PySem.EqNone.eq_str_none (dM I q (by simp))
   | bl j=>cases ry;exact PySem.EqMixed.eq_str_bool (dM I q (by simp))
   | int j=>obtain⟨t',rfl⟩:=ry;exact PySem.EqMixed.eq_str_int (dM I q (by simp))
   | str j=>obtain⟨t',rfl⟩:=ry;exact eq_str (dM I q Nk)
   | _=>exact absurd (show false=true from hs) Bool.false_ne_true
 | byt i=>
   obtain⟨t,rfl⟩:=rx
   cases y with
   | byt j=>obtain⟨t',rfl⟩:=ry;exact PySem.W.eq_bytes (dM I q Nm)
   | _=>exact absurd (show false=true from hs) Bool.false_ne_true
 | _=>cases y<;>exact absurd (show false=true from hs) Bool.false_ne_true
theorem adk:OpR X (compareOp .NotEq) rNe:=by
 intro pins s σ H x y v u Q I rx ry h
 obtain⟨hs,q⟩:=h
 cases x with
 | non=>
   cases rx
   cases y with
   | non=>cases ry;exact PySem.EqNone.ne_none_none (dM I q (by simp))
   | bl j=>cases ry;exact PySem.EqNone.ne_none_bool (dM I q (by simp))
   | int j=>obtain⟨t',rfl⟩:=ry;exact PySem.EqNone.ne_none_int (dM I q (by simp))
   | str j=>obtain⟨t',rfl⟩:=ry;exact PySem.EqNone.ne_none_str (dM I q (by simp))
   | _=>exact absurd (show false=true from hs) Bool.false_ne_true
 | bl i=>
   cases rx
   cases y with
   | non=>cases ry;exact PySem.EqNone.ne_bool_none (dM I q (by simp))
   | bl j=>cases ry;exact ne_bool (dM I q (congrArg not Q8))
   | str j=>obtain⟨t',rfl⟩:=ry;exact PySem.EqMixed.ne_bool_str (dM I q (by simp))
   | _=>exact absurd (show false=true from hs) Bool.false_ne_true
 | int i=>
   obtain⟨t,rfl⟩:=rx
   cases y with
   | non=>cases ry;exact PySem.EqNone.ne_int_none (dM I q (by simp))
   | int j=>obtain⟨t',rfl⟩:=ry;exact ne_int (dM I q (congrArg not Nj))
   | str j=>obtain⟨t',rfl⟩:=ry;exact PySem.EqMixed.ne_int_str (dM I q (by simp))
   | _=>exact absurd (show false=true from hs) Bool.false_ne_true
 | str i=>
   obtain⟨t,rfl⟩:=rx
   cases y with
   | non=>cases ry;exact PySem.EqNone.ne_str_none (dM I q (by simp))
   | bl j=>cases ry;exact PySem.EqMixed.ne_str_bool (dM I q (by simp))
   | int j=>obtain⟨t',rfl⟩:=ry;exact PySem.EqMixed.ne_str_int (dM I q (by simp))
   | str j=>obtain⟨t',rfl⟩:=ry;exact ne_str (dM I q (congrArg not Nk))
   | _=>exact absurd (show false=true from hs) Bool.false_ne_true
 | byt i=>
   obtain⟨t,rfl⟩:=rx
   cases y with
   | byt j=>obtain⟨t',rfl⟩:=ry;exact PySem.W.ne_bytes (dM I q (congrArg not Nm))
   | _=>exact absurd (show false=true from hs) Bool.false_ne_true
 | _=>cases y<;>exact absurd (show false=true from hs) Bool.false_ne_true
theorem adl:OpR X (compareOp .Lt) (rI0 fun i j=> .bl (decide (i<j))):=adf fun _ _ _ _ _ _ _ q=>lt_int q
theorem adm:OpR X (compareOp .Gt) (rI0 fun i j=> .bl (decide (j<i))):=adf fun _ _ _ _ _ _ _ q=>gt_int q
theorem ZQ:OpR X (compareOp .Is) (fun x y H Q=>y= .non/\Q (.bl (decide (x= .non))) H):=by
 intro pins s σ H x y v u Q I rx ry h
 obtain⟨rfl,q⟩:=h
 cases ry
 refine is_none_gen (dM I q ?_)
 cases x<;>first
  | (cases rx;rfl)
  | (obtain⟨t,rfl⟩:=rx;rfl)
theorem Vd:OpR X (compareOp .IsNot) (fun x y H Q=>y= .non/\Q (.bl (!decide (x= .non))) H):=by
 intro pins s σ H x y v u Q I rx ry h
 obtain⟨rfl,q⟩:=h
 cases ry
 refine isnot_none_gen (dM I q ?_)
 cases x<;>first
  | (cases rx;rfl)
  | (obtain⟨t,rfl⟩:=rx;rfl)
theorem ZR (b:Expr) {op:CmpOp} (h:op≠ .In:=by decide) (h2:op≠ .NotIn:=by decide):behindInMarks op b=false:=by
 have e1:(op==CmpOp.In)=false:=by cases op<;>first | rfl | exact absurd rfl h
 have e2:(op==CmpOp.NotIn)=false:=by cases op<;>first | rfl | exact absurd rfl h2
 cases b<;>simp[behindInMarks,e1,e2]
theorem Ve {op:CmpOp}{r:R2} (ho:OpR X (compareOp op) r) (ha:PE X a ta) (hb:PE X b tb) (hm:behindInMarks op b=false):PE X (.Compare a [op] [b] pos) (tOp r ta tb):=by
 intro pins s σ H Q I h
 exact wpAny_Compare1 (ZF ha hb I h fun v u s2 x y H2 I2 rx ry q=>ho pins s2 σ H2 x y v u Q I2 rx ry q) hm
def X5 (t:TE):TT:=fun σ H Q=>t σ H fun x H'=>∃k,x= .bl k/\Q k H'
theorem Vf {op:CmpOp}{r:R2} (ho:OpR X (compareOp op) r) (ha:PE X a ta) (hb:PE X b tb) (hm:behindInMarks op b=false):PT X (.Compare a [op] [b] pos) (X5 (tOp r ta tb)):=by
 intro pins s σ H Q I h
 refine wpAny_isTrue_Compare1 (thn (ha pins s σ H _ I h) fun v s1 ⟨x,H1,I1,r1,q1⟩=>thn (hb pins s1 σ H1 _ I1 q1) fun u s2 ⟨y,H2,I2,r2,q2⟩=>
  thn (ho pins s2 σ H2 x y v u _ I2 r1 r2 q2) fun c s3 ⟨z,H3,I3,r3,k,e,q3⟩=> ?_) hm
 subst e
 cases r3
 exact wpAny_truthy_bool ⟨H3,I3,q3⟩
def ZS (K:PySem.W.Frag) (x:V) (H:Hp) (k:Bool):Prop:=
 match x with
 | .non=>k=false
 | .bl b=>k=b
 | .int i=>k=(i !=0)
 | .str y=>y.length<=sizeLine/\k=((y.length:Int) !=0)
 | .byt y=>y.size<=sizeLine/\k=((y.size:Int) !=0)
 | .ref p=>(∃xs,SqL K H p xs/\k= !xs.isEmpty)\/(∃xs,SqT K H p xs/\k= !xs.isEmpty)\/∃kvs,H p=some (.dK kvs)/\k= !kvs.isEmpty
 | _=>False
theorem Lh {κ:Type}{kvs:List (κ×V)}{vs:List (κ×Value)} (r:KV kvs vs):(!vs.isEmpty)= !kvs.isEmpty:=by
 cases r<;>rfl
theorem Dj {xs:List V}{its:List Value} (r:Vals xs its):(!its.toArray.isEmpty)= !xs.isEmpty:=by
 cases r<;>simp
theorem Dk:(sizeLine:Nat)<2 ^ 63:=by rw[sizeLine_eq];decide
theorem ZV:agW X (fun x H Q=>∃k,ZS X.K x H k/\Q k H):=by
 intro pins s σ H x v Q I rx h
 obtain⟨k,e,q⟩:=h
 have hl:=Dk
 have hs:sizeLine=16777216:=sizeLine_eq
 cases x with
 | non=>
   cases rx
   have e':k=false:=e
   subst e'
   exact truthy_none ⟨H,I,q⟩
 | bl b=>
   cases rx
   have e':k=b:=e
   subst e'
   exact wpAny_truthy_bool ⟨H,I,q⟩
 | int i=>
   obtain⟨t,rfl⟩:=rx
   have e':k=(i !=0):=e
   subst e'
   exact PySem.P.truthy_int ⟨H,I,q⟩
 | str y=>
   obtain⟨t,rfl⟩:=rx
   obtain⟨hy,e'⟩:y.length<=sizeLine/\k=((y.length:Int) !=0):=e
   subst e'
   exact PySem.P.truthy_str (by omega) ⟨H,I.tok _,q⟩
 | byt y=>
   obtain⟨t,rfl⟩:=rx
   obtain⟨hy,e'⟩:y.size<=sizeLine/\k=((y.size:Int) !=0):=e
   subst e'
   exact PySem.W.truthy_bytes (by omega) ⟨H,I.tok _,q⟩
 | ref p=>
   cases rx
   have e':(∃xs,SqL X.K H p xs/\k= !xs.isEmpty)\/(∃xs,SqT X.K H p xs/\k= !xs.isEmpty)\/∃kvs,H p=some (.dK kvs)/\k= !kvs.isEmpty:=e
   rcases e' with⟨xs,hx,e'⟩ | ⟨xs,hx,e'⟩ | ⟨kvs,hx,e'⟩
   ·subst e'
    obtain⟨its,r,pl,hz⟩:=I.list hx
    have hlen:=r.length
    exact wpAny_truthy_list pl.isList (by simp only[List.size_toArray];omega) ⟨H,I.tok _,by rw[Dj r];exact q⟩
   ·subst e'
    obtain⟨its,r,pl,hz⟩:=I.tuple hx
    have hlen:=r.length
    exact truthy_tuple pl (by simp only[List.size_toArray];omega) ⟨H,I.tok _,by rw[Dj r];exact q⟩
   ·subst e'
    obtain⟨hz,hS,vs,r,m⟩:kvs.length<=sizeLine/\(p==sysModules)=false/\∃vs,KV kvs vs/\s.heap.DictOf (eV X.prog X.w) p vs:=I.hok p _ hx
    have hlen:kvs.length=vs.length:=Paired.length r
    exact wpAny_truthy_dict hS m (by omega) ⟨H,I.tok _,by rw[Lh r];exact q⟩
 | _=>exact(show False from e).elim
theorem Q9 (ha:PE X a ta) (he:∀whole,isTrue a X.env whole=(do let v <-whole;standAt a.pos;holding [v] (truthy v))):
 PT X a (fun σ H Q=>ta σ H fun x H'=>∃k,ZS X.K x H' k/\Q k H'):=by
 intro pins s σ H Q I h
 exact isTrue_plain (thn (ha pins s σ H _ I h) fun v s1 ⟨x,H1,I1,r1,q1⟩=>ZV pins s1 σ H1 x v Q I1 r1 q1) (he _)
theorem vals1 {x:V}{us:List Value} (r:Vals [x] us):∃u,us=[u]/\RelV x u:=by
 cases r with
 | cons r1 r2=>cases r2;exact⟨_,rfl,r1⟩
theorem vals2 {x y:V}{us:List Value} (r:Vals [x,y] us):∃u w',us=[u,w']/\RelV x u/\RelV y w':=by
 cases r with
 | cons r1 r2=>
   cases r2 with
   | cons r3 r4=>cases r4;exact⟨_,_,rfl,r1,r3⟩
theorem Pb (hc:X.calm=true):uH X (.builtin "max") (fun xs H Q=>∃i j,xs=[.int i, .int j]/\Q (.int (if j>i then j else i)) H):=by
 intro pins s σ H xs us Q I r h
 obtain⟨i,j,rfl,q⟩:=h
 obtain⟨u,w',rfl,⟨t,rfl⟩,⟨t',rfl⟩⟩:=vals2 r
 refine max_two_ints (I.ok.hd hc) fun h' tk k=>⟨_,H,I.kept k, ?_,q⟩
 by_cases hj:j>i
 ·rw[if_pos hj,if_pos hj];exact⟨_,rfl⟩
 ·rw[if_neg hj,if_neg hj];exact⟨_,rfl⟩
theorem Pg (hc:X.calm=true):uH X (.builtin "min") (fun xs H Q=>∃i j,xs=[.int i, .int j]/\Q (.int (if j<i then j else i)) H):=by
 intro pins s σ H xs us Q I r h
 obtain⟨i,j,rfl,q⟩:=h
 obtain⟨u,w',rfl,⟨t,rfl⟩,⟨t',rfl⟩⟩:=vals2 r
 refine min_two_ints (I.ok.hd hc) fun h' tk k=>⟨_,H,I.kept k, ?_,q⟩
 by_cases hj:j<i
 ·rw[if_pos hj,if_pos hj];exact⟨_,rfl⟩
 ·rw[if_neg hj,if_neg hj];exact⟨_,rfl⟩
end
structure Li (h:Heap) (x dx C:Addr) (mA:Str->Option Value):Prop where
 obj:h.get? x=some (PySem.W.instObj C dx)
 ns:h.Ns1 dx mA
 ne:dx≠x
theorem Ph {h:Heap}{dx:Addr}{mA:Str->Option Value} (n:h.Ns1 dx mA):∃od,h.get? dx=some od/\∀name,PySem.W.lookIn name od=some (mA name):=by
 obtain⟨o,es,ep,ho,hd,hk,_,hm⟩:=n
 refine⟨o,ho,fun name=> ?_⟩
 have e:=hm name
 unfold nsFind findBy at e
 rw[<-Array.find?_toList] at e
 unfold PySem.W.lookIn
 rw[hd]
 dsimp only
 split
 ·rename_i y q
  rw[q] at e
  exact congrArg some e
 ·rename_i q
  rw[q] at e
  have a:es.toList.any (·.refKey)=false:=by
   rw[List.any_eq_false]
   intro y hy
   obtain⟨z,t,hkey⟩:=hk y (Array.mem_toList_iff.mp hy)
   simp[DictEntry.refKey,hkey]
  have a':¬es.toList.any (·.refKey)=true:=by rw[a];exact Bool.false_ne_true
  rw[if_neg a']
  exact congrArg some e
theorem Li.look {h:Heap}{x dx C:Addr}{mA:Str->Option Value} (I:Li h x dx C mA):∃od,PySem.W.InstAt h x (PySem.W.instObj C dx) C (some od)/\∀name,PySem.W.lookIn name od=some (mA name):=
 let ⟨od,ho,hl⟩:=Ph I.ns
 ⟨od,⟨I.obj,rfl,rfl,ho⟩,hl⟩
section
variable {prog:Program}{w:World}{A:Around}{E:Value->Shared->Prop}{s:Shared}{K:PySem.W.Frag}{x dx C f:Addr}{mA:Str->Option Value}{name:Str}{v:Value}
theorem get_map {expr:Bool}{Q:Value->Shared->Prop} (X:K.In s.heap) (I:Li s.heap x dx C mA) (hg:PySem.W.plainGet K C name=true) (hh:PySem.W.hasDictIn K C=true)
 (ha:PySem.W.findIn K (.ref C) name=some none) (hv:mA name=some v) (hv':PySem.W.handedIn v=true) (h:Q v {s with toks:=s.toks+1}):
 wpAny (model prog w) A (getAttr (.ref x) name expr) Q E s:=by
 obtain⟨od,J,hl⟩:=I.look
 exact PySem.W.get_value X J (PySem.W.plainGet_of hg).1 (PySem.W.findObj_own hh ha rfl (by rw[hl,hv])) hv' h
theorem Ra {pl:Sem Bool}{Q:Value×List Value->Shared->Prop} (X:K.In s.heap) (I:Li s.heap x dx C mA) (hg:PySem.W.plainGet K C name=true)
 (hf:PySem.W.findIn K (.ref C) name=some (some (.ref f))) (ht:PySem.W.isFn K (.ref f)=true) (hv:mA name=none) (h:Q (.ref f,[.ref x]) s):
 wpAny (model prog w) A (getMethod (.ref x) name pl) Q E s:=by
 obtain⟨od,J,hl⟩:=I.look
 exact PySem.W.method_fn X J (PySem.W.plainGet_of hg).1 (PySem.W.plainGet_of hg).2 hf (beq_iff_eq.mp ht) (by show(PySem.W.lookIn name od).map (·.isSome)=some false;rw[hl,hv];rfl) h
theorem Vg {ns:List Str}{Q:Unit->Shared->Prop} (X:K.In s.heap) (I:Li s.heap x dx C mA)
 (hs:PySem.W.findIn K (.ref C) "__setattr__"=some (some (.builtin "object.__setattr__"))) (hp:PySem.W.plainOver K C=true) (ht:PySem.W.takerIn K C name=some none) (hh:PySem.W.hasDictIn K C=true)
 (hw:PySem.Within mA ns) (hsz:ns.length<=sizeLine)
 (h:∀h',Li h' x dx C (fun y=>if y=name then some v else mA y)->Heap.SameBut dx s.heap h'->Q () {s with heap:=h',toks:=s.toks+2}):
 wpAny (model prog w) A (setAttr (.ref x) name v) Q E s:=by
 obtain⟨od,J,hl⟩:=I.look
 refine PySem.W.set_plain X J hs (PySem.W.osa_open (s:={s with toks:=s.toks+1}) (r:=none) X J hp ht fun b=> ?_)
 obtain⟨cd,hc,hd'⟩:=PySem.W.any_some hh
 have hx:s.heap.get? x=some ⟨.ref C,some dx, .plain, #[]⟩:=I.obj
 refine wpAny_bind (wpAny_pure (wpAny_bind (wpAny_bind (wpAny_loadPart hx (wpAny_bind (PySem.W.Looks.here (s:={s with toks:=s.toks+1}) (PySem.W.looks_clsIn X hc) ?_))))))
 rw[hd']
 refine wpAny_pure (a:=some dx) (wpAny_bind (wpAny_pure (wpAny_bind ?_)))
 refine wpAny_nsSet1 (s:={s with toks:=s.toks+1}) I.ns fun h' hn2 hs2=> ?_
 obtain⟨oD,esD,epD,hoD,hdD,hcD⟩:=hn2.count (PySem.Within.cons name v hw)
 refine wpAny_bind (wpAny_lookBehind hoD (by rw[hdD];exact pastItsLine_dict (Nat.le_trans hcD (by rw[List.length_cons];omega))) ?_)
 exact wpAny_pure (h _ ⟨(hs2.2 _ (Ne.symm I.ne)).trans I.obj,hn2,I.ne⟩ hs2)
theorem Rb {R:Result->Shared->Prop}{vs:List Value}{kw:List (Str×Value)} (X:K.In s.heap) (hm:PySem.W.makesIn K C=true)
 (hi:PySem.W.findIn K (.ref C) "__init__"=some (some (.ref f))) (hf:PySem.W.typeIn K (.ref f)=some (.type "function"))
 (h:codeAny (model prog w) (A.under (.builtin "type.__call__" ⟨.ref C::vs,kw⟩)) (.call (.ref f) ⟨.ref (s.heap.objs.size+1)::vs,kw⟩) (PySem.W.InitBack (s.heap.objs.size+1) R)
   {s with heap:=(s.heap.push PySem.W.emptyDict).push (PySem.W.instObj C s.heap.objs.size)}):
 codeAny (model prog w) A (.call (.ref C) ⟨vs,kw⟩) R s:=by
 obtain⟨hh,g,d,t,os⟩:=s
 exact PySem.W.make_core (PySem.W.makes_of X hm) (PySem.W.looks_findIn X hi) (fun self=>PySem.W.bind_fn X self hf) (.inl rfl) h
end
def aO (f:Str) (v:V):List (Str×V)->List (Str×V)
 |[]=>[(f,v)]
 | (g,x)::r=>if g=f then(g,v)::r else(g,x)::aO f v r
theorem BV (f g:Str) (v:V):∀fs:List (Str×V),(aO f v fs).lookup g=if g=f then some v else fs.lookup g
 |[]=>by
  show List.lookup g [(f,v)]=_
  by_cases h:g=f
  ·have hb:(g==f)=true:=beq_iff_eq.mpr h
   simp only[List.lookup,hb,if_pos h]
  ·have hb:(g==f)=false:=beq_eq_false_iff_ne.mpr h
   simp only[List.lookup,hb,if_neg h]
 | (k,x)::r=>by
   have ih:=BV f g v r
   rw[show aO f v ((k,x)::r)=(if k=f then(k,v)::r else(k,x)::aO f v r) from rfl]
   by_cases hk:k=f
   ·rw[if_pos hk]
    by_cases h:g=k
    ·have hb:(g==k)=true:=beq_iff_eq.mpr h
     simp only[List.lookup,hb,if_pos (h.trans hk)]
    ·have hb:(g==k)=false:=beq_eq_false_iff_ne.mpr h
     simp only[List.lookup,hb,if_neg (fun e:g=f=>h (e.trans hk.symm))]
   ·rw[if_neg hk]
    by_cases h:g=k
    ·have hb:(g==k)=true:=beq_iff_eq.mpr h
     simp only[List.lookup,hb,if_neg (fun e:g=f=>hk (h.symm.trans e))]
    ·have hb:(g==k)=false:=beq_eq_false_iff_ne.mpr h
     simp only[List.lookup,hb]
     exact ih
theorem Ax (f:Str) (v:V):∀fs:List (Str×V),f∈(aO f v fs).map (·.1)/\∀g,g∈fs.map (·.1)->g∈(aO f v fs).map (·.1)
 |[]=>⟨by simp[aO],fun g h=>by simp at h⟩
 | (k,x)::r=>by
   obtain⟨i1,i2⟩:=Ax f v r
   rw[show aO f v ((k,x)::r)=(if k=f then(k,v)::r else(k,x)::aO f v r) from rfl]
   by_cases hk:k=f
   ·rw[if_pos hk]
    subst hk
    exact⟨by simp,fun g h=>by simpa using h⟩
   ·rw[if_neg hk]
    refine⟨?_,fun g h=> ?_⟩
    ·rw[List.map_cons]
     exact List.mem_cons_of_mem _ i1
    ·rw[List.map_cons] at h ⊢
     rcases List.mem_cons.mp h with e | e
     ·exact List.mem_cons.mpr (.inl e)
     ·exact List.mem_cons_of_mem _ (i2 g e)
theorem BW (f:Str) (v:V):∀fs:List (Str×V),(aO f v fs).length<=fs.length+1
 |[]=>by simp[aO]
 | (k,x)::r=>by
   have ih:=BW f v r
   rw[show aO f v ((k,x)::r)=(if k=f then(k,v)::r else(k,x)::aO f v r) from rfl]
   by_cases hk:k=f
   ·rw[if_pos hk,List.length_cons,List.length_cons];omega
   ·rw[if_neg hk,List.length_cons,List.length_cons];omega
theorem tD.some_of {v:V}{o:Option Value} (r:tD (some v) o):∃u,o=some u/\RelV v u:=by
 cases o with
 | none=>exact(show False from r).elim
 | some u=>exact⟨u,rfl,r⟩
theorem tD.none_of {o:Option Value} (r:tD none o):o=none:=by
 cases o with
 | none=>rfl
 | some u=>exact(show False from r).elim
theorem Pj {v:V}{u:Value} (r:RelV v u):PySem.W.handedIn u=true:=by
 cases v with
 | non=>cases(show u=Value.none from r);rfl
 | bl b=>cases(show u=Value.bool b from r);rfl
 | int i=>obtain⟨t,e⟩:=(show∃t,u=Value.int i t from r);cases e;rfl
 | str x=>obtain⟨t,e⟩:=(show∃t,u=Value.str x t from r);cases e;rfl
 | byt b=>obtain⟨t,e⟩:=(show∃t,u=Value.bytes b t from r);cases e;rfl
 | flt b=>obtain⟨t,e⟩:=(show∃t,u=Value.float b t from r);cases e;rfl
 | ref a=>cases(show u=Value.ref a from r);rfl
 | ty n=>cases(show u=Value.type n from r);rfl
section
variable {P:Program}{w:World}{H H':Hp}{h h':Heap}{a C dx:Addr}{fs fs':List (Str×V)}
theorem CV (hok:HOk P w H h) (e:H a=some (.ins C dx fs)):∃mA,Li h a dx C mA/\(∀f,tD (fs.lookup f) (mA f))/\PySem.Within mA (fs.map (·.1))/\fs.length<=1000/\H dx=some (.own a):=by
 obtain⟨d,z,ne,ob,mA,n,r,q⟩:=(show dJ P w H h a (.ins C dx fs) from hok a _ e)
 exact⟨mA,⟨ob,n,ne⟩,r,q,z,d⟩
end
structure Cls (K:PySem.W.Frag) (C:Addr):Prop where
 pg:PySem.W.plainGet K C Str.empty=true
 hd:PySem.W.hasDictIn K C=true
 po:PySem.W.plainOver K C=true
 sa:PySem.W.findIn K (.ref C) "__setattr__"=some (some (.builtin "object.__setattr__"))
theorem Cls.get {K:PySem.W.Frag}{C:Addr} (c:Cls K C) (f:Str):PySem.W.plainGet K C f=true:=c.pg
def iM (K:PySem.W.Frag) (C:Addr) (f:Str):Prop:=PySem.W.findIn K (.ref C) f=some none
theorem iM.taker {K:PySem.W.Frag}{C:Addr}{f:Str} (n:iM K C f):PySem.W.takerIn K C f=some none:=by
 unfold PySem.W.takerIn
 rw[show PySem.W.findIn K (.ref C) f=some none from n]
 rfl
structure Meth (K:PySem.W.Frag) (C:Addr) (m:Str) (f:Addr):Prop where
 at_:PySem.W.findIn K (.ref C) m=some (some (.ref f))
 fn:PySem.W.isFn K (.ref f)=true
 kp:PySem.W.keepIn K (.ref f)=true
section
variable {X:Cx}{pins:List (Addr×Obj)}{σ:St}{H:Hp}{s:Shared}{a C dx:Addr}{fs:List (Str×V)}{f:Str}{v:V}{A:Around}{E:Value->Shared->Prop}
theorem Lj {b:Bool}{Q:Value->Shared->Prop} (I:Inv X pins σ H s) (e:H a=some (.ins C dx fs)) (c:Cls X.K C) (n:iM X.K C f) (l:fs.lookup f=some v)
 (h:∀u s',Inv X pins σ H s'->RelV v u->Q u s'):wpAny (model X.prog X.w) A (getAttr (.ref a) f b) Q E s:=by
 obtain⟨mA,O,r,_,_,_⟩:=CV I.hok e
 obtain⟨u,hu,ru⟩:=tD.some_of (v:=v) (o:=mA f) (by rw[<-l];exact r f)
 exact get_map I.kIn O (c.get f) c.hd n hu (Pj ru) (h u _ (I.tok _) ru)
theorem Dl {m:Str}{g:Addr}{pl:Sem Bool}{Q:Value×List Value->Shared->Prop} (I:Inv X pins σ H s) (e:H a=some (.ins C dx fs)) (c:Cls X.K C) (k:Meth X.K C m g) (l:fs.lookup m=none)
 (h:Q (.ref g,[.ref a]) s):wpAny (model X.prog X.w) A (getMethod (.ref a) m pl) Q E s:=by
 obtain⟨mA,O,r,_,_,_⟩:=CV I.hok e
 have hn:mA m=none:=tD.none_of (by rw[<-l];exact r m)
 exact Ra I.kIn O (c.get m) k.at_ k.fn hn h
theorem Lk {y:V}{u:Value}{Q:Unit->Shared->Prop} (I:Inv X pins σ H s) (e:H a=some (.ins C dx fs)) (c:Cls X.K C) (n:iM X.K C f) (hl:fs.length<1000) (ry:RelV y u)
 (h:∀s',Inv X pins σ (upd H a (.ins C dx (aO f y fs))) s'->Q () s'):wpAny (model X.prog X.w) A (setAttr (.ref a) f u) Q E s:=by
 obtain⟨mA,O,r,wi,_,ho⟩:=CV I.hok e
 have hz:(fs.map (·.1)).length<=sizeLine:=by rw[List.length_map,sizeLine_eq];omega
 refine Vg I.kIn O c.sa c.po n.taker c.hd wi hz fun h' O' sb=>h _ ?_
 have hd:∃o,h'.get? dx=some o:=let ⟨o,_,_,e',_⟩:=O'.ns;⟨o,e'⟩
 refine I.write (x:=a) (e:=dx) (by rw[e];exact True.intro) (.inr ho) (fun b q hb z=>(sb.2 b hb).trans z) hd ?_
 refine⟨by rw[ao O.ne];exact ho, ?_,O.ne,O'.obj,_,O'.ns,fun g=> ?_,fun g hg=> ?_⟩
 ·have:=BW f y fs;omega
 ·show tD ((aO f y fs).lookup g) (if g=f then some u else mA g)
  rw[BV]
  by_cases q:g=f
  ·rw[if_pos q,if_pos q];exact ry
  ·rw[if_neg q,if_neg q];exact r g
 ·by_cases q:g=f
  ·rw[q];exact(Ax f y fs).1
  ·refine(Ax f y fs).2 g (wi g fun z=>hg ?_)
   show(if g=f then some u else mA g)=none
   rw[if_neg q];exact z
theorem Inv.made (I:Inv X pins σ H s):Inv X pins σ (upd (upd H s.heap.objs.size (.own (s.heap.objs.size+1))) (s.heap.objs.size+1) (.ins C s.heap.objs.size []))
 {s with heap:=(s.heap.push PySem.W.emptyDict).push (PySem.W.instObj C s.heap.objs.size)}:=by
 have e1:(s.heap.push PySem.W.emptyDict).get? s.heap.objs.size=some PySem.W.emptyDict:=Heap.get?_push_size s.heap rfl
 have e2:((s.heap.push PySem.W.emptyDict).push (PySem.W.instObj C s.heap.objs.size)).get? (s.heap.objs.size+1)=some (PySem.W.instObj C s.heap.objs.size):=by
  have:=Heap.get?_push_size (s.heap.push PySem.W.emptyDict) (o:=PySem.W.instObj C s.heap.objs.size) rfl
  rwa [Heap.size_push] at this
 have e3:(s.heap.push PySem.W.emptyDict).Ns s.heap.objs.size (fun _=>none):=⟨PySem.W.emptyDict, #[],_,e1,rfl,(fun e he=>absurd he (by simp)),fun _=>rfl⟩
 have I1:=I.laid (a:=s.heap.objs.size) (o:= .own (s.heap.objs.size+1)) (h':=s.heap.push PySem.W.emptyDict) (t':=s.toks) (fun b u q=>Heap.get?_push_of_some _ q) (Nat.le_refl _) ⟨_,e1⟩
 refine I1.laid (a:=s.heap.objs.size+1) (o:= .ins C s.heap.objs.size []) (t':=s.toks) (fun b u q=>Heap.get?_push_of_some _ q) (Nat.le_of_eq (Heap.size_push _ _)) ?_
 have ne:s.heap.objs.size≠s.heap.objs.size+1:=Nat.ne_of_lt (Nat.lt_succ_self _)
 refine⟨by rw[ao ne,ak],Nat.zero_le _,ne,e2,fun _=>none,(Heap.Ns1.of_empty e3).at fun o q=>Heap.get?_push_of_some _ q,fun _=>True.intro,fun y hy=>absurd rfl hy⟩
theorem Vh {prog:Program}{w:World}{env:Env}{e:Expr}{f:Str}{pos:Pos}{s:Shared}{Q:Value->Shared->Prop} (hb:attributeBase e f env (eval e env)=eval e env)
 (h:wpAny (model prog w) A (eval e env) (fun o s₁=>wpAny (model prog w) A (getAttr o f true) Q E s₁) E s):wpAny (model prog w) A (eval (.Attribute e f pos) env) Q E s:=
 Attribute_any_ h (by rw[arm_eval_Attribute,hb])
end
def ZW (K:PySem.W.Frag) (ta:TE) (f:Str):TE:=fun σ H Q=>ta σ H fun x H1=>∃a C dx fs v,x= .ref a/\H1 a=some (.ins C dx fs)/\Cls K C/\iM K C f/\fs.lookup f=some v/\Q v H1
def adn (K:PySem.W.Frag) (ta tv:TE) (f:Str):TS:=fun D σ H=>tv σ H fun y H1=>ta σ H1 fun x H2=>∃a C dx fs,x= .ref a/\H2 a=some (.ins C dx fs)/\Cls K C/\iM K C f/\fs.length<1000/\
 D.nx σ (upd H2 a (.ins C dx (aO f y fs)))
section
variable {X:Cx}{o e value:Expr}{f:Str}{pos pos' tpos:Pos}{ta tv:TE}
theorem ZX (he:PE X e ta) (hb:attributeBase e f X.env (eval e X.env)=eval e X.env):PE X (.Attribute e f pos) (ZW X.K ta f):=by
 intro pins s σ H Q I h
 refine Vh hb (thn (he pins s σ H _ I h) fun u s1 ⟨x,H1,I1,rx,a,C,dx,fs,v,ex,ea,c,n,l,q⟩=> ?_)
 subst ex
 obtain rfl:u=Value.ref a:=rx
 exact Lj I1 ea c n l fun u' s2 I2 ru=>⟨v,H1,I2,ru,q⟩
theorem ZZ (ha:PE X o ta) (hv:PE X value tv) (hs:swapsWith value (some (.Attribute o f pos')) pos.line X.env=pure false):PS X (.Assign [.Attribute o f pos'] value pos) (adn X.K ta tv f):=by
 intro pins s σ H D I h
 refine plainObj_wpAny_Assign_Attribute (thn (hv pins s σ H _ I h) fun u s1 ⟨y,H1,I1,ry,q⟩=>thn (ha pins s1 σ H1 _ I1 q) fun ov s2 ⟨x,H2,I2,rx,a,C,dx,fs,ex,ea,c,n,l,q2⟩=> ?_) hs
 subst ex
 obtain rfl:ov=Value.ref a:=rx
 exact Lk I2 ea c n l ry fun s3 I3=>⟨σ,_,I3,q2⟩
end
section
variable {X:Cx}{pins:List (Addr×Obj)}{σ:St}{H:Hp}{s:Shared}{A:Around}{E:Value->Shared->Prop}{Q:Value->Shared->Prop}{c:Value}{b:Bool}
inductive qw (K:PySem.W.Frag) (H:Hp):V->Value->Prop where
 | non:qw K H .non (.type "NoneType")
 | bl (x:Bool):qw K H (.bl x) (.type "bool")
 | int (i:Int):qw K H (.int i) (.type "int")
 | str (x:Str):qw K H (.str x) (.type "str")
 | flt (x:UInt64):qw K H (.flt x) (.type "float")
 | lst {a:Addr}{xs:List V} (e:H a=some (.lst xs)):qw K H (.ref a) (.type "list")
 | frz {a:Addr}{o:Obj}{xs:List V} (e:H a=some (.frz o (.lst xs))):qw K H (.ref a) (.type "list")
 | tup {a:Addr}{xs:List V} (e:H a=some (.tup xs)):qw K H (.ref a) (.type "tuple")
 | dK {a:Addr}{kvs:List (Key×V)} (e:H a=some (.dK kvs)):qw K H (.ref a) (.type "dict")
 | dT {a:Addr}{kvs:List (List Key×V)} (e:H a=some (.dT kvs)):qw K H (.ref a) (.type "dict")
 | ins {a C dx:Addr}{fs:List (Str×V)} (e:H a=some (.ins C dx fs)) (cl:Cls K C) (ha:PySem.W.findIn K (.ref C) "__class__"=some (some (.builtin "object.__class__")))
    (hn:PySem.W.specialIn K (.builtin "object.__class__") "__get__"=some (some (.builtin "getset_descriptor.__get__"))) (htk:PySem.W.takesIn K (.builtin "object.__class__")=some true)
    (hm:PySem.W.mroIn K C (.type "object")=some true):qw K H (.ref a) (.ref C)
theorem Pk {x:V}{u t:Value} (I:Inv X pins σ H s) (rx:RelV x u) (ty:qw X.K H x t) (e:PySem.W.kitOne X.K t c=some b) (h:∀tk,Q (.bool b) {s with toks:=tk}):
 wpAny (model X.prog X.w) A (call (.builtin "isinstance") [u,c]) Q E s:=by
 cases ty with
 | non=>cases(show u=Value.none from rx);exact PySem.W.kia_one PySem.W.kitx_none I.kIn True.intro e (fun z=>nomatch z) h
 | bl y=>cases(show u=Value.bool y from rx);exact PySem.W.kia_one PySem.W.kitx_bool I.kIn True.intro e (fun z=>nomatch z) h
 | int i=>obtain⟨t,q⟩:=(show∃t,u=Value.int i t from rx);cases q;exact PySem.W.kia_one PySem.W.kitx_int I.kIn True.intro e (fun z=>nomatch z) h
 | str y=>obtain⟨t,q⟩:=(show∃t,u=Value.str y t from rx);cases q;exact PySem.W.kia_one PySem.W.kitx_str I.kIn True.intro e (fun z=>nomatch z) h
 | flt y=>obtain⟨t,q⟩:=(show∃t,u=Value.float y t from rx);cases q;exact PySem.W.kia_one PySem.W.kitx_float I.kIn True.intro e (fun z=>nomatch z) h
 | @lst a xs ea=>
   cases(show u=Value.ref a from rx)
   obtain⟨_,_,n,_,h1⟩:=(show dJ X.prog X.w H s.heap a (.lst xs) from I.hok a _ ea)
   exact PySem.W.kia_one PySem.W.kitx_list I.kIn ⟨_,h1,rfl⟩ e (fun z=>nomatch z) h
 | @frz a ob xs ea=>
   cases(show u=Value.ref a from rx)
   obtain⟨_,_,_,n,_,h1⟩:=(show dJ X.prog X.w H s.heap a (.frz ob (.lst xs)) from I.hok a _ ea)
   exact PySem.W.kia_one PySem.W.kitx_list I.kIn ⟨_,h1,rfl⟩ e (fun z=>nomatch z) h
 | @tup a xs ea=>
   cases(show u=Value.ref a from rx)
   obtain⟨_,_,_,p⟩:=(show dJ X.prog X.w H s.heap a (.tup xs) from I.hok a _ ea)
   obtain⟨o,h1,h2,_⟩:=p
   exact PySem.W.kia_one PySem.W.kitx_tuple I.kIn ⟨o,h1,h2⟩ e (fun z=>nomatch z) h
 | @dK a kvs ea=>
   cases(show u=Value.ref a from rx)
   obtain⟨_,_,vs,_,p⟩:=(show dJ X.prog X.w H s.heap a (.dK kvs) from I.hok a _ ea)
   obtain⟨o,es,ep,h1,h2,_⟩:=p
   exact PySem.W.kia_one PySem.W.kitx_dict I.kIn ⟨o,h1,h2.1⟩ e (fun z=>nomatch z) h
 | @dT a kvs ea=>
   cases(show u=Value.ref a from rx)
   obtain⟨_,_,xs,_,o,es,ep,h1,h2,_⟩:=(show dJ X.prog X.w H s.heap a (.dT kvs) from I.hok a _ ea)
   exact PySem.W.kia_one PySem.W.kitx_dict I.kIn ⟨o,h1,h2.1⟩ e (fun z=>nomatch z) h
 | @ins a C dx fs ea cl ha hn htk hm=>
   cases(show u=Value.ref a from rx)
   obtain⟨mA,O,_⟩:=CV I.hok ea
   obtain⟨od,J,_⟩:=O.look
   exact PySem.W.kia_one (PySem.W.kitx_own (cl.get _) cl.hd ha hn htk hm) I.kIn J e (fun z=>nomatch z) h
end
structure iQ (k:Nat) (A:Around):Prop where
 hd:A.handled=none
 dp:A.depth+3 * k+5<recursionLimit
 un:A.units+16 * k+200<cLine
theorem iQ.mono {j k:Nat}{A:Around} (r:iQ k A) (h:j<=k):iQ j A:=⟨r.hd,by have:=r.dp;omega,by have:=r.un;omega⟩
theorem iQ.deeper {k:Nat}{A:Around} (r:iQ (k+1) A) (env:Env):iQ k (A.deeper env):=
 ⟨r.hd,by have:=r.dp;show A.depth+1+3 * k+5<_;omega,by have:=r.un;show A.units+3+16 * k+200<_;omega⟩
theorem Ln {A:Around}{C:Addr}{us:List Value}{kw:List (Str×Value)}:(A.under (.builtin "type.__call__" ⟨.ref C::us,kw⟩)).depth=A.depth+1:=by
 first | rfl | simp[Around.under,Code.weight,Code.isCreation,Code.isGuard,Code.isCaller,Code.frames,Code.isFrame,guardIds]
theorem Lp {A:Around}{C:Addr}{us:List Value}{kw:List (Str×Value)}:(A.under (.builtin "type.__call__" ⟨.ref C::us,kw⟩)).units=A.units+1:=by
 first | rfl | simp[Around.under,Code.cUnits,Code.frames,Code.isFrame]
theorem iQ.make {k:Nat}{A:Around} (r:iQ (k+1) A) (C:Addr) (us:List Value) (kw:List (Str×Value)):iQ k (A.under (.builtin "type.__call__" ⟨.ref C::us,kw⟩)):=
 ⟨r.hd,by have:=r.dp;rw[Ln];omega,by have:=r.un;rw[Lp];omega⟩
theorem iQ.depth {k:Nat}{A:Around} (r:iQ k A):A.depth<recursionLimit:=by have:=r.dp;omega
theorem iQ.units {k:Nat}{A:Around} (r:iQ k A):A.units+64<cLine:=by have:=r.un;omega
def Pn:TA:=fun _ H Q=>Q [] H
def qX (ta:TE) (tr:TA):TA:=fun σ H Q=>ta σ H fun x H1=>tr σ H1 fun xs H2=>Q (x::xs) H2
section
variable {X:Cx}{e:Expr}{es:List Expr}{te:TE}{t:TA}{pos:Pos}
theorem Z0:PA X [] Pn:=fun _ _ _ _ H Q I h=>Calls.spliced_nil ⟨[],H,I, .nil,h⟩
theorem Vi (ha:PE X e te) (hr:PA X es t) (hs:starEach (e::es) X.env=(false,eval e X.env)::starEach es X.env:=by rfl):PA X (e::es) (qX te t):=by
 intro pos pins s σ H Q I h
 rw[hs]
 show wpAny _ _ (spliced ((false,eval e X.env)::backTo pos (starEach es X.env))) _ _ s
 refine Calls.spliced_cons (thn (ha pins s σ H _ I h) fun u s1 ⟨x,H1,I1,r1,q1⟩=> ?_)
 exact thn (hr pos pins s1 σ H1 _ I1 q1) fun us s2 ⟨xs,H2,I2,r2,q2⟩=>⟨x::xs,H2,I2, .cons r1 r2,q2⟩
def ado (t:TA):TE:=fun σ H Q=>t σ H fun xs H1=>xs.length<=sizeLine/\∀p,H1 p=none->Q (.ref p) (upd H1 p (.tup xs))
def adp (t:TA):TE:=fun σ H Q=>t σ H fun xs H1=>xs.length<=sizeLine/\∀p,H1 p=none->Q (.ref p) (upd H1 p (.lst xs))
theorem aaa {x1} (h:PA X es t):PE X (.Tuple es x1 pos) (ado t):=by
 intro pins s σ H Q I hq
 refine wpAny_Tuple_spliced (thn (h pos pins s σ H _ I hq) fun us s1 ⟨xs,H1,I1,r,z,q⟩=>⟨by rw[<-r.length];exact z, ?_⟩)
 have hf:H1 s1.heap.objs.size=none:=I1.hok.fresh (Nat.le_refl _)
 refine⟨.ref s1.heap.objs.size,upd H1 s1.heap.objs.size (.tup xs),I1.laid (t':=s1.toks) (fun b u e=>Heap.get?_push_of_some _ e) (Nat.le_refl _) ?_,rfl,q _ hf⟩
 exact⟨z,us,r,⟨_,Heap.get?_push_size _ rfl,rfl,_,rfl⟩⟩
theorem aab (h:PA X es t):PE X (.List es pos) (adp t):=by
 intro pins s σ H Q I hq
 refine wpAny_List_spliced (thn (h pos pins s σ H _ I hq) fun us s1 ⟨xs,H1,I1,r,z,q⟩=>⟨by rw[<-r.length];exact z, ?_⟩)
 have hf:H1 s1.heap.objs.size=none:=I1.hok.fresh (Nat.le_refl _)
 refine⟨.ref s1.heap.objs.size,upd H1 s1.heap.objs.size (.lst xs),I1.laid (t':=s1.toks) (fun b u e=>Heap.get?_push_of_some _ e) (Nat.le_refl _) ?_,rfl,q _ hf⟩
 exact⟨z,us,0,r,Heap.get?_push_size _ rfl⟩
end
abbrev Sp:=List V->Hp->VK->XK->Prop
abbrev CXT:=List Env->Hp->Shared->XK->Value->Shared->Prop
structure Lq (P:Program) (w:World) (K:PySem.W.Frag) (mg:Str->Option Value) (base:Heap) (A:Around) (outer:List Env) (s:Shared) (H:Hp):Prop where
 frames:A.frames=some outer
 mod:Mod K mg base
 bs:∀b o,base.get? b=some o->s.heap.get? b=some o/\H b=none
 bsz:base.objs.size<=s.heap.objs.size
 funs:s.heap.FunFrames base outer
 frf:∀b∈frs outer,H b=none
 hok:HOk P w H s.heap
 bare:AllBare s.gens
def CE (outer:List Env) (P:Program) (w:World) (H:Hp) (s:Shared) (Q:VK) (u:Value) (s':Shared):Prop:=
 ∃v H',s'.os=s.os/\AllBare s'.gens/\Un (frs outer) [] H H' s.heap s'.heap/\HOk P w H' s'.heap/\RelV v u/\Q v H'
def CR (CX:CXT) (outer:List Env) (P:Program) (w:World) (H:Hp) (s:Shared) (Q:VK) (E:XK) (r:Result) (s':Shared):Prop:=
 match r with
 | .ok (.ret u)=>CE outer P w H s Q u s'
 | .ok _=>False
 | .error e=>CX outer H s E e s'
structure aY (P:Program) (w:World) (K:PySem.W.Frag) (mg:Str->Option Value) (base:Heap) (CX:CXT) (k:Nat) (f:Addr) (fd:FuncData) (ps:List Str) (sp:Sp):Prop where
 len:∀vs H Q E,sp vs H Q E->vs.length=ps.length
 run:∀(A:Around) (outer:List Env) (s:Shared) (H:Hp) (args:Args) (us:List Value) (vs:List V) (Q:VK) (E:XK),iQ k A->Lq P w K mg base A outer s H->BindsTo s fd args (ps.zip us)->Vals vs us->sp vs H Q E->
  codeAny (model P w) A (.call (.ref f) args) (CR CX outer P w H s Q E) s
theorem aY.mono {P:Program}{w:World}{K:PySem.W.Frag}{mg:Str->Option Value}{base:Heap}{CX:CXT}{j k:Nat}{f:Addr}{fd:FuncData}{ps:List Str}{sp:Sp} (F:aY P w K mg base CX j f fd ps sp) (h:j<=k):
 aY P w K mg base CX k f fd ps sp:=⟨F.len,fun A outer s H args us vs Q E hr=>F.run A outer s H args us vs Q E (hr.mono h)⟩
theorem aY.imp {P:Program}{w:World}{K:PySem.W.Frag}{mg:Str->Option Value}{base:Heap}{CX:CXT}{k:Nat}{f:Addr}{fd:FuncData}{ps:List Str}{sp sp':Sp} (F:aY P w K mg base CX k f fd ps sp)
 (h:∀vs H Q E,sp' vs H Q E->sp vs H Q E):aY P w K mg base CX k f fd ps sp':=
 ⟨fun vs H Q E q=>F.len vs H Q E (h _ _ _ _ q),fun A outer s H args us vs Q E hr he hb hv hs=>F.run A outer s H args us vs Q E hr he hb hv (h _ _ _ _ hs)⟩
theorem Lq.make {P:Program}{w:World}{K:PySem.W.Frag}{mg:Str->Option Value}{base:Heap}{A:Around}{outer:List Env}{s:Shared}{H:Hp} (e:Lq P w K mg base A outer s H) (C:Addr) (us:List Value) (kw:List (Str×Value)):
 Lq P w K mg base (A.under (.builtin "type.__call__" ⟨.ref C::us,kw⟩)) outer s H:=⟨by first | exact e.frames | (simpa [Around.under,Code.envs,Code.isFrame,pushEnvs] using e.frames),e.mod,e.bs,e.bsz,e.funs,e.frf,e.hok,e.bare⟩
section
variable {X:Cx}{pins:List (Addr×Obj)}{σ:St}{H:Hp}{s s':Shared}
theorem Inv.env0 (I:Inv X pins σ H s):Lq X.prog X.w X.K X.mg X.base X.A X.stack s H:=
 ⟨I.ok.frames,I.ok.mod,I.bs,Nat.le_trans I.ok.bsz I.sz,I.stack,I.Hj,I.hok,I.bare⟩
theorem Inv.after {Q:VK}{u:Value} (I:Inv X pins σ H s) (h:CE X.stack X.prog X.w H s Q u s'):EP X pins σ Q u s':=by
 obtain⟨v,H',os,bare,un,hok,r,q⟩:=h
 obtain⟨hh,g,d,t,os'⟩:=s'
 obtain rfl:os'=s.os:=os
 exact⟨v,H',I.call (h':=hh) (g':=g) (d':=d) (t':=t) (ch:=[]) un hok bare (fun b z=>absurd z (by simp)),r,q⟩
end
def Np (sp:Sp) (dvs:List V) (E:XK) (t:TA):TE:=fun σ H Q=>t σ H fun vs H1=>sp (vs++dvs) H1 Q E
def Nq (C:Addr) (m:Str) (sp:Sp) (dvs:List V) (E:XK) (ta:TE) (t:TA):TE:=fun σ H Q=>ta σ H fun x H1=>∃a dx fs,x= .ref a/\H1 a=some (.ins C dx fs)/\fs.lookup m=none/\
 t σ H1 fun vs H2=>sp (x::(vs++dvs)) H2 Q E
def X6 (C:Addr) (sp:Sp) (dvs:List V) (E:XK) (t:TA):TE:=fun σ H Q=>t σ H fun vs H1=>∀x dx,H1 x=none->H1 dx=none->dx≠x->
 sp (.ref x::(vs++dvs)) (upd (upd H1 dx (.own x)) x (.ins C dx [])) (fun v H2=>v= .non/\Q (.ref x) H2) E
def Binds (K:PySem.W.Frag) (fd:FuncData) (ps:List Str) (ds:List Value):Prop:=
 ∀(s:Shared) (us:List Value),K.In s.heap->(us++ds).length=ps.length->BindsTo s fd ⟨us,[]⟩ (ps.zip (us++ds))
theorem Binds.all {K:PySem.W.Frag}{fd:FuncData}{ps:List Str} (h:∀us:List Value,us.length=ps.length->bindArgs fd ⟨us,[]⟩=pure (ps.zip us)):Binds K fd ps []:=fun s us _ hl=>by
 rw[List.append_nil] at hl ⊢
 exact .of_eq (h us hl)
def Passes (CX:CXT) (X:Cx) (E:XK):Prop:=∀(pins:List (Addr×Obj)) (σ:St) (H:Hp) (s:Shared) (e:Value) (s':Shared),Inv X pins σ H s->CX X.stack H s E e s'->X.xe e s'
section
variable {X:Cx}{CX:CXT}{k:Nat}{f C:Addr}{fd:FuncData}{ps:List Str}{sp:Sp}{dvs:List V}{ds:List Value}{E:XK}{x m:Str}{p pos apos:Pos}{e o:Expr}{es:List Expr}{ta:TE}{t:TA}
theorem Hl {pins:List (Addr×Obj)}{σ:St}{H:Hp}{s:Shared}{Q:VK}{us:List Value}{vs:List V} (F:aY X.prog X.w X.K X.mg X.base CX k f fd ps sp) (hr:iQ k X.A) (hb:Binds X.K fd ps ds) (hd:Vals dvs ds) (hx:Passes CX X E)
 (I:Inv X pins σ H s) (r:Vals vs us) (h:sp (vs++dvs) H Q E):wpAny (model X.prog X.w) X.A (call (.ref f) us) (EP X pins σ Q) X.xe s:=by
 have r2:Vals (vs++dvs) (us++ds):=r.append hd
 have hl:(us++ds).length=ps.length:=by rw[<-r2.length];exact F.len _ _ _ _ h
 refine wpAny_call (codeAny_mono (F.run X.A X.stack s H ⟨us,[]⟩ (us++ds) (vs++dvs) Q E hr I.env0 (hb s us I.kIn hl) r2 h) fun r s' hq=> ?_)
 cases r with
 | error e=>exact hx pins σ H s e s' I hq
 | ok fl=>
   cases fl with
   | ret u=>exact I.after hq
   | next=>exact False.elim hq
   | brk=>exact False.elim hq
   | cont=>exact False.elim hq
theorem Vj (F:aY X.prog X.w X.K X.mg X.base CX k f fd ps sp) (hr:iQ k X.A) (hg:Gl X x) (hm:X.mg x=some (.ref f)) (hk:PySem.W.keepIn X.K (.ref f)=true) (hb:Binds X.K fd ps ds) (hd:Vals dvs ds) (hx:Passes CX X E)
 (ha:PA X (e::es) t) (hdb:(x==("__debug__":Str))=false:=by decide) (he:starEach (e::es) X.env=(false,eval e X.env)::starEach es X.env:=by rfl) (hpl:(backTo pos (starEach es X.env)).any (·.1)=false:=by rfl):
 PE X (.Call (.Name x p) (e::es) [] pos) (Np sp dvs E t):=by
 intro pins s σ H Q I h
 refine wpAny_Call_Name_kw (tE I hg hm ?_ hdb)
 refine PySem.W.callWith_K (h₀:=X.base) I.ok.mod.kin hk (thn (ha pos pins s σ H _ I h) fun us s1 ⟨vs,H1,I1,r,q⟩=>⟨I1.kIn, ?_⟩) he hpl
 exact Hl F hr hb hd hx I1 r q
theorem Rc (F:aY X.prog X.w X.K X.mg X.base CX k f fd ps sp) (hr:iQ k X.A) (hg:Gl X x) (hm:X.mg x=some (.ref f)) (hk:PySem.W.keepIn X.K (.ref f)=true) (hb:Binds X.K fd ps ds) (hd:Vals dvs ds) (hx:Passes CX X E)
 (hdb:(x==("__debug__":Str))=false:=by decide):PE X (.Call (.Name x p) [] [] pos) (Np sp dvs E Pn):=by
 intro pins s σ H Q I h
 refine wpAny_Call_Name_kw (tE I hg hm ?_ hdb)
 exact PySem.W.callWith_K0 I.kIn hk (Hl (us:=[]) F hr hb hd hx I .nil h)
theorem Vk {pl:Sem Bool} (he:PE X o ta) (c:Cls X.K C) (hm:Meth X.K C m f) (F:aY X.prog X.w X.K X.mg X.base CX k f fd ps sp) (hr:iQ k X.A) (hb:Binds X.K fd ps ds) (hd:Vals dvs ds) (hx:Passes CX X E) (ha:PA X (e::es) t)
 (hst:starEach (e::es) X.env=(false,eval e X.env)::starEach es X.env:=by rfl) (hpl:(backTo pos (starEach es X.env)).any (·.1)=false:=by rfl)
 (ht:eval (.Call (.Attribute o m apos) (e::es) [] pos) X.env=(do
   let ov <-eval o X.env
   standAt apos.atName
   let (f,first) <-holding [ov] (getMethod ov m pl)
   callWith pos f first (backTo pos (starEach (e::es) X.env)) (backToKw pos (keywordEach [] X.env))):=by rfl):
 PE X (.Call (.Attribute o m apos) (e::es) [] pos) (Nq C m sp dvs E ta t):=by
 intro pins s σ H Q I h
 refine PySem.W.methodCall_KW (pl:=pl) (thn (he pins s σ H _ I h) fun u s1 ⟨x,H1,I1,rx,a,dx,fs,ex,ea,l,q⟩=> ?_) ht
 subst ex
 obtain rfl:u=Value.ref a:=rx
 refine Dl I1 ea c hm l ?_
 refine PySem.W.callWith_K (first:=[.ref a]) (h₀:=X.base) I.ok.mod.kin hm.kp (thn (ha pos pins s1 σ H1 _ I1 q) fun us s2 ⟨vs,H2,I2,r,q2⟩=>⟨I2.kIn, ?_⟩) hst hpl
 exact Hl (us:= .ref a::us) (vs:= .ref a::vs) F hr hb hd hx I2 (.cons rfl r) q2
theorem Rf {pl:Sem Bool} (he:PE X o ta) (c:Cls X.K C) (hm:Meth X.K C m f) (F:aY X.prog X.w X.K X.mg X.base CX k f fd ps sp) (hr:iQ k X.A) (hb:Binds X.K fd ps ds) (hd:Vals dvs ds) (hx:Passes CX X E)
 (ht:eval (.Call (.Attribute o m apos) [] [] pos) X.env=(do
   let ov <-eval o X.env
   standAt apos.atName
   let (f,first) <-holding [ov] (getMethod ov m pl)
   callWith pos f first (backTo pos (starEach [] X.env)) (backToKw pos (keywordEach [] X.env))):=by rfl):
 PE X (.Call (.Attribute o m apos) [] [] pos) (Nq C m sp dvs E ta Pn):=by
 intro pins s σ H Q I h
 refine PySem.W.methodCall_KW (pl:=pl) (thn (he pins s σ H _ I h) fun u s1 ⟨x,H1,I1,rx,a,dx,fs,ex,ea,l,q⟩=> ?_) ht
 subst ex
 obtain rfl:u=Value.ref a:=rx
 refine Dl I1 ea c hm l ?_
 exact PySem.W.callWith_K0 (first:=[.ref a]) I1.kIn hm.kp (Hl (us:=[.ref a]) (vs:=[.ref a]) F hr hb hd hx I1 (.cons rfl .nil) q)
structure Mk (K:PySem.W.Frag) (C f:Addr):Prop where
 makes:PySem.W.makesIn K C=true
 init:PySem.W.findIn K (.ref C) "__init__"=some (some (.ref f))
 fn:PySem.W.isFn K (.ref f)=true
 kp:PySem.W.keepIn K (.ref C)=true
theorem Rg {pins:List (Addr×Obj)}{σ:St}{H:Hp}{s:Shared}{Q:VK}{us:List Value}{vs:List V} (M:Mk X.K C f) (F:aY X.prog X.w X.K X.mg X.base CX k f fd ps sp) (hr:iQ (k+1) X.A) (hb:Binds X.K fd ps ds) (hd:Vals dvs ds)
 (hx:Passes CX X E) (I:Inv X pins σ H s) (r:Vals vs us)
 (h:∀x dx,H x=none->H dx=none->dx≠x->sp (.ref x::(vs++dvs)) (upd (upd H dx (.own x)) x (.ins C dx [])) (fun v H2=>v= .non/\Q (.ref x) H2) E):
 wpAny (model X.prog X.w) X.A (call (.ref C) us) (EP X pins σ Q) X.xe s:=by
 have hq:=h (s.heap.objs.size+1) s.heap.objs.size (I.hok.fresh (Nat.le_succ _)) (I.hok.fresh (Nat.le_refl _)) (Nat.ne_of_lt (Nat.lt_succ_self _))
 have I2:=Inv.made (C:=C) I
 have r2:Vals (V.ref (s.heap.objs.size+1)::(vs++dvs)) (Value.ref (s.heap.objs.size+1)::(us++ds)):= .cons rfl (r.append hd)
 have hl:(Value.ref (s.heap.objs.size+1)::us++ds).length=ps.length:=by
  have e:=r2.length
  rw[F.len _ _ _ _ hq] at e
  exact e.symm
 refine wpAny_call (Rb (f:=f) I.kIn M.makes M.init (beq_iff_eq.mp M.fn) (codeAny_mono (F.run _ X.stack _ _ ⟨Value.ref (s.heap.objs.size+1)::us,[]⟩ (Value.ref (s.heap.objs.size+1)::(us++ds)) _ _ E (hr.make C us [])
  (I2.env0.make C us []) (hb _ (Value.ref (s.heap.objs.size+1)::us) I2.kIn hl) r2 hq) fun r s' hq'=> ?_))
 cases r with
 | error e=>exact hx pins σ _ _ e s' I2 hq'
 | ok fl=>
   cases fl with
   | ret u=>
     obtain⟨v,H',I3,rv,ev,q3⟩:=I2.after hq'
     subst ev
     exact⟨rv,⟨V.ref (s.heap.objs.size+1),H',I3,rfl,q3⟩⟩
   | next=>exact False.elim hq'
   | brk=>exact False.elim hq'
   | cont=>exact False.elim hq'
theorem Vl (M:Mk X.K C f) (F:aY X.prog X.w X.K X.mg X.base CX k f fd ps sp) (hr:iQ (k+1) X.A) (hg:Gl X x) (hm:X.mg x=some (.ref C)) (hb:Binds X.K fd ps ds) (hd:Vals dvs ds) (hx:Passes CX X E)
 (ha:PA X (e::es) t) (hdb:(x==("__debug__":Str))=false:=by decide) (he:starEach (e::es) X.env=(false,eval e X.env)::starEach es X.env:=by rfl) (hpl:(backTo pos (starEach es X.env)).any (·.1)=false:=by rfl):
 PE X (.Call (.Name x p) (e::es) [] pos) (X6 C sp dvs E t):=by
 intro pins s σ H Q I h
 refine wpAny_Call_Name_kw (tE I hg hm ?_ hdb)
 refine PySem.W.callWith_K (h₀:=X.base) I.ok.mod.kin M.kp (thn (ha pos pins s σ H _ I h) fun us s1 ⟨vs,H1,I1,r,q⟩=>⟨I1.kIn, ?_⟩) he hpl
 exact Rg M F hr hb hd hx I1 r q
end
section
variable {X:Cx}{CX:CXT}{k:Nat}{f C:Addr}{fd:FuncData}{ps ks:List Str}{sp:Sp}{E:XK}{x m:Str}{p pos apos kpos:Pos}{e o:Expr}{es:List Expr}{kws:List Keyword}{te ta:TE}{t tk:TA}{nm:Option Str}
variable {g:List Value->List Value->List Value}{gV:List V->List V->List V}
end
structure bL (N P:List Str) (sc:Scope):Prop where
 kind:sc.kind= .function
 co:sc.isCoroutine=false
 gen:sc.isGenerator=false
 nd:N.Nodup
 pre:N.take P.length=P
 par:∀x∈P,sc.names.lookup x=some .local\/sc.names.lookup x=some .cell
 nofree:∀y∈sc.names,y.2≠ .free
theorem Gk {kindOf:Str->Option NameKind}{x:Str}:∀{binds:List (Str×Value)}{m:Str->Option Value},(∀v,(x,v)∉binds)->bindL kindOf binds m x=m x
 |[],_,_=>rfl
 | (n,v)::r,m,h=>by
   unfold bindL
   rw[Gk fun w hw=>h w (List.mem_cons_of_mem _ hw)]
   split
   ·have:x≠n:=by rintro rfl;exact h v List.mem_cons_self
    simp[this]
   ·rfl
theorem Gm {kindOf:Str->Option NameKind}{x:Str}:∀{binds:List (Str×Value)}{m:Str->Option Value},(∀v,(x,v)∉binds)->bindC kindOf binds m x=m x
 |[],_,_=>rfl
 | (n,v)::r,m,h=>by
   unfold bindC
   rw[Gm fun w hw=>h w (List.mem_cons_of_mem _ hw)]
   split
   ·rfl
   ·have:x≠n:=by rintro rfl;exact h v List.mem_cons_self
    simp[this]
theorem Gn {kindOf:Str->Option NameKind}{x:Str}{v:Value}:∀{P:List Str}{vs:List Value}{i:Nat}{m:Str->Option Value},P.Nodup->P[i]? =some x->vs[i]? =some v->kindOf x=some .local->
 bindL kindOf (P.zip vs) m x=some v
 |[],_,_,_,_,h,_,_=>by simp at h
 | _::_,[],_,_,_,_,h,_=>by simp at h
 | p::P,w::vs,0,m,nd,h1,h2,hk=>by
   simp at h1 h2;subst h1;subst h2
   show bindL kindOf ((p,w)::P.zip vs) m p=_
   unfold bindL
   rw[Gk fun v hv=>(List.nodup_cons.mp nd).1 (List.of_mem_zip hv).1,if_pos hk]
   simp
 | p::P,w::vs,i+1,m,nd,h1,h2,hk=>by
   show bindL kindOf ((p,w)::P.zip vs) m x=_
   unfold bindL
   exact Gn (i:=i) (List.nodup_cons.mp nd).2 (by simpa using h1) (by simpa using h2) hk
theorem Gp {kindOf:Str->Option NameKind}{x:Str}{v:Value}:∀{P:List Str}{vs:List Value}{i:Nat}{m:Str->Option Value},P.Nodup->P[i]? =some x->vs[i]? =some v->kindOf x≠some .local->
 bindC kindOf (P.zip vs) m x=some v
 |[],_,_,_,_,h,_,_=>by simp at h
 | _::_,[],_,_,_,_,h,_=>by simp at h
 | p::P,w::vs,0,m,nd,h1,h2,hk=>by
   simp at h1 h2;subst h1;subst h2
   show bindC kindOf ((p,w)::P.zip vs) m p=_
   unfold bindC
   rw[Gm fun v hv=>(List.nodup_cons.mp nd).1 (List.of_mem_zip hv).1,if_neg hk]
   simp
 | p::P,w::vs,i+1,m,nd,h1,h2,hk=>by
   show bindC kindOf ((p,w)::P.zip vs) m x=_
   unfold bindC
   exact Gp (i:=i) (List.nodup_cons.mp nd).2 (by simpa using h1) (by simpa using h2) hk
def start (N:List Str) (vs:List V):St:=vs.map some++List.replicate (N.length - vs.length) none
def jB (CX:CXT) (P:Program) (w:World) (K:PySem.W.Frag) (mg:Str->Option Value) (base:Heap) (N:List Str) (qual:Str) (scope:Scope) (f:Addr) (cd:Value) (A:Around) (outer:List Env) (s:Shared) (H:Hp) (E:XK):Cx where
 prog:=P
 w:=w
 K:=K
 mg:=mg
 base:=base
 A:=A.deeper (envOfC qual scope s.heap.objs.size f cd)
 N:=N
 s₀:=s
 H₀:=H
 env:=envOfC qual scope s.heap.objs.size f cd
 outer:=outer
 stack:=envOfC qual scope s.heap.objs.size f cd::outer
 ex:=[]
 calm:=true
 fn:=fun _=>true
 pn:=[]
 xe:=fun e s'=>wpAny (model P w) (A.deeper (envOfC qual scope s.heap.objs.size f cd)) (leaving (envOfC qual scope s.heap.objs.size f cd) e) (fun _ s''=>CX outer H s E e s'') (fun e' s''=>CX outer H s E e' s'') s'
theorem Jt {sc:Scope}{n:Nat}{x:Str} (h:sc.names.lookup x=some .cell):∃c,(cellsFrom n sc.names []).lookup x=some c:=by
 have q:=PySem.W.cellsFrom_some sc.names n [] (.inl h)
 exact Option.isSome_iff_exists.mp q
theorem Pq {CX:CXT}{P:Program}{w:World}{K:PySem.W.Frag}{mg:Str->Option Value}{base:Heap}{N ps:List Str}{qual:Str}{scope:Scope}{f:Addr}{cd:Value}{A:Around}{outer:List Env}{s s1:Shared}{H:Hp}{E:XK}{us:List Value}{vs:List V}
 (S:bL N ps scope) (hd:A.handled=none) (e0:Lq P w K mg base A outer s H) (hl:vs.length=ps.length) (r:Vals vs us)
 (x:InCallC s s.heap.objs.size (bindL (envOfC qual scope s.heap.objs.size f cd).kindOf (ps.zip us) fun _=>none) (cellsFrom (s.heap.objs.size+1) scope.names []) (bindC (envOfC qual scope s.heap.objs.size f cd).kindOf (ps.zip us) fun _=>none) s1):
 Inv (jB CX P w K mg base N qual scope f cd A outer s H E) [] (start N vs) H s1:=by
 have hpl:ps.length<=N.length:=by have:=congrArg List.length S.pre;rw[List.length_take] at this;omega
 obtain⟨h1,tk,rfl,hk⟩:=x.done
 have noA:∀b:Addr,b∉(jB CX P w K mg base N qual scope f cd A outer s H E).ex:=fun b z=>absurd (show b∈([]:List Addr) from z) (by simp)
 refine⟨⟨e0.mod,S.kind,rfl,rfl,Nat.le_refl _,fun y z c h1 h2=> ?_,fun y hy=> ?_,fun y c _ h=> ?_,fun _=>hd,Around.frames_deeper e0.frames, .inr ⟨rfl,rfl⟩,fun b z=>absurd z (noA b),e0.bs,e0.bsz,fun b _ _=>noA b,fun b z=>absurd z (noA b),e0.funs,e0.frf⟩,
  rfl,e0.bare,Un.kept hk,⟨_,x.toInCall.ns,fun i y v h1 h2 h3=> ?_⟩,fun y c h=>⟨_,x.cell y c h⟩,e0.hok.fresh (Nat.le_refl _),fun y c h=> ?_,fun p hp=>absurd (show p∈([]:List (Addr×Obj)) from hp) (by simp),e0.hok.kept hk, ?_⟩
 ·exact name_of_addr x.apart (PySem.mem_of_lookup h1) (PySem.mem_of_lookup h2)
 ·have hy:scope.names.lookup y=some .cell\/scope.names.lookup y=some .free:=hy
  rcases hy with hy | hy
  ·exact Jt hy
  ·exact absurd rfl (S.nofree _ (PySem.mem_of_lookup hy))
 ·exact Nat.le_of_lt (x.above y c (PySem.mem_of_lookup h))
 ·have hi:i<vs.length:=by
   unfold start at h2
   by_cases hi:i<vs.length
   ·exact hi
   ·rw[List.getElem?_append_right (by simpa using hi)] at h2
    rw[List.getElem?_replicate] at h2
    split at h2<;>cases h2
  have ha:vs[i]? =some v:=by
   unfold start at h2
   rw[List.getElem?_append_left (by simpa using hi),List.getElem?_map] at h2
   cases e:vs[i]? with
   | none=>rw[e] at h2;cases h2
   | some a=>rw[e] at h2;cases h2;rfl
  obtain⟨u,hu,rv⟩:=r.get ha
  have hp:ps[i]? =some y:=by
   rw[<-S.pre,List.getElem?_take_of_lt (by omega)];exact h1
  have ndP:ps.Nodup:=by rw[<-S.pre];exact S.nd.sublist (List.take_sublist _ _)
  refine⟨u,rv, ?_⟩
  rcases S.par y (List.mem_of_getElem? hp) with k | k
  ·exact .inl ⟨k,Gn ndP hp hu k⟩
  ·obtain⟨c,e⟩:=Jt (n:=s.heap.objs.size+1) k
   refine .inr ⟨.inl k,c,e, ?_⟩
   have q:=x.cell y c e
   rw[Gp ndP hp hu (by show scope.names.lookup y≠_;rw[k];decide)] at q
   exact q
 ·exact e0.hok.fresh (Nat.le_of_lt (x.above y c (PySem.mem_of_lookup h)))
 ·unfold start
  show _=N.length
  rw[List.length_append,List.length_map,List.length_replicate]
  omega
theorem X7 {CX:CXT}{P:Program}{w:World}{K:PySem.W.Frag}{mg:Str->Option Value}{base:Heap}{k:Nat}{f:Addr}{name qual:Str}{params:Arguments}{body:List Stmt}{scope:Scope}{dV kV doc pm cdv ct oc:Value}{an od:Option Addr}
 {osl:Array (Option Value)}{N ps:List Str}{sp:Sp} (lk:K.lookup f=some ⟨oc,od, .func (PySem.W.fnOf name qual params body scope dV kV doc pm an cdv ct),osl⟩) (hcd:PySem.W.codeIn K cdv qual=true) (S:bL N ps scope)
 (len:∀vs H Q E,sp vs H Q E->vs.length=ps.length)
 (hbody:∀(A:Around) (outer:List Env) (s:Shared) (H:Hp) (vs:List V) (Q:VK) (E:XK),iQ k (A.deeper (envOfC qual scope s.heap.objs.size f cdv))->sp vs H Q E->
   ∃t,PSs (jB CX P w K mg base N qual scope f cdv A outer s H E) body t/\t {nx:=fun _ H'=>Q .non H',rt:=Q} (start N vs) H):
 aY P w K mg base CX (k+1) f (PySem.W.fnOf name qual params body scope dV kV doc pm an cdv ct) ps sp:=by
 refine⟨len,fun A outer s H args us vs Q E hr e0 hb r hsp=> ?_⟩
 have hl:=len _ _ _ _ hsp
 have KX:K.In s.heap:=e0.mod.kin.keeps fun b o e=>(e0.bs b o e).1
 have lim:s.heap.NoLimit:=e0.mod.nolimit.keeps fun b o e=>(e0.bs b o e).1
 have hkind:∀y∈ps.zip us,scope.names.lookup y.1=some .local\/(scope.names.lookup y.1=some .cell/\((cellsFrom (s.heap.objs.size+1) scope.names []).lookup y.1).isSome=true):=fun⟨n,v⟩ hy=>by
  rcases S.par n (List.of_mem_zip hy).1 with q | q
  ·exact .inl q
  ·exact .inr ⟨q,PySem.W.cellsFrom_some _ _ _ (.inl q)⟩
 refine codeAny_call_function hr.depth (KX _ _ lk) rfl S.co S.gen rfl (PySem.W.codeRec_of KX hcd) (hb _ _ _ _ ?_)
 refine wpAny_newFunctionEnv_cells S.kind hkind fun env he s1 x=> ?_
 subst he
 refine⟨lim.keeps x.toInCall.keep,codeAny_func ?_⟩
 obtain⟨t,ht,hq⟩:=hbody A outer s H vs Q E (hr.deeper _) hsp
 have I:Inv (jB CX P w K mg base N qual scope f cdv A outer s H E) [] (start N vs) H s1:=Pq S hr.hd e0 hl r x
 refine wpAny_mono (ht [] s1 (start N vs) H _ I hq) (fun fl s' hs=> ?_) fun e s' hs=>hs
 have fin:∀{σ':St}{H':Hp}{v:V}{u:Value},Inv (jB CX P w K mg base N qual scope f cdv A outer s H E) [] σ' H' s'->RelV v u->Q v H'->CE outer P w H s Q u s':=
  fun{σ' H' v u} J rv q=>⟨v,H',J.os,J.bare,J.base,J.hok,rv,q⟩
 cases fl with
 | ret u=>
   obtain⟨v,σ',H',J,rv,q⟩:=hs
   exact fin J rv q
 | next=>
   obtain⟨σ',H',J,q⟩:=hs
   exact fin (v:=V.non) (u:=Value.none) J rfl q
 | brk=>
   obtain⟨_,_,_,q⟩:=hs
   exact False.elim q
 | cont=>
   obtain⟨_,_,_,q⟩:=hs
   exact False.elim q
section
variable {X:Cx}{x:Str}{p pos:Pos}{e:Expr}{es:List Expr}{t:TA}{id T:String}{r:List V->Hp->VK->Prop}
def tCB (r:List V->Hp->VK->Prop) (t:TA):TE:=fun σ H Q=>t σ H fun vs H1=>r vs H1 Q
theorem Rh (hc:uH X (.builtin id) r) (hg:Gl X x) (hm:X.mg x=none) (hv:bootBuiltins x=some (.builtin id)) (ha:PA X (e::es) t) (hn:x≠"__name__":=by decide) (hdb:(x==("__debug__":Str))=false:=by decide)
 (he:starEach (e::es) X.env=(false,eval e X.env)::starEach es X.env:=by rfl) (hpl:(backTo pos (starEach es X.env)).any (·.1)=false:=by rfl):PE X (.Call (.Name x p) (e::es) [] pos) (tCB r t):=by
 intro pins s σ H Q I h
 refine wpAny_Call_Name_kw (yo I hg hm hv ?_ hn hdb)
 exact PyProof.Rows.callWith_builtin1 (thn (ha pos pins s σ H _ I h) fun us s1 ⟨vs,H1,I1,r1,q1⟩=>hc pins s1 σ H1 vs us Q I1 r1 q1) he hpl
theorem Pr (hc:uH X (.type T) r) (hg:Gl X x) (hm:X.mg x=none) (hv:bootBuiltins x=some (.type T)) (ha:PA X (e::es) t) (hn:x≠"__name__":=by decide) (hdb:(x==("__debug__":Str))=false:=by decide)
 (he:starEach (e::es) X.env=(false,eval e X.env)::starEach es X.env:=by rfl) (hpl:(backTo pos (starEach es X.env)).any (·.1)=false:=by rfl):PE X (.Call (.Name x p) (e::es) [] pos) (tCB r t):=by
 intro pins s σ H Q I h
 refine wpAny_Call_Name_kw (yo I hg hm hv ?_ hn hdb)
 exact PyProof.Rows.callWith_type1 (thn (ha pos pins s σ H _ I h) fun us s1 ⟨vs,H1,I1,r1,q1⟩=>hc pins s1 σ H1 vs us Q I1 r1 q1) he hpl
end
end L2
namespace HT
open PySem PyProof.Rows
section
open PySem.SeqAt
open PySem.AutoSeq1 (wpAny_loadPart')
open PySem.MeetsSeq PySem.MeetsSeq2 PySem.MeetsSeq3
end
section
variable {prog:Program}{w:World}{A:Around}{E:Value->Shared->Prop}{s:Shared}
def sIx (n d:Nat):Option Int->Nat
 | none=>d
 | some v=>if v<0 then(v+(n:Int)).toNat else min v.toNat n
theorem Nr (n d k:Nat):sIx n d (some (k:Int))=min k n:=by
 show(if(k:Int)<0 then((k:Int)+(n:Int)).toNat else min (k:Int).toNat n)=min k n
 rw[if_neg (by omega),Int.toNat_natCast]
end
end HT
namespace L2
open PySem PySem.Spec PyProof.Rows
abbrev TO:=St->Hp->(Option Int->Hp->Prop)->Prop
def PO (X:Cx) (e:Option Expr) (t:TO):Prop:=
 ∀(pins:List (Addr×Obj)) (s:Shared) (σ:St) (H:Hp) (Q:Option Int->Hp->Prop),Inv X pins σ H s->t σ H Q->
  wpAny (model X.prog X.w) X.A (evalPart e X.env) (fun u s'=>∃o H',Inv X pins σ H' s'/\IsPart u o/\Q o H') X.xe s
def Nt:TO:=fun _ H Q=>Q none H
def X8 (t:TE):TO:=fun σ H Q=>t σ H fun x H1=>∃i,x= .int i/\Q (some i) H1
section
variable {X:Cx}{e:Expr}{te:TE}{lo hi:Option Expr}{tl th:TO}{pos p2:Pos}
theorem Vm:PO X none Nt:=by
 intro pins s σ H Q I h
 rw[evalPart_none]
 exact wpAny_pure ⟨none,H,I, .none,h⟩
theorem Vn (h:PE X e te):PO X (some e) (X8 te):=by
 intro pins s σ H Q I hw
 rw[evalPart_some]
 refine thn (h pins s σ H _ I hw) fun u s1 ⟨x,H1,I1,r1,q1⟩=> ?_
 obtain⟨i,rfl,q⟩:=q1
 obtain⟨t,rfl⟩:=r1
 exact⟨some i,H1,I1, .int i t,q⟩
def SlR (X:Cx) (r:V->Option Int->Option Int->Hp->VK->Prop):Prop:=
 ∀(pins:List (Addr×Obj)) (s:Shared) (σ:St) (H:Hp) (x:V) (v vl vu:Value) (lo hi:Option Int) (sl:Addr) (Q:VK),Inv X pins σ H s->RelV x v->s.heap.IsSliceOf sl vl vu .none->IsPart vl lo->IsPart vu hi->r x lo hi H Q->
  ∃T id,typeLookup (.type T) "__getitem__"=pure (some (.builtin id))/\s.TypeIs v T/\wpAny (model X.prog X.w) X.A (getItem v (.ref sl)) (EP X pins σ Q) X.xe s
def tSl (r:V->Option Int->Option Int->Hp->VK->Prop) (te:TE) (tl th:TO):TE:=fun σ H Q=>te σ H fun x H1=>tl σ H1 fun l H2=>th σ H2 fun u H3=>r x l u H3 Q
theorem Ri {r:V->Option Int->Option Int->Hp->VK->Prop} (hr:SlR X r) (he:PE X e te) (hl:PO X lo tl) (hu:PO X hi th):PE X (.Subscript e (.Slice lo hi none p2) pos) (tSl r te tl th):=by
 intro pins s σ H Q I h
 refine Subscript_ (thn (he pins s σ H _ I h) fun v s1 ⟨x,H1,I1,r1,q1⟩=> ?_)
 refine wpAny_Slice (thn (hl pins s1 σ H1 _ I1 q1) fun vl s2 ⟨l,H2,I2,pl,q2⟩=>thn (hu pins s2 σ H2 _ I2 q2) fun vu s3 ⟨u,H3,I3,pu,q3⟩=> ?_)
 rw[evalPart_none]
 refine wpAny_pure ?_
 have I4:Inv X pins σ H3 {s3 with heap:=s3.heap.push {cls:= .type "slice",data:= .fields #[vl,vu, .none]}}:=I3.kept (t':=s3.toks) fun b ob q=>Heap.get?_push_of_some _ q
 obtain⟨T,id,hT,ht,hg⟩:=hr pins {s3 with heap:=s3.heap.push {cls:= .type "slice",data:= .fields #[vl,vu, .none]}} σ H3 x v vl vu l u s3.heap.objs.size Q I4 r1 (Heap.IsSliceOf.new ..) pl pu q3
 show wpAny (model X.prog X.w) X.A (subscriptTail e (.Slice lo hi none p2) v (.ref s3.heap.objs.size)) (EP X pins σ Q) X.xe {s3 with heap:=s3.heap.push {cls:= .type "slice",data:= .fields #[vl,vu, .none]}}
 exact tail_any (ops:=[.ref s3.heap.objs.size,v]) ht hT hg (by with_unfolding_all rfl)
def Cj (xs:List V) (lo hi:Option Int):List V:=(xs.drop (HT.sIx xs.length 0 lo)).take (HT.sIx xs.length xs.length hi - HT.sIx xs.length 0 lo)
theorem Ju (xs:List V) (lo hi:Option Int):(Cj xs lo hi).length<=xs.length:=by
 unfold Cj
 rw[List.length_take,List.length_drop]
 omega
end
def ixN (n:Nat) (i:Int):Option Nat:=if 0<=i then(if i<n then some i.toNat else none) else if -(n:Int)<=i then some (i+n).toNat else none
def atI {α:Type} (xs:List α) (i:Int):Option α:=(ixN xs.length i).bind fun j=>xs[j]?
theorem Vo {n:Nat}{i:Int}{j:Nat} (h:ixN n i=some j):seqIndex? i n=some j/\j<n/\ -(n:Int)<=i/\i<n:=by
 unfold ixN at h
 by_cases h0:0<=i
 ·rw[if_pos h0] at h
  by_cases h1:i<n
  ·rw[if_pos h1] at h
   have e:i.toNat=j:=Option.some.inj h
   exact⟨by rw[seqIndex_of h0 h1,e],by omega,by omega,h1⟩
  ·rw[if_neg h1] at h;cases h
 ·rw[if_neg h0] at h
  by_cases h1: -(n:Int)<=i
  ·rw[if_pos h1] at h
   have e:(i+n).toNat=j:=Option.some.inj h
   exact⟨by rw[seqIndex_neg (by omega) h1,e],by omega,h1,by omega⟩
  ·rw[if_neg h1] at h;cases h
theorem Nu {α:Type}{xs:List α}{i:Int}{v:α} (h:atI xs i=some v):∃j,seqIndex? i xs.length=some j/\xs[j]? =some v/\j<xs.length/\ -(xs.length:Int)<=i/\i<xs.length:=by
 unfold atI at h
 cases e:ixN xs.length i with
 | none=>rw[e] at h;cases h
 | some j=>
   rw[e] at h
   obtain⟨h1,h2,h3,h4⟩:=Vo e
   exact⟨j,h1,h,h2,h3,h4⟩
theorem lH {α:Type}{xs:List α}{j:Nat}{v:α} (h:xs[j]? =some v):atI xs (j:Int)=some v:=by
 have hj:j<xs.length:=(List.getElem?_eq_some_iff.mp h).1
 have e:ixN xs.length (j:Int)=some j:=by
  unfold ixN
  rw[if_pos (by omega),if_pos (by omega)];simp
 unfold atI;rw[e];exact h
def Nv (b:Expr):Prop:=∀o i,subscripted b false o i=operate [o,i] (getItem o i)
def IxR (X:Cx) (r:R2):Prop:=
 ∀(value slice:Expr) (pins:List (Addr×Obj)) (s:Shared) (σ:St) (H:Hp) (x y:V) (v u:Value) (Q:VK),Inv X pins σ H s->RelV x v->RelV y u->r x y H Q->
  subscripted slice false v u=operate [v,u] (getItem v u)->wpAny (model X.prog X.w) X.A (subscriptTail value slice v u) (EP X pins σ Q) X.xe s
def MtR (X:Cx) (id:String) (r:V->List V->Hp->VK->Prop):Prop:=
 ∀(pins:List (Addr×Obj)) (s:Shared) (σ:St) (H:Hp) (x:V) (xs:List V) (v:Value) (us:List Value) (Q:VK),Inv X pins σ H s->RelV x v->Vals xs us->r x xs H Q->
  wpAny (model X.prog X.w) X.A (call (.builtin id) (v::us)) (EP X pins σ Q) X.xe s
section
variable {X:Cx}{a b:Expr}{ta tb:TE}{pos:Pos}
theorem adq {r:R2} (hr:IxR X r) (ha:PE X a ta) (hb:PE X b tb) (hs:Nv b):PE X (.Subscript a b pos) (tOp r ta tb):=by
 intro pins s σ H Q I h
 exact Subscript_ (ZF ha hb I h fun v u s2 x y H2 I2 rx ry q=>hr a b pins s2 σ H2 x y v u Q I2 rx ry q (hs _ _))
def aac (K:PySem.W.Frag):R2:=fun x y H Q=>∃p xs i v,x= .ref p/\y= .int i/\SqL K H p xs/\atI xs i=some v/\Q v H
def aad (K:PySem.W.Frag):R2:=fun x y H Q=>∃p xs i v,x= .ref p/\y= .int i/\SqT K H p xs/\atI xs i=some v/\Q v H
theorem Vp:IxR X (aac X.K):=by
 intro value slice pins s σ H x y v u Q I rx ry h hs
 obtain⟨p,xs,i,z,rfl,rfl,hq,he,q⟩:=h
 cases rx
 obtain⟨t,rfl⟩:=ry
 obtain⟨its,r,pl,hz⟩:=I.list hq
 obtain⟨j,h1,h2,h3,h4,h5⟩:=Nu he
 obtain⟨w,ew,rw'⟩:=r.get h2
 have hl:=r.length
 have hn:=Dk
 have fin:EP X pins σ Q w s:=⟨z,H,I,rw',q⟩
 by_cases h0:0<=i
 ·have hj:i.toNat=j:=by
   rw[seqIndex_of h0 h5] at h1
   exact Option.some.inj h1
  exact item_listR pl.isList h0 (by omega) (by rw[hj];simpa using ew) fin hs
 ·have hj:(i+(its.toArray.size:Int)).toNat=j:=by
   rw[seqIndex_neg (by omega) h4] at h1
   rw[List.size_toArray,<-hl]
   exact Option.some.inj h1
  exact subscriptTail_builtinR (x:=w) pl.isList.typeIs slot_list_getitem.lookup
   (wpAny_getItem_list_neg (Q:=fun r s'=>r=w/\EP X pins σ Q r s') pl.isList (by omega) (by rw[List.size_toArray]<;>omega) (by omega) (by rw[hj];simpa using ew) ⟨rfl,fin⟩) hs
theorem aae:IxR X (aad X.K):=by
 intro value slice pins s σ H x y v u Q I rx ry h hs
 obtain⟨p,xs,i,z,rfl,rfl,hq,he,q⟩:=h
 cases rx
 obtain⟨t,rfl⟩:=ry
 obtain⟨its,r,pl,hz⟩:=I.tuple hq
 obtain⟨j,h1,h2,h3,h4,h5⟩:=Nu he
 obtain⟨w,ew,rw'⟩:=r.get h2
 have hl:=r.length
 have hn:=Dk
 have fin:EP X pins σ Q w s:=⟨z,H,I,rw',q⟩
 exact subscriptTail_builtinR (x:=w) pl.typeIs slot_tuple_getitem.lookup
  (getItem_tuple (j:=j) (Q:=fun r s'=>r=w/\EP X pins σ Q r s') pl (by omega) (by omega) (by rw[List.size_toArray,<-hl];exact h1) (by simpa using ew) ⟨rfl,fin⟩) hs
theorem Ho (lo hi:Option Int) (n:Nat):(sliceBounds lo hi none n).1=((HT.sIx n 0 lo:Nat):Int)/\(sliceBounds lo hi none n).2.1=((HT.sIx n n hi:Nat):Int)/\(sliceBounds lo hi none n).2.2=1:=by
 refine⟨?_, ?_,rfl⟩
 ·cases lo with
  | none=>simp[sliceBounds,HT.sIx]
  | some i=>
    simp only[sliceBounds,HT.sIx,Option.getD_none,show(1:Int)>0 by decide,if_true]
    by_cases h:i<0
    ·simp only[h,if_true]<;>omega
    ·simp only[h,if_false]<;>omega
 ·cases hi with
  | none=>simp[sliceBounds,HT.sIx]
  | some i=>
    simp only[sliceBounds,HT.sIx,Option.getD_none,show(1:Int)>0 by decide,if_true]
    by_cases h:i<0
    ·simp only[h,if_true]<;>omega
    ·simp only[h,if_false]<;>omega
theorem Fz (its:List Value) (lo hi:Option Int):slicePick its.toArray lo hi none=((its.drop (HT.sIx its.length 0 lo)).take (HT.sIx its.length its.length hi - HT.sIx its.length 0 lo)).toArray:=by
 obtain⟨h1,h2,h3⟩:=Ho lo hi its.toArray.size
 unfold slicePick
 rw[h1,h2,h3]
 simp only[sliceRange_one,pick_run,List.size_toArray]<;>rfl
def adt (K:PySem.W.Frag):V->Option Int->Option Int->Hp->VK->Prop:=fun x lo hi H Q=>∃a xs,x= .ref a/\SqL K H a xs/\∀p,H p=none->Q (.ref p) (upd H p (.lst (Cj xs lo hi)))
theorem Vq:SlR X (adt X.K):=by
 intro pins s σ H x v vl vu lo hi sl Q I rx hs pl pu h
 obtain⟨a,xs,rfl,hx,q⟩:=h
 cases rx
 obtain⟨its,r,ht,hz⟩:=I.list hx
 have hlen:=r.length
 refine⟨"list",_,slot_list_getitem.lookup,ht.isList.typeIs, ?_⟩
 refine wpAny_getItem_list_slice ht.isList hs pl pu .none (by simp) ?_ (by rw[List.size_toArray]<;>omega)
 rw[Fz,<-hlen]
 refine⟨.ref s.heap.objs.size,_,I.laid (t':=s.toks) (o:= .lst (Cj xs lo hi)) (fun b ob q=>Heap.get?_push_of_some _ q) (Nat.le_refl _) ?_,rfl,q _ (I.hok.fresh (Nat.le_refl _))⟩
 exact⟨Nat.le_trans (Ju xs lo hi) hz,_,0,(r.drop (HT.sIx xs.length 0 lo)).take (HT.sIx xs.length xs.length hi - HT.sIx xs.length 0 lo),Heap.get?_push_size _ rfl⟩
def uI:V->Bool
 | .non=>true
 | .bl _=>true
 | .int _=>true
 | .str _=>true
 | _=>false
def eqV:V->V->Bool
 | .non, .non=>true
 | .bl a, .bl b=>a==b
 | .bl a, .int b=>(if a then 1 else 0)==b
 | .int a, .bl b=>a==(if b then 1 else 0)
 | .int a, .int b=>a==b
 | .str a, .str b=>a==b
 | _,_=>false
theorem aaf {A:Around}{s:Shared}{y x:V}{u v:Value} (ry:RelV y u) (rx:RelV x v) (fy:uI y=true) (fx:uI x=true):SeqAt.EqAt A s u v (eqV y x):=by
 cases y with
 | non=>
   cases ry
   cases x with
   | non=>cases rx;exact SeqAt.EqAt.same _
   | bl b=>cases rx;exact SeqAt.EqAt.none_bool b
   | int b=>obtain⟨t,rfl⟩:=rx;exact SeqAt.EqAt.none_int b t
   | str b=>obtain⟨t,rfl⟩:=rx;exact SeqAt.EqAt.none_str b t
   | _=>exact absurd (show false=true from fx) Bool.false_ne_true
 | bl a=>
   cases ry
   cases x with
   | non=>cases rx;exact SeqAt.EqAt.bool_none a
   | bl b=>cases rx;exact SeqAt.EqAt.bool_bool a b
   | int b=>obtain⟨t,rfl⟩:=rx;exact SeqAt.EqAt.bool_int a b t
   | str b=>obtain⟨t,rfl⟩:=rx;exact SeqAt.EqAt.bool_str a b t
   | _=>exact absurd (show false=true from fx) Bool.false_ne_true
 | int a=>
   obtain⟨t',rfl⟩:=ry
   cases x with
   | non=>cases rx;exact SeqAt.EqAt.int_none a t'
   | bl b=>cases rx;exact SeqAt.EqAt.int_bool a t' b
   | int b=>obtain⟨t,rfl⟩:=rx;exact SeqAt.EqAt.int_int a t' b t
   | str b=>obtain⟨t,rfl⟩:=rx;exact SeqAt.EqAt.int_str a t' b t
   | _=>exact absurd (show false=true from fx) Bool.false_ne_true
 | str a=>
   obtain⟨t',rfl⟩:=ry
   cases x with
   | non=>cases rx;exact SeqAt.EqAt.str_none a t'
   | bl b=>cases rx;exact SeqAt.EqAt.str_bool a t' b
   | int b=>obtain⟨t,rfl⟩:=rx;exact SeqAt.EqAt.str_int a t' b t
   | str b=>obtain⟨t,rfl⟩:=rx;exact SeqAt.EqAt.str_str a t' b t
   | _=>exact absurd (show false=true from fx) Bool.false_ne_true
 | _=>exact absurd (show false=true from fy) Bool.false_ne_true
def eqU (x:V) (u:Value):Bool:=match u with
 | .none=>eqV .non x
 | .bool b=>eqV (.bl b) x
 | .int i _=>eqV (.int i) x
 | .str z _=>eqV (.str z) x
 | _=>false
theorem Rj {x y:V}{u:Value} (r:RelV y u) (f:uI y=true):eqU x u=eqV y x:=by
 cases y with
 | non=>cases r;rfl
 | bl b=>cases r;rfl
 | int i=>obtain⟨t,rfl⟩:=r;rfl
 | str z=>obtain⟨t,rfl⟩:=r;rfl
 | _=>exact absurd (show false=true from f) Bool.false_ne_true
theorem Hq {x:V}:∀{xs:List V}{us:List Value},Vals xs us->xs.all uI=true->us.any (eqU x)=xs.any fun y=>eqV y x
 | _,_, .nil,_=>rfl
 | y::xs,u::us, .cons r t,f=>by
   rw[List.all_cons,Bool.and_eq_true] at f
   rw[List.any_cons,List.any_cons,Rj r f.1,Hq t f.2]
theorem Dm {A:Around}{s:Shared}{x:V}{v:Value} (rx:RelV x v) (fx:uI x=true):∀{xs:List V}{us:List Value},Vals xs us->xs.all uI=true->∀u∈us,SeqAt.EqAt A s u v (eqU x u)
 | _,_, .nil,_=>fun u hu=>by cases hu
 | y::xs,u::us, .cons r t,f=>fun u' hu=>by
   rw[List.all_cons,Bool.and_eq_true] at f
   rcases List.mem_cons.mp hu with rfl | hu
   ·rw[Rj r f.1];exact aaf r rx f.1 fx
   ·exact Dm rx fx t f.2 u' hu
def inV (x:V) (xs:List V):Bool:=xs.any fun y=>eqV y x
def rIn (K:PySem.W.Frag) (neg:Bool):R2:=fun x y H Q=>∃p xs,y= .ref p/\(SqL K H p xs\/SqT K H p xs)/\uI x=true/\xs.all uI=true/\Q (.bl (if neg then !inV x xs else inV x xs)) H
theorem Pu:OpR X (compareOp .In) (rIn X.K false):=by
 intro pins s σ H x y v u Q I rx ry h
 obtain⟨p,xs,rfl,hq,fx,fs,q⟩:=h
 cases ry
 rcases hq with hq | hq
 ·obtain⟨its,r,pl,hz⟩:=I.list hq
  refine SeqAt.in_listAt (eqU x) pl.isList (fun w hw=>Dm rx fx r fs w (by simpa using hw)) ⟨.bl _,H,I,rfl, ?_⟩
  rw[show its.toArray.any (eqU x)=its.any (eqU x) by simp,Hq r fs]
  exact q
 ·obtain⟨its,r,pl,hz⟩:=I.tuple hq
  refine SeqAt.in_tupleAt (eqU x) pl (fun w hw=>Dm rx fx r fs w (by simpa using hw)) ⟨.bl _,H,I,rfl, ?_⟩
  rw[show its.toArray.any (eqU x)=its.any (eqU x) by simp,Hq r fs]
  exact q
theorem Hr:uH X (.builtin "len") (fun xs H Q=>∃p ys,xs=[.ref p]/\(SqL X.K H p ys\/SqT X.K H p ys)/\Q (.int ys.length) H):=by
 intro pins s σ H xs us Q I r h
 obtain⟨p,ys,rfl,hq,q⟩:=h
 obtain⟨u,rfl,rx⟩:=vals1 r
 cases rx
 have hn:=Dk
 rcases hq with hq | hq
 ·obtain⟨its,r',pl,hz⟩:=I.list hq
  have hlen:=r'.length
  exact Calls.call_len_list pl.isList (by simp only[List.size_toArray]<;>omega) ⟨.int ys.length,H,I.tok _,⟨s.toks+1,by rw[List.size_toArray,hlen]⟩,q⟩
 ·obtain⟨its,r',pl,hz⟩:=I.tuple hq
  have hlen:=r'.length
  exact len_tuple pl (by simp only[List.size_toArray]<;>omega) ⟨.int ys.length,H,I.tok _,⟨s.toks+1,by rw[List.size_toArray,hlen]⟩,q⟩
theorem Hs:uH X (.type "list") (fun xs H Q=>∃p ys,xs=[.ref p]/\(SqL X.K H p ys\/SqT X.K H p ys)/\∀l,H l=none->Q (.ref l) (upd H l (.lst ys))):=by
 intro pins s σ H xs us Q I r h
 obtain⟨p,ys,rfl,hq,q⟩:=h
 obtain⟨u,rfl,rx⟩:=vals1 r
 cases rx
 have fin:∀(its:List Value),Vals ys its->ys.length<=sizeLine->∀(h':Heap) (c':Nat),(∀b o',s.heap.get? b=some o'->h'.get? b=some o')->
  h'.get? s.heap.objs.size=some {cls:= .type "list",dict:=none,data:= .seq its.toArray c',slots:= #[]}->EP X pins σ Q (.ref s.heap.objs.size) {s with heap:=h'}:=fun its r' hz h' c' kp e=>
  ⟨.ref s.heap.objs.size,_,I.laid (t':=s.toks) kp (Nat.le_refl _) (show dJ X.prog X.w _ h' _ (.lst ys) from⟨hz,its,c',r',e⟩),rfl,q _ (I.hok.fresh (Nat.le_refl _))⟩
 rcases hq with hq | hq
 ·obtain⟨its,r',pl,hz⟩:=I.list hq
  have hlen:=r'.length
  obtain⟨o,ho,hc,n,hd⟩:=pl.isList
  exact call_list_seq p (.inl rfl) ho hc hd (fun h' c' kp e=>fin its r' hz h' c' kp e) (by simp only[List.size_toArray]<;>omega)
 ·obtain⟨its,r',pl,hz⟩:=I.tuple hq
  have hlen:=r'.length
  obtain⟨o,ho,hc,n,hd⟩:=pl
  exact call_list_seq p (.inr rfl) ho hc hd (fun h' c' kp e=>fin its r' hz h' c' kp e) (by simp only[List.size_toArray]<;>omega)
theorem FJ:uH X (.type "tuple") (fun xs H Q=>∃p ys,xs=[.ref p]/\((SqL X.K H p ys/\∀l,H l=none->Q (.ref l) (upd H l (.tup ys)))\/(SqT X.K H p ys/\Q (.ref p) H))):=by
 intro pins s σ H xs us Q I r h
 obtain⟨p,ys,rfl,h⟩:=h
 obtain⟨u,rfl,rx⟩:=vals1 r
 cases rx
 rcases h with⟨hq,q⟩ | ⟨hq,q⟩
 ·obtain⟨its,r',pl,hz⟩:=I.list hq
  have hlen:=r'.length
  refine call_tuple_list pl.isList (fun h' kp=> ?_) (by simp only[List.size_toArray]<;>omega)
  have I1:Inv X pins σ H {s with heap:=h'}:=I.kept (t':=s.toks) kp
  have I2:Inv X pins σ (upd H h'.objs.size (.tup ys)) {s with heap:=h'.push {cls:= .type "tuple",data:= .seq its.toArray}}:=
   I1.laid (t':=s.toks) (fun b o e=>Heap.get?_push_of_some _ e) (Nat.le_refl _) (show dJ X.prog X.w _ _ _ (.tup ys) from⟨hz,its,r',IsTup.new _ _⟩)
  exact⟨.ref h'.objs.size,_,I2,rfl,q _ (I1.hok.fresh (Nat.le_refl _))⟩
 ·obtain⟨its,r',pl,hz⟩:=I.tuple hq
  exact call_tuple_same pl ⟨.ref p,H,I,rfl,q⟩
def tyV (K:PySem.W.Frag) (T:String) (x:V) (H:Hp):Prop:=match x with
 | .str _=>T="str"
 | .int _=>T="int"
 | .ref p=>(T="list"/\∃xs,SqL K H p xs)\/(T="tuple"/\∃o,K.lookup p=some o/\o.cls= .type "tuple"/\o.dict=none)\/
     (T="dict"/\((∃kvs,H p=some (.dK kvs))\/∃kvs,H p=some (.dT kvs)))\/(T="set"/\∃S n,H p=some (.set S n))
 | _=>False
theorem Rk {pins:List (Addr×Obj)}{σ:St}{H:Hp}{s:Shared}{T:String}{x:V}{v:Value} (I:Inv X pins σ H s) (r:RelV x v) (ty:tyV X.K T x H):
 s.TypeIs v T/\∀a,v= .ref a->∃ob,s.heap.get? a=some ob/\ob.dict=none:=by
 cases x with
 | str z=>
   obtain⟨t,rfl⟩:=r
   cases(show T="str" from ty)
   exact⟨typeIs_str s z t,fun _ e=>nomatch e⟩
 | int i=>
   obtain⟨t,rfl⟩:=r
   cases(show T="int" from ty)
   exact⟨typeIs_int s i t,fun _ e=>nomatch e⟩
 | ref p=>
   cases r
   rcases ty with⟨rfl,xs,hq⟩ | ⟨rfl,o,hk,hc,hd⟩ | ⟨rfl,hk⟩ | ⟨rfl,S,n,hk⟩
   ·obtain⟨its,_,pl,_⟩:=I.list hq
    refine⟨pl.isList.typeIs,fun a e=> ?_⟩
    cases e
    obtain⟨o,n,e,c,hd,_⟩:=pl
    exact⟨o,e,hd⟩
   ·refine⟨⟨o,I.kIn p o hk,hc⟩,fun a e=> ?_⟩
    cases e
    exact⟨o,I.kIn _ o hk,hd⟩
   ·have z:∃o,s.heap.get? p=some o/\o.ExactDict:=by
     rcases hk with⟨kvs,hk⟩ | ⟨kvs,hk⟩
     ·obtain⟨_,_,_,_,o,_,_,e,ex,_⟩:=I.hok p _ hk
      exact⟨o,e,ex⟩
     ·obtain⟨_,_,_,_,o,_,_,e,ex,_⟩:=I.hok p _ hk
      exact⟨o,e,ex⟩
    obtain⟨o,e,ex⟩:=z
    refine⟨⟨o,e,ex.1⟩,fun a e2=> ?_⟩
    cases e2
    exact⟨o,e,ex.2.1⟩
   ·obtain⟨o,_,_,_,e,ex,_⟩:=I.hok p _ hk
    refine⟨⟨o,e,ex.1⟩,fun a e2=> ?_⟩
    cases e2
    exact⟨o,e,ex.2.1⟩
 | _=>exact False.elim ty
def adu (K:PySem.W.Frag) (T:String) (r:V->List V->Hp->VK->Prop) (to:TE):TE:=fun σ H Q=>to σ H fun x H1=>tyV K T x H1/\r x [] H1 Q
def tBM (K:PySem.W.Frag) (T:String) (r:V->List V->Hp->VK->Prop) (to:TE) (t:TA):TE:=fun σ H Q=>to σ H fun x H1=>tyV K T x H1/\t σ H1 fun xs H2=>r x xs H2 Q
variable {o e:Expr}{es:List Expr}{to:TE}{t:TA}{name:Str}{apos cpos:Pos}{T id:String}{r:V->List V->Hp->VK->Prop}
theorem aag (pa:PlainAttrs T) (slot:Slot T name id) (hty:typeOf (.builtin id)=pure (.type "method_descriptor")) (hm:MtR X id r) (ho:PE X o to)
 (hbase:attributeBase o name X.env (eval o X.env)=eval o X.env:=by rfl) (hline:(apos.endLine==cpos.line)=true:=by rfl):PE X (.Call (.Attribute o name apos) [] [] cpos) (adu X.K T r to):=by
 intro pins s σ H Q I h
 refine wpAny_Call_method0_late hbase hline (thn (ho pins s σ H _ I h) fun v s1 ⟨x,H1,I1,r1,ty,q1⟩=> ?_)
 obtain⟨h1,h2⟩:=Rk I1 r1 ty
 exact⟨T,id,pa,slot,hty,h1,h2,Calls.callWith_builtin rfl (PySem.evalArgs_none (hm pins s1 σ H1 x [] v [] Q I1 r1 .nil q1))⟩
theorem adv (pa:PlainAttrs T) (slot:Slot T name id) (hty:typeOf (.builtin id)=pure (.type "method_descriptor")) (hm:MtR X id r) (ho:PE X o to) (ha:PA X (e::es) t)
 (hbase:attributeBase o name X.env (eval o X.env)=eval o X.env:=by rfl)
 (hfew:((backTo cpos (starEach (e::es) X.env)).all (fun x=> !x.1)&&(backToKw cpos (keywordEach [] X.env)).all (fun x=>x.1.isSome)
   &&decide ((e::es).length+([]:List Keyword).length+(if([]:List Keyword).isEmpty then 0 else 1)<30))=true:=by rfl)
 (hline:(apos.endLine==cpos.line)=true:=by rfl) (hs:starEach (e::es) X.env=(false,eval e X.env)::starEach es X.env:=by rfl) (hplain:(backTo cpos (starEach es X.env)).any (·.1)=false:=by rfl):
 PE X (.Call (.Attribute o name apos) (e::es) [] cpos) (tBM X.K T r to t):=by
 intro pins s σ H Q I h
 refine wpAny_Call_method_late hbase hfew hline rfl (thn (ho pins s σ H _ I h) fun v s1 ⟨x,H1,I1,r1,ty,q1⟩=> ?_)
 obtain⟨h1,h2⟩:=Rk I1 r1 ty
 refine⟨T,id,pa,slot,hty,h1,h2, ?_⟩
 have hA:=ha cpos pins s1 σ H1 _ I1 q1
 rw[hs] at hA ⊢
 refine Calls.callWith_builtin (by show(false||(backTo cpos (starEach es X.env)).any (·.1))=false;rw[hplain]<;>rfl) (Calls.evalArgs_plain ?_)
 exact thn hA fun us s2 ⟨vs,H2,I2,r2,q2⟩=>hm pins s2 σ H2 x vs v us Q I2 r1 r2 q2
/- xs.append(e),list.index on a module's tuple .. are MtR facts of 06m -/
end
def MtM (X:Cx) (id:String) (r:V->List V->Hp->VK->Prop):Prop:=
 ∀(pins:List (Addr×Obj)) (s:Shared) (σ:St) (H:Hp) (x:V) (xs:List V) (v:Value) (us:List Value) (Q:VK),Inv X pins σ H s->RelV x v->Vals xs us->r x xs H Q->
  wpAny (model X.prog X.w) X.A (call (.builtin id) (v::us)) (EP X pins σ Q) X.xe s
theorem Vals.one:∀{x:V}{us:List Value},Vals [x] us->∃u,us=[u]/\RelV x u
 | _,_, .cons r .nil=>⟨_,rfl,r⟩
theorem Vals.two:∀{x y:V}{us:List Value},Vals [x,y] us->∃u v,us=[u,v]/\RelV x u/\RelV y v
 | _,_,_, .cons r (.cons q .nil)=>⟨_,_,rfl,r,q⟩
theorem Vals.zero:∀{us:List Value},Vals [] us->us=[]
 | _, .nil=>rfl
theorem Vals.dropLast {xs:List V}{us:List Value} (h:Vals xs us):Vals xs.dropLast us.dropLast:=by
 induction h with
 | nil=>exact .nil
 | cons r t ih=>
   cases t with
   | nil=>exact .nil
   | cons q t'=>exact .cons r ih
theorem Lr {α:Type} (l:List α):l.eraseIdx (l.length - 1)=l.dropLast:=by
 induction l with
 | nil=>rfl
 | cons a r ih=>
   cases r with
   | nil=>rfl
   | cons b r=>
     have e:(a::b::r).length - 1=((b::r).length - 1)+1:=by
      have h1:(a::b::r).length=r.length+2:=rfl
      have h2:(b::r).length=r.length+1:=rfl
      omega
     rw[e,List.eraseIdx_cons_succ,ih]
     all_goals rfl
section
variable {X:Cx}{pins:List (Addr×Obj)}{σ:St}{H:Hp}{s:Shared}{l b:Addr}{xs ys zs:List V}
theorem Inv.lset {its its':List Value}{n:Nat}{f:Array Value->Array Value}{t':Nat} (I:Inv X pins σ H s) (hH:H l=some (.lst xs))
 (e:s.heap.get? l=some {cls:= .type "list",data:= .seq its.toArray n}) (hf:f its.toArray=its'.toArray) (hv:Vals ys its') (hz:ys.length<=sizeLine):
 Inv X pins σ (upd H l (.lst ys)) {s with heap:=s.heap.update l (Obj.mapSeq f),toks:=t'}:=by
 have q:=PySem.IsL.update e f
 rw[hf] at q
 refine I.write (x:=l) (e:=l) (by rw[hH];exact trivial) (.inl rfl) (fun b' u hb hu=>(Heap.get?_update_other s.heap (Obj.mapSeq f) (Ne.symm hb)).trans hu) ⟨_,q⟩ ?_
 exact⟨hz,its',_,hv,q⟩
theorem Inv.lnew {its:List Value}{t':Nat} (I:Inv X pins σ H s) (hv:Vals ys its) (hz:ys.length<=sizeLine):
 Inv X pins σ (upd H s.heap.objs.size (.lst ys)) {s with heap:=s.heap.push {cls:= .type "list",data:= .seq its.toArray},toks:=t'}:=
 I.laid (fun _ _ q=>Heap.get?_push_of_some _ q) (Nat.le_refl _) ⟨hz,its,0,hv,Heap.get?_push_size _ rfl⟩
theorem Inv.fresh (I:Inv X pins σ H s):H s.heap.objs.size=none:=I.hok.fresh (Nat.le_refl _)
theorem Inv.Px (I:Inv X pins σ H s) (hH:H l=some (.lst xs)):xs.length<=sizeLine/\∃(its:List Value) (n:Nat),Vals xs its/\xs.length=its.length/\s.heap.get? l=some {cls:= .type "list",data:= .seq its.toArray n}:=by
 obtain⟨z,its,n,r,e⟩:=I.hok l _ hH
 exact⟨z,its,n,r,r.length,e⟩
theorem Ro {n:Nat} (h:n<=sizeLine):Builtin.List.listTooLong n=false:=by
 unfold Builtin.List.listTooLong
 exact decide_eq_false (by omega)
end
section
variable {X:Cx}
def Nx:V->List V->Hp->VK->Prop:=fun x vs H Q=>∃l xs y,x= .ref l/\vs=[y]/\H l=some (.lst xs)/\xs.length<sizeLine/\Q .non (upd H l (.lst (xs++[y])))
theorem Gq:MtM X "list.append" Nx:=by
 intro pins s σ H x vs v us Q I rx rv h
 obtain⟨l,xs,y,rfl,rfl,hH,hz,q⟩:=h
 cases rx
 obtain⟨u,rfl,ru⟩:=rv.one
 obtain⟨z,its,n,r,hl,e⟩:=I.Px hH
 refine call_meets F.slot_list_append ⟨_,e,rfl⟩ F.entry_list_append (F.args_list_append_2 _ _) (PySem.list_append l its.toArray n u (by rw[List.size_toArray];omega)) ⟨e, ?_⟩
 refine⟨.non,_,I.lset (its':=its++[u]) hH e (by simp) (r.append (.cons ru .nil)) ?_,rfl,q⟩
 rw[List.length_append,List.length_singleton]
 omega
def Ny:V->List V->Hp->VK->Prop:=fun x vs H Q=>∃l b xs zs,x= .ref l/\vs=[.ref b]/\H l=some (.lst xs)/\H b=some (.lst zs)/\xs.length+zs.length<=sizeLine/\Q .non (upd H l (.lst (xs++zs)))
theorem Py:MtM X "list.extend" Ny:=by
 intro pins s σ H x vs v us Q I rx rv h
 obtain⟨l,b,xs,zs,rfl,rfl,hH,hB,hz,q⟩:=h
 cases rx
 obtain⟨u,rfl,ru⟩:=rv.one
 cases ru
 obtain⟨z,its,n,r,hl,e⟩:=I.Px hH
 obtain⟨z2,its2,n2,r2,hl2,e2⟩:=I.Px hB
 have hsz:its.toArray.size+its2.toArray.size<=sizeLine:=by rw[List.size_toArray,List.size_toArray];omega
 have hlong:¬(!its.toArray.isEmpty&&Builtin.List.listTooLong (its.toArray.size+its2.toArray.size))=true:=by
  rw[Ro hsz,Bool.and_false]
  exact Bool.false_ne_true
 refine call_meets F.slot_list_extend ⟨_,e,rfl⟩ F.entry_list_extend (F.args_list_extend_2 _ _)
  (AutoSeq1.list_extend_list_list_0 l its.toArray n b its2.toArray n2 hlong (by rw[List.size_toArray];omega) (by omega)) ⟨e,e2, ?_⟩
 refine⟨.non,_,I.lset (its':=its++its2) hH e (by simp) (r.append r2) ?_,rfl,q⟩
 rw[List.length_append]
 omega
def adw:V->List V->Hp->VK->Prop:=fun x vs H Q=>∃l xs y,x= .ref l/\vs=[]/\H l=some (.lst xs)/\xs[xs.length - 1]? =some y/\Q y (upd H l (.lst xs.dropLast))
theorem aah:MtM X "list.pop" adw:=by
 intro pins s σ H x vs v us Q I rx rv h
 obtain⟨l,xs,y,rfl,rfl,hH,hy,q⟩:=h
 cases rx
 have hus:=rv.zero
 subst hus
 obtain⟨z,its,n,r,hl,e⟩:=I.Px hH
 obtain⟨u,hu,ru⟩:=r.get hy
 have hy':its.toArray[its.toArray.size - 1]? =some u:=by
  show its.toArray[its.length - 1]? =some u
  rw[<-Array.getElem?_toList,<-hl]
  exact hu
 refine call_meets F.slot_list_pop ⟨_,e,rfl⟩ F.entry_list_pop (F.args_list_pop_1 _) (MeetsSeq.list_pop_last l its.toArray n u hy' (by rw[List.size_toArray];omega)) ⟨e, ?_⟩
 refine⟨y,_,I.lset (its':=its.dropLast) hH e ?_ r.dropLast ?_,ru,q⟩
 ·show its.toArray.eraseIdxIfInBounds (its.toArray.size - 1)=its.dropLast.toArray
  rw[List.size_toArray,List.eraseIdxIfInBounds_toArray,Lr]
 ·rw[List.length_dropLast]
  omega
def adx:R2:=fun x y H Q=>∃l b xs zs,x= .ref l/\y= .ref b/\H l=some (.lst xs)/\H b=some (.lst zs)/\xs.length+zs.length<=sizeLine/\∀p,H p=none->Q (.ref p) (upd H p (.lst (xs++zs)))
theorem aai:OpR X (binaryOp .Add) adx:=by
 intro pins s σ H x y v u Q I rx ry h
 obtain⟨l,b,xs,zs,rfl,rfl,hH,hB,hz,q⟩:=h
 cases rx
 cases ry
 obtain⟨z,its,n,r,hl,e⟩:=I.Px hH
 obtain⟨z2,its2,n2,r2,hl2,e2⟩:=I.Px hB
 refine PySem.P.add_list e e2 ?_ (by rw[List.size_toArray,List.size_toArray];omega)
 have ea:its.toArray++its2.toArray=(its++its2).toArray:=by simp
 rw[ea]
 exact⟨.ref _,_,I.lnew (t':=s.toks) (r.append r2) (by rw[List.length_append];omega),rfl,q _ I.fresh⟩
end
section
variable {prog:Program}{w:World}{A:Around}{E:Value->Shared->Prop}{s:Shared}
end
section
variable {X:Cx}
end
section
variable {κ:Type} [DecidableEq κ]
def cI (kvs:List (κ×V)) (k:κ):Option V:=(kvs.find? fun kv=>decide (kv.1=k)).map (·.2)
def putK (kvs:List (κ×V)) (k:κ) (v:V):List (κ×V):=
 if(kvs.any fun kv=>decide (kv.1=k))=true then kvs.map (fun kv=>if kv.1=k then(kv.1,v) else kv) else kvs++[(k,v)]
theorem pG {k:κ}:cI ([]:List (κ×V)) k=none:=rfl
theorem iR {p:κ×V}{r:List (κ×V)}{k:κ} (e:p.1=k):cI (p::r) k=some p.2:=by simp[cI,List.find?_cons,e]
theorem iT {p:κ×V}{r:List (κ×V)}{k:κ} (e:¬p.1=k):cI (p::r) k=cI r k:=by simp[cI,List.find?_cons,e]
theorem qY (k:κ):∀kvs:List (κ×V),(kvs.any fun kv=>decide (kv.1=k))=(cI kvs k).isSome
 |[]=>rfl
 | p::r=>by
   rw[List.any_cons]
   by_cases e:p.1=k
   ·simp only[iR e,decide_eq_true e,Bool.true_or,Option.isSome_some]
   ·rw[iT e,decide_eq_false e,Bool.false_or];exact qY k r
theorem Jv (k j:κ) (y:V):∀kvs:List (κ×V),cI (kvs.map fun kv=>if kv.1=k then(kv.1,y) else kv) j=(cI kvs j).map fun x=>if j=k then y else x
 |[]=>rfl
 | p::r=>by
   have ih:=Jv k j y r
   rw[List.map_cons]
   by_cases h:p.1=k
   ·rw[if_pos h]
    by_cases e:p.1=j
    ·rw[iR (p:=(p.1,y)) e,iR e,Option.map_some,if_pos (e.symm.trans h)]
    ·rw[iT (p:=(p.1,y)) e,iT e,ih]
   ·rw[if_neg h]
    by_cases e:p.1=j
    ·rw[iR (p:=p) e,iR e,Option.map_some,if_neg (fun z=>h (e.trans z))]
    ·rw[iT (p:=p) e,iT e,ih]
theorem Gr (k j:κ) (y:V):∀kvs:List (κ×V),cI kvs k=none->cI (kvs++[(k,y)]) j=if j=k then some y else cI kvs j
 |[],_=>by
  by_cases e:k=j
  ·rw[if_pos e.symm];exact iR (p:=(k,y)) e
  ·rw[if_neg (fun z=>e z.symm)];exact iT (p:=(k,y)) e
 | p::r,hn=>by
   rw[List.cons_append]
   have hk:¬p.1=k:=fun z=>by rw[iR z] at hn;cases hn
   rw[iT hk] at hn
   have ih:=Gr k j y r hn
   by_cases e:p.1=j
   ·rw[iR e,iR e,if_neg (fun z=>hk (e.trans z))]
   ·rw[iT e,iT e,ih]
theorem jy (kvs:List (κ×V)) (k j:κ) (y:V):cI (putK kvs k y) j=if j=k then some y else cI kvs j:=by
 unfold putK
 by_cases a:(kvs.any fun kv=>decide (kv.1=k))=true
 ·rw[if_pos a,Jv]
  rw[qY] at a
  by_cases e:j=k
  ·obtain⟨x,hx⟩:=Option.isSome_iff_exists.mp a
   rw[if_pos e,e,hx,Option.map_some,if_pos rfl]
  ·rw[if_neg e]
   cases cI kvs j with
   | none=>rfl
   | some x=>rw[Option.map_some,if_neg e]
 ·rw[if_neg a]
  refine Gr k j y kvs ?_
  rw[qY] at a
  cases q:cI kvs k with
  | none=>rfl
  | some x=>rw[q] at a;exact(a rfl).elim
theorem vg (kvs:List (κ×V)) (k:κ) (v:V):(putK kvs k v).length<=kvs.length+1:=by
 unfold putK
 split
 ·rw[List.length_map];omega
 ·rw[List.length_append,List.length_cons,List.length_nil];omega
theorem tD.qZ {o:Option V}{u:Option Value} (r:tD o u):o.isSome=u.isSome:=by
 cases o with
 | none=>cases u with
   | none=>rfl
   | some _=>exact(show False from r).elim
 | some _=>cases u with
   | none=>exact(show False from r).elim
   | some _=>rfl
theorem KV.val {kvs:List (κ×V)}{vs:List (κ×Value)} (r:KV kvs vs) (k:κ):tD (cI kvs k) (valueAt vs k):=by
 unfold KV at r
 induction r with
 | nil=>exact True.intro
 | @cons p q ps qs h t ih=>
   obtain⟨h1,h2⟩:=h
   by_cases e:p.1=k
   ·have e':q.1=k:=h1.symm.trans e
    have b:valueAt (q::qs) k=some q.2:=by simp[valueAt,List.find?_cons,e']
    rw[iR e,b];exact h2
   ·have e':¬q.1=k:=fun z=>e (h1.trans z)
    have b:valueAt (q::qs) k=valueAt qs k:=by simp[valueAt,List.find?_cons,e']
    rw[iT e,b];exact ih
theorem KV.any {kvs:List (κ×V)}{vs:List (κ×Value)} (r:KV kvs vs) (k:κ):(kvs.any fun kv=>decide (kv.1=k))=vs.any fun kv=>decide (kv.1=k):=by
 unfold KV at r
 induction r with
 | nil=>rfl
 | cons h t ih=>rw[List.any_cons,List.any_cons,ih,h.1]
theorem KV.repl {kvs:List (κ×V)}{vs:List (κ×Value)} (r:KV kvs vs) (k:κ) {y:V}{u:Value} (ry:RelV y u):
 KV (kvs.map fun kv=>if kv.1=k then(kv.1,y) else kv) (vs.map fun kv=>if kv.1=k then(kv.1,u) else kv):=by
 unfold KV at r ⊢
 induction r with
 | nil=>exact .nil
 | @cons p q ps qs h t ih=>
   rw[List.map_cons,List.map_cons]
   refine .cons ?_ ih
   obtain⟨h1,h2⟩:=h
   by_cases e:p.1=k
   ·rw[if_pos e,if_pos (h1.symm.trans e)];exact⟨h1,ry⟩
   ·rw[if_neg e,if_neg (fun z=>e (h1.trans z))];exact⟨h1,h2⟩
theorem KV.put {kvs:List (κ×V)}{vs:List (κ×Value)} (r:KV kvs vs) (k:κ) {y:V}{u:Value} (ry:RelV y u):KV (putK kvs k y) (stored vs k u):=by
 unfold putK stored
 rw[r.any k]
 by_cases e:(vs.any fun kv=>decide (kv.1=k))=true
 ·rw[if_pos e,if_pos e];exact r.repl k ry
 ·rw[if_neg e,if_neg e];exact Paired.snoc r ⟨rfl,ry⟩
theorem KV.length {kvs:List (κ×V)}{vs:List (κ×Value)} (r:KV kvs vs):kvs.length=vs.length:=Paired.length r
end
theorem Gs {P:Program}{w:World}{k:Key}{u:Value} (r:RelV (kV k) u):(eV P w).is k u=true:=by
 cases k with
 | inl i=>obtain⟨t,e⟩:=(show∃t,u=Value.int i t from r);subst e;exact Jl P w i t
 | inr x=>obtain⟨t,e⟩:=(show∃t,u=Value.str x t from r);subst e;exact Jm P w x t
theorem Gu {P:Program}{w:World}:∀{ks:List Key}{us:List Value},Vals (ks.map kV) us->ItemsAre (eV P w) ks us
 |[],_,r=>by rw[List.map_nil] at r;cases r;exact .nil
 | k::ks,_,r=>by
   rw[List.map_cons] at r
   cases r with
   | cons h t=>exact .cons (Gs h) (Gu t)
abbrev KT (H:Hp):List (List Key×V)->List (List Key×Addr×Value)->Prop:=Paired fun p q=>p.1=q.1/\H q.2.1=some (.tup (p.1.map kV))/\RelV p.2 q.2.2
theorem KT.val {H:Hp}{kvs:List (List Key×V)}{xs:List (List Key×Addr×Value)} (r:KT H kvs xs) (k:List Key):tD (cI kvs k) ((atKey xs k).map (·.2)):=by
 induction r with
 | nil=>exact True.intro
 | @cons p q ps qs h t ih=>
   obtain⟨h1,_,h2⟩:=h
   by_cases e:p.1=k
   ·have e':q.1=k:=h1.symm.trans e
    have b:atKey (q::qs) k=some q.2:=by simp[atKey,List.find?_cons,e']
    rw[iR e,b];exact h2
   ·have e':¬q.1=k:=fun z=>e (h1.trans z)
    have b:atKey (q::qs) k=atKey qs k:=by simp[atKey,List.find?_cons,e']
    rw[iT e,b];exact ih
theorem KT.repl {H:Hp}{kvs:List (List Key×V)}{xs:List (List Key×Addr×Value)} (r:KT H kvs xs) (k:List Key) {y:V}{u:Value} (ry:RelV y u):
 KT H (kvs.map fun kv=>if kv.1=k then(kv.1,y) else kv) (xs.map (putAt k u)):=by
 induction r with
 | nil=>exact .nil
 | @cons p q ps qs h t ih=>
   rw[List.map_cons,List.map_cons]
   refine .cons ?_ ih
   obtain⟨h1,h2,h3⟩:=h
   unfold putAt
   by_cases e:p.1=k
   ·rw[if_pos e,if_pos (h1.symm.trans e)];exact⟨h1,h2,ry⟩
   ·rw[if_neg e,if_neg (fun z=>e (h1.trans z))];exact⟨h1,h2,h3⟩
theorem KT.put {H:Hp}{kvs:List (List Key×V)}{xs:List (List Key×Addr×Value)} (r:KT H kvs xs) (k:List Key) {b:Addr}{y:V}{u:Value} (hb:H b=some (.tup (k.map kV))) (ry:RelV y u):
 KT H (putK kvs k y) (storedH xs k b u):=by
 have e:(kvs.any fun kv=>decide (kv.1=k))=(atKey xs k).isSome:=by
  rw[qY,(r.val k).qZ,Option.isSome_map]
 unfold putK storedH
 rw[e]
 by_cases q:(atKey xs k).isSome=true
 ·rw[if_pos q,if_pos q];exact r.repl k ry
 ·rw[if_neg q,if_neg q];exact Paired.snoc r ⟨rfl,hb,ry⟩
theorem KT.keeps {H H':Hp}{kvs:List (List Key×V)}{xs:List (List Key×Addr×Value)} (r:KT H kvs xs) (ht:∀b ys,H b=some (.tup ys)->H' b=some (.tup ys)):KT H' kvs xs:=
 Paired.Zh r fun _ _ z=>⟨z.1,ht _ _ z.2.1,z.2.2⟩
section
variable {P:Program}{w:World}{H:Hp}{h:Heap}{a:Addr}
theorem Yb {u:HO} (ok:HOk P w H h) (e:Rd H a u):dJ P w H h a u:=e.ok ok
theorem vh {kvs:List (Key×V)} (ok:HOk P w H h) (e:Rd H a (.dK kvs)):kvs.length<=sizeLine/\(a==sysModules)=false/\∃vs,KV kvs vs/\h.DictOf (eV P w) a vs:=
 show dJ P w H h a (.dK kvs) from Yb ok e
theorem Jw {kvs:List (Key×V)} (ok:HOk P w H h) (e:H a=some (.dK kvs)):kvs.length<=sizeLine/\(a==sysModules)=false/\∃vs,KV kvs vs/\h.DictOf (eV P w) a vs:=vh ok (.inl e)
theorem Dn {ks:List Key} (ok:HOk P w H h) (e:H a=some (.tup (ks.map kV))):(tupleKind (eV P w)).is h ks a:=by
 obtain⟨_,its,r,o,h1,h2,n,h3⟩:=(show dJ P w H h a (.tup (ks.map kV)) from ok a _ e)
 exact⟨o,its.toArray,n,h1,h2,h3,by simpa using Gu r⟩
theorem Gv {kvs:List (List Key×V)} (ok:HOk P w H h) (e:Rd H a (.dT kvs)):kvs.length<=sizeLine/\(a==sysModules)=false/\
 ∃xs,KT H kvs xs/\h.DictOfH (tupleKind (eV P w)) a xs:=by
 obtain⟨z,y,xs,r,o,es,ep,h1,h2,h3,h4,h5⟩:=(show dJ P w H h a (.dT kvs) from Yb ok e)
 refine⟨z,y,xs,r,o,es,ep,h1,h2,h3,h4,fun x hx=> ?_,h5⟩
 have all:∀{l:List (List Key×V)}{m:List (List Key×Addr×Value)},KT H l m->∀x∈m,(tupleKind (eV P w)).is h x.1 x.2.1:=by
  intro l m q
  induction q with
  | nil=>intro x hx;exact nomatch hx
  | @cons p q ps qs hq t ih=>
    intro x hx
    rcases List.mem_cons.mp hx with e | hx
    ·subst e
     exact Dn ok (by rw[<-hq.1];exact hq.2.1)
    ·exact ih x hx
 exact all r x hx
theorem ady {kvs:List (List Key×V)} (ok:HOk P w H h) (e:H a=some (.dT kvs)):kvs.length<=sizeLine/\(a==sysModules)=false/\
 ∃xs,KT H kvs xs/\h.DictOfH (tupleKind (eV P w)) a xs:=Gv ok (.inl e)
end
def dO (H:Hp) (a:Addr) (y:V) (r:Option V):Prop:=
 (∃kvs k,Rd H a (.dK kvs)/\y=kV k/\r=cI kvs k)\/∃kvs k b,Rd H a (.dT kvs)/\y= .ref b/\H b=some (.tup (k.map kV))/\r=cI kvs k
def lY (H:Hp) (a:Addr) (y v:V) (H':Hp):Prop:=
 (∃kvs k,H a=some (.dK kvs)/\y=kV k/\kvs.length<sizeLine/\H'=upd H a (.dK (putK kvs k v)))\/
 ∃kvs k b,H a=some (.dT kvs)/\y= .ref b/\H b=some (.tup (k.map kV))/\kvs.length<sizeLine/\H'=upd H a (.dT (putK kvs k v))
theorem dO.k {H:Hp}{a:Addr}{kvs:List (Key×V)}{k:Key} (e:H a=some (.dK kvs)):dO H a (kV k) (cI kvs k):= .inl ⟨kvs,k, .inl e,rfl,rfl⟩
theorem lY.k {H:Hp}{a:Addr}{kvs:List (Key×V)}{k:Key}{v:V} (e:H a=some (.dK kvs)) (hl:kvs.length<sizeLine):lY H a (kV k) v (upd H a (.dK (putK kvs k v))):= .inl ⟨kvs,k,e,rfl,hl,rfl⟩
section
variable {X:Cx}{pins:List (Addr×Obj)}{σ:St}{H:Hp}{s:Shared}{a:Addr}{y v:V}{u r:Value}{o:Option V}{A:Around}{E:Value->Shared->Prop}
theorem Inv.big (I:Inv X pins σ H s):sysModules<s.heap.objs.size:=by
 have h:mainGlobals<s.heap.objs.size:=(I.mod.glob.keeps I.bk).lt
 exact Nat.lt_trans (by decide) h
theorem Pz {Q:Value->Shared->Prop} (hu:A.units+1<cLine) (I:Inv X pins σ H s) (g:dO H a y (some v)) (ry:RelV y u) (h:∀w' s',Inv X pins σ H s'->RelV v w'->Q w' s'):
 wpAny (model X.prog X.w) A (getItem (.ref a) u) Q E s:=by
 rcases g with⟨kvs,k,e,ey,l⟩ | ⟨kvs,k,b,e,ey,eb,l⟩
 ·subst ey
  obtain⟨z,hd,vs,rel,dd⟩:=vh I.hok e
  obtain⟨w',hw,rw'⟩:=tD.some_of (v:=v) (o:=valueAt vs k) (by rw[l];exact rel.val k)
  exact wpAny_getItem_of (Gs ry) dd.mapOf hw (h w' _ (I.tok _) rw')
 ·subst ey
  cases(show u=Value.ref b from ry)
  obtain⟨z,hd,xs,rel,dd⟩:=Gv I.hok e
  obtain⟨w',hw,rw'⟩:=tD.some_of (v:=v) (o:=(atKey xs k).map (·.2)) (by rw[l];exact rel.val k)
  obtain⟨p,hp,hp2⟩:=Option.map_eq_some_iff.mp hw
  refine wpAny_getItem_heap (tupleKind_room_in1 hu) (Dn I.hok eb) dd hp ?_
  rw[hp2]
  exact h w' _ (I.tok _) rw'
theorem agX {Q:Value->Shared->Prop} (hu:A.units+1<cLine) (I:Inv X pins σ H s) (g:dO H a y o) (ry:RelV y u) (h:∀s',Inv X pins σ H s'->Q (.bool o.isSome) s'):
 wpAny (model X.prog X.w) A (compareOp .In u (.ref a)) Q E s:=by
 rcases g with⟨kvs,k,e,ey,l⟩ | ⟨kvs,k,b,e,ey,eb,l⟩
 ·subst ey
  obtain⟨z,hd,vs,rel,dd⟩:=vh I.hok e
  refine wpAny_in_of (Gs ry) hd dd.mapOf ?_
  rw[<-(rel.val k).qZ,<-l]
  exact h _ (I.tok _)
 ·subst ey
  cases(show u=Value.ref b from ry)
  obtain⟨z,hd,xs,rel,dd⟩:=Gv I.hok e
  refine wpAny_in_heap (tupleKind_room_in1 hu) (Dn I.hok eb) hd dd ?_
  have q:=(rel.val k).qZ
  rw[Option.isSome_map] at q
  rw[<-q,<-l]
  exact h _ (I.tok _)
theorem Vr {Q:Value->Shared->Prop} (hu:A.units+1<cLine) (I:Inv X pins σ H s) (g:dO H a y o) (ry:RelV y u) (h:∀s',Inv X pins σ H s'->Q (.bool (!o.isSome)) s'):
 wpAny (model X.prog X.w) A (compareOp .NotIn u (.ref a)) Q E s:=by
 rcases g with⟨kvs,k,e,ey,l⟩ | ⟨kvs,k,b,e,ey,eb,l⟩
 ·subst ey
  obtain⟨z,hd,vs,rel,dd⟩:=vh I.hok e
  refine wpAny_notIn_of (Gs ry) hd dd.mapOf ?_
  rw[<-(rel.val k).qZ,<-l]
  exact h _ (I.tok _)
 ·subst ey
  cases(show u=Value.ref b from ry)
  obtain⟨z,hd,xs,rel,dd⟩:=Gv I.hok e
  refine wpAny_notIn_heap (tupleKind_room_in1 hu) (Dn I.hok eb) hd dd ?_
  have q:=(rel.val k).qZ
  rw[Option.isSome_map] at q
  rw[<-q,<-l]
  exact h _ (I.tok _)
theorem CW {h':Heap}{t':Nat}{ob:HO} (I:Inv X pins σ H s) (mu:Mut (H a)) (hs:Heap.SameBut a s.heap h') (he:∃q,h'.get? a=some q) (new:dJ X.prog X.w (upd H a ob) h' a ob):
 Inv X pins σ (upd H a ob) {s with heap:=h',toks:=t'}:=
 I.write (x:=a) (e:=a) mu (.inl rfl) (fun b q hb z=>(hs.2 b hb).trans z) he new
theorem Ls {P:Program}{w:World}{H':Hp}{h':Heap}{kvs:List (Key×V)}{vs:List (Key×Value)} (z:kvs.length<=sizeLine) (hd:(a==sysModules)=false) (rel:KV kvs vs) (dd:h'.DictOf (eV P w) a vs):
 dJ P w H' h' a (.dK kvs):=⟨z,hd,vs,rel,dd⟩
theorem PB {H':Hp}{Q:Unit->Shared->Prop} (hu:A.units+1<cLine) (I:Inv X pins σ H s) (g:lY H a y v H') (ry:RelV y u) (rv:RelV v r) (h:∀s',Inv X pins σ H' s'->Q () s'):
 wpAny (model X.prog X.w) A (setItem (.ref a) u r) Q E s:=by
 rcases g with⟨kvs,k,e,ey,l,eH⟩ | ⟨kvs,k,b,e,ey,eb,l,eH⟩
 ·subst ey eH
  obtain⟨z,hd,vs,rel,dd⟩:=Jw I.hok e
  have hz:vs.length<=sizeLine:=by rw[<-rel.length];exact z
  have hl:(putK kvs k v).length<=sizeLine:=by have:=vg kvs k v;omega
  refine wpAny_setItem_pairs (hsz:=hz) (Gs ry) dd fun h' dd' hs=>h _ ?_
  have he:∃q,h'.get? a=some q:=let ⟨q,_,_,hq,_⟩:=dd';⟨q,hq⟩
  exact CW I (by rw[e];exact True.intro) hs he (Ls hl hd (rel.put k rv) dd')
 ·subst ey eH
  cases(show u=Value.ref b from ry)
  obtain⟨z,hd,xs,rel,dd⟩:=ady I.hok e
  have hz:xs.length<=sizeLine:=by rw[<-Paired.length rel];exact z
  have hl:(putK kvs k v).length<=sizeLine:=by have:=vg kvs k v;omega
  refine wpAny_setItem_heap (hsz:=hz) (tupleKind_room_in1 hu) (Dn I.hok eb) dd fun h' dd' hs=>h _ ?_
  obtain⟨q,es,ep,hq,h2,h3,h4,_,h5⟩:=dd'
  refine CW I (by rw[e];exact True.intro) hs ⟨q,hq⟩ ⟨hl,hd,_,(rel.put k eb rv).keeps fun c ys ec=> ?_,q,es,ep,hq,h2,h3,h4,h5⟩
  rw[ao (acZ ec e (fun z=>nomatch z))]
  exact ec
end
section
variable {X:Cx}{pins:List (Addr×Obj)}{σ:St}{H:Hp}{s:Shared}{a:Addr}{kvs:List (Key×V)}{k:Key}{u:Value}{A:Around}{E:Value->Shared->Prop}
end
def aaj (i:Expr):Prop:=∀ov iv,subscripted i false ov iv=operate [ov,iv] (getItem ov iv)
theorem Vs {prog:Program}{w:World}{A:Around}{E:Value->Shared->Prop}{s:Shared}{env:Env}{value slice:Expr}{pos:Pos}{T id:String}{Q:Value->Shared->Prop}
 (hl:typeLookup (.type T) "__getitem__"=pure (some (.builtin id))) (hs:aaj slice)
 (h:wpAny (model prog w) A (eval value env) (fun o s₁=>wpAny (model prog w) A (eval slice env) (fun i s₂=>s₂.TypeIs o T/\wpAny (model prog w) A (getItem o i) Q E s₂) E s₁) E s):
 wpAny (model prog w) A (eval (.Subscript value slice pos) env) Q E s:=by
 refine Subscript_ (wpAny_mono h (fun o s₁ h₁=>wpAny_mono h₁ (fun i s₂ h₂=> ?_) fun _ _ x=>x) fun _ _ x=>x)
 obtain⟨hT,h₂⟩:=h₂
 unfold subscriptTail
 refine wpAny_bind ?_
 rw[getitemInPython_of_ne hT.not_modules]
 refine wpAny_bind (wpAny_specialOf hT hl ?_)
 have fin:wpAny (model prog w) A (subscripted slice false o i) (fun r s₃=>wpAny (model prog w) A (letTemporaryGo value o r>>=fun _=>pure r) Q E s₃) E s₂:=by
  rw[hs o i]
  exact wpAny_operating (wpAny_mono h₂ (fun r s₃ h₃=>wpAny_bind (wpAny_letTemporaryGo (wpAny_pure h₃))) fun _ _ x=>x)
 first
  | exact wpAny_pure (wpAny_bind fin)
  | exact wpAny_bind (wpAny_pure (wpAny_bind fin))
  | exact wpAny_bind fin
theorem Jx {X:Cx}{pins:List (Addr×Obj)}{σ:St}{H:Hp}{s:Shared}{a:Addr}{y:V}{o:Option V} (I:Inv X pins σ H s) (g:dO H a y o):s.TypeIs (.ref a) "dict":=by
 rcases g with⟨kvs,k,e,_,_⟩ | ⟨kvs,k,b,e,_,_,_⟩
 ·obtain⟨_,_,vs,_,dd⟩:=vh I.hok e
  exact dd.typeIs
 ·obtain⟨_,_,xs,_,dd⟩:=Gv I.hok e
  exact dd.typeIs
def Yc (td ty:TE):TE:=fun σ H Q=>td σ H fun x H1=>ty σ H1 fun y H2=>∃a v,x= .ref a/\dO H2 a y (some v)/\Q v H2
def adz (ty td:TE):TE:=fun σ H Q=>ty σ H fun y H1=>td σ H1 fun x H2=>∃a o,x= .ref a/\dO H2 a y o/\Q (.bl o.isSome) H2
def Nz (ty td:TE):TE:=fun σ H Q=>ty σ H fun y H1=>td σ H1 fun x H2=>∃a o,x= .ref a/\dO H2 a y o/\Q (.bl (!o.isSome)) H2
def Yd (td ty tv:TE):TS:=fun D σ H=>tv σ H fun v H1=>td σ H1 fun x H2=>ty σ H2 fun y H3=>∃a H4,x= .ref a/\lY H3 a y v H4/\D.nx σ H4
section
variable {X:Cx}{o i e value:Expr}{pos pos' tpos:Pos}{td ty tv:TE}
theorem Vt (hu:X.A.units+1<cLine) (ho:PE X o td) (hi:PE X i ty) (hs:aaj i):PE X (.Subscript o i pos) (Yc td ty):=by
 intro pins s σ H Q I h
 refine Vs PySem.F.slot_dict_getitem.lookup hs (thn (ho pins s σ H _ I h) fun u s1 ⟨x,H1,I1,rx,q1⟩=>thn (hi pins s1 σ H1 _ I1 q1) fun iv s2 ⟨y,H2,I2,ry,a,v,ex,g,q2⟩=> ?_)
 subst ex
 obtain rfl:u=Value.ref a:=rx
 exact⟨Jx I2 g,Pz hu I2 g ry fun w' s3 I3 rw'=>⟨v,H2,I3,rw',q2⟩⟩
theorem aak (hu:X.A.units+1<cLine) (hi:PE X i ty) (ho:PE X o td):PC X .In i o (adz ty td):=by
 intro pins s σ H Q I h
 refine thn (hi pins s σ H _ I h) fun iv s1 ⟨y,H1,I1,ry,q1⟩=>thn (ho pins s1 σ H1 _ I1 q1) fun u s2 ⟨x,H2,I2,rx,a,ov,ex,g,q2⟩=> ?_
 subst ex
 obtain rfl:u=Value.ref a:=rx
 exact agX hu I2 g ry fun s3 I3=>⟨.bl ov.isSome,H2,I3,rfl,q2⟩
theorem PJ (hu:X.A.units+1<cLine) (hi:PE X i ty) (ho:PE X o td):PC X .NotIn i o (Nz ty td):=by
 intro pins s σ H Q I h
 refine thn (hi pins s σ H _ I h) fun iv s1 ⟨y,H1,I1,ry,q1⟩=>thn (ho pins s1 σ H1 _ I1 q1) fun u s2 ⟨x,H2,I2,rx,a,ov,ex,g,q2⟩=> ?_
 subst ex
 obtain rfl:u=Value.ref a:=rx
 exact Vr hu I2 g ry fun s3 I3=>⟨.bl (!ov.isSome),H2,I3,rfl,q2⟩
theorem Vu (hu:X.A.units+1<cLine) (ho:PE X o td) (hi:PE X i ty) (hv:PE X value tv) (hs:swapsWith value (some (.Subscript o i pos')) pos.line X.env=pure false):
 PS X (.Assign [.Subscript o i pos'] value pos) (Yd td ty tv):=by
 intro pins s σ H D I h
 refine wpAny_Assign_Subscript (thn (hv pins s σ H _ I h) fun r s1 ⟨v,H1,I1,rv,q1⟩=>thn (ho pins s1 σ H1 _ I1 q1) fun u s2 ⟨x,H2,I2,rx,q2⟩=>thn (hi pins s2 σ H2 _ I2 q2) fun iv s3 ⟨y,H3,I3,ry,a,H4,ex,g,q3⟩=> ?_) hs
 subst ex
 obtain rfl:u=Value.ref a:=rx
 exact PB hu I3 g ry rv fun s4 I4=>⟨σ,H4,I4,q3⟩
end
theorem Jy {P:Program}{w:World}{H:Hp} (h:Heap) (hb:sysModules<h.objs.size):dJ P w H (h.push {cls:= .type "dict",data:= .dict #[]}) h.objs.size (.dK []):=
 ⟨Nat.zero_le _,beq_eq_false_iff_ne.mpr (Ne.symm (Nat.ne_of_lt hb)),[], .nil,Heap.DictOf.new h⟩
def Rp:TE:=fun _ H Q=>∀p,H p=none->Q (.ref p) (upd H p (.dK []))
section
variable {X:Cx}{pos:Pos}
theorem Rq:PE X (.Dict [] [] pos) Rp:=fun pins s σ H Q I h=>
 wpAny_Dict_empty ⟨.ref s.heap.objs.size,_,I.laid (a:=s.heap.objs.size) (o:= .dK []) (t':=s.toks) (fun _ _ q=>Heap.get?_push_of_some _ q) (Nat.le_refl _) (Jy s.heap I.big),rfl,h _ (I.hok.fresh (Nat.le_refl _))⟩
end
def Lw:List (TE×TE)->St->Hp->(List (V×V)->Hp->Prop)->Prop
 |[],_,H,Q=>Q [] H
 | (tk,tv)::r,σ,H,Q=>tk σ H fun x H1=>tv σ H1 fun y H2=>Lw r σ H2 fun ps H3=>Q ((x,y)::ps) H3
abbrev VV:List (V×V)->List (Value×Value)->Prop:=Paired fun p q=>RelV p.1 q.1/\RelV p.2 q.2
def PPs (X:Cx) (pos:Pos) (keys:List (Option Expr)) (values:List Expr) (trs:List (TE×TE)):Prop:=
 ∀(pins:List (Addr×Obj)) (s:Shared) (σ:St) (H:Hp) (Q:List (V×V)->Hp->Prop),Inv X pins σ H s->Lw trs σ H Q->
  wpAny (model X.prog X.w) X.A (evalPairs (pairTrees keys values X.env pos)) (fun vs s'=>∃ps H',Inv X pins σ H' s'/\VV ps vs/\Q ps H') X.xe s
theorem Vv {X:Cx}{pos:Pos}:PPs X pos [] [] []:=fun pins s σ H Q I h=>pairTrees_nil_walk ⟨[],H,I, .nil,h⟩
theorem Rr {X:Cx}{pos:Pos}{k v:Expr}{ks:List (Option Expr)}{vs:List Expr}{tk tv:TE}{trs:List (TE×TE)} (hk:PE X k tk) (hv:PE X v tv) (hr:PPs X pos ks vs trs):
 PPs X pos (some k::ks) (v::vs) ((tk,tv)::trs):=fun pins s σ H Q I h=>
 pairTrees_cons_walk (thn (hk pins s σ H _ I h) fun u s1 ⟨x,H1,I1,rx,q1⟩=>thn (hv pins s1 σ H1 _ I1 q1) fun w2 s2 ⟨y,H2,I2,ry,q2⟩=>
  thn (hr pins s2 σ H2 _ I2 q2) fun ws s3 ⟨ps,H3,I3,rel,q3⟩=>⟨(x,y)::ps,H3,I3, .cons ⟨rx,ry⟩ rel,q3⟩)
def eU (kvs more:List (Key×V)):List (Key×V):=more.foldl (fun acc kv=>putK acc kv.1 kv.2) kvs
theorem KV.merge:∀{more:List (Key×V)}{rs:List (Key×Value)}{kvs:List (Key×V)}{vs:List (Key×Value)},KV more rs->KV kvs vs->KV (eU kvs more) (merged vs rs):=by
 intro more rs kvs vs r
 unfold KV at r
 induction r generalizing kvs vs with
 | nil=>intro q;exact q
 | @cons p q ps qs h t ih=>
   intro r0
   have e:KV (putK kvs p.1 p.2) (stored vs q.1 q.2):=by
    have:=r0.put p.1 h.2
    rw[<-h.1];exact this
   exact ih e
theorem qx:∀(more kvs:List (Key×V)),(eU kvs more).length<=kvs.length+more.length
 |[],kvs=>by show kvs.length<=kvs.length+0;omega
 | p::r,kvs=>by
   have h1:=qx r (putK kvs p.1 p.2)
   have h2:=vg kvs p.1 p.2
   show(eU (putK kvs p.1 p.2) r).length<=_
   rw[List.length_cons];omega
theorem Dp {P:Program}{w:World}:∀{kvs:List (Key×V)}{ws:List (Value×Value)},VV (kvs.map fun kv=>(kV kv.1,kv.2)) ws->∃rs,Carries (eV P w) ws rs/\KV kvs rs
 |[],_,r=>by rw[List.map_nil] at r;cases r;exact⟨[],True.intro, .nil⟩
 | p::kvs,_,r=>by
   rw[List.map_cons] at r
   cases r with
   | @cons a b as bs h t=>
     obtain⟨rs,c,q⟩:=Dp (P:=P) (w:=w) t
     obtain⟨b1,b2⟩:=b
     exact⟨(p.1,b2)::rs,⟨Gs h.1,rfl,c⟩, .cons ⟨rfl,h.2⟩ q⟩
def Ye (trs:List (TE×TE)):TE:=fun σ H Q=>∀p,H p=none->Lw trs σ (upd H p (.dK [])) fun ps H2=>H2 p=some (.dK [])/\∃kvs:List (Key×V),ps=kvs.map (fun kv=>(kV kv.1,kv.2))/\kvs.length<=15/\Q (.ref p) (upd H2 p (.dK (eU [] kvs)))
theorem Vw {X:Cx}{pos:Pos}{keys:List (Option Expr)}{values:List Expr}{trs:List (TE×TE)} (h:PPs X pos keys values trs) (hall:keys.all (·.isSome)=true) (hl:keys.length=values.length) (h0:keys≠[])
 (h15:keys.length<=15):PE X (.Dict keys values pos) (Ye trs):=by
 intro pins s σ H Q I q
 have hn:=I.hok.fresh (Nat.le_refl s.heap.objs.size)
 have I1:=I.laid (a:=s.heap.objs.size) (o:= .dK []) (h':=s.heap.push {cls:= .type "dict",data:= .dict #[]}) (t':=s.toks) (fun _ _ q=>Heap.get?_push_of_some _ q) (Nat.le_refl _) (Jy s.heap I.big)
 refine wpAny_Dict_walk (knd:=eV X.prog X.w) hall hl h0 h15 (thn (h pins _ σ _ _ I1 (q _ hn)) fun ws s2 ⟨ps,H2,I2,rel,e,kvs,ep,lk,q2⟩=> ?_)
 subst ep
 obtain⟨rs,c,rk⟩:=Dp (P:=X.prog) (w:=X.w) rel
 obtain⟨z,hd,vs0,r0,dd⟩:=Jw I2.hok e
 cases r0
 refine⟨rs,c,dd,fun h' dd' hs=>⟨.ref s.heap.objs.size,_, ?_,rfl,q2⟩⟩
 have hz:(eU [] kvs).length<=sizeLine:=by
  have h1:=qx kvs []
  rw[List.length_nil] at h1
  rw[sizeLine_eq];omega
 have he:∃q,h'.get? s.heap.objs.size=some q:=let ⟨q,_,_,hq,_⟩:=dd';⟨q,hq⟩
 exact CW I2 (by rw[e];exact True.intro) hs he (Ls hz hd (rk.merge .nil) dd')
structure M1 (X:Cx) (o:Expr) (m:Str) (apos:Pos) (e:Expr) (cpos:Pos):Prop where
 base:attributeBase o m X.env (eval o X.env)=eval o X.env
 few:((backTo cpos (starEach [e] X.env)).all (fun x=> !x.1)&&(backToKw cpos (keywordEach [] X.env)).all (fun x=>x.1.isSome)
  &&decide (([e]:List Expr).length+([]:List Keyword).length+(if([]:List Keyword).isEmpty then 0 else 1)<30))=true
 line:(apos.endLine==cpos.line)=true
 trees:backTo cpos (starEach [e] X.env)=[(false,eval e X.env)]
structure M2 (X:Cx) (o:Expr) (m:Str) (apos:Pos) (e f:Expr) (cpos:Pos):Prop where
 base:attributeBase o m X.env (eval o X.env)=eval o X.env
 few:((backTo cpos (starEach [e,f] X.env)).all (fun x=> !x.1)&&(backToKw cpos (keywordEach [] X.env)).all (fun x=>x.1.isSome)
  &&decide (([e,f]:List Expr).length+([]:List Keyword).length+(if([]:List Keyword).isEmpty then 0 else 1)<30))=true
 line:(apos.endLine==cpos.line)=true
 trees:backTo cpos (starEach [e,f] X.env)=[(false,eval e X.env),(false,eval f X.env)]
def IsD (H:Hp) (a:Addr):Prop:=(∃kvs,Rd H a (.dK kvs))\/∃kvs,Rd H a (.dT kvs)
theorem Rt {X:Cx}{pins:List (Addr×Obj)}{σ:St}{H:Hp}{s:Shared}{a:Addr} (I:Inv X pins σ H s) (d:IsD H a):
 s.TypeIs (.ref a) "dict"/\(∀b,Value.ref a= .ref b->∃ob,s.heap.get? b=some ob/\ob.dict=none)/\(a==sysModules)=false:=by
 rcases d with⟨kvs,e⟩ | ⟨kvs,e⟩
 ·obtain⟨_,hd,vs,_,dd⟩:=vh I.hok e
  refine⟨dd.typeIs,fun b q=> ?_,hd⟩
  cases q
  obtain⟨ob,_,_,h1,h2,_⟩:=dd
  exact⟨ob,h1,h2.2.1⟩
 ·obtain⟨_,hd,xs,_,dd⟩:=Gv I.hok e
  refine⟨dd.typeIs,fun b q=> ?_,hd⟩
  cases q
  obtain⟨ob,_,_,h1,h2,_⟩:=dd
  exact⟨ob,h1,h2.2.1⟩
section
variable {X:Cx}{pins:List (Addr×Obj)}{σ:St}{H:Hp}{s:Shared}{a:Addr}{y d:V}{u r:Value}{o:Option V}{A:Around}{E:Value->Shared->Prop}
end
section
variable {X:Cx}{o e f:Expr}{apos cpos:Pos}{td ty tx:TE}
end
section
variable {X:Cx}{pins:List (Addr×Obj)}{σ:St}{H:Hp}{s:Shared}{a:Addr}{kvs:List (Key×V)}{A:Around}{E:Value->Shared->Prop}
end
section
variable {X:Cx}{pins:List (Addr×Obj)}{σ:St}{H:Hp}{s:Shared}{a:Addr}{y:V}{u:Value}{A:Around}{E:Value->Shared->Prop}
end
end L2
namespace Att
open PySem PySem.W PySem.Calls PyProof.Rows
theorem Ck {P:Params}{h:Heap}:∀(ns:List Int) (vs:List Value),WellAll P h vs (ns.map WData.int)->IntsAre vs ns:=by
 intro ns
 induction ns with
 | nil=>
   intro vs w
   rw[List.map_nil] at w
   cases w
   exact .nil
 | cons n ns ih=>
   intro vs w
   rw[List.map_cons] at w
   cases w with
   | cons a b=>
     cases a
     exact .cons _ _ (ih _ b)
theorem PK {l:OpenLaw}{n:Nat} (hn:l.most=some n) {P:Params}{h:Heap}{args:List WData}{vals:List Value}
 (hpre:l.row.toRowW.claim.pre args=true) (hwl:WellAll P h vals args):
 ∃a vs ns,vals=[Value.ref a]/\args=[WData.list (ns.map WData.int)]/\h.get? a=some {cls:= .type "list",data:= .seq vs.toArray}/\IntsAre vs ns/\ns.length<=n:=by
 have hsh:WShape.hasAll [] args [.list .int]=true:=(pre_splitW hpre).1
 have hc:l.pre.holds [] {args:=args}=true:=(pre_splitW hpre).2
 obtain⟨d,r,rfl,h1,h2⟩:=hasAllW_cons hsh
 obtain rfl:=hasAllW_nil h2
 obtain⟨xs,rfl,h3⟩:=hasW_list h1
 obtain⟨ns,rfl⟩:=items_int h3
 have hlen:ns.length<=n:=by
  unfold OpenLaw.pre at hc
  have h4:(WTm.not (.lt (.lit (.int (n:Int))) (.len (.arg 0)))).holds [] {args:=[.list (ns.map .int)]}=true:=by
   have h4:=(holds_andW hc).1
   rw[hn] at h4
   exact h4
  have h5:=condW_of h4 (w_not (w_lt w_lit (w_len_list (w_arg rfl))))
  rw[List.length_map] at h5
  refine Nat.le_of_not_lt fun q=> ?_
  have q':(n:Int)<((ns.length:Nat):Int):=by omega
  first
   | (rw[decide_eq_true q'] at h5;exact absurd h5 (by decide))
   | (simp at h5;omega)
 cases hwl with
 | cons w1 w2=>
   cases w2
   cases w1 with
   | list ho hall=>exact⟨_,_,ns,rfl,rfl,ho,Ck ns _ hall,hlen⟩
theorem PL (l:OpenLaw) (args:List WData):l.row.toRowW.claim.post args (.bool true) args=true:=
 postW_of (r:=l.row.toRowW) (X:=(true==true))
  (show WShape.has [] (.bool true) .bool=true by first | rfl | decide | simp[WShape.has,WShape.arms,WShape.armsAll])
  (show(WTm.eq .res (.lit (.bool true))).value [] {args:=args,res:=some (.bool true),after:=args}=some (.bool (true==true)) from w_eq_bool (w_res rfl) w_lit) rfl
theorem Jz {l:OpenLaw}{n:Nat}{q:Program}{loose:List Str}{XP:(Str->Option Value)->Heap->Prop}{YP:World->Heap->Prop}{d:DefRec}
 (hn:l.most=some n) (hdf:d.params.defaults=[])
 (call:∀(w:World) (s₀ s₁:Shared) (mg mb:Str->Option Value) (fa:Addr) (o:Obj) (pm cd doc:Value) (a:Addr) (vs:List Value) (ns:List Int),
   Ground q loose [] XP w s₀ mg mb s₁.heap->YP w s₁.heap->
   s₁.heap.get? fa=some o->o.data= .func (docDef d.name d.params d.body d.scope pm cd doc)->s₁.heap.CodeRec cd d.name->mg d.name=some (.ref fa)->
   s₁.heap.get? a=some {cls:= .type "list",data:= .seq vs.toArray}->IntsAre vs ns->ns.length<=n->s₁.gens= #[]->
   codeAny (model l.prog w) callerA (.call (.ref fa) ⟨[.ref a],[]⟩) (fun r s'=>r= .ok (.ret (.bool true))/\OldK s₁.heap s'.heap/\s'.os=s₁.os/\AllBare s'.gens) s₁):
 WalkO q loose XP YP l.row.toRowW d [] (fun f vs=>PySem.call f vs):=by
 intro w s₀ s₁ mg mb G Y fa o pm cd doc dV kV ho hd hcd hD hmg hg args vals as hpre hlay hrd hwl hlo
 obtain rfl:dV= .none:=Dflts.none hD hdf
 obtain rfl:kV= .none:=Dflts.noKw hD
 obtain⟨a,vs,ns,rfl,rfl,hobj,hints,hlen⟩:=PK hn hpre hwl
 refine enter_call (codeAny_mono (call w s₀ s₁ mg mb fa o pm cd doc a vs ns G Y ho (fd_plain hd) hcd hmg hobj hints hlen hg) fun r s' hq=> ?_)
 obtain⟨rfl,h2,h3,h4⟩:=hq
 exact⟨.inl ⟨.bool true, .bool true,[],rfl,fun _=>rfl, .bool true,PL l _,fun _=>⟨List.Pairwise.nil,fun _ hm=>(nomatch hm)⟩⟩,h2,h3,h4⟩
section
variable {prog:Program}{w:World}{A:Around}{E:Value->Shared->Prop}{s:Shared}{K:Frag}
end
end Att
namespace L2
open PySem PySem.Spec PyProof.Rows
theorem Gw:∀{vs:List Value}{ns:List Int},IntsAre vs ns->Vals (ns.map V.int) vs
 | _,_, .nil=> .nil
 | _,_, .cons n t h=> .cons ⟨t,rfl⟩ (Gw h)
def Only (H:Hp):Prop:=∀b,H b=none\/∃o xs,H b=some (.frz o (.lst xs))
theorem Ru {P:Program}{w:World}{K:PySem.W.Frag}{mg mb:Str->Option Value}{CX:CXT}{k:Nat}{fa a:Addr}{fd:FuncData}{x:Str}{sp:Sp}{s₁:Shared}{vs:List Value}{ns:List Int}
 (KX:K.In s₁.heap) (hns:s₁.heap.Ns mainGlobals mg) (hb:s₁.heap.Ns builtinsNs mb) (hbb:∀x:Str,x≠"__name__"->mb x=bootBuiltins x) (hlim:s₁.heap.NoLimit) (hg:s₁.gens= #[])
 (ha:s₁.heap.get? a=some {cls:= .type "list",data:= .seq vs.toArray}) (hi:IntsAre vs ns) (hl:ns.length<=sizeLine) (hr:iQ k callerA)
 (F:∀base:Heap,K.In base->base.Ns mainGlobals mg->aY P w K mg base CX k fa fd [x] sp) (hbind:∀(s:Shared) (u:Value),BindsTo s fd ⟨[u],[]⟩ [(x,u)])
 (hsp:∀H:Hp,Only H->SqL K H a (ns.map V.int)->sp [.ref a] H (fun v _=>v= .bl true) fun _ _ _=>False)
 (hCX:∀H e s',CX [] H s₁ (fun _ _ _=>False) e s'->False):
 codeAny (model P w) callerA (.call (.ref fa) ⟨[.ref a],[]⟩) (fun r s'=>r= .ok (.ret (.bool true))/\OldK s₁.heap s'.heap/\s'.os=s₁.os/\AllBare s'.gens) s₁:=by
 have rv:=Gw hi
 have lenV:=hi.length
 have core:∀H:Hp,Only H->SqL K H a (ns.map V.int)->HOk P w H s₁.heap->(∀b,H b≠none->b=a)->(H a≠none->K.lookup a=none)->
  codeAny (model P w) callerA (.call (.ref fa) ⟨[.ref a],[]⟩) (fun r s'=>r= .ok (.ret (.bool true))/\OldK s₁.heap s'.heap/\s'.os=s₁.os/\AllBare s'.gens) s₁:=by
  intro H hO hS hok hA hK
  have NB:∀{b:Addr}{o:Obj},s₁.heap.get? b=some o->H b=none->(Hh s₁.heap H).get? b=some o:=fun e n=>QM e n
  have noA:∀{b:Addr}{o:Obj}{es:Array DictEntry}{ep:Nat},s₁.heap.get? b=some o->o.data= .dict es ep->H b=none:=fun{b o es ep} e d=>by
   cases q:H b with
   | none=>rfl
   | some u=>
     have e':b=a:=hA b (by rw[q];simp)
     subst e'
     rw[ha] at e;cases e
     have d':Data.seq vs.toArray _=Data.dict es ep:=d
     cases d'
  have nsK:∀{b:Addr}{m:Str->Option Value},s₁.heap.Ns b m->(Hh s₁.heap H).Ns b m:=fun{b m} ⟨o,es,ep,e,d,r⟩=>⟨o,es,ep,NB e (noA e d),d,r⟩
  have hKb:K.In (Hh s₁.heap H):=fun b o e=>NB (KX b o e) (by
   cases q:H b with
   | none=>rfl
   | some u=>
     have e':b=a:=hA b (by rw[q];simp)
     subst e'
     rw[hK (by rw[q];simp)] at e;cases e)
  have hM:Mod K mg (Hh s₁.heap H):=⟨hKb,nsK hns,⟨mb,nsK hb,hbb⟩,let ⟨mc,h1,h2⟩:=hlim;⟨mc,nsK h1,h2⟩⟩
  have e0:Lq P w K mg (Hh s₁.heap H) callerA [] s₁ H:=⟨rfl,hM,fun b o e=>U4 e,Nat.le_of_eq (O5 _ _),trivial,fun b hb=>absurd (show b∈([]:List Addr) from hb) (by simp),hok, .of_eq hg⟩
  refine codeAny_mono ((F _ hKb (nsK hns)).run callerA [] s₁ H ⟨[.ref a],[]⟩ [.ref a] [.ref a] _ _ hr e0 (hbind s₁ (.ref a)) (.cons rfl .nil) (hsp H hO hS)) fun r s' h=> ?_
  cases r with
  | error e=>exact(hCX H e s' h).elim
  | ok fl=>
    cases fl with
    | next=>exact False.elim h
    | brk=>exact False.elim h
    | cont=>exact False.elim h
    | ret u=>
      obtain⟨v,H',os,bare,un,hok',r',q⟩:=h
      have q':v= .bl true:=q
      subst q'
      obtain rfl:u=Value.bool true:=r'
      refine⟨rfl,OldK.of_keep fun b o e=> ?_,os,bare⟩
      cases q:H b with
      | none=>exact un.keep b o e q (by intro z;exact absurd (show b∈([]:List Addr) from z) (by simp)) (by simp)
      | some u=>
        rcases hO b with z | ⟨ob,xs,z⟩
        ·rw[q] at z;cases z
        ·have z2:=un.frzs b ob _ z
         obtain⟨e1,_⟩:=hok b _ z
         obtain⟨e2,_⟩:=hok' b _ z2
         rw[e] at e1;cases e1
         exact e2
 cases hk:K.lookup a with
 | some o=>
   have e:=KX a o hk
   rw[ha] at e
   cases e
   refine core (fun _=>none) (fun _=> .inl rfl) (.inr ⟨_,vs.toArray,_,hk,rfl,rfl,rfl,by rw[List.size_toArray,lenV];exact hl,by simpa using rv⟩) (fun b u z=>by have z':(none:Option HO)=some u:=z;cases z') (fun b z=>absurd rfl z) fun z=>absurd rfl z
 | none=>
   refine core (fun b=>if b=a then some (.frz {cls:= .type "list",data:= .seq vs.toArray} (.lst (ns.map V.int))) else none) (fun b=> ?_) (.inl (.inr ⟨{cls:= .type "list",data:= .seq vs.toArray},if_pos rfl⟩)) (fun b u z=> ?_) (fun b z=> ?_) fun _=>hk
   ·by_cases hb:b=a
    ·exact .inr ⟨_,_,if_pos hb⟩
    ·exact .inl (if_neg hb)
   ·by_cases hb:b=a
    ·have z':=(if_pos hb).symm.trans z
     cases z'
     subst hb
     exact⟨ha,by rw[List.length_map];exact hl,vs,_,rv,ha⟩
    ·have z':=(if_neg hb).symm.trans z
     cases z'
   ·by_cases hb:b=a
    ·exact hb
    ·exact absurd (if_neg hb) z
theorem NK {l:PySem.W.OpenLaw}{n k:Nat}{q:Program}{loose:List Str}{XP:(Str->Option Value)->Heap->Prop}{YP:World->Heap->Prop}{d:DefRec}{K:Params->PySem.W.Frag}{CX:World->CXT}{sp:World->Sp}{x:Str}
 (hn:l.most=some n) (hn2:n<=sizeLine) (hdf:d.params.defaults=[]) (hr:iQ k callerA)
 (hY:∀(w:World) (h:Heap),YP w h->(K w.params).In h)
 (F:∀(w:World) (mg:Str->Option Value) (fa:Addr) (h:Heap),(K w.params).In h->h.Ns mainGlobals mg->mg d.name=some (.ref fa)->
   ∃fd:FuncData,(∀(s:Shared) (u:Value),BindsTo s fd ⟨[u],[]⟩ [(x,u)])/\
    ∀base:Heap,(K w.params).In base->base.Ns mainGlobals mg->aY l.prog w (K w.params) mg base (CX w) k fa fd [x] (sp w))
 (hsp:∀(w:World) (H:Hp) (a:Addr) (ns:List Int),ns.length<=n->Only H->SqL (K w.params) H a (ns.map V.int)->sp w [.ref a] H (fun v _=>v= .bl true) fun _ _ _=>False)
 (hCX:∀(w:World) (H:Hp) (s:Shared) (e:Value) (s':Shared),CX w [] H s (fun _ _ _=>False) e s'->False):
 PySem.W.WalkO q loose XP YP l.row.toRowW d [] (fun f vs=>PySem.call f vs):=by
 refine Att.Jz hn hdf fun w s₀ s₁ mg mb fa o pm cd doc a vs ns G Y ho hd hcd hmg hobj hints hlen hg=> ?_
 have KX:=hY w _ Y
 obtain⟨fd,hb,hF⟩:=F w mg fa _ KX G.T.g hmg
 exact Ru KX G.T.g G.T.b G.T.builtins G.T.nolimit hg hobj hints (Nat.le_trans hlen hn2) hr hF hb (fun H hO hS=>hsp w H a ns hlen hO hS) fun H e s'=>hCX w H s₁ e s'
end L2
/- THE LAST THEOREM (shape;LID,My.* are yours):
   My.Adr:a structure of the addresses that your layer names (classes,functions);My.Txt K t:a structure (Prop) of the equations over K;
   My.aal:{K}{implicit addresses ..} (e1:nsIn K mainGlobals "law"=some (some (.ref f))) (e2:K.lookup f=some ⟨oc,od, .func (fnOf "law" "law" params body scope dV kV doc pm an cdv ct),sl⟩) (e3:codeIn K cdv "law"=true) .. :∃t,My.Txt K t
theorem PySem.Challenge.cw_LID_holds : PySem.Challenge.rw_LID.Holds := by
 w_on;o_law;k_head;(case hw=>w_witness2)
 k_fill
 refine L2.NK (l:=PySem.Challenge.aam) (n:=63) (k:=40) (x:="script") (CX:=fun w=> ..) (sp:=fun _=>My.agY) rfl (by decide) rfl ⟨rfl,by decide,by decide⟩ (fun w h Y=>PySem.W.kIn_of Y) ?F ?S ?C
 case F=>
  intro w mg fa h KX G hmg
  have T:∃t,My.Txt (L2.KOf KX) t:=by
   dsimp only[L2.KOf] -- K must stand as «<heap const> w.params» for k_is
   refine' My.aal ?e1 ?e2 ?e3 ..
   (case e1=>PySem.W.k_is) -- in the order:a name->its address->its object->its parts
   (case e2=>PySem.W.k_is)
   ..
  obtain⟨t,T⟩:=T
  have e0:=hmg.symm.trans (PySem.W.mg_of KX G T.law)
  cases e0 -- fa is the law's own address
  exact⟨_,fun s u=> .of_eq rfl,fun base kb nb=>My.aan T kb nb⟩ -- if «.of_eq rfl» comes too early:refine' ⟨_, ?b,fun base kb nb=>My.aan T kb nb⟩;exact fun s u=> .of_eq rfl
 case S=>exact fun w H a ns hl hO hS=> ..
 case C=>exact ..
(the tactic k_is has no namespace:write k_is) -/
namespace L2
open PySem PySem.Spec PyProof.Rows
def bC (s:Stmt):Arguments:=match s with
 | .FunctionDef _ a _ _ _ _ _ _ _ _=>a
 | _=>{posonlyargs:=[],args:=[],vararg:=none,kwonlyargs:=[],kw_defaults:=[],kwarg:=none,defaults:=[]}
def bh (s:Stmt):List Stmt:=match s with
 | .FunctionDef _ _ b _ _ _ _ _ _ _=>b
 | _=>[]
def aa (s:Stmt):Scope:=match s with
 | .FunctionDef _ _ _ _ _ _ sc _ _ _=>sc
 | _=>{kind:= .function,names:=[],isGenerator:=false,isCoroutine:=false}
abbrev CX0:CXT:=fun _ _ _ _ _ _=>False
abbrev E0:XK:=fun _ _ _=>False
theorem cJ {X:Cx}:Passes CX0 X E0:=fun _ _ _ _ _ _ _ h=>h.elim
structure Fun (K:PySem.W.Frag) (x qual:Str) (st:Stmt) (f:Addr) (fd:FuncData):Prop where
 ex:∃(oc:Value) (od:Option Addr) (kV doc pm:Value) (an:Option Addr) (cdv ct:Value) (osl:Array (Option Value)),
  fd=PySem.W.fnOf x qual (bC st) (bh st) (aa st) .none kV doc pm an cdv ct/\K.lookup f=some ⟨oc,od, .func fd,osl⟩/\PySem.W.codeIn K cdv qual=true
 kp:PySem.W.keepIn K (.ref f)=true
section
variable {P:Program}{w:World}{K:PySem.W.Frag}{mg:Str->Option Value}{base:Heap}
theorem Fun.ok {x qual:Str}{st:Stmt}{f:Addr}{fd:FuncData}{N ps:List Str}{k:Nat}{sp:Sp} (F:Fun K x qual st f fd) (S:bL N ps (aa st)) (len:∀vs H Q E,sp vs H Q E->vs.length=ps.length)
 (hbody:∀(cdv:Value) (A:Around) (outer:List Env) (s:Shared) (H:Hp) (vs:List V) (Q:VK) (E:XK),iQ k (A.deeper (envOfC qual (aa st) s.heap.objs.size f cdv))->sp vs H Q E->
   ∃t,PSs (jB CX0 P w K mg base N qual (aa st) f cdv A outer s H E).nox (bh st) t/\t {nx:=fun _ H'=>Q .non H',rt:=Q} (start N vs) H):aY P w K mg base CX0 (k+1) f fd ps sp:=by
 obtain⟨oc,od,kV,doc,pm,an,cdv,ct,osl,rfl,lk,hcd⟩:=F.ex
 refine X7 lk hcd S len fun A outer s H vs Q E hr hsp=> ?_
 obtain⟨t,h,q⟩:=hbody cdv A outer s H vs Q E hr hsp
 exact⟨t,h.nox,q⟩
theorem jC {x qual:Str}{st:Stmt}{f:Addr}{oc:Value}{od an:Option Addr}{osl:Array (Option Value)}{kV doc pm cdv ct:Value} (l:K.lookup f=some ⟨oc,od, .func (PySem.W.fnOf x qual (bC st) (bh st) (aa st) .none kV doc pm an cdv ct),osl⟩)
 (c:PySem.W.codeIn K cdv qual=true) (k:PySem.W.keepIn K (.ref f)=true):Fun K x qual st f (PySem.W.fnOf x qual (bC st) (bh st) (aa st) .none kV doc pm an cdv ct):=⟨⟨oc,od,kV,doc,pm,an,cdv,ct,osl,rfl,l,c⟩,k⟩
end
theorem dZ {A:Around}{k:Nat} (hr:iQ k A):A.units+1<cLine:=Nat.lt_of_le_of_lt (Nat.add_le_add_left (by decide:1<=64) _) hr.units
theorem bG {n:Nat} (h:n<=1000):n<sizeLine:=Nat.lt_of_le_of_lt h (by decide)
section
variable {X:Cx}
end
theorem Ay {c A B:Prop} [Decidable c] (h1:c->A) (h2:¬c->B):if c then A else B:=by
 by_cases h:c
 ·rw[if_pos h]
  exact h1 h
 ·rw[if_neg h]
  exact h2 h
def aN (H H':Hp):Prop:=∀b o,H b=some o->H' b=some o
theorem aN.refl (H:Hp):aN H H:=fun _ _ h=>h
theorem aN.trans {H H1 H2:Hp} (a:aN H H1) (b:aN H1 H2):aN H H2:=fun c o h=>b c o (a c o h)
section
variable {κ:Type} [DecidableEq κ]
theorem Vy {kvs:List (κ×V)}{k:κ}{v:V} (h:cI kvs k=some v):k∈kvs.map (·.1):=by
 have q:(kvs.any fun kv=>decide (kv.1=k))=true:=by
  rw[qY,h]
  all_goals rfl
 obtain⟨p,hp,e⟩:=List.any_eq_true.mp q
 exact List.mem_map.mpr ⟨p,hp,of_decide_eq_true e⟩
end
def ccl (sc:Scope) (env:Env):List (Str×Addr):=(sc.names.filterMap fun p=>if p.2== .free then(env.cells.lookup p.1).map fun c=>(p.1,c) else none).reverse
theorem vm {env:Env}:∀(l:List (Str×NameKind)) (acc:List (Str×Addr)),(∀p∈l,p.2= .free->∃c,env.cells.lookup p.1=some c)->
 (forIn l acc fun(x:Str×NameKind) r=>match x with | (name,kind)=>(if(kind==NameKind.free)=true then do let a <-cellOf env name;pure (ForInStep.yield ((name,a)::r)) else pure (ForInStep.yield r):Sem _))=
   pure ((l.filterMap fun p=>if p.2== .free then(env.cells.lookup p.1).map fun c=>(p.1,c) else none).reverse++acc)
 |[],acc,_=>rfl
 | (n,k)::r,acc,h=>by
   rw[List.forIn_cons]
   have hr:∀p∈r,p.2= .free->∃c,env.cells.lookup p.1=some c:=fun p hp=>h p (List.mem_cons_of_mem _ hp)
   by_cases hk:k= .free
   ·subst hk
    obtain⟨c,hc⟩:=h (n, .free) List.mem_cons_self rfl
    have e1:cellOf env n=pure c:=by unfold cellOf;rw[hc]
    simp only[beq_self_eq_true,if_true,e1,pure_bind]
    rw[vm r _ hr]
    simp[List.filterMap_cons,hc]
   ·have hb:(k==NameKind.free)=false:=by simpa using hk
    simp only[hb,Bool.false_eq_true,if_false,pure_bind]
    rw[vm r _ hr]
    simp[List.filterMap_cons,hk]
theorem JB {sc:Scope}{env:Env} (h:∀p∈sc.names,p.2= .free->∃c,env.cells.lookup p.1=some c):closureFor sc env=pure (ccl sc env):=by
 unfold closureFor
 have q:=vm (env:=env) sc.names [] h
 rw[List.append_nil] at q
 unfold ccl
 rw[<-q,bind_pure]
theorem FN {f:Str->Option Addr}:∀(l:List (Str×NameKind)) (x:Str) (c:Addr),
 (l.filterMap fun p=>if p.2== .free then(f p.1).map fun c=>(p.1,c) else none).reverse.lookup x=some c->f x=some c:=by
 intro l x c h
 have hm:=PySem.mem_of_lookup h
 rw[List.mem_reverse,List.mem_filterMap] at hm
 obtain⟨p,_,e⟩:=hm
 split at e
 ·cases q:f p.1 with
  | none=>rw[q] at e;cases e
  | some d=>
    rw[q] at e
    simp only[Option.map_some,Option.some.injEq,Prod.mk.injEq] at e
    obtain⟨e1,e2⟩:=e
    rw[<-e1,q,e2]
 ·cases e
theorem pH {β:Type}:∀{l:List (Str×β)}{x:Str}{c:β},(x,c)∈l->∃d,l.lookup x=some d
 |[],_,_,h=>nomatch h
 | (n,d)::r,x,c,h=>by
   by_cases e:x=n
   ·subst e;exact⟨d,by simp[List.lookup_cons]⟩
   ·have hb:(x==n)=false:=by simpa using e
    rcases List.mem_cons.mp h with q | q
    ·cases q;exact absurd rfl e
    ·obtain⟨d',hd⟩:=pH q
     exact⟨d',by simp[List.lookup_cons,hb,hd]⟩
theorem tK {sc:Scope}{env:Env}{x:Str}{c:Addr} (h:(ccl sc env).lookup x=some c):env.cells.lookup x=some c:=FN (f:=fun n=>env.cells.lookup n) sc.names x c h
theorem NP {sc:Scope}{env:Env}{x:Str}{c:Addr} (hx:(x,NameKind.free)∈sc.names) (hc:env.cells.lookup x=some c):(ccl sc env).lookup x=some c:=by
 have hm:(x,c)∈ccl sc env:=by
  unfold ccl
  rw[List.mem_reverse,List.mem_filterMap]
  exact⟨(x, .free),hx,by simp[hc]⟩
 obtain⟨d,hd⟩:=pH hm
 have:=tK hd
 rw[hc] at this
 rw[hd,this]
theorem qy {env:Env}:∀{names:List (Str×NameKind)}{x:Str}{k:NameKind},
 (names.map fun(n,k)=>if(k==NameKind.free&&env.scope.kind== .function&&env.kindOf n==some .cell) then(n,NameKind.cell) else(n,k)).lookup x=some k->
 names.lookup x=some k\/(k= .cell/\names.lookup x=some .free)
 |[],_,_,h=>by simp at h
 | (n,q)::r,x,k,h=>by
   have ih:=@qy env r x k
   rw[List.map_cons] at h
   cases hx:x==n with
   | true=>
     by_cases hc:(q==NameKind.free&&env.scope.kind== .function&&env.kindOf n==some .cell)=true
     ·simp only[hc,if_true,List.lookup_cons,hx,Option.some.injEq] at h
      have hq:q= .free:=by
       have:=(Bool.and_eq_true _ _▸(Bool.and_eq_true _ _▸hc).1).1
       simpa using this
      subst hq
      exact .inr ⟨h.symm,by simp[List.lookup_cons,hx]⟩
     ·simp only[hc,if_false,List.lookup_cons,hx,Option.some.injEq,Bool.false_eq_true] at h
      subst h
      exact .inl (by simp[List.lookup_cons,hx])
   | false=>
     have h':(r.map fun(n,k)=>if(k==NameKind.free&&env.scope.kind== .function&&env.kindOf n==some .cell) then(n,NameKind.cell) else(n,k)).lookup x=some k:=by
      by_cases hc:(q==NameKind.free&&env.scope.kind== .function&&env.kindOf n==some .cell)=true
      ·simpa only[hc,if_true,List.lookup_cons,hx] using h
      ·simpa only[hc,if_false,List.lookup_cons,hx,Bool.false_eq_true] using h
     rcases ih h' with z | ⟨z1,z2⟩
     ·exact .inl (by simp[List.lookup_cons,hx,z])
     ·exact .inr ⟨z1,by simp[List.lookup_cons,hx,z2]⟩
theorem tL {env:Env}:∀{names:List (Str×NameKind)}{x:Str},names.lookup x=some .free->
 (names.map fun(n,k)=>if(k==NameKind.free&&env.scope.kind== .function&&env.kindOf n==some .cell) then(n,NameKind.cell) else(n,k)).lookup x=some .cell\/
 (names.map fun(n,k)=>if(k==NameKind.free&&env.scope.kind== .function&&env.kindOf n==some .cell) then(n,NameKind.cell) else(n,k)).lookup x=some .free
 |[],_,h=>by simp at h
 | (n,q)::r,x,h=>by
   have ih:=@tL env r x
   rw[List.map_cons]
   cases hx:x==n with
   | true=>
     simp only[List.lookup_cons,hx,Option.some.injEq] at h
     subst h
     by_cases hc:(NameKind.free==NameKind.free&&env.scope.kind== .function&&env.kindOf n==some .cell)=true
     ·exact .inl (by simp only[hc,if_true,List.lookup_cons,hx])
     ·exact .inr (by simp only[hc,if_false,List.lookup_cons,hx,Bool.false_eq_true])
   | false=>
     simp only[List.lookup_cons,hx] at h
     by_cases hc:(q==NameKind.free&&env.scope.kind== .function&&env.kindOf n==some .cell)=true
     ·simpa only[hc,if_true,List.lookup_cons,hx] using ih h
     ·simpa only[hc,if_false,List.lookup_cons,hx,Bool.false_eq_true] using ih h
def gD (X:Cx) (N:List Str) (sc:Scope) (pins:List (Addr×Obj)) (C:Addr) (s₀:Shared) (H₀:Hp) (fp:List Addr):Cx:=
 {X with N:=N,s₀:=s₀,H₀:=H₀,env:=compEnvC sc (ccl sc X.env) C X.env,outer:=X.stack,ex:=fp,fn:=fun _=>false,pn:=X.pn++pins,xe:=fun _ _=>False}
structure vo (X:Cx) (n:Nat) (fr:List Nat) (N:List Str) (sc:Scope):Prop where
 kind:sc.kind= .function
 nocell:∀p∈sc.names,p.2≠ .cell
 own:∀p∈sc.names,p.2= .local->sc.names.lookup p.1=some .local
 out:∀p∈sc.names,p.2= .free->X.env.kindOf p.1=some .cell\/X.env.kindOf p.1=some .free
 len:N.length=n+fr.length
 free:∀i x,N[n+i]? =some x->(x,NameKind.free)∈sc.names/\sc.names.lookup x=some .free/\∃j,fr[i]? =some j/\X.N[j]? =some x
def CS0 (scX:Scope) (NX:List Str) (n:Nat) (fr:List Nat) (N:List Str) (sc:Scope):Prop:=
 sc.kind= .function/\(∀p∈sc.names,p.2≠ .cell)/\(∀p∈sc.names,p.2= .local->sc.names.lookup p.1=some .local)/\
 (∀p∈sc.names,p.2= .free->scX.names.lookup p.1=some .cell\/scX.names.lookup p.1=some .free)/\N.length=n+fr.length/\
 (∀x∈N.drop n,(x,NameKind.free)∈sc.names/\sc.names.lookup x=some .free)/\(N.drop n).map some=fr.map fun j=>NX[j]?
instance {scX:Scope}{NX:List Str}{n:Nat}{fr:List Nat}{N:List Str}{sc:Scope}:Decidable (CS0 scX NX n fr N sc):=by unfold CS0;exact inferInstance
theorem JC {X:Cx}{scX:Scope}{NX:List Str}{n:Nat}{fr:List Nat}{N:List Str}{sc:Scope} (h1:X.env.scope=scX) (h2:X.N=NX) (h:CS0 scX NX n fr N sc):vo X n fr N sc:=by
 obtain⟨a,b,c,d,e,f,g⟩:=h
 refine⟨a,b,c,fun p hp z=> ?_,e,fun i x hx=> ?_⟩
 ·have q:=d p hp z
  rw[<-h1] at q
  exact q
 ·have hd:(N.drop n)[i]? =some x:=by rw[List.getElem?_drop];exact hx
  obtain⟨f1,f2⟩:=f x (List.mem_of_getElem? hd)
  refine⟨f1,f2, ?_⟩
  have q:((N.drop n).map some)[i]? =some (some x):=by rw[List.getElem?_map,hd];rfl
  rw[g,List.getElem?_map] at q
  cases z:fr[i]? with
  | none=>rw[z] at q;cases q
  | some j=>
    rw[z] at q
    refine⟨j,rfl, ?_⟩
    rw[h2]
    exact Option.some.inj q
def cst (n:Nat) (fr:List Nat) (σ:St):St:=List.replicate n none++fr.map fun j=>(σ[j]?).getD none
theorem Dq {X:Cx}{n:Nat}{fr:List Nat}{N:List Str}{sc:Scope} (S:vo X n fr N sc) (ok:X.Ok):closureFor sc X.env=pure (ccl sc X.env):=
 JB fun p hp e=>ok.has p.1 (S.out p hp e)
section
variable {X:Cx}{n:Nat}{fr:List Nat}{N:List Str}{sc:Scope}{pins:List (Addr×Obj)}{σ:St}{H:Hp}{s:Shared}{fp:List Addr}{h₁:Heap}{tk:Nat}
theorem Lx (S:vo X n fr N sc) (I:Inv X pins σ H s) (hf:∀b∈fp,Aw X pins H b) (hlt:∀b∈fp,b<s.heap.objs.size)
 (hn:h₁.Ns s.heap.objs.size (fun _=>none)) (hk:∀b o,s.heap.get? b=some o->h₁.get? b=some o):
 Inv (gD X N sc pins s.heap.objs.size s H fp) [] (cst n fr σ) H {s with heap:=h₁,toks:=tk}:=by
 have hsub:∀b∈frs X.stack,b∈X.env.locals::X.fs:=I.Hi
 refine⟨⟨I.ok.mod, ?_,I.ok.glob,I.ok.blt,Nat.le_refl _,fun x y c h1 h2=> ?_,fun x hx=> ?_,fun x c z=>(by cases z),I.ok.hd,I.ok.frames, .inl rfl,fun b hb=>⟨?_,fun x c e=> ?_⟩,fun b o e=>I.bs b o e,Nat.le_trans I.ok.bsz I.sz,fun b o e hb=> ?_,fun b hb hz=> ?_,I.stack,I.Hj⟩,
  rfl,I.bare,Un.kept hk,⟨_,hn,fun i x v e1 e2 e3=> ?_⟩,fun x c e=> ?_,I.hok.fresh (Nat.le_refl _),fun x c e=> ?_,fun p hp=> ?_,I.hok.kept hk, ?_⟩
 ·exact S.kind
 ·exact I.ok.inj x y c (tK h1) (tK h2)
 ·have hx':(relabel sc X.env).names.lookup x=some .cell\/(relabel sc X.env).names.lookup x=some .free:=hx
  have fr':sc.names.lookup x=some .free:=by
   rcases hx' with z | z
   ·rcases qy z with q | ⟨_,q⟩
    ·exact absurd rfl (S.nocell _ (PySem.mem_of_lookup q))
    ·exact q
   ·rcases qy z with q | ⟨q,_⟩
    ·exact q
    ·cases q
  obtain⟨c,hc⟩:=I.ok.has x (S.out _ (PySem.mem_of_lookup fr') rfl)
  exact⟨c,NP (PySem.mem_of_lookup fr') hc⟩
 ·exact Nat.ne_of_lt (hlt b hb)
 ·exact(hf b hb).2.2.2.2.1 x c (tK e)
 ·rcases(hf b hb).2.2.2.1 with z | z
  ·exact I.ok.noex b o e z
  ·exact absurd (Nat.lt_of_lt_of_le (Heap.lt_size e) (Nat.le_trans I.ok.bsz z)) (Nat.lt_irrefl _)
 ·rcases List.mem_cons.mp (hsub b hz) with z | z
  ·exact(hf b hb).2.1 z
  ·exact(hf b hb).2.2.1 z
 ·have e1':N[i]? =some x:=e1
  have hi:n<=i:=by
   apply Nat.le_of_not_lt
   intro hlt
   unfold cst at e2
   rw[List.getElem?_append_left (by simpa using hlt),List.getElem?_replicate] at e2
   split at e2<;>cases e2
  obtain⟨j,rfl⟩:∃j,i=n+j:=⟨i - n,by omega⟩
  obtain⟨hm,hl,q,hq,hX⟩:=S.free j x e1'
  have e2':(σ[q]?).getD none=some v:=by
   unfold cst at e2
   rw[List.getElem?_append_right (by simp)] at e2
   simp only[List.length_replicate,Nat.add_sub_cancel_left,List.getElem?_map,hq,Option.map_some,Option.some.injEq] at e2
   exact e2
  have hσ:σ[q]? =some (some v):=by
   cases z:σ[q]? with
   | none=>rw[z] at e2';cases e2'
   | some w=>rw[z] at e2';simp only[Option.getD_some] at e2';rw[e2']
  have ko:=S.out _ hm rfl
  have hv:Vis X.env.scope x:=by
   rcases ko with z | z
   ·exact .inr (.inl z)
   ·exact .inr (.inr z)
  obtain⟨m,_,hloc⟩:=I.loc
  obtain⟨u,r,l⟩:=hloc q x v hX hσ hv
  refine⟨u,r, .inr ⟨?_, ?_⟩⟩
  ·exact tL hl
  ·rcases l with⟨k,_⟩ | ⟨_,c,hc,hcell⟩
   ·rcases ko with z | z<;>(rw[k] at z;cases z)
   ·refine⟨c,NP hm hc, ?_⟩
    obtain⟨o,ho,hd⟩:=hcell
    exact⟨o,hk c o ho,hd⟩
 ·obtain⟨v,o,ho,hd⟩:=I.cell x c (tK e)
  exact⟨v,o,hk c o ho,hd⟩
 ·exact I.pF x c (tK e)
 ·have hp':p∈X.pn++pins:=by
   have z:p∈(X.pn++pins)++[]:=hp
   rwa [List.append_nil] at z
  obtain⟨e,hn',ne,nf,d⟩:=I.pin p hp'
  refine⟨hk p.1 p.2 e,hn',Nat.ne_of_lt (Heap.lt_size e),fun hz=> ?_,d⟩
  rcases List.mem_cons.mp (hsub p.1 hz) with z | z
  ·exact ne z
  ·exact nf z
 ·show(cst n fr σ).length=N.length
  unfold cst
  rw[List.length_append,List.length_replicate,List.length_map,S.len]
theorem comp_back {C:Addr}{σ':St}{H':Hp}{s':Shared}{pins':List (Addr×Obj)} (I:Inv X pins σ H s) (hf:∀b∈fp,Aw X pins H b) (J:Inv (gD X N sc pins C s H fp) pins' σ' H' s'):Inv X pins σ H' s':=
 I.call' (ch:=fp) J.os J.base J.hok J.bare fun b hb=>⟨(hf b hb).2.2.2.1,(hf b hb).2.1,(hf b hb).2.2.2.2.1,(hf b hb).2.2.2.2.2⟩
end
def PN (X:Cx) (ifs:List Expr) (t:TT):Prop:=
 ∀(pins:List (Addr×Obj)) (s:Shared) (σ:St) (H:Hp) (Q:Bool->Hp->Prop),Inv X pins σ H s->t σ H Q->
  wpAny (model X.prog X.w) X.A (forIn ifs true fun c r=>if r=true then do let ok <-isTrue c X.env (eval c X.env);pure (ForInStep.yield ok) else pure (ForInStep.yield r)) (TP X pins σ Q) X.xe s
def Yg:TT:=fun _ H Q=>Q true H
theorem Rv {X:Cx}:PN X [] Yg:=fun _ _ _ H _ I h=>wpAny_pure ⟨H,I,h⟩
theorem Rw {X:Cx}{c:Expr}{t:TT} (hc:PT X c t):PN X [c] t:=by
 intro pins s σ H Q I h
 rw[List.forIn_cons]
 refine wpAny_bind ?_
 rw[if_pos rfl]
 refine wpAny_bind (thn (hc pins s σ H Q I h) fun b s1 q=>wpAny_pure ?_)
 exact wpAny_pure q
def JD (J:It) (g:TG) (tc:TT) (te:TE) (D:Addr) (σ:St) (H:Hp) (Q:VK):Prop:=
 ∃W:Nat->Nat->St->Hp->Prop,(∃m,W 0 m σ H)/\∀i m σ' H',W i m σ' H'->
  (J.stop i H'/\Q (.ref D) H')\/(J.go i H'/\∃N:St->Hp->Prop,(∀σ3 H3,N σ3 H3->∃m',m'<m/\W (i+1) m' σ3 H3)/\∀x H2,J.yld i H' x H2->g x σ' H2 fun σ3 H3=>tc σ3 H3 fun b H4=>
    if b=true then te σ3 H4 fun y H5=>∃ys,H5 D=some (.lst ys)/\ys.length<sizeLine/\N σ3 (upd H5 D (.lst (ys++[y])))
    else N σ3 H4)
def NQ (wi:TI) (n:Nat) (fr:List Nat) (g:TG) (tc:TT) (te:TE):TE:=fun σ H Q=>wi σ H fun J H1=>∀D,H1 D=none->JD J g tc te D (cst n fr σ) (upd H1 D (.lst [])) Q
section
variable {X:Cx}{n:Nat}{fr:List Nat}{N:List Str}{sc:Scope}{elt tg iter:Expr}{ifs:List Expr}{pos:Pos}{wi:TI}{g:TG}{tc:TT}{te:TE}
theorem JF {pins:List (Addr×Obj)}{σ:St}{H:Hp}{s:Shared}{fp:List Addr}{it:Addr}{tn:Nat->Heap->Prop}{J:It}{Q:VK}{E:Value->Shared->Prop}{RR:Value->Addr->Result->Shared->Prop}
 (hc:X.calm=true) (S:vo X n fr N sc)
 (hg:∀C s₀ H₀ fp,PG (gD X N sc pins C s₀ H₀ fp) tg g) (hi:∀C s₀ H₀ fp,PN (gD X N sc pins C s₀ H₀ fp) ifs tc) (he:∀C s₀ H₀ fp,PE (gD X N sc pins C s₀ H₀ fp) elt te)
 (I:Inv X pins σ H s) (T:Turn X.prog X.w X.K tg J fp it tn) (st:tn 0 s.heap) (hf:∀b∈fp,Aw X pins H b)
 (h:∀D,H D=none->JD J g tc te D (cst n fr σ) (upd H D (.lst [])) Q)
 (hR:∀D C H' s',Inv X pins σ H' s'->Aw X pins H' C->(∃m,s'.heap.Ns C m)->Q (.ref D) H'->RR (.ref D) C (.ok .next) s'):
 wpAny (model X.prog X.w) X.A (newList []) (fun acc s₃=>wpAny (model X.prog X.w) X.A (newFunctionEnv sc X.env.globals (ccl sc X.env) [] X.env.qual none .none (some X.env)) (fun cenv s₄=>
  codeAny (model X.prog X.w) X.A (.compStart (.ListComp elt [⟨tg,iter,ifs,0⟩] sc pos) 0 (.ref it) acc {cenv with scope:=relabel sc X.env}) (RR acc cenv.locals) s₄) E s₃) E s:=by
 have hfree:H s.heap.objs.size=none:=I.hok.fresh (Nat.le_refl _)
 have hltf:∀b∈fp,b<s.heap.objs.size:=fun b hb=>by
  obtain⟨o,e,_⟩:=T.obj 0 s.heap st b hb
  exact Heap.lt_size e
 obtain⟨W,⟨m0,w0⟩,turn⟩:=h s.heap.objs.size hfree
 refine wpAny_newObj_type (wpAny_newFunctionEnv S.nocell (by intro y hy;simp at hy) (fun h₁ hns₁ hsb₁=> ?_) S.kind)
 dsimp only at hns₁ hsb₁ ⊢
 have I3:Inv X pins σ (upd H s.heap.objs.size (.lst [])) {s with heap:=s.heap.push {cls:= .type "list",dict:=none,data:= .seq ([]:List Value).toArray}}:=
  I.laid (t':=s.toks) (fun b u e=>Heap.get?_push_of_some _ e) (Nat.le_refl _) ⟨Nat.zero_le _,[],0, .nil,Heap.get?_push_size _ rfl⟩
 have hf3:∀b∈fp,Aw X pins (upd H s.heap.objs.size (.lst [])) b:=fun b hb=>⟨by rw[ao (Nat.ne_of_lt (hltf b hb))];exact(hf b hb).1,(hf b hb).2⟩
 generalize hs3:({s with heap:=s.heap.push {cls:= .type "list",dict:=none,data:= .seq ([]:List Value).toArray}}:Shared)=s3 at *
 have e3:s3.heap=s.heap.push {cls:= .type "list",dict:=none,data:= .seq ([]:List Value).toArray}:=by rw[<-hs3]
 have et:s3.toks=s.toks:=by rw[<-hs3]
 have adA:∀b∈fp,b<s3.heap.objs.size:=fun b hb=>by rw[e3,Heap.size_push];exact Nat.lt_succ_of_lt (hltf b hb)
 have hk3:∀b o,s3.heap.get? b=some o->h₁.get? b=some o:=fun b o e=>hsb₁.extBut b o (by rw[<-e3];exact Nat.ne_of_lt (Heap.lt_size e)) (by rw[<-e3];exact Heap.get?_push_of_some _ e)
 have agZ:h₁.Ns s3.heap.objs.size (fun _=>none):=by rw[e3];exact hns₁
 have I4:=Lx (tk:=s.toks+([]:List (Str×Value)).length) S I3 hf3 adA agZ hk3
 have hDk:∀b o,s.heap.get? b=some o->h₁.get? b=some o:=fun b o e=>hk3 b o (by rw[e3];exact Heap.get?_push_of_some _ e)
 have st4:tn 0 h₁:=T.keep 0 s.heap h₁ st fun b hb o e=>hDk b o e
 have hfX:∀{H':Hp},(∀b∈fp,H' b=none)->∀b∈fp,Aw (gD X N sc pins s3.heap.objs.size s3 (upd H s.heap.objs.size (.lst [])) fp) [] H' b:=fun{H'} hn b hb=>by
  refine⟨hn b hb,Nat.ne_of_lt (adA b hb),fun z=> ?_, .inl hb,fun x c e=>(hf3 b hb).2.2.2.2.1 x c (tK e),fun p hp=> ?_⟩
  ·rcases List.mem_cons.mp (I3.Hi b z) with q | q
   ·exact(hf3 b hb).2.1 q
   ·exact(hf3 b hb).2.2.1 q
  ·have hp':p∈(X.pn++pins)++[]:=hp
   rw[List.append_nil] at hp'
   exact(hf3 b hb).2.2.2.2.2 p hp'
 have loop:∀s₄:Shared,s₄={s3 with heap:=h₁,toks:=s.toks+([]:List (Str×Value)).length}->
  codeAny (model X.prog X.w) X.A (.compLoop (.ListComp elt [⟨tg,iter,ifs,0⟩] sc pos) 0 (.ref it) (.ref s.heap.objs.size) (compEnvC sc (ccl sc X.env) s3.heap.objs.size X.env)) (RR (.ref s.heap.objs.size) s3.heap.objs.size) s₄:=by
  rintro s₄ rfl
  refine codeAny_loop rfl (fun k s'=>∃i σ' H',Inv (gD X N sc pins s3.heap.objs.size s3 (upd H s.heap.objs.size (.lst [])) fp) [] σ' H' s'/\tn i s'.heap/\(∀b∈fp,H' b=none)/\W i k σ' H') ?_ m0
   ⟨0,_,_,I4,st4,fun b hb=>(hf3 b hb).1,w0⟩
  rintro k s5 ⟨i,σ5,H5,I5,st5,fr5,w5⟩
  show wpAny _ X.A ((compTurn (.ListComp elt [⟨tg,iter,ifs,0⟩] sc pos) 0 (.ref it) (.ref s.heap.objs.size) (compEnvC sc (ccl sc X.env) s3.heap.objs.size X.env)).onRaise (fun x=>do noteFrame x (compEnvC sc (ccl sc X.env) s3.heap.objs.size X.env);theTreesLotGoes x)) _ _ s5
  refine wpAny_noted ?_
  rw[compTurn_list]
  refine wpAny_bind (wpAny_standAt (wpAny_bind ?_))
  have nev:∀{α:Type}{t:Sem α}{Q₁:α->Shared->Prop}{E₁:Value->Shared->Prop}{s₁:Shared},wpAny (model X.prog X.w) X.A t Q₁ (fun _ _=>False) s₁->wpAny (model X.prog X.w) X.A t Q₁ E₁ s₁:=fun h=>wpAny_noRaise h
  rcases turn i k σ5 H5 w5 with⟨stop,qn⟩ | ⟨go,Nn,hN,step⟩
  ·refine nev (thn (T.done (gD X N sc pins s3.heap.objs.size s3 (upd H s.heap.objs.size (.lst [])) fp) rfl rfl rfl hc i [] s5 σ5 H5 (fun _ _=>False) I5 (hfX fr5) st5 stop) fun r s6 ⟨hr,I6⟩=> ?_)
   subst hr
   have B:Inv X pins σ H5 s6:=comp_back I3 hf3 I6
   refine wpAny_pure (hR _ _ H5 s6 B (I3.Js (Nat.le_refl _) I6.free) ?_ qn)
   obtain⟨m,hm,_⟩:=I6.loc
   exact⟨m,hm⟩
  ·refine nev (thn (T.item (gD X N sc pins s3.heap.objs.size s3 (upd H s.heap.objs.size (.lst [])) fp) rfl rfl rfl hc i [] s5 σ5 H5 (fun _ _=>False) I5 (hfX fr5) st5 go) fun r s6 ⟨u,hr,h6⟩=> ?_)
   subst hr
   refine wpAny_bind (nev (thn h6 fun _ s7 ⟨x,H7,I7,r7,y7,st7,fr7⟩=> ?_))
   have I7':=I7.pinned (hfX fr7) (T.obj _ _ st7)
   refine wpAny_bind (nev (thn (hg _ _ _ _ _ s7 σ5 H7 x u _ I7' r7 (step x H7 y7)) fun _ s8 ⟨σ8,H8,I8,q8⟩=> ?_))
   refine wpAny_bind (nev (thn (hi _ _ _ _ _ s8 σ8 H8 _ I8 q8) fun b s9 ⟨H9,I9,q9⟩=> ?_))
   have fin:∀{s10:Shared}{H10:Hp}{m':Nat},m'<k->Inv (gD X N sc pins s3.heap.objs.size s3 (upd H s.heap.objs.size (.lst [])) fp) ([]++Dh fp s7.heap) σ8 H10 s10->W (i+1) m' σ8 H10->
    ∃m,m<k/\∃i σ' H',Inv (gD X N sc pins s3.heap.objs.size s3 (upd H s.heap.objs.size (.lst [])) fp) [] σ' H' s10/\tn i s10.heap/\(∀b∈fp,H' b=none)/\W i m σ' H':=fun{s10 H10 m'} hm I10 w10=>by
    refine⟨m',hm,i+1,σ8,H10,I10.unpinned,T.keep _ _ _ st7 fun b hb o e=>(I10.pin (b,o) (List.mem_append_right _ (List.mem_append_right _ (tG hb e)))).1,fun b hb=> ?_,w10⟩
    obtain⟨o,e,d⟩:=T.obj _ _ st7 b hb
    exact(I10.pin (b,o) (List.mem_append_right _ (List.mem_append_right _ (tG hb e)))).2.1
   cases b with
   | false=>
     rw[if_neg Bool.false_ne_true] at q9
     obtain⟨m',hm,w9⟩:=hN _ _ q9
     exact wpAny_pure ⟨rfl,fin hm I9 w9⟩
   | true=>
     rw[if_pos rfl] at q9
     refine wpAny_bind (wpAny_bind (nev (thn (he _ _ _ _ _ s9 σ8 H9 _ I9 q9) fun v s10 ⟨y,H10,I10,r10,q10⟩=> ?_)))
     obtain⟨ys,hy,hz,n10⟩:=q10
     obtain⟨m',hm,w10⟩:=hN _ _ n10
     refine wpAny_bind (nev (thn (Gq _ s10 σ8 H10 (.ref s.heap.objs.size) [y] (.ref s.heap.objs.size) [v] (fun z H'=>H'=upd H10 s.heap.objs.size (.lst (ys++[y]))) I10 rfl (.cons r10 .nil) ⟨_,ys,y,rfl,rfl,hy,hz,rfl⟩) fun z s11 ⟨_,H11,I11,_,e11⟩=> ?_))
     subst e11
     exact wpAny_pure (wpAny_pure ⟨rfl,fin hm I11 w10⟩)
 subst hs3
 exact codeAny_compStart_list (loop _ rfl) (T.self _ 0 _ _ _ st4 (loop _ rfl))
theorem Vz (hc:X.calm=true) (S:vo X n fr N sc) (hit:PI X tg iter wi)
 (hg:∀pins C s₀ H₀ fp,PG (gD X N sc pins C s₀ H₀ fp) tg g) (hi:∀pins C s₀ H₀ fp,PN (gD X N sc pins C s₀ H₀ fp) ifs tc) (he:∀pins C s₀ H₀ fp,PE (gD X N sc pins C s₀ H₀ fp) elt te)
 (hs:∀x,foldedSetIterable iter X.env x=pure x:=by intro _;rfl):PE X (.ListComp elt [⟨tg,iter,ifs,0⟩] sc pos) (NQ wi n fr g tc te):=by
 intro pins s σ H Q I h
 rw[eval_ListComp]
 refine wpAny_comprehension_free (use:=none) rfl hs (Dq S I.ok) S.kind S.own ?_
 refine thn (hit pins s σ H _ I h) fun v s1 h1=>thn h1 fun itv s2 h2=> ?_
 obtain⟨it,fp,tn,J,H2,e,I2,T,st2,f2,q2⟩:=h2
 subst e
 refine JF (RR:=fun acc C=>compPost (model X.prog X.w) X.A X.xe none (EP X pins σ Q) acc C) hc S (hg pins) (hi pins) (he pins) I2 T st2 f2 q2 fun D C H' s' I' fC hm q=> ?_
 obtain⟨m,hm⟩:=hm
 refine⟨m,hm,fun h' hs'=>⟨.ref D,H',I'.turned (t':=s'.toks) (fun b o hb e=>(hs'.2 b hb).trans e) fC.1 fC.2.1 fC.2.2.2.1 fC.2.2.2.2.1 fC.2.2.2.2.2,rfl,q⟩⟩
theorem Ly {i:Nat}{x:Str}{pos' spos:Pos} (hc:X.calm=true) (hN:X.N.Nodup) (hi':X.N[i]? =some x) (hx:Loc X.env.scope x) (S:vo X n fr N sc) (hit:PI X tg iter wi)
 (hg:∀pins C s₀ H₀ fp,PG (gD X N sc pins C s₀ H₀ fp) tg g) (hi:∀pins C s₀ H₀ fp,PN (gD X N sc pins C s₀ H₀ fp) ifs tc) (he:∀pins C s₀ H₀ fp,PE (gD X N sc pins C s₀ H₀ fp) elt te)
 (hsw:swapsWith (.ListComp elt [⟨tg,iter,ifs,0⟩] sc pos) (some (.Name x pos')) spos.line X.env=pure true)
 (hs:∀x,foldedSetIterable iter X.env x=pure x:=by intro _;rfl) (hf:X.fn x=true\/X.env.scope.names.lookup x=some .local:=by first | exact .inl rfl | exact .inr rfl | assumption):
 PS X (.Assign [.Name x pos'] (.ListComp elt [⟨tg,iter,ifs,0⟩] sc pos) spos) (O6 (NQ wi n fr g tc te) (zm i)):=by
 intro pins s σ H D I h
 rw[exec_Assign_Name_used _ _ _ _ hsw]
 refine wpAny_bind (wpAny_standAt (wpAny_bind ?_))
 show wpAny _ X.A (do let _ <-comprehension (.ListComp elt [⟨tg,iter,ifs,0⟩] sc pos) sc X.env _ (newList []) false (eval iter X.env) (some (assign (.Name x pos') X.env))) _ _ s
 refine wpAny_bind (wpAny_mono (wpAny_comprehension_free (use:=some (assign (.Name x pos') X.env)) (Q:=fun _ s'=>SP X pins D .next s') rfl hs (Dq S I.ok) S.kind S.own ?_) (fun _ s' hq=>wpAny_pure (wpAny_pure hq)) fun _ _ e=>e)
 refine thn (hit pins s σ H _ I h) fun v s1 h1=>thn h1 fun itv s2 h2=> ?_
 obtain⟨it,fp,tn,J,H2,e,I2,T,st2,f2,q2⟩:=h2
 subst e
 refine JF (Q:=fun x H1=>zm i x σ H1 D.nx) (RR:=fun acc C=>compPost (model X.prog X.w) X.A X.xe (some (assign (.Name x pos') X.env)) (fun _ s'=>SP X pins D .next s') acc C) hc S (hg pins) (hi pins) (he pins) I2 T st2 f2 q2 fun D' C H' s' I' fC hm q=> ?_
 obtain⟨m,hm⟩:=hm
 show wpAny _ X.A (assign (.Name x pos') X.env (.ref D')) _ _ _
 refine wpAny_assign_Name (Gi I' hN hi' hx (v:= .ref D') rfl (fun s'' I'' ch=> ?_) hf)
 obtain⟨a,hsb,ha⟩:=ch
 have hne:C≠a:=by
  rcases ha with z | z
  ·rw[z];exact fC.2.1
  ·exact fun z'=>fC.2.2.2.2.1 x a z z'.symm
 exact⟨m,hm.sameBut hsb hne,fun h' hs'=>⟨_,H',I''.turned (t':=s''.toks) (fun b o hb e=>(hs'.2 b hb).trans e) fC.1 fC.2.1 fC.2.2.2.1 fC.2.2.2.2.1 fC.2.2.2.2.2,q⟩⟩
end
theorem Dr {lo:Int}{n:Nat}{g:TG}{tc:TT}{te:TE}{σ:St}{H:Hp}{D:Addr}{Q:VK} (Pv:Nat->St->Hp->Prop) (h0:Pv 0 σ (upd H D (.lst [])))
 (hs:∀i σ' H',i<n->Pv i σ' H'->g (.int (lo+i)) σ' H' fun σ3 H3=>tc σ3 H3 fun b H4=>
   if b=true then te σ3 H4 fun y H5=>∃ys,H5 D=some (.lst ys)/\ys.length<sizeLine/\Pv (i+1) σ3 (upd H5 D (.lst (ys++[y]))) else Pv (i+1) σ3 H4) (hd:∀σ' H',Pv n σ' H'->Q (.ref D) H'):
 JD (Itr lo n) g tc te D σ (upd H D (.lst [])) Q:=by
 refine⟨fun i m σ H=>m=n - i/\i<=n/\Pv i σ H,⟨n,by simp,Nat.zero_le _,h0⟩, ?_⟩
 rintro i m σ H ⟨rfl,hi,p⟩
 by_cases hlt:i<n
 ·refine .inr ⟨hlt,Pv (i+1),fun σ' H' p'=>⟨n - (i+1),by omega,rfl,hlt,p'⟩,fun x H' y=> ?_⟩
  obtain⟨e,y⟩:=y
  subst e y
  exact hs i σ _ hlt p
 ·have e:i=n:=by omega
  subst e
  exact .inl ⟨Nat.le_refl _,hd σ H p⟩
theorem Gx {K:PySem.W.Frag}{a:Addr}{xs:List V}{g:TG}{tc:TT}{te:TE}{σ:St}{H:Hp}{D:Addr}{Q:VK} (Pv:Nat->St->Hp->Prop) (h0:Pv 0 σ (upd H D (.lst []))) (hl:∀i σ H,i<=xs.length->Pv i σ H->SqL K H a xs)
 (hs:∀i x σ' H',xs[i]? =some x->Pv i σ' H'->g x σ' H' fun σ3 H3=>tc σ3 H3 fun b H4=>
   if b=true then te σ3 H4 fun y H5=>∃ys,H5 D=some (.lst ys)/\ys.length<sizeLine/\Pv (i+1) σ3 (upd H5 D (.lst (ys++[y]))) else Pv (i+1) σ3 H4) (hd:∀σ' H',Pv xs.length σ' H'->Q (.ref D) H'):
 JD (Itl K a) g tc te D σ (upd H D (.lst [])) Q:=by
 refine⟨fun i m σ H=>m=xs.length - i/\i<=xs.length/\Pv i σ H,⟨xs.length,by simp,Nat.zero_le _,h0⟩, ?_⟩
 rintro i m σ H ⟨rfl,hi,p⟩
 have q:=hl i σ H hi p
 by_cases hlt:i<xs.length
 ·refine .inr ⟨⟨xs,xs[i],q,by simp[hlt]⟩,Pv (i+1),fun σ' H' p'=>⟨xs.length - (i+1),by omega,rfl,hlt,p'⟩,fun x H' y=> ?_⟩
  obtain⟨e,y⟩:=y
  subst e
  exact hs i x σ _ (y xs q) p
 ·have e:i=xs.length:=by omega
  subst e
  exact .inl ⟨⟨xs,q,Nat.le_refl _⟩,hd σ H p⟩
def aG (sc:Scope) (x:Str):Prop:=Vis sc x/\(x==("__debug__":Str))=false/\(x==("__classdict__":Str))=false
instance {sc:Scope}{x:Str}:Decidable (aG sc x):=by unfold aG Vis;exact inferInstance
instance {sc:Scope}{x:Str}:Decidable (Loc sc x):=by unfold Loc;exact inferInstance
theorem pvx {X:Cx} (i:Nat) {x:Str}{pos:Pos} (v:aG X.env.scope x) (hN:X.N[i]? =some x:=by rfl):PE X (.Name x pos) (Zi i):=Zj hN v.1 v.2.1 v.2.2
def tM (sc:Scope) (x:Str):Prop:=(sc.names.lookup x=some .local\/sc.names.lookup x=some .free)/\(x==("__debug__":Str))=false/\(x==("__classdict__":Str))=false
instance {sc:Scope}{x:Str}:Decidable (tM sc x):=by unfold tM;exact inferInstance
theorem tM.ok {sc:Scope}{env:Env}{x:Str} (h:tM sc x):aG (relabel sc env) x:=by
 obtain⟨h1,h2⟩:=h
 refine⟨?_,h2⟩
 rcases h1 with h1 | h1
 ·exact .inl (lookup_relabel_local h1)
 ·rcases tL (env:=env) h1 with z | z
  ·exact .inr (.inl z)
  ·exact .inr (.inr z)
theorem zp {env:Env}:∀{names:List (Str×NameKind)}{x:Str},names.lookup x=some .globalImplicit->
 (names.map fun(n,k)=>if(k==NameKind.free&&env.scope.kind== .function&&env.kindOf n==some .cell) then(n,NameKind.cell) else(n,k)).lookup x=some .globalImplicit
 |[],_,h=>by simp at h
 | (n,q)::r,x,h=>by
   have ih:=@zp env r x
   rw[List.map_cons]
   cases hx:x==n with
   | true=>
     simp only[List.lookup_cons,hx,Option.some.injEq] at h
     subst h
     simp[List.lookup_cons,hx]
   | false=>
     simp only[List.lookup_cons,hx] at h
     by_cases hc:(q==NameKind.free&&env.scope.kind== .function&&env.kindOf n==some .cell)=true
     ·simpa only[hc,if_true,List.lookup_cons,hx] using ih h
     ·simpa only[hc,if_false,List.lookup_cons,hx,Bool.false_eq_true] using ih h
theorem glC {X:Cx}{N:List Str}{sc:Scope}{pins:List (Addr×Obj)}{C:Addr}{s₀:Shared}{H₀:Hp}{fp:List Addr}{x:Str} (h:sc.names.lookup x=some .globalImplicit):Gl (gD X N sc pins C s₀ H₀ fp) x:=zp h
theorem pgx {X:Cx}{i:Nat}{x:Str}{pos:Pos} (hN:X.N.Nodup) (hx:X.env.scope.names.lookup x=some .local) (hi:X.N[i]? =some x:=by rfl):PG X (.Name x pos) (zm i):=Ni hN hi (.inl hx) (.inr hx)
theorem PX {sc:Scope}{env:Env}{x:Str} (h:sc.names.lookup x=some .local):(relabel sc env).names.lookup x=some .local:=lookup_relabel_local h
def Yh (_ j:Int):Prop:=0<j/\j.natAbs.log2<9000
theorem Rx {X:Cx}:OpR X (binaryOp .FloorDiv) (rI Yh fun i j=> .int (i / j)):=opI fun i j _ _ _ _ _ hc q=>by
 have h1:(0:Int)<j:=hc.1
 exact floordiv_int (by omega) (by rw[Int.fdiv_eq_ediv_of_nonneg i (by omega)];exact q) (.inl (PyProof.noPylong_of_log2 hc.2))
mutual
inductive oU (K:PySem.W.Frag) (H:Hp):V->PyData->Prop where
 | non:oU K H .non .none
 | bl (b:Bool):oU K H (.bl b) (.bool b)
 | int (i:Int):oU K H (.int i) (.int i)
 | str (x:Str):oU K H (.str x) (.str x)
 | lst {a:Addr}{xs:List V}{ds:List PyData} (h:SqL K H a xs) (r:uJ K H xs ds):oU K H (.ref a) (.list ds)
 | tup {a:Addr}{xs:List V}{ds:List PyData} (h:SqT K H a xs) (r:uJ K H xs ds):oU K H (.ref a) (.tuple ds)
inductive uJ (K:PySem.W.Frag) (H:Hp):List V->List PyData->Prop where
 | nil:uJ K H [] []
 | cons {x:V}{d:PyData}{xs:List V}{ds:List PyData} (h:oU K H x d) (r:uJ K H xs ds):uJ K H (x::xs) (d::ds)
end
theorem mG {K:PySem.W.Frag}{H:Hp}:∀ns:List Str,uJ K H (ns.map V.str) (ns.map PyData.str)
 |[]=> .nil
 | n::r=> .cons (.str n) (mG r)
section
variable {X:Cx}{pins:List (Addr×Obj)}{σ:St}{H:Hp}{s:Shared}
mutual
theorem oU.reads (I:Inv X pins σ H s):∀{x:V}{d:PyData}{u:Value},oU X.K H x d->RelV x u->∃as,Reads s.heap u d as
 | _,_,_, .non,r=>by cases(show _=Value.none from r);exact⟨_, .none⟩
 | _,_,_, .bl b,r=>by cases(show _=Value.bool b from r);exact⟨_, .bool b⟩
 | _,_,_, .int i,r=>by obtain⟨t,rfl⟩:=r;exact⟨_, .int i t⟩
 | _,_,_, .str x,r=>by obtain⟨t,rfl⟩:=r;exact⟨_, .str x t⟩
 | _,_,_, .lst h q,r=>by
   cases(show _=Value.ref _ from r)
   obtain⟨its,rv,⟨o,n,e,c,_,d⟩,_⟩:=I.list h
   obtain⟨as,hr⟩:=uJ.reads I q rv
   exact⟨_, .list e c d (by simpa using hr)⟩
 | _,_,_, .tup h q,r=>by
   cases(show _=Value.ref _ from r)
   obtain⟨its,rv,⟨o,e,c,n,d⟩,_⟩:=I.tuple h
   obtain⟨as,hr⟩:=uJ.reads I q rv
   exact⟨_, .tuple e c d (by simpa using hr)⟩
theorem uJ.reads (I:Inv X pins σ H s):∀{xs:List V}{ds:List PyData}{us:List Value},uJ X.K H xs ds->Vals xs us->∃as,ReadsAll s.heap us ds as
 | _,_,_, .nil, .nil=>⟨_, .nil⟩
 | _,_,_, .cons h r, .cons q t=>by
   obtain⟨as,h1⟩:=oU.reads I h q
   obtain⟨bs,h2⟩:=uJ.reads I r t
   exact⟨_, .cons h1 h2⟩
end
end
def adB (K:PySem.W.Frag) (neg:Bool):R2:=fun x y H Q=>∃d e,oU K H x d/\oU K H y e/\SeqAt.shaped d=true/\SeqAt.shaped e=true/\Q (.bl (if neg then !PyData.eqv d e else PyData.eqv d e)) H
theorem aao {X:Cx} (hu:X.A.units+64<cLine):OpR X (compareOp .Eq) (adB X.K false):=by
 intro pins s σ H x y v u Q I rx ry h
 obtain⟨d,e,hd,he,sd,se,q⟩:=h
 obtain⟨as,h1⟩:=hd.reads I rx
 obtain⟨bs,h2⟩:=he.reads I ry
 exact eq_dataH h1 h2 sd se hu ⟨.bl _,H,I,rfl,q⟩
theorem Ry {X:Cx} (hu:X.A.units+64<cLine):OpR X (compareOp .NotEq) (adB X.K true):=by
 intro pins s σ H x y v u Q I rx ry h
 obtain⟨d,e,hd,he,sd,se,q⟩:=h
 obtain⟨as,h1⟩:=hd.reads I rx
 obtain⟨bs,h2⟩:=he.reads I ry
 exact ne_dataH h1 h2 sd se hu ⟨.bl _,H,I,rfl,q⟩
theorem Rz {X:Cx}:uH X (.builtin "isinstance") (fun xs H Q=>∃x T t b,xs=[x, .ty T]/\qw X.K H x t/\PySem.W.kitOne X.K t (.type T)=some b/\Q (.bl b) H):=by
 intro pins s σ H xs us Q I r h
 obtain⟨x,T,t,b,rfl,ty,e,q⟩:=h
 obtain⟨u,v,rfl,r1,r2⟩:=Vals.two r
 cases(show v=Value.type T from r2)
 exact Pk I r1 ty e fun tk=>⟨.bl b,H,I.tok tk,rfl,q⟩
theorem nZ:bootBuiltins "len"=some (.builtin "len"):=by decide +kernel
theorem jA:bootBuiltins "isinstance"=some (.builtin "isinstance"):=by decide +kernel
theorem aap:bootBuiltins "max"=some (.builtin "max"):=by decide +kernel
theorem aaq:bootBuiltins "min"=some (.builtin "min"):=by decide +kernel
theorem Gy:bootBuiltins "sorted"=some (.builtin "sorted"):=by decide +kernel
theorem aar:bootBuiltins "all"=some (.builtin "all"):=by decide +kernel
theorem aas:bootBuiltins "int"=some (.type "int"):=by decide +kernel
theorem RC:bootBuiltins "str"=some (.type "str"):=by decide +kernel
theorem VB:bootBuiltins "bool"=some (.type "bool"):=by decide +kernel
theorem qd:bootBuiltins "list"=some (.type "list"):=by decide +kernel
theorem Ds:bootBuiltins "tuple"=some (.type "tuple"):=by decide +kernel
theorem Ht:bootBuiltins "enumerate"=some (.type "enumerate"):=by decide +kernel
theorem aat:bootBuiltins "zip"=some (.type "zip"):=by decide +kernel
structure QE (X:Cx) (e:Expr) (t:TE):Prop where
 h:PE X e t
structure QT (X:Cx) (e:Expr) (t:TT):Prop where
 h:PT X e t
structure QW (X:Cx) (e:Expr) (t:TT):Prop where
 h:PW X e t
structure QA (X:Cx) (es:List Expr) (t:TA):Prop where
 h:PA X es t
structure QS (X:Cx) (s:Stmt) (t:TS):Prop where
 h:PS X s t
structure QSs (X:Cx) (s:List Stmt) (t:TS):Prop where
 h:PSs X s t
structure QG (X:Cx) (e:Expr) (t:TG):Prop where
 h:PG X e t
structure QGs (X:Cx) (es:List Expr) (t:TGs):Prop where
 h:PGs X es t
structure QI (X:Cx) (tg e:Expr) (t:TI):Prop where
 h:PI X tg e t
structure QO (X:Cx) (e:Option Expr) (t:TO):Prop where
 h:PO X e t
structure VD (X:Cx) (es:List Expr) (t:TT):Prop where
 h:PN X es t
structure QPs (X:Cx) (pos:Pos) (ks:List (Option Expr)) (vs:List Expr) (t:List (TE×TE)):Prop where
 h:PPs X pos ks vs t
structure QOp (X:Cx) (f:Value->Value->Sem Value) (r:R2):Prop where
 h:OpR X f r
structure QUn (X:Cx) (f:Value->Sem Value) (r:V->Hp->VK->Prop):Prop where
 h:UnR X f r
structure QIx (X:Cx) (r:R2):Prop where
 h:IxR X r
structure QSl (X:Cx) (r:V->Option Int->Option Int->Hp->VK->Prop):Prop where
 h:SlR X r
structure QMt (X:Cx) (id:String) (r:V->List V->Hp->VK->Prop):Prop where
 h:MtR X id r
structure uK (X:Cx) (f:Value) (r:List V->Hp->VK->Prop):Prop where
 h:uH X f r
section
variable {X:Cx}{a b c e:Expr}{es:List Expr}{ta tb te:TE}{tA tB':TT}{pos p:Pos}{x:Str}
theorem aj (i:Nat) (v:aG X.env.scope x) (hN:X.N[i]? =some x:=by rfl):QE X (.Name x pos) (Zi i):=⟨pvx i v hN⟩
theorem aB {i j pos}:QE X (.Constant (.int i) j pos) (tC (.int i)):=⟨Zk⟩
theorem JG {b j pos}:QE X (.Constant (.bool b) j pos) (tC (.bl b)):=⟨ac0⟩
theorem Az {j pos}:QE X (.Constant .none j pos) (tC .non):=⟨Zm⟩
theorem aV {x j pos}:QE X (.Constant (.str x) j pos) (tC (.str x)):=⟨QV⟩
theorem wY {v:V}{u:Value} (hg:Gl X x) (hm:X.mg x=none) (hv:bootBuiltins x=some u) (r:RelV v u) (hn:x≠"__name__") (hd:(x==("__debug__":Str))=false):QE X (.Name x pos) (tC v):=⟨U5 hg hm hv r hn hd⟩
theorem bM {op:Operator}{r:R2} (ho:QOp X (binaryOp op) r) (ha:QE X a ta) (hb:QE X b tb):QE X (.BinOp a op b pos) (tOp r ta tb):=⟨ada ho.h ha.h hb.h⟩
theorem RD {op:UnaryOp}{r:V->Hp->VK->Prop} (ho:QUn X (unaryOp op) r) (ha:QE X a ta):QE X (.UnaryOp op a pos) (tUn r ta):=⟨adb ho.h ha.h⟩
theorem Dt {op:CmpOp}{r:R2} (ho:QOp X (compareOp op) r) (ha:QE X a ta) (hb:QE X b tb) (hm:behindInMarks op b=false):QE X (.Compare a [op] [b] pos) (tOp r ta tb):=⟨Ve ho.h ha.h hb.h hm⟩
theorem cW {op:CmpOp}{r:R2} (ho:QOp X (compareOp op) r) (ha:QE X a ta) (hb:QE X b tb) (hm:behindInMarks op b=false):QT X (.Compare a [op] [b] pos) (X5 (tOp r ta tb)):=⟨Vf ho.h ha.h hb.h hm⟩
theorem yp (h:QE X e te) (he:∀whole,isTrue e X.env whole=(do let v <-whole;standAt e.pos;holding [v] (truthy v)):=by intro _;rfl):QT X e (tB te):=⟨Zn h.h he⟩
theorem Du (ha:QE X a ta) (he:∀whole,isTrue a X.env whole=(do let v <-whole;standAt a.pos;holding [v] (truthy v)):=by intro _;rfl):QT X a (fun σ H Q=>ta σ H fun x H1=>∃k,ZS X.K x H1 k/\Q k H1):=⟨Q9 ha.h he⟩
theorem RG (ha:QT X a tA):QT X (.UnaryOp .Not a pos) (ac2 tA):=⟨Zr ha.h⟩
theorem aau (ha:QE X a ta):QE X (.UnaryOp .Not a pos) (XQ ta):=⟨Zv ha.h⟩
theorem NT (ha:QT X a tA):QW X (.BoolOp .And [a] pos) tA:=⟨U6 ha.h⟩
theorem Dv (ha:QT X a tA):QW X (.BoolOp .Or [a] pos) tA:=⟨Zo ha.h⟩
theorem RJ {rest:List Expr} (ha:QT X a tA) (hb:QW X (.BoolOp .And (b::rest) pos) tB'):QW X (.BoolOp .And (a::b::rest) pos) (ac1 tA tB'):=⟨Zq ha.h hb.h⟩
theorem Gz {rest:List Expr} (ha:QT X a tA) (hb:QW X (.BoolOp .Or (b::rest) pos) tB'):QW X (.BoolOp .Or (a::b::rest) pos) (tOr tA tB'):=⟨ac3 ha.h hb.h⟩
theorem Lz (h:QW X e tA):QT X e tA:=⟨h.h.pt⟩
theorem LC {op} (h:QE X a ta):QE X (.BoolOp op [a] pos) ta:=⟨Zt h.h⟩
theorem Hu {rest:List Expr} (ha:QE X a ta) (hb:QE X (.BoolOp .And (b::rest) pos) tb):QE X (.BoolOp .And (a::b::rest) pos) (XN ta tb):=⟨Zu ha.h hb.h⟩
theorem RK (hc:QT X c tA) (ha:QE X a ta) (hb:QE X b tb):QE X (.IfExp c a b pos) (tIf tA ta tb):=⟨QZ hc.h ha.h hb.h⟩
theorem au:QA X [] Pn:=⟨Z0⟩
theorem lJ {t:TA} (ha:QE X e te) (hr:QA X es t) (hs:starEach (e::es) X.env=(false,eval e X.env)::starEach es X.env:=by rfl):QA X (e::es) (qX te t):=⟨Vi ha.h hr.h hs⟩
theorem jm {x1}{t:TA} (h:QA X es t):QE X (.Tuple es x1 pos) (ado t):=⟨aaa h.h⟩
theorem fW {t:TA} (h:QA X es t):QE X (.List es pos) (adp t):=⟨aab h.h⟩
theorem cg {r:R2} (hr:QIx X r) (ha:QE X a ta) (hb:QE X b tb) (hs:Nv b:=by intro _ _;rfl):QE X (.Subscript a b pos) (tOp r ta tb):=⟨adq hr.h ha.h hb.h hs⟩
theorem zq:QO X none Nt:=⟨Vm⟩
theorem zu (h:QE X e te):QO X (some e) (X8 te):=⟨Vn h.h⟩
theorem vp {r:V->Option Int->Option Int->Hp->VK->Prop}{lo hi:Option Expr}{tl th:TO}{p2:Pos} (hr:QSl X r) (he:QE X e te) (hl:QO X lo tl) (hu:QO X hi th):QE X (.Subscript e (.Slice lo hi none p2) pos) (tSl r te tl th):=⟨Ri hr.h he.h hl.h hu.h⟩
theorem fV (hu:X.A.units+1<cLine) (ho:QE X a ta) (hi:QE X b tb) (hs:aaj b:=by intro _ _;rfl):QE X (.Subscript a b pos) (Yc ta tb):=⟨Vt hu ho.h hi.h hs⟩
theorem aav:QPs X pos [] [] []:=⟨Vv⟩
theorem Hv {k v:Expr}{ks:List (Option Expr)}{vs:List Expr}{tk tv:TE}{trs:List (TE×TE)} (hk:QE X k tk) (hv:QE X v tv) (hr:QPs X pos ks vs trs):QPs X pos (some k::ks) (v::vs) ((tk,tv)::trs):=⟨Rr hk.h hv.h hr.h⟩
theorem VF {keys:List (Option Expr)}{values:List Expr}{trs:List (TE×TE)} (h:QPs X pos keys values trs) (hall:keys.all (·.isSome)=true:=by rfl) (hl:keys.length=values.length:=by rfl) (h1:keys≠[]:=by intro z;cases z) (h2:keys.length<=15:=by decide):QE X (.Dict keys values pos) (Ye trs):=⟨Vw h.h hall hl h1 h2⟩
theorem bN {CX:CXT}{k:Nat}{f:Addr}{fd:FuncData}{ps:List Str}{sp:Sp}{dvs:List V}{ds:List Value}{E:XK}{t:TA} (F:aY X.prog X.w X.K X.mg X.base CX k f fd ps sp) (hr:iQ k X.A) (hg:Gl X x) (hm:X.mg x=some (.ref f)) (hk:PySem.W.keepIn X.K (.ref f)=true) (hb:Binds X.K fd ps ds) (hd:Vals dvs ds) (hx:Passes CX X E)
 (ha:QA X (e::es) t) (hdb:(x==("__debug__":Str))=false) (he:starEach (e::es) X.env=(false,eval e X.env)::starEach es X.env:=by rfl) (hpl:(backTo pos (starEach es X.env)).any (·.1)=false:=by rfl):
 QE X (.Call (.Name x p) (e::es) [] pos) (Np sp dvs E t):=⟨Vj F hr hg hm hk hb hd hx ha.h hdb he hpl⟩
theorem JH {CX:CXT}{k:Nat}{f:Addr}{fd:FuncData}{ps:List Str}{sp:Sp}{dvs:List V}{ds:List Value}{E:XK} (F:aY X.prog X.w X.K X.mg X.base CX k f fd ps sp) (hr:iQ k X.A) (hg:Gl X x) (hm:X.mg x=some (.ref f)) (hk:PySem.W.keepIn X.K (.ref f)=true) (hb:Binds X.K fd ps ds) (hd:Vals dvs ds) (hx:Passes CX X E)
 (hdb:(x==("__debug__":Str))=false):QE X (.Call (.Name x p) [] [] pos) (Np sp dvs E Pn):=⟨Rc F hr hg hm hk hb hd hx hdb⟩
theorem cX {id:String}{r:List V->Hp->VK->Prop}{t:TA} (hc:uK X (.builtin id) r) (hg:Gl X x) (hm:X.mg x=none) (hv:bootBuiltins x=some (.builtin id)) (ha:QA X (e::es) t) (hn:x≠"__name__") (hdb:(x==("__debug__":Str))=false)
 (he:starEach (e::es) X.env=(false,eval e X.env)::starEach es X.env:=by rfl) (hpl:(backTo pos (starEach es X.env)).any (·.1)=false:=by rfl):QE X (.Call (.Name x p) (e::es) [] pos) (tCB r t):=⟨Rh hc.h hg hm hv ha.h hn hdb he hpl⟩
theorem lD {T:String}{r:List V->Hp->VK->Prop}{t:TA} (hc:uK X (.type T) r) (hg:Gl X x) (hm:X.mg x=none) (hv:bootBuiltins x=some (.type T)) (ha:QA X (e::es) t) (hn:x≠"__name__") (hdb:(x==("__debug__":Str))=false)
 (he:starEach (e::es) X.env=(false,eval e X.env)::starEach es X.env:=by rfl) (hpl:(backTo pos (starEach es X.env)).any (·.1)=false:=by rfl):QE X (.Call (.Name x p) (e::es) [] pos) (tCB r t):=⟨Pr hc.h hg hm hv ha.h hn hdb he hpl⟩
theorem Ba {o:Expr}{to:TE}{name:Str}{apos cpos:Pos}{T id:String}{r:V->List V->Hp->VK->Prop} (pa:PlainAttrs T) (slot:Slot T name id) (hty:typeOf (.builtin id)=pure (.type "method_descriptor")) (hm:QMt X id r) (ho:QE X o to)
 (hbase:attributeBase o name X.env (eval o X.env)=eval o X.env:=by rfl) (hline:(apos.endLine==cpos.line)=true:=by rfl):QE X (.Call (.Attribute o name apos) [] [] cpos) (adu X.K T r to):=⟨aag pa slot hty hm.h ho.h hbase hline⟩
theorem vq {o:Expr}{to:TE}{name:Str}{apos cpos:Pos}{T id:String}{r:V->List V->Hp->VK->Prop}{t:TA} (pa:PlainAttrs T) (slot:Slot T name id) (hty:typeOf (.builtin id)=pure (.type "method_descriptor")) (hm:QMt X id r) (ho:QE X o to) (ha:QA X (e::es) t)
 (hbase:attributeBase o name X.env (eval o X.env)=eval o X.env:=by rfl)
 (hfew:((backTo cpos (starEach (e::es) X.env)).all (fun x=> !x.1)&&(backToKw cpos (keywordEach [] X.env)).all (fun x=>x.1.isSome)
   &&decide ((e::es).length+([]:List Keyword).length+(if([]:List Keyword).isEmpty then 0 else 1)<30))=true:=by rfl)
 (hline:(apos.endLine==cpos.line)=true:=by rfl) (hs:starEach (e::es) X.env=(false,eval e X.env)::starEach es X.env:=by rfl) (hplain:(backTo cpos (starEach es X.env)).any (·.1)=false:=by rfl):
 QE X (.Call (.Attribute o name apos) (e::es) [] cpos) (tBM X.K T r to t):=⟨adv pa slot hty hm.h ho.h ha.h hbase hfew hline hs hplain⟩
theorem CZ {n:Nat}{fr:List Nat}{N:List Str}{sc:Scope}{elt tg iter:Expr}{ifs:List Expr}{wi:TI}{g:TG}{tc:TT} (hc:X.calm=true) (S:vo X n fr N sc) (hit:QI X tg iter wi)
 (hg:∀pins C s₀ H₀ fp,QG (gD X N sc pins C s₀ H₀ fp) tg g) (hi:∀pins C s₀ H₀ fp,VD (gD X N sc pins C s₀ H₀ fp) ifs tc) (he:∀pins C s₀ H₀ fp,QE (gD X N sc pins C s₀ H₀ fp) elt te)
 (hs:∀x,foldedSetIterable iter X.env x=pure x:=by intro _;rfl):QE X (.ListComp elt [⟨tg,iter,ifs,0⟩] sc pos) (NQ wi n fr g tc te):=
 ⟨Vz hc S hit.h (fun a b c d e=>(hg a b c d e).h) (fun a b c d e=>(hi a b c d e).h) (fun a b c d e'=>(he a b c d e').h) hs⟩
theorem LK {i:Nat}{pos' spos:Pos}{n:Nat}{fr:List Nat}{N:List Str}{sc:Scope}{elt tg iter:Expr}{ifs:List Expr}{wi:TI}{g:TG}{tc:TT} (hc:X.calm=true) (hN:X.N.Nodup) (hi':X.N[i]? =some x) (hx:Loc X.env.scope x) (S:vo X n fr N sc) (hit:QI X tg iter wi)
 (hg:∀pins C s₀ H₀ fp,QG (gD X N sc pins C s₀ H₀ fp) tg g) (hi:∀pins C s₀ H₀ fp,VD (gD X N sc pins C s₀ H₀ fp) ifs tc) (he:∀pins C s₀ H₀ fp,QE (gD X N sc pins C s₀ H₀ fp) elt te)
 (hsw:swapsWith (.ListComp elt [⟨tg,iter,ifs,0⟩] sc pos) (some (.Name x pos')) spos.line X.env=pure true)
 (hs:∀x,foldedSetIterable iter X.env x=pure x:=by intro _;rfl) (hf:X.fn x=true\/X.env.scope.names.lookup x=some .local:=by first | exact .inl rfl | exact .inr rfl | assumption):
 QS X (.Assign [.Name x pos'] (.ListComp elt [⟨tg,iter,ifs,0⟩] sc pos) spos) (O6 (NQ wi n fr g tc te) (zm i)):=
 ⟨Ly hc hN hi' hx S hit.h (fun a b c d e=>(hg a b c d e).h) (fun a b c d e=>(hi a b c d e).h) (fun a b c d e'=>(he a b c d e').h) hsw hs hf⟩
theorem LQ:VD X [] Yg:=⟨Rv⟩
theorem RL {t:TT} (h:QT X c t):VD X [c] t:=⟨Rw h.h⟩
theorem zx {tg l:Expr}{tl:TE} (hl:QE X l tl):QI X tg l (X3 X.K tl):=⟨Vc hl.h⟩
theorem Bb {tg:Expr}{t:TA} (hg:Gl X "range") (hm:X.mg "range"=none) (ha:QA X [a] t) (hs:starEach [a] X.env=[(false,eval a X.env)]:=by rfl):QI X tg (.Call (.Name "range" p) [a] [] pos) (X4 t):=⟨O8 hg hm ha.h hs⟩
theorem mZ {i:Nat} (hN:X.N.Nodup) (hi:X.N[i]? =some x) (hx:Loc X.env.scope x) (hf:X.fn x=true\/X.env.scope.names.lookup x=some .local:=by first | exact .inl rfl | exact .inr rfl | assumption):QG X (.Name x pos) (zm i):=⟨Ni hN hi hx hf⟩
theorem qgx {i:Nat} (hN:X.N.Nodup) (hx:X.env.scope.names.lookup x=some .local) (hi:X.N[i]? =some x:=by rfl):QG X (.Name x pos) (zm i):=⟨pgx hN hx hi⟩
theorem Hw:QGs X [] ac8:=⟨Vb⟩
theorem pI {t:TG}{u:TGs} (h1:QG X e t) (h2:QGs X es u) (hs:(assignEach (e::es) X.env).map (·.2)=assign e X.env::(assignEach es X.env).map (·.2):=by rfl):QGs X (e::es) (XX t u):=⟨Q3 h1.h h2.h hs⟩
theorem LR {k n:Nat}{t:TGs} (hc:X.calm=true) (h:QGs X es t) (hn:(assignEach es X.env).length=n:=by rfl) (hst:(assignEach es X.env).findIdx? (·.1)=none:=by rfl):QG X (.Tuple es k pos) (Zx X.K n t):=⟨Zy hc h.h hn hst⟩
theorem aaw {tg:Expr}{g:TG} (he:QE X e te) (hg:QG X tg g) (hs:swapsWithSole [tg] e pos.line X.env=pure false:=by rfl) (hw:swappedStores [tg] e X.env=pure none:=by rfl)
 (h1:(assignEach [tg] X.env).map (·.2)=[assign tg X.env]:=by rfl):QS X (.Assign [tg] e pos) (O6 te g):=⟨Zz he.h hg.h hs hw h1⟩
theorem bW {i:Nat}{pos':Pos} (hN:X.N.Nodup) (hi:X.N[i]? =some x) (hx:Loc X.env.scope x) (he:QE X e te) (hs:swapsWith e (some (.Name x pos')) pos.line X.env=pure false:=by rfl) (hf:X.fn x=true\/X.env.scope.names.lookup x=some .local:=by first | exact .inl rfl | exact .inr rfl | assumption):
 QS X (.Assign [.Name x pos'] e pos) (O6 te (zm i)):=⟨ZC hN hi hx he.h hs hf⟩
theorem jQ {o i v:Expr}{td ty tv:TE}{pos':Pos} (hu:X.A.units+1<cLine) (ho:QE X o td) (hi:QE X i ty) (hv:QE X v tv) (hs:swapsWith v (some (.Subscript o i pos')) pos.line X.env=pure false:=by rfl):QS X (.Assign [.Subscript o i pos'] v pos) (Yd td ty tv):=⟨Vu hu ho.h hi.h hv.h hs⟩
theorem fZ (he:QE X e te) (hs:swapsWith e none pos.line X.env=pure false:=by rfl):QS X (.Expr e pos) (XS te):=⟨Va he.h hs⟩
theorem bY (he:QE X e te):QS X (.Return (some e) pos) (ac5 te):=⟨Zw he.h⟩
theorem VG:QS X (.Pass pos) Nh:=⟨U9⟩
theorem JK:QS X (.Continue pos) XR:=⟨Jr⟩
theorem fJ {s1 s2:List Stmt}{t u:TS} (hc:QT X c tA) (ha:QSs X s1 t) (hb:QSs X s2 u):QS X (.If c s1 s2 pos) (ac6 tA t u):=⟨ac7 hc.h ha.h hb.h⟩
theorem Dw {body:List Stmt}{tb:TS} (hp:PassesOwn (model X.prog X.w) X.A X.env X.xe) (hc:QT X c tA) (hb:QSs X body tb):QS X (.While c body [] pos) (Q4 tA tb):=⟨Q5 hp hc.h hb.h⟩
theorem Bc {tg iter:Expr}{body:List Stmt}{wi:TI}{g:TG}{tb:TS} (hp:PassesOwn (model X.prog X.w) X.A X.env X.xe) (hc:X.calm=true) (hi:QI X tg iter wi) (hg:QG X tg g) (hb:QSs X body tb)
 (hs:∀x,foldedSetIterable iter X.env x=pure x:=by intro _;rfl):QS X (.For tg iter body [] pos) (ac9 wi g tb):=⟨ZD hp hc hi.h hg.h hb.h hs⟩
theorem cZ:QSs X [] Nh:=⟨U7⟩
theorem az {s:Stmt}{rest:List Stmt}{t u:TS} (h1:QS X s t) (h2:QSs X rest u):QSs X (s::rest) (ac4 t u):=⟨Q0 h1.h h2.h⟩
theorem aC {s:Stmt}{t:TS} (h1:QS X s t):QSs X [s] t:=⟨U8 h1.h⟩
theorem jF:QOp X (binaryOp .Add) (rI0 fun i j=> .int (i+j)):=⟨ZG⟩
theorem jR:QOp X (binaryOp .Sub) (rI0 fun i j=> .int (i - j)):=⟨ZJ⟩
theorem oV:QOp X (binaryOp .Mult) (rI tH fun i j=> .int (i * j)):=⟨ZK⟩
theorem jT:QOp X (binaryOp .Mod) (rI (fun _ j=>0<j) fun i j=> .int (i % j)):=⟨ZL⟩
theorem pJ:QOp X (binaryOp .FloorDiv) (rI Yh fun i j=> .int (i / j)):=⟨Rx⟩
theorem NZ:QOp X (binaryOp .Pow) (rI adg fun i j=> .int (i ^ j.toNat)):=⟨ZM⟩
theorem wZ:QOp X (binaryOp .Add) adx:=⟨aai⟩
theorem Hy:QUn X (unaryOp .USub) (rU fun i=> .int (-i)):=⟨ZP⟩
theorem gF:QOp X (compareOp .Eq) rEq:=⟨adi⟩
theorem Ma:QOp X (compareOp .NotEq) rNe:=⟨adk⟩
theorem RM:QOp X (compareOp .Lt) (rI0 fun i j=> .bl (decide (i<j))):=⟨adl⟩
theorem aax:QOp X (compareOp .Gt) (rI0 fun i j=> .bl (decide (j<i))):=⟨adm⟩
theorem VH:QOp X (compareOp .Is) (fun x y H Q=>y= .non/\Q (.bl (decide (x= .non))) H):=⟨ZQ⟩
theorem RN:QOp X (compareOp .IsNot) (fun x y H Q=>y= .non/\Q (.bl (!decide (x= .non))) H):=⟨Vd⟩
theorem Mf:QOp X (compareOp .In) (rIn X.K false):=⟨Pu⟩
theorem eX:QIx X (aac X.K):=⟨Vp⟩
theorem bV:QIx X (aad X.K):=⟨aae⟩
theorem vz:QSl X (adt X.K):=⟨Vq⟩
theorem kZ:QMt X "list.append" Nx:=⟨Gq⟩
theorem yq:QMt X "list.extend" Ny:=⟨Py⟩
theorem w6:QMt X "list.pop" adw:=⟨aah⟩
theorem gM:uK X (.builtin "len") (fun xs H Q=>∃p ys,xs=[.ref p]/\(SqL X.K H p ys\/SqT X.K H p ys)/\Q (.int ys.length) H):=⟨Hr⟩
theorem Bd:uK X (.builtin "isinstance") (fun xs H Q=>∃x T t b,xs=[x, .ty T]/\qw X.K H x t/\PySem.W.kitOne X.K t (.type T)=some b/\Q (.bl b) H):=⟨Rz⟩
theorem tO:uK X (.type "list") (fun xs H Q=>∃p ys,xs=[.ref p]/\(SqL X.K H p ys\/SqT X.K H p ys)/\∀l,H l=none->Q (.ref l) (upd H l (.lst ys))):=⟨Hs⟩
theorem JL:uK X (.type "tuple") (fun xs H Q=>∃p ys,xs=[.ref p]/\SqL X.K H p ys/\∀l,H l=none->Q (.ref l) (upd H l (.tup ys))):=⟨fun pins s σ H xs us Q I r h=>FJ pins s σ H xs us Q I r (let ⟨p,ys,e,hs,q⟩:=h;⟨p,ys,e, .inl ⟨hs,q⟩⟩)⟩
theorem bH (b:Expr) {op:CmpOp} (h:op≠ .In:=by decide) (h2:op≠ .NotIn:=by decide):behindInMarks op b=false:=ZR b h h2
theorem Be {K:PySem.W.Frag} (e:X.K=K):QIx X (aac K):=e▸eX
theorem JM {K:PySem.W.Frag} (e:X.K=K):QIx X (aad K):=e▸bV
theorem BX {K:PySem.W.Frag} (e:X.K=K):uK X (.builtin "len") (fun xs H Q=>∃p ys,xs=[.ref p]/\(SqL K H p ys\/SqT K H p ys)/\Q (.int ys.length) H):=e▸gM
end
theorem P0 {X:Cx} (hc:X.calm=true):uH X (.builtin "all") (fun xs H Q=>∃(p:Addr) (bs:List Bool),xs=[V.ref p]/\SqL X.K H p (bs.map V.bl)/\Q (.bl (bs.all id)) H):=by
 intro pins s σ H xs us Q I r h
 obtain⟨p,bs,rfl,hp,q⟩:=h
 obtain⟨u,rfl,ru⟩:=Vals.one r
 cases(show u=Value.ref p from ru)
 obtain⟨its,rv,pl,hz⟩:=I.list hp
 have hlt:p<s.heap.objs.size:=by obtain⟨o,n,e,_⟩:=pl;exact Heap.lt_size e
 have hlen:its.length=bs.length:=by rw[<-rv.length,List.length_map]
 refine call_all_walk (wpAny_pyIter_list pl.isList ?_)
 refine⟨s.heap.objs.size,_,_,its.toArray.size,(fun i v=>its.toArray[i]? =some v),_,(fun i=>bs.getD i false),rfl,Walks.list (A:=X.A.in1) (I.ok.hd hc) s.heap.objs.size p (Nat.ne_of_lt hlt) its.toArray,⟨⟨_,Heap.get?_push_size _ rfl,rfl,rfl⟩,pl.isList.push _⟩, ?_, ?_⟩
 ·intro i v s' Q' E' hv hq
  have hi:i<bs.length:=by
   rw[<-hlen]
   have:=(Array.getElem?_eq_some_iff.mp hv).1
   simpa using this
  obtain⟨u,hu,ru⟩:=rv.get (i:=i) (x:=V.bl bs[i]) (by rw[List.getElem?_map,List.getElem?_eq_getElem hi];rfl)
  have hv':its[i]? =some v:=by simpa using hv
  rw[hu] at hv'
  cases hv'
  cases(show v=Value.bool _ from ru)
  refine wpAny_truthy_bool ?_
  have e:bs.getD i false=bs[i]:=by rw[List.getD_eq_getElem?_getD,List.getElem?_eq_getElem hi];rfl
  have hq':Q' (bs.getD i false) s':=hq
  rw[e] at hq'
  exact hq'
 ·intro h' tk hk
  have e:(List.range its.toArray.size).all (fun i=>bs.getD i false)=bs.all id:=by
   rw[List.size_toArray,hlen]
   rw[Bool.eq_iff_iff,List.all_eq_true,List.all_eq_true]
   constructor
   ·intro h b hb
    obtain⟨i,hi,rfl⟩:=List.mem_iff_getElem.mp hb
    have:=h i (List.mem_range.mpr hi)
    rw[List.getD_eq_getElem?_getD,List.getElem?_eq_getElem hi] at this
    exact this
   ·intro h i hi
    have hi':=List.mem_range.mp hi
    rw[List.getD_eq_getElem?_getD,List.getElem?_eq_getElem hi']
    exact h _ (List.getElem_mem hi')
  rw[e]
  refine⟨.bl _,H,I.kept (t':=tk) fun b o eb=>hk b o ?_ (Heap.get?_push_of_some _ eb),rfl,q⟩
  intro z
  have:b=s.heap.objs.size:=by simpa using z
  exact absurd (Heap.lt_size eb) (by rw[this];exact Nat.lt_irrefl _)
section
variable {X:Cx}{a b c e:Expr}{ta tb tc te:TE}{pos:Pos}
theorem VJ (hc:X.calm=true):uK X (.builtin "all") (fun xs H Q=>∃(p:Addr) (bs:List Bool),xs=[V.ref p]/\SqL X.K H p (bs.map V.bl)/\Q (.bl (bs.all id)) H):=⟨P0 hc⟩
end
end L2
namespace RB
open PySem L2 PySem.Spec PyProof.Rows
def But (S:List Addr) (H H':Hp):Prop:=∀b o,b∉S->H b=some o->H' b=some o
theorem But.refl (S:List Addr) (H:Hp):But S H H:=fun _ _ _ h=>h
theorem But.trans {S:List Addr}{H H1 H2:Hp} (a:But S H H1) (b:But S H1 H2):But S H H2:=fun c o n h=>b c o n (a c o n h)
theorem But.mono {S S':List Addr}{H H':Hp} (a:But S H H') (h:∀b∈S,b∈S'):But S' H H':=fun c o n q=>a c o (fun z=>n (h c z)) q
theorem But.new {S:List Addr}{H:Hp}{p:Addr} (o:HO) (h:H p=none):But S H (upd H p o):=fun b u _ q=>by rw[ao (aF q h)];exact q
theorem But.set {S:List Addr}{H:Hp}{p:Addr} (o:HO) (h:p∈S):But S H (upd H p o):=fun b u n q=>by rw[ao (show b≠p from fun e=>n (by rw[e];exact h))];exact q
theorem But.of_same {S:List Addr}{H H':Hp} (h:aN H H'):But S H H':=fun b o _ q=>h b o q
theorem aq {H:Hp}{p:Addr} (o:HO) (h:H p=none):aN H (upd H p o):=fun b u q=>by rw[ao (aF q h)];exact q
def lg (H H':Hp):Prop:=∀b xs,H b=some (.tup xs)->H' b=some (.tup xs)
theorem aN.tups {H H':Hp} (h:aN H H'):lg H H':=fun b xs q=>h b _ q
inductive Op where | plus | minus | times | most
 deriving DecidableEq
def Op.word:Op->Str
 | .plus=>"plus" | .minus=>"minus" | .times=>"times" | .most=>"most"
inductive R where
 | num (n:Int) | rd (x:Str) | bin (op:Op) (a b:R) | pick (a b c:R) | cho (a:R) (ns:List Str)
def R.depth:R->Nat
 | .num _=>1
 | .rd _=>1
 | .bin _ a b=>max a.depth b.depth+1
 | .pick a b c=>max a.depth (max b.depth c.depth)+1
 | .cho a _=>a.depth+1
def GC (c:Nat):Prop:=97<=c/\c<=122
def m8 (x:Str):Prop:=1<=x.length/\x.length<=8/\∀c∈x.cps.toList,GC c
def R.Good:R->Prop
 | .num n=>n.natAbs<10 ^ 40
 | .rd x=>m8 x
 | .bin _ a b=>a.Good/\b.Good
 | .pick a b c=>a.Good/\b.Good/\c.Good
 | .cho a ns=>a.Good/\1<=ns.length/\ns.length<=9/\∀x∈ns,m8 x
inductive IsR (H:Hp):Addr->R->Prop where
 | num {a:Addr}{n:Int} (e:H a=some (.tup [.str "number", .int n])):IsR H a (.num n)
 | rd {a:Addr}{x:Str} (e:H a=some (.tup [.str "read", .str x])):IsR H a (.rd x)
 | bin {a b c:Addr}{op:Op}{r s:R} (e:H a=some (.tup [.str op.word, .ref b, .ref c])) (h1:IsR H b r) (h2:IsR H c s):IsR H a (.bin op r s)
 | pick {a b c d:Addr}{r s t:R} (e:H a=some (.tup [.str "pick", .ref b, .ref c, .ref d])) (h1:IsR H b r) (h2:IsR H c s) (h3:IsR H d t):IsR H a (.pick r s t)
 | cho {a b c:Addr}{r:R}{ns:List Str} (e:H a=some (.tup [.str "choose", .ref b, .ref c])) (h1:IsR H b r) (h2:H c=some (.tup (ns.map V.str))):IsR H a (.cho r ns)
theorem IsR.tups {H H':Hp} (t:lg H H') {a:Addr}{r:R} (h:IsR H a r):IsR H' a r:=by
 induction h with
 | num e=>exact .num (t _ _ e)
 | rd e=>exact .rd (t _ _ e)
 | bin e _ _ i1 i2=>exact .bin (t _ _ e) i1 i2
 | pick e _ _ _ i1 i2 i3=>exact .pick (t _ _ e) i1 i2 i3
 | cho e _ h2 i1=>exact .cho (t _ _ e) i1 (t _ _ h2)
theorem IsR.same {H H':Hp} (t:aN H H') {a:Addr}{r:R} (h:IsR H a r):IsR H' a r:=h.tups (aN.tups t)
theorem R.rA (r:R):1<=r.depth:=by cases r<;>simp[R.depth]
def N5 (K:PySem.W.Frag):Sp:=fun vs H Q _=>∃(a:Addr) (ns:List Int),vs=[.ref a]/\SqL K H a (ns.map V.int)/\ns.length<=63/\∀H',Q (.bl true) H'
structure FnT (K:PySem.W.Frag) (mg:Str->Option Value) (x:Str) (st:Stmt) (ps:List Str) (f:Addr) (fd:FuncData):Prop where
 F:Fun K x x st f fd
 b:Binds K fd ps []
 m:mg x=some (.ref f)
structure Blt (mg:Str->Option Value):Prop where
 uL:mg "len"=none
 Hz:mg "range"=none
 Yi:mg "str"=none
 adC:mg "int"=none
 vA:mg "list"=none
 HD:mg "tuple"=none
 jU:mg "isinstance"=none
 aay:mg "bool"=none
 ag0:mg "dict"=none
 ail:mg "sum"=none
 adD:mg "all"=none
 aim:mg "any"=none
 adE:mg "max"=none
 adF:mg "min"=none
 JN:mg "sorted"=none
 ain:mg "set"=none
 JP:mg "enumerate"=none
 adG:mg "zip"=none
 aaz:mg "reversed"=none
 aio:mg "abs"=none
theorem adH {xs:List Int}{i:Int} (h0:0<=i) (h1:i<((xs.map V.int).length:Int)):∃v j,atI (xs.map V.int) i=some (.int v)/\ixN (xs.map V.int).length i=some j/\j<xs.length/\∀u:Int,(xs.map V.int).set j (.int u)=(xs.set j u).map V.int:=by
 have hl:(xs.map V.int).length=xs.length:=List.length_map _
 obtain⟨j,rfl⟩:=Int.eq_ofNat_of_zero_le h0
 have hj:j<xs.length:=by omega
 refine⟨xs[j],j,lH (by rw[List.getElem?_map,List.getElem?_eq_getElem hj];rfl), ?_,hj,fun u=> ?_⟩
 ·unfold ixN
  rw[if_pos h0,if_pos (by omega)]
  simp
 ·rw[List.map_set]
theorem But.upd {S:List Addr}{H H':Hp}{p:Addr} (b:But S H H') (o:HO) (h:H p=none):But S H (upd H' p o):=fun c u n q=>by
 rw[ao (aF q h)];exact b c u n q
theorem adI {c A B:Prop} [Decidable c] (hc:c) (h:A):if decide c=true then A else B:=by rw[if_pos (decide_eq_true hc)];exact h
theorem adJ {c A B:Prop} [Decidable c] (hc:¬c) (h:B):if decide c=true then A else B:=by rw[if_neg (by simpa using hc)];exact h
theorem adK {c A B:Prop} [Decidable c] (hc:¬c) (h:A):if(!decide c)=true then A else B:=by rw[if_pos (by simpa using hc)];exact h
theorem never {P:Program}{w:World}{K:PySem.W.Frag}{mg:Str->Option Value}{base:Heap}{k:Nat}{f:Addr}{fd:FuncData}{ps:List Str}{sp:Sp} (no:∀vs H Q E,¬sp vs H Q E):aY P w K mg base CX0 k f fd ps sp:=
 ⟨fun vs H Q E h=>absurd h (no vs H Q E),fun A outer s H args us vs Q E _ _ _ _ h=>absurd h (no vs H Q E)⟩
theorem shaped_ints (ns:List Int):SeqAt.shaped (.list (ns.map PyData.int))=true:=by
 simp[SeqAt.shaped,PyData.canLay0,PyData.canLayAll0,PyData.depth,PyData.depthAll,PySem.W.ke_canLayAll0,PySem.W.ke_depthAll]
theorem lE {H H':Hp}{p:Addr} (o:HO) (h:H p=none) (s:aN H H'):aN H (upd H' p o):=fun b u q=>by
 rw[ao (aF q h)];exact s b u q
inductive Th where
 | non | bl (b:Bool) | int (i:Int) | str (x:Str) | tup (xs:List Th) | oth (T:String)
mutual
inductive oW (K:PySem.W.Frag) (H:Hp):V->Th->Prop where
 | non:oW K H .non .non
 | bl (b:Bool):oW K H (.bl b) (.bl b)
 | int (i:Int):oW K H (.int i) (.int i)
 | str (x:Str):oW K H (.str x) (.str x)
 | tup {a:Addr}{vs:List V}{ts:List Th} (e:H a=some (.tup vs)) (h:mq K H vs ts):oW K H (.ref a) (.tup ts)
 | oth {a:Addr}{T:String} (h:qw K H (.ref a) (.type T)) (hT:T="list"\/T="dict") (keep:∀H',aN H H'->qw K H' (.ref a) (.type T)):oW K H (.ref a) (.oth T)
inductive mq (K:PySem.W.Frag) (H:Hp):List V->List Th->Prop where
 | nil:mq K H [] []
 | cons {v:V}{t:Th}{vs:List V}{ts:List Th} (h:oW K H v t) (r:mq K H vs ts):mq K H (v::vs) (t::ts)
end
mutual
theorem oW.same {K:PySem.W.Frag}{H H':Hp} (s:aN H H'):∀{v:V}{t:Th},oW K H v t->oW K H' v t
 | _,_, .non=> .non
 | _,_, .bl b=> .bl b
 | _,_, .int i=> .int i
 | _,_, .str x=> .str x
 | _,_, .tup e h=> .tup (s _ _ e) (mq.same s h)
 | _,_, .oth h hT k=> .oth (k _ s) hT fun H2 s2=>k _ (s.trans s2)
theorem mq.same {K:PySem.W.Frag}{H H':Hp} (s:aN H H'):∀{vs:List V}{ts:List Th},mq K H vs ts->mq K H' vs ts
 | _,_, .nil=> .nil
 | _,_, .cons h r=> .cons (oW.same s h) (mq.same s r)
end
theorem mq.length {K:PySem.W.Frag}{H:Hp}:∀{vs:List V}{ts:List Th},mq K H vs ts->vs.length=ts.length
 | _,_, .nil=>rfl
 | _,_, .cons _ r=>congrArg (· +1) (mq.length r)
theorem mq.get {K:PySem.W.Frag}{H:Hp}:∀{vs:List V}{ts:List Th}{i:Nat}{v:V},mq K H vs ts->vs[i]? =some v->∃t,ts[i]? =some t/\oW K H v t
 | _,_,_,_, .nil,e=>by simp at e
 | _,_,0,_, .cons h _,e=>by simp at e;subst e;exact⟨_,rfl,h⟩
 | _,_,i+1,v, .cons _ r,e=>by
   obtain⟨t,h1,h2⟩:=mq.get (i:=i) (v:=v) r (by simpa using e)
   exact⟨t,by simpa using h1,h2⟩
def JQ:Th->String
 | .non=>"NoneType" | .bl _=>"bool" | .int _=>"int" | .str _=>"str" | .tup _=>"tuple" | .oth T=>T
theorem oW.ty {K:PySem.W.Frag}{H:Hp}{v:V}{t:Th} (h:oW K H v t):qw K H v (.type (JQ t)):=by
 cases h with
 | non=>exact .non
 | bl b=>exact .bl b
 | int i=>exact .int i
 | str x=>exact .str x
 | tup e _=>exact .tup e
 | oth h _ _=>exact h
def tys:List String:=["NoneType","bool","int","str","tuple","list","dict"]
def RP (t c:String):Bool:=t==c||(t=="bool"&&c=="int")
def Kinds (K:PySem.W.Frag):Prop:=∀t∈tys,∀c∈tys,PySem.W.kitOne K (.type t) (.type c)=some (RP t c)
theorem RQ {K:PySem.W.Frag} (h:(tys.all fun t=>tys.all fun c=>PySem.W.kitOne K (.type t) (.type c)==some (RP t c))=true):Kinds K:=fun t ht c hc=>by
 have h1:=List.all_eq_true.mp h t ht
 have h2:=List.all_eq_true.mp h1 c hc
 exact eq_of_beq h2
theorem aaA {K:PySem.W.Frag}{H:Hp}{v:V}{t:Th} (h:oW K H v t):JQ t∈tys:=by
 cases h with
 | oth _ hT _=>rcases hT with rfl | rfl<;>simp[JQ,tys]
 | _=>simp[JQ,tys]
theorem oW.isi {K:PySem.W.Frag}{H:Hp}{v:V}{t:Th} (h:oW K H v t) (k:Kinds K) {c:String} (hc:c∈tys):PySem.W.kitOne K (.type (JQ t)) (.type c)=some (RP (JQ t) c):=k _ (aaA h) _ hc
def aaB:Th->Bool
 | .int _=>true
 | _=>false
def HF (K:PySem.W.Frag):Sp:=fun vs H Q _=>∃v t,vs=[v]/\oW K H v t/\Q (.bl (aaB t)) H
theorem adL {b:Bool}{A B:Prop} (h:b=true) (hA:A):if b=true then A else B:=by rw[if_pos h];exact hA
theorem adM {b:Bool}{A B:Prop} (h:b=false) (hB:B):if b=true then A else B:=by rw[if_neg (by rw[h];exact Bool.false_ne_true)];exact hB
structure Wr (p:Prop):Prop where
 h:p
def R.fK:R->Th
 | .num n=> .tup [.str "number", .int n]
 | .rd x=> .tup [.str "read", .str x]
 | .bin op a b=> .tup [.str op.word,a.fK,b.fK]
 | .pick a b c=> .tup [.str "pick",a.fK,b.fK,c.fK]
 | .cho a ns=> .tup [.str "choose",a.fK, .tup (ns.map Th.str)]
def R.Dy:R->Prop
 | .num _=>True
 | .rd x=>x.length<=8/\∀c∈x.cps.toList,c<128
 | .bin _ a b=>a.Dy/\b.Dy
 | .pick a b c=>a.Dy/\b.Dy/\c.Dy
 | .cho a ns=>a.Dy/\1<=ns.length/\ns.length<=9/\∀x∈ns,m8 x
theorem Dz {K:PySem.W.Frag}{H:Hp}:∀ns:List Str,mq K H (ns.map V.str) (ns.map Th.str)
 |[]=> .nil
 | x::r=> .cons (.str x) (Dz r)
theorem IsR.adN {K:PySem.W.Frag}{H:Hp}{a:Addr}{r:R} (h:IsR H a r):oW K H (.ref a) r.fK:=by
 induction h with
 | num e=>exact .tup e (.cons (.str _) (.cons (.int _) .nil))
 | rd e=>exact .tup e (.cons (.str _) (.cons (.str _) .nil))
 | bin e _ _ i1 i2=>exact .tup e (.cons (.str _) (.cons i1 (.cons i2 .nil)))
 | pick e _ _ _ i1 i2 i3=>exact .tup e (.cons (.str _) (.cons i1 (.cons i2 (.cons i3 .nil))))
 | cho e _ h2 i1=>exact .tup e (.cons (.str _) (.cons i1 (.cons (.tup h2 (Dz _)) .nil)))
theorem DG:∀l:List Str,PyData.depthAll (l.map PyData.str)<=1
 |[]=>by simp[PyData.depthAll]
 | c::r=>by
   have:=DG r
   simp[PyData.depthAll,PyData.depth]
   omega
end RB
namespace L2
open PySem PySem.Spec PyProof.Rows
theorem Fun.okQ {P:Program}{w:World}{K:PySem.W.Frag}{mg:Str->Option Value}{base:Heap}{x qual:Str}{st:Stmt}{f:Addr}{fd:FuncData}{N ps:List Str}{k:Nat}{sp:Sp} (F:Fun K x qual st f fd) (S:bL N ps (aa st)) (len:∀vs H Q E,sp vs H Q E->vs.length=ps.length)
 (hbody:∀(cdv:Value) (A:Around) (outer:List Env) (s:Shared) (H:Hp) (vs:List V) (Q:VK) (E:XK),iQ k (A.deeper (envOfC qual (aa st) s.heap.objs.size f cdv))->sp vs H Q E->
   ∃t,QSs (jB CX0 P w K mg base N qual (aa st) f cdv A outer s H E).nox (bh st) t/\t {nx:=fun _ H'=>Q .non H',rt:=Q} (start N vs) H):aY P w K mg base CX0 (k+1) f fd ps sp:=
 F.ok S len fun cdv A outer s H vs Q E hr hsp=>let ⟨t,a,b⟩:=hbody cdv A outer s H vs Q E hr hsp;⟨t,a.h,b⟩
end L2
namespace RB
open PySem L2 PySem.Spec PyProof.Rows
theorem aaC (value:Const) (k:Nat) (p:Pos) (es:List Expr) (env:Env):starEach (.Constant value k p::es) env=(false,eval (.Constant value k p) env)::starEach es env:=rfl
theorem fM {X:Cx}{value:Const}{k:Nat}{p:Pos}{es:List Expr}{te:TE}{t:TA} (ha:QE X (.Constant value k p) te) (hr:QA X es t):QA X (.Constant value k p::es) (qX te t):=lJ ha hr (aaC value k p _ _)
theorem aaD (x:Str) (p:Pos) (es:List Expr) (env:Env):starEach (.Name x p::es) env=(false,eval (.Name x p) env)::starEach es env:=rfl
theorem aP {X:Cx}{x:Str}{p:Pos}{es:List Expr}{te:TE}{t:TA} (ha:QE X (.Name x p) te) (hr:QA X es t):QA X (.Name x p::es) (qX te t):=lJ ha hr (aaD x p _ _)
theorem aaE (a:Expr) (op:Operator) (b:Expr) (p:Pos) (es:List Expr) (env:Env):starEach (.BinOp a op b p::es) env=(false,eval (.BinOp a op b p) env)::starEach es env:=rfl
theorem vB {X:Cx}{a:Expr}{op:Operator}{b:Expr}{p:Pos}{es:List Expr}{te:TE}{t:TA} (ha:QE X (.BinOp a op b p) te) (hr:QA X es t):QA X (.BinOp a op b p::es) (qX te t):=lJ ha hr (aaE a op b p _ _)
theorem aaF (xs:List Expr) (k:Nat) (p:Pos) (es:List Expr) (env:Env):starEach (.Tuple xs k p::es) env=(false,eval (.Tuple xs k p) env)::starEach es env:=rfl
theorem Mg {X:Cx}{xs:List Expr}{k:Nat}{p:Pos}{es:List Expr}{te:TE}{t:TA} (ha:QE X (.Tuple xs k p) te) (hr:QA X es t):QA X (.Tuple xs k p::es) (qX te t):=lJ ha hr (aaF xs k p _ _)
theorem aaG (xs:List Expr) (p:Pos) (es:List Expr) (env:Env):starEach (.List xs p::es) env=(false,eval (.List xs p) env)::starEach es env:=rfl
theorem Mh {X:Cx}{xs:List Expr}{p:Pos}{es:List Expr}{te:TE}{t:TA} (ha:QE X (.List xs p) te) (hr:QA X es t):QA X (.List xs p::es) (qX te t):=lJ ha hr (aaG xs p _ _)
theorem aaH (ks:List (Option Expr)) (xs:List Expr) (p:Pos) (es:List Expr) (env:Env):starEach (.Dict ks xs p::es) env=(false,eval (.Dict ks xs p) env)::starEach es env:=rfl
theorem Qa {X:Cx}{ks:List (Option Expr)}{xs:List Expr}{p:Pos}{es:List Expr}{te:TE}{t:TA} (ha:QE X (.Dict ks xs p) te) (hr:QA X es t):QA X (.Dict ks xs p::es) (qX te t):=lJ ha hr (aaH ks xs p _ _)
theorem aaI (a b:Expr) (p:Pos) (es:List Expr) (env:Env):starEach (.Subscript a b p::es) env=(false,eval (.Subscript a b p) env)::starEach es env:=rfl
theorem lZ {X:Cx}{a b:Expr}{p:Pos}{es:List Expr}{te:TE}{t:TA} (ha:QE X (.Subscript a b p) te) (hr:QA X es t):QA X (.Subscript a b p::es) (qX te t):=lJ ha hr (aaI a b p _ _)
theorem aaJ (f:Expr) (xs:List Expr) (ks:List Keyword) (p:Pos) (es:List Expr) (env:Env):starEach (.Call f xs ks p::es) env=(false,eval (.Call f xs ks p) env)::starEach es env:=rfl
theorem uP {X:Cx}{f:Expr}{xs:List Expr}{ks:List Keyword}{p:Pos}{es:List Expr}{te:TE}{t:TA} (ha:QE X (.Call f xs ks p) te) (hr:QA X es t):QA X (.Call f xs ks p::es) (qX te t):=lJ ha hr (aaJ f xs ks p _ _)
theorem aaK (a b c:Expr) (p:Pos) (es:List Expr) (env:Env):starEach (.IfExp a b c p::es) env=(false,eval (.IfExp a b c p) env)::starEach es env:=rfl
theorem ag1 {X:Cx}{a b c:Expr}{p:Pos}{es:List Expr}{te:TE}{t:TA} (ha:QE X (.IfExp a b c p) te) (hr:QA X es t):QA X (.IfExp a b c p::es) (qX te t):=lJ ha hr (aaK a b c p _ _)
theorem aaL (e:Expr) (gs:List Comprehension) (sc:Scope) (p:Pos) (es:List Expr) (env:Env):starEach (.ListComp e gs sc p::es) env=(false,eval (.ListComp e gs sc p) env)::starEach es env:=rfl
theorem adO {X:Cx}{e:Expr}{gs:List Comprehension}{sc:Scope}{p:Pos}{es:List Expr}{te:TE}{t:TA} (ha:QE X (.ListComp e gs sc p) te) (hr:QA X es t):QA X (.ListComp e gs sc p::es) (qX te t):=lJ ha hr (aaL e gs sc p _ _)
theorem aaM (e:Expr) (x:Str) (p:Pos) (es:List Expr) (env:Env):starEach (.Attribute e x p::es) env=(false,eval (.Attribute e x p) env)::starEach es env:=rfl
theorem Mi {X:Cx}{e:Expr}{x:Str}{p:Pos}{es:List Expr}{te:TE}{t:TA} (ha:QE X (.Attribute e x p) te) (hr:QA X es t):QA X (.Attribute e x p::es) (qX te t):=lJ ha hr (aaM e x p _ _)
end RB
namespace L2
open PySem PySem.Spec PyProof.Rows
section
variable {X:Cx}{pins:List (Addr×Obj)}{σ:L2.St}{H:Hp}{s:Shared}
end
section
variable {X:Cx}{o e value:Expr}{es:List Expr}{f m:Str}{pos pos' apos:Pos}{ta tv:TE}{t:TA}{C fa:Addr}{CX:CXT}{k:Nat}{fd:FuncData}{ps:List Str}{sp:Sp}{dvs:List V}{ds:List Value}{E:XK}
theorem bu (he:QE X e ta) (hb:attributeBase e f X.env (eval e X.env)=eval e X.env:=by rfl):QE X (.Attribute e f pos) (ZW X.K ta f):=⟨ZX he.h hb⟩
theorem jZ (ha:QE X o ta) (hv:QE X value tv) (hs:swapsWith value (some (.Attribute o f pos')) pos.line X.env=pure false:=by rfl):QS X (.Assign [.Attribute o f pos'] value pos) (adn X.K ta tv f):=⟨ZZ ha.h hv.h hs⟩
theorem oX {pl:Sem Bool} (he:QE X o ta) (c:Cls X.K C) (hm:Meth X.K C m fa) (F:aY X.prog X.w X.K X.mg X.base CX k fa fd ps sp) (hr:iQ k X.A) (hb:Binds X.K fd ps ds) (hd:Vals dvs ds) (hx:Passes CX X E) (ha:QA X (e::es) t)
 (hst:starEach (e::es) X.env=(false,eval e X.env)::starEach es X.env:=by rfl) (hpl:(backTo pos (starEach es X.env)).any (·.1)=false:=by rfl)
 (ht:eval (.Call (.Attribute o m apos) (e::es) [] pos) X.env=(do
   let ov <-eval o X.env
   standAt apos.atName
   let (f,first) <-holding [ov] (getMethod ov m pl)
   callWith pos f first (backTo pos (starEach (e::es) X.env)) (backToKw pos (keywordEach [] X.env))):=by rfl):
 QE X (.Call (.Attribute o m apos) (e::es) [] pos) (Nq C m sp dvs E ta t):=⟨Vk he.h c hm F hr hb hd hx ha.h hst hpl ht⟩
theorem DK {pl:Sem Bool} (he:QE X o ta) (c:Cls X.K C) (hm:Meth X.K C m fa) (F:aY X.prog X.w X.K X.mg X.base CX k fa fd ps sp) (hr:iQ k X.A) (hb:Binds X.K fd ps ds) (hd:Vals dvs ds) (hx:Passes CX X E)
 (ht:eval (.Call (.Attribute o m apos) [] [] pos) X.env=(do
   let ov <-eval o X.env
   standAt apos.atName
   let (f,first) <-holding [ov] (getMethod ov m pl)
   callWith pos f first (backTo pos (starEach [] X.env)) (backToKw pos (keywordEach [] X.env))):=by rfl):
 QE X (.Call (.Attribute o m apos) [] [] pos) (Nq C m sp dvs E ta Pn):=⟨Rf he.h c hm F hr hb hd hx ht⟩
theorem zy {x:Str}{p:Pos} (M:Mk X.K C fa) (F:aY X.prog X.w X.K X.mg X.base CX k fa fd ps sp) (hr:iQ (k+1) X.A) (hg:Gl X x) (hm:X.mg x=some (.ref C)) (hb:Binds X.K fd ps ds) (hd:Vals dvs ds) (hx:Passes CX X E)
 (ha:QA X (e::es) t) (hdb:(x==("__debug__":Str))=false:=by decide) (he:starEach (e::es) X.env=(false,eval e X.env)::starEach es X.env:=by rfl) (hpl:(backTo pos (starEach es X.env)).any (·.1)=false:=by rfl):
 QE X (.Call (.Name x p) (e::es) [] pos) (X6 C sp dvs E t):=⟨Vl M F hr hg hm hb hd hx ha.h hdb he hpl⟩
end
theorem dJ.some {P:Program}{w:World}{H:Hp}{h:Heap}{a:Addr}{o:HO} (x:dJ P w H h a o):∃u,h.get? a=Option.some u:=by
 cases o with
 | lst xs=>obtain⟨_,_,_,_,e⟩:=x;exact⟨_,e⟩
 | tup xs=>obtain⟨_,_,_,_,e,_⟩:=x;exact⟨_,e⟩
 | dK kvs=>obtain⟨_,_,_,_,o,_,_,e,_⟩:=x;exact⟨_,e⟩
 | dT kvs=>obtain⟨_,_,_,_,o,_,_,e,_⟩:=x;exact⟨_,e⟩
 | set S n=>obtain⟨o,_,_,_,e,_⟩:=x;exact⟨_,e⟩
 | ins C dx fs=>obtain⟨_,_,_,e,_⟩:=x;exact⟨_,e⟩
 | own y=>exact x
 | xd fs=>obtain⟨_,⟨_,_,_,e,_⟩,_⟩:=x;exact⟨_,e⟩
 | rng lo hi=>obtain⟨_,_,_,e⟩:=x;exact⟨_,e⟩
 | frz ob u=>obtain⟨e,_⟩:=x;exact⟨_,e⟩
 | tbl ps=>exact⟨_,show h.get? a=Option.some _ from x⟩
 | met f y=>exact⟨_,show h.get? a=Option.some _ from x⟩
 | ext φ=>obtain⟨_,e,_⟩:=x;exact e
def Holds (F:List Addr) (H':Hp) (h h1 B:Heap):Prop:=∀b o,h1.get? b=some o->b∉F->((∃o0,h.get? b=some o0)\/(H' b).isSome=true)->B.get? b=some o
theorem adP {F:List Addr}{H H':Hp}{h h1 h2 B:Heap} (u:Un F [] H H' h h1) (hF:∀b∈F,∃o,h.get? b=some o/\H b=none/\∀vs,o.data≠ .fields vs) (st:B.StaysIn h2) (up:h1.UpToSlots h2) (kc:Holds F H' h h1 B):Un F [] H H' h h2 where
 keep:=fun b o q n hb hx=>st b o (kc b o (u.keep b o q n hb hx) hb (.inl ⟨o,q⟩))
 slot:=fun b o q n hb hx=>by
  obtain⟨sl,e⟩:=u.slot b o q n hb hx
  obtain⟨o',q',_,d⟩:=hF b hb
  rw[q] at q';cases q'
  obtain⟨sl2,e2⟩:=up b _ e d
  exact⟨sl2,e2⟩
 free:=u.free
 there:=fun b o q hx=>by
  by_cases hb:b∈F
  ·obtain⟨o',q',n,d⟩:=hF b hb
   rw[q] at q';cases q'
   obtain⟨sl,e⟩:=u.slot b o q n hb hx
   obtain⟨sl2,e2⟩:=up b _ e d
   exact⟨_,e2⟩
  ·obtain⟨o',e⟩:=u.there b o q hx
   exact⟨o',st b o' (kc b o' e hb (.inl ⟨o,q⟩))⟩
 tups:=u.tups
 frzs:=u.frzs
 tbls:=u.tbls
theorem aaN {P:Program}{w:World}{F:List Addr}{H':Hp}{h h1 h2 B:Heap} (ok:HOk P w H' h1) (hF:∀b∈F,H' b=none) (st:B.StaysIn h2) (kc:Holds F H' h h1 B):HOk P w H' h2:=fun b o q=>
 (ok b o q).stay (fun c v hc r=>by
   have hs:(H' c).isSome=true:=by
    rcases hc with rfl | hc
    ·rw[q];rfl
    ·rw[hc];rfl
   exact st c v (kc c v r (fun hm=>by rw[hF c hm] at hs;cases hs) (.inr hs))) (fun _ z=>z) fun _ _ z=>z
section
variable {X:Cx}{pins:List (Addr×Obj)}{σ:St}{H H':Hp}{s s':Shared}{a:Addr}{cls:Value}
theorem Inv.frm (I:Inv X pins σ H s):∀b∈frs X.stack,∃o,s.heap.get? b=some o/\H b=none/\∀vs,o.data≠ .fields vs:=fun b hb=>by
 obtain⟨_,o,ho,hd⟩:=I.stack.mem hb
 exact⟨o,ho,I.Hj b hb,hd⟩
theorem Inv.landed (I:Inv X pins σ H s) (os:s'.os=s.os) (bare:AllBare s'.gens) (un:Un (frs X.stack) [] H H' s.heap s'.heap) (hok:HOk X.prog X.w H' s'.heap) {B h2:Heap} (kc:Holds (frs X.stack) H' s.heap s'.heap B) (st:B.StaysIn h2) (up:s'.heap.UpToSlots h2):
 Inv X pins σ H' {s' with heap:=h2}:=by
 have hF:=I.frm
 refine I.call' (ch:=[]) (s':={s' with heap:=h2}) os (adP un hF st up kc) (aaN hok (fun b hb=> ?_) st kc) bare fun b z=>absurd z (by simp)
 obtain⟨o,q,n,_⟩:=hF b hb
 exact un.free b o q n (by simp)
theorem JR {F:List Addr}{B h1 h2:Heap}{h:Heap} (u:Un F [] H H' h h1) (hok:HOk X.prog X.w H' h1) (st:B.StaysIn h2) (kc:Holds F H' h h1 B):Holds F H' h h2 B:=fun b o q nb hb=>by
 obtain⟨o1,q1⟩:∃o1,h1.get? b=some o1:=by
  rcases hb with⟨o0,z⟩ | z
  ·exact u.there b o0 z (by simp)
  ·obtain⟨v,hv⟩:=Option.isSome_iff_exists.mp z
   exact(hok b v hv).some
 have e1:=kc b o1 q1 nb hb
 have e2:=st b o1 e1
 rw[q] at e2;cases e2
 exact e1
end
section
variable {P:Program}{w:World}{K:PySem.W.Frag}{mg:Str->Option Value}{base:Heap}{N:List Str}{qual:Str}{scope:Scope}{f:Addr}{cd:Value}{A:Around}{outer:List Env}{s₀:Shared}{H₀:Hp}{E:XK}
theorem GD {X:Cx}{pins:List (Addr×Obj)}{σ:St}{H H':Hp}{s:Shared}{h2 B:Heap} (hX:X.ex=[]) (hst:X.stack=X.env::X.outer) (hf:X.env.frame=some X.env.locals) (I:Inv X pins σ H s) (kc:Holds (frs X.stack) H' s.heap h2 B) (fr:H' X.env.locals=none):Holds (frs X.outer) H' X.s₀.heap h2 B:=fun b o q nb hb=>by
 have nL:b≠X.env.locals:=by
  rcases hb with⟨o0,z⟩ | z
  ·exact Nat.ne_of_lt (Nat.lt_of_lt_of_le (Heap.lt_size z) I.ok.above)
  ·intro e;rw[e,fr] at z;cases z
 refine kc b o q ?_ ?_
 ·intro hm
  rw[hst] at hm
  unfold frs at hm
  rw[List.filterMap_cons,hf] at hm
  rcases List.mem_cons.mp hm with e | e
  ·exact nL e
  ·exact nb e
 ·rcases hb with⟨o0,z⟩ | z
  ·exact .inl (I.base.there b o0 z (by rw[hX];simp))
  ·exact .inr z
end
section
variable {X:Cx}{pins:List (Addr×Obj)}{σ:St}{H H':Hp}{s s':Shared}{a:Addr}{cls:Value}
abbrev Cx.tryd (X:Cx) (pn:List (Addr×Obj)) (E:Value->Shared->Prop):Cx:={X with pn:=X.pn++pn,xe:=E}
abbrev Cx.held (X:Cx) (e:Value):Cx:={X with A:=X.A.mark (some e),calm:=false,xe:=fun _ _=>False}
theorem Cx.Ok.tryd (ok:X.Ok) (pn:List (Addr×Obj)) (E:Value->Shared->Prop):(X.tryd pn E).Ok:=
 ⟨ok.mod,ok.kind,ok.glob,ok.blt,ok.above,ok.inj,ok.has,ok.cab,ok.hd,ok.frames,ok.stk,ok.exf,ok.bs,ok.bsz,ok.noex,ok.exfs,ok.funs,ok.frf⟩
theorem Cx.Ok.untryd {pn:List (Addr×Obj)}{E:Value->Shared->Prop} (ok:(X.tryd pn E).Ok):X.Ok:=
 ⟨ok.mod,ok.kind,ok.glob,ok.blt,ok.above,ok.inj,ok.has,ok.cab,ok.hd,ok.frames,ok.stk,ok.exf,ok.bs,ok.bsz,ok.noex,ok.exfs,ok.funs,ok.frf⟩
theorem Cx.Ok.held (ok:X.Ok) (e:Value):(X.held e).Ok:=
 ⟨ok.mod,ok.kind,ok.glob,ok.blt,ok.above,ok.inj,ok.has,ok.cab,fun z=>Bool.noConfusion (show false=true from z),ok.frames,ok.stk,ok.exf,ok.bs,ok.bsz,ok.noex,ok.exfs,ok.funs,ok.frf⟩
theorem Inv.tryd (I:Inv X pins σ H s) (E:Value->Shared->Prop):Inv (X.tryd pins E) [] σ H s:=
 ⟨I.ok.tryd pins E,I.os,I.bare,I.base,I.loc,I.cell,I.free,I.pF,fun p hp=>I.pin p (by simpa using hp),I.hok,I.len⟩
theorem Inv.untryd {pn:List (Addr×Obj)}{E:Value->Shared->Prop} (I:Inv (X.tryd pn E) pins σ H s):Inv X pn σ H s:=
 ⟨I.ok.untryd,I.os,I.bare,I.base,I.loc,I.cell,I.free,I.pF,fun p hp=>I.pin p (List.mem_append_left _ hp),I.hok,I.len⟩
theorem Inv.held (I:Inv X pins σ H s) (e:Value):Inv (X.held e) pins σ H s:=⟨I.ok.held e,I.os,I.bare,I.base,I.loc,I.cell,I.free,I.pF,I.pin,I.hok,I.len⟩
theorem Inv.unheld {e:Value} (ok:X.Ok) (I:Inv (X.held e) pins σ H s):Inv X pins σ H s:=⟨ok,I.os,I.bare,I.base,I.loc,I.cell,I.free,I.pF,I.pin,I.hok,I.len⟩
theorem Inv.track {o:HO} (I:Inv X pins σ H s) (hn:H a=none) (h0:X.s₀.heap.get? a=none) (hL:a≠X.env.locals) (hC:∀x c,X.env.cells.lookup x=some c->c≠a) (hp:∀p∈X.pn++pins,p.1≠a)
 (new:dJ X.prog X.w (upd H a o) s.heap a o):Inv X pins σ (upd H a o) s:=by
 refine⟨I.ok,I.os,I.bare,⟨fun b u q n hb hx=>I.base.keep b u q n hb hx,fun b u q n hb hx=>I.base.slot b u q n hb hx,fun b u q n hx=> ?_,I.base.there,fun b xs q=> ?_,fun b u v q=> ?_,fun b ps q=> ?_⟩,I.loc,I.cell, ?_,fun x c e=> ?_,fun p q=> ?_,fun b u q=> ?_,I.len⟩
 ·rw[ao (fun z=>by rw[z,h0] at q;cases q)];exact I.base.free b u q n hx
 ·have e:=I.base.tups b xs q
  rw[ao (aF e hn)];exact e
 ·have e:=I.base.frzs b u v q
  rw[ao (aF e hn)];exact e
 ·obtain⟨m,e⟩:=I.base.tbls b ps q
  exact⟨m,by rw[ao (aF e hn)];exact e⟩
 ·rw[ao (Ne.symm hL)];exact I.free
 ·rw[ao (hC x c e)];exact I.pF x c e
 ·obtain⟨e,n,r⟩:=I.pin p q
  exact⟨e,by rw[ao (hp p q)];exact n,r⟩
 ·by_cases hb:b=a
  ·subst hb;rw[ak] at q;cases q;exact new
  ·rw[ao hb] at q
   exact(I.hok b u q).stay (fun c v _ r=>r) (fun c r=>by rw[ao (aF r hn)];exact r) fun c xs r=>by rw[ao (aF r hn)];exact r
def JS (CX:CXT) (X:Cx) (E:St->XK):Prop:=∀(pins:List (Addr×Obj)) (σ:St) (H:Hp) (s:Shared) (e:Value) (s':Shared),Inv X pins σ H s->CX X.stack H s (E σ) e s'->X.xe e s'
end
section
variable {X:Cx}{x n:Str}{i:Nat}{C:Addr}{np hpos pos:Pos}{body suite:List Stmt}{b₀:Stmt}{tb:(St->XK)->TS}{th:TS}
end
end L2
namespace L2
open PySem PySem.Spec PyProof.Rows PySem.W
section
variable {prog:Program}{w:World}{A:Around}{E:Value->Shared->Prop}{h:Heap}{g:Array GenState}{d:Drawn}{t:Nat}{os:OsState}{K:PySem.W.Frag}{a C:Addr}{o:Obj}
end
end L2
namespace L2
open PySem PySem.Spec PyProof.Rows
section
variable {X:Cx}{pins:List (Addr×Obj)}{σ:St}{H H':Hp}{s s':Shared}
def tFr (ta:TE):TE:=fun σ H Q=>ta σ H fun x H1=>∃y,x= .str y/\y.length<=1000/\(∀c∈y.cps.toList,c<16 ^ 8)/\∀z:Str,z.length<=100000->Q (.str z) H1
end
section
variable {P:Program}{w:World}{K:PySem.W.Frag}{mg:Str->Option Value}{base:Heap}{N:List Str}{qual:Str}{scope:Scope}{f:Addr}{cd:Value}{A:Around}{outer:List Env}{s₀:Shared}{H₀:Hp}{E:XK}
end
section
variable {X:Cx}{CX:CXT}{k:Nat}{f:Addr}{fd:FuncData}{ps:List Str}{sp:Sp}{dvs:List V}{ds:List Value}{E:St->XK}{x:Str}{p pos:Pos}{e:Expr}{es:List Expr}{t:TA}
def aaO (sp:Sp) (dvs:List V) (E:St->XK) (t:TA):TE:=fun σ H Q=>t σ H fun vs H1=>sp (vs++dvs) H1 Q (E σ)
theorem VL {pins:List (Addr×Obj)}{σ:St}{H:Hp}{s:Shared}{Q:VK}{us:List Value}{vs:List V} (F:aY X.prog X.w X.K X.mg X.base CX k f fd ps sp) (hr:iQ k X.A) (hb:Binds X.K fd ps ds) (hd:Vals dvs ds) (hx:JS CX X E)
 (I:Inv X pins σ H s) (r:Vals vs us) (h:sp (vs++dvs) H Q (E σ)):wpAny (model X.prog X.w) X.A (call (.ref f) us) (EP X pins σ Q) X.xe s:=by
 have r2:Vals (vs++dvs) (us++ds):=r.append hd
 have hl:(us++ds).length=ps.length:=by rw[<-r2.length];exact F.len _ _ _ _ h
 refine wpAny_call (codeAny_mono (F.run X.A X.stack s H ⟨us,[]⟩ (us++ds) (vs++dvs) Q (E σ) hr I.env0 (hb s us I.kIn hl) r2 h) fun r s' hq=> ?_)
 cases r with
 | error e=>exact hx pins σ H s e s' I hq
 | ok fl=>
   cases fl with
   | ret u=>exact I.after hq
   | next=>exact False.elim hq
   | brk=>exact False.elim hq
   | cont=>exact False.elim hq
theorem vC (F:aY X.prog X.w X.K X.mg X.base CX k f fd ps sp) (hr:iQ k X.A) (hg:Gl X x) (hm:X.mg x=some (.ref f)) (hk:PySem.W.keepIn X.K (.ref f)=true) (hb:Binds X.K fd ps ds) (hd:Vals dvs ds) (hx:JS CX X E)
 (ha:QA X (e::es) t) (hdb:(x==("__debug__":Str))=false) (he:starEach (e::es) X.env=(false,eval e X.env)::starEach es X.env:=by rfl) (hpl:(backTo pos (starEach es X.env)).any (·.1)=false:=by rfl):
 QE X (.Call (.Name x p) (e::es) [] pos) (aaO sp dvs E t):=⟨by
 intro pins s σ H Q I h
 refine wpAny_Call_Name_kw (tE I hg hm ?_ hdb)
 refine PySem.W.callWith_K (h₀:=X.base) I.ok.mod.kin hk (thn (ha.h pos pins s σ H _ I h) fun us s1 ⟨vs,H1,I1,r,q⟩=>⟨I1.kIn, ?_⟩) he hpl
 exact VL F hr hb hd hx I1 r q⟩
end
end L2
namespace RB
open PySem L2 PySem.Spec PyProof.Rows
end RB
namespace L2
open PySem PySem.Spec PyProof.Rows
section
variable {X:Cx}{x:Str}{C:Addr}{np hpos pos:Pos}{body suite:List Stmt}{b₀:Stmt}{tb:(St->XK)->TS}{th:TS}
end
section
variable {X:Cx}{pins:List (Addr×Obj)}{σ:List (Option V)}{H:Hp}{s:Shared}{h':Heap}
theorem Inv.Dc {t':Nat}{ch:List Addr} (I:Inv X pins σ H s) (hf:∀b∈ch,Aw X pins H b) (k:∀b o,b∉ch->s.heap.get? b=some o->h'.get? b=some o):Inv X pins σ H {s with heap:=h',toks:=t'}:=by
 have nit:∀b u,H b=some u->b∉ch:=fun b u e z=>by rw[(hf b z).1] at e;cases e
 refine I.step (g':=s.gens) (d':=s.drawn) (ch:=ch) (fun b hb=> ?_) (fun b o _ _ hc e _=>k b o hc e) (fun b o _ _ hc e _=>⟨o.slots,k b o hc e⟩) (fun _ _ _ _ n=>n)
  (fun b o hc e=>⟨o,k b o hc e⟩) (fun _ _ e=>e) (fun _ _ _ e=>e) (fun b ps e=>⟨#[],by rw[e];simp⟩) (fun m hm=> ?_) (fun b u e=> ?_) I.bare
 ·obtain⟨_,f1,_,f3,f4,f5⟩:=hf b hb
  exact⟨f3,f1,f4,f5⟩
 ·obtain⟨o,es,ep,ho,r⟩:=hm
  exact⟨o,es,ep,k _ o (fun z=>(hf _ z).2.1 rfl) ho,r⟩
 ·refine(I.hok b u e).stay (fun c v hc q=>k c v ?_ q) (fun _ q=>q) fun _ _ q=>q
  rcases hc with z | z
  ·rw[z];exact nit b u e
  ·exact nit c _ z
end
end L2
namespace RB
open PySem L2 PySem.Spec PyProof.Rows
section
variable {prog:Program}{w:World}{A:Around}{R:Result->Shared->Prop}{I:Addr}{fp wr:List Addr}{G:Array GenState->Array GenState->Prop}{n:Nat}{P:Nat->Value->Prop}{St:Nat->Shared->Prop}
end
section
variable {prog:Program}{w:World}{A:Around}{E:Value->Shared->Prop}{s:Shared}
end
end RB
namespace L2
open PySem PySem.Spec PyProof.Rows RB
section
variable {X:Cx}
end
end L2
namespace RB
open PySem L2 PySem.Spec PyProof.Rows
structure fX (K:PySem.W.Frag) (C:Addr) (x qual:Str) (st:Stmt) (ps:List Str) (f:Addr) (fd:FuncData):Prop where
 F:Fun K x qual st f fd
 b:Binds K fd ps []
 m:Meth K C x f
def RT (K:PySem.W.Frag):R2:=fun x y H Q=>∃a b xs,x= .ref a/\y= .ref b/\SqL K H a xs/\SqL K H b []/\Q (.bl xs.isEmpty) H
theorem RV {X:Cx} (hu:X.A.units+64<cLine):OpR X (compareOp .Eq) (RT X.K):=by
 intro pins s σ H x y v u Q I rx ry h
 obtain⟨a,b,xs,rfl,rfl,ha,hb,q⟩:=h
 cases xs with
 | nil=>exact aao hu pins s σ H _ _ v u Q I rx ry ⟨.list [], .list [], .lst ha .nil, .lst hb .nil,shaped_ints [],shaped_ints [],q⟩
 | cons x r=>
   cases rx
   cases ry
   obtain⟨its,rv,pl,_⟩:=I.list ha
   obtain⟨its',rv',pl',_⟩:=I.list hb
   cases rv
   cases rv'
   exact PySem.SeqAt.eq_list_lengthsAt pl.isList pl'.isList rfl (by omega) ⟨.bl false,H,I,rfl,q⟩
theorem Qc {X:Cx} (hu:X.A.units+64<cLine):QOp X (compareOp .Eq) (RT X.K):=⟨RV hu⟩
theorem iU {X:Cx}{pos:Pos}:QE X (.Dict [] [] pos) Rp:=⟨Rq⟩
theorem mH:∀{r:R},r.Good->r.Dy
 | .num _,_=>trivial
 | .rd x,h=>⟨h.2.1,fun c hc=>by have:=h.2.2 c hc;unfold GC at this;omega⟩
 | .bin _ a b,h=>⟨mH h.1,mH h.2⟩
 | .pick a b c,h=>⟨mH h.1,mH h.2.1,mH h.2.2⟩
 | .cho a ns,h=>⟨mH h.1,h.2⟩
def R.dat:R->PyData
 | .num n=> .tuple [.str "number", .int n]
 | .rd x=> .tuple [.str "read", .str x]
 | .bin op a b=> .tuple [.str op.word,a.dat,b.dat]
 | .pick a b c=> .tuple [.str "pick",a.dat,b.dat,c.dat]
 | .cho a ns=> .tuple [.str "choose",a.dat, .tuple (ns.map PyData.str)]
theorem IsR.dat {K:PySem.W.Frag}{H:Hp}{a:Addr}{r:R} (h:IsR H a r):oU K H (.ref a) r.dat:=by
 induction h with
 | num e=>exact .tup (SqT.of e) (.cons (.str _) (.cons (.int _) .nil))
 | rd e=>exact .tup (SqT.of e) (.cons (.str _) (.cons (.str _) .nil))
 | bin e _ _ i1 i2=>exact .tup (SqT.of e) (.cons (.str _) (.cons i1 (.cons i2 .nil)))
 | pick e _ _ _ i1 i2 i3=>exact .tup (SqT.of e) (.cons (.str _) (.cons i1 (.cons i2 (.cons i3 .nil))))
 | cho e _ h2 i1=>exact .tup (SqT.of e) (.cons (.str _) (.cons i1 (.cons (.tup (SqT.of h2) (mG _)) .nil)))
theorem Qd {x:Str} (h:∀c∈x.cps.toList,c<128):PyData.strOk x=true:=by
 show x.cps.all (· <0x110000)=true
 rw[<-Array.all_toList,List.all_eq_true]
 intro c hc
 exact decide_eq_true (by have:=h c hc;omega)
theorem tQ {x:Str} (h:m8 x):PyData.strOk x=true:=Qd fun c hc=>by have:=h.2.2 c hc;unfold GC at this;omega
theorem Mj (op:Op):PyData.strOk op.word=true:=by cases op<;>decide +kernel
theorem GF:∀ns:List Str,(∀x∈ns,m8 x)->PyData.canLayAll0 (ns.map PyData.str)=true
 |[],_=>rfl
 | x::r,h=>by
   show(PyData.canLay0 (.str x)&&PyData.canLayAll0 (r.map PyData.str))=true
   rw[GF r fun y hy=>h y (List.mem_cons_of_mem _ hy)]
   show(PyData.strOk x&&true)=true
   rw[tQ (h x List.mem_cons_self)];rfl
theorem R.lay:∀r:R,r.Good->r.dat.canLay0=true
 | .num n,_=>by show(PyData.strOk "number"&&(true&&true))=true;decide +kernel
 | .rd x,h=>by
   show(PyData.strOk "read"&&(PyData.strOk x&&true))=true
   rw[tQ h];decide +kernel
 | .bin op a b,h=>by
   show(PyData.strOk op.word&&(a.dat.canLay0&&(b.dat.canLay0&&true)))=true
   rw[Mj,R.lay a h.1,R.lay b h.2];rfl
 | .pick a b c,h=>by
   show(PyData.strOk "pick"&&(a.dat.canLay0&&(b.dat.canLay0&&(c.dat.canLay0&&true))))=true
   rw[R.lay a h.1,R.lay b h.2.1,R.lay c h.2.2];decide +kernel
 | .cho a ns,h=>by
   show(PyData.strOk "choose"&&(a.dat.canLay0&&(PyData.canLayAll0 (ns.map PyData.str)&&true)))=true
   rw[R.lay a h.1,GF ns h.2.2.2];decide +kernel
theorem R.mJ:∀r:R,r.dat.depth<=r.depth+2
 | .num n=>by simp[R.dat,R.depth,PyData.depth,PyData.depthAll]
 | .rd x=>by simp[R.dat,R.depth,PyData.depth,PyData.depthAll]
 | .bin op a b=>by
   have:=R.mJ a
   have:=R.mJ b
   simp only[R.dat,R.depth,PyData.depth,PyData.depthAll];omega
 | .pick a b c=>by
   have:=R.mJ a
   have:=R.mJ b
   have:=R.mJ c
   simp only[R.dat,R.depth,PyData.depth,PyData.depthAll];omega
 | .cho a ns=>by
   have:=R.mJ a
   have:=DG ns
   have:=a.rA
   simp only[R.dat,R.depth,PyData.depth,PyData.depthAll];omega
def adQ (K:PySem.W.Frag) (neg:Bool):R2:=fun x y H Q=>∃d,oU K H x d/\oU K H y d/\SeqAt.shaped d=true/\Q (.bl (!neg)) H
theorem DN {d:PyData} (h:SeqAt.shaped d=true):d.canLay0=true:=by
 have h':(d.canLay0&&decide (d.depth<=64))=true:=h
 rw[Bool.and_eq_true] at h'
 exact h'.1
theorem Ml {X:Cx} (hu:X.A.units+64<cLine):QOp X (compareOp .NotEq) (adQ X.K true):=⟨fun pins s σ H x y v u Q I rx ry h=>by
 obtain⟨d,h1,h2,h3,q⟩:=h
 have e:=PySem.SeqAt.eqv_refl d (DN h3)
 exact Ry hu pins s σ H x y v u Q I rx ry ⟨d,d,h1,h2,h3,h3,by rw[e];exact q⟩⟩
end RB
namespace RB
open PySem L2 PySem.Spec PyProof.Rows PySem.NumText
end RB
namespace L2
open PySem PySem.Spec PyProof.Rows
section
variable {prog:Program}{w:World}{A:Around}{E:Value->Shared->Prop}
end
section
variable {X:Cx}{pos:Pos}
theorem VM (hc:X.calm=true):uK X (.builtin "max") (fun xs H Q=>∃i j,xs=[.int i, .int j]/\Q (.int (if j>i then j else i)) H):=⟨Pb hc⟩
theorem VN (hc:X.calm=true):uK X (.builtin "min") (fun xs H Q=>∃i j,xs=[.int i, .int j]/\Q (.int (if j<i then j else i)) H):=⟨Pg hc⟩
end
end L2
namespace RB
open PySem L2 PySem.Spec PyProof.Rows
end RB
namespace L2
open PySem PySem.Spec PyProof.Rows
end L2
namespace RB
open PySem L2 PySem.Spec PyProof.Rows
theorem VP {α:Type}{l m:List α}{y:α} (h:l=m++[y]):atI l (-1)=some y:=by
 subst h
 unfold atI ixN
 have hl:(m++[y]).length=m.length+1:=by simp
 rw[hl,if_neg (by omega),if_pos (by omega)]
 show(m++[y])[((m.length+1:Nat)+(-1:Int)).toNat]? =some y
 rw[show(((m.length+1:Nat):Int)+(-1)).toNat=m.length by omega]
 simp
abbrev Rdp:=Str×Int
def rdV (p:Rdp):List V:=[.str p.1, .int p.2]
inductive j8 (H:Hp):List Addr->List Rdp->Prop where
 | nil:j8 H [] []
 | cons {a:Addr}{p:Rdp}{as:List Addr}{ps:List Rdp} (h:H a=some (.tup (rdV p))) (t:j8 H as ps):j8 H (a::as) (p::ps)
theorem j8.tups {H H':Hp} (t:lg H H') {as:List Addr}{ps:List Rdp} (h:j8 H as ps):j8 H' as ps:=by
 induction h with
 | nil=>exact .nil
 | cons h _ ih=>exact .cons (t _ _ h) ih
theorem j8.same {H H':Hp} (s:aN H H') {as:List Addr}{ps:List Rdp} (h:j8 H as ps):j8 H' as ps:=h.tups (aN.tups s)
theorem j8.length {H:Hp}{as:List Addr}{ps:List Rdp} (h:j8 H as ps):as.length=ps.length:=by
 induction h with
 | nil=>rfl
 | cons _ _ ih=>simp[ih]
theorem j8.get {H:Hp}{as:List Addr}{ps:List Rdp} (h:j8 H as ps):∀(i:Nat) (a:Addr),as[i]? =some a->∃p,ps[i]? =some p/\H a=some (.tup (rdV p)):=by
 induction h with
 | nil=>intro i a e;simp at e
 | @cons b p as ps h t ih=>
   intro i a e
   cases i with
   | zero=>have:b=a:=by simpa using e
           subst this;exact⟨_,rfl,h⟩
   | succ i=>exact ih i a (by simpa using e)
theorem RW {vs:List V}{k:Nat}:Cj vs none (some (k:Int))=vs.take k:=by
 unfold Cj
 rw[HT.Nr,show HT.sIx vs.length 0 none=0 from rfl,List.drop_zero,Nat.sub_zero]
 by_cases h:k<=vs.length
 ·rw[show min k vs.length=k by omega]
 ·rw[show min k vs.length=vs.length by omega,List.take_length,List.take_of_length_le (by omega)]
theorem GJ {vs:List V}{k:Nat}:Cj vs (some (k:Int)) none=vs.drop k:=by
 unfold Cj
 rw[HT.Nr]
 show(vs.drop (min k vs.length)).take (vs.length - min k vs.length)=_
 rw[List.take_of_length_le (by rw[List.length_drop];omega)]
 by_cases h:k<=vs.length
 ·rw[show min k vs.length=k by omega]
 ·rw[show min k vs.length=vs.length by omega,List.drop_length,List.drop_of_length_le (by omega)]
end RB
namespace L2
open PySem PySem.Spec PyProof.Rows
end L2
namespace RB
open PySem L2 PySem.Spec PyProof.Rows
end RB
namespace L2
open PySem PySem.Spec PyProof.Rows
theorem VR {X:Cx}{es:List Expr}{pos:Pos}{K:PySem.W.Frag}{k n:Nat}{t:TGs} (eK:X.K=K) (hc:X.calm=true) (h:QGs X es t) (hn:(assignEach es X.env).length=n:=by rfl) (hst:(assignEach es X.env).findIdx? (·.1)=none:=by rfl):QG X (.Tuple es k pos) (Zx K n t):=eK▸LR hc h hn hst
end L2
namespace RB
open PySem L2 PySem.Spec PyProof.Rows
theorem SqL.same {K:PySem.W.Frag}{H H':Hp}{a:Addr}{xs:List V} (s:aN H H') (h:SqL K H a xs):SqL K H' a xs:=by
 rcases h with(e | ⟨o,e⟩) | h
 ·exact .inl (.inl (s _ _ e))
 ·exact .inl (.inr ⟨o,s _ _ e⟩)
 ·exact .inr h
theorem d7 {S:List Addr}{H0 H H':Hp} (s:aN H0 H) (hS:∀p∈S,H0 p=none) (b:But S H H'):aN H0 H':=fun a o e=>b a o (fun z=>by rw[hS a z] at e;cases e) (s a o e)
abbrev Kn:=Str->Option Int
def Kn.put (kn:Kn) (x:Str) (v:Int):Kn:=fun y=>if y=x then some v else kn y
def Kn.puts:Kn->List Rdp->Kn
 | kn,[]=>kn
 | kn,p::ps=>(kn.put p.1 p.2).puts ps
def Kn.Le (kn kn':Kn):Prop:=∀x v,kn x=some v->kn' x=some v
theorem Kn.Le.refl (kn:Kn):Kn.Le kn kn:=fun _ _ h=>h
theorem Kn.Le.trans {a b c:Kn} (h:Kn.Le a b) (g:Kn.Le b c):Kn.Le a c:=fun x v z=>g x v (h x v z)
theorem Kn.qz {kn:Kn}{x:Str}{v:Int} (h:kn x=none):Kn.Le kn (kn.put x v):=fun y u z=>by
 unfold Kn.put
 rw[if_neg (fun e=>by rw[e,h] at z;cases z)];exact z
def Op.ap:Op->Int->Int->Int
 | .plus,u,v=>u+v
 | .minus,u,v=>u - v
 | .times,u,v=>u * v
 | .most,u,v=>if v>u then v else u
def pK (ns:List Str) (u:Int):Option Str:=ns[(u % (ns.length:Int)).toNat]?
def look (kn:Kn) (x:Str):Str ⊕ Int:=match kn x with
 | some v=> .inr v
 | none=> .inl x
def ev (kn:Kn):R->Str ⊕ Int
 | .num n=> .inr n
 | .rd x=>look kn x
 | .bin op a b=>match ev kn a with
   | .inl x=> .inl x
   | .inr u=>match ev kn b with
     | .inl x=> .inl x
     | .inr v=> .inr (op.ap u v)
 | .pick a b c=>match ev kn a with
   | .inl x=> .inl x
   | .inr u=>if u>0 then ev kn b else ev kn c
 | .cho a ns=>match ev kn a with
   | .inl x=> .inl x
   | .inr u=>match pK ns u with
     | none=> .inr 0
     | some x=>look kn x
theorem N6 {kn kn':Kn} (h:Kn.Le kn kn') {x:Str}{v:Int} (e:look kn x= .inr v):look kn' x= .inr v:=by
 unfold look at e ⊢
 cases z:kn x with
 | none=>rw[z] at e;cases e
 | some u=>rw[z] at e;rw[h x u z];exact e
theorem rB {kn:Kn}{x y:Str} (e:look kn x= .inl y):y=x/\kn x=none:=by
 unfold look at e
 cases z:kn x with
 | none=>rw[z] at e;cases e;exact⟨rfl,rfl⟩
 | some u=>rw[z] at e;cases e
theorem m5 {kn:Kn}:∀{r:R}{x:Str},ev kn r= .inl x->kn x=none
 | .num n,x,h=>by cases h
 | .rd y,x,h=>by obtain⟨rfl,h⟩:=rB h;exact h
 | .bin op a b,x,h=>by
   simp only[ev] at h
   cases ea:ev kn a with
   | inl y=>rw[ea] at h;cases h;exact m5 ea
   | inr u=>
     rw[ea] at h
     cases eb:ev kn b with
     | inl y=>rw[eb] at h;cases h;exact m5 eb
     | inr v=>rw[eb] at h;cases h
 | .pick a b c,x,h=>by
   simp only[ev] at h
   cases ea:ev kn a with
   | inl y=>rw[ea] at h;cases h;exact m5 ea
   | inr u=>
     rw[ea] at h
     simp only at h
     split at h
     ·exact m5 h
     ·exact m5 h
 | .cho a ns,x,h=>by
   simp only[ev] at h
   cases ea:ev kn a with
   | inl y=>rw[ea] at h;cases h;exact m5 ea
   | inr u=>
     rw[ea] at h
     simp only at h
     cases ep:pK ns u with
     | none=>rw[ep] at h;cases h
     | some y=>rw[ep] at h;obtain⟨rfl,h⟩:=rB h;exact h
theorem ni {kn kn':Kn} (hk:Kn.Le kn kn'):∀{r:R}{v:Int},ev kn r= .inr v->ev kn' r= .inr v
 | .num n,v,h=>h
 | .rd y,v,h=>N6 hk h
 | .bin op a b,v,h=>by
   simp only[ev] at h ⊢
   cases ea:ev kn a with
   | inl y=>rw[ea] at h;cases h
   | inr u=>
     rw[ea] at h;rw[ni hk ea]
     cases eb:ev kn b with
     | inl y=>rw[eb] at h;cases h
     | inr w=>rw[eb] at h;rw[ni hk eb];exact h
 | .pick a b c,v,h=>by
   simp only[ev] at h ⊢
   cases ea:ev kn a with
   | inl y=>rw[ea] at h;cases h
   | inr u=>
     rw[ea] at h;rw[ni hk ea]
     simp only at h ⊢
     split at h
     ·rw[if_pos (by assumption)];exact ni hk h
     ·rw[if_neg (by assumption)];exact ni hk h
 | .cho a ns,v,h=>by
   simp only[ev] at h ⊢
   cases ea:ev kn a with
   | inl y=>rw[ea] at h;cases h
   | inr u=>
     rw[ea] at h;rw[ni hk ea]
     simp only at h ⊢
     cases ep:pK ns u with
     | none=>rw[ep] at h;exact h
     | some y=>rw[ep] at h;exact N6 hk h
inductive Stp where
 | r (r:R) | branch (s t:R) | among (ns:List Str) | join (op:Op)
structure Cf where
 todo:List Stp
 found:List Int
 rds:List Rdp
def rC (ps:List Rdp) (x:Str) (v:Int):List Rdp:=
 if(ps.any fun p=>decide (p.1=x))=true then ps.map (fun p=>if p.1=x then(p.1,v) else p) else ps++[(x,v)]
inductive St1 (kn:Kn):Cf->Cf->Prop where
 | num {t f d n}:St1 kn ⟨t++[.r (.num n)],f,d⟩ ⟨t,f++[n],d⟩
 | rd {t f d x v} (h:kn x=some v):St1 kn ⟨t++[.r (.rd x)],f,d⟩ ⟨t,f++[v],rC d x v⟩
 | bin {t f d op a b}:St1 kn ⟨t++[.r (.bin op a b)],f,d⟩ ⟨t++[.join op, .r b, .r a],f,d⟩
 | pick {t f d a b c}:St1 kn ⟨t++[.r (.pick a b c)],f,d⟩ ⟨t++[.branch b c, .r a],f,d⟩
 | cho {t f d a ns}:St1 kn ⟨t++[.r (.cho a ns)],f,d⟩ ⟨t++[.among ns, .r a],f,d⟩
 | branch {t f d b c v}:St1 kn ⟨t++[.branch b c],f++[v],d⟩ ⟨t++[.r (if v>0 then b else c)],f,d⟩
 | among {t f d ns v x} (h:pK ns v=some x):St1 kn ⟨t++[.among ns],f++[v],d⟩ ⟨t++[.r (.rd x)],f,d⟩
 | join {t f d op u v} (h:op= .times->tH u v):St1 kn ⟨t++[.join op],f++[u,v],d⟩ ⟨t,f++[op.ap u v],d⟩
inductive StN (kn:Kn):Nat->Cf->Cf->Prop where
 | zero {c}:StN kn 0 c c
 | succ {n c c1 c2} (h:St1 kn c c1) (t:StN kn n c1 c2):StN kn (n+1) c c2
theorem StN.add {kn:Kn}{n m:Nat}{a b c:Cf} (h:StN kn n a b) (g:StN kn m b c):StN kn (n+m) a c:=by
 induction h with
 | zero=>rw[Nat.zero_add];exact g
 | succ h _ ih=>rw[Nat.succ_add];exact .succ h (ih g)
theorem St1.le {kn kn':Kn} (hk:Kn.Le kn kn') {a b:Cf} (h:St1 kn a b):St1 kn' a b:=by
 cases h with
 | num=>exact .num
 | rd h=>exact .rd (hk _ _ h)
 | bin=>exact .bin
 | pick=>exact .pick
 | cho=>exact .cho
 | branch=>exact .branch
 | among h=>exact .among h
 | join h=>exact .join h
theorem StN.le {kn kn':Kn} (hk:Kn.Le kn kn') {n:Nat}{a b:Cf} (h:StN kn n a b):StN kn' n a b:=by
 induction h with
 | zero=>exact .zero
 | succ h _ ih=>exact .succ (h.le hk) ih
theorem jz {α:Type}{s t:List α}{x y:α} (h:s++[x]=t++[y]):s=t/\x=y:=by
 have:=List.append_inj' h rfl
 exact⟨this.1,by simpa using this.2⟩
theorem Qe {α:Type}{s t:List α}{x y u v:α} (h:s++[x,y]=t++[u,v]):s=t/\x=u/\y=v:=by
 have:=List.append_inj' h rfl
 exact⟨this.1,by simpa using this.2⟩
def St1.Inv (kn:Kn) (f:List Int) (d:List Rdp) (t:List Stp) (c':Cf):Stp->Prop
 | .r (.num n)=>c'=⟨t,f++[n],d⟩
 | .r (.rd x)=>∃v,kn x=some v/\c'=⟨t,f++[v],rC d x v⟩
 | .r (.bin op a b)=>c'=⟨t++[.join op, .r b, .r a],f,d⟩
 | .r (.pick a b c)=>c'=⟨t++[.branch b c, .r a],f,d⟩
 | .r (.cho a ns)=>c'=⟨t++[.among ns, .r a],f,d⟩
 | .branch b c=>∃g v,f=g++[v]/\c'=⟨t++[.r (if v>0 then b else c)],g,d⟩
 | .among ns=>∃g v x,f=g++[v]/\pK ns v=some x/\c'=⟨t++[.r (.rd x)],g,d⟩
 | .join op=>∃g u v,f=g++[u,v]/\(op= .times->tH u v)/\c'=⟨t,g++[op.ap u v],d⟩
theorem St1.inv {kn:Kn}{c c':Cf} (h:St1 kn c c'):∀t s,c.todo=t++[s]->St1.Inv kn c.found c.rds t c' s:=by
 cases h with
 | num=>intro t s e;obtain⟨rfl,rfl⟩:=jz e;exact rfl
 | rd h=>intro t s e;obtain⟨rfl,rfl⟩:=jz e;exact⟨_,h,rfl⟩
 | bin=>intro t s e;obtain⟨rfl,rfl⟩:=jz e;exact rfl
 | pick=>intro t s e;obtain⟨rfl,rfl⟩:=jz e;exact rfl
 | cho=>intro t s e;obtain⟨rfl,rfl⟩:=jz e;exact rfl
 | branch=>intro t s e;obtain⟨rfl,rfl⟩:=jz e;exact⟨_,_,rfl,rfl⟩
 | among h=>intro t s e;obtain⟨rfl,rfl⟩:=jz e;exact⟨_,_,_,rfl,h,rfl⟩
 | join h=>intro t s e;obtain⟨rfl,rfl⟩:=jz e;exact⟨_,_,_,rfl,h,rfl⟩
theorem St1.det {kn:Kn}{a b c:Cf} (h:St1 kn a b) (g:St1 kn a c):b=c:=by
 cases h with
 | num=>exact(g.inv _ _ rfl).symm
 | rd h=>
   obtain⟨v,e,z⟩:=g.inv _ _ rfl
   rw[h] at e;cases e;exact z.symm
 | bin=>exact(g.inv _ _ rfl).symm
 | pick=>exact(g.inv _ _ rfl).symm
 | cho=>exact(g.inv _ _ rfl).symm
 | branch=>
   obtain⟨f,v,e,z⟩:=g.inv _ _ rfl
   obtain⟨rfl,rfl⟩:=jz e
   exact z.symm
 | among h=>
   obtain⟨f,v,x,e,hx,z⟩:=g.inv _ _ rfl
   obtain⟨rfl,rfl⟩:=jz e
   rw[h] at hx;cases hx;exact z.symm
 | join h=>
   obtain⟨f,u,v,e,_,z⟩:=g.inv _ _ rfl
   obtain⟨rfl,rfl,rfl⟩:=Qe e
   exact z.symm
def Halt (kn:Kn) (c:Cf):Prop:=c.todo=[]\/∃t x,c.todo=t++[.r (.rd x)]/\kn x=none
theorem Halt.no {kn:Kn}{c c':Cf} (h:Halt kn c) (g:St1 kn c c'):False:=by
 rcases h with h | ⟨t,x,h,hx⟩
 ·cases g<;>simp at h
 ·obtain⟨v,e,_⟩:=g.inv _ _ h
  rw[hx] at e;cases e
theorem StN.rest {kn:Kn}{n m:Nat}{a b c:Cf} (h:StN kn n a b) (g:StN kn m a c) (hc:Halt kn c):∃k,StN kn k b c:=by
 induction h generalizing m with
 | zero=>exact⟨m,g⟩
 | succ h _ ih=>
   cases g with
   | zero=>exact(hc.no h).elim
   | succ h' g'=>rw[<-h.det h'] at g';exact ih g'
theorem Qf {ns:List Str} (h:1<=ns.length) (u:Int):∃x,pK ns u=some x:=by
 unfold pK
 have h1:(u % (ns.length:Int)).toNat<ns.length:=by
  have:=Int.emod_nonneg u (show(ns.length:Int)≠0 by omega)
  have:=Int.emod_lt_of_pos u (show(0:Int)<ns.length by omega)
  omega
 exact⟨_,List.getElem?_eq_getElem h1⟩
def Reach (kn:Kn) (r:R) (c:Cf):Prop:=∃n,StN kn n ⟨[.r r],[],[]⟩ c
theorem Reach.le {kn kn':Kn} (h:Kn.Le kn kn') {r:R}{c:Cf} (g:Reach kn r c):Reach kn' r c:=by
 obtain⟨n,g⟩:=g
 exact⟨n,g.le h⟩
def kn0:Kn:=fun _=>none
end RB
namespace L2
open PySem PySem.Spec PyProof.Rows
section
variable {X:Cx}{i o:Expr}{ty td:TE}{pos:Pos}
theorem HH (hu:X.A.units+1<cLine) (hi:QE X i ty) (ho:QE X o td) (h1:behindInMarks .In o=false:=by rfl):QT X (.Compare i [.In] [o] pos) (tB (adz ty td)):=⟨QX (aak hu hi.h ho.h) h1⟩
theorem Bf (hu:X.A.units+1<cLine) (hi:QE X i ty) (ho:QE X o td) (h1:behindInMarks .NotIn o=false:=by rfl):QT X (.Compare i [.NotIn] [o] pos) (tB (Nz ty td)):=⟨QX (PJ hu hi.h ho.h) h1⟩
end
end L2
namespace RB
open PySem L2 PySem.Spec PyProof.Rows
inductive Cm (H:Hp):V->Stp->Prop where
 | r {a:Addr}{r:R} (h:IsR H a r):Cm H (.ref a) (.r r)
 | branch {a b c:Addr}{s t:R} (e:H a=some (.tup [.str "branch", .ref b, .ref c])) (h1:IsR H b s) (h2:IsR H c t):Cm H (.ref a) (.branch s t)
 | among {a b:Addr}{ns:List Str} (e:H a=some (.tup [.str "among", .ref b])) (h:H b=some (.tup (ns.map V.str))):Cm H (.ref a) (.among ns)
 | join {a:Addr}{op:Op} (e:H a=some (.tup [.str "join", .str op.word])):Cm H (.ref a) (.join op)
theorem Cm.tups {H H':Hp} (t:lg H H') {v:V}{s:Stp} (h:Cm H v s):Cm H' v s:=by
 cases h with
 | r h=>exact .r (h.tups t)
 | branch e h1 h2=>exact .branch (t _ _ e) (h1.tups t) (h2.tups t)
 | among e h=>exact .among (t _ _ e) (t _ _ h)
 | join e=>exact .join (t _ _ e)
inductive mz (H:Hp):List V->List Stp->Prop where
 | nil:mz H [] []
 | cons {v:V}{s:Stp}{vs:List V}{ss:List Stp} (h:Cm H v s) (t:mz H vs ss):mz H (v::vs) (s::ss)
theorem mz.tups {H H':Hp} (t:lg H H') {vs:List V}{ss:List Stp} (h:mz H vs ss):mz H' vs ss:=by
 induction h with
 | nil=>exact .nil
 | cons h _ ih=>exact .cons (h.tups t) ih
theorem mz.app {H:Hp}:∀{vs ws:List V}{ss ts:List Stp},mz H vs ss->mz H ws ts->mz H (vs++ws) (ss++ts)
 | _,_,_,_, .nil,h=>h
 | _,_,_,_, .cons h' t,h=> .cons h' (t.app h)
theorem mz.snoc {H:Hp}{s:Stp}:∀{ss:List Stp}{vs:List V},mz H vs (ss++[s])->∃us v,vs=us++[v]/\mz H us ss/\Cm H v s
 |[],_,h=>by
  cases h with
  | cons h t=>cases t;exact⟨[],_,rfl, .nil,h⟩
 | s0::ss,_,h=>by
   cases h with
   | cons h t=>
     obtain⟨us,v,rfl,h1,h2⟩:=mz.snoc (ss:=ss) t
     exact⟨_::us,v,rfl, .cons h h1,h2⟩
theorem mz.length {H:Hp}{vs:List V}{ss:List Stp} (h:mz H vs ss):vs.length=ss.length:=by
 induction h with
 | nil=>rfl
 | cons _ _ ih=>simp[ih]
def wR:R->Nat
 | .num _=>1
 | .rd _=>1
 | .bin _ a b=>wR a+wR b+2
 | .pick a b c=>wR a+wR b+wR c+2
 | .cho a _=>wR a+3
def wS:Stp->Nat
 | .r r=>wR r
 | .branch s t=>wR s+wR t+1
 | .among _=>2
 | .join _=>1
def wT (t:List Stp):Nat:=(t.map wS).sum
def Cf.w (c:Cf):Nat:=c.rds.length+c.found.length+2 * wT c.todo
theorem lK (s t:List Stp):wT (s++t)=wT s+wT t:=by unfold wT;rw[List.map_append,List.sum_append]
theorem aaP:∀r:R,1<=wR r
 | .num _=>Nat.le_refl _
 | .rd _=>Nat.le_refl _
 | .bin _ a b=>by show 1<=wR a+wR b+2;omega
 | .pick a b c=>by show 1<=wR a+wR b+wR c+2;omega
 | .cho a _=>by show 1<=wR a+3;omega
theorem aaQ (s:Stp):1<=wS s:=by
 cases s with
 | r r=>exact aaP r
 | branch s t=>show 1<=wR s+wR t+1;omega
 | among ns=>exact(by decide:1<=2)
 | join op=>exact Nat.le_refl _
theorem Mm:∀t:List Stp,t.length<=wT t
 |[]=>Nat.le_refl _
 | s::t=>by
   have:=Mm t
   have:=aaQ s
   show t.length+1<=wS s+wT t
   omega
theorem RX (d:List Rdp) (x:Str) (v:Int):(rC d x v).length<=d.length+1:=by
 unfold rC
 split
 ·rw[List.length_map];omega
 ·rw[List.length_append];exact Nat.le_refl _
theorem St1.w {kn:Kn}{a b:Cf} (h:St1 kn a b):b.w<=a.w:=by
 cases h with
 | @num t f d n=>
   show d.length+(f++[n]).length+2 * wT t<=d.length+f.length+2 * wT (t++[.r (.num n)])
   rw[lK,List.length_append];show _<=_+2 *(_+1);simp;omega
 | @rd t f d x v h=>
   have:=RX d x v
   show(rC d x v).length+(f++[v]).length+2 * wT t<=d.length+f.length+2 * wT (t++[.r (.rd x)])
   rw[lK,List.length_append];show _<=_+2 *(_+1);simp;omega
 | @bin t f d op a b=>
   show d.length+f.length+2 * wT (t++[.join op, .r b, .r a])<=d.length+f.length+2 * wT (t++[.r (.bin op a b)])
   rw[lK,lK];show _+2 *(_+(1+(wR b+(wR a+0))))<=_+2 *(_+(wR a+wR b+2+0));omega
 | @pick t f d a b c=>
   show d.length+f.length+2 * wT (t++[.branch b c, .r a])<=d.length+f.length+2 * wT (t++[.r (.pick a b c)])
   rw[lK,lK];show _+2 *(_+(wR b+wR c+1+(wR a+0)))<=_+2 *(_+(wR a+wR b+wR c+2+0));omega
 | @cho t f d a ns=>
   show d.length+f.length+2 * wT (t++[.among ns, .r a])<=d.length+f.length+2 * wT (t++[.r (.cho a ns)])
   rw[lK,lK];show _+2 *(_+(2+(wR a+0)))<=_+2 *(_+(wR a+3+0));omega
 | @branch t f d b c v=>
   show d.length+f.length+2 * wT (t++[.r (if v>0 then b else c)])<=d.length+(f++[v]).length+2 * wT (t++[.branch b c])
   rw[lK,lK,List.length_append]
   have:wR (if v>0 then b else c)<=wR b+wR c:=by split<;>omega
   show _+2 *(_+(wR (if v>0 then b else c)+0))<=_+2 *(_+(wR b+wR c+1+0));omega
 | @among t f d ns v x h=>
   show d.length+f.length+2 * wT (t++[.r (.rd x)])<=d.length+(f++[v]).length+2 * wT (t++[.among ns])
   rw[lK,lK,List.length_append];show _+2 *(_+1)<=_+2 *(_+2);omega
 | @join t f d op u v h=>
   show d.length+(f++[op.ap u v]).length+2 * wT t<=d.length+(f++[u,v]).length+2 * wT (t++[.join op])
   rw[lK,List.length_append,List.length_append];show _+(_+1)+_<=_+(_+2)+2 *(_+1);omega
def rdK (d:List Rdp):List (Key×V):=d.map fun p=>(.inr p.1, .int p.2)
theorem V0 (d:List Rdp) (x:Str) (v:Int):putK (rdK d) (.inr x) (.int v)=rdK (rC d x v):=by
 unfold putK rC rdK
 rw[List.any_map]
 have e:((fun kv:Key×V=>decide (kv.1=(.inr x:Key)))∘fun p:Rdp=>((.inr p.1:Key),V.int p.2))=fun p:Rdp=>decide (p.1=x):=by
  funext p
  show decide ((Sum.inr p.1:Key)=Sum.inr x)=_
  by_cases h:p.1=x
  ·rw[decide_eq_true h,decide_eq_true (by rw[h])]
  ·rw[decide_eq_false h,decide_eq_false (fun z=>h (Sum.inr.inj z))]
 rw[e]
 by_cases hc:(d.any fun p=>decide (p.1=x))=true
 ·rw[if_pos hc,if_pos hc,List.map_map,List.map_map]
  apply List.map_congr_left
  intro p _
  show(if(Sum.inr p.1:Key)=Sum.inr x then((Sum.inr p.1:Key),V.int v) else((Sum.inr p.1:Key),V.int p.2))=_
  by_cases h:p.1=x
  ·rw[if_pos (by rw[h])]
   show _=((Sum.inr (if p.1=x then(p.1,v) else p).1:Key),V.int (if p.1=x then(p.1,v) else p).2)
   rw[if_pos h]
  ·rw[if_neg (fun z=>h (Sum.inr.inj z))]
   show _=((Sum.inr (if p.1=x then(p.1,v) else p).1:Key),V.int (if p.1=x then(p.1,v) else p).2)
   rw[if_neg h]
 ·rw[if_neg hc,if_neg hc,List.map_append];rfl
def rkF (a1 a2 a3:Addr):List (Str×V):=[("todo", .ref a1),("found", .ref a2),("reads", .ref a3)]
structure RcAt (H:Hp) (a C dx a1 a2 a3:Addr) (c:Cf):Prop where
 e:H a=some (.ins C dx (rkF a1 a2 a3))
 e1:∃ws,H a1=some (.lst ws)/\mz H ws c.todo
 e2:H a2=some (.lst (c.found.map V.int))
 e3:H a3=some (.dK (rdK c.rds))
 ne:a1≠a2
 hw:c.w<=10000
structure RkC (K:PySem.W.Frag) (C:Addr):Prop where
 cl:Cls K C
 nT:iM K C "todo"
 nF:iM K C "found"
 nR:iM K C "reads"
def RZ (H:Hp) (d:Addr) (kn:Kn):Prop:=∃kvs,H d=some (.dK kvs)/\∀x,cI kvs (.inr x)=(kn x).map V.int
theorem HJ (a1 a2 a3:Addr):List.lookup ("todo":Str) (rkF a1 a2 a3)=some (.ref a1):=rfl
theorem DP (a1 a2 a3:Addr):List.lookup ("found":Str) (rkF a1 a2 a3)=some (.ref a2):=rfl
theorem DQ (a1 a2 a3:Addr):List.lookup ("reads":Str) (rkF a1 a2 a3)=some (.ref a3):=rfl
theorem Yj (a1 a2 a3:Addr):List.lookup ("go_on":Str) (rkF a1 a2 a3)=none:=rfl
theorem zz (a1 a2 a3:Addr):List.lookup ("lacking":Str) (rkF a1 a2 a3)=none:=rfl
def N7:Sp:=fun vs H Q _=>∃(op:Op) (u v:Int),vs=[.str op.word, .int u, .int v]/\(op= .times->tH u v)/\Q (.int (op.ap u v)) H
def JT (C:Addr):Sp:=fun vs H Q _=>∃(a dx b:Addr) (r:R),vs=[.ref a, .ref b]/\H a=some (.ins C dx [])/\IsR H b r/\wR r<=4000/\
 ∀a1 a2 a3 H',But [a] H H'->H a1=none->H a2=none->H a3=none->RcAt H' a C dx a1 a2 a3 ⟨[.r r],[],[]⟩->Q .non H'
def adR (C:Addr):Sp:=fun vs H Q _=>∃(a dx a1 a2 a3:Addr) (v:V) (s:Stp) (t:List Stp) (f:List Int) (d:List Rdp) (kn:Kn) (c:Cf),vs=[.ref a,v]/\RcAt H a C dx a1 a2 a3 ⟨t,f,d⟩/\Cm H v s/\(∀x,s≠ .r (.rd x))/\
 St1 kn ⟨t++[s],f,d⟩ c/\c.w<=10000/\∀H',But [a1,a2,a3] H H'->RcAt H' a C dx a1 a2 a3 c->Q .non H'
def R0 (C:Addr):Sp:=fun vs H Q _=>∃(a dx a1 a2 a3 d:Addr) (kn:Kn) (n:Nat) (c c':Cf),vs=[.ref a, .ref d]/\RcAt H a C dx a1 a2 a3 c/\RZ H d kn/\d≠a3/\StN kn n c c'/\Halt kn c'/\
 ∀H',But [a1,a2,a3] H H'->RcAt H' a C dx a1 a2 a3 c'->(c'.todo=[]->Q .non H')/\∀t x,c'.todo=t++[.r (.rd x)]->Q (.str x) H'
theorem RcAt.lists {H:Hp}{a C dx a1 a2 a3:Addr}{c:Cf} (h:RcAt H a C dx a1 a2 a3 c) {H':Hp} (b:But [a1,a2,a3] H H'):lg H H':=fun p xs q=>b p _ (fun z=>by
 obtain⟨ws,e1,_⟩:=h.e1
 have:p=a1\/p=a2\/p=a3:=by simpa using z
 rcases this with rfl | rfl | rfl
 ·rw[e1] at q;cases q
 ·rw[h.e2] at q;cases q
 ·rw[h.e3] at q;cases q) q
theorem gC {H:Hp}{p q:Addr}{o:HO} (h:upd H p o q=none):q≠p/\H q=none:=by
 by_cases e:q=p
 ·subst e;rw[ak] at h;cases h
 ·rw[ao e] at h;exact⟨e,h⟩
theorem RcAt.ins {H:Hp}{a C dx a1 a2 a3:Addr}{c:Cf} (h:RcAt H a C dx a1 a2 a3 c):a∉[a1,a2,a3]:=fun z=>by
 obtain⟨ws,e1,_⟩:=h.e1
 have z:a=a1\/a=a2\/a=a3:=by simpa using z
 have e:=h.e
 rcases z with z | z | z
 ·rw[z,e1] at e;cases e
 ·rw[z,h.e2] at e;cases e
 ·rw[z,h.e3] at e;cases e
theorem RcAt.n13 {H:Hp}{a C dx a1 a2 a3:Addr}{c:Cf} (h:RcAt H a C dx a1 a2 a3 c):a1≠a3:=fun z=>by
 obtain⟨ws,e1,_⟩:=h.e1
 have e:=h.e3
 rw[<-z,e1] at e;cases e
theorem RcAt.n23 {H:Hp}{a C dx a1 a2 a3:Addr}{c:Cf} (h:RcAt H a C dx a1 a2 a3 c):a2≠a3:=fun z=>by
 have e:=h.e3
 rw[<-z,h.e2] at e;cases e
theorem RcAt.next {H H':Hp}{a C dx a1 a2 a3:Addr}{c c':Cf}{ws:List V} (h:RcAt H a C dx a1 a2 a3 c) (b:But [a1,a2,a3] H H') (g1:H' a1=some (.lst ws)) (s:mz H' ws c'.todo) (g2:H' a2=some (.lst (c'.found.map V.int))) (g3:H' a3=some (.dK (rdK c'.rds))) (hw:c'.w<=10000):RcAt H' a C dx a1 a2 a3 c':=
 ⟨b _ _ h.ins h.e,⟨ws,g1,s⟩,g2,g3,h.ne,hw⟩
theorem Cm.hd {H:Hp}{v:V}{s:Stp} (h:Cm H v s) (hno:∀x,s≠ .r (.rd x)):∃p k xs,v= .ref p/\H p=some (.tup (.str k::xs))/\k≠"read":=by
 cases h with
 | r h=>
   cases h with
   | num e=>exact⟨_,_,_,rfl,e,by decide +kernel⟩
   | rd e=>exact absurd rfl (hno _)
   | @bin _ _ _ op _ _ e _ _=>exact⟨_,_,_,rfl,e,by cases op<;>decide +kernel⟩
   | pick e _ _ _=>exact⟨_,_,_,rfl,e,by decide +kernel⟩
   | cho e _ _=>exact⟨_,_,_,rfl,e,by decide +kernel⟩
 | branch e _ _=>exact⟨_,_,_,rfl,e,by decide +kernel⟩
 | among e _=>exact⟨_,_,_,rfl,e,by decide +kernel⟩
 | join e=>exact⟨_,_,_,rfl,e,by decide +kernel⟩
theorem StN.halt {kn:Kn}{n:Nat}{c c':Cf} (h:StN kn n c c') (hc:Halt kn c):c=c':=by
 cases h with
 | zero=>rfl
 | succ h _=>exact(hc.no h).elim
theorem aaR {H:Hp}{a:Addr}{o:HO} (h:H a=some o):upd H a o=H:=by
 funext b
 by_cases e:b=a
 ·subst e;rw[ak,h]
 ·rw[ao e]
theorem same_none {H H':Hp}{p:Addr} (s:aN H H') (h:H' p=none):H p=none:=by
 cases z:H p with
 | none=>rfl
 | some o=>rw[s _ _ z] at h;cases h
end RB
namespace L2
open PySem PySem.Spec PyProof.Rows
theorem HN {k:Key}{v:Value} (h:Dg k v=true):RelV (kV k) v:=by
 rcases gJ h with⟨i,t,rfl,rfl⟩ | ⟨x,t,rfl,rfl⟩
 ·exact⟨t,rfl⟩
 ·exact⟨t,rfl⟩
theorem DR:∀{ys:List V}{its:List Value},its.length=ys.length->(∀(i:Nat) (v:Value),its[i]? =some v->∃y,ys[i]? =some y/\RelV y v)->Vals ys its
 |[],[],_,_=> .nil
 | y::ys,v::its,hl,h=>by
   obtain⟨y',e,r⟩:=h 0 v rfl
   cases e
   exact .cons r (DR (by simpa using hl) fun i u hu=>h (i+1) u (by simpa using hu))
 |[],_::_,hl,_=>by simp at hl
 | _::_,[],hl,_=>by simp at hl
theorem BZ {κ:Type}:∀{kvs:List (κ×V)}{vs:List (κ×Value)},KV kvs vs->kvs.length=vs.length/\∀(i:Nat) (k:κ) (x:Value),vs[i]? =some (k,x)->∃y,kvs[i]? =some (k,y)
 | _,_, .nil=>⟨rfl,fun i k x h=>by simp at h⟩
 | _,_, .cons (a:=p) (b:=q) h t=>by
   obtain⟨h1,h2⟩:=BZ t
   refine⟨by simp[h1],fun i k x e=> ?_⟩
   cases i with
   | zero=>cases e;exact⟨p.2,by rw[List.getElem?_cons_zero];cases p;simp only at h ⊢;rw[h.1]⟩
   | succ i=>exact h2 i k x (by simpa using e)
section
variable {X:Cx}
theorem Mp (hc:X.calm=true):uH X (.type "list") (fun xs H Q=>∃a kvs,xs=[.ref a]/\H a=some (.dK kvs)/\∀l,H l=none->Q (.ref l) (upd H l (.lst (kvs.map fun kv=>kV kv.1)))):=by
 intro pins s σ H xs us Q I r h
 obtain⟨a,kvs,rfl,ha,q⟩:=h
 obtain⟨u,rfl,rx⟩:=vals1 r
 cases rx
 obtain⟨hz,lo,vs,hkv,hd⟩:=(show dJ X.prog X.w H s.heap a (.dK kvs) from I.hok a _ ha)
 obtain⟨ep,hat⟩:=hd.dictAt
 obtain⟨hl,hk⟩:=BZ hkv
 refine PySem.W.kdl_call (PySem.W.kdl_dict lo) (I.ok.hd hc) hat (by rw[<-hl];exact hz) fun h' tk acc c kp e hacc=> ?_
 have hv:Vals (kvs.map fun kv=>kV kv.1) acc.toList:=DR (by rw[List.length_map,Array.length_toList,hacc.1,hl]) fun i v hv=>by
  obtain⟨k,x,e1,e2⟩:=hacc.2 i v (by rw[<-Array.getElem?_toList];exact hv)
  obtain⟨y,hy⟩:=hk i k x e1
  exact⟨kV k,by rw[List.getElem?_map,hy];rfl,HN e2⟩
 exact⟨.ref s.heap.objs.size,_,I.laid (t':=tk) kp (Nat.le_refl _) (show dJ X.prog X.w _ h' _ (.lst (kvs.map fun kv=>kV kv.1)) from⟨by rw[List.length_map];exact hz,acc.toList,c,hv,by simpa using e⟩),rfl,q _ (I.hok.fresh (Nat.le_refl _))⟩
theorem DX (hc:X.calm=true):uK X (.type "list") (fun xs H Q=>∃a kvs,xs=[.ref a]/\H a=some (.dK kvs)/\∀l,H l=none->Q (.ref l) (upd H l (.lst (kvs.map fun kv=>kV kv.1)))):=⟨Mp hc⟩
end
end L2
namespace RB
open PySem L2 PySem.Spec PyProof.Rows
def R.In (ns:List Str):R->Prop
 | .num _=>True
 | .rd x=>x∈ns
 | .bin _ a b=>a.In ns/\b.In ns
 | .pick a b c=>a.In ns/\b.In ns/\c.In ns
 | .cho a ms=>a.In ns/\∀x∈ms,x∈ns
theorem DY {S:List Addr}{H H':Hp}{q:Addr} (b:But S H H') (h:H' q=none) (hS:q∉S):H q=none:=by
 cases z:H q with
 | none=>rfl
 | some o=>rw[b _ _ hS z] at h;cases h
end RB
namespace L2
open PySem PySem.Spec PyProof.Rows
theorem JV {α:Type} (xs:List α):∀n,n<=xs.length->(List.range n).filterMap (fun k=>xs[xs.length - 1 - k]?)=xs.reverse.take n
 | 0,_=>by simp
 | n+1,h=>by
   rw[List.range_succ,List.filterMap_append,JV xs n (by omega),List.take_add_one,List.getElem?_reverse (by omega)]
   congr 1
theorem FP (its:List Value):slicePick its.toArray none none (some (-1))=its.reverse.toArray:=by
 have hb:sliceBounds none none (some (-1)) its.toArray.size=((its.length:Int) - 1, -1, -1):=by
  unfold sliceBounds
  simp
 unfold slicePick
 rw[hb]
 simp only
 congr 1
 unfold sliceRange
 have e0:¬((-1:Int)>0):=by decide
 simp only[if_neg e0]
 have ec:(if(its.length:Int) - 1> -1 then((its.length:Int) - 1 - -1 - -1 - 1)/(- -1) else 0).toNat=its.length:=by
  split
  ·have:((its.length:Int) - 1 - -1 - -1 - 1)/(- -1)=(its.length:Int):=by
    have:(- -1:Int)=1:=by decide
    rw[this,Int.ediv_one];omega
   rw[this];omega
  ·omega
 rw[ec,List.filterMap_map]
 have h:=JV its its.length (Nat.le_refl _)
 rw[List.take_of_length_le (by simp)] at h
 rw[<-h]
 have ef:((fun x=>its.toArray[x]?)∘fun k:Nat=>((its.length:Int) - 1+ -1 *(k:Int)).toNat)=fun k=>its[its.length - 1 - k]? :=by
  funext k
  show its.toArray[((its.length:Int) - 1+ -1 *(k:Int)).toNat]? =its[its.length - 1 - k]?
  have:((its.length:Int) - 1+ -1 *(k:Int)).toNat=its.length - 1 - k:=by omega
  rw[this];simp
 rw[ef]
theorem Vals.rev {xs:List V}{its:List Value} (r:Vals xs its):Vals xs.reverse its.reverse:=by
 induction r with
 | nil=>exact .nil
 | cons r1 _ ih=>
   rw[List.reverse_cons,List.reverse_cons]
   exact ih.append (.cons r1 .nil)
section
variable {X:Cx}{e st:Expr}{te ts:TE}{pos p2:Pos}
def ag2 (K:PySem.W.Frag):V->V->Hp->VK->Prop:=fun x y H Q=>∃a xs,x= .ref a/\y= .int (-1)/\SqL K H a xs/\∀p,H p=none->Q (.ref p) (upd H p (.lst xs.reverse))
def adS (K:PySem.W.Frag) (te ts:TE):TE:=fun σ H Q=>te σ H fun x H1=>ts σ H1 fun y H2=>ag2 K x y H2 Q
theorem aaS (he:PE X e te) (hst:PE X st ts):PE X (.Subscript e (.Slice none none (some st) p2) pos) (adS X.K te ts):=by
 intro pins s σ H Q I h
 refine Subscript_ (thn (he pins s σ H _ I h) fun v s1 ⟨x,H1,I1,r1,q1⟩=> ?_)
 refine wpAny_Slice ?_
 rw[evalPart_none]
 refine wpAny_pure ?_
 refine wpAny_pure ?_
 rw[evalPart_some]
 refine thn (hst pins s1 σ H1 _ I1 q1) fun vs s3 ⟨y,H3,I3,r3,q3⟩=> ?_
 obtain⟨a,xs,rfl,rfl,hx,q⟩:=q3
 obtain⟨t,rfl⟩:=r3
 cases r1
 have I4:Inv X pins σ H3 {s3 with heap:=s3.heap.push {cls:= .type "slice",data:= .fields #[.none, .none, .int (-1) t]}}:=I3.kept (t':=s3.toks) fun b ob q=>Heap.get?_push_of_some _ q
 obtain⟨its,r,ht,hz⟩:=I4.list hx
 have hlen:=r.length
 show wpAny (model X.prog X.w) X.A (subscriptTail e (.Slice none none (some st) p2) (.ref a) (.ref s3.heap.objs.size)) (EP X pins σ Q) X.xe {s3 with heap:=s3.heap.push {cls:= .type "slice",data:= .fields #[.none, .none, .int (-1) t]}}
 refine tail_any (ops:=[.ref a, .ref s3.heap.objs.size]) ht.isList.typeIs slot_list_getitem.lookup ?_ (by with_unfolding_all rfl)
 refine wpAny_getItem_list_slice ht.isList (Heap.IsSliceOf.new ..) .none .none (.int (-1) t) (by simp) ?_ (by rw[List.size_toArray]<;>omega)
 rw[FP]
 exact⟨.ref _,_,I4.laid (t':=s3.toks) (o:= .lst xs.reverse) (fun b ob q=>Heap.get?_push_of_some _ q) (Nat.le_refl _) ⟨by rw[List.length_reverse];exact hz,_,0,r.rev,Heap.get?_push_size _ rfl⟩,rfl,q _ (I4.hok.fresh (Nat.le_refl _))⟩
theorem R3 (he:QE X e te) (hs:QE X st ts):QE X (.Subscript e (.Slice none none (some st) p2) pos) (adS X.K te ts):=⟨aaS he.h hs.h⟩
end
end L2
namespace RB
open PySem L2 PySem.Spec PyProof.Rows
def Chn (r:R):Kn->List Rdp->Prop
 | _,[]=>True
 | kn,p::us=>ev kn r= .inl p.1/\Chn r (kn.put p.1 p.2) us
theorem Chn.le {r:R}:∀{us:List Rdp}{kn:Kn},Chn r kn us->Kn.Le kn (kn.puts us)
 |[],kn,_=>Kn.Le.refl _
 | p::us,kn,h=>(Kn.qz (m5 h.1)).trans (Chn.le (us:=us) h.2)
theorem Chn.up {a r:R}:∀{us:List Rdp}{kn:Kn},(∀kn' x,Kn.Le kn kn'->ev kn' a= .inl x->ev kn' r= .inl x)->Chn a kn us->Chn r kn us
 |[],_,_,_=>trivial
 | p::us,kn,h,g=>⟨h kn p.1 (Kn.Le.refl _) g.1,Chn.up (us:=us) (fun kn' x l e=>h kn' x ((Kn.qz (m5 g.1)).trans l) e) g.2⟩
theorem Kn.gO (kn:Kn) (us vs:List Rdp):kn.puts (us++vs)=(kn.puts us).puts vs:=by
 induction us generalizing kn with
 | nil=>rfl
 | cons u us ih=>exact ih _
theorem Chn.app {r:R}:∀{us vs:List Rdp}{kn:Kn},Chn r kn us->Chn r (kn.puts us) vs->Chn r kn (us++vs)
 |[],_,_,_,h=>h
 | p::us,vs,kn,g,h=>⟨g.1,Chn.app (us:=us) g.2 h⟩
end RB
namespace L2
open PySem PySem.Spec PyProof.Rows
def Itd (a:Addr) (o:Obj) (kvs:List (Key×V)):It where
 go:=fun i H=>i<kvs.length/\H a=some (.frz o (.dK kvs))
 yld:=fun i H x H'=>H'=H/\∃k v,kvs[i]? =some (k,v)/\x=kV k
 stop:=fun i H=>kvs.length<=i/\H a=some (.frz o (.dK kvs))
theorem Qg {P:Program}{w:World}{K:PySem.W.Frag}{tg:Expr}{a it:Addr}{o:Obj}{kvs:List (Key×V)}{vs:List (Key×Value)}{es:Array DictEntry}{ep:Nat} (hne:a≠it) (hkv:KV kvs vs) (hx:o.ExactDict) (hdat:o.data= .dict es ep) (hk:PySem.KeysOf (eV P w) es) (hp:Pairs (eV P w) es.toList vs) (hn:(vs.map (·.1)).Nodup):
 Turn P w K tg (Itd a o kvs) [it] it (fun i h=>h.IsKeyIter it a i kvs.length ep) where
 mem:=by simp
 obj:=fun i h st b hb=>by
  have e:b=it:=by simpa using hb
  subst e
  obtain⟨o,e,c,d⟩:=st
  exact⟨o,e,fun v z=>by rw[d] at z;cases z⟩
 keep:=fun i h h' st k=>st.at fun o e=>k it (by simp) o e
 item:=by
  intro X hP hw hK hc i pins s σ H E I hf st hg
  subst hP hw hK
  obtain⟨hi,hH⟩:=hg
  obtain⟨ho,_⟩:=(show dJ X.prog X.w H s.heap a (.frz o (.dK kvs)) from I.hok a _ hH)
  have hm:s.heap.DictAt (eV X.prog X.w) a vs ep:=⟨o,es,ho,hx,hdat,hk,hp,hn⟩
  obtain⟨hl,hat⟩:=BZ hkv
  have hi':i<vs.length:=by rw[<-hl];exact hi
  obtain⟨⟨k,x⟩,hxk⟩:∃p,vs[i]? =some p:=⟨vs[i],by simp[hi']⟩
  obtain⟨y,hy⟩:=hat i k x hxk
  obtain⟨f0,f1,f2,f3,f4,f5⟩:=hf it (by simp)
  rw[hl] at st
  refine wpAny_pyNext_dict_item st hm hxk fun key h' hkey hit' hs'=> ?_
  have I1:Inv X pins σ H {s with heap:=h'}:=I.turned (t':=s.toks) (fun b o hb e=>hs'.extBut b o hb e) f0 f1 f3 f4 f5
  obtain⟨o',e',c',d'⟩:=id hit'
  exact⟨key,rfl,Q6 (s:={s with heap:=h'}) e' c' d' (by decide) ⟨kV k,H,I1,HN hkey,⟨rfl,k,y,hy,rfl⟩,by rw[hl];exact hit',fun b hb=>(hf b hb).1⟩⟩
 done:=by
  intro X hP hw hK hc i pins s σ H E I hf st hg
  subst hP hw hK
  obtain⟨hi,hH⟩:=hg
  obtain⟨ho,_⟩:=(show dJ X.prog X.w H s.heap a (.frz o (.dK kvs)) from I.hok a _ hH)
  have hm:s.heap.DictAt (eV X.prog X.w) a vs ep:=⟨o,es,ho,hx,hdat,hk,hp,hn⟩
  obtain⟨hl,hat⟩:=BZ hkv
  obtain⟨f0,f1,f2,f3,f4,f5⟩:=hf it (by simp)
  rw[hl] at st
  exact wpAny_pyNext_dict_end (I.ok.hd hc) st hm (by rw[List.getElem?_eq_none_iff];omega) fun h' eb=>⟨rfl,I.turned (t':=s.toks) (fun b o hb e=>eb b o hb e) f0 f1 f3 f4 f5⟩
 self:=fun _ _ _ _ _ st h=>wpAny_pyIter_keyiter st h
section
variable {X:Cx}{tg:Expr}
def Yk (tl:TE):TI:=fun σ H R=>tl σ H fun x H1=>∃a kvs,x= .ref a/\H1 a=some (.dK kvs)/\∀o,R (Itd a o kvs) (upd H1 a (.frz o (.dK kvs)))
theorem V1 {l:Expr}{tl:TE} (hl:PE X l tl):PI X tg l (Yk tl):=by
 intro pins s σ H R I h
 refine thn (hl pins s σ H _ I h) fun v s1 ⟨x,H1,I1,r1,q1⟩=> ?_
 obtain⟨a,kvs,e,hq,q⟩:=q1
 subst e
 cases r1
 obtain⟨hz,lo,vs,hkv,hd⟩:=(show dJ X.prog X.w H1 s1.heap a (.dK kvs) from I1.hok a _ hq)
 obtain⟨o,es,ep,ho,hx,hdat,hk,hp,hn⟩:=id hd
 have hl:=(BZ hkv).1
 have I2:Inv X pins σ (upd H1 a (.frz o (.dK kvs))) {s1 with heap:=s1.heap,toks:=s1.toks}:=I1.write (x:=a) (e:=a) (h':=s1.heap) (by rw[hq];exact trivial) (.inl rfl) (fun b u _ e=>e) ⟨o,ho⟩ ⟨ho,hz,lo,vs,hkv,hd⟩
 refine wpAny_pyIter_dict lo ⟨o,es,ho,hx,hdat,hk,hp,hn⟩ ?_
 have hlt:a<s1.heap.objs.size:=Heap.lt_size ho
 rw[<-hl]
 refine⟨s1.heap.objs.size,[s1.heap.objs.size],_,_,_,rfl,I2.kept (t':=s1.toks) fun b o e=>Heap.get?_push_of_some _ e,Qg (Nat.ne_of_lt hlt) hkv hx hdat hk hp hn,⟨_,Heap.get?_push_size _ rfl,rfl,rfl⟩,fun b hb=> ?_,q o⟩
 have e:b=s1.heap.objs.size:=by simpa using hb
 subst e
 exact I2.Js (Nat.le_refl _) (I2.hok.fresh (Nat.le_refl _))
theorem V2 {l:Expr}{tl:TE} (hl:QE X l tl):QI X tg l (Yk tl):=⟨V1 hl.h⟩
end
theorem R4 {a:Addr}{o:Obj}{kvs:List (Key×V)}{g:TG}{tb:TS}{D:Ends}{σ:St}{H:Hp} (Pv:Nat->St->Hp->Prop) (h0:Pv 0 σ H) (hl:∀i σ H,i<=kvs.length->Pv i σ H->H a=some (.frz o (.dK kvs)))
 (hs:∀i k v σ H,kvs[i]? =some (k,v)->Pv i σ H->g (kV k) σ H fun σ2 H2=>tb {D with nx:=Pv (i+1),ct:=Pv (i+1),bk:=D.nx} σ2 H2) (hd:∀σ H,Pv kvs.length σ H->D.nx σ H):
 ∃W:Nat->Nat->St->Hp->Prop,(∃m,W 0 m σ H)/\∀i m σ H,W i m σ H->
  ((Itd a o kvs).stop i H/\D.nx σ H)\/((Itd a o kvs).go i H/\∃N:St->Hp->Prop,(∀σ' H',N σ' H'->∃m',m'<m/\W (i+1) m' σ' H')/\∀x H',(Itd a o kvs).yld i H x H'->g x σ H' fun σ2 H2=>tb {D with nx:=N,ct:=N,bk:=D.nx} σ2 H2):=by
 refine⟨fun i m σ H=>m=kvs.length - i/\i<=kvs.length/\Pv i σ H,⟨kvs.length,by simp,Nat.zero_le _,h0⟩, ?_⟩
 rintro i m σ H ⟨rfl,hi,p⟩
 have q:=hl i σ H hi p
 by_cases hlt:i<kvs.length
 ·refine .inr ⟨⟨hlt,q⟩,Pv (i+1),fun σ' H' p'=>⟨kvs.length - (i+1),by omega,rfl,hlt,p'⟩,fun x H' y=> ?_⟩
  obtain⟨e,k,v,hk,ex⟩:=y
  subst e ex
  exact hs i k v σ _ hk p
 ·have e:i=kvs.length:=by omega
  subst e
  exact .inl ⟨⟨Nat.le_refl _,q⟩,hd σ H p⟩
section
variable {X:Cx}
end
theorem R5 {κ:Type} [DecidableEq κ]:∀{vs:List (κ×Value)}{i:Nat}{k:κ}{u:Value},(vs.map (·.1)).Nodup->vs[i]? =some (k,u)->valueAt vs k=some u
 |[],i,k,u,_,h=>by simp at h
 | p::vs,i,k,u,hn,h=>by
   rw[List.map_cons,List.nodup_cons] at hn
   unfold valueAt
   cases i with
   | zero=>
     have:p=(k,u):=by simpa using h
     subst this
     simp
   | succ i=>
     have h':vs[i]? =some (k,u):=by simpa using h
     have hk:k∈vs.map (·.1):=List.mem_map.mpr ⟨(k,u),List.mem_of_getElem? h',rfl⟩
     have hne:¬p.1=k:=fun z=>hn.1 (z▸hk)
     have ih:=R5 hn.2 h'
     unfold valueAt at ih
     simp[hne] at ih ⊢
     exact ih
def HQ:V->Bool
 | .byt _=>false
 | .flt _=>false
 | _=>true
theorem Ea {A:Around}{s:Shared}{x:V}{u v:Value} (hx:HQ x=true) (r:RelV x u) (r':RelV x v):SeqAt.EqAt A s u v true:=by
 cases x with
 | int i=>obtain⟨t,rfl⟩:=r;obtain⟨t',rfl⟩:=r';have:=SeqAt.EqAt.int_int (A:=A) (s:=s) i t i t';simpa using this
 | str i=>obtain⟨t,rfl⟩:=r;obtain⟨t',rfl⟩:=r';have:=SeqAt.EqAt.str_str (A:=A) (s:=s) i t i t';simpa using this
 | non=>cases r;cases r';exact SeqAt.EqAt.same _
 | bl b=>cases r;cases r';exact SeqAt.EqAt.same _
 | ref a=>cases r;cases r';exact SeqAt.EqAt.same _
 | ty a=>cases r;cases r';exact SeqAt.EqAt.same _
 | byt a=>exact absurd (show false=true from hx) Bool.false_ne_true
 | flt a=>exact absurd (show false=true from hx) Bool.false_ne_true
theorem HR {κ:Type}:∀{kvs:List (κ×V)}{vs:List (κ×Value)},KV kvs vs->∀(i:Nat) (k:κ) (x:Value),vs[i]? =some (k,x)->∃y,kvs[i]? =some (k,y)/\RelV y x
 | _,_, .nil=>fun i k x h=>by simp at h
 | _,_, .cons (a:=p) (b:=q) h t=>fun i k x e=>by
   cases i with
   | zero=>cases e;exact⟨p.2,by rw[List.getElem?_cons_zero];cases p;simp only at h ⊢;rw[h.1],h.2⟩
   | succ i=>exact HR t i k x (by simpa using e)
theorem R6 {κ:Type}:∀{kvs:List (κ×V)}{vs:List (κ×Value)},KV kvs vs->∀(i:Nat) (k:κ) (y:V),kvs[i]? =some (k,y)->∃x,vs[i]? =some (k,x)/\RelV y x
 | _,_, .nil=>fun i k x h=>by simp at h
 | _,_, .cons (a:=p) (b:=q) h t=>fun i k x e=>by
   cases i with
   | zero=>cases e;exact⟨q.2,by rw[List.getElem?_cons_zero];cases q;simp only at h ⊢;rw[h.1],h.2⟩
   | succ i=>exact R6 t i k x (by simpa using e)
theorem HS {κ:Type} [DecidableEq κ] {A:Around}{s:Shared}{kb:List (κ×Value)}:∀{ka:List (κ×Value)},(∀k u,(k,u)∈ka->∃y,valueAt kb k=some y/\SeqAt.EqAt A s u y true)->PySem.W.KeqHits A s kb ka true
 |[],_=> .nil
 | (k,u)::r,h=>by
   obtain⟨y,h1,h2⟩:=h k u (by simp)
   exact PySem.W.KeqHits.hit (e:=true) (b:=true) h1 h2 (HS fun k u m=>h k u (by simp[m]))
def qC (P:Program) (w:World) (A:Around) (s:Shared) (y x:Value):Prop:=∀(E:Value->Shared->Prop) (Q:Bool->Shared->Prop),Q true s->wpAny (model P w) A (eqBool y x) Q E s
theorem qC.of {P:Program}{w:World}{A:Around}{s:Shared}{y x:Value} (h:SeqAt.EqAt A s y x true):qC P w A s y x:=fun E Q q=>h P w E Q q
theorem Mq {A:Around}{s:Shared}{P:Program}{w:World}{a b:Addr}{kvs:List (Key×V)}{va vb:List (Key×Value)} (la:(a==sysModules)=false) (lb:(b==sysModules)=false) (ka:KV kvs va) (kb:KV kvs vb) (da:s.heap.DictOf (eV P w) a va) (db:s.heap.DictOf (eV P w) b vb) (hpl:∀p∈kvs,HQ p.2=true) (hu:A.units<cLine):qC P w A s (.ref a) (.ref b):=fun E Q q=>by
 by_cases hab:a=b
 ·subst hab;exact SeqAt.EqAt.same (.ref a) P w E Q q
 have hn:(vb.map (·.1)).Nodup:=let ⟨_,_,_,_,_,_,_,_,hn⟩:=db;hn
 have hl:va.length=vb.length:=by rw[<-(BZ ka).1,<-(BZ kb).1]
 unfold eqBool
 refine wpAny_holding (wpAny_ite_split (fun z=>absurd (by have:=eq_of_beq z;injection this) hab) fun _=>wpAny_bind ?_)
 refine PySem.W.keq_eq (r:=true) la lb da db hu (fun _=>HS fun k u m=> ?_) (wpAny_truthy_bool ?_)
 ·obtain⟨i,hi⟩:=List.getElem?_of_mem m
  obtain⟨y,hy,ry⟩:=HR ka i k u hi
  obtain⟨x,hx,rx⟩:=R6 kb i k y hy
  exact⟨x,R5 hn hx,Ea (hpl (k,y) (List.mem_of_getElem? hy)) ry rx⟩
 ·rw[hl];simpa using q
def EqV (H:Hp) (x y:V):Prop:=(x=y/\HQ x=true)\/∃a b kvs,x= .ref a/\y= .ref b/\Rd H a (.dK kvs)/\Rd H b (.dK kvs)/\∀p∈kvs,HQ p.2=true
section
variable {X:Cx}
theorem Eb {ts:List Str}:∀{us:List Value},Vals (ts.map V.str) us->StrsAre us ts:=by
 induction ts with
 | nil=>intro us r;cases r;exact .nil
 | cons n ns ih=>
   intro us r
   rw[List.map_cons] at r
   cases r with
   | cons r1 r2=>
     obtain⟨t,e⟩:=r1
     subst e
     exact .cons n t (ih r2)
theorem GK:∀{us:List Value}{ts:List Str},StrsAre us ts->Vals (ts.map V.str) us
 | _,_, .nil=> .nil
 | _,_, .cons y t h=> .cons ⟨t,rfl⟩ (GK h)
end
end L2
namespace RB
open PySem L2 PySem.Spec PyProof.Rows
end RB
namespace L2
open PySem PySem.Spec PyProof.Rows
section
variable {X:Cx}{o e:Expr}{td ty:TE}{apos cpos:Pos}
end
end L2
namespace RB
open PySem L2 PySem.Spec PyProof.Rows
theorem GP {κ:Type} [DecidableEq κ] (kvs:List (κ×V)) (k:κ) (v:V):(putK kvs k v).map (·.1)=if(kvs.any fun kv=>decide (kv.1=k))=true then kvs.map (·.1) else kvs.map (·.1)++[k]:=by
 unfold putK
 split
 ·rw[List.map_map]
  apply List.map_congr_left
  intro p _
  show(if p.1=k then(p.1,v) else p).1=p.1
  split<;>rfl
 ·rw[List.map_append];rfl
theorem Qh {kvs:List (Key×V)}{ns:List Str} (h:kvs.map (·.1)=ns.map Sum.inr):kvs.map (fun kv=>kV kv.1)=ns.map V.str:=by
 have:kvs.map (fun kv=>kV kv.1)=(kvs.map (·.1)).map kV:=by rw[List.map_map];rfl
 rw[this,h,List.map_map];rfl
structure iz (kvs:List (Key×V)) (ks:List Str):Prop where
 k:kvs.map (·.1)=ks.map Sum.inr
 nd:ks.Nodup
theorem iz.len {kvs:List (Key×V)}{ks:List Str} (h:iz kvs ks):kvs.length=ks.length:=by
 have:=congrArg List.length h.k
 rwa [List.length_map,List.length_map] at this
theorem HW {kvs:List (Key×V)}{ks:List Str} (h:iz kvs ks) (x:Str):(kvs.any fun kv=>decide (kv.1=(.inr x:Key)))=decide (x∈ks):=by
 have e:(kvs.any fun kv=>decide (kv.1=(.inr x:Key)))=(kvs.map (·.1)).any (fun k=>decide (k=(.inr x:Key))):=by rw[List.any_map];rfl
 rw[e,h.k,List.any_map]
 clear e h
 induction ks with
 | nil=>rfl
 | cons y ks ih=>
   rw[List.any_cons,ih]
   by_cases hy:x=y
   ·subst hy;simp
   ·have:¬(y=x):=fun z=>hy z.symm
    simp[hy,this]
theorem iz.none {kvs:List (Key×V)}{ks:List Str} (h:iz kvs ks) {x:Str}:cI kvs (.inr x)=none ↔ x∉ks:=by
 have e:=HW h x
 rw[qY] at e
 constructor
 ·intro z m
  rw[z] at e
  simp[m] at e
 ·intro m
  cases z:cI kvs (.inr x) with
  | none=>rfl
  | some v=>rw[z] at e;simp[m] at e
theorem iz.tR {kvs:List (Key×V)}{ks:List Str} (h:iz kvs ks) {x:Str} (hx:x∉ks) (v:V):iz (putK kvs (.inr x) v) (ks++[x]):=by
 refine⟨?_, ?_⟩
 ·rw[GP,HW h x,decide_eq_false hx,if_neg (by decide),h.k,List.map_append];rfl
 ·rw[List.nodup_append]
  exact⟨h.nd,by simp,fun a ha b hb=>by
   have:b=x:=by simpa using hb
   rw[this];exact fun z=>hx (z▸ha)⟩
theorem iz.Bg {kvs:List (Key×V)}{ks:List Str} (h:iz kvs ks) {x:Str} (hx:x∈ks) (v:V):iz (putK kvs (.inr x) v) ks:=by
 refine⟨?_,h.nd⟩
 rw[GP,HW h x,decide_eq_true hx,if_pos rfl,h.k]
theorem R.In.mono {ns ms:List Str} (h:∀x∈ns,x∈ms):∀{r:R},r.In ns->r.In ms
 | .num _,_=>trivial
 | .rd _,i=>h _ i
 | .bin _ _ _,i=>⟨i.1.mono h,i.2.mono h⟩
 | .pick _ _ _,i=>⟨i.1.mono h,i.2.1.mono h,i.2.2.mono h⟩
 | .cho _ _,i=>⟨i.1.mono h,fun x hx=>h x (i.2 x hx)⟩
abbrev Rn:=Str->Option R
def Rn.put (rc:Rn) (x:Str) (r:R):Rn:=fun y=>if y=x then some r else rc y
section
variable {H:Hp}{kg kc:List (Key×V)}{n:Nat}{gv:Kn}{rc:Rn}
theorem mK {x y:Str} (h:¬x=y):¬(Sum.inr x:Key)=Sum.inr y:=fun z=>h (Sum.inr.inj z)
end
structure nj (r:R) (kn:Kn) (us:List Rdp) (v:Int):Prop where
 c:Chn r kn us
 e:ev (kn.puts us) r= .inr v
theorem V3 {n:Int}{kn:Kn}:nj (.num n) kn [] n:=⟨trivial,rfl⟩
theorem V4 {kn:Kn}{x:Str}{v:Int} (h:kn x=some v):nj (.rd x) kn [] v:=⟨trivial,by show look kn x=_;unfold look;rw[h]⟩
theorem V5 {kn:Kn}{x:Str}{v:Int} (h:kn x=none):nj (.rd x) kn [(x,v)] v:=by
 refine⟨⟨by show look kn x=_;unfold look;rw[h],trivial⟩, ?_⟩
 show look (kn.put x v) x=_
 unfold look Kn.put
 rw[if_pos rfl]
theorem V6 {op:Op}{a b:R}{kn:Kn}{us vs:List Rdp}{u v:Int} (ha:nj a kn us u) (hb:nj b (kn.puts us) vs v):nj (.bin op a b) kn (us++vs) (op.ap u v):=by
 have ua:∀kn' x,ev kn' a= .inl x->ev kn' (.bin op a b)= .inl x:=fun kn' x e=>by simp only[ev];rw[e]
 have ub:∀kn' x,Kn.Le (kn.puts us) kn'->ev kn' b= .inl x->ev kn' (.bin op a b)= .inl x:=fun kn' x l e=>by simp only[ev];rw[ni l ha.e];simp only;rw[e]
 exact⟨(ha.c.up fun kn' x _ e=>ua kn' x e).app (hb.c.up ub),by rw[Kn.gO];simp only[ev];rw[ni hb.c.le ha.e];simp only;rw[hb.e]⟩
theorem R7 {a b c:R}{kn:Kn}{us vs:List Rdp}{u v:Int} (ha:nj a kn us u) (hb:nj (if u>0 then b else c) (kn.puts us) vs v):nj (.pick a b c) kn (us++vs) v:=by
 have ua:∀kn' x,ev kn' a= .inl x->ev kn' (.pick a b c)= .inl x:=fun kn' x e=>by simp only[ev];rw[e]
 have e:∀kn':Kn,Kn.Le (kn.puts us) kn'->ev kn' (.pick a b c)=ev kn' (if u>0 then b else c):=fun kn' l=>by
  simp only[ev];rw[ni l ha.e];simp only;split<;>rfl
 exact⟨(ha.c.up fun kn' x _ e=>ua kn' x e).app (hb.c.up fun kn' x l z=>by rw[e kn' l];exact z),by rw[Kn.gO,e _ hb.c.le];exact hb.e⟩
theorem V7 {a:R}{ns:List Str}{x:Str}{kn:Kn}{us vs:List Rdp}{u v:Int} (ha:nj a kn us u) (hx:pK ns u=some x) (hb:nj (.rd x) (kn.puts us) vs v):nj (.cho a ns) kn (us++vs) v:=by
 have ua:∀kn' x,ev kn' a= .inl x->ev kn' (.cho a ns)= .inl x:=fun kn' x e=>by simp only[ev];rw[e]
 have e:∀kn':Kn,Kn.Le (kn.puts us) kn'->ev kn' (.cho a ns)=ev kn' (.rd x):=fun kn' l=>by
  simp only[ev];rw[ni l ha.e];simp only;rw[hx]
 exact⟨(ha.c.up fun kn' x _ e=>ua kn' x e).app (hb.c.up fun kn' x l z=>by rw[e kn' l];exact z),by rw[Kn.gO,e _ hb.c.le];exact hb.e⟩
theorem zA {x:Str}{u:Int}:∀{ps:List Rdp}{kn:Kn},kn.puts ps x=some u->(x,u)∈ps\/kn x=some u
 |[],kn,h=> .inr h
 | p::ps,kn,h=>by
   rcases zA (ps:=ps) h with z | z
   ·exact .inl (List.mem_cons_of_mem _ z)
   ·unfold Kn.put at z
    by_cases e:x=p.1
    ·rw[if_pos e] at z
     left
     have:p=(x,u):=by rw[e];exact Prod.ext rfl (Option.some.inj z)
     rw[this];simp
    ·rw[if_neg e] at z;exact .inr z
theorem Ec {x:Str}:∀{ps:List Rdp}{kn:Kn},kn.puts ps x=none->x∉ps.map (·.1)/\kn x=none
 |[],kn,h=>⟨by simp,h⟩
 | p::ps,kn,h=>by
   obtain⟨z1,z2⟩:=Ec (ps:=ps) h
   unfold Kn.put at z2
   by_cases e:x=p.1
   ·rw[if_pos e] at z2;cases z2
   ·rw[if_neg e] at z2
    exact⟨by rw[List.map_cons,List.mem_cons];exact fun w=>w.elim e z1,z2⟩
structure Rows (kn:Kn) (ps:List Rdp):Prop where
 s:∀p∈ps,kn p.1=some p.2
 nd:(ps.map (·.1)).Nodup
theorem Rows.le {kn kn':Kn}{ps:List Rdp} (h:Rows kn ps) (l:Kn.Le kn kn'):Rows kn' ps:=⟨fun p hp=>l _ _ (h.s p hp),h.nd⟩
theorem dH:∀{ws ns:List Str},ws.Nodup->(∀x∈ws,x∈ns)->ws.length<=ns.length
 |[],_,_,_=>Nat.zero_le _
 | w::ws,ns,nd,h=>by
   rw[List.nodup_cons] at nd
   have hw:=h w (by simp)
   have ih:=dH (ws:=ws) (ns:=ns.erase w) nd.2 fun x hx=>by
    have hne:x≠w:=fun e=>nd.1 (by rw[<-e];exact hx)
    exact(List.mem_erase_of_ne hne).mpr (h x (by simp[hx]))
   rw[List.length_erase_of_mem hw] at ih
   have:=List.length_pos_of_mem hw
   simp only[List.length_cons]
   omega
theorem Rows.look {kn:Kn}{ps:List Rdp}{x:Str}{v:Int} (h:Rows kn ps) (hx:kn x=some v):if(x,v)∈ps then nj (.rd x) (kn0.puts ps) [] v else nj (.rd x) (kn0.puts ps) [(x,v)] v/\Rows kn (ps++[(x,v)]):=by
 by_cases hm:(x,v)∈ps
 ·rw[if_pos hm]
  cases e:kn0.puts ps x with
  | none=>exact absurd (List.mem_map.mpr ⟨_,hm,rfl⟩) (Ec e).1
  | some u=>
    rcases zA e with z | z
    ·have:=h.s _ z
     rw[hx] at this
     cases this
     exact V4 e
    ·cases z
 ·rw[if_neg hm]
  have hn:kn0.puts ps x=none:=by
   cases e:kn0.puts ps x with
   | none=>rfl
   | some u=>
     rcases zA e with z | z
     ·have:=h.s _ z
      rw[hx] at this
      cases this
      exact absurd z hm
     ·cases z
  refine⟨V5 hn,fun p hp=> ?_, ?_⟩
  ·rcases List.mem_append.mp hp with z | z
   ·exact h.s p z
   ·have:p=(x,v):=by simpa using z
    rw[this];exact hx
  ·rw[List.map_append,List.nodup_append]
   exact⟨h.nd,by simp,fun a ha b hb=>by
    have:b=x:=by simpa using hb
    rw[this];exact fun z=>(Ec hn).1 (z▸ha)⟩
abbrev Rm:=Str->Option (R×List Rdp×Int)
def Rm.put (rm:Rm) (x:Str) (q:R×List Rdp×Int):Rm:=fun y=>if y=x then some q else rm y
def vD (X:List Addr) (H:Hp) (b:Addr) (q:R×List Rdp×Int):Prop:=∃br l as,H b=some (.tup [.ref br, .ref l, .int q.2.2])/\IsR H br q.1/\H l=some (.lst (as.map V.ref))/\j8 H as q.2.1/\l∉X
section
variable {X:List Addr}{H H':Hp}{st wd rd:Addr}{n:Nat}{gv:Kn}{rc:Rn}{kn:Kn}{rm:Rm}
theorem vD.but {S:List Addr}{b:Addr}{q:R×List Rdp×Int} (h:vD X H b q) (bt:But S H H') (tp:lg H H') (hs:∀y∈S,y∈X\/∀xs,H y≠some (.lst xs)):vD X H' b q:=by
 obtain⟨br,l,as,e,r,el,rs,hx⟩:=h
 exact⟨br,l,as,tp _ _ e,r.tups tp,bt _ _ (fun z=>(hs l z).elim hx fun w=>w _ el) el,rs.tups tp,hx⟩
end
section
variable {H:Hp}{s l h:Addr}{du wr:V}
end
section
variable {H H':Hp}{s l h:Addr}{kn:Kn}{ps:List Rdp}
end
def rdD (p:Rdp):PyData:= .tuple [.str p.1, .int p.2]
theorem GQ {K:PySem.W.Frag}{H:Hp}:∀{as:List Addr}{ps:List Rdp},j8 H as ps->uJ K H (as.map V.ref) (ps.map rdD)
 | _,_, .nil=> .nil
 | _,_, .cons h t=> .cons (.tup (SqT.of h) (.cons (.str _) (.cons (.int _) .nil))) (GQ t)
theorem N8:∀ps:List Rdp,(∀p∈ps,m8 p.1)->PyData.canLayAll0 (ps.map rdD)=true/\PyData.depthAll (ps.map rdD)<=4
 |[],_=>⟨rfl,by decide⟩
 | p::r,h=>by
   obtain⟨h1,h2⟩:=N8 r fun y hy=>h y (List.mem_cons_of_mem _ hy)
   have hs:=tQ (h p List.mem_cons_self)
   constructor
   ·show((PyData.strOk p.1&&(true&&true))&&PyData.canLayAll0 _)=true
    rw[h1,hs];rfl
   ·have e1:(rdD p).depth<=4:=by simp only[rdD,PyData.depthAll,PyData.depth];omega
    simp only[List.map_cons,PyData.depthAll]
    omega
theorem zB {ns:List Str}:∀{r:R}{kn:Kn}{x:Str},r.In ns->ev kn r= .inl x->x∈ns
 | .num n,kn,x,i,h=>by cases h
 | .rd y,kn,x,i,h=>by obtain⟨rfl,_⟩:=rB h;exact i
 | .bin op a b,kn,x,i,h=>by
   simp only[ev] at h
   cases ea:ev kn a with
   | inl y=>rw[ea] at h;cases h;exact zB i.1 ea
   | inr u=>
     rw[ea] at h
     cases eb:ev kn b with
     | inl y=>rw[eb] at h;cases h;exact zB i.2 eb
     | inr v=>rw[eb] at h;cases h
 | .pick a b c,kn,x,i,h=>by
   simp only[ev] at h
   cases ea:ev kn a with
   | inl y=>rw[ea] at h;cases h;exact zB i.1 ea
   | inr u=>
     rw[ea] at h
     simp only at h
     split at h
     ·exact zB i.2.1 h
     ·exact zB i.2.2 h
 | .cho a ms,kn,x,i,h=>by
   simp only[ev] at h
   cases ea:ev kn a with
   | inl y=>rw[ea] at h;cases h;exact zB i.1 ea
   | inr u=>
     rw[ea] at h
     simp only at h
     cases ep:pK ms u with
     | none=>rw[ep] at h;cases h
     | some y=>
       rw[ep] at h
       obtain⟨rfl,_⟩:=rB h
       exact i.2 _ (List.mem_of_getElem? ep)
section
variable {X:List Addr}{H:Hp}{h g c st wd rd:Addr}{n:Nat}{gv:Kn}{rc:Rn}{kn:Kn}{rm:Rm}
theorem zE {d:Addr}{kvs:List (Key×V)}{o:HO} (e:H d=some (.dK kvs)):lg H (upd H d o):=fun y xs z=>(ao (fun w=>by rw[w,e] at z;cases z)).trans z
theorem Dd {kw:List (Key×V)} (v4:∀y,cI kw (.inr y)=(kn y).map V.int) (x:Str) (v:Int):∀y,cI (putK kw (.inr x) (.int v)) (.inr y)=((kn.put x v) y).map V.int:=fun y=>by
 rw[jy]
 unfold Kn.put
 by_cases z:y=x
 ·rw[if_pos (by rw[z]),if_pos z];rfl
 ·rw[if_neg (mK z),if_neg z];exact v4 y
theorem vD.dk {b:Addr}{q:R×List Rdp×Int} (r:vD X H b q) {d:Addr}{kvs:List (Key×V)}{o:HO} (e:H d=some (.dK kvs)):vD X (upd H d o) b q:=r.but (S:=[d]) (But.set _ (by simp)) (zE e) (fun y hy=> .inr fun xs w=>by
 have:y=d:=by simpa using hy
 rw[this,e] at w;cases w)
end
theorem R8 {r:R}{ns:List Str} (hi:r.In ns):∀{ps:List Rdp}{kn:Kn},Chn r kn ps->∀p∈ps,p.1∈ns
 |[],_,_,p,hp=>by cases hp
 | q::ps,kn,c,p,hp=>by
   rcases List.mem_cons.mp hp with z | z
   ·rw[z];exact zB hi c.1
   ·exact R8 hi (ps:=ps) c.2 p z
theorem vD.same {X:List Addr}{H H':Hp}{b:Addr}{q:R×List Rdp×Int} (r:vD X H b q) (s:aN H H'):vD X H' b q:=r.but (S:=[]) (But.of_same s) (aN.tups s) (by simp)
theorem iz.at {kvs:List (Key×V)}{ks:List Str} (h:iz kvs ks) {i:Nat}{k:Key}{v:V} (e:kvs[i]? =some (k,v)):∃x,k= .inr x/\ks[i]? =some x:=by
 have h1:(kvs.map (·.1))[i]? =some k:=by rw[List.getElem?_map,e];rfl
 rw[h.k,List.getElem?_map] at h1
 cases z:ks[i]? with
 | none=>rw[z] at h1;cases h1
 | some x=>rw[z] at h1;exact⟨x,(Option.some.inj h1).symm,rfl⟩
theorem again {r:R}{kn:Kn}{v:Int}:∀(k:Nat) {ps qs:List Rdp}{kn1:Kn},Chn r kn1 ps->Chn r kn1 qs->ev (kn1.puts qs) r= .inr v->(∀q∈qs,kn q.1=some q.2)->(∀(j:Nat) p,j<k->ps[j]? =some p->kn p.1=some p.2)->∀p,ps[k]? =some p->∃u,kn p.1=some u
 | k,[],qs,kn1,cp,cq,e,hq,hj,p,hp=>by simp at hp
 | k,q0::ps,[],kn1,cp,cq,e,hq,hj,p,hp=>by
   have h1:=cp.1
   have e:ev kn1 r= .inr v:=e
   rw[e] at h1;cases h1
 | 0,q0::ps,q::qs,kn1,cp,cq,e,hq,hj,p,hp=>by
   have:q0=p:=by simpa using hp
   subst this
   have h1:=cp.1
   rw[cq.1] at h1
   have:q.1=q0.1:=Sum.inl.inj h1
   exact⟨q.2,by rw[<-this];exact hq q (by simp)⟩
 | k+1,q0::ps,q::qs,kn1,cp,cq,e,hq,hj,p,hp=>by
   have h1:=cp.1
   rw[cq.1] at h1
   have e1:q.1=q0.1:=Sum.inl.inj h1
   have h2:=hj 0 q0 (by omega) rfl
   have h3:=hq q (by simp)
   rw[e1,h2] at h3
   have e2:q0.2=q.2:=Option.some.inj h3
   have cq2:=cq.2
   have ee:ev ((kn1.put q.1 q.2).puts qs) r= .inr v:=e
   rw[e1,<-e2] at cq2 ee
   exact again k cp.2 cq2 ee (fun y hy=>hq y (by simp[hy])) (fun j p' hj' hp'=>hj (j+1) p' (by omega) (by simpa using hp')) p (by simpa using hp)
theorem xg {r:R}:∀{ps:List Rdp}{kn:Kn},Chn r kn ps->(∀p∈ps,kn p.1=none)/\(ps.map (·.1)).Nodup
 |[],_,_=>⟨by simp,by simp⟩
 | q::ps,kn,c=>by
   obtain⟨h1,h2⟩:=xg (ps:=ps) c.2
   have h0:=m5 c.1
   have h3:∀p∈ps,p.1≠q.1/\kn p.1=none:=fun p hp=>by
    have:=h1 p hp
    unfold Kn.put at this
    by_cases z:p.1=q.1
    ·rw[if_pos z] at this;cases this
    ·rw[if_neg z] at this;exact⟨z,this⟩
   refine⟨fun p hp=> ?_, ?_⟩
   ·rcases List.mem_cons.mp hp with z | z
    ·rw[z];exact h0
    ·exact(h3 p z).2
   ·rw[List.map_cons,List.nodup_cons]
    refine⟨fun hm=> ?_,h2⟩
    obtain⟨p,hp,e⟩:=List.mem_map.mp hm
    exact(h3 p hp).1 e
theorem Ed {kvs:List (Key×V)}{ks:List Str} (h:iz kvs ks) {k:Key}{v:V} (m:(k,v)∈kvs):cI kvs k=some v:=by
 obtain⟨i,hi⟩:=List.getElem?_of_mem m
 have nd:(kvs.map (·.1)).Nodup:=by
  rw[h.k]
  exact List.Pairwise.map _ (fun a b (e:a≠b) (z:(Sum.inr a:Key)=Sum.inr b)=>e (Sum.inr.inj z)) h.nd
 clear h
 induction kvs generalizing i with
 | nil=>cases m
 | cons q r ih=>
   rw[List.map_cons,List.nodup_cons] at nd
   rcases List.mem_cons.mp m with z | z
   ·rw[<-z];exact iR rfl
   ·have hne:¬q.1=k:=fun w=>nd.1 (by rw[w];exact List.mem_map.mpr ⟨_,z,rfl⟩)
    rw[iT hne]
    obtain⟨j,hj⟩:=List.getElem?_of_mem z
    exact ih z j hj nd.2
end RB
namespace L2
open PySem PySem.Spec PyProof.Rows
section
variable {prog:Program}{w:World}{A:Around}{E:Value->Shared->Prop}{s:Shared}
theorem HX {j t:Addr}{k:Nat}{vs:Array Value}{v:Value}{Q:Value->Shared->Prop} (hj:IsTupIter s.heap j t k) (ht:IsTup s.heap t vs) (hv:vs[k]? =some v)
 (q:∀g,IsTupIter g j t (k+1)->Heap.SameBut j s.heap g->Q v {s with heap:=g}):wpAny (model prog w) A (Builtin.SmallTypes.nextOf (.ref j)) Q E s:=by
 have ty:=hj.typeIs
 obtain⟨oj,ej,cj,dj⟩:=hj
 obtain⟨ot,et,_,nt,dt⟩:=ht
 unfold Builtin.SmallTypes.nextOf
 refine wpAny_bind (wpAny_callSpecial?_slot (name:=Str.ofString "__next__") ty slot_tupleiter_next (wpAny_call_entry slot_tupleiter_next ty entry_tupleiter_next ?_ (args_tupleiter_next _)))
 show wpAny _ _ (field (.ref j) 0>>=_) _ _ s
 refine wpAny_bind (wpAny_field ej dj (x:= .ref t) rfl ?_)
 show wpAny _ _ (if(Value.ref t==Value.none)=true then _ else _) _ _ _
 rw[if_neg (by intro z;cases z)]
 show wpAny _ _ (field (.ref j) 1>>=_) _ _ s
 refine wpAny_bind (wpAny_field ej dj (x:= .int k 0) rfl ?_)
 show wpAny _ _ (seqItems? (.ref t)>>=_) _ _ _
 refine wpAny_bind (wpAny_seqItems et dt ?_)
 simp only[hv,Int.toNat_natCast]
 refine wpAny_bind (wpAny_setField ej dj (by simp) (wpAny_pure ⟨v,rfl,wpAny_pure (q _ ?_ (Heap.SameBut.update ..))⟩))
 refine⟨_,Heap.get?_update_self _ ej (Obj.isFreed_of_fields (Obj.data_mapFields dj _)),(Obj.cls_mapFields ..).trans cj, ?_⟩
 rw[Obj.data_mapFields dj];simp[rawInt]
theorem Oa {j t:Addr}{k:Nat}{vs:Array Value}{Q:Value->Shared->Prop} (hA:A.handled=none) (hj:IsTupIter s.heap j t k) (ht:IsTup s.heap t vs) (hv:vs[k]? =none)
 (q:∀g b,Heap.ExtBut j s.heap g->(∃ob,g.get? b=some ob/\ob.cls= .type "StopIteration")->E (.ref b) {s with heap:=g}):wpAny (model prog w) A (Builtin.SmallTypes.nextOf (.ref j)) Q E s:=by
 have ty:=hj.typeIs
 obtain⟨oj,ej,cj,dj⟩:=hj
 obtain⟨ot,et,_,nt,dt⟩:=ht
 unfold Builtin.SmallTypes.nextOf
 refine wpAny_bind (wpAny_callSpecial?_slot (name:=Str.ofString "__next__") ty slot_tupleiter_next (wpAny_call_entry slot_tupleiter_next ty entry_tupleiter_next ?_ (args_tupleiter_next _)))
 show wpAny _ _ (field (.ref j) 0>>=_) _ _ s
 refine wpAny_bind (wpAny_field ej dj (x:= .ref t) rfl ?_)
 show wpAny _ _ (if(Value.ref t==Value.none)=true then _ else _) _ _ _
 rw[if_neg (by intro z;cases z)]
 show wpAny _ _ (field (.ref j) 1>>=_) _ _ s
 refine wpAny_bind (wpAny_field ej dj (x:= .int k 0) rfl ?_)
 show wpAny _ _ (seqItems? (.ref t)>>=_) _ _ _
 refine wpAny_bind (wpAny_seqItems et dt ?_)
 simp only[hv,Int.toNat_natCast]
 refine wpAny_bind (wpAny_rule (wpAny_bind (wpAny_setField ej dj (by simp) ?_)))
 show wpAny _ _ (newExc (.type "StopIteration") []>>=_) _ _ _
 refine wpAny_bind ?_
 simp only[newTuple,newExc]
 refine wpAny_bind (wpAny_newObj_type ?_ (by size_fits))
 refine wpAny_bind (m:=firstArgMember _ _) (wpAny_of_eq (a:=Value.none) (by first | rfl | (unfold firstArgMember;rfl)) ?_)
 refine wpAny_newObj_type ?_ (by size_fits)
 simp only[raiseNew]
 refine wpAny_bind (wpAny_handled ?_)
 first | rw[hA] | rw[show A.in1.handled=none from hA]
 exact wpAny_bind (wpAny_pure (wpAny_throw (q _ _ (((Heap.SameBut.update ..).extBut.push _).push _) ⟨_,Heap.get?_push_size _ rfl,rfl⟩)))
theorem R9 {z TI TO i j a b:Addr}{k:Nat}{xs ys:Array Value}{x y p q:Value}{Q:Value->Shared->Prop} (D:ZipApart z TI TO i j a b)
 (ez:IsZip s.heap z TI TO .none) (eI:IsPair s.heap TI (.ref i) (.ref j)) (eO:IsPair s.heap TO p q) (ei:IsTupIter s.heap i a k) (ej:IsTupIter s.heap j b k) (ea:IsTup s.heap a xs) (eb:IsTup s.heap b ys)
 (hx:xs[k]? =some x) (hy:ys[k]? =some y)
 (r:∀g,IsZip g z TI TO (rawInt s.heap.objs.size)->IsPair g TO x y->IsTupIter g i a (k+1)->IsTupIter g j b (k+1)->IsPair g s.heap.objs.size x y->g.objs.size=s.heap.objs.size+1->
   (∀c o,c∉[z,TO,i,j]->s.heap.get? c=some o->g.get? c=some o)->Q (.ref s.heap.objs.size) {s with heap:=g}):
 wpAny (model prog w) A (Builtin.«zip.__next__» ⟨[.ref z],[]⟩) (fun f s'=>∃v,f= .done (.ret v)/\Q v s') E s:=by
 show wpAny _ _ (field (.ref z) 2>>=_) _ _ s
 refine wpAny_bind (wpAny_field ez rfl (x:= .bool false) rfl ?_)
 show wpAny _ _ (field (.ref z) 3>>=_) _ _ s
 refine wpAny_bind (wpAny_field ez rfl (x:= .ref TI) rfl (wpAny_bind (wpAny_seqItems eI rfl ?_)))
 show wpAny _ _ (Builtin.SmallTypes.ownedTupleIsFree (.ref z)>>=_) _ _ s
 refine wpAny_bind ?_
 unfold Builtin.SmallTypes.ownedTupleIsFree;refine wpAny_bind (wpAny_field ez rfl (x:= .none) rfl (wpAny_pure ?_))
 simp only[if_true]
 refine wpAny_bind (wpAny_rule (wpAny_bind (wpAny_field ez rfl (x:= .ref TO) rfl (wpAny_bind (wpAny_setField_rec ez (by simp) fun g1 z1 b1=> ?_)))))
 have z1':IsZip g1 z TI TO .ellipsis:=z1
 refine wpAny_bind ?_
 simp only[List.forIn_cons,List.forIn_nil,List.zipIdx_cons,List.zipIdx_nil]
 refine wpAny_bind (wpAny_bind (wpAny_onRaise ?_))
 show wpAny _ _ (Builtin.SmallTypes.nextOf (.ref i)>>=_) _ _ _
 refine wpAny_bind (HX (ei.extBut b1.extBut D.i1z) (ea.extBut b1.extBut D.l1z) hx fun g2 i2 b2=>wpAny_pure ?_)
 have o2:IsPair g2 TO p q:=b2.extBut _ _ D.TOi1 (b1.extBut _ _ D.TOz eO)
 refine wpAny_bind (wpAny_seqItems o2 rfl (wpAny_bind (wpAny_updateSeq_pair o2 fun g3 o3 b3=> ?_)))
 have o3':IsPair g3 TO x q:=o3
 refine wpAny_bind (wpAny_letGo (wpAny_pure (wpAny_bind (wpAny_bind (wpAny_onRaise ?_)))))
 show wpAny _ _ (Builtin.SmallTypes.nextOf (.ref j)>>=_) _ _ _
 refine wpAny_bind (HX (((ej.extBut b1.extBut D.i2z).extBut b2.extBut D.i12.symm).extBut b3.extBut D.TOi2.symm) (((eb.extBut b1.extBut D.l2z).extBut b2.extBut D.l2i1).extBut b3.extBut D.l2TO) hy fun g4 j4 b4=>wpAny_pure ?_)
 have o4:IsPair g4 TO x q:=b4.extBut _ _ D.TOi2 o3'
 refine wpAny_bind (wpAny_seqItems o4 rfl (wpAny_bind (wpAny_updateSeq_pair o4 fun g5 o5 b5=> ?_)))
 have o5':IsPair g5 TO x y:=o5
 refine wpAny_bind (wpAny_letGo (wpAny_pure (wpAny_pure (wpAny_bind (wpAny_seqItems o5' rfl (wpAny_bind (wpAny_newTuple ?_)))))))
 have sz:g5.objs.size=s.heap.objs.size:=by rw[b5.1,b4.1,b3.1,b2.1,b1.1]
 have z5:IsZip g5 z TI TO .ellipsis:=b5.extBut _ _ D.TOz.symm (b4.extBut _ _ D.i2z.symm (b3.extBut _ _ D.TOz.symm (b2.extBut _ _ D.i1z.symm z1')))
 have k5:∀c o,c∉[z,TO,i,j]->s.heap.get? c=some o->g5.get? c=some o:=fun c o hc e=>by
  simp only[List.mem_cons,List.not_mem_nil,or_false,not_or] at hc
  exact b5.extBut _ _ hc.2.1 (b4.extBut _ _ hc.2.2.2 (b3.extBut _ _ hc.2.1 (b2.extBut _ _ hc.2.2.1 (b1.extBut _ _ hc.1 e))))
 have i5:IsTupIter g5 i a (k+1):=((i2.extBut b3.extBut D.TOi1.symm).extBut b4.extBut D.i12).extBut b5.extBut D.TOi1.symm
 have j5:IsTupIter g5 j b (k+1):=j4.extBut b5.extBut D.TOi2.symm
 have lz:g5.objs.size≠z:=Nat.ne_of_gt (Heap.lt_size z5)
 show wpAny _ _ (Builtin.SmallTypes.ownedTupleHandOut (.ref z) (.ref g5.objs.size)>>=_) _ _ _
 refine wpAny_bind ?_
 unfold Builtin.SmallTypes.ownedTupleHandOut;refine wpAny_bind (wpAny_setField_rec (Heap.get?_push_of_some _ z5) (by simp) fun g7 z7 b7=> ?_)
 have z7':IsZip g7 z TI TO (rawInt g5.objs.size):=z7
 refine wpAny_setField_rec z7' (by simp) fun g8 z8 b8=> ?_
 have z8':IsZip g8 z TI TO (rawInt g5.objs.size):=z8
 have up:∀c o,c≠z->g5.get? c=some o->g8.get? c=some o:=fun c o hc e=>b8.extBut _ _ hc (b7.extBut _ _ hc (Heap.get?_push_of_some _ e))
 have t8:IsPair g8 g5.objs.size x y:=b8.extBut _ _ lz (b7.extBut _ _ lz (Heap.get?_push_size _ rfl))
 have s8:g8.objs.size=g5.objs.size+1:=by rw[b8.1,b7.1,Heap.size_push]
 rw[sz] at z8' t8 s8
 refine wpAny_pure ⟨_,rfl, ?_⟩
 show Q (.ref g5.objs.size) _
 rw[sz]
 obtain⟨oi,qi,ri⟩:=i5
 obtain⟨oj,qj,rj⟩:=j5
 exact r g8 z8' (up _ _ D.TOz o5') ⟨oi,up _ _ D.i1z qi,ri⟩ ⟨oj,up _ _ D.i2z qj,rj⟩ t8 s8 fun c o hc e=>up c o (fun h=>hc (by simp[h])) (k5 c o hc e)
theorem Sg {z TI TO i j a b:Addr}{k:Nat}{xs ys:Array Value}{p q:Value}{Q:Fin->Shared->Prop} (hA:A.handled=none) (D:ZipApart z TI TO i j a b)
 (ez:IsZip s.heap z TI TO .none) (eI:IsPair s.heap TI (.ref i) (.ref j)) (eO:IsPair s.heap TO p q) (ei:IsTupIter s.heap i a k) (ej:IsTupIter s.heap j b k) (ea:IsTup s.heap a xs) (eb:IsTup s.heap b ys)
 (hend:xs[k]? =none\/ys[k]? =none)
 (r:∀g u,(∀c o,c∉[z,TO,i,j]->s.heap.get? c=some o->g.get? c=some o)->(∃o,g.get? u=some o/\o.cls= .type "StopIteration")->E (.ref u) {s with heap:=g}):
 wpAny (model prog w) A (Builtin.«zip.__next__» ⟨[.ref z],[]⟩) Q E s:=by
 show wpAny _ _ (field (.ref z) 2>>=_) _ _ s
 refine wpAny_bind (wpAny_field ez rfl (x:= .bool false) rfl ?_)
 show wpAny _ _ (field (.ref z) 3>>=_) _ _ s
 refine wpAny_bind (wpAny_field ez rfl (x:= .ref TI) rfl (wpAny_bind (wpAny_seqItems eI rfl ?_)))
 show wpAny _ _ (Builtin.SmallTypes.ownedTupleIsFree (.ref z)>>=_) _ _ s
 refine wpAny_bind ?_
 unfold Builtin.SmallTypes.ownedTupleIsFree;refine wpAny_bind (wpAny_field ez rfl (x:= .none) rfl (wpAny_pure ?_))
 simp only[if_true]
 refine wpAny_bind (wpAny_rule (wpAny_bind (wpAny_field ez rfl (x:= .ref TO) rfl (wpAny_bind (wpAny_setField_rec ez (by simp) fun g1 z1 b1=> ?_)))))
 have z1':IsZip g1 z TI TO .ellipsis:=z1
 refine wpAny_bind ?_
 simp only[List.forIn_cons,List.forIn_nil,List.zipIdx_cons,List.zipIdx_nil]
 refine wpAny_bind (wpAny_bind (wpAny_onRaise ?_))
 show wpAny _ _ (Builtin.SmallTypes.nextOf (.ref i)>>=_) _ _ _
 have nz:∀{g:Heap}{u o},IsZip g z TI TO .ellipsis->g.get? u=some o->o.cls= .type "StopIteration"->u≠z:=fun hz hu hc h=>by subst h;rw[hz] at hu;cases hu;simp at hc
 cases hx:xs[k]? with
 | none=>
   refine wpAny_bind (Oa hA (ei.extBut b1.extBut D.i1z) (ea.extBut b1.extBut D.l1z) hx fun g2 u b2 ⟨ou,hou,hcu⟩=> ?_)
   have z2:IsZip g2 z TI TO .ellipsis:=b2 _ _ D.i1z.symm z1'
   refine wpAny_setField_rec z2 (by simp) fun g3 _ b3=>r g3 u (fun c o hc e=> ?_) ⟨ou,b3.extBut _ _ (nz z2 hou hcu) hou,hcu⟩
   simp only[List.mem_cons,List.not_mem_nil,or_false,not_or] at hc
   exact b3.extBut _ _ hc.1 (b2 _ _ hc.2.2.1 (b1.extBut _ _ hc.1 e))
 | some x=>
   have hy:ys[k]? =none:=by rcases hend with h | h;exact absurd (hx.symm.trans h) (by simp);exact h
   refine wpAny_bind (HX (ei.extBut b1.extBut D.i1z) (ea.extBut b1.extBut D.l1z) hx fun g2 i2 b2=>wpAny_pure ?_)
   have o2:IsPair g2 TO p q:=b2.extBut _ _ D.TOi1 (b1.extBut _ _ D.TOz eO)
   refine wpAny_bind (wpAny_seqItems o2 rfl (wpAny_bind (wpAny_updateSeq_pair o2 fun g3 o3 b3=> ?_)))
   refine wpAny_bind (wpAny_letGo (wpAny_pure (wpAny_bind (wpAny_bind (wpAny_onRaise ?_)))))
   show wpAny _ _ (Builtin.SmallTypes.nextOf (.ref j)>>=_) _ _ _
   refine wpAny_bind (Oa hA (((ej.extBut b1.extBut D.i2z).extBut b2.extBut D.i12.symm).extBut b3.extBut D.TOi2.symm) (((eb.extBut b1.extBut D.l2z).extBut b2.extBut D.l2i1).extBut b3.extBut D.l2TO) hy fun g4 u b4 ⟨ou,hou,hcu⟩=> ?_)
   have z4:IsZip g4 z TI TO .ellipsis:=b4 _ _ D.i2z.symm (b3.extBut _ _ D.TOz.symm (b2.extBut _ _ D.i1z.symm z1'))
   refine wpAny_setField_rec z4 (by simp) fun g5 _ b5=>r g5 u (fun c o hc e=> ?_) ⟨ou,b5.extBut _ _ (nz z4 hou hcu) hou,hcu⟩
   simp only[List.mem_cons,List.not_mem_nil,or_false,not_or] at hc
   exact b5.extBut _ _ hc.1 (b4 _ _ hc.2.2.2 (b3.extBut _ _ hc.2.1 (b2.extBut _ _ hc.2.2.1 (b1.extBut _ _ hc.1 e))))
end
abbrev tzA (g:Heap) (a:Addr):Heap:=g.push {cls:= .type "tuple_iterator",data:= .fields #[.ref a, .int 0 0]}
abbrev tzB (g:Heap) (a b:Addr):Heap:=(tzA g a).push {cls:= .type "tuple_iterator",data:= .fields #[.ref b, .int 0 0]}
abbrev tzC (g:Heap) (a b:Addr):Heap:=(tzB g a b).push {cls:= .type "tuple",data:= .seq #[.ref g.objs.size, .ref (tzA g a).objs.size]}
abbrev tzD (g:Heap) (a b:Addr):Heap:=(tzC g a b).push {cls:= .type "tuple",data:= .seq #[.none, .none]}
abbrev tzE (g:Heap) (a b:Addr):Heap:=(tzD g a b).push {cls:= .type "zip",data:= .fields #[.none, .bool false, .bool false, .ref (tzB g a b).objs.size, .ref (tzC g a b).objs.size]}
theorem Sh (a b:Addr) (xs ys:Array Value):
 Meets (Builtin.«zip.__new__» ⟨[.type "zip", .ref a, .ref b],[]⟩) (fun _ R s=>IsTup s.heap a xs/\IsTup s.heap b ys/\
  R (.ok (.ret (.ref (tzD s.heap a b).objs.size))) {s with heap:=tzE s.heap a b}):=
 .of_wp fun prog w A R s h=>by
   obtain⟨hp,g,d,tk,os⟩:=s;obtain⟨ha,hb,h⟩:=h
   have hsub:=sub_zip
   have h1:IsTup (Shared.heap ⟨hp,g,d,tk,os⟩) a xs:=ha
   have h2:IsTup (Shared.heap ⟨hp.push {cls:= .type "tuple_iterator",data:= .fields #[.ref a, .int 0 0]},g,d,tk,os⟩) b ys:=hb.push _
   wp_walk using iter_tuple h1,iter_tuple h2
   exact⟨_,rfl,h⟩
section
variable {prog:Program}{w:World}{A:Around}{E:Value->Shared->Prop}{s:Shared}
theorem V8 {a b:Addr}{xs ys:Array Value}{Q:Value->Shared->Prop} (ha:IsTup s.heap a xs) (hb:IsTup s.heap b ys)
 (q:∀g n,n=s.heap.objs.size->IsZip g (n+4) (n+2) (n+3) .none->IsPair g (n+2) (.ref n) (.ref (n+1))->
   IsPair g (n+3) .none .none->IsTupIter g n a 0->IsTupIter g (n+1) b 0->
   (∀c o,s.heap.get? c=some o->g.get? c=some o)->Q (.ref (n+4)) {s with heap:=g}):
 wpAny (model prog w) A (call (.type "zip") [.ref a, .ref b]) Q E s:=by
 refine callType_new F.called_zip (by decide) (F.typeCall_zip_2 _ _) (F.newCall_zip_2 _ _) (fun obj=>F.args_object_init_3 obj _ _) F.entry_zip_new
  (Sh a b xs ys) ⟨ha,hb, ?_⟩
 have n1:(tzA s.heap a).objs.size=s.heap.objs.size+1:=Heap.size_push ..
 have n2:(tzB s.heap a b).objs.size=s.heap.objs.size+2:=by rw[Heap.size_push,n1]
 have n3:(tzC s.heap a b).objs.size=s.heap.objs.size+3:=by rw[Heap.size_push,n2]
 have n4:(tzD s.heap a b).objs.size=s.heap.objs.size+4:=by rw[Heap.size_push,n3]
 have e5:(tzE s.heap a b).get? (tzD s.heap a b).objs.size=some _:=Heap.get?_push_size _ rfl
 have e4:(tzE s.heap a b).get? (tzC s.heap a b).objs.size=some _:=Heap.get?_push_of_some _ (Heap.get?_push_size _ rfl)
 have e3:(tzE s.heap a b).get? (tzB s.heap a b).objs.size=some _:=Heap.get?_push_of_some _ (Heap.get?_push_of_some _ (Heap.get?_push_size _ rfl))
 have e2:(tzE s.heap a b).get? (tzA s.heap a).objs.size=some _:=Heap.get?_push_of_some _ (Heap.get?_push_of_some _ (Heap.get?_push_of_some _ (Heap.get?_push_size _ rfl)))
 have e1:(tzE s.heap a b).get? s.heap.objs.size=some _:=Heap.get?_push_of_some _ (Heap.get?_push_of_some _ (Heap.get?_push_of_some _ (Heap.get?_push_of_some _ (Heap.get?_push_size _ rfl))))
 show _/\_
 rw[n2,n3,n4] at e5
 rw[n3] at e4
 rw[n1,n2] at e3
 rw[n1] at e2
 rw[n4]
 exact⟨⟨_,e5,rfl⟩,q _ _ rfl e5 e3 e4 ⟨_,e1,rfl,rfl⟩ ⟨_,e2,rfl,rfl⟩ fun c o x=>
  Heap.get?_push_of_some _ (Heap.get?_push_of_some _ (Heap.get?_push_of_some _ (Heap.get?_push_of_some _ (Heap.get?_push_of_some _ x))))⟩
theorem V9 {z TI TO i j a b:Addr}{k:Nat}{xs ys:Array Value}{x y p q:Value}{Q:Option Value->Shared->Prop} (D:ZipApart z TI TO i j a b)
 (ez:IsZip s.heap z TI TO .none) (eI:IsPair s.heap TI (.ref i) (.ref j)) (eO:IsPair s.heap TO p q) (ei:IsTupIter s.heap i a k) (ej:IsTupIter s.heap j b k) (ea:IsTup s.heap a xs) (eb:IsTup s.heap b ys)
 (hx:xs[k]? =some x) (hy:ys[k]? =some y)
 (r:∀g,IsZip g z TI TO (rawInt s.heap.objs.size)->IsPair g TO x y->IsTupIter g i a (k+1)->IsTupIter g j b (k+1)->IsPair g s.heap.objs.size x y->g.objs.size=s.heap.objs.size+1->
   (∀c o,c∉[z,TO,i,j]->s.heap.get? c=some o->g.get? c=some o)->Q (some (.ref s.heap.objs.size)) {s with heap:=g}):
 wpAny (model prog w) A (pyNext (.ref z)) Q E s:=by
 have ty:s.TypeIs (.ref z) "zip":=⟨_,ez,rfl⟩
 unfold pyNext
 exact wpAny_bind (wpAny_attempt (wpAny_callSpecial?_slot (name:=Str.ofString "__next__") ty F.slot_zip_next (wpAny_call_entry F.slot_zip_next ty F.entry_zip_next
  (R9 D ez eI eO ei ej ea eb hx hy fun g a1 a2 a3 a4 a5 a6 a7=>wpAny_pure (r g a1 a2 a3 a4 a5 a6 a7)) (F.args_zip_next_1 _))))
theorem aaT {z TI TO i j a b:Addr}{k:Nat}{xs ys:Array Value}{p q:Value}{Q:Option Value->Shared->Prop} (hA:A.handled=none) (D:ZipApart z TI TO i j a b)
 (ez:IsZip s.heap z TI TO .none) (eI:IsPair s.heap TI (.ref i) (.ref j)) (eO:IsPair s.heap TO p q) (ei:IsTupIter s.heap i a k) (ej:IsTupIter s.heap j b k) (ea:IsTup s.heap a xs) (eb:IsTup s.heap b ys)
 (hend:xs[k]? =none\/ys[k]? =none)
 (r:∀g,(∀c o,c∉[z,TO,i,j]->s.heap.get? c=some o->g.get? c=some o)->Q none {s with heap:=g}):
 wpAny (model prog w) A (pyNext (.ref z)) Q E s:=by
 have ty:s.TypeIs (.ref z) "zip":=⟨_,ez,rfl⟩
 unfold pyNext
 refine wpAny_bind (wpAny_attempt (wpAny_callSpecial?_slot (name:=Str.ofString "__next__") ty F.slot_zip_next (wpAny_call_entry F.slot_zip_next ty F.entry_zip_next
  (Sg hA D ez eI eO ei ej ea eb hend fun g u hk ⟨o,ho,hc⟩=> ?_) (F.args_zip_next_1 _))))
 exact wpAny_bind (wpAny_isInstance (T:="StopIteration") (b:=true) ⟨o,ho,hc⟩ isSubtype_stop (wpAny_pure (r _ hk)))
end
def aaU (K:PySem.W.Frag) (l1 l2:Addr):It:=
 ⟨fun i H=>∃xs ys x y,SqT K H l1 xs/\SqT K H l2 ys/\xs[i]? =some x/\ys[i]? =some y,
  fun i H v H'=>∃T x y,v= .ref T/\H T=none/\H'=upd H T (.tup [x,y])/\(∀xs,SqT K H l1 xs->xs[i]? =some x)/\∀ys,SqT K H l2 ys->ys[i]? =some y,
  fun i H=>∃xs ys,SqT K H l1 xs/\SqT K H l2 ys/\min xs.length ys.length=i⟩
theorem Wa {P:Program}{w:World}{K:PySem.W.Frag}{elts:List Expr}{k:Nat}{pos:Pos} (z TI TO i1 i2 l1 l2:Addr) (D:ZipApart z TI TO i1 i2 l1 l2):
 Turn P w K (.Tuple elts k pos) (aaU K l1 l2) [z,TI,TO,i1,i2] z (fun i h=>IsZip h z TI TO .none/\IsPair h TI (.ref i1) (.ref i2)/\(∃a b,IsPair h TO a b)/\IsTupIter h i1 l1 i/\IsTupIter h i2 l2 i) where
 mem:=by simp
 obj:=fun i h st b hb=>by
  obtain⟨h1,h2,⟨a,c,h3⟩,⟨o4,e4,_,d4⟩,⟨o5,e5,_,d5⟩⟩:=st
  have hb':b=z\/b=TI\/b=TO\/b=i1\/b=i2:=by simpa using hb
  rcases hb' with rfl | rfl | rfl | rfl | rfl
  ·exact⟨_,h1,fun v e=>by cases e⟩
  ·exact⟨_,h2,fun v e=>by cases e⟩
  ·exact⟨_,h3,fun v e=>by cases e⟩
  ·exact⟨o4,e4,fun v e=>by rw[d4] at e;cases e⟩
  ·exact⟨o5,e5,fun v e=>by rw[d5] at e;cases e⟩
 keep:=fun i h h' st kp=>by
  obtain⟨h1,h2,⟨a,c,h3⟩,⟨o4,e4,r4⟩,⟨o5,e5,r5⟩⟩:=st
  exact⟨kp z (by simp) _ h1,kp TI (by simp) _ h2,⟨a,c,kp TO (by simp) _ h3⟩,⟨o4,kp i1 (by simp) _ e4,r4⟩,⟨o5,kp i2 (by simp) _ e5,r5⟩⟩
 item:=by
  intro X hP hw hK hc i pins s σ H E I hf st hg
  subst hP hw hK
  obtain⟨xs,ys,x,y,hq1,hq2,hx,hy⟩:=hg
  obtain⟨adT,rv1,p1,hz1⟩:=I.tuple hq1
  obtain⟨its2,rv2,p2,hz2⟩:=I.tuple hq2
  obtain⟨u1,hu1,ru1⟩:=rv1.get hx
  obtain⟨u2,hu2,ru2⟩:=rv2.get hy
  obtain⟨s1,s2,⟨a3,b3,s3⟩,s4,s5⟩:=st
  refine V9 D s1 s2 s3 s4 s5 p1 p2 (x:=u1) (y:=u2) (by simpa using hu1) (by simpa using hu2) fun g t1 t3 t4 t5 isT sz kp=> ?_
  have sub:∀c∈[z,TO,i1,i2],c∈[z,TI,TO,i1,i2]:=fun c hc=>by
   have:c=z\/c=TO\/c=i1\/c=i2:=by simpa using hc
   rcases this with rfl | rfl | rfl | rfl<;>simp
  have tI:IsPair g TI (.ref i1) (.ref i2):=kp TI _ (by simp[D.TIz,D.TITO,D.TIi1,D.TIi2]) s2
  refine⟨.ref s.heap.objs.size,rfl,wpAny_letOwnedTupleGo_zip t1 fun h3 t1' b3'=> ?_⟩
  have kp3:∀c o,c∉[z,TO,i1,i2]->s.heap.get? c=some o->h3.get? c=some o:=fun c o hc e=>b3'.extBut _ _ (fun h=>hc (by simp[h])) (kp c o hc e)
  have J:Inv X pins σ H {s with heap:=h3,toks:=s.toks}:=I.Dc (ch:=[z,TO,i1,i2]) (fun b hb=>hf b (sub b hb)) kp3
  have hT0:H s.heap.objs.size=none:=I.hok.fresh (Nat.le_refl _)
  have nT:s.heap.objs.size∉[z,TI,TO,i1,i2]:=fun hm=>by
   obtain⟨o,e⟩:∃o,s.heap.get? s.heap.objs.size=some o:=by
    have:s.heap.objs.size=z\/s.heap.objs.size=TI\/s.heap.objs.size=TO\/s.heap.objs.size=i1\/s.heap.objs.size=i2:=by simpa using hm
    obtain⟨o4,e4,_⟩:=s4
    obtain⟨o5,e5,_⟩:=s5
    rcases this with h | h | h | h | h
    ·exact⟨_,h▸s1⟩
    ·exact⟨_,h▸s2⟩
    ·exact⟨_,h▸s3⟩
    ·exact⟨_,h▸e4⟩
    ·exact⟨_,h▸e5⟩
   exact absurd (Heap.lt_size e) (Nat.lt_irrefl _)
  have aaV:IsTup h3 s.heap.objs.size #[u1,u2]:=⟨_,b3'.extBut _ _ (fun h=>nT (by simp[h])) isT,rfl,_,rfl⟩
  have fp:=I.Js (H':=H) (Nat.le_refl _) hT0
  refine⟨.ref s.heap.objs.size,upd H s.heap.objs.size (.tup [x,y]),J.track hT0 ?_ fp.2.1 fp.2.2.2.2.1 fp.2.2.2.2.2 ?_,rfl,⟨_,x,y,rfl,hT0,rfl,fun zs hs=>by rw[I.Gj hs hq1];exact hx,fun zs hs=>by rw[I.Gj hs hq2];exact hy⟩,
   ⟨t1',b3'.extBut _ _ D.TIz tI,⟨_,_,b3'.extBut _ _ D.TOz t3⟩,t4.extBut b3'.extBut D.i1z,t5.extBut b3'.extBut D.i2z⟩,fun b hb=> ?_⟩
  ·cases e:X.s₀.heap.get? s.heap.objs.size with
   | none=>rfl
   | some o=>exact absurd (Heap.lt_size e) (Nat.not_lt.mpr I.sz)
  ·exact⟨by show 2<=sizeLine;rw[sizeLine_eq];decide,[u1,u2], .cons ru1 (.cons ru2 .nil),aaV⟩
  ·have nb:b≠s.heap.objs.size:=fun e=>nT (by rw[<-e];exact hb)
   rw[ao nb];exact(hf b hb).1
 done:=by
  intro X hP hw hK hc i pins s σ H E I hf st hg
  subst hP hw hK
  obtain⟨xs,ys,hq1,hq2,hi⟩:=hg
  obtain⟨adT,rv1,p1,hz1⟩:=I.tuple hq1
  obtain⟨its2,rv2,p2,hz2⟩:=I.tuple hq2
  obtain⟨s1,s2,⟨a3,b3,s3⟩,s4,s5⟩:=st
  have e1:=rv1.length
  have e2:=rv2.length
  refine aaT (I.ok.hd hc) D s1 s2 s3 s4 s5 p1 p2 ?_ fun g kp=>⟨rfl,I.Dc (t':=s.toks) (ch:=[z,TO,i1,i2]) (fun b hb=>hf b ?_) kp⟩
  ·rcases Nat.le_total xs.length ys.length with h | h
   ·exact .inl (by simp;omega)
   ·exact .inr (by simp;omega)
  ·have:b=z\/b=TO\/b=i1\/b=i2:=by simpa using hb
   rcases this with rfl | rfl | rfl | rfl<;>simp
 self:=fun _ _ _ _ _ st h=>wpAny_pyIter_zip st.1 h
def Yl (K:PySem.W.Frag) (ta:TA):TI:=fun σ H R=>ta σ H fun vs H1=>∃l1 l2,vs=[.ref l1, .ref l2]/\(∃xs,SqT K H1 l1 xs)/\(∃ys,SqT K H1 l2 ys)/\R (aaU K l1 l2) H1
theorem Wb {X:Cx}{elts:List Expr}{k:Nat}{tp:Pos}{a b:Expr}{ta:TA}{p pos:Pos} (hg:Gl X "zip") (hm:X.mg "zip"=none) (ha:PA X [a,b] ta) (hs:starEach [a,b] X.env=[(false,eval a X.env),(false,eval b X.env)]:=by rfl) (hs2:starEach [b] X.env=[(false,eval b X.env)]:=by rfl):
 PI X (.Tuple elts k tp) (.Call (.Name "zip" p) [a,b] [] pos) (Yl X.K ta):=by
 intro pins s σ H R I h
 refine Call_ (yo I hg hm aat (PyProof.Rows.callWith_type1 (thn (ha pos pins s σ H _ I h) fun us s1 ⟨vs,H1,I1,r1,q1⟩=> ?_) (by rw[hs,hs2]) (by rw[hs2];rfl)))
 obtain⟨l1,l2,rfl,⟨xs,hq1⟩,⟨ys,hq2⟩,q⟩:=q1
 obtain⟨u,v,rfl,ru,rv⟩:=vals2 r1
 cases ru
 cases rv
 obtain⟨adT,_,p1,_⟩:=I1.tuple hq1
 obtain⟨its2,_,p2,_⟩:=I1.tuple hq2
 have D:=PySem.W.ktu_apart s1.heap.objs.size l1 l2 p1.lt p2.lt
 refine V8 p1 p2 fun h5 n en hz hTI hTO hi1 hi2 kp=> ?_
 subst en
 refine wpAny_pyIter_zip hz ?_
 have I2:Inv X pins σ H1 {s1 with heap:=h5}:=I1.kept (t':=s1.toks) kp
 refine⟨s1.heap.objs.size+4,[s1.heap.objs.size+4,s1.heap.objs.size+2,s1.heap.objs.size+3,s1.heap.objs.size,s1.heap.objs.size+1],_,_,H1,rfl,I2,Wa _ _ _ _ _ l1 l2 D,⟨hz,hTI,⟨_,_,hTO⟩,hi1,hi2⟩,fun b hb=> ?_,q⟩
 have hle:s1.heap.objs.size<=b:=by
  have:b=s1.heap.objs.size+4\/b=s1.heap.objs.size+2\/b=s1.heap.objs.size+3\/b=s1.heap.objs.size\/b=s1.heap.objs.size+1:=by simpa using hb
  rcases this with rfl | rfl | rfl | rfl | rfl<;>first | exact Nat.le_refl _ | exact Nat.le_add_right _ _
 exact I1.Js hle (I1.hok.fresh hle)
theorem Wc {X:Cx}{elts:List Expr}{k:Nat}{tp:Pos}{a b:Expr}{ta:TA}{p pos:Pos} (hg:Gl X "zip") (hm:X.mg "zip"=none) (ha:QA X [a,b] ta) (hs:starEach [a,b] X.env=[(false,eval a X.env),(false,eval b X.env)]:=by rfl) (hs2:starEach [b] X.env=[(false,eval b X.env)]:=by rfl):
 QI X (.Tuple elts k tp) (.Call (.Name "zip" p) [a,b] [] pos) (Yl X.K ta):=⟨Wb hg hm ha.h hs hs2⟩
theorem Qi {K:PySem.W.Frag}{a b:Addr}{xs ys:List V}{g:TG}{tc:TT}{te:TE}{σ:St}{H:Hp}{D:Addr}{Q:VK} (Pv:Nat->St->Hp->Prop) (hxy:xs.length=ys.length) (h0:Pv 0 σ (upd H D (.lst [])))
 (hl:∀i σ H,i<=xs.length->Pv i σ H->SqT K H a xs/\SqT K H b ys)
 (hs:∀i x y T σ' H',xs[i]? =some x->ys[i]? =some y->Pv i σ' H'->H' T=none->g (.ref T) σ' (upd H' T (.tup [x,y])) fun σ3 H3=>tc σ3 H3 fun b H4=>
   if b=true then te σ3 H4 fun y H5=>∃ys,H5 D=some (.lst ys)/\ys.length<sizeLine/\Pv (i+1) σ3 (upd H5 D (.lst (ys++[y]))) else Pv (i+1) σ3 H4) (hd:∀σ' H',Pv xs.length σ' H'->Q (.ref D) H'):
 JD (aaU K a b) g tc te D σ (upd H D (.lst [])) Q:=by
 refine⟨fun i m σ H=>m=xs.length - i/\i<=xs.length/\Pv i σ H,⟨xs.length,by simp,Nat.zero_le _,h0⟩, ?_⟩
 rintro i m σ H ⟨rfl,hi,p⟩
 have q:=hl i σ H hi p
 by_cases hlt:i<xs.length
 ·refine .inr ⟨⟨xs,ys,xs[i],ys[i]'(hxy▸hlt),q.1,q.2,by simp[hlt],by simp[hxy▸hlt]⟩,Pv (i+1),fun σ' H' p'=>⟨xs.length - (i+1),by omega,rfl,hlt,p'⟩,fun v H' y=> ?_⟩
  obtain⟨T,x,y',rfl,hT,rfl,y1,y2⟩:=y
  exact hs i x y' T σ _ (y1 xs q.1) (y2 ys q.2) p hT
 ·have e:i=xs.length:=by omega
  subst e
  exact .inl ⟨⟨xs,ys,q.1,q.2,by omega⟩,hd σ H p⟩
end L2
namespace RB
open PySem PySem.Spec PyProof.Rows L2
mutual
def dm:Th->Th->Bool
 | .tup xs, .tup ys=>jD xs ys
 | .int i, .int j=>decide (i=j)
 | .str x, .str y=>decide (x=y)
 | _,_=>false
def jD:List Th->List Th->Bool
 |[],[]=>true
 | x::xs,y::ys=>dm x y&&jD xs ys
 | _,_=>false
end
def DpT:Nat->Th->Prop
 | 0, .tup _=>False
 | d+1, .tup ts=>ts.length<=1000/\∀t∈ts,DpT d t
 | _,_=>True
theorem Ef:∀{xs ys:List Th},xs.length≠ys.length->jD xs ys=false
 |[],[],h=>absurd rfl h
 |[],_::_,_=>by simp[jD]
 | _::_,[],_=>by simp[jD]
 | x::xs,y::ys,h=>by
   have:jD xs ys=false:=Ef (by simpa using h)
   simp[jD,this]
theorem Eg:∀{xs ys:List Th},xs.length=ys.length->jD xs ys=((List.zipWith dm xs ys).all id)
 |[],[],_=>by simp[jD]
 | x::xs,y::ys,h=>by
   have:jD xs ys=((List.zipWith dm xs ys).all id):=Eg (by simpa using h)
   simp[jD,this]
def HY (K:PySem.W.Frag) (d:Nat):Sp:=fun vs H Q _=>∃v t v' t',vs=[v,v']/\oW K H v t/\oW K H v' t'/\DpT d t/\∀H',aN H H'->Q (.bl (dm t t')) H'
theorem mq.at {K:PySem.W.Frag}{H:Hp}{vs:List V}{ts:List Th}{i:Nat}{v:V} (h:mq K H vs ts) (e:vs[i]? =some v):∃(hi:i<ts.length),oW K H v ts[i]:=by
 obtain⟨t,et,r⟩:=h.get e
 obtain⟨hi,rfl⟩:=List.getElem?_eq_some_iff.mp et
 exact⟨hi,r⟩
theorem Qj {α β γ:Type} (f:α->β->γ) {xs:List α}{ys:List β}{i:Nat} (h1:i<xs.length) (h2:i<ys.length):(List.zipWith f xs ys).take i++[f xs[i] ys[i]]=(List.zipWith f xs ys).take (i+1):=by
 rw[List.take_add_one,List.getElem?_eq_getElem (by simp;omega),List.getElem_zipWith];rfl
end RB
namespace RB
open PySem L2 PySem.Spec PyProof.Rows
theorem DpT.mono:∀{d e:Nat}{t:Th},d<=e->DpT d t->DpT e t
 | 0,0,_,_,h=>h
 | 0,e+1,t,_,h=>by cases t<;>first | trivial | exact h.elim
 | d+1,0,_,hl,_=>absurd hl (by omega)
 | d+1,e+1,t,hl,h=>by
   cases t with
   | tup ts=>exact⟨h.1,fun t ht=>DpT.mono (by omega) (h.2 t ht)⟩
   | _=>trivial
theorem xj {d:Nat}{x:Str}:DpT d (.str x):=by cases d<;>trivial
theorem Wd {d:Nat}{i:Int}:DpT d (.int i):=by cases d<;>trivial
theorem R.dpT:∀(r:R),r.Dy->DpT (r.depth+1) r.fK
 | .num n,_=>⟨by simp,fun t ht=>by
   have:t= .str "number"\/t= .int n:=by simpa using ht
   rcases this with rfl | rfl<;>first | exact xj | exact Wd⟩
 | .rd x,_=>⟨by simp,fun t ht=>by
   have:t= .str "read"\/t= .str x:=by simpa using ht
   rcases this with rfl | rfl<;>exact xj⟩
 | .bin op a b,h=>⟨by simp,fun t ht=>by
   have:t= .str op.word\/t=a.fK\/t=b.fK:=by simpa using ht
   have hd:(R.bin op a b).depth=max a.depth b.depth+1:=rfl
   rcases this with rfl | rfl | rfl
   ·exact xj
   ·exact(R.dpT a h.1).mono (by omega)
   ·exact(R.dpT b h.2).mono (by omega)⟩
 | .pick a b c,h=>⟨by simp,fun t ht=>by
   have:t= .str "pick"\/t=a.fK\/t=b.fK\/t=c.fK:=by simpa using ht
   have hd:(R.pick a b c).depth=max a.depth (max b.depth c.depth)+1:=rfl
   rcases this with rfl | rfl | rfl | rfl
   ·exact xj
   ·exact(R.dpT a h.1).mono (by omega)
   ·exact(R.dpT b h.2.1).mono (by omega)
   ·exact(R.dpT c h.2.2).mono (by omega)⟩
 | .cho a ns,h=>⟨by simp,fun t ht=>by
   have:t= .str "choose"\/t=a.fK\/t= .tup (ns.map Th.str):=by simpa using ht
   have hd:(R.cho a ns).depth=a.depth+1:=rfl
   rcases this with rfl | rfl | rfl
   ·exact xj
   ·exact(R.dpT a h.1).mono (by omega)
   ·refine⟨by have:=h.2;simp at *;omega,fun t ht=> ?_⟩
    obtain⟨x,_,rfl⟩:=List.mem_map.mp ht
    exact xj⟩
mutual
theorem JW:∀{t u:Th},dm t u=true->t=u
 | .tup xs, .tup ys,h=>by rw[dm] at h;rw[GR h]
 | .int i, .int j,h=>by rw[dm] at h;rw[of_decide_eq_true h]
 | .str x, .str y,h=>by rw[dm] at h;rw[of_decide_eq_true h]
 | .tup _, .non,h=>by simp[dm] at h
 | .tup _, .bl _,h=>by simp[dm] at h
 | .tup _, .int _,h=>by simp[dm] at h
 | .tup _, .str _,h=>by simp[dm] at h
 | .tup _, .oth _,h=>by simp[dm] at h
 | .int _, .non,h=>by simp[dm] at h
 | .int _, .bl _,h=>by simp[dm] at h
 | .int _, .tup _,h=>by simp[dm] at h
 | .int _, .str _,h=>by simp[dm] at h
 | .int _, .oth _,h=>by simp[dm] at h
 | .str _, .non,h=>by simp[dm] at h
 | .str _, .bl _,h=>by simp[dm] at h
 | .str _, .tup _,h=>by simp[dm] at h
 | .str _, .int _,h=>by simp[dm] at h
 | .str _, .oth _,h=>by simp[dm] at h
 | .non,u,h=>by simp[dm] at h
 | .bl _,u,h=>by simp[dm] at h
 | .oth _,u,h=>by simp[dm] at h
theorem GR:∀{ts us:List Th},jD ts us=true->ts=us
 |[],[],_=>rfl
 | x::xs,y::ys,h=>by
   rw[jD,Bool.and_eq_true] at h
   rw[JW h.1,GR h.2]
 |[],_::_,h=>by simp[jD] at h
 | _::_,[],h=>by simp[jD] at h
end
inductive PlT:Th->Prop where
 | int (i:Int):PlT (.int i)
 | str (x:Str):PlT (.str x)
 | tup {ts:List Th} (h:∀t∈ts,PlT t):PlT (.tup ts)
theorem Ca:∀{ts:List Th},(∀t∈ts,dm t t=true)->jD ts ts=true
 |[],_=>by simp[jD]
 | x::xs,h=>by
   rw[jD,h x (by simp),Ca fun t ht=>h t (by simp[ht])];rfl
theorem PlT.refl {t:Th} (h:PlT t):dm t t=true:=by
 induction h with
 | int i=>simp[dm]
 | str x=>simp[dm]
 | tup h ih=>rw[dm];exact Ca ih
theorem R.plT:∀(r:R),PlT r.fK
 | .num n=> .tup fun t ht=>by
   have:t= .str "number"\/t= .int n:=by simpa using ht
   rcases this with rfl | rfl<;>constructor
 | .rd x=> .tup fun t ht=>by
   have:t= .str "read"\/t= .str x:=by simpa using ht
   rcases this with rfl | rfl<;>constructor
 | .bin op a b=> .tup fun t ht=>by
   have:t= .str op.word\/t=a.fK\/t=b.fK:=by simpa using ht
   rcases this with rfl | rfl | rfl
   ·constructor
   ·exact R.plT a
   ·exact R.plT b
 | .pick a b c=> .tup fun t ht=>by
   have:t= .str "pick"\/t=a.fK\/t=b.fK\/t=c.fK:=by simpa using ht
   rcases this with rfl | rfl | rfl | rfl
   ·constructor
   ·exact R.plT a
   ·exact R.plT b
   ·exact R.plT c
 | .cho a ns=> .tup fun t ht=>by
   have:t= .str "choose"\/t=a.fK\/t= .tup (ns.map Th.str):=by simpa using ht
   rcases this with rfl | rfl | rfl
   ·constructor
   ·exact R.plT a
   ·refine .tup fun t ht=> ?_
    obtain⟨x,_,rfl⟩:=List.mem_map.mp ht
    constructor
theorem Mr:∀{o o':Op},o.word=o'.word->o=o':=by
 intro o o' h;cases o<;>cases o'<;>first | rfl | exact absurd h (by decide)
theorem GX (o:Op):o.word≠"choose":=by cases o<;>decide
theorem R.yr:∀{r s:R},r.fK=s.fK->r=s
 | .num n, .num m,h=>by simp[R.fK] at h;rw[h]
 | .rd x, .rd y,h=>by simp[R.fK] at h;rw[h]
 | .bin o a b, .bin o' a' b',h=>by
   simp only[R.fK,Th.tup.injEq,List.cons.injEq,Th.str.injEq,and_true] at h
   rw[Mr h.1,R.yr h.2.1,R.yr h.2.2]
 | .pick a b c, .pick a' b' c',h=>by
   simp only[R.fK,Th.tup.injEq,List.cons.injEq,and_true,true_and] at h
   rw[R.yr h.1,R.yr h.2.1,R.yr h.2.2]
 | .cho a ns, .cho a' ms,h=>by
   simp only[R.fK,Th.tup.injEq,List.cons.injEq,and_true,true_and] at h
   rw[R.yr h.1,(List.map_inj_right (fun x y e=>by cases e;rfl)).mp h.2]
 | .num n, .rd y,h=>by simp[R.fK] at h
 | .num n, .bin _ _ _,h=>by simp[R.fK] at h
 | .num n, .pick _ _ _,h=>by simp[R.fK] at h
 | .num n, .cho _ _,h=>by simp[R.fK] at h
 | .rd n, .num y,h=>by simp[R.fK] at h
 | .rd n, .bin _ _ _,h=>by simp[R.fK] at h
 | .rd n, .pick _ _ _,h=>by simp[R.fK] at h
 | .rd n, .cho _ _,h=>by simp[R.fK] at h
 | .bin _ _ _, .num y,h=>by simp[R.fK] at h
 | .bin _ _ _, .rd y,h=>by simp[R.fK] at h
 | .bin _ _ _, .pick _ _ _,h=>by simp[R.fK] at h
 | .bin o _ _, .cho _ _,h=>by
   simp only[R.fK,Th.tup.injEq,List.cons.injEq,Th.str.injEq,and_true] at h
   exact absurd h.1 (GX o)
 | .pick _ _ _, .num y,h=>by simp[R.fK] at h
 | .pick _ _ _, .rd y,h=>by simp[R.fK] at h
 | .pick _ _ _, .bin _ _ _,h=>by simp[R.fK] at h
 | .pick _ _ _, .cho _ _,h=>by simp[R.fK] at h
 | .cho _ _, .num y,h=>by simp[R.fK] at h
 | .cho _ _, .rd y,h=>by simp[R.fK] at h
 | .cho _ _, .bin o _ _,h=>by
   simp only[R.fK,Th.tup.injEq,List.cons.injEq,Th.str.injEq,and_true] at h
   exact absurd h.1.symm (GX o)
 | .cho _ _, .pick _ _ _,h=>by simp[R.fK] at h
theorem We {r s:R} (e:r=s):dm r.fK s.fK=true:=by rw[e];exact s.plT.refl
theorem Wf {r s:R} (e:r≠s):dm r.fK s.fK=false:=by
 cases h:dm r.fK s.fK with
 | false=>rfl
 | true=>exact absurd (R.yr (JW h)) e
end RB
namespace L2
open PySem PySem.Spec PyProof.Rows
def Ite (K:PySem.W.Frag) (l:Addr):It:=
 ⟨fun i H=>∃xs x,SqL K H l xs/\xs[i]? =some x,
  fun i H v H'=>∃T x,v= .ref T/\H T=none/\H'=upd H T (.tup [.int (i:Int),x])/\∀xs,SqL K H l xs->xs[i]? =some x,
  fun i H=>∃xs,SqL K H l xs/\xs.length=i⟩
theorem Qk {P:Program}{w:World}{K:PySem.W.Frag}{elts:List Expr}{k:Nat}{pos:Pos} (e it l:Addr) (n1:e≠it) (n2:l≠e) (n3:l≠it):
 Turn P w K (.Tuple elts k pos) (Ite K l) [e,it] e (fun i h=>(∃old,IsEnum h e it i old)/\h.IsListIter it l i) where
 mem:=by simp
 obj:=fun i h st b hb=>by
  obtain⟨⟨old,h1⟩,⟨o4,e4,_,d4⟩⟩:=st
  have hb':b=e\/b=it:=by simpa using hb
  rcases hb' with rfl | rfl
  ·exact⟨_,h1,fun v e=>by cases e⟩
  ·exact⟨o4,e4,fun v e=>by rw[d4] at e;cases e⟩
 keep:=fun i h h' st kp=>by
  obtain⟨⟨old,h1⟩,h4⟩:=st
  exact⟨⟨old,kp e (by simp) _ h1⟩,h4.at fun o z=>kp it (by simp) o z⟩
 item:=by
  intro X hP hw hK hc i pins s σ H E I hf st hg
  subst hP hw hK
  obtain⟨xs,x,hq,hx⟩:=hg
  obtain⟨its,rv,p1,hz1⟩:=I.list hq
  obtain⟨u,hu,ru⟩:=rv.get hx
  obtain⟨⟨old,s1⟩,s4⟩:=st
  have W:=WalksT.enumerate (prog:=X.prog) (w:=X.w) (A:=X.A) (I.ok.hd hc) e it l n1 n2 n3 its.toArray
  have b1:i<its.length:=(List.getElem?_eq_some_iff.mp hu).1
  refine W.item i s _ _ (by simpa using b1) ⟨⟨old,s1⟩,s4,p1.isList⟩ fun T vals h2 tk pv hT isT mid kp=> ?_
  obtain⟨tt,a,ha,rfl⟩:=pv
  have ea:a=u:=by have:its[i]? =some a:=by simpa using ha
                  rw[hu] at this;exact(Option.some.inj this).symm
  subst ea
  refine⟨.ref T,rfl,W.go elts k pos i T _ _ _ mid fun h3 st3 kp3=> ?_⟩
  obtain⟨t1,t4,_⟩:=st3
  have J:Inv X pins σ H {s with heap:=h3,toks:=tk}:=I.Dc (ch:=[e,it]) (fun b hb=>hf b hb) fun b o hb z=>kp3 b o hb (kp b o hb z)
  have hT0:H T=none:=I.hok.fresh hT
  have nT:T∉[e,it]:=fun hm=>by
   obtain⟨o,z⟩:∃o,s.heap.get? T=some o:=by
    have:T=e\/T=it:=by simpa using hm
    obtain⟨o4,e4,_⟩:=s4
    rcases this with rfl | rfl
    ·exact⟨_,s1⟩
    ·exact⟨_,e4⟩
   exact absurd (Heap.lt_size z) (Nat.not_lt.mpr hT)
  have aaV:IsTup h3 T #[.int i tt,a]:=by
   obtain⟨o,z,r⟩:=isT
   exact⟨o,kp3 T o nT z,r⟩
  have fp:=I.Js (H':=H) hT hT0
  refine⟨.ref T,upd H T (.tup [.int (i:Int),x]),J.track hT0 ?_ fp.2.1 fp.2.2.2.2.1 fp.2.2.2.2.2 ?_,rfl,⟨T,x,rfl,hT0,rfl,fun zs hs=>by rw[I.Jq hs hq];exact hx⟩,⟨t1,t4⟩,fun b hb=> ?_⟩
  ·cases z:X.s₀.heap.get? T with
   | none=>rfl
   | some o=>exact absurd (Heap.lt_size z) (Nat.not_lt.mpr (Nat.le_trans I.sz hT))
  ·exact⟨by show 2<=sizeLine;rw[sizeLine_eq];decide,[.int i tt,a], .cons ⟨tt,rfl⟩ (.cons ru .nil),aaV⟩
  ·have nb:b≠T:=fun z=>nT (by rw[<-z];exact hb)
   rw[ao nb];exact(hf b hb).1
 done:=by
  intro X hP hw hK hc i pins s σ H E I hf st hg
  subst hP hw hK
  obtain⟨xs,hq,hi⟩:=hg
  obtain⟨its,rv,p1,hz1⟩:=I.list hq
  obtain⟨s1,s4⟩:=st
  have W:=WalksT.enumerate (prog:=X.prog) (w:=X.w) (A:=X.A) (I.ok.hd hc) e it l n1 n2 n3 its.toArray
  have en:its.toArray.size=i:=by rw[List.size_toArray,<-rv.length];exact hi
  subst en
  exact W.done s _ _ ⟨s1,s4,p1.isList⟩ fun h2 tk kp=>⟨rfl,I.Dc (ch:=[e,it]) (fun b hb=>hf b hb) kp⟩
 self:=fun A i s Q E st h=>by
  obtain⟨⟨old,h1⟩,h4⟩:=st
  exact wpAny_pyIter_enum h1 h
def Ym (K:PySem.W.Frag) (ta:TA):TI:=fun σ H R=>ta σ H fun vs H1=>∃l,vs=[.ref l]/\(∃xs,SqL K H1 l xs)/\R (Ite K l) H1
theorem Wg {X:Cx}{elts:List Expr}{k:Nat}{tp:Pos}{a:Expr}{ta:TA}{p pos:Pos} (hg:Gl X "enumerate") (hm:X.mg "enumerate"=none) (ha:PA X [a] ta) (hs:starEach [a] X.env=[(false,eval a X.env)]:=by rfl):
 PI X (.Tuple elts k tp) (.Call (.Name "enumerate" p) [a] [] pos) (Ym X.K ta):=by
 intro pins s σ H R I h
 refine Call_ (yo I hg hm Ht (PyProof.Rows.callWith_type1 (thn (ha pos pins s σ H _ I h) fun us s1 ⟨vs,H1,I1,r1,q1⟩=> ?_) (by rw[hs];rfl) (by rfl)))
 obtain⟨l,rfl,⟨xs,hq⟩,q⟩:=q1
 obtain⟨u,rfl,ru⟩:=vals1 r1
 cases ru
 obtain⟨its,_,p1,_⟩:=I1.list hq
 have lt1:l<s1.heap.objs.size:=by obtain⟨o,e,_⟩:=p1.isList;exact Heap.lt_size e
 refine call_enumerate_list p1.isList fun h5 he hi _ kp=> ?_
 refine wpAny_pyIter_enum he ?_
 have I2:Inv X pins σ H1 {s1 with heap:=h5}:=I1.kept (t':=s1.toks) kp
 refine⟨s1.heap.objs.size+1,[s1.heap.objs.size+1,s1.heap.objs.size],_,_,H1,rfl,I2,Qk _ _ l (Nat.succ_ne_self _) (Nat.ne_of_lt (Nat.lt_succ_of_lt lt1)) (Nat.ne_of_lt lt1),⟨⟨_,he⟩,hi⟩,fun b hb=> ?_,q⟩
 have hle:s1.heap.objs.size<=b:=by
  have:b=s1.heap.objs.size+1\/b=s1.heap.objs.size:=by simpa using hb
  rcases this with rfl | rfl<;>first | exact Nat.le_refl _ | exact Nat.le_add_right _ _
 exact I1.Js hle (I1.hok.fresh hle)
theorem Wh {X:Cx}{elts:List Expr}{k:Nat}{tp:Pos}{a:Expr}{ta:TA}{p pos:Pos} (hg:Gl X "enumerate") (hm:X.mg "enumerate"=none) (ha:QA X [a] ta) (hs:starEach [a] X.env=[(false,eval a X.env)]:=by rfl):
 QI X (.Tuple elts k tp) (.Call (.Name "enumerate" p) [a] [] pos) (Ym X.K ta):=⟨Wg hg hm ha.h hs⟩
theorem Sq {K:PySem.W.Frag}{a:Addr}{xs:List V}{g:TG}{tb:TS}{D:Ends}{σ:St}{H:Hp} (Pv:Nat->St->Hp->Prop) (h0:Pv 0 σ H) (hl:∀i σ H,i<=xs.length->Pv i σ H->SqL K H a xs)
 (hs:∀i x T σ H,xs[i]? =some x->H T=none->Pv i σ H->g (.ref T) σ (upd H T (.tup [.int (i:Int),x])) fun σ2 H2=>tb {D with nx:=Pv (i+1),ct:=Pv (i+1),bk:=D.nx} σ2 H2) (hd:∀σ H,Pv xs.length σ H->D.nx σ H):
 ∃W:Nat->Nat->St->Hp->Prop,(∃m,W 0 m σ H)/\∀i m σ H,W i m σ H->
  ((Ite K a).stop i H/\D.nx σ H)\/((Ite K a).go i H/\∃N:St->Hp->Prop,(∀σ' H',N σ' H'->∃m',m'<m/\W (i+1) m' σ' H')/\∀x H',(Ite K a).yld i H x H'->g x σ H' fun σ2 H2=>tb {D with nx:=N,ct:=N,bk:=D.nx} σ2 H2):=by
 refine⟨fun i m σ H=>m=xs.length - i/\i<=xs.length/\Pv i σ H,⟨xs.length,by simp,Nat.zero_le _,h0⟩, ?_⟩
 rintro i m σ H ⟨rfl,hi,p⟩
 have q1:=hl i σ H hi p
 by_cases hlt:i<xs.length
 ·refine .inr ⟨⟨xs,xs[i],q1,List.getElem?_eq_getElem hlt⟩,Pv (i+1),fun σ' H' z=>⟨_,by omega,rfl,hlt,z⟩, ?_⟩
  rintro x H' ⟨T,u,rfl,hT,rfl,e1⟩
  exact hs i u T σ H (e1 xs q1) hT p
 ·have e:i=xs.length:=by omega
  subst e
  exact .inl ⟨⟨xs,q1,rfl⟩,hd σ H p⟩
end L2
namespace RB
open PySem L2 PySem.Spec PyProof.Rows
end RB
namespace L2
open PySem PySem.Spec PyProof.Rows RB
section
variable {prog:Program}{w:World}{A:Around}{E:Value->Shared->Prop}{s:Shared}
end
end L2
namespace RB
open PySem L2 PySem.Spec PyProof.Rows
end RB
namespace L2
open PySem PySem.Spec PyProof.Rows RB
theorem Mt {P:Program}{w:World} (a b:Addr) (x1 x2 y1 y2:Value) (n m:Nat) (d1 d2:Option Addr) (t1 t2:Array (Option Value)):
 MeetsIn P w (Builtin.«tuple.__eq__» ⟨[.ref a, .ref b],[]⟩)
  (fun A R s=>s.heap.get? a=some {cls:= .type "tuple",dict:=d1,data:= .seq #[x1,x2] n,slots:=t1}/\s.heap.get? b=some {cls:= .type "tuple",dict:=d2,data:= .seq #[y1,y2] m,slots:=t2}/\
    qC P w A.in1 s x1 y1/\qC P w A.in1 s x2 y2/\R (.ok (.ret (.bool true))) s):=by
 intro A R s z
 obtain⟨hp,g,d,tk,os⟩:=s
 obtain⟨z1,z2,e1,e2,z⟩:=z
 have f2:=AutoSeq1.sub_tuple_tuple
 wp_walk using AutoSeq1.wpAny_loadPart' z1,AutoSeq1.wpAny_loadPart' z2,wpAny_forIn_list _ (fun rest c s'=>c.1=none/\s'=⟨hp,g,d,tk,os⟩/\(rest=[(x1,y1),(x2,y2)]\/rest=[(x2,y2)]\/rest=[])) _
 case turn=>
  rintro⟨y,x⟩ rest c s' ⟨hc,rfl,h⟩
  rcases h with h | h | h
  ·cases h
   refine wpAny_bind (e1 _ _ ?_)
   wp_walk
   exact⟨rfl,rfl, .inr (.inl rfl)⟩
  ·cases h
   refine wpAny_bind (e2 _ _ ?_)
   wp_walk
   exact⟨rfl,rfl, .inr (.inr rfl)⟩
  ·cases h
 case fin=>
  rintro⟨c1,c2⟩ s' ⟨hc,rfl,_⟩
  simp only at hc
  subst hc
  wp_walk
  first | exact z | exact⟨_,rfl,z⟩
 case h=>exact⟨rfl,rfl, .inl rfl⟩
theorem Mv {P:Program}{w:World}{A:Around}{s:Shared}{a b:Addr}{x1 x2 y1 y2:Value} (ha:IsTup s.heap a #[x1,x2]) (hb:IsTup s.heap b #[y1,y2]) (h1:qC P w A.in1 s x1 y1) (h2:qC P w A.in1 s x2 y2) (hu:A.units<cLine):qC P w A s (.ref a) (.ref b):=fun E Q q=>by
 by_cases hab:a=b
 ·subst hab;exact SeqAt.EqAt.same (.ref a) P w E Q q
 obtain⟨⟨c1,d1,dt1,t1⟩,hp,hc1,n,hd1⟩:=ha
 obtain⟨⟨c2,d2,dt2,t2⟩,hq,hc2,m,hd2⟩:=hb
 simp only at hc1 hd1 hc2 hd2
 subst hc1 hd1 hc2 hd2
 have hT:s.TypeIs (.ref a) "tuple":=⟨_,hp,rfl⟩
 unfold eqBool
 refine wpAny_holding (wpAny_ite_split (fun z=>absurd (by have:=eq_of_beq z;injection this) hab) fun _=>wpAny_bind ?_)
 refine wpAny_richCompare_same_room (op:= .Eq) hT ⟨_,hq,rfl⟩ F.slot_tuple_eq (call_meetsIn F.slot_tuple_eq hT F.entry_tuple_eq (F.args_tuple_eq_2 _ _) (Mt a b x1 x2 y1 y2 n m d1 d2 t1 t2) ⟨hp,hq,h1,h2, ?_⟩) hu
 exact⟨(fun x=>nomatch x),wpAny_truthy_bool q⟩
theorem Ia {X:Cx}{pins:List (Addr×Obj)}{s:Shared}{σ:St}{H:Hp}{A:Around}{x y:V}{z z':Value} (I:Inv X pins σ H s) (rz:RelV x z) (rz':RelV y z') (h:EqV H x y) (hu:A.units<cLine):qC X.prog X.w A s z z':=by
 rcases h with⟨e,pv⟩ | ⟨p,q',kvs,e3,e4,hp,hq,hpl⟩
 ·rw[<-e] at rz'
  exact qC.of (Ea pv rz rz')
 ·rw[e3] at rz
  rw[e4] at rz'
  cases rz
  cases rz'
  obtain⟨_,lo,va,ka,da⟩:=(show dJ X.prog X.w H s.heap p (.dK kvs) from hp.ok I.hok)
  obtain⟨_,lo',vb,kb,db⟩:=(show dJ X.prog X.w H s.heap q' (.dK kvs) from hq.ok I.hok)
  exact Mq lo lo' ka kb da db hpl hu
def ag3 (H:Hp) (x y:V):Prop:=EqV H x y\/∃a b x1 x2 y1 y2,x= .ref a/\y= .ref b/\H a=some (.tup [x1,x2])/\H b=some (.tup [y1,y2])/\EqV H x1 y1/\EqV H x2 y2
end L2
namespace RB
open PySem L2 PySem.Spec PyProof.Rows
section
variable {p h hg hc h2 g2 c2 rcd r2 wd w2 hd:Addr}{o:Obj}{n:Nat}{gv:Kn}{rc:Rn}{kg kc kr kw:List (Key×V)}{rm:Rm}{H H':Hp}
end
theorem Ss {kn:Kn}{d:List Rdp} (h:Rows kn d) {x:Str}{v:Int} (hx:kn x=some v) (m:(x,v)∈d):rC d x v=d:=by
 unfold rC
 rw[if_pos (List.any_eq_true.mpr ⟨(x,v),m,by simp⟩)]
 have:∀p∈d,(if p.1=x then(p.1,v) else p)=p:=fun p hp=>by
  by_cases z:p.1=x
  ·rw[if_pos z]
   have:=h.s p hp
   rw[z,hx] at this
   rw[Option.some.inj this]
  ·rw[if_neg z]
 rw[List.map_congr_left this]
 exact List.map_id _
theorem Su {kn:Kn}{d:List Rdp} (h:Rows kn d) {x:Str}{v:Int} (hx:kn x=some v) (m:(x,v)∉d):rC d x v=d++[(x,v)]:=by
 unfold rC
 rw[if_neg]
 intro z
 obtain⟨p,hp,e⟩:=List.any_eq_true.mp z
 have e:=of_decide_eq_true e
 have:=h.s p hp
 rw[e,hx] at this
 exact m (by rw[<-e,Option.some.inj this];exact hp)
def vG (kn:Kn) (r:R) (t:List Stp) (f:List Int) (d:List Rdp):Prop:=match ev kn r with
 | .inr v=>∃n us,StN kn n ⟨t++[.r r],f,d⟩ ⟨t,f++[v],d++us⟩/\nj r (kn0.puts d) us v/\Rows kn (d++us)
 | .inl x=>∃n t' f' us,StN kn n ⟨t++[.r r],f,d⟩ ⟨t'++[.r (.rd x)],f',d++us⟩/\kn x=none/\Chn r (kn0.puts d) us/\ev (kn0.puts (d++us)) r= .inl x/\Rows kn (d++us)
theorem Ql {kn:Kn}{d:List Rdp} (h:Rows kn d) {x:Str} (hx:kn x=none):kn0.puts d x=none:=by
 cases e:kn0.puts d x with
 | none=>rfl
 | some u=>
   rcases zA e with z | z
   ·have:=h.s _ z
    rw[hx] at this;cases this
   ·cases z
theorem JX {kn:Kn}{x:Str}{t:List Stp}{f:List Int}{d:List Rdp} (hd:Rows kn d):vG kn (.rd x) t f d:=by
 unfold vG
 show match look kn x with
  | .inr v=>_
  | .inl y=>_
 unfold look
 cases e:kn x with
 | none=>
   refine⟨0,t,f,[], ?_,e,trivial, ?_,by rw[List.append_nil];exact hd⟩
   ·rw[List.append_nil];exact .zero
   ·rw[List.append_nil]
    show look _ x=_
    unfold look
    rw[Ql hd e]
 | some v=>
   have hl:=hd.look e
   by_cases m:(x,v)∈d
   ·rw[if_pos m] at hl
    refine⟨1,[], .succ (.rd e) ?_,hl,by rw[List.append_nil];exact hd⟩
    rw[Ss hd e m,List.append_nil];exact .zero
   ·rw[if_neg m] at hl
    refine⟨1,[(x,v)], .succ (.rd e) ?_,hl.1,hl.2⟩
    rw[Su hd e m];exact .zero
def yd (kn:Kn) (r:R) (x:Str):Prop:=∃ps,Chn r kn0 ps/\ev (kn0.puts ps) r= .inl x/\Rows kn ps
def Goes (kn:Kn) (r:R) (c:Cf):Prop:=match ev kn r with
 | .inr v=>c.todo=[]/\c.found=[v]/\nj r kn0 c.rds v/\Rows kn c.rds
 | .inl x=>(∃t,c.todo=t++[.r (.rd x)])/\kn x=none/\yd kn r x
theorem Sv {kn:Kn}:Rows kn []:=⟨by simp,by simp⟩
theorem rA:∀r:R,1<=r.depth
 | .num _=>Nat.le_refl _
 | .rd _=>Nat.le_refl _
 | .bin _ a b=>by show 1<=max a.depth b.depth+1;omega
 | .pick a b c=>by show 1<=max a.depth (max b.depth c.depth)+1;omega
 | .cho a _=>by show 1<=a.depth+1;omega
theorem Eh:∀(r:R) (d:Nat),r.depth<=d->wR r+2<=3 ^ d
 | r,0,h=>absurd (rA r) (by omega)
 | .num _,d+1,_=>by
   have:1<=3 ^ d:=Nat.one_le_pow _ _ (by decide)
   show 1+2<=3 ^(d+1)
   rw[Nat.pow_succ];omega
 | .rd _,d+1,_=>by
   have:1<=3 ^ d:=Nat.one_le_pow _ _ (by decide)
   show 1+2<=3 ^(d+1)
   rw[Nat.pow_succ];omega
 | .bin _ a b,d+1,h=>by
   have h:max a.depth b.depth+1<=d+1:=h
   have h1:=Eh a d (by omega)
   have h2:=Eh b d (by omega)
   show wR a+wR b+2+2<=3 ^(d+1)
   rw[Nat.pow_succ];omega
 | .pick a b c,d+1,h=>by
   have h:max a.depth (max b.depth c.depth)+1<=d+1:=h
   have h1:=Eh a d (by omega)
   have h2:=Eh b d (by omega)
   have h3:=Eh c d (by omega)
   show wR a+wR b+wR c+2+2<=3 ^(d+1)
   rw[Nat.pow_succ];omega
 | .cho a _,d+1,h=>by
   have h:a.depth+1<=d+1:=h
   have h1:=Eh a d (by omega)
   show wR a+3+2<=3 ^(d+1)
   rw[Nat.pow_succ];omega
end RB
namespace L2
open PySem PySem.Spec PyProof.Rows
theorem Wi {X:Cx}{e:Expr}{f:Str}{pos:Pos}{ta:TE}{K:PySem.W.Frag} (eK:X.K=K) (he:QE X e ta) (hb:attributeBase e f X.env (eval e X.env)=eval e X.env:=by rfl):QE X (.Attribute e f pos) (ZW K ta f):=eK▸bu he hb
end L2
namespace RB
open PySem L2 PySem.Spec PyProof.Rows
structure NrC (K:PySem.W.Frag) (C:Addr):Prop where
 cl:Cls K C
 nB:iM K C "by_name"
def nrF (rcd:Addr):List (Str×V):=[("by_name", .ref rcd)]
def Ei (C:Addr):Sp:=fun vs H Q _=>∃(a dx rcd:Addr),vs=[.ref a, .ref rcd]/\H a=some (.ins C dx [])/\∀H',But [a] H H'->H' a=some (.ins C dx (nrF rcd))->Q .non H'
def GZ (rm:Rm) (y:Str) (r:R) (kn:Kn):Prop:=∀r' ps v,rm y=some (r',ps,v)->r'≠r\/∃p∈ps,∃u,kn p.1=some u/\u≠p.2
theorem GZ.le {rm:Rm}{y:Str}{r:R}{kn kn':Kn} (h:GZ rm y r kn) (l:Kn.Le kn kn'):GZ rm y r kn':=fun r' ps v e=>(h r' ps v e).imp id fun⟨p,hp,u,hu,hn⟩=>⟨p,hp,u,l _ _ hu,hn⟩
def JZ (H:Hp) (fl:Addr) (kr:List (Key×V)) (rm:Rm) (y:Str) (r:R) (kn:Kn) (k:Nat):Prop:=
 (∃rb ps v,H fl=some (.lst [.ref rb])/\cI kr (.inr y)=some (.ref rb)/\rm y=some (r,ps,v)/\k<=ps.length/\∀(j:Nat) p,j<k->ps[j]? =some p->kn p.1=some p.2)\/(H fl=some (.lst [])/\GZ rm y r kn)
theorem JZ.le {H:Hp}{fl:Addr}{kr:List (Key×V)}{rm:Rm}{y:Str}{r:R}{kn kn':Kn}{k:Nat} (h:JZ H fl kr rm y r kn k) (l:Kn.Le kn kn'):JZ H fl kr rm y r kn' k:=
 h.imp (fun⟨rb,ps,v,a,b,c,d,e⟩=>⟨rb,ps,v,a,b,c,d,fun j p hj hp=>l _ _ (e j p hj hp)⟩) fun⟨a,b⟩=>⟨a,b.le l⟩
theorem JZ.at {H H':Hp}{fl:Addr}{kr:List (Key×V)}{rm:Rm}{y:Str}{r:R}{kn:Kn}{k:Nat} (h:JZ H fl kr rm y r kn k) (f:∀o,H fl=some o->H' fl=some o):JZ H' fl kr rm y r kn k:=
 h.imp (fun⟨rb,ps,v,a,b⟩=>⟨rb,ps,v,f _ a,b⟩) fun⟨a,b⟩=>⟨f _ a,b⟩
def Yn:Sp:=fun vs H Q _=>(∃v w,vs=[v,w])/\Q .non H
structure SeD where
 s:Addr
 dx:Addr
 b:Addr
 fl:Addr
 rk:Addr
 dxr:Addr
 a1:Addr
 a2:Addr
 a3:Addr
 k:Nat
def SeD.ft (A:SeD):List Addr:=[A.s,A.fl,A.rk,A.a1,A.a2,A.a3]
def seF (b fl:Addr) (k:Nat) (rk:Addr):List (Str×V):=[("recipe", .ref b),("fitting", .ref fl),("place", .int k),("reckoning", .ref rk)]
structure SeC (K:PySem.W.Frag) (C:Addr):Prop where
 cl:Cls K C
 nR:iM K C "recipe"
 nF:iM K C "fitting"
 nP:iM K C "place"
 nK:iM K C "reckoning"
theorem xm (b fl:Addr) (k:Nat) (rk:Addr):List.lookup ("recipe":Str) (seF b fl k rk)=some (.ref b):=rfl
theorem tU (b fl:Addr) (k:Nat) (rk:Addr):List.lookup ("fitting":Str) (seF b fl k rk)=some (.ref fl):=rfl
theorem xq (b fl:Addr) (k:Nat) (rk:Addr):List.lookup ("place":Str) (seF b fl k rk)=some (.int k):=rfl
theorem oY (b fl:Addr) (k:Nat) (rk:Addr):List.lookup ("reckoning":Str) (seF b fl k rk)=some (.ref rk):=rfl
theorem gw (b fl:Addr) (k:Nat) (rk:Addr):List.lookup ("lacking":Str) (seF b fl k rk)=none/\List.lookup ("fit_on":Str) (seF b fl k rk)=none/\List.lookup ("was_reckoned":Str) (seF b fl k rk)=none/\List.lookup ("new_record":Str) (seF b fl k rk)=none:=⟨rfl,rfl,rfl,rfl⟩
structure tV (CS CR:Addr) (kr:List (Key×V)) (rm:Rm) (y:Str) (r:R) (kn:Kn) (A:SeD) (H:Hp):Prop where
 e:H A.s=some (.ins CS A.dx (seF A.b A.fl A.k A.rk))
 hr:IsR H A.b r
 c:∃c,RcAt H A.rk CR A.dxr A.a1 A.a2 A.a3 c/\Reach kn r c
 f:JZ H A.fl kr rm y r kn A.k
 n1:A.s≠A.rk
 n2:A.fl≠A.a1
 n3:A.fl≠A.a2
theorem RcAt.move {S:List Addr}{H H':Hp}{a C dx a1 a2 a3:Addr}{c:Cf} (h:RcAt H a C dx a1 a2 a3 c) (b:But S H H') (t:lg H H') (hs:∀z∈[a,a1,a2,a3],z∉S):RcAt H' a C dx a1 a2 a3 c:=by
 obtain⟨e,⟨ws,e1,hw⟩,e2,e3,ne,w⟩:=h
 exact⟨b _ _ (hs _ (by simp)) e,⟨ws,b _ _ (hs _ (by simp)) e1,hw.tups t⟩,b _ _ (hs _ (by simp)) e2,b _ _ (hs _ (by simp)) e3,ne,w⟩
section
variable {CS CR:Addr}{kr:List (Key×V)}{rm:Rm}{y:Str}{r:R}{kn kn':Kn}{A:SeD}{H H':Hp}
theorem tV.move {S:List Addr} (h:tV CS CR kr rm y r kn A H) (b:But S H H') (t:lg H H') (hs:∀z∈A.ft,z∉S):tV CS CR kr rm y r kn A H':=by
 obtain⟨c,h1,h2⟩:=h.c
 exact⟨b _ _ (hs _ (by simp[SeD.ft])) h.e,h.hr.tups t,⟨c,h1.move b t fun z hz=>hs z (by
  have:z=A.rk\/z=A.a1\/z=A.a2\/z=A.a3:=by simpa using hz
  unfold SeD.ft
  rcases this with rfl | rfl | rfl | rfl<;>simp),h2⟩,h.f.at fun o e=>b _ _ (hs _ (by simp[SeD.ft])) e,h.n1,h.n2,h.n3⟩
theorem tV.le (h:tV CS CR kr rm y r kn A H) (l:Kn.Le kn kn'):tV CS CR kr rm y r kn' A H:=by
 obtain⟨c,h1,h2⟩:=h.c
 exact⟨h.e,h.hr,⟨c,h1,h2.le l⟩,h.f.le l,h.n1,h.n2,h.n3⟩
def Sw (H:Hp) (CR:Addr) (kr:List (Key×V)) (rm:Rm) (y:Str) (r:R) (kn:Kn) (A:SeD):Prop:=
 (∃rb ps v,H A.fl=some (.lst [.ref rb])/\cI kr (.inr y)=some (.ref rb)/\rm y=some (r,ps,v)/\∀p∈ps,kn p.1=some p.2)\/
 (H A.fl=some (.lst [])/\GZ rm y r kn/\∃c v,RcAt H A.rk CR A.dxr A.a1 A.a2 A.a3 c/\c.found=[v]/\nj r kn0 c.rds v/\Rows kn c.rds)
end
def J0 (CS CR:Addr):Sp:=fun vs H Q _=>∃(a dx b fl:Addr) (r:R),vs=[.ref a, .ref b, .ref fl]/\H a=some (.ins CS dx [])/\IsR H b r/\wR r<=4000/\
 ∀(A:SeD) H',But [a] H H'->A.s=a->A.b=b->A.fl=fl->A.k=0->H' a=some (.ins CS A.dx (seF b fl 0 A.rk))->RcAt H' A.rk CR A.dxr A.a1 A.a2 A.a3 ⟨[.r r],[],[]⟩->(∀z∈[A.rk,A.a1,A.a2,A.a3],H z=none)->Q .non H'
def Yo (CS:Addr):Sp:=fun vs H Q _=>∃(s dx b fl rk rb br l:Addr) (k:Nat) (as:List Addr) (ps:List Rdp) (v w u:Int) (x:Str),vs=[.ref s, .int w]/\H s=some (.ins CS dx (seF b fl k rk))/\H fl=some (.lst [.ref rb])/\H rb=some (.tup [.ref br, .ref l, .int v])/\H l=some (.lst (as.map V.ref))/\j8 H as ps/\ps[k]? =some (x,u)/\
 ∀fl' H',But [s] H H'->H fl'=none->H' s=some (.ins CS dx (seF b fl' (k+1) rk))->H' fl'=some (.lst (if u=w then [.ref rb] else []))->Q .non H'
theorem Ka {r:R}:∀{ps:List Rdp}{kn:Kn}{k:Nat}{x:Str}{u:Int},Chn r kn ps->ps[k]? =some (x,u)->Chn r kn (ps.take k)/\ev (kn.puts (ps.take k)) r= .inl x
 |[],_,_,_,_,_,h=>by simp at h
 | p::ps,kn,0,x,u,c,h=>by cases h;exact⟨trivial,c.1⟩
 | p::ps,kn,k+1,x,u,c,h=>by
   obtain⟨h1,h2⟩:=Ka (ps:=ps) (k:=k) c.2 (by simpa using h)
   exact⟨⟨c.1,h1⟩,h2⟩
theorem Mw {r:R}{ps:List Rdp}{kn:Kn}{k:Nat}{x:Str}{u:Int} (c:Chn r kn0 ps) (h:ps[k]? =some (x,u)) (he:∀(j:Nat) p,j<k->ps[j]? =some p->kn p.1=some p.2):yd kn r x:=by
 obtain⟨h1,h2⟩:=Ka c h
 refine⟨ps.take k,h1,h2,fun p hp=> ?_, ?_⟩
 ·obtain⟨j,hj⟩:=List.getElem?_of_mem hp
  rw[List.getElem?_take] at hj
  split at hj
  ·exact he j p (by assumption) hj
  ·cases hj
 ·rw[List.map_take]
  exact((xg c).2).sublist (List.take_sublist _ _)
theorem Kc {H:Hp}:∀{as:List Addr}{ps:List Rdp},as.length=ps.length->(∀(j:Nat) (b:Addr) (p:Rdp),as[j]? =some b->ps[j]? =some p->H b=some (.tup (rdV p)))->j8 H as ps
 |[],[],_,_=> .nil
 | a::as,p::ps,hl,h=> .cons (h 0 a p rfl rfl) (Kc (by simpa using hl) fun j b q h1 h2=>h (j+1) b q (by simpa using h1) (by simpa using h2))
 |[],_::_,hl,_=>by simp at hl
 | _::_,[],hl,_=>by simp at hl
def Rcd (rm:Rm) (y:Str) (r:R) (kn:Kn) (ps:List Rdp) (v:Int) (made:Bool):Prop:=
 nj r kn0 ps v/\Rows kn ps/\if made=true then GZ rm y r kn else rm y=some (r,ps,v)
theorem Ob {kn kn':Kn}{x y:Str} (e:look kn x= .inl y) (h:kn' y=none):look kn' x= .inl y:=by
 obtain⟨rfl,_⟩:=rB e
 unfold look
 rw[h]
theorem Ej {kn kn':Kn} (hk:Kn.Le kn kn'):∀{r:R}{x:Str},ev kn r= .inl x->kn' x=none->ev kn' r= .inl x
 | .num n,x,h,_=>by cases h
 | .rd y,x,h,hx=>Ob h hx
 | .bin op a b,x,h,hx=>by
   simp only[ev] at h ⊢
   cases ea:ev kn a with
   | inl y=>rw[ea] at h;cases h;rw[Ej hk ea hx]
   | inr u=>
     rw[ea] at h
     rw[ni hk ea]
     simp only at h ⊢
     cases eb:ev kn b with
     | inl y=>rw[eb] at h;cases h;rw[Ej hk eb hx]
     | inr v=>rw[eb] at h;cases h
 | .pick a b c,x,h,hx=>by
   simp only[ev] at h ⊢
   cases ea:ev kn a with
   | inl y=>rw[ea] at h;cases h;rw[Ej hk ea hx]
   | inr u=>
     rw[ea] at h
     rw[ni hk ea]
     simp only at h ⊢
     by_cases hu:u>0
     ·rw[if_pos hu] at h ⊢;exact Ej hk h hx
     ·rw[if_neg hu] at h ⊢;exact Ej hk h hx
 | .cho a ns,x,h,hx=>by
   simp only[ev] at h ⊢
   cases ea:ev kn a with
   | inl y=>rw[ea] at h;cases h;rw[Ej hk ea hx]
   | inr u=>
     rw[ea] at h
     rw[ni hk ea]
     simp only at h ⊢
     cases ep:pK ns u with
     | none=>rw[ep] at h;cases h
     | some y=>rw[ep] at h;exact Ob h hx
theorem Ib:∀{ps:List Rdp}{k kn:Kn},Kn.Le k kn->(∀p∈ps,kn p.1=some p.2)->Kn.Le (k.puts ps) kn
 |[],k,kn,h,_=>h
 | p::ps,k,kn,h,hp=>by
   refine Ib (ps:=ps) (k:=k.put p.1 p.2) (fun x v e=> ?_) fun q hq=>hp q (by simp[hq])
   unfold Kn.put at e
   by_cases z:x=p.1
   ·rw[if_pos z] at e;cases e;rw[z];exact hp p (by simp)
   ·rw[if_neg z] at e;exact h x v e
theorem Sx {kn:Kn}:Kn.Le kn0 kn:=fun x v e=>by cases e
theorem yd.ev {kn:Kn}{r:R}{x:Str} (h:yd kn r x) (hx:kn x=none):ev kn r= .inl x:=let ⟨ps,_,b,c⟩:=h;Ej (Ib Sx c.s) b hx
theorem aaW {kn:Kn}{r:R}{ps:List Rdp}{v:Int} (g:nj r kn0 ps v) (c:Rows kn ps):RB.ev kn r= .inr v:=ni (Ib Sx c.s) g.2
abbrev Ms:Type:=List Str×Kn×List Str
def mv (gv:Kn) (rc:Rn):Ms->Option Ms
 | ([],_,_)=>none
 | (x::p,kn,od)=>match kn x with
   | some _=>some (p,kn,od)
   | none=>match gv x with
     | some v=>some (x::p,kn.put x v,od)
     | none=>match rc x with
       | none=>none
       | some r=>match ev kn r with
         | .inl y=>some (y::x::p,kn,od)
         | .inr v=>some (x::p,kn.put x v,od++[x])
def itM (gv:Kn) (rc:Rn):Nat->Ms->Option Ms
 | 0,s=>some s
 | k+1,s=>match mv gv rc s with
   | none=>none
   | some t=>itM gv rc k t
def Mvs (gv:Kn) (rc:Rn) (s t:Ms):Prop:=∃k,itM gv rc k s=some t
section
variable {gv:Kn}{rc:Rn}
theorem aaX {kn:Kn}{od:List Str}:mv gv rc ([],kn,od)=none:=rfl
theorem Ie {x:Str}{p od:List Str}{kn:Kn}{v:Int} (h2:kn x=none) (h:gv x=some v):mv gv rc (x::p,kn,od)=some (x::p,kn.put x v,od):=by unfold mv;simp only[h,h2]
theorem Bh {x:Str}{p od:List Str}{kn:Kn} (h2:kn x≠none):mv gv rc (x::p,kn,od)=some (p,kn,od):=by
 unfold mv
 cases e:kn x with
 | none=>exact absurd e h2
 | some v=>simp only[e]
theorem De {x y:Str}{p od:List Str}{kn:Kn}{r:R} (h:gv x=none) (h2:kn x=none) (h3:rc x=some r) (h4:ev kn r= .inl y):mv gv rc (x::p,kn,od)=some (y::x::p,kn,od):=by unfold mv;simp only[h,h2,h3,h4]
theorem Ek {x:Str}{p od:List Str}{kn:Kn}{r:R}{v:Int} (h:gv x=none) (h2:kn x=none) (h3:rc x=some r) (h4:ev kn r= .inr v):mv gv rc (x::p,kn,od)=some (x::p,kn.put x v,od++[x]):=by unfold mv;simp only[h,h2,h3,h4]
theorem Mvs.refl (s:Ms):Mvs gv rc s s:=⟨0,rfl⟩
theorem Kd:∀{k:Nat}{s t u:Ms},itM gv rc k s=some t->mv gv rc t=some u->itM gv rc (k+1) s=some u
 | 0,s,t,u,h,h2=>by cases h;show(match mv gv rc s with | none=>none | some t=>itM gv rc 0 t)=some u;rw[h2];rfl
 | k+1,s,t,u,h,h2=>by
   unfold itM at h ⊢
   cases e:mv gv rc s with
   | none=>rw[e] at h;cases h
   | some w=>rw[e] at h;exact Kd (k:=k) h h2
theorem Mvs.snoc {s t u:Ms} (h:Mvs gv rc s t) (h2:mv gv rc t=some u):Mvs gv rc s u:=let ⟨k,e⟩:=h;⟨k+1,Kd e h2⟩
theorem Oc:∀{k:Nat}{l:Nat}{s t u:Ms},itM gv rc k s=some t->itM gv rc l t=some u->itM gv rc (k+l) s=some u
 | 0,l,s,t,u,h,h2=>by cases h;rw[Nat.zero_add];exact h2
 | k+1,l,s,t,u,h,h2=>by
   rw[Nat.add_right_comm]
   unfold itM at h ⊢
   cases e:mv gv rc s with
   | none=>rw[e] at h;cases h
   | some w=>rw[e] at h;exact Oc (k:=k) h h2
theorem Mvs.trans {s t u:Ms} (h:Mvs gv rc s t) (h2:Mvs gv rc t u):Mvs gv rc s u:=let ⟨k,e⟩:=h;let ⟨l,e2⟩:=h2;⟨k+l,Oc e e2⟩
end
def Runs (gv:Kn) (rc:Rn):List Str->Kn×List Str->Kn×List Str->Prop
 |[],a,b=>a=b
 | x::ws,a,b=>∃c,Mvs gv rc ([x],a) ([],c)/\Runs gv rc ws c b
def R.Fn (kn:Kn):R->Prop
 | .num _=>True
 | .rd _=>True
 | .bin op a b=>a.Fn kn/\b.Fn kn/\(op= .times->∀u v,ev kn a= .inr u->ev kn b= .inr v->tH u v)
 | .pick a b c=>a.Fn kn/\b.Fn kn/\c.Fn kn
 | .cho a ns=>a.Fn kn/\1<=ns.length
theorem El {kn:Kn}:∀(r:R),r.Fn kn->∀t f d,Rows kn d->vG kn r t f d
 | .num n,_,t,f,d,hd=>⟨1,[], .succ .num (by rw[List.append_nil];exact .zero),V3,by rw[List.append_nil];exact hd⟩
 | .rd x,_,t,f,d,hd=>JX hd
 | .bin op a b,h,t,f,d,hd=>by
   have ua:∀kn' x,ev kn' a= .inl x->ev kn' (.bin op a b)= .inl x:=fun kn' x e=>by simp only[ev];rw[e]
   have ha:=El (kn:=kn) a h.1 (t++[.join op, .r b]) f d hd
   unfold vG at ha ⊢
   rw[List.append_assoc] at ha
   simp only[ev]
   cases ea:ev kn a with
   | inl x=>
     rw[ea] at ha
     obtain⟨n,t',f',us,s,hx,c,e,hr⟩:=ha
     exact⟨n+1,t',f',us, .succ .bin s,hx,c.up fun kn' x _ e=>ua kn' x e,ua _ _ e,hr⟩
   | inr u=>
     rw[ea] at ha
     obtain⟨n,us,s,g,hr⟩:=ha
     have hb:=El (kn:=kn) b h.2.1 (t++[.join op]) (f++[u]) (d++us) hr
     unfold vG at hb
     rw[List.append_assoc] at hb
     have ub:∀kn' x,Kn.Le ((kn0.puts d).puts us) kn'->ev kn' b= .inl x->ev kn' (.bin op a b)= .inl x:=fun kn' x l e=>by simp only[ev];rw[ni l g.e];simp only;rw[e]
     cases eb:ev kn b with
     | inl x=>
       rw[eb] at hb
       obtain⟨m,t',f',vs,s2,hx,c,e,hr2⟩:=hb
       rw[Kn.gO] at c
       rw[List.append_assoc] at s2 e hr2
       refine⟨n+m+1,t',f',us++vs, .succ .bin (s.add s2),hx,(g.c.up fun kn' x _ e=>ua kn' x e).app (c.up ub), ?_,hr2⟩
       refine ub _ _ ?_ e
       rw[Kn.gO,Kn.gO]
       exact c.le
     | inr v=>
       rw[eb] at hb
       obtain⟨m,vs,s2,g2,hr2⟩:=hb
       rw[Kn.gO] at g2
       rw[List.append_assoc] at s2 hr2
       refine⟨n+(m+1)+1,us++vs, .succ .bin (s.add (s2.add (.succ ?_ .zero))),V6 g g2,hr2⟩
       rw[List.append_assoc]
       exact .join fun z=>h.2.2 z u v ea eb
 | .pick a b c,h,t,f,d,hd=>by
   have ua:∀kn' x,ev kn' a= .inl x->ev kn' (.pick a b c)= .inl x:=fun kn' x e=>by simp only[ev];rw[e]
   have ha:=El (kn:=kn) a h.1 (t++[.branch b c]) f d hd
   unfold vG at ha ⊢
   rw[List.append_assoc] at ha
   simp only[ev]
   cases ea:ev kn a with
   | inl x=>
     rw[ea] at ha
     obtain⟨n,t',f',us,s,hx,c,e,hr⟩:=ha
     exact⟨n+1,t',f',us, .succ .pick s,hx,c.up fun kn' x _ e=>ua kn' x e,ua _ _ e,hr⟩
   | inr u=>
     rw[ea] at ha
     obtain⟨n,us,s,g,hr⟩:=ha
     have hb:vG kn (if u>0 then b else c) t f (d++us):=by
      split
      ·exact El b h.2.1 t f _ hr
      ·exact El c h.2.2 t f _ hr
     unfold vG at hb
     simp only
     have e:(if u>0 then ev kn b else ev kn c)=ev kn (if u>0 then b else c):=by split<;>rfl
     rw[e]
     have up:∀kn':Kn,Kn.Le ((kn0.puts d).puts us) kn'->ev kn' (.pick a b c)=ev kn' (if u>0 then b else c):=fun kn' l=>by
      simp only[ev];rw[ni l g.e];simp only;split<;>rfl
     cases eb:ev kn (if u>0 then b else c) with
     | inl x=>
       rw[eb] at hb
       obtain⟨m,t',f',vs,s2,hx,c2,e2,hr2⟩:=hb
       rw[Kn.gO] at c2
       rw[List.append_assoc] at s2 e2 hr2
       refine⟨n+(m+1)+1,t',f',us++vs, .succ .pick (s.add (.succ .branch s2)),hx,(g.c.up fun kn' x _ e=>ua kn' x e).app (c2.up fun kn' x l z=>by rw[up kn' l];exact z), ?_,hr2⟩
       rw[<-e2]
       have hl:=c2.le
       have:=up (kn0.puts (d++(us++vs))) (by rw[Kn.gO,Kn.gO];exact hl)
       simp only[ev] at this
       exact this
     | inr v=>
       rw[eb] at hb
       obtain⟨m,vs,s2,g2,hr2⟩:=hb
       rw[Kn.gO] at g2
       rw[List.append_assoc] at s2 hr2
       exact⟨n+(m+1)+1,us++vs, .succ .pick (s.add (.succ .branch s2)),R7 g g2,hr2⟩
 | .cho a ns,h,t,f,d,hd=>by
   have ua:∀kn' x,ev kn' a= .inl x->ev kn' (.cho a ns)= .inl x:=fun kn' x e=>by simp only[ev];rw[e]
   have ha:=El (kn:=kn) a h.1 (t++[.among ns]) f d hd
   unfold vG at ha ⊢
   rw[List.append_assoc] at ha
   simp only[ev]
   cases ea:ev kn a with
   | inl x=>
     rw[ea] at ha
     obtain⟨n,t',f',us,s,hx,c,e,hr⟩:=ha
     exact⟨n+1,t',f',us, .succ .cho s,hx,c.up fun kn' x _ e=>ua kn' x e,ua _ _ e,hr⟩
   | inr u=>
     rw[ea] at ha
     obtain⟨n,us,s,g,hr⟩:=ha
     obtain⟨y,ey⟩:=Qf h.2 u
     simp only
     rw[ey]
     have hb:=JX (kn:=kn) (x:=y) (t:=t) (f:=f) hr
     unfold vG at hb
     simp only[ev] at hb
     simp only
     have up:∀kn':Kn,Kn.Le ((kn0.puts d).puts us) kn'->ev kn' (.cho a ns)=ev kn' (.rd y):=fun kn' l=>by
      simp only[ev];rw[ni l g.e];simp only;rw[ey]
     cases eb:look kn y with
     | inl x=>
       rw[eb] at hb
       obtain⟨m,t',f',vs,s2,hx,c2,e2,hr2⟩:=hb
       rw[Kn.gO] at c2
       rw[List.append_assoc] at s2 e2 hr2
       refine⟨n+(m+1)+1,t',f',us++vs, .succ .cho (s.add (.succ (.among ey) s2)),hx,(g.c.up fun kn' x _ e=>ua kn' x e).app (c2.up fun kn' x l z=>by rw[up kn' l];exact z), ?_,hr2⟩
       have hl:=c2.le
       have:=up (kn0.puts (d++(us++vs))) (by rw[Kn.gO,Kn.gO];exact hl)
       exact this.trans e2
     | inr v=>
       rw[eb] at hb
       obtain⟨m,vs,s2,g2,hr2⟩:=hb
       rw[Kn.gO] at g2
       rw[List.append_assoc] at s2 hr2
       exact⟨n+(m+1)+1,us++vs, .succ .cho (s.add (.succ (.among ey) s2)),V7 g ey g2,hr2⟩
theorem Reach.adU {kn:Kn}{r:R} (hr:r.Fn kn) {c:Cf} (g:Reach kn r c):∃n c',StN kn n c c'/\Halt kn c'/\Reach kn r c'/\Goes kn r c':=by
 have h:=El (kn:=kn) r hr [] [] [] Sv
 unfold vG at h
 unfold Goes
 obtain⟨m,g⟩:=g
 cases e:ev kn r with
 | inr v=>
   rw[e] at h
   obtain⟨n,us,s,gg,hr⟩:=h
   obtain⟨k,t⟩:=g.rest s (.inl rfl)
   exact⟨k,_,t, .inl rfl,⟨n,s⟩,rfl,rfl,gg,hr⟩
 | inl x=>
   rw[e] at h
   obtain⟨n,t',f',us,s,hx,c1,e1,hr⟩:=h
   have hh:Halt kn ⟨t'++[.r (.rd x)],f',[]++us⟩:= .inr ⟨t',x,rfl,hx⟩
   obtain⟨k,t⟩:=g.rest s hh
   exact⟨k,_,t,hh,⟨n,s⟩,⟨t',rfl⟩,hx,us,c1,e1,hr⟩
def R.nms:R->List Str
 | .num _=>[]
 | .rd x=>[x]
 | .bin _ a b=>a.nms++b.nms
 | .pick a b c=>a.nms++(b.nms++c.nms)
 | .cho a ns=>a.nms++ns
theorem R.tW:∀r:R,r.In r.nms
 | .num _=>trivial
 | .rd x=>List.mem_singleton.mpr rfl
 | .bin _ a b=>⟨a.tW.mono fun x hx=>List.mem_append_left _ hx,b.tW.mono fun x hx=>List.mem_append_right _ hx⟩
 | .pick a b c=>⟨a.tW.mono fun x hx=>List.mem_append_left _ hx,b.tW.mono fun x hx=>List.mem_append_right _ (List.mem_append_left _ hx),c.tW.mono fun x hx=>List.mem_append_right _ (List.mem_append_right _ hx)⟩
 | .cho a ns=>⟨a.tW.mono fun x hx=>List.mem_append_left _ hx,fun x hx=>List.mem_append_right _ hx⟩
theorem Ke {r:R}{ps:List Rdp}{kn:Kn}{ns:List Str} (c:Chn r kn ps) (hi:r.In ns):ps.length<=ns.length:=by
 have h:=dH (ws:=ps.map (·.1)) (ns:=ns) (xg c).2 fun x hx=>by
  obtain⟨p,hp,rfl⟩:=List.mem_map.mp hx
  exact R8 hi c p hp
 rwa [List.length_map] at h
structure SrD where
 so:Addr
 dx:Addr
 g:Addr
 c:Addr
 o:Addr
 dxo:Addr
 rcd:Addr
 kd:Addr
 sd:Addr
 rd:Addr
def srF (g c o kd sd rd:Addr):List (Str×V):=[("given", .ref g),("recipes", .ref c),("old", .ref o),("known", .ref kd),("settled", .ref sd),("reckoned", .ref rd)]
structure SrC (K:PySem.W.Frag) (C:Addr):Prop where
 cl:Cls K C
 nG:iM K C "given"
 nR:iM K C "recipes"
 nO:iM K C "old"
 nK:iM K C "known"
 nS:iM K C "settled"
 nM:iM K C "reckoned"
theorem zF (g c o kd sd rd:Addr):List.lookup ("given":Str) (srF g c o kd sd rd)=some (.ref g):=rfl
theorem tX (g c o kd sd rd:Addr):List.lookup ("recipes":Str) (srF g c o kd sd rd)=some (.ref c):=rfl
theorem Ig (g c o kd sd rd:Addr):List.lookup ("old":Str) (srF g c o kd sd rd)=some (.ref o):=rfl
theorem zG (g c o kd sd rd:Addr):List.lookup ("known":Str) (srF g c o kd sd rd)=some (.ref kd):=rfl
theorem tY (g c o kd sd rd:Addr):List.lookup ("settled":Str) (srF g c o kd sd rd)=some (.ref sd):=rfl
theorem qg (g c o kd sd rd:Addr):List.lookup ("reckoned":Str) (srF g c o kd sd rd)=some (.ref rd):=rfl
theorem iV (g c o kd sd rd:Addr):List.lookup ("begin":Str) (srF g c o kd sd rd)=none/\List.lookup ("end":Str) (srF g c o kd sd rd)=none/\List.lookup ("made":Str) (srF g c o kd sd rd)=none/\List.lookup ("kept":Str) (srF g c o kd sd rd)=none/\List.lookup ("settle":Str) (srF g c o kd sd rd)=none:=⟨rfl,rfl,rfl,rfl,rfl⟩
theorem Bj (rcd:Addr):List.lookup ("records_for":Str) (nrF rcd)=none/\List.lookup ("put_made":Str) (nrF rcd)=none:=⟨rfl,rfl⟩
def Mu (H:Hp) (z:Addr):Prop:=∃o,H z=some o/\∀xs,o≠ .tup xs
def adV:Option HO->Option HO->Option HO
 | some (.tup xs),_=>some (.tup xs)
 | _,d=>d
def grow (Hf H H1:Hp):Hp:=fun a=>if H a=none then H1 a else adV (H1 a) (Hf a)
theorem Wj {Hf H H1:Hp} (s0:aN Hf H) (s1:aN H H1):aN Hf (grow Hf H H1):=fun a o e=>by
 have h0:=s0 _ _ e
 have h1:=s1 _ _ h0
 unfold grow
 rw[if_neg (by rw[h0];simp),h1]
 cases o<;>first | exact e | rfl
theorem Wk {Hf H H1:Hp} (s0:aN Hf H) (s1:aN H H1):aN (grow Hf H H1) H1:=fun a o e=>by
 unfold grow at e
 split at e
 ·exact e
 ·cases h1:H1 a with
  | none=>
    rw[h1] at e
    have e:Hf a=some o:=e
    have:=s1 _ _ (s0 _ _ e)
    rw[h1] at this;cases this
  | some u=>
    rw[h1] at e
    cases u with
    | tup xs=>exact e
    | _=>
      have e:Hf a=some o:=e
      have:=s1 _ _ (s0 _ _ e)
      rw[h1] at this;exact this
theorem Qm {Hf H H1:Hp}:lg H1 (grow Hf H H1):=fun a xs e=>by
 unfold grow
 split
 ·exact e
 ·rw[e];rfl
theorem Sy {Hf H H1:Hp}{a:Addr} (h:H a=none):grow Hf H H1 a=H1 a:=by unfold grow;rw[if_pos h]
theorem Df {Hf H H1:Hp} (s1:aN H H1) {z:Addr} (m:Mu H z) (hz:Hf z=none):grow Hf H H1 z=none:=by
 obtain⟨o,e,n⟩:=m
 have h1:=s1 _ _ e
 unfold grow
 rw[if_neg (by rw[e];simp),h1]
 cases o with
 | tup xs=>exact absurd rfl (n xs)
 | _=>exact hz
theorem Rcd.le {rm:Rm}{y:Str}{r:R}{kn kn':Kn}{ps:List Rdp}{v:Int}{m:Bool} (h:Rcd rm y r kn ps v m) (l:Kn.Le kn kn'):Rcd rm y r kn' ps v m:=by
 obtain⟨h1,h2,h3⟩:=h
 refine⟨h1,h2.le l, ?_⟩
 cases m with
 | true=>rw[if_pos rfl] at h3 ⊢;exact h3.le l
 | false=>exact h3
inductive Rch (gv:Kn) (rc:Rn) (kn:Kn) (x:Str):Str->Prop where
 | refl:Rch gv rc kn x x
 | step {y z:Str}{r:R} (h:Rch gv rc kn x y) (hg:gv y=none) (hr:rc y=some r) (hs:yd kn r z):Rch gv rc kn x z
theorem yd.le {kn kn':Kn}{r:R}{x:Str} (h:yd kn r x) (l:Kn.Le kn kn'):yd kn' r x:=let ⟨ps,a,b,c⟩:=h;⟨ps,a,b,c.le l⟩
theorem Rch.le {gv:Kn}{rc:Rn}{kn kn':Kn}{x y:Str} (h:Rch gv rc kn x y) (l:Kn.Le kn kn'):Rch gv rc kn' x y:=by
 induction h with
 | refl=>exact .refl
 | step _ hg hr hs ih=>exact .step ih hg hr (hs.le l)
def Kf (CSe:Addr):Sp:=fun vs H Q _=>∃(a dx h g c o:Addr),vs=[.ref a, .ref h, .ref o]/\H a=some (.ins CSe dx [])/\H h=some (.tup [.ref g, .ref c])/\
 ∀kd sd rd H',But [a] H H'->H' a=some (.ins CSe dx (srF g c o kd sd rd))->H kd=none->H sd=none->H rd=none->kd≠sd->kd≠rd->sd≠rd->H' kd=some (.dK [])->H' sd=some (.dK [])->H' rd=some (.dK [])->Q .non H'
structure RcG (r:R):Prop where
 g:r.Dy
 d:r.depth<=8
 w:wR r<=4000
 l:r.nms.length<=900
structure Bk (H:Hp) (kg kc:List (Key×V)) (gs cs:List Str) (gv:Kn) (rc:Rn):Prop where
 k1:iz kg gs
 k2:iz kc cs
 n:gs.length+cs.length<=60
 g:∀x,cI kg (.inr x)=(gv x).map V.int
 r:∀x r,rc x=some r->∃b,cI kc (.inr x)=some (.ref b)/\IsR H b r
 rn:∀x,rc x=none->cI kc (.inr x)=none
 ok:∀x r,rc x=some r->RcG r
theorem Bk.tups {H H':Hp}{kg kc:List (Key×V)}{gs cs:List Str}{gv:Kn}{rc:Rn} (h:Bk H kg kc gs cs gv rc) (t:lg H H'):Bk H' kg kc gs cs gv rc:=
 ⟨h.k1,h.k2,h.n,h.g,fun x r e=>let ⟨b,h1,h2⟩:=h.r x r e;⟨b,h1,h2.tups t⟩,h.rn,h.ok⟩
theorem Bk.gm {H:Hp}{kg kc:List (Key×V)}{gs cs:List Str}{gv:Kn}{rc:Rn} (h:Bk H kg kc gs cs gv rc) {x:Str} (hx:gv x≠none):x∈gs:=Decidable.byContradiction fun w=>by
 have:=h.k1.none.mpr w
 rw[h.g] at this
 cases e:gv x with
 | none=>exact hx e
 | some v=>rw[e] at this;cases this
theorem Bk.cm {H:Hp}{kg kc:List (Key×V)}{gs cs:List Str}{gv:Kn}{rc:Rn} (h:Bk H kg kc gs cs gv rc) {x:Str} (hx:rc x≠none):x∈cs:=Decidable.byContradiction fun w=>by
 have:=h.k2.none.mpr w
 cases e:rc x with
 | none=>exact hx e
 | some r=>
   obtain⟨b,hb,_⟩:=h.r x r e
   rw[hb] at this;cases this
def pL (H:Hp) (h g c:Addr) (gs cs:List Str) (gv:Kn) (rc:Rn):Prop:=∃kg kc,H h=some (.tup [.ref g, .ref c])/\H g=some (.dK kg)/\H c=some (.dK kc)/\Bk H kg kc gs cs gv rc
theorem pL.same {H H':Hp}{h g c:Addr}{gs cs:List Str}{gv:Kn}{rc:Rn} (a:pL H h g c gs cs gv rc) (s:aN H H'):pL H' h g c gs cs gv rc:=by
 obtain⟨kg,kc,e,e1,e2,b⟩:=a
 exact⟨kg,kc,s _ _ e,s _ _ e1,s _ _ e2,b.tups (aN.tups s)⟩
structure j9 (H:Hp) (kr:List (Key×V)) (rm:Rm):Prop where
 k:∃rs,iz kr rs
 v:∀x q,rm x=some q->∃b,cI kr (.inr x)=some (.ref b)/\vD [] H b q
 w:∀x,rm x=none->cI kr (.inr x)=none
theorem j9.map {H H':Hp}{kr:List (Key×V)}{rm:Rm} (h:j9 H kr rm) (f:∀b q,vD [] H b q->vD [] H' b q):j9 H' kr rm:=⟨h.k,fun x q e=>let ⟨b,h1,h2⟩:=h.v x q e;⟨b,h1,f b q h2⟩,h.w⟩
theorem j9.same {H H':Hp}{kr:List (Key×V)}{rm:Rm} (h:j9 H kr rm) (s:aN H H'):j9 H' kr rm:=h.map fun _ _ z=>z.same s
theorem j9.put {H:Hp}{kr:List (Key×V)}{rm:Rm} (h:j9 H kr rm) {x:Str}{q:R×List Rdp×Int}{b:Addr} (ra:vD [] H b q):j9 H (putK kr (.inr x) (.ref b)) (rm.put x q):=by
 obtain⟨rs,k⟩:=h.k
 refine⟨?_,fun y u e=> ?_,fun y e=> ?_⟩
 ·by_cases z:x∈rs
  ·exact⟨_,k.Bg z _⟩
  ·exact⟨_,k.tR z _⟩
 ·rw[jy]
  unfold Rm.put at e
  by_cases z:y=x
  ·rw[if_pos z] at e;cases e
   exact⟨b,by rw[if_pos (by rw[z])],ra⟩
  ·rw[if_neg z] at e
   obtain⟨b',hb,ra'⟩:=h.v y u e
   exact⟨b',by rw[if_neg (mK z)];exact hb,ra'⟩
 ·rw[jy]
  unfold Rm.put at e
  by_cases z:y=x
  ·rw[if_pos z] at e;cases e
  ·rw[if_neg z] at e
   rw[if_neg (mK z)];exact h.w y e
structure RecM (H0 H:Hp) (kr:List (Key×V)) (rm:Rm):Prop where
 s:j9 H kr rm
 f:∀x q b,rm x=some q->cI kr (.inr x)=some (.ref b)->∃br l v,H b=some (.tup [br, .ref l,v])/\H0 l=none
 d:∀x y q q' b b' br br' l l' v v',x≠y->rm x=some q->rm y=some q'->cI kr (.inr x)=some (.ref b)->cI kr (.inr y)=some (.ref b')->H b=some (.tup [br, .ref l,v])->H b'=some (.tup [br', .ref l',v'])->l≠l'
theorem RecM.nil {H0 H:Hp}:RecM H0 H [] (fun _=>none):=⟨⟨⟨[],⟨rfl,by simp⟩⟩,fun x q e=>(nomatch e),fun x _=>pG⟩,fun x q b e=>(nomatch e),fun x y q q' b b' br br' l l' v v' _ e=>(nomatch e)⟩
theorem RecM.same {H0 H H':Hp}{kr:List (Key×V)}{rm:Rm} (h:RecM H0 H kr rm) (s:aN H H'):RecM H0 H' kr rm:=by
 have key:∀{x q b br l v},rm x=some q->cI kr (.inr x)=some (.ref b)->H' b=some (.tup [br, .ref l,v])->H b=some (.tup [br, .ref l,v]):=fun{x q b br l v} e1 e2 e3=>by
  obtain⟨br',l',v',a,_⟩:=h.f x q b e1 e2
  have:=s _ _ a
  rw[e3] at this
  cases this;exact a
 exact⟨h.s.same s,fun x q b e1 e2=>let ⟨br,l,v,a,c⟩:=h.f x q b e1 e2;⟨br,l,v,s _ _ a,c⟩,fun x y q q' b b' br br' l l' v v' n e1 e2 e3 e4 e5 e6=>h.d x y q q' b b' br br' l l' v v' n e1 e2 e3 e4 (key e1 e3 e5) (key e2 e4 e6)⟩
theorem RecM.low {H0 H1 H:Hp}{kr:List (Key×V)}{rm:Rm} (h:RecM H1 H kr rm) (s:aN H0 H1):RecM H0 H kr rm:=⟨h.s,fun x q b e1 e2=>let ⟨br,l,v,a,c⟩:=h.f x q b e1 e2;⟨br,l,v,a,same_none s c⟩,h.d⟩
theorem RecM.put {H0 H:Hp}{kr:List (Key×V)}{rm:Rm} (h:RecM H0 H kr rm) {x:Str}{q:R×List Rdp×Int}{b br l:Addr}{v:V} (ra:vD [] H b q) (eb:H b=some (.tup [.ref br, .ref l,v])) (hl:H0 l=none) (hx:rm x=none) (hnew:∀y u b' br' l' v',rm y=some u->cI kr (.inr y)=some (.ref b')->H b'=some (.tup [br', .ref l',v'])->l'≠l):RecM H0 H (putK kr (.inr x) (.ref b)) (rm.put x q):=by
 refine⟨h.s.put ra,fun y u b' e1 e2=> ?_,fun y z u u' b' b'' br' br'' l' l'' v' v'' n e1 e2 e3 e4 e5 e6=> ?_⟩
 ·rw[jy] at e2
  unfold Rm.put at e1
  by_cases z:y=x
  ·rw[if_pos (by rw[z])] at e2;cases e2
   exact⟨_,_,_,eb,hl⟩
  ·rw[if_neg (mK z)] at e2
   rw[if_neg z] at e1
   exact h.f y u b' e1 e2
 ·rw[jy] at e3 e4
  unfold Rm.put at e1 e2
  by_cases z1:y=x
  ·rw[if_pos (by rw[z1])] at e3;cases e3
   rw[eb] at e5;cases e5
   have z2:¬z=x:=fun w=>n (z1.trans w.symm)
   rw[if_neg (mK z2)] at e4
   rw[if_neg z2] at e2
   exact Ne.symm (hnew z u' b'' br'' l'' v'' e2 e4 e6)
  ·rw[if_neg (mK z1)] at e3
   rw[if_neg z1] at e1
   by_cases z2:z=x
   ·rw[if_pos (by rw[z2])] at e4;cases e4
    rw[eb] at e6;cases e6
    exact hnew y u b' br' l' v' e1 e3 e5
   ·rw[if_neg (mK z2)] at e4
    rw[if_neg z2] at e2
    exact h.d y z u u' b' b'' br' br'' l' l'' v' v'' n e1 e2 e3 e4 e5 e6
def RmF (gv:Kn) (rc:Rn) (rm:Rm):Prop:=∀x r ps v,rm x=some (r,ps,v)->gv x=none->rc x=some r->nj r kn0 ps v
def Od (C:Addr):Sp:=fun vs H Q _=>∃(o dx rcd b:Addr) (kr:List (Key×V)) (rm:Rm) (y:Str) (r:R),vs=[.ref o, .str y, .ref b]/\H o=some (.ins C dx (nrF rcd))/\H rcd=some (.dK kr)/\j9 H kr rm/\IsR H b r/\r.Dy/\r.depth<=8/\
 ∀fl H',aN H H'->H fl=none->(∀kn,JZ H' fl kr rm y r kn 0)->Q (.ref fl) H'
def G3 (CS CR:Addr):Sp:=fun vs H Q _=>∃(A:SeD) (d:Addr) (kr:List (Key×V)) (rm:Rm) (y:Str) (r:R) (kn:Kn),vs=[.ref A.s, .ref d]/\tV CS CR kr rm y r kn A H/\j9 H kr rm/\(∀ps v,rm y=some (r,ps,v)->nj r kn0 ps v)/\RcG r/\RZ H d kn/\d≠A.a3/\r.Fn kn/\
 ∀(A':SeD) H',But A.ft H H'->A'.s=A.s->A'.b=A.b->A'.rk=A.rk->A'.a1=A.a1->A'.a2=A.a2->A'.a3=A.a3->(A'.fl=A.fl\/H A'.fl=none)->tV CS CR kr rm y r kn A' H'->
  (Sw H' CR kr rm y r kn A'->Q .non H')/\∀x,kn x=none->yd kn r x->Q (.str x) H'
def Oe (CS CR:Addr):Sp:=fun vs H Q _=>∃(A:SeD) (kr:List (Key×V)) (rm:Rm) (y:Str) (r:R) (kn:Kn),vs=[.ref A.s]/\H A.s=some (.ins CS A.dx (seF A.b A.fl A.k A.rk))/\j9 H kr rm/\(∀ps v,rm y=some (r,ps,v)->nj r kn0 ps v)/\RcG r/\Sw H CR kr rm y r kn A/\
 ∀(rb l:Addr) (as:List Addr) (ps:List Rdp) (v:Int) (made:Bool) (H':Hp),aN H H'->H' rb=some (.tup [.ref A.b, .ref l, .int v])->H l=none->H' l=some (.lst (as.map V.ref))->j8 H' as ps->Rcd rm y r kn ps v made->(∃xs,H' A.fl=some (.lst xs)/\decide (xs.length=0)=made)->Q (.ref rb) H'
structure StG (gv:Kn) (rc:Rn) (kn:Kn) (rm:Rm):Prop where
 a:∀x v,kn x=some v->gv x=some v\/(gv x=none/\∃r ps,rc x=some r/\rm x=some (r,ps,v))
 b:∀x r ps v,rm x=some (r,ps,v)->rc x=some r/\gv x=none/\kn x=some v/\nj r kn0 ps v/\Rows kn ps
theorem StG.Wl {gv:Kn}{rc:Rn}{kn:Kn}{rm:Rm} (h:StG gv rc kn rm) {x:Str}{v:Int} (hk:kn x=none) (hg:gv x=some v):StG gv rc (kn.put x v) rm:=by
 have le:=Kn.qz (v:=v) hk
 refine⟨fun y u e=> ?_,fun y r ps u e=> ?_⟩
 ·unfold Kn.put at e
  by_cases z:y=x
  ·rw[if_pos z] at e;cases e;rw[z];exact .inl hg
  ·rw[if_neg z] at e;exact h.a y u e
 ·obtain⟨a,b,c,d,f⟩:=h.b y r ps u e
  exact⟨a,b,le _ _ c,d,f.le le⟩
theorem StG.rC {gv:Kn}{rc:Rn}{kn:Kn}{rm:Rm} (h:StG gv rc kn rm) {x:Str}{r:R}{ps:List Rdp}{v:Int} (hk:kn x=none) (hg:gv x=none) (hr:rc x=some r) (got:nj r kn0 ps v) (row:Rows kn ps):StG gv rc (kn.put x v) (rm.put x (r,ps,v)):=by
 have le:=Kn.qz (v:=v) hk
 refine⟨fun y u e=> ?_,fun y r' ps' u e=> ?_⟩
 ·unfold Kn.put at e
  unfold Rm.put
  by_cases z:y=x
  ·rw[if_pos z] at e;cases e
   rw[z];exact .inr ⟨hg,r,ps,hr,if_pos rfl⟩
  ·rw[if_neg z] at e
   rcases h.a y u e with w | ⟨w,r1,p1,w1,w2⟩
   ·exact .inl w
   ·exact .inr ⟨w,r1,p1,w1,by rw[if_neg z];exact w2⟩
 ·unfold Rm.put at e
  by_cases z:y=x
  ·rw[if_pos z] at e;cases e
   rw[z]
   exact⟨hr,hg,by unfold Kn.put;rw[if_pos rfl],got,row.le le⟩
  ·rw[if_neg z] at e
   obtain⟨a,b,c,d,f⟩:=h.b y r' ps' u e
   exact⟨a,b,le _ _ c,d,f.le le⟩
structure FQ (CSe CN:Addr) (D:SrD) (gs cs:List Str) (gv:Kn) (rc:Rn) (kg kc kr:List (Key×V)) (rm:Rm) (Hf:Hp):Prop where
 e:Hf D.so=some (.ins CSe D.dx (srF D.g D.c D.o D.kd D.sd D.rd))
 eg:Hf D.g=some (.dK kg)
 ec:Hf D.c=some (.dK kc)
 bd:Bk Hf kg kc gs cs gv rc
 eo:Hf D.o=some (.ins CN D.dxo (nrF D.rcd))
 er:Hf D.rcd=some (.dK kr)
 rD:j9 Hf kr rm
 rf:RmF gv rc rm
 ne:D.kd≠D.sd/\D.kd≠D.rd/\D.sd≠D.rd
theorem FQ.same {CSe CN:Addr}{D:SrD}{gs cs:List Str}{gv:Kn}{rc:Rn}{kg kc kr:List (Key×V)}{rm:Rm}{Hf H:Hp} (h:FQ CSe CN D gs cs gv rc kg kc kr rm Hf) (s:aN Hf H):FQ CSe CN D gs cs gv rc kg kc kr rm H:=
 ⟨s _ _ h.e,s _ _ h.eg,s _ _ h.ec,h.bd.tups (aN.tups s),s _ _ h.eo,s _ _ h.er,h.rD.same s,h.rf,h.ne⟩
structure jV (H0:Hp) (D:SrD) (gv:Kn) (rc:Rn) (rm:Rm) (kn:Kn) (rmN:Rm) (rkn:Str->Bool) (od:List Str) (Hf H:Hp):Prop where
 sm:aN Hf H
 fk:Hf D.kd=none
 fs:Hf D.sd=none
 fr:Hf D.rd=none
 ek:∃kw ws,H D.kd=some (.dK kw)/\iz kw ws/\∀x,cI kw (.inr x)=(kn x).map V.int
 es:∃ks,H D.sd=some (.dK ks)/\RecM H0 Hf ks rmN/\iz ks od
 er:∃kk rs,H D.rd=some (.dK kk)/\iz kk rs/\(∀x,cI kk (.inr x)=if rkn x=true then some (.bl true) else none)/\∀x,rkn x=true->rmN x≠none
 ok:StG gv rc kn rmN
 md:∀x r ps v,rmN x=some (r,ps,v)->Rcd rm x r kn ps v (rkn x)
 h0:aN H0 Hf
theorem StG.SM {H:Hp}{kg kc:List (Key×V)}{gs cs:List Str}{gv:Kn}{rc:Rn}{kn:Kn}{rm:Rm} (h:StG gv rc kn rm) (b:Bk H kg kc gs cs gv rc) {x:Str} (hx:kn x≠none):x∈gs++cs:=by
 cases e:kn x with
 | none=>exact absurd e hx
 | some v=>
   rcases h.a x v e with w | ⟨_,r,_,w,_⟩
   ·exact List.mem_append_left _ (b.gm (by rw[w];simp))
   ·exact List.mem_append_right _ (b.cm (by rw[w];simp))
theorem jV.kl {H0 H9:Hp}{kg kc:List (Key×V)}{gs cs:List Str}{D:SrD}{gv:Kn}{rc:Rn}{rm:Rm}{kn:Kn}{rmN:Rm}{rkn:Str->Bool}{od:List Str}{Hf H:Hp} (h:jV H0 D gv rc rm kn rmN rkn od Hf H) (b:Bk H9 kg kc gs cs gv rc) {kw:List (Key×V)}{ws:List Str} (k:iz kw ws) (hk:∀x,cI kw (.inr x)=(kn x).map V.int):kw.length<=60:=by
 rw[k.len]
 have:=dH (ws:=ws) (ns:=gs++cs) k.nd fun x hx=>h.ok.SM b fun e=>k.none.mp (by rw[hk,e];rfl) hx
 rw[List.length_append] at this
 have:=b.n
 omega
theorem jV.sl {H0 H9:Hp}{kg kc:List (Key×V)}{gs cs:List Str}{D:SrD}{gv:Kn}{rc:Rn}{rm:Rm}{kn:Kn}{rmN:Rm}{rkn:Str->Bool}{od:List Str}{Hf H:Hp} (h:jV H0 D gv rc rm kn rmN rkn od Hf H) (b:Bk H9 kg kc gs cs gv rc) {kw:List (Key×V)}{ws:List Str} (k:iz kw ws) (hk:∀x,rmN x=none->cI kw (.inr x)=none):kw.length<=60:=by
 rw[k.len]
 have:=dH (ws:=ws) (ns:=gs++cs) k.nd fun x hx=>h.ok.SM b fun e=>by
  cases z:rmN x with
  | none=>exact k.none.mp (hk x z) hx
  | some q=>
    obtain⟨r,ps,v⟩:=q
    have:=(h.ok.b x r ps v z).2.2.1
    rw[e] at this;cases this
 rw[List.length_append] at this
 have:=b.n
 omega
def Og (CSe CN CS CR:Addr):Sp:=fun vs H Q _=>∃(H0:Hp) (D:SrD) (gs cs:List Str) (gv:Kn) (rc:Rn) (kg kc kr:List (Key×V)) (rm:Rm) (kn:Kn) (rmN:Rm) (rkn:Str->Bool) (od:List Str) (Hf:Hp) (A:SeD) (y:Str) (r:R),vs=[.ref D.so, .str y, .ref A.s]/\FQ CSe CN D gs cs gv rc kg kc kr rm Hf/\jV H0 D gv rc rm kn rmN rkn od Hf H/\
 H A.s=some (.ins CS A.dx (seF A.b A.fl A.k A.rk))/\IsR H A.b r/\Sw H CR kr rm y r kn A/\kn y=none/\gv y=none/\rc y=some r/\(∀z∈A.ft,z∉[D.kd,D.sd,D.rd])/\
 ∀(v:Int) (ps:List Rdp) (made:Bool) (Hf' H':Hp),But [D.kd,D.sd,D.rd] H H'->aN Hf Hf'->(∀z,Mu H z->Hf z=none->Hf' z=none)->jV H0 D gv rc rm (kn.put y v) (rmN.put y (r,ps,v)) (fun x=>if x=y then made else rkn x) (od++[y]) Hf' H'->ev kn r= .inr v->Q .non H'
def Em (kn:Kn) (ns:List Str):Nat:=(ns.filter fun x=>(kn x).isNone).length
theorem yt {p p':Str->Bool}:∀{l:List Str},(∀j∈l,p' j=true->p j=true)->∀{i:Str},i∈l->p i=true->p' i=false->(l.filter p').length+1<=(l.filter p).length
 |[],_,i,hi,_,_=>by cases hi
 | a::l,h,i,hi,h1,h2=>by
   have hle:∀l:List Str,(∀j∈l,p' j=true->p j=true)->(l.filter p').length<=(l.filter p).length:=by
    intro l
    induction l with
    | nil=>intro _;exact Nat.le_refl _
    | cons b l ih=>
      intro h
      have ih:=ih fun j hj=>h j (by simp[hj])
      rw[List.filter_cons,List.filter_cons]
      by_cases hb:p' b=true
      ·rw[if_pos hb,if_pos (h b (by simp) hb)];simp;exact ih
      ·rw[if_neg hb]
       split
       ·simp;omega
       ·exact ih
   rcases List.mem_cons.mp hi with z | z
   ·subst z
    rw[List.filter_cons,List.filter_cons,if_neg (by rw[h2];decide),if_pos h1]
    have:=hle l fun j hj=>h j (by simp[hj])
    simp;exact this
   ·have ih:=yt (l:=l) (fun j hj=>h j (by simp[hj])) z h1 h2
    rw[List.filter_cons,List.filter_cons]
    by_cases hb:p' a=true
    ·rw[if_pos hb,if_pos (h a (by simp) hb)];simp;exact ih
    ·rw[if_neg hb]
     split
     ·simp;omega
     ·exact ih
theorem En {kn:Kn}{ns:List Str}{x:Str}{v:Int} (hi:x∈ns) (h:kn x=none):Em (kn.put x v) ns+1<=Em kn ns:=by
 refine yt (fun j _ hj=> ?_) hi (by simp only[h];rfl) ?_
 ·unfold Kn.put at hj
  by_cases z:j=x
  ·rw[if_pos z] at hj;cases hj
  ·rw[if_neg z] at hj;exact hj
 ·unfold Kn.put;rw[if_pos rfl];rfl
theorem Kg {S:List Addr}{H H':Hp} (b:But S H H') (m:∀z∈S,Mu H z):lg H H':=fun p xs e=>b p _ (fun w=>by
 obtain⟨o,h1,h2⟩:=m p w
 rw[e] at h1;cases h1;exact h2 _ rfl) e
theorem Mu.but {S:List Addr}{H H':Hp}{z:Addr} (m:Mu H z) (b:But S H H') (hz:z∉S):Mu H' z:=let ⟨o,h1,h2⟩:=m;⟨o,b _ _ hz h1,h2⟩
theorem Mu.some {H:Hp}{z:Addr} (m:Mu H z):H z≠none:=let ⟨o,h1,_⟩:=m;by rw[h1];simp
section
variable {CS CR:Addr}{D:SrD}{pth bgd:Addr}{n:Nat}{gv:Kn}{rc:Rn}{kr:List (Key×V)}{rm:Rm}{kn kn':Kn}{bg:Str->Option SeD}{Hf Hf' H H':Hp}
theorem tV.mu {y:Str}{r:R}{A:SeD} (h:tV CS CR kr rm y r kn A H):∀z∈A.ft,Mu H z:=fun z hz=>by
 obtain⟨c,rc',_⟩:=h.c
 have hz:z=A.s\/z=A.fl\/z=A.rk\/z=A.a1\/z=A.a2\/z=A.a3:=by simpa [SeD.ft] using hz
 rcases hz with rfl | rfl | rfl | rfl | rfl | rfl
 ·exact⟨_,h.e,by simp⟩
 ·rcases h.f with⟨rb,ps,v,w1,_⟩ | ⟨w1,_⟩
  ·exact⟨_,w1,by simp⟩
  ·exact⟨_,w1,by simp⟩
 ·exact⟨_,rc'.e,by simp⟩
 ·obtain⟨ws,w1,_⟩:=rc'.e1
  exact⟨_,w1,by simp⟩
 ·exact⟨_,rc'.e2,by simp⟩
 ·exact⟨_,rc'.e3,by simp⟩
def jW (bg:Str->Option SeD) (y:Str) (A:SeD):Str->Option SeD:=fun x=>if x=y then some A else bg x
end
theorem jV.but {H0:Hp}{D:SrD}{gv:Kn}{rc:Rn}{rm:Rm}{kn:Kn}{rmN:Rm}{rkn:Str->Bool}{od:List Str}{Hf H H':Hp}{S:List Addr} (h:jV H0 D gv rc rm kn rmN rkn od Hf H) (b:But S H H') (hf:∀z∈S,Hf z=none) (hk:D.kd∉S) (hs:D.sd∉S) (hr:D.rd∉S):jV H0 D gv rc rm kn rmN rkn od Hf H':=by
 obtain⟨sm,fk,fs,fr,⟨kw,ws,e1,r1⟩,⟨ks,e2,r2⟩,⟨kk,rs,e3,r3⟩,ok,md,h0⟩:=h
 exact⟨fun z o e=>b z o (fun w=>by rw[hf z w] at e;cases e) (sm z o e),fk,fs,fr,⟨kw,ws,b _ _ hk e1,r1⟩,⟨ks,b _ _ hs e2,r2⟩,⟨kk,rs,b _ _ hr e3,r3⟩,ok,md,h0⟩
theorem jV.same {H0:Hp}{D:SrD}{gv:Kn}{rc:Rn}{rm:Rm}{kn:Kn}{rmN:Rm}{rkn:Str->Bool}{od:List Str}{Hf H H':Hp} (h:jV H0 D gv rc rm kn rmN rkn od Hf H) (s:aN H H'):jV H0 D gv rc rm kn rmN rkn od Hf H':=h.but (S:=[]) (But.of_same s) (by simp) (by simp) (by simp) (by simp)
structure BgG (CS CR:Addr) (D:SrD) (pth bgd:Addr) (gv:Kn) (rc:Rn) (kr:List (Key×V)) (rm:Rm) (kn:Kn) (bg:Str->Option SeD) (Hf H:Hp):Prop where
 e:∃kb ks,H bgd=some (.dK kb)/\iz kb ks/\∀y,cI kb (.inr y)=(bg y).map fun A=>V.ref A.s
 nm:∀y,bg y≠none->rc y≠none
 ok:∀y A,bg y=some A->kn y=none->∃r,rc y=some r/\gv y=none/\tV CS CR kr rm y r kn A H
 al:∀y A,bg y=some A->∀z∈A.ft,Mu H z/\Hf z=none/\z∉[pth,bgd,D.kd,D.sd,D.rd]
 dj:∀y y' A A',y≠y'->bg y=some A->bg y'=some A'->∀z∈A.ft,z∉A'.ft
section
variable {CS CR:Addr}{D:SrD}{pth bgd:Addr}{gv:Kn}{rc:Rn}{kr:List (Key×V)}{rm:Rm}{kn kn':Kn}{bg:Str->Option SeD}{Hf Hf' H H':Hp}
theorem BgG.but {S:List Addr} (h:BgG CS CR D pth bgd gv rc kr rm kn bg Hf H) (b:But S H H') (t:lg H H') (hb:bgd∉S) (hS:∀y A,bg y=some A->∀z∈A.ft,z∉S):BgG CS CR D pth bgd gv rc kr rm kn bg Hf H':=by
 obtain⟨⟨kb,ks,e1,e2,e3⟩,nm,ok,al,dj⟩:=h
 exact⟨⟨kb,ks,b _ _ hb e1,e2,e3⟩,nm,fun y A h1 h2=>let ⟨r,a1,a2,a3⟩:=ok y A h1 h2;⟨r,a1,a2,a3.move b t (hS y A h1)⟩,fun y A h1 z hz=>⟨(al y A h1 z hz).1.but b (hS y A h1 z hz),(al y A h1 z hz).2⟩,dj⟩
theorem BgG.same (h:BgG CS CR D pth bgd gv rc kr rm kn bg Hf H) (s:aN H H'):BgG CS CR D pth bgd gv rc kr rm kn bg Hf H':=h.but (S:=[]) (But.of_same s) (aN.tups s) (by simp) (by simp)
theorem BgG.off {S:List Addr} (h:BgG CS CR D pth bgd gv rc kr rm kn bg Hf H) (b:But S H H') (m:∀z∈S,Mu H z) (hS:∀z∈S,z∈[pth,D.kd,D.sd,D.rd]) (hb:bgd∉S):BgG CS CR D pth bgd gv rc kr rm kn bg Hf H':=
 h.but b (Kg b m) hb fun y A h1 z hz w=>(h.al y A h1 z hz).2.2 (by
   have:=hS z w
   simp only[List.mem_cons,List.not_mem_nil,or_false] at this ⊢
   rcases this with q | q | q | q
   ·exact .inl q
   ·exact .inr (.inr (.inl q))
   ·exact .inr (.inr (.inr (.inl q)))
   ·exact .inr (.inr (.inr (.inr q))))
theorem BgG.le (h:BgG CS CR D pth bgd gv rc kr rm kn bg Hf H) (l:Kn.Le kn kn'):BgG CS CR D pth bgd gv rc kr rm kn' bg Hf H:=
 ⟨h.e,h.nm,fun y A h1 h2=>by
   have h0:kn y=none:=by
    cases z:kn y with
    | none=>rfl
    | some v=>rw[l y v z] at h2;cases h2
   obtain⟨r,a1,a2,a3⟩:=h.ok y A h1 h0
   exact⟨r,a1,a2,a3.le l⟩,h.al,h.dj⟩
theorem BgG.hf (h:BgG CS CR D pth bgd gv rc kr rm kn bg Hf H) (f:∀z,Mu H z->Hf z=none->Hf' z=none):BgG CS CR D pth bgd gv rc kr rm kn bg Hf' H:=
 ⟨h.e,h.nm,h.ok,fun y A h1 z hz=>let ⟨a,b,c⟩:=h.al y A h1 z hz;⟨a,f z a b,c⟩,h.dj⟩
theorem BgG.new {H1:Hp}{y:Str}{r:R}{A:SeD}{kb:List (Key×V)} (h:BgG CS CR D pth bgd gv rc kr rm kn bg Hf H) (s:aN H H1) (hA:∀z∈A.ft,H z=none) (so:tV CS CR kr rm y r kn A H1) (hr:rc y=some r) (hg:gv y=none) (hb:bg y=none)
 (ebd:H bgd=some (.dK kb)) (sf:aN Hf H) (al:∀z∈[pth,bgd,D.kd,D.sd,D.rd],H z≠none):BgG CS CR D pth bgd gv rc kr rm kn (jW bg y A) Hf (upd H1 bgd (.dK (putK kb (.inr y) (.ref A.s)))):=by
 have h1:=h.same s
 have eb1:=s _ _ ebd
 have b1:But [bgd] H1 (upd H1 bgd (.dK (putK kb (.inr y) (.ref A.s)))):=But.set _ (by simp)
 have t1:lg H1 (upd H1 bgd (.dK (putK kb (.inr y) (.ref A.s)))):=zE eb1
 have nA:∀z∈A.ft,z∉[pth,bgd,D.kd,D.sd,D.rd]:=fun z hz w=>al z w (hA z hz)
 have nb:∀z∈A.ft,z∉[bgd]:=fun z hz w=>nA z hz (by simp at w ⊢;exact .inr (.inl w))
 obtain⟨⟨kb',ks,e1,e2,e3⟩,nm,ok,al1,dj⟩:=h1
 rw[eb1] at e1;cases e1
 have hyk:y∉ks:=e2.none.mp (by rw[e3,hb];rfl)
 refine⟨⟨_,_,ak,e2.tR hyk _,fun x=> ?_⟩,fun x hx=> ?_,fun x B h1 h2=> ?_,fun x B h1 z hz=> ?_,fun x x' B B' hne h1 h2 z hz=> ?_⟩
 ·rw[jy]
  unfold jW
  by_cases z:x=y
  ·rw[if_pos (by rw[z]),if_pos z];rfl
  ·rw[if_neg (mK z),if_neg z];exact e3 x
 ·unfold jW at hx
  by_cases z:x=y
  ·rw[z,hr];simp
  ·rw[if_neg z] at hx;exact nm x hx
 ·unfold jW at h1
  by_cases z:x=y
  ·rw[if_pos z] at h1;cases h1
   rw[z];exact⟨r,hr,hg,so.move b1 t1 nb⟩
  ·rw[if_neg z] at h1
   obtain⟨r',a1,a2,a3⟩:=ok x B h1 h2
   exact⟨r',a1,a2,a3.move b1 t1 fun w hw q=>(al1 x B h1 w hw).2.2 (by simp at q ⊢;exact .inr (.inl q))⟩
 ·unfold jW at h1
  by_cases w:x=y
  ·rw[if_pos w] at h1;cases h1
   refine⟨(so.mu z hz).but b1 (nb z hz), ?_,nA z hz⟩
   cases q:Hf z with
   | none=>rfl
   | some o=>have:=sf _ _ q;rw[hA z hz] at this;cases this
  ·rw[if_neg w] at h1
   obtain⟨a1,a2,a3⟩:=al1 x B h1 z hz
   exact⟨a1.but b1 (fun q=>a3 (by simp at q ⊢;exact .inr (.inl q))),a2,a3⟩
 ·unfold jW at h1 h2
  by_cases w:x=y
  ·rw[if_pos w] at h1;cases h1
   rw[if_neg (fun q=>hne (w.trans q.symm))] at h2
   exact fun q=>((h.al x' B' h2 z q).1.some) (hA z hz)
  ·rw[if_neg w] at h1
   by_cases w':x'=y
   ·rw[if_pos w'] at h2;cases h2
    exact fun q=>((h.al x B h1 z hz).1.some) (hA z q)
   ·rw[if_neg w'] at h2
    exact dj x x' B B' hne h1 h2 z hz
theorem BgG.set {y:Str}{r:R}{A A':SeD} (h:BgG CS CR D pth bgd gv rc kr rm kn bg Hf H) (hy:bg y=some A) (b:But A.ft H H') (so:tV CS CR kr rm y r kn A' H') (hr:rc y=some r) (hg:gv y=none)
 (es:A'.s=A.s) (erk:A'.rk=A.rk) (e1:A'.a1=A.a1) (e2:A'.a2=A.a2) (e3:A'.a3=A.a3) (efl:A'.fl=A.fl\/H A'.fl=none) (sf:aN Hf H) (al:∀z∈[pth,bgd,D.kd,D.sd,D.rd],H z≠none):BgG CS CR D pth bgd gv rc kr rm kn (jW bg y A') Hf H':=by
 have hin:∀z∈A'.ft,z∈A.ft\/H z=none:=fun z hz=>by
  have hz:z=A'.s\/z=A'.fl\/z=A'.rk\/z=A'.a1\/z=A'.a2\/z=A'.a3:=by simpa [SeD.ft] using hz
  rcases hz with w | w | w | w | w | w
  ·exact .inl (by rw[w,es];simp[SeD.ft])
  ·rcases efl with q | q
   ·exact .inl (by rw[w,q];simp[SeD.ft])
   ·exact .inr (by rw[w];exact q)
  ·exact .inl (by rw[w,erk];simp[SeD.ft])
  ·exact .inl (by rw[w,e1];simp[SeD.ft])
  ·exact .inl (by rw[w,e2];simp[SeD.ft])
  ·exact .inl (by rw[w,e3];simp[SeD.ft])
 have mA:∀z∈A.ft,Mu H z:=fun z hz=>(h.al y A hy z hz).1
 have t:=Kg b mA
 have nbg:bgd∉A.ft:=fun z=>(h.al y A hy _ z).2.2 (by simp)
 obtain⟨⟨kb,ks,f1,f2,f3⟩,nm,ok,al1,dj⟩:=h
 refine⟨⟨kb,ks,b _ _ nbg f1,f2,fun x=> ?_⟩,fun x hx=> ?_,fun x B h1 h2=> ?_,fun x B h1 z hz=> ?_,fun x x' B B' hne h1 h2 z hz=> ?_⟩
 ·rw[f3]
  unfold jW
  by_cases z:x=y
  ·rw[if_pos z,z,hy];show some (V.ref A.s)=some (V.ref A'.s);rw[es]
  ·rw[if_neg z]
 ·unfold jW at hx
  by_cases z:x=y
  ·rw[z];exact nm y (by rw[hy];simp)
  ·rw[if_neg z] at hx;exact nm x hx
 ·unfold jW at h1
  by_cases z:x=y
  ·rw[if_pos z] at h1;cases h1
   rw[z];exact⟨r,hr,hg,so⟩
  ·rw[if_neg z] at h1
   obtain⟨r',a1,a2,a3⟩:=ok x B h1 h2
   exact⟨r',a1,a2,a3.move b t fun w hw=>dj x y B A z h1 hy w hw⟩
 ·unfold jW at h1
  by_cases w:x=y
  ·rw[if_pos w] at h1;cases h1
   refine⟨so.mu z hz, ?_, ?_⟩
   ·rcases hin z hz with q | q
    ·exact(al1 y A hy z q).2.1
    ·cases q':Hf z with
     | none=>rfl
     | some o=>have:=sf _ _ q';rw[q] at this;cases this
   ·rcases hin z hz with q | q
    ·exact(al1 y A hy z q).2.2
    ·exact fun w'=>al z w' q
  ·rw[if_neg w] at h1
   obtain⟨a1,a2,a3⟩:=al1 x B h1 z hz
   exact⟨a1.but b (dj x y B A w h1 hy z hz),a2,a3⟩
 ·unfold jW at h1 h2
  by_cases w:x=y
  ·rw[if_pos w] at h1;cases h1
   rw[if_neg (fun q=>hne (w.trans q.symm))] at h2
   rcases hin z hz with q | q
   ·exact dj y x' A B' (fun e=>hne (w.trans e)) hy h2 z q
   ·exact fun w'=>((al1 x' B' h2 z w').1.some) q
  ·rw[if_neg w] at h1
   by_cases w':x'=y
   ·rw[if_pos w'] at h2;cases h2
    intro q
    rcases hin z q with q' | q'
    ·exact dj x y B A w h1 hy z hz q'
    ·exact((al1 x B h1 z hz).1.some) q'
   ·rw[if_neg w'] at h2
    exact dj x x' B B' hne h1 h2 z hz
end
section
variable {CSe CN CS CR:Addr}{D:SrD}{pth bgd:Addr}{n:Nat}{gv:Kn}{rc:Rn}{kg kc kr:List (Key×V)}{rm:Rm}{knI:Kn}{odI od:List Str}{HfI HI:Hp}{x:Str}{k0:Nat}{is js:List Nat}{i:Nat}{kn:Kn}{rmN:Rm}{rkn:Str->Bool}{bg:Str->Option SeD}{Hf H H':Hp}
end
def Cd (ns:List Str) (kn:Kn) (is:List Str):Nat:=match is.getLast? with
 | none=>0
 | some i=>if(kn i).isNone=true then 200 * Em kn ns+70 - is.length else 200 * Em kn ns+100
theorem nu {ns:List Str}{kn:Kn}{js:List Str}{i:Str} (h:kn i=none):Cd ns kn (js++[i])=200 * Em kn ns+70 - (js.length+1):=by
 unfold Cd
 rw[List.getLast?_concat]
 simp only[h]
 rw[List.length_append];rfl
theorem xr {ns:List Str}{kn:Kn}{js:List Str}{i:Str} (h:kn i≠none):Cd ns kn (js++[i])=200 * Em kn ns+100:=by
 unfold Cd
 rw[List.getLast?_concat]
 simp only
 rw[if_neg]
 intro z
 exact h (Option.isNone_iff_eq_none.mp z)
theorem Kh {ns:List Str}{kn:Kn}{js:List Str} (h:∀j∈js,kn j=none):Cd ns kn js<=200 * Em kn ns+70 - js.length:=by
 rcases List.eq_nil_or_concat js with z | ⟨ks,j,z⟩
 ·subst z;exact Nat.zero_le _
 ·rw[List.concat_eq_append] at z
  subst z
  rw[nu (h j (by simp)),List.length_append]
  exact Nat.le_refl _
structure LpG (H0:Hp) (CSe CN CS CR:Addr) (D:SrD) (pth bgd:Addr) (gs cs:List Str) (gv:Kn) (rc:Rn) (kg kc kr:List (Key×V)) (rm:Rm) (knI:Kn) (odI:List Str) (HfI HI:Hp) (x:Str) (is:List Str) (kn:Kn) (rmN:Rm) (rkn:Str->Bool) (od:List Str) (bg:Str->Option SeD) (Hf H:Hp):Prop where
 b:But [D.kd,D.sd,D.rd] HI H
 sf:aN HfI Hf
 fm:∀z,Mu HI z->HfI z=none->Hf z=none
 sh:FQ CSe CN D gs cs gv rc kg kc kr rm Hf
 so:jV H0 D gv rc rm kn rmN rkn od Hf H
 ep:H pth=some (.lst (is.map V.str))
 fp:Hf pth=none
 fb:Hf bgd=none
 ip:HI pth=none
 ib:HI bgd=none
 np:pth∉[D.kd,D.sd,D.rd]
 nb:bgd∉[D.kd,D.sd,D.rd]
 nn:pth≠bgd
 nd:is.Nodup
 un:∀i∈is.dropLast,kn i=none/\rc i≠none
 rch:∀i∈is,Rch gv rc kn x i
 le:Kn.Le knI kn
 new:∀y,kn y≠none->knI y≠none\/Rch gv rc kn x y
 bgi:BgG CS CR D pth bgd gv rc kr rm kn bg Hf H
 hd:is.head?=some x\/(is=[]/\kn x≠none)
 fr:∀y A,bg y=some A->∀z∈A.ft,HI z=none
 mv:Mvs gv rc ([x],knI,odI) (is.reverse,kn,od)
section
variable {H0:Hp}{CSe CN CS CR:Addr}{D:SrD}{pth bgd:Addr}{gs cs:List Str}{gv:Kn}{rc:Rn}{kg kc kr:List (Key×V)}{rm:Rm}{knI:Kn}{odI od:List Str}{HfI HI:Hp}{x:Str}{is js:List Str}{i:Str}{kn:Kn}{rmN:Rm}{rkn:Str->Bool}{bg:Str->Option SeD}{Hf H H':Hp}
theorem LpG.len (h:LpG H0 CSe CN CS CR D pth bgd gs cs gv rc kg kc kr rm knI odI HfI HI x is kn rmN rkn od bg Hf H):is.length<=61:=by
 have h1:=dH (ws:=is.dropLast) (ns:=cs) (h.nd.sublist (List.dropLast_sublist _)) fun y hy=>h.sh.bd.cm (h.un y hy).2
 have h2:=h.sh.bd.n
 rw[List.length_dropLast] at h1
 omega
theorem LpG.al (h:LpG H0 CSe CN CS CR D pth bgd gs cs gv rc kg kc kr rm knI odI HfI HI x is kn rmN rkn od bg Hf H):∀z∈[pth,bgd,D.kd,D.sd,D.rd],Mu H z:=fun z hz=>by
 obtain⟨kb,ks,e1,_⟩:=h.bgi.e
 obtain⟨kw,ws,e2,_⟩:=h.so.ek
 obtain⟨ks',e3,_⟩:=h.so.es
 obtain⟨kk,rs,e4,_⟩:=h.so.er
 have hz:z=pth\/z=bgd\/z=D.kd\/z=D.sd\/z=D.rd:=by simpa using hz
 rcases hz with rfl | rfl | rfl | rfl | rfl
 ·exact⟨_,h.ep,by simp⟩
 ·exact⟨_,e1,by simp⟩
 ·exact⟨_,e2,by simp⟩
 ·exact⟨_,e3,by simp⟩
 ·exact⟨_,e4,by simp⟩
theorem LpG.path {is':List Str} (h:LpG H0 CSe CN CS CR D pth bgd gs cs gv rc kg kc kr rm knI odI HfI HI x is kn rmN rkn od bg Hf H) (nd:is'.Nodup) (un:∀i∈is'.dropLast,kn i=none/\rc i≠none) (rch:∀i∈is',Rch gv rc kn x i) (hd:is'.head?=some x\/(is'=[]/\kn x≠none)) (hm:RB.mv gv rc (is.reverse,kn,od)=some (is'.reverse,kn,od)):
 LpG H0 CSe CN CS CR D pth bgd gs cs gv rc kg kc kr rm knI odI HfI HI x is' kn rmN rkn od bg Hf (upd H pth (.lst (is'.map V.str))):=by
 have hb:But [pth] H (upd H pth (.lst (is'.map V.str))):=But.set _ (by simp)
 have np:=h.np
 simp only[List.mem_cons,List.not_mem_nil,or_false,not_or] at np
 refine⟨h.b.upd _ h.ip,h.sf,h.fm,h.sh,h.so.but hb (fun z hz=> ?_) (fun z=>np.1 (List.mem_singleton.mp z).symm) (fun z=> ?_) (fun z=> ?_),ak,h.fp,h.fb,h.ip,h.ib,h.np,h.nb,h.nn,nd,un,rch,h.le,h.new,h.bgi.off hb (fun z hz=> ?_) (fun z hz=> ?_) (fun z=> ?_),hd,h.fr,h.mv.snoc hm⟩
 ·have:z=pth:=by simpa using hz
  rw[this];exact h.fp
 ·exact np.2.1 (by have:D.sd=pth:=by simpa using z
                   exact this.symm)
 ·exact np.2.2 (by have:D.rd=pth:=by simpa using z
                   exact this.symm)
 ·have:z=pth:=by simpa using hz
  rw[this];exact h.al pth (by simp)
 ·have:z=pth:=by simpa using hz
  rw[this];simp
 ·exact h.nn (by have:bgd=pth:=by simpa using z
                 exact this.symm)
theorem LpG.pop (h:LpG H0 CSe CN CS CR D pth bgd gs cs gv rc kg kc kr rm knI odI HfI HI x (js++[i]) kn rmN rkn od bg Hf H) (hk:kn i≠none):LpG H0 CSe CN CS CR D pth bgd gs cs gv rc kg kc kr rm knI odI HfI HI x js kn rmN rkn od bg Hf (upd H pth (.lst (js.map V.str))):=by
 have un:=h.un
 rw[List.dropLast_concat] at un
 refine h.path (h.nd.sublist (List.sublist_append_left _ _)) (fun j hj=>un j ((List.dropLast_sublist _).subset hj)) (fun j hj=>h.rch j (by simp[hj])) ?_ (by rw[List.reverse_append];exact Bh hk)
 rcases h.hd with z | ⟨z,_⟩
 ·cases js with
  | nil=>
    right
    have:i=x:=by simpa using z
    exact⟨rfl,by rw[<-this];exact hk⟩
  | cons a js=>left;simpa using z
 ·simp at z
theorem LpG.push {j:Str}{r:R} (h:LpG H0 CSe CN CS CR D pth bgd gs cs gv rc kg kc kr rm knI odI HfI HI x (js++[i]) kn rmN rkn od bg Hf H) (hk:kn i=none) (hji:j∉js++[i]) (hg:gv i=none) (hr:rc i=some r) (hs:yd kn r j) (hz:kn j=none):LpG H0 CSe CN CS CR D pth bgd gs cs gv rc kg kc kr rm knI odI HfI HI x (js++[i]++[j]) kn rmN rkn od bg Hf (upd H pth (.lst ((js++[i]++[j]).map V.str))):=by
 have un:=h.un
 rw[List.dropLast_concat] at un
 refine h.path ?_ (fun k hk'=> ?_) (fun k hk'=> ?_) ?_ (by rw[List.reverse_append (as:=js++[i]),List.reverse_append];exact De hg hk hr (hs.ev hz))
 ·rw[List.nodup_append]
  exact⟨h.nd,by simp,fun a ha b hb=>by
   have:b=j:=by simpa using hb
   rw[this];exact fun z=>hji (z▸ha)⟩
 ·rw[List.dropLast_concat] at hk'
  rcases List.mem_append.mp hk' with z | z
  ·exact un k z
  ·have:k=i:=by simpa using z
   rw[this];exact⟨hk,by rw[hr];simp⟩
 ·rcases List.mem_append.mp hk' with z | z
  ·exact h.rch k z
  ·have:k=j:=by simpa using z
   rw[this];exact .step (h.rch i (by simp)) hg hr hs
 ·left
  rcases h.hd with z | ⟨z,_⟩
  ·cases js with
   | nil=>simpa using z
   | cons a js=>simpa using z
  ·simp at z
theorem LpG.know {kn':Kn}{Kl:Rm}{rkn':Str->Bool}{od':List Str}{Hf':Hp} (h:LpG H0 CSe CN CS CR D pth bgd gs cs gv rc kg kc kr rm knI odI HfI HI x (js++[i]) kn rmN rkn od bg Hf H) (b:But [D.kd,D.sd,D.rd] H H') (sf:aN Hf Hf') (fm:∀z,Mu H z->Hf z=none->Hf' z=none) (so:jV H0 D gv rc rm kn' Kl rkn' od' Hf' H') (le:Kn.Le kn kn') (hn:∀y,kn' y≠none->kn y≠none\/y=i) (hun:∀y,y≠i->kn y=none->kn' y=none) (hm:Mvs gv rc ((js++[i]).reverse,kn,od) ((js++[i]).reverse,kn',od')):LpG H0 CSe CN CS CR D pth bgd gs cs gv rc kg kc kr rm knI odI HfI HI x (js++[i]) kn' Kl rkn' od' bg Hf' H':=by
 have hal:=h.al
 have hmu:∀z∈[D.kd,D.sd,D.rd],Mu H z:=fun z hz=>hal z (by simp at hz ⊢;rcases hz with q | q | q<;>simp[q])
 have un:=h.un
 rw[List.dropLast_concat] at un
 have nd:=h.nd
 rw[List.nodup_append] at nd
 refine⟨h.b.trans b,h.sf.trans sf,fun z m hz=> ?_,h.sh.same sf,so,b _ _ h.np h.ep,fm _ (hal _ (by simp)) h.fp,fm _ (hal _ (by simp)) h.fb,h.ip,h.ib,h.np,h.nb,h.nn,h.nd,fun j hj=> ?_,fun j hj=>(h.rch j hj).le le,h.le.trans le,fun y hy=> ?_,((h.bgi.hf fm).off b hmu (fun z hz=>by simp at hz ⊢;rcases hz with q | q | q<;>simp[q]) h.nb).le le, ?_,h.fr,h.mv.trans hm⟩
 ·have hz':=h.fm z m hz
  by_cases hS:z∈[D.kd,D.sd,D.rd]
  ·exact fm z (hmu z hS) hz'
  ·exact fm z (m.but h.b hS) hz'
 ·rw[List.dropLast_concat] at hj
  exact⟨hun _ (fun z=>nd.2.2 j hj i (by simp) z) (un j hj).1,(un j hj).2⟩
 ·rcases hn y hy with z | z
  ·exact(h.new y z).imp id fun w=>w.le le
  ·right;rw[z];exact(h.rch i (by simp)).le le
 ·exact h.hd.imp id fun⟨a,_⟩=>by simp at a
theorem LpG.bgs {S:List Addr}{bg':Str->Option SeD} (h:LpG H0 CSe CN CS CR D pth bgd gs cs gv rc kg kc kr rm knI odI HfI HI x is kn rmN rkn od bg Hf H) (b:But S H H') (hS:∀z∈S,HI z=none/\Hf z=none/\z∉[pth,D.kd,D.sd,D.rd]) (hb:BgG CS CR D pth bgd gv rc kr rm kn bg' Hf H') (hf:∀y A,bg' y=some A->∀z∈A.ft,HI z=none):LpG H0 CSe CN CS CR D pth bgd gs cs gv rc kg kc kr rm knI odI HfI HI x is kn rmN rkn od bg' Hf H':=by
 refine⟨fun c o hc e=>b c o (fun w=>by rw[(hS c w).1] at e;cases e) (h.b c o hc e),h.sf,h.fm,h.sh,h.so.but b (fun z hz=>(hS z hz).2.1) (fun z=>(hS _ z).2.2 (by simp)) (fun z=>(hS _ z).2.2 (by simp)) (fun z=>(hS _ z).2.2 (by simp)),b _ _ (fun z=>(hS _ z).2.2 (by simp)) h.ep,h.fp,h.fb,h.ip,h.ib,h.np,h.nb,h.nn,h.nd,h.un,h.rch,h.le,h.new,hb,h.hd,hf,h.mv⟩
theorem LpG.free (h:LpG H0 CSe CN CS CR D pth bgd gs cs gv rc kg kc kr rm knI odI HfI HI x is kn rmN rkn od bg Hf H) {z:Addr} (hz:H z=none):HI z=none/\Hf z=none:=by
 refine⟨DY h.b hz fun w=>(h.al z (by simp at w ⊢;rcases w with q | q | q<;>simp[q])).some hz, ?_⟩
 cases q:Hf z with
 | none=>rfl
 | some o=>have:=h.so.sm _ _ q;rw[hz] at this;cases this
theorem LpG.begun {H1:Hp}{y:Str}{r:R}{A:SeD}{kb:List (Key×V)} (h:LpG H0 CSe CN CS CR D pth bgd gs cs gv rc kg kc kr rm knI odI HfI HI x is kn rmN rkn od bg Hf H) (s:aN H H1) (hA:∀z∈A.ft,H z=none) (so:tV CS CR kr rm y r kn A H1) (hr:rc y=some r) (hg:gv y=none) (hb:bg y=none) (ebd:H bgd=some (.dK kb)):
 LpG H0 CSe CN CS CR D pth bgd gs cs gv rc kg kc kr rm knI odI HfI HI x is kn rmN rkn od (jW bg y A) Hf (upd H1 bgd (.dK (putK kb (.inr y) (.ref A.s)))):=by
 have nb:=h.nb
 refine h.bgs (S:=[bgd]) ((But.of_same s).trans (But.set _ (by simp))) (fun z hz=> ?_) (h.bgi.new s hA so hr hg hb ebd h.so.sm fun z hz=>(h.al z hz).some) (fun x B hB z hz=> ?_)
 ·have:z=bgd:=by simpa using hz
  rw[this]
  exact⟨h.ib,h.fb,fun w=>by
   rcases List.mem_cons.mp w with q | q
   ·exact h.nn q.symm
   ·exact nb q⟩
 ·unfold jW at hB
  by_cases w:x=y
  ·rw[if_pos w] at hB;cases hB
   exact(h.free (hA z hz)).1
  ·rw[if_neg w] at hB;exact h.fr x B hB z hz
theorem LpG.gone {y:Str}{r:R}{A A':SeD} (h:LpG H0 CSe CN CS CR D pth bgd gs cs gv rc kg kc kr rm knI odI HfI HI x is kn rmN rkn od bg Hf H) (hy:bg y=some A) (b:But A.ft H H') (so:tV CS CR kr rm y r kn A' H') (hr:rc y=some r) (hg:gv y=none)
 (es:A'.s=A.s) (erk:A'.rk=A.rk) (e1:A'.a1=A.a1) (e2:A'.a2=A.a2) (e3:A'.a3=A.a3) (efl:A'.fl=A.fl\/H A'.fl=none):LpG H0 CSe CN CS CR D pth bgd gs cs gv rc kg kc kr rm knI odI HfI HI x is kn rmN rkn od (jW bg y A') Hf H':=by
 refine h.bgs (S:=A.ft) b (fun z hz=> ?_) (h.bgi.set hy b so hr hg es erk e1 e2 e3 efl h.so.sm fun z hz=>(h.al z hz).some) (fun x B hB z hz=> ?_)
 ·obtain⟨a1,a2,a3⟩:=h.bgi.al y A hy z hz
  exact⟨h.fr y A hy z hz,a2,fun w=>a3 (by
   simp only[List.mem_cons,List.not_mem_nil,or_false] at w ⊢
   rcases w with q | q | q | q
   ·exact .inl q
   ·exact .inr (.inr (.inl q))
   ·exact .inr (.inr (.inr (.inl q)))
   ·exact .inr (.inr (.inr (.inr q))))⟩
 ·unfold jW at hB
  by_cases w:x=y
  ·rw[if_pos w] at hB;cases hB
   have hz:z=A'.s\/z=A'.fl\/z=A'.rk\/z=A'.a1\/z=A'.a2\/z=A'.a3:=by simpa [SeD.ft] using hz
   rcases hz with q | q | q | q | q | q
   ·rw[q,es];exact h.fr y A hy _ (by simp[SeD.ft])
   ·rcases efl with w | w
    ·rw[q,w];exact h.fr y A hy _ (by simp[SeD.ft])
    ·rw[q];exact(h.free w).1
   ·rw[q,erk];exact h.fr y A hy _ (by simp[SeD.ft])
   ·rw[q,e1];exact h.fr y A hy _ (by simp[SeD.ft])
   ·rw[q,e2];exact h.fr y A hy _ (by simp[SeD.ft])
   ·rw[q,e3];exact h.fr y A hy _ (by simp[SeD.ft])
  ·rw[if_neg w] at hB;exact h.fr x B hB z hz
theorem jV.giv {y:Str}{v:Int}{kw:List (Key×V)}{ws:List Str} (h:jV H0 D gv rc rm kn rmN rkn od Hf H) (ek:H D.kd=some (.dK kw)) (kk:iz kw ws) (hk:∀x,cI kw (.inr x)=(kn x).map V.int) (hg:gv y=some v) (ne:D.kd≠D.sd/\D.kd≠D.rd/\D.sd≠D.rd):jV H0 D gv rc rm (kn.put y v) rmN rkn od Hf (upd H D.kd (.dK (putK kw (.inr y) (.int v))))/\Kn.Le kn (kn.put y v):=by
 have hn:kn y=none\/kn y=some v:=by
  cases z:kn y with
  | none=>exact .inl rfl
  | some u=>
    rcases h.ok.a y u z with w | ⟨w,_⟩
    ·rw[hg] at w;cases w;exact .inr rfl
    ·rw[hg] at w;cases w
 obtain⟨sm,fk,fs,fr,_,⟨ks,e2,r2⟩,⟨kk',rs,e3,r3⟩,ok,md,h0⟩:=h
 have hs:aN Hf (upd H D.kd (.dK (putK kw (.inr y) (.int v)))):=fun z o e=>(ao (fun w=>by rw[w,fk] at e;cases e)).trans (sm z o e)
 rcases hn with z | z
 ·have le:=Kn.qz (v:=v) z
  have hyw:y∉ws:=kk.none.mp (by rw[hk,z];rfl)
  exact⟨⟨hs,fk,fs,fr,⟨_,_,ak,kk.tR hyw _,Dd hk y v⟩,⟨ks,(ao (Ne.symm ne.1)).trans e2,r2⟩,⟨kk',rs,(ao (Ne.symm ne.2.1)).trans e3,r3⟩,ok.Wl z hg,fun x r ps u e=>(md x r ps u e).le le,h0⟩,le⟩
 ·have hyw:y∈ws:=Decidable.byContradiction fun w=>by
   have:=kk.none.mpr w
   rw[hk,z] at this;cases this
  have eq:kn.put y v=kn:=by
   funext x
   unfold Kn.put
   by_cases w:x=y
   ·rw[if_pos w,w,z]
   ·rw[if_neg w]
  rw[eq]
  refine⟨⟨hs,fk,fs,fr,⟨_,_,ak,kk.Bg hyw _,fun x=> ?_⟩,⟨ks,(ao (Ne.symm ne.1)).trans e2,r2⟩,⟨kk',rs,(ao (Ne.symm ne.2.1)).trans e3,r3⟩,ok,md,h0⟩,Kn.Le.refl _⟩
  have:=Dd hk y v x
  rw[eq] at this;exact this
end
structure SN (gv:Kn) (rc:Rn) (rm:Rm) (ws:List Str) (kn:Kn) (rmN:Rm) (rkn:Str->Bool) (od:List Str):Prop where
 ok:StG gv rc kn rmN
 md:∀x r ps v,rmN x=some (r,ps,v)->Rcd rm x r kn ps v (rkn x)
 w:∀x∈ws,kn x≠none
 r:∀y,kn y≠none->∃x∈ws,Rch gv rc kn x y
 rn:∀x,rkn x=true->rmN x≠none
 run:Runs gv rc ws (kn0,[]) (kn,od)
 nd:od.Nodup
 om:∀x,x∈od ↔ rmN x≠none
 ol:od.length<=60
end RB
namespace L2
open PySem PySem.Spec PyProof.Rows RB
section
variable {X:Cx}{A:Around}{E:Value->Shared->Prop}{pins:List (Addr×Obj)}{σ:St}{H:Hp}{s:Shared}{a b:Addr}{kvs more:List (Key×V)}
theorem SQ {Q:Value->Shared->Prop} (I:Inv X pins σ H s) (e:H a=some (.dK kvs)) (e2:Rd H b (.dK more)) (hne:a≠b) (hz:kvs.length+more.length<=sizeLine) (h:∀s',Inv X pins σ (upd H a (.dK (eU kvs more))) s'->Q .none s'):wpAny (model X.prog X.w) A (call (.builtin "dict.update") [.ref a, .ref b]) Q E s:=by
 obtain⟨z,hd,vs,rel,dd⟩:=Jw I.hok e
 obtain⟨z2,hd2,ws,adW,dd2⟩:=vh I.hok e2
 refine call_meetsIn PySem.F.slot_dict_update dd.typeIs PySem.F.entry_dict_update (PySem.F.args_dict_update_2 _ _) (meets_dict_update (eV X.prog X.w) a b hne hd2) ⟨vs,ws,dd,dd2,by rw[<-rel.length,<-adW.length];exact hz,fun h' dd' _ hs=>h _ ?_⟩
 have he:∃q,h'.get? a=some q:=let ⟨q,_,_,hq,_⟩:=dd';⟨q,hq⟩
 exact CW (t':=s.toks) I (by rw[e];exact True.intro) hs he (Ls (Nat.le_trans (qx _ _) hz) hd (KV.merge adW rel) dd')
end
def Yp (td ty:TE):TE:=fun σ H Q=>td σ H fun x H1=>∃a,x= .ref a/\IsD H1 a/\ty σ H1 fun y H2=>∃b kvs more,H2 a=some (.dK kvs)/\y= .ref b/\Rd H2 b (.dK more)/\a≠b/\kvs.length+more.length<=sizeLine/\Q .non (upd H2 a (.dK (eU kvs more)))
section
variable {X:Cx}{o e:Expr}{td ty:TE}{apos cpos:Pos}
theorem Wm (ho:PE X o td) (he:PE X e ty) (m:M1 X o "update" apos e cpos):PE X (.Call (.Attribute o "update" apos) [e] [] cpos) (Yp td ty):=by
 intro pins s σ H Q I h
 refine wpAny_Call_method m.base m.few m.line PySem.F.plainAttrs_dict PySem.F.slot_dict_update PySem.F.type_dict_update (thn (ho pins s σ H _ I h) fun u s1 ⟨x,H1,I1,rx,a,ex,d,q1⟩=> ?_)
 subst ex
 obtain rfl:u=Value.ref a:=rx
 obtain⟨t1,t2,_⟩:=Rt I1 d
 refine⟨t1,t2, ?_⟩
 rw[m.trees]
 refine Calls.callWith_builtin rfl (Calls.evalArgs_plain (Calls.spliced_cons (thn (he pins s1 σ H1 _ I1 q1) fun iv s2 ⟨y,H2,I2,ry,b,kvs,more,ea,ey,eb,hne,hz,q2⟩=>Calls.spliced_nil ?_)))
 subst ey
 obtain rfl:iv=Value.ref b:=ry
 exact SQ I2 ea eb hne hz fun s3 I3=>⟨.non,_,I3,rfl,q2⟩
theorem Oh (ho:QE X o td) (he:QE X e ty) (m:M1 X o "update" apos e cpos):QE X (.Call (.Attribute o "update" apos) [e] [] cpos) (Yp td ty):=⟨Wm ho.h he.h m⟩
end
end L2
namespace RB
open PySem L2 PySem.Spec PyProof.Rows
def Kn.over (a b:Kn):Kn:=fun x=>match b x with
 | some v=>some v
 | none=>a x
theorem tZ:∀{more kvs:List (Key×V)},(more.map (·.1)).Nodup->∀j,cI (eU kvs more) j=(match cI more j with | some v=>some v | none=>cI kvs j)
 |[],kvs,_,j=>by rw[pG];rfl
 | p::more,kvs,hn,j=>by
   rw[List.map_cons,List.nodup_cons] at hn
   have ih:=tZ (kvs:=putK kvs p.1 p.2) hn.2 j
   show cI (eU (putK kvs p.1 p.2) more) j=_
   rw[ih,jy]
   by_cases z:p.1=j
   ·have:cI more j=none:=by
     cases e:cI more j with
     | none=>rfl
     | some v=>exact absurd (z▸Vy e) hn.1
    rw[this,iR z,if_pos z.symm]
   ·rw[iT z]
    cases e:cI more j with
    | none=>simp only;rw[if_neg (Ne.symm z)]
    | some v=>rfl
theorem iz.nd1 {kvs:List (Key×V)}{ks:List Str} (h:iz kvs ks):(kvs.map (·.1)).Nodup:=by
 rw[h.k]
 exact(List.pairwise_map.mpr (h.nd.imp fun hab z=>hab (Sum.inr.inj z)))
theorem S9 {kg kc:List (Key×V)}{gv ch:Kn}{ns:List Str} (hg:∀x,cI kg (.inr x)=(gv x).map V.int) (hc:∀x,cI kc (.inr x)=(ch x).map V.int) (k:iz kc ns):∀x,cI (eU kg kc) (.inr x)=(gv.over ch x).map V.int:=fun x=>by
 rw[tZ k.nd1,hc,hg]
 unfold Kn.over
 cases ch x<;>rfl
end RB
namespace L2
open PySem PySem.Spec PyProof.Rows RB
section
variable {X:Cx}{e lo hi st:Expr}{te tl th ts:TE}{pos p2:Pos}
theorem Ih:uH X (.builtin "sorted") (fun xs H Q=>∃(a:Addr) (ts:List Str),xs=[.ref a]/\SqL X.K H a (ts.map V.str)/\ts.length<64/\∀(p:Addr) (us:List Str),H p=none->us.Perm ts->sortedS us=true->Q (.ref p) (upd H p (.lst (us.map V.str)))):=by
 intro pins s σ H xs us Q I r h
 obtain⟨a,ts,rfl,ha,hl,q⟩:=h
 obtain⟨u,rfl,rx⟩:=vals1 r
 cases rx
 obtain⟨its,rv,pl,_⟩:=I.list ha
 have hli:its.length=ts.length:=by have:=rv.length;rw[List.length_map] at this;exact this.symm
 refine sorted_strs pl.isList (Eb rv) (by omega) fun out ss h1 h2 h3=> ?_
 obtain⟨e,he⟩:=sortedAll_at s.heap its out
 have hfr:H (s.heap.objs.size+1)=none:=I.hok.fresh (Nat.le_succ _)
 have hsl:=h2.length_eq
 have hz:(ss.map V.str).length<=sizeLine:=by rw[List.length_map,hsl,sizeLine_eq];omega
 exact⟨.ref (s.heap.objs.size+1),_,I.laid (t':=s.toks) (o:= .lst (ss.map V.str)) (fun b u e=>sortedAll_old e) (Nat.le_succ _) ⟨hz,out.toList,e,GK h1,by simpa [seqObj] using he⟩,rfl,q _ ss hfr h2 h3⟩
theorem Eo:uK X (.builtin "sorted") (fun xs H Q=>∃(a:Addr) (ts:List Str),xs=[.ref a]/\SqL X.K H a (ts.map V.str)/\ts.length<64/\∀(p:Addr) (us:List Str),H p=none->us.Perm ts->sortedS us=true->Q (.ref p) (upd H p (.lst (us.map V.str)))):=⟨Ih⟩
end
end L2
namespace L2
open PySem PySem.Spec PyProof.Rows
end L2
namespace L2
open PySem PySem.Spec PyProof.Rows RB
theorem Km {P:Program}{w:World} (d:Addr) (od:Obj) (hl:(d==sysModules)=false) (hc:od.cls= .type "dict"):
 MeetsIn P w (Builtin.«dict.items» ⟨[.ref d],[]⟩)
  (fun A R s=>s.heap.get? d=some od/\R (.ok (.ret (.ref s.heap.objs.size))) ⟨s.heap.push {cls:= .type "dict_items",data:= .fields #[.ref d]},s.gens,s.drawn,s.toks,s.os⟩):=by
 intro A R s z
 obtain⟨hp,g,dr,tk,os⟩:=s
 obtain⟨z1,z⟩:=z
 obtain⟨c,dd,da,sl⟩:=od
 simp only at hc
 subst hc
 wp_walk
 exact z
theorem Inv.more {X:Cx}{pins:List (Addr×Obj)}{σ:St}{H H':Hp}{s:Shared}{h':Heap}{t':Nat} (I:Inv X pins σ H s) (k:∀b u,s.heap.get? b=some u->h'.get? b=some u) (sm:aN H H')
 (new:∀a o,H' a=some o->H a=some o\/(s.heap.objs.size<=a/\dJ X.prog X.w H' h' a o)):Inv X pins σ H' {s with heap:=h',toks:=t'}:=by
 refine I.un ⟨fun b u q _ _ _=>k b u q,fun b u q _ _ _=>⟨u.slots,k b u q⟩,fun b u q n _=> ?_,fun b u q _=>⟨u,k b u q⟩,fun b xs q=>sm _ _ q,fun b u xs q=>sm _ _ q,fun b ps q=>⟨#[],by rw[sm _ _ q];simp⟩⟩ fun a o e=> ?_
 ·cases e:H' b with
  | none=>rfl
  | some o=>
    rcases new b o e with z | ⟨z,_⟩
    ·rw[n] at z;cases z
    ·exact absurd (Nat.lt_of_lt_of_le (Heap.lt_size q) z) (Nat.lt_irrefl _)
 ·rcases new a o e with z | ⟨_,z⟩
  ·exact(I.hok a o z).stay (fun c v _ q=>k c v q) (fun c q=>sm _ _ q) fun c xs q=>sm _ _ q
  ·exact z
def mkH:List Addr->List (Key×V)->Hp->Hp
 | a::as,kv::kvs,H=>upd (mkH as kvs H) a (.tup [kV kv.1,kv.2])
 | _,_,H=>H
theorem Oi:∀{as:List Addr}{kvs:List (Key×V)}{H:Hp}{b:Addr},b∉as->mkH as kvs H b=H b
 |[],_,_,_,_=>by cases ‹List (Key×V)›<;>rfl
 | a::as,[],_,_,_=>rfl
 | a::as,kv::kvs,H,b,h=>by
   show upd (mkH as kvs H) a _ b=_
   rw[ao (fun z=>h (by simp[z]))]
   exact Oi fun z=>h (by simp[z])
theorem Tc:∀{as:List Addr}{kvs:List (Key×V)}{H:Hp}{j:Nat}{a:Addr}{kv:Key×V},as.Nodup->as[j]? =some a->kvs[j]? =some kv->mkH as kvs H a=some (.tup [kV kv.1,kv.2])
 |[],_,_,_,_,_,_,h,_=>by simp at h
 | a::as,[],_,_,_,_,_,_,h=>by simp at h
 | a::as,kv::kvs,H,0,b,kv',_,h1,h2=>by
   cases h1;cases h2
   exact ak
 | a::as,kv::kvs,H,j+1,b,kv',nd,h1,h2=>by
   rw[List.nodup_cons] at nd
   have hb:b∈as:=List.mem_of_getElem? (by simpa using h1)
   show upd (mkH as kvs H) a _ b=_
   rw[ao (fun z:b=a=>nd.1 (by rw[<-z];exact hb))]
   exact Tc nd.2 (by simpa using h1) (by simpa using h2)
theorem Oj:∀{as:List Addr}{kvs:List (Key×V)}{H:Hp}{b:Addr}{o:HO},as.Nodup->mkH as kvs H b=some o->(b∉as/\H b=some o)\/(∃(j:Nat) (kv:Key×V),as[j]? =some b/\kvs[j]? =some kv/\o= .tup [kV kv.1,kv.2])\/(H b=some o)
 |[],kvs,H,b,o,_,h=> .inl ⟨by simp,by cases kvs<;>exact h⟩
 | a::as,[],H,b,o,_,h=> .inr (.inr h)
 | a::as,kv::kvs,H,b,o,nd,h=>by
   rw[List.nodup_cons] at nd
   have h:upd (mkH as kvs H) a _ b=some o:=h
   by_cases z:b=a
   ·subst z
    rw[ak] at h;cases h
    exact .inr (.inl ⟨0,kv,rfl,rfl,rfl⟩)
   ·rw[ao z] at h
    rcases Oj nd.2 h with⟨h1,h2⟩ | ⟨j,kv',h1,h2,h3⟩ | h1
    ·exact .inl ⟨by simp[z,h1],h2⟩
    ·exact .inr (.inl ⟨j+1,kv',by simpa using h1,by simpa using h2,h3⟩)
    ·exact .inr (.inr h1)
def adX (to:TE):TE:=fun σ H Q=>to σ H fun x H1=>∃a kvs,x= .ref a/\H1 a=some (.dK kvs)/\∀(l:Addr) (as:List Addr) (H':Hp),aN H1 H'->H1 l=none->H' l=some (.lst (as.map V.ref))->as.length=kvs.length->(∀(j:Nat) (b:Addr) (kv:Key×V),as[j]? =some b->kvs[j]? =some kv->H' b=some (.tup [kV kv.1,kv.2]))->Q (.ref l) H'
theorem aaY {X:Cx}{o:Expr}{to:TE}{p apos cpos pos:Pos} (hc:X.calm=true) (ho:PE X o to) (hg:Gl X "list") (hm:X.mg "list"=none) (hv:bootBuiltins "list"=some (.type "list"))
 (hbase:attributeBase o "items" X.env (eval o X.env)=eval o X.env:=by rfl) (hline:(apos.endLine==cpos.line)=true:=by rfl)
 (he:starEach [.Call (.Attribute o "items" apos) [] [] cpos] X.env=(false,eval (.Call (.Attribute o "items" apos) [] [] cpos) X.env)::starEach [] X.env:=by rfl) (hpl:(backTo pos (starEach [] X.env)).any (·.1)=false:=by rfl):
 PE X (.Call (.Name "list" p) [.Call (.Attribute o "items" apos) [] [] cpos] [] pos) (adX to):=by
 intro pins s σ H Q I h
 refine wpAny_Call_Name_kw (yo I hg hm hv ?_ (by decide) (by decide))
 refine PyProof.Rows.callWith_type1 ?_ he hpl
 rw[he]
 show wpAny _ _ (spliced ((false,eval (.Call (.Attribute o "items" apos) [] [] cpos) X.env)::backTo pos (starEach [] X.env))) _ _ s
 refine Calls.spliced_cons ?_
 refine wpAny_Call_method0_late hbase hline (thn (ho pins s σ H _ I h) fun v s1 ⟨x,H1,I1,r1,a,kvs,ex,ha,q⟩=> ?_)
 subst ex
 obtain rfl:v=Value.ref a:=r1
 obtain⟨t1,t2,hlo⟩:=Rt I1 (.inl ⟨kvs, .inl ha⟩)
 refine⟨"dict","dict.items",PySem.F.plainAttrs_dict,PySem.F.slot_dict_items,PySem.F.type_dict_items,t1,t2,Calls.callWith_builtin rfl (PySem.evalArgs_none ?_)⟩
 obtain⟨hz,_,vs,hkv,hd⟩:=Jw I1.hok ha
 obtain⟨ep,hat⟩:=hd.dictAt
 obtain⟨od,hod,hocls⟩:=id t1
 refine call_meetsIn PySem.F.slot_dict_items t1 PySem.F.entry_dict_items (PySem.F.args_dict_items_1 _) (Km a od hlo hocls) ⟨hod, ?_⟩
 show wpAny (model X.prog X.w) X.A (spliced []) _ X.xe _
 refine Calls.spliced_nil ?_
 have hk1:∀b u,s1.heap.get? b=some u->(s1.heap.push {cls:= .type "dict_items",data:= .fields #[.ref a]}).get? b=some u:=fun b u e=>Heap.get?_push_of_some _ e
 have hsz:(s1.heap.push {cls:= .type "dict_items",data:= .fields #[.ref a]}).objs.size=s1.heap.objs.size+1:=by simp[Heap.push]
 obtain⟨_,_,vs',hkv',hd'⟩:=Jw (I1.hok.kept hk1) ha
 obtain⟨ep',hat'⟩:=hd'.dictAt
 obtain⟨hvl,hvk⟩:=BZ hkv'
 have hview:(s1.heap.push {cls:= .type "dict_items",data:= .fields #[.ref a]}).IsItemsView s1.heap.objs.size a:=⟨_,Heap.get?_push_size _ rfl,rfl,rfl⟩
 refine PySem.W.kdx_call (I1.ok.hd hc) hview hat' (by rw[<-hvl];exact hz) fun h' tk acc c as kp e hlen hG hacc=> ?_
 have hal:as.length=kvs.length:=hlen.trans hvl.symm
 have hnd:as.Nodup:=hG.rise.imp fun z=>Nat.ne_of_lt z
 have hlow:∀b∈as,s1.heap.objs.size+1<b:=fun b hb=>by rw[<-hsz];exact hG.above b hb
 have hfresh:∀{b:Addr}{o:HO},H1 b=some o->@LT.lt Nat _ b s1.heap.objs.size:=fun{b o} e=>I1.hok.lt e
 have hl:(s1.heap.push {cls:= .type "dict_items",data:= .fields #[.ref a]}).objs.size∉as:=fun z=>by have:=hlow _ z;rw[hsz] at this;exact absurd this (Nat.lt_irrefl _)
 have sm:aN H1 (upd (mkH as kvs H1) (s1.heap.push {cls:= .type "dict_items",data:= .fields #[.ref a]}).objs.size (.lst (as.map V.ref))):=fun b o eb=>by
  have h1:@LT.lt Nat _ b s1.heap.objs.size:=hfresh eb
  have n1:b∉as:=fun z=>absurd (Nat.lt_trans h1 (Nat.lt_of_succ_lt (hlow b z))) (Nat.lt_irrefl _)
  rw[ao (by rw[hsz];exact Nat.ne_of_lt (Nat.lt_succ_of_lt h1)),Oi n1];exact eb
 have hpairs:∀(j:Nat) (b:Addr) (kv:Key×V),as[j]? =some b->kvs[j]? =some kv->mkH as kvs H1 b=some (.tup [kV kv.1,kv.2]):=fun j b kv h1 h2=>Tc hnd h1 h2
 have hne:∀{b:Addr},b∈as->b≠(s1.heap.push {cls:= .type "dict_items",data:= .fields #[.ref a]}).objs.size:=fun hb z=>hl (z▸hb)
 refine⟨.ref _,_,I1.more (t':=tk) (fun b u eb=>kp b u (hk1 b u eb)) sm (fun b o eb=> ?_),rfl,q _ as _ sm (I1.hok.fresh (by rw[hsz];omega)) ak hal fun j b kv h1 h2=> ?_⟩
 ·by_cases z:b=(s1.heap.push {cls:= .type "dict_items",data:= .fields #[.ref a]}).objs.size
  ·subst z
   rw[ak] at eb;cases eb
   refine .inr ⟨by rw[hsz];omega,by rw[List.length_map,hal];exact hz,acc.toList,c, ?_,by simpa using e⟩
   rw[hacc]
   clear e hacc q sm hpairs hG hlow hnd hal hlen hl hne
   induction as with
   | nil=>exact .nil
   | cons x as ih=>exact .cons rfl ih
  ·rw[ao z] at eb
   rcases Oj hnd eb with⟨_,h2⟩ | ⟨j,kv,h1,h2,h3⟩ | h1
   ·exact .inl h2
   ·subst h3
    have hbm:=List.mem_of_getElem? h1
    have:=hlow b hbm
    obtain⟨key,k,x,e1,e2,e3⟩:=hG.pairs j b h1
    obtain⟨y,ey,ry⟩:=HR hkv' j k x e1
    rw[h2] at ey
    cases ey
    exact .inr ⟨by omega,by show 2<=sizeLine;decide,[key,x], .cons (HN e2) (.cons ry .nil),⟨_,e3,rfl,_,rfl⟩⟩
   ·exact .inl h1
 ·rw[ao (hne (List.mem_of_getElem? h1))]
  exact hpairs j b kv h1 h2
theorem aaZ {X:Cx}{o:Expr}{to:TE}{p apos cpos pos:Pos} (hc:X.calm=true) (ho:QE X o to) (hg:Gl X "list") (hm:X.mg "list"=none)
 (hbase:attributeBase o "items" X.env (eval o X.env)=eval o X.env:=by rfl) (hline:(apos.endLine==cpos.line)=true:=by rfl)
 (he:starEach [.Call (.Attribute o "items" apos) [] [] cpos] X.env=(false,eval (.Call (.Attribute o "items" apos) [] [] cpos) X.env)::starEach [] X.env:=by rfl) (hpl:(backTo pos (starEach [] X.env)).any (·.1)=false:=by rfl):
 QE X (.Call (.Name "list" p) [.Call (.Attribute o "items" apos) [] [] cpos] [] pos) (adX to):=⟨aaY hc ho.h hg hm qd hbase hline he hpl⟩
section
variable {X:Cx}{tg:Expr}
end
end L2
namespace RB
open PySem L2 PySem.Spec PyProof.Rows
theorem Ol {r:R}{u v:Int}:∀{ps qs:List Rdp}{kn:Kn},Chn r kn ps->Chn r kn qs->ev (kn.puts ps) r= .inr u->ev (kn.puts qs) r= .inr v->(∀p∈ps,∀q∈qs,p.1=q.1->p.2=q.2)->u=v/\ps=qs
 |[],[],kn,_,_,e1,e2,_=>by
  have e1:ev kn r= .inr u:=e1
  have e2:ev kn r= .inr v:=e2
  rw[e1] at e2
  exact⟨Sum.inr.inj e2,rfl⟩
 |[],q::qs,kn,_,c,e1,_,_=>by
  have e1:ev kn r= .inr u:=e1
  rw[c.1] at e1;cases e1
 | p::ps,[],kn,c,_,_,e2,_=>by
   have e2:ev kn r= .inr v:=e2
   rw[c.1] at e2;cases e2
 | p::ps,q::qs,kn,c1,c2,e1,e2,h=>by
   have e:p.1=q.1:=Sum.inl.inj (c1.1.symm.trans c2.1)
   have e':=h p (by simp) q (by simp) e
   have hpq:p=q:=Prod.ext e e'
   subst hpq
   obtain⟨a,b⟩:=Ol (ps:=ps) (qs:=qs) c1.2 c2.2 e1 e2 fun p' hp q' hq=>h p' (by simp[hp]) q' (by simp[hq])
   exact⟨a,by rw[b]⟩
section
variable {n:Nat}{gv:Kn}{rc:Rn}{kn1 kn2:Kn}{rm1 rm2:Rm}{ws:List Str}
end
end RB
namespace L2
open PySem PySem.Spec PyProof.Rows RB
theorem Ko {X:Cx}{pins:List (Addr×Obj)}{s:Shared}{σ:St}{H:Hp}{A:Around}{x y:V}{z z':Value}{d:PyData} (I:Inv X pins σ H s) (rz:RelV x z) (rz':RelV y z') (h1:oU X.K H x d) (h2:oU X.K H y d) (sh:SeqAt.shaped d=true) (hu:A.in1.units+64<cLine):SeqAt.EqAt A.in1 s z z' true:=by
 obtain⟨as,r1⟩:=h1.reads I rz
 obtain⟨bs,r2⟩:=h2.reads I rz'
 have:=PySem.W.keq_at r1 r2 sh sh hu
 rw[PySem.SeqAt.eqv_refl d (DN sh)] at this
 exact this
def zH (K:PySem.W.Frag) (H:Hp) (ka kb:List (Key×V)):Prop:=ka.length=kb.length/\∀k u,(k,u)∈ka->∃v d,cI kb k=some v/\oU K H u d/\oU K H v d/\SeqAt.shaped d=true
theorem Kp {X:Cx}{pins:List (Addr×Obj)}{s:Shared}{σ:St}{H:Hp}{A:Around}{ka kb:List (Key×V)}{va vb:List (Key×Value)} (I:Inv X pins σ H s) (r1:KV ka va) (r2:KV kb vb) (h:zH X.K H ka kb) (hu:A.in1.units+64<cLine):PySem.W.KeqHits A.in1 s vb va true:=
 HS fun k u m=>by
  obtain⟨i,hi⟩:=List.getElem?_of_mem m
  obtain⟨y,hy,ry⟩:=HR r1 i k u hi
  obtain⟨v,d,hv,h1,h2,sh⟩:=h.2 k y (List.mem_of_getElem? hy)
  obtain⟨w',hw,rw'⟩:=tD.some_of (v:=v) (o:=valueAt vb k) (by rw[<-hv];exact r2.val k)
  exact⟨w',hw,Ko I ry rw' h1 h2 sh hu⟩
def aa0 (K:PySem.W.Frag) (neg:Bool):R2:=fun x y H Q=>∃a b ka kb,x= .ref a/\y= .ref b/\Rd H a (.dK ka)/\Rd H b (.dK kb)/\zH K H ka kb/\Q (.bl (!neg)) H
theorem G4 {X:Cx} (hu:X.A.units+66<cLine):QOp X (compareOp .NotEq) (aa0 X.K true):=⟨fun pins s σ H x y v u Q I rx ry h=>by
 obtain⟨a,b,ka,kb,rfl,rfl,ha,hb,h,q⟩:=h
 cases rx
 cases ry
 obtain⟨_,lo,va,r1,da⟩:=vh I.hok ha
 obtain⟨_,lo',vb,r2,db⟩:=vh I.hok hb
 refine PySem.W.keq_ne (r:=true) lo lo' da db (by omega) (fun _=>Kp I r1 r2 h (by simp only[Around.in1_units];omega)) ⟨.bl false,H,I, ?_,q⟩
 show _=Value.bool false
 rw[show va.length=vb.length by rw[<-r1.length,<-r2.length];exact h.1];simp⟩
theorem aa1 {P:Program}{w:World} (p q:Addr) (xs ys:Array Value) (n m:Nat) (d1 d2:Option Addr) (t1 t2:Array (Option Value)) (hxy:xs.size=ys.size) (k:Nat):
 ∀i:Nat,xs.size - i=k->MeetsIn P w (Builtin.«list.__eq__.loop» ⟨[.ref p, .ref q,rawInt i,rawInt 3],[]⟩)
  (fun A R s=>s.heap.get? p=some {cls:= .type "list",dict:=d1,data:= .seq xs n,slots:=t1}/\s.heap.get? q=some {cls:= .type "list",dict:=d2,data:= .seq ys m,slots:=t2}/\
    (∀j (u:j<xs.size) (v:j<ys.size),qC P w A.in1 s xs[j] ys[j])/\R (.ok (.ret (.bool false))) s):=by
 induction k with
 | zero=>
   intro i hi A R s z
   obtain⟨hp,g,d,tk,os⟩:=s
   obtain⟨z1,z2,ze,z⟩:=z
   wp_walk using wpAny_loadPart' z1,wpAny_loadPart' z2
   have i1:xs[((i:Nat):Int).toNat]? =none:=by simp;omega
   have i2:ys[((i:Nat):Int).toNat]? =none:=by simp;omega
   rw[i1,i2]
   wp_walk using wpAny_loadPart' z1,wpAny_loadPart' z2
   show R (.ok (.ret (.bool (xs.size !=ys.size)))) _
   rw[hxy];simpa using z
 | succ k ih=>
   intro i hi A R s z
   obtain⟨hp,g,d,tk,os⟩:=s
   obtain⟨z1,z2,ze,z⟩:=z
   wp_walk using wpAny_loadPart' z1,wpAny_loadPart' z2
   have l1:i<xs.size:=by omega
   have l2:i<ys.size:=by omega
   have i1:xs[((i:Nat):Int).toNat]? =some xs[i]:=by simp[l1]
   have i2:ys[((i:Nat):Int).toNat]? =some ys[i]:=by simp[l2]
   rw[i1,i2]
   refine wpAny_bind (ze i l1 l2 _ _ ?_)
   wp_walk
   rw[show((i:Int)+1)=((i+1:Nat):Int) by push_cast;rfl]
   exact⟨plainId_quiet MeetsSeq3.plain_eq_loop _,codeAny_builtin MeetsSeq3.entry_eq_loop (by
    rw[Around.under_plainId MeetsSeq3.plain_eq_loop _]
    exact ih (i+1) (by omega) A R _ ⟨z1,z2,ze,z⟩)⟩
theorem Mx {P:Program}{w:World}{A:Around}{s:Shared}{E:Value->Shared->Prop}{Q:Value->Shared->Prop}{p q:Addr}{xs ys:Array Value} (hp:s.heap.IsList p xs) (hq:s.heap.IsList q ys) (hxy:xs.size=ys.size) (hu:A.units<cLine)
 (he:∀j (u:j<xs.size) (v:j<ys.size),qC P w A.in1 s xs[j] ys[j]) (h:Q (.bool false) s):wpAny (model P w) A (compareOp .NotEq (.ref p) (.ref q)) Q E s:=by
 obtain⟨⟨c1,d1,dt1,t1⟩,hp,hc1,n,hd1⟩:=hp
 obtain⟨⟨c2,d2,dt2,t2⟩,hq,hc2,m,hd2⟩:=hq
 simp only at hc1 hd1 hc2 hd2
 subst hc1 hd1 hc2 hd2
 have hne:¬(xs.size !=ys.size)=true:=by simp[hxy]
 have f3:=AutoSeq1.sub_list_list
 have g:MeetsIn P w (Builtin.«list.__ne__» ⟨[.ref p, .ref q],[]⟩) (fun A R s=>s.heap.get? p=some {cls:= .type "list",dict:=d1,data:= .seq xs n,slots:=t1}/\s.heap.get? q=some {cls:= .type "list",dict:=d2,data:= .seq ys m,slots:=t2}/\
       (∀j (u:j<xs.size) (v:j<ys.size),qC P w A.in1 s xs[j] ys[j])/\R (.ok (.ret (.bool false))) s):=by
  intro A R s z
  obtain⟨hp,g,d,tk,os⟩:=s
  obtain⟨z1,z2,ze,z⟩:=z
  wp_walk using AutoSeq1.wpAny_loadPart' z1,AutoSeq1.wpAny_loadPart' z2
  exact⟨plainId_quiet MeetsSeq3.plain_eq_loop _,codeAny_builtin MeetsSeq3.entry_eq_loop (by
   rw[Around.under_plainId MeetsSeq3.plain_eq_loop _]
   exact aa1 p q xs ys n m d1 d2 t1 t2 hxy _ 0 rfl A R _ ⟨z1,z2,ze,z⟩)⟩
 have hT:s.TypeIs (.ref p) "list":=⟨_,hp,rfl⟩
 refine wpAny_richCompare_same_room (op:= .NotEq) hT ⟨_,hq,rfl⟩ F.slot_list_ne (call_meetsIn F.slot_list_ne hT F.entry_list_ne (F.args_list_ne_2 _ _) g ⟨hp,hq,he, ?_⟩) hu
 exact⟨(fun x=>nomatch x),h⟩
def aa2 (K:PySem.W.Frag) (H:Hp) (x y:V):Prop:=ag3 H x y\/∃d,oU K H x d/\oU K H y d/\SeqAt.shaped d=true
theorem aa3 {X:Cx}{pins:List (Addr×Obj)}{s:Shared}{σ:St}{H:Hp}{A:Around}{x y:V}{z z':Value} (I:Inv X pins σ H s) (rz:RelV x z) (rz':RelV y z') (h:aa2 X.K H x y) (hu:A.units+66<cLine):qC X.prog X.w A.in1 s z z':=by
 have k1:A.in1.units=A.units+1:=rfl
 have k2:A.in1.in1.units=A.units+2:=rfl
 rcases h with(h | ⟨a',b',x1,x2,y1,y2,e3,e4,ha',hb',h1,h2⟩) | ⟨d,h1,h2,sh⟩
 ·exact Ia I rz rz' h (by omega)
 ·rw[e3] at rz
  rw[e4] at rz'
  cases rz
  cases rz'
  obtain⟨us,ru,tu,_⟩:=I.tuple (SqT.of ha')
  obtain⟨ws,rw',tw,_⟩:=I.tuple (SqT.of hb')
  obtain⟨u1,u2,rfl,r1,r2⟩:=vals2 ru
  obtain⟨w1,w2,rfl,r3,r4⟩:=vals2 rw'
  exact Mv tu tw (Ia I r1 r3 h1 (by omega)) (Ia I r2 r4 h2 (by omega)) (by omega)
 ·exact qC.of (Ko I rz rz' h1 h2 sh (by omega))
theorem iQ.u66 {k:Nat}{A:Around} (r:iQ k A):A.units+66<cLine:=by have:=r.un;omega
section
variable {X:Cx}
end
end L2
namespace RB
open PySem L2 PySem.Spec PyProof.Rows
section
variable {H H':Hp}{kp kq:List (Key×V)}{gv:Kn}{rc:Rn}{rm:Rm}{kn:Kn}{ks qs:List Str}
end
theorem nC {kw:List (Key×V)}{ws:List Str}{kn:Kn} (k:iz kw ws) (h:∀x,cI kw (.inr x)=(kn x).map V.int) (x:Str):x∈ws ↔ kn x≠none:=by
 constructor
 ·intro hx z
  exact k.none.mp (by rw[h,z];rfl) hx
 ·intro hx
  refine Decidable.byContradiction fun z=>hx ?_
  have:=k.none.mpr z
  rw[h] at this
  cases e:kn x with
  | none=>rfl
  | some u=>rw[e] at this;cases this
namespace SJ
end SJ
section
variable {prog:Program}{w:World}{A:Around}{E:Value->Shared->Prop}{s:Shared}
end
end RB
namespace L2
open PySem PySem.Spec PyProof.Rows RB
section
variable {prog:Program}{w:World}{A:Around}{E:Value->Shared->Prop}{s:Shared}{κ:PyProof.Rows.KeyKind}
end
section
variable {X:Cx}{pins:List (Addr×Obj)}{σ:St}{H:Hp}{s:Shared}
end
section
variable {X:Cx}
end
def aa4 (K:PySem.W.Frag):R2:=fun x y H Q=>∃a b xs,x= .ref a/\y= .ref b/\SqL K H a xs/\SqL K H b []/\Q (.bl (!xs.isEmpty)) H
theorem Qn {X:Cx} (hu:X.A.units+64<cLine):QOp X (compareOp .NotEq) (aa4 X.K):=⟨fun pins s σ H x y v u Q I rx ry h=>by
 obtain⟨a,b,xs,rfl,rfl,ha,hb,q⟩:=h
 cases xs with
 | nil=>exact Ry hu pins s σ H _ _ v u Q I rx ry ⟨.list [], .list [], .lst ha .nil, .lst hb .nil,shaped_ints [],shaped_ints [],q⟩
 | cons x r=>
   cases rx
   cases ry
   obtain⟨its,rv,pl,_⟩:=I.list ha
   obtain⟨its',rv',pl',_⟩:=I.list hb
   cases rv
   cases rv'
   exact PySem.SeqAt.RcNeAt.lists_lengths pl.isList pl'.isList rfl (by omega) _ _ _ _ ⟨.bl true,H,I,rfl,q⟩⟩
end L2
namespace RB
open PySem L2 PySem.Spec PyProof.Rows
section
variable {n:Nat}{gv gv':Kn}{rc:Rn}{kn kn':Kn}{rm rm' rm1 rm2:Rm}
end
end RB
namespace L2
open PySem PySem.Spec PyProof.Rows RB
end L2
namespace RB
open PySem L2 PySem.Spec PyProof.Rows
theorem Yq {K:PySem.W.Frag}{H:Hp}{kw1 kw2:List (Key×V)}{w1 w2:List Str}{kn:Kn} (k1:iz kw1 w1) (h1:∀x,cI kw1 (.inr x)=(kn x).map V.int) (k2:iz kw2 w2) (h2:∀x,cI kw2 (.inr x)=(kn x).map V.int):zH K H kw1 kw2:=by
 refine⟨?_,fun k u m=> ?_⟩
 ·rw[k1.len,k2.len]
  have a:=dH k1.nd fun x hx=>(nC k2 h2 x).mpr ((nC k1 h1 x).mp hx)
  have b:=dH k2.nd fun x hx=>(nC k1 h1 x).mpr ((nC k2 h2 x).mp hx)
  omega
 ·have hv:=Ed k1 m
  obtain⟨i,hi⟩:=List.getElem?_of_mem m
  obtain⟨x,rfl,hxi⟩:=k1.at hi
  rw[h1] at hv
  cases e:kn x with
  | none=>rw[e] at hv;cases hv
  | some v=>
    rw[e] at hv
    have:u= .int v:=(Option.some.inj hv).symm
    subst this
    exact⟨.int v, .int v,by rw[h2,e];rfl, .int v, .int v,rfl⟩
def Td (q:R×List Rdp×Int):PyData:= .tuple [q.1.dat, .list (q.2.1.map rdD), .int q.2.2]
theorem vD.adY {K:PySem.W.Frag}{X:List Addr}{H:Hp}{b:Addr}{q:R×List Rdp×Int} (r:vD X H b q):oU K H (.ref b) (Td q):=by
 obtain⟨br,l,as,e,hR,el,hRs,_⟩:=r
 exact .tup (SqT.of e) (.cons hR.dat (.cons (.lst (SqL.of el) (GQ hRs)) (.cons (.int _) .nil)))
def slJ (a b:Str):Prop:=a.cps.toList<b.cps.toList
theorem Ii (a:Str):¬slJ a a:=List.lt_irrefl _
theorem G5 {a b c:Str} (h1:slJ a b) (h2:slJ b c):slJ a c:=List.lt_trans h1 h2
theorem Te {a b:Str} (h:a.cps.toList=b.cps.toList):a=b:=by
 obtain⟨a⟩:=a;obtain⟨b⟩:=b
 exact congrArg Str.mk (Array.toList_inj.mp h)
theorem Wn {a b:Str} (h1:¬slJ a b) (h2:¬slJ b a):a=b:=Te (List.le_antisymm (List.not_lt.mp h2) (List.not_lt.mp h1))
theorem Mz {a b:Str} (h:¬slJ b a):a=b\/slJ a b:=by
 by_cases c:slJ a b
 ·exact .inr c
 ·exact .inl (Wn c h)
theorem zJ:∀{us vs:List Str},us.Pairwise slJ->vs.Pairwise slJ->(∀x,x∈us ↔ x∈vs)->us=vs
 |[],[],_,_,_=>rfl
 |[],v::vs,_,_,h=>absurd ((h v).mpr List.mem_cons_self) (by simp)
 | u::us,[],_,_,h=>absurd ((h u).mp List.mem_cons_self) (by simp)
 | u::us,v::vs,hu,hv,h=>by
   have hu':=List.pairwise_cons.mp hu
   have hv':=List.pairwise_cons.mp hv
   have e:u=v:=by
    rcases List.mem_cons.mp ((h u).mp List.mem_cons_self) with z | z
    ·exact z
    ·rcases List.mem_cons.mp ((h v).mpr List.mem_cons_self) with y | y
     ·exact y.symm
     ·exact absurd (G5 (hu'.1 v y) (hv'.1 u z)) (Ii u)
   subst e
   congr 1
   refine zJ hu'.2 hv'.2 fun x=>⟨fun z=> ?_,fun z=> ?_⟩
   ·rcases List.mem_cons.mp ((h x).mp (List.mem_cons_of_mem _ z)) with y | y
    ·subst y;exact absurd (hu'.1 x z) (Ii x)
    ·exact y
   ·rcases List.mem_cons.mp ((h x).mpr (List.mem_cons_of_mem _ z)) with y | y
    ·subst y;exact absurd (hv'.1 x z) (Ii x)
    ·exact y
theorem Ep:∀(l:List Str) (p:Str),risingS p l=true->(∀x∈l,¬slJ x p)/\l.Pairwise fun a b=>¬slJ b a
 |[],p,_=>⟨fun x hx=>absurd hx (by simp),List.Pairwise.nil⟩
 | y::l,p,h=>by
   have h':(!ltCps y.cps.toList p.cps.toList&&risingS y l)=true:=h
   rw[Bool.and_eq_true] at h'
   have hy:¬slJ y p:=by
    have:=h'.1
    rw[ltCps_eq] at this
    simpa [slJ] using this
   obtain⟨k1,k2⟩:=Ep l y h'.2
   refine⟨fun x hx=> ?_,List.pairwise_cons.mpr ⟨k1,k2⟩⟩
   rcases List.mem_cons.mp hx with rfl | hx
   ·exact hy
   ·intro z
    rcases Mz hy with e | e
    ·rw[e] at z;exact k1 x hx z
    ·exact k1 x hx (G5 z e)
theorem Es {l:List Str} (h:sortedS l=true):l.Pairwise fun a b=>¬slJ b a:=by
 cases l with
 | nil=>exact List.Pairwise.nil
 | cons p l=>
   obtain⟨k1,k2⟩:=Ep l p h
   exact List.pairwise_cons.mpr ⟨k1,k2⟩
theorem MF {us vs ts ws:List Str} (h1:us.Perm ts) (s1:sortedS us=true) (h2:vs.Perm ws) (s2:sortedS vs=true) (n1:ts.Nodup) (n2:ws.Nodup) (e:∀x,x∈ts ↔ x∈ws):us=vs:=by
 have hn1:us.Nodup:=h1.nodup_iff.mpr n1
 have hn2:vs.Nodup:=h2.nodup_iff.mpr n2
 refine zJ (((Es s1).and hn1).imp fun h=> ?_) (((Es s2).and hn2).imp fun h=> ?_) fun x=>(h1.mem_iff.trans (e x)).trans h2.mem_iff.symm
 ·rcases Mz h.1 with z | z
  ·exact absurd z h.2
  ·exact z
 ·rcases Mz h.1 with z | z
  ·exact absurd z h.2
  ·exact z
open Classical in
open Classical in
theorem Tf {kvs:List (Key×V)}{ns:List Str} (h:iz kvs ns) (x:Str) (v:V):∃ns',iz (putK kvs (.inr x) v) ns':=by
 by_cases z:x∈ns
 ·exact⟨_,h.Bg z v⟩
 ·exact⟨_,h.tR z v⟩
section
variable {gv:Kn}{rc:Rn}{kn kn':Kn}{od od' p:List Str}{x y:Str}{r:R}
end
section
variable {Hf:Hp}{h g c rcd st wd ml:Addr}{n:Nat}{gv:Kn}{rc:Rn}{kr:List (Key×V)}{rm:Rm}{kn:Kn}{od:List Str}{H H':Hp}
end
section
variable {kn:Kn}{a b c:R}{op:Op}{y x:Str}{u v:Int}{ns:List Str}
end
end RB
namespace L2
open PySem PySem.Spec PyProof.Rows RB
end L2
namespace RB
open PySem L2 PySem.Spec PyProof.Rows
theorem yu:∀(r:R) (d:Nat),r.Dy->r.depth<=d->r.nms.length<=3 * 3 ^ d
 | r,0,_,h=>absurd (rA r) (by omega)
 | .num _,d+1,_,_=>Nat.zero_le _
 | .rd _,d+1,_,_=>by
   have:1<=3 ^(d+1):=Nat.one_le_pow _ _ (by decide)
   show 1<=_
   omega
 | .bin _ a b,d+1,g,h=>by
   have h:max a.depth b.depth+1<=d+1:=h
   have h1:=yu a d g.1 (by omega)
   have h2:=yu b d g.2 (by omega)
   show(a.nms++b.nms).length<=_
   rw[List.length_append,Nat.pow_succ];omega
 | .pick a b c,d+1,g,h=>by
   have h:max a.depth (max b.depth c.depth)+1<=d+1:=h
   have h1:=yu a d g.1 (by omega)
   have h2:=yu b d g.2.1 (by omega)
   have h3:=yu c d g.2.2 (by omega)
   show(a.nms++(b.nms++c.nms)).length<=_
   rw[List.length_append,List.length_append,Nat.pow_succ];omega
 | .cho a ns,d+1,g,h=>by
   have h:a.depth+1<=d+1:=h
   have h0:=rA a
   have h1:=yu a d g.1 (by omega)
   have h2:=g.2.2.1
   obtain⟨d',rfl⟩:∃d',d=d'+1:=⟨d - 1,by omega⟩
   have:1<=3 ^ d':=Nat.one_le_pow _ _ (by decide)
   show(a.nms++ns).length<=_
   rw[List.length_append,Nat.pow_succ,Nat.pow_succ] at *;omega
theorem Om {ns:List Str} (nd:ns.Nodup) {j m:Nat}{y:Str} (h:ns[j]? =some y) (hm:m<=j):y∉ns.take m:=fun z=>by
 obtain⟨i,hi⟩:=List.getElem?_of_mem z
 rw[List.getElem?_take] at hi
 split at hi
 ·have:=(List.getElem?_inj (List.getElem?_eq_some_iff.mp hi).1 nd).mp (hi.trans h.symm)
  omega
 ·cases hi
theorem Et {ns:List Str}{m:Nat}{z:Str} (h:z∈ns.take m):∃i,i<m/\ns[i]? =some z:=by
 obtain⟨i,hi⟩:=List.getElem?_of_mem h
 rw[List.getElem?_take] at hi
 split at hi
 ·exact⟨i,by assumption,hi⟩
 ·cases hi
theorem Tg {ns:List Str}{i m:Nat}{z:Str} (h:ns[i]? =some z) (hi:i<m):z∈ns.take m:=by
 refine List.mem_of_getElem? (i:=i) ?_
 rw[List.getElem?_take,if_pos hi];exact h
theorem Oo {gv:Kn}{rc:Rn}{I:Ms->Prop} (hs:∀s t,I s->mv gv rc s=some t->I t):∀{k:Nat}{s t:Ms},I s->itM gv rc k s=some t->I t
 | 0,s,t,h,e=>by cases e;exact h
 | k+1,s,t,h,e=>by
   unfold itM at e
   cases z:mv gv rc s with
   | none=>rw[z] at e;cases e
   | some u=>rw[z] at e;exact Oo hs (hs s u h z) e
theorem Mvs.inv {gv:Kn}{rc:Rn}{I:Ms->Prop} (hs:∀s t,I s->mv gv rc s=some t->I t) {s t:Ms} (m:Mvs gv rc s t) (h:I s):I t:=let ⟨_,e⟩:=m;Oo hs h e
theorem Eu {ns:List Str}{i j:Nat} (h:i<=j):∀x∈ns.take i,x∈ns.take j:=fun x hx=>by
 obtain⟨k,hk,e⟩:=Et hx
 exact Tg e (by omega)
section
variable {H0 Hf Hf':Hp}{h g c st:Addr}{A:S1}{gs cs:List Str}{gv:Kn}{rc:Rn}{ops:List Str}{ls:List Addr}{kn:Kn}{rm:Rm}{od:List Str}{H H':Hp}
end
section
variable {H0 Hf:Hp}{h g c st:Addr}{A:S1}{gs cs:List Str}{gv:Kn}{rc:Rn}{ops:List Str}{ls:List Addr}{kn:Kn}{rm:Rm}{od:List Str}{H:Hp}
end
structure aa5 (q:R×List Rdp×Int):Prop where
 g:q.1.Good
 d:q.1.depth<=8
 p:∀p∈q.2.1,m8 p.1
def RmG (rm:Rm):Prop:=∀x q,rm x=some q->aa5 q
theorem aa5.shaped {q:R×List Rdp×Int} (h:aa5 q):SeqAt.shaped (Td q)=true:=by
 obtain⟨r,ps,v⟩:=q
 obtain⟨h1,h2⟩:=N8 ps h.p
 have h3:=r.mJ
 have h4:r.depth<=8:=h.d
 show(PyData.canLay0 (Td (r,ps,v))&&decide ((Td (r,ps,v)).depth<=64))=true
 rw[decide_eq_true (by simp only[Td,PyData.depth,PyData.depthAll];omega),Bool.and_true]
 show(r.dat.canLay0&&(PyData.canLayAll0 (ps.map rdD)&&(true&&true)))=true
 rw[r.lay h.g,h1];rfl
theorem j9.mem {H:Hp}{ks:List (Key×V)}{rm:Rm} (h:j9 H ks rm) {rs:List Str} (k:iz ks rs) (x:Str):x∈rs ↔ rm x≠none:=by
 constructor
 ·intro hx z
  exact k.none.mp (h.w x z) hx
 ·intro hx
  cases e:rm x with
  | none=>exact absurd e hx
  | some q=>
    obtain⟨b,hb,_⟩:=h.v x q e
    refine Decidable.byContradiction fun z=> ?_
    rw[k.none.mpr z] at hb;cases hb
theorem Ti {K:PySem.W.Frag}{H:Hp}{ka kb:List (Key×V)}{rm:Rm} (h1:j9 H ka rm) (h2:j9 H kb rm) (hg:RmG rm):zH K H ka kb:=by
 obtain⟨ra,k1⟩:=h1.k
 obtain⟨rb,k2⟩:=h2.k
 refine⟨?_,fun k u m=> ?_⟩
 ·rw[k1.len,k2.len]
  have a:=dH k1.nd fun x hx=>(h2.mem k2 x).mpr ((h1.mem k1 x).mp hx)
  have b:=dH k2.nd fun x hx=>(h1.mem k1 x).mpr ((h2.mem k2 x).mp hx)
  omega
 ·have hv:=Ed k1 m
  obtain⟨i,hi⟩:=List.getElem?_of_mem m
  obtain⟨x,rfl,hxi⟩:=k1.at hi
  cases e:rm x with
  | none=>exact absurd e ((h1.mem k1 x).mp (List.mem_of_getElem? hxi))
  | some q=>
    obtain⟨b,hb,a1⟩:=h1.v x q e
    obtain⟨c,hc,a2⟩:=h2.v x q e
    rw[hb] at hv;cases hv
    exact⟨_,_,hc,a1.adY,a2.adY,(hg x q e).shaped⟩
section
variable {gv gv':Kn}{rc:Rn}{kn kn':Kn}{rm rm' rm1 rm2:Rm}
theorem StG.rmG (s:StG gv rc kn rm) (hg:∀x r,rc x=some r->r.Good/\r.depth<=8) (hn:∀y,kn y≠none->m8 y):RmG rm:=fun x q e=>by
 obtain⟨r,ps,v⟩:=q
 obtain⟨h1,_,_,_,h5⟩:=s.b _ _ _ _ e
 exact⟨(hg x r h1).1,(hg x r h1).2,fun p hp=>hn _ (by rw[h5.s p hp];simp)⟩
end
end RB
namespace L2
open PySem PySem.Spec PyProof.Rows RB PySem.W
section
variable {prog:Program}{w:World}{A:Around}{E:Value->Shared->Prop}{s:Shared}
end
end L2
namespace L2
open PySem PySem.Spec PyProof.Rows RB
end L2
namespace RB
open PySem L2 PySem.Spec PyProof.Rows
end RB
namespace L2
open PySem PySem.Spec PyProof.Rows RB
theorem Ew {y:Str}:∀{vs:List Value}{ns:List Str},StrsAre vs ns->∀{j:Nat}{v:Value},vs[j]? =some v->isStrOf y v=decide (ns[j]? =some y)
 | _,_, .nil,j,v,h=>by simp at h
 | _,_, .cons z t r,0,v,h=>by
   cases h
   show(z==y)=decide (some z=some y)
   by_cases h:z=y<;>simp[h]
 | _,_, .cons z t r,j+1,v,h=>by
   have:=Ew (y:=y) r (j:=j) (v:=v) (by simpa using h)
   simpa using this
def Tj (K:PySem.W.Frag):V->List V->Hp->VK->Prop:=fun x vs H Q=>∃(l:Addr) (ns:List Str) (y:Str) (j:Nat),x= .ref l/\vs=[.str y]/\SqL K H l (ns.map V.str)/\ns[j]? =some y/\(∀i,i<j->ns[i]? ≠some y)/\Q (.int (j:Int)) H
theorem Tn {X:Cx}:MtR X "list.index" (Tj X.K):=by
 intro pins s σ H x vs v us Q I rx rv h
 obtain⟨l,ns,y,j,rfl,rfl,hS,hj,hno,q⟩:=h
 cases rx
 obtain⟨u,rfl,ru⟩:=rv.one
 obtain⟨t,rfl⟩:∃t,u= .str y t:=ru
 obtain⟨its,r,pl,hz⟩:=I.list hS
 have hA:=Eb r
 have hl:=r.length
 rw[List.length_map] at hl hz
 obtain⟨⟨cls,dd,data,sl⟩,ho,hc,n,hd⟩:=pl.isList
 simp only at hc hd
 subst hc hd
 have hjl:j<ns.length:=(List.getElem?_eq_some_iff.mp hj).1
 have hn:=Dk
 have hat:∀(i:Nat) (hi:i<its.toArray.size),isStrOf y its.toArray[i]=decide (ns[i]? =some y):=fun i hi=>by
  have hi':i<its.length:=by simpa using hi
  refine Ew hA ?_
  rw[List.getElem?_eq_getElem hi']
  simp
 refine call_meets PySem.F.slot_list_index ⟨_,ho,rfl⟩ PySem.F.entry_list_index (PySem.F.args_list_index_2 _ _) (SeqAt.list_indexAt l its.toArray n dd sl (.str y t) (isStrOf y) j (by simp;omega) (by
  have:its.length<=sizeLine:=by omega
  omega) ?_ ?_) ⟨ho,fun z hz=>(eq_isStrOf y t hA z (by simpa using hz)).at _ _, ?_⟩
 ·rw[hat];exact decide_eq_true hj
 ·intro i hi hlt
  rw[hat];exact decide_eq_false (hno i hlt)
 ·exact⟨.int (j:Int),H,I.tok _,⟨_,rfl⟩,q⟩
theorem Qo {X:Cx}:QMt X "list.index" (Tj X.K):=⟨Tn⟩
end L2
namespace L2
open PySem PySem.Spec PyProof.Rows
def Hd (c:Value) (d:Option Addr) (o:Obj):Prop:=o.cls=c/\o.dict=d
theorem Hd.map {c:Value}{d:Option Addr}{o:Obj} (h:Hd c d o) (f:Array Value->Array Value):Hd c d (o.mapFields f):=by
 obtain⟨oc,od,dt,sl⟩:=o
 obtain⟨h1,h2⟩:=h
 cases dt<;>exact⟨h1,h2⟩
def TrD (h base:Heap) (e:Addr) (c:Value) (d:Option Addr) (fl:Value):Prop:=∃oe vs T oT ts,h.get? e=some oe/\Hd c d oe/\oe.data= .fields vs/\vs[1]? =some (Value.ref T)/\base.get? T=none/\T≠e/\h.get? T=some oT/\oT.data= .fields ts/\ts[3]? =some fl
structure xH (base:Heap) (l:List Env) (e:Addr) (c:Value) (d:Option Addr) (fl:Value) (h:Heap):Prop where
 stays:base.StaysIn h
 new:base.get? e=none
 frames:h.FunFrames base l
 tr:TrD h base e c d fl
theorem xH.there {base h:Heap}{l:List Env}{e:Addr}{c fl:Value}{d:Option Addr} (x:xH base l e c d fl h):∃o vs,h.get? e=some o/\Hd c d o/\o.data= .fields vs:=by
 obtain⟨oe,vs,_,_,_,h1,h2,h3,_⟩:=x.tr
 exact⟨oe,vs,h1,h2,h3⟩
theorem xH.out {base h:Heap}{env:Env}{l:List Env}{e:Addr}{c fl:Value}{d:Option Addr} (x:xH base (env::l) e c d fl h):xH base l e c d fl h:=⟨x.stays,x.new,x.frames.2.2,x.tr⟩
section
variable {M:Model}{A:Around}{E:Value->Shared->Prop}{s:Shared}{base:Heap}{env:Env}{outer:List Env}{L e:Addr}{Q:Unit->Shared->Prop}{c:Value}{d:Option Addr}
theorem Yr {oe:Obj}{vs:Array Value}{head:Value}{more:Bool} (fr:A.frames=some (env::outer)) (ff:s.heap.FunFrames base (env::outer)) (fl:env.frame=some L) (he:s.heap.get? e=some oe) (st:base.StaysIn s.heap) (en:base.get? e=none)
 (hd:oe.data= .fields vs) (sz:1<vs.size) (hh:Hd c d oe) (k:∀h',xH base (env::outer) e c d (rawInt L) h'->s.heap.UpToSlots h'->Q () {s with heap:=h'}):
 wpAny M A (do let a <-frameOf env;let pl <-entryPlaceOf L more;let b <-EntryCells.newEntry head a .none (rawInt L) .none pl;setField (.ref e) 1 b) Q E s:=by
 have nf:e∉(env::outer).filterMap (·.frame):=fun hm=>by
  obtain⟨_,o,q,nq⟩:=ff.mem hm
  rw[he] at q
  cases q
  exact nq vs hd
 refine wpAny_bind (wpAny_frameOf_fun fr ff fl fun h1 so=> ?_)
 refine wpAny_bind (wpAny_entryPlaceOf fun pl hpl=> ?_)
 unfold EntryCells.newEntry newFields
 refine wpAny_bind (wpAny_newObj_type ?_ (hpl.sizeOk5 _ _ _ _ _))
 have e1:h1.get? e=some oe:=by rw[so.2.1 e nf];exact he
 have st1:base.StaysIn h1:=fun b o q=>by
  rw[so.2.1 b fun hm=>by rw[(ff.mem hm).1] at q;cases q]
  exact st b o q
 generalize hnew:({cls:= .type "traceback",dict:=none,data:= .fields ([head, .ref L, .none,rawInt L, .none]++(if pl.isEmpty then List.replicate 6 Value.none else pl)).toArray}:Obj)=nt
 have hnd:∃ts,nt.data= .fields ts/\ts[3]? =some (rawInt L):=by
  subst hnew
  exact⟨_,rfl,by first | (simp;done) | (rcases hpl with rfl | ⟨_,_,_,_,_,_,_,rfl⟩<;>simp)⟩
 have nfree:nt.isFreed=false:=by subst hnew;rfl
 have e2:=Heap.get?_push_of_some (h:=h1) nt e1
 refine wpAny_setField e2 hd sz ?_
 have nT:h1.objs.size≠e:=Nat.ne_of_gt (Heap.lt_size e1)
 have d3:=Obj.data_mapFields hd (·.setIfInBounds 1 (Value.ref h1.objs.size))
 have keep:∀b o,b≠e->h1.get? b=some o->((h1.push nt).update e (Obj.mapFields (·.setIfInBounds 1 (Value.ref h1.objs.size)))).get? b=some o:=fun b o nb q=>by
  rw[Heap.get?_update_other _ _ (Ne.symm nb)];exact Heap.get?_push_of_some nt q
 have nrec:∀b o,s.heap.get? b=some o->(∀ws,o.data≠ .fields ws)->b≠e:=fun b o q nq z=>by
  rw[z,he] at q;cases q;exact nq vs hd
 obtain⟨ts,t1,t2⟩:=hnd
 refine k _ ⟨fun b o q=>keep b o (fun z=>by rw[z,en] at q;cases q) (st1 b o q),en,ff.of_keeps fun b o q nq=> ?_,_,_,h1.objs.size,nt,ts,Heap.get?_update_self _ e2 (Obj.isFreed_of_fields d3),hh.map _,d3,by simp[sz],st1.fresh,nT, ?_,t1,t2⟩ fun b o q nq=> ?_
 ·obtain⟨sl,z⟩:=so.2.2 b o q
  exact⟨_,keep b _ (nrec b o q nq) z,rfl⟩
 ·rw[Heap.get?_update_other _ _ (Ne.symm nT)]
  exact Heap.get?_push_size h1 nfree
 ·obtain⟨sl,z⟩:=so.2.2 b o q
  exact⟨sl,keep b _ (nrec b o q nq) z⟩
theorem Qp {oe:Obj}{vs:Array Value} (fr:A.frames=some (env::outer)) (ff:s.heap.FunFrames base (env::outer)) (fl:env.frame=some L) (he:s.heap.get? e=some oe) (st:base.StaysIn s.heap) (en:base.get? e=none)
 (hd:oe.data= .fields vs) (h1:vs[1]? =some .none) (hh:Hd c d oe) (k:∀h',xH base (env::outer) e c d (rawInt L) h'->s.heap.UpToSlots h'->Q () {s with heap:=h'}):wpAny M A (noteFrame (.ref e) env) Q E s:=by
 unfold noteFrame
 simp only[fl]
 refine wpAny_bind (wpAny_field he hd h1 ?_)
 rw[if_neg (by decide)]
 exact Yr fr ff fl he st en hd (Array.getElem?_eq_some_iff.mp h1).1 hh k
theorem Kq (fr:A.frames=some (env::outer)) (fl:env.frame=some L) (x:xH base (env::outer) e c d .none s.heap) (k:∀h',xH base (env::outer) e c d (rawInt L) h'->s.heap.UpToSlots h'->Q () {s with heap:=h'}):wpAny M A (noteFrame (.ref e) env) Q E s:=by
 obtain⟨oe,vs,T,oT,ts,he,hh,hd,h1,bT,nT,hT,dT,h3⟩:=x.tr
 unfold noteFrame
 simp only[fl]
 refine wpAny_bind (wpAny_field he hd h1 ?_)
 rw[if_pos (show(Value.ref T !=Value.none)=true from by simp)]
 refine wpAny_bind (wpAny_field hT dT h3 ?_)
 rw[if_neg (show¬((Value.none==rawInt L)=true) from by simp[rawInt])]
 refine wpAny_bind (wpAny_setField hT dT (Array.getElem?_eq_some_iff.mp h3).1 ?_)
 have oth:∀b,b≠T->(s.heap.update T (Obj.mapFields (·.setIfInBounds 3 Value.none))).get? b=s.heap.get? b:=fun b nb=>Heap.get?_update_other _ _ (Ne.symm nb)
 have nrec:∀b o,s.heap.get? b=some o->(∀ws,o.data≠ .fields ws)->b≠T:=fun b o q nq z=>by
  rw[z,hT] at q;cases q;exact nq ts dT
 refine Yr fr (x.frames.of_keeps fun b o q nq=>⟨o,by rw[oth b (nrec b o q nq)];exact q,rfl⟩) fl (by rw[oth e (Ne.symm nT)];exact he) (fun b o q=>by
  rw[oth b fun z=>by rw[z,bT] at q;cases q]
  exact x.stays b o q) x.new hd (Array.getElem?_eq_some_iff.mp h1).1 hh fun h' f u=>k h' f fun b o q nq=>u b o (by rw[oth b (nrec b o q nq)];exact q) nq
theorem Oq {fl:Value}{l:List Env} (x:xH base l e c d fl s.heap) (k:∀h',xH base l e c d .none h'->s.heap.UpToSlots h'->Q () {s with heap:=h'}):wpAny M A (setFlight (.ref e) none) Q E s:=by
 obtain⟨oe,vs,T,oT,ts,he,hh,hd,h1,bT,nT,hT,dT,h3⟩:=x.tr
 have sz:3<ts.size:=(Array.getElem?_eq_some_iff.mp h3).1
 have oth:∀b,b≠T->(s.heap.update T (Obj.mapFields (·.setIfInBounds 3 ((none:Option Addr).elim Value.none fun f=>rawInt f)))).get? b=s.heap.get? b:=fun b nb=>Heap.get?_update_other _ _ (Ne.symm nb)
 have nrec:∀b o,s.heap.get? b=some o->(∀ws,o.data≠ .fields ws)->b≠T:=fun b o q nq z=>by
  rw[z,hT] at q;cases q;exact nq ts dT
 unfold setFlight
 refine wpAny_bind (wpAny_field he hd h1 ?_)
 rw[if_pos (show(Value.ref T !=Value.none)=true from by simp)]
 refine wpAny_setField hT dT sz (k _ ⟨fun b o q=> ?_,x.new,x.frames.of_keeps fun b o q nq=>⟨o,by rw[oth b (nrec b o q nq)];exact q,rfl⟩,oe,vs,T,_,_,by rw[oth e (Ne.symm nT)];exact he,hh,hd,h1,bT,nT,Heap.get?_update_self _ hT (Obj.isFreed_of_fields (Obj.data_mapFields dT _)),Obj.data_mapFields dT _,by simp[sz]⟩ fun b o q nq=>⟨o.slots, ?_⟩)
 ·rw[oth b fun z=>by rw[z,bT] at q;cases q]
  exact x.stays b o q
 ·rw[oth b (nrec b o q nq)];exact q
theorem MJ {oe:Obj}{vs:Array Value} (fr:A.frames=some (env::outer)) (ff:s.heap.FunFrames base (env::outer)) (fl:env.frame=some L) (he:s.heap.get? e=some oe) (st:base.StaysIn s.heap) (en:base.get? e=none)
 (hd:oe.data= .fields vs) (h1:vs[1]? =some .none) (hh:Hd c d oe) (k:∀h',xH base outer e c d .none h'->s.heap.UpToSlots h'->Q () {s with heap:=h'}):wpAny M A (leaving env (.ref e)) Q E s:=by
 unfold leaving
 refine wpAny_bind (Qp fr ff fl he st en hd h1 hh fun h' f u=> ?_)
 exact Oq (s:={s with heap:=h'}) f fun h2 f2 u2=>k h2 f2.out (u.trans u2)
theorem Qq (fr:A.frames=some (env::outer)) (fl:env.frame=some L) (x:xH base (env::outer) e c d .none s.heap) (k:∀h',xH base outer e c d .none h'->s.heap.UpToSlots h'->Q () {s with heap:=h'}):wpAny M A (leaving env (.ref e)) Q E s:=by
 unfold leaving
 refine wpAny_bind (Kq fr fl x fun h' f u=> ?_)
 exact Oq (s:={s with heap:=h'}) f fun h2 f2 u2=>k h2 f2.out (u.trans u2)
end
section
variable {prog:Program}{w:World}{A:Around}{E:Value->Shared->Prop}{h:Heap}{g:Array GenState}{d:Drawn}{t:Nat}{os:OsState}
variable {nm q:Str}{C N:Addr}{bs bm bmB:List Value}{hdct:Bool}{sn:List Str}{sub:List Value}{ab:Bool}{col:Option Bool}{dd:Option Addr}{k0 k1 k2 k3 k5:Option Value}{B newId initId:String}
theorem Cp (F:ExcBaseFacts B newId initId bmB) (T:OwnTail h bmB bm) {mN:Str->Option Value}{rest:List Value}{fI:Addr}{oI:Obj}{Q:Fin->Shared->Prop}
 (hC:h.get? C=some (excClassObj nm q C N bs bm hdct sn sub ab col dd k0 k1 k2 k3 k5 newId)) (hn:h.Ns N mN) (hi:mN "__init__"=some (.ref fI)) (hfI:h.get? fI=some oI) (hfc:oI.cls= .type "function")
 (hq:∀h' e,Heap.MadeExcOf h h' e (.ref C) rest->wpAny (model prog w) A (call (.ref fI) (.ref e::rest)) (fun r s'=>r= .none/\Q (.done (.ret (.ref e))) s') E ⟨h',g,d,t,os⟩) (hrest:rest.length<=sizeLine):
 wpAny (model prog w) A (Builtin.«type.__call__» ⟨.ref C::rest,[]⟩) Q E ⟨h,g,d,t,os⟩:=by
 repeat (first | with_reducible refine wpAny_loadPart_at hC ?_ | with_reducible refine wpAny_madeBy_exc hC ?_ | wp_step)
 refine codeAny_call_builtin_code (Code.quiet_builtin _ F.quiet) (wpAny_check_new_subT F T hC ?_)
 refine codeAny_exc_new_subT F T hC ?_ hrest
 show wpAny _ _ _ _ _ _
 have hC₁:=Heap.get?_push_of_some {cls:= .ref C,data:= .fields #[.ref h.objs.size, .none, .none, .none, .bool false, .none]}
  (Heap.get?_push_of_some {cls:= .type "tuple",data:= .seq rest.toArray} hC)
 have hfI₁:=Heap.get?_push_of_some {cls:= .ref C,data:= .fields #[.ref h.objs.size, .none, .none, .none, .bool false, .none]}
  (Heap.get?_push_of_some {cls:= .type "tuple",data:= .seq rest.toArray} hfI)
 have hn₁:((h.push {cls:= .type "tuple",data:= .seq rest.toArray}).push {cls:= .ref C,data:= .fields #[.ref h.objs.size, .none, .none, .none, .bool false, .none]}).Ns N mN:=
  let ⟨o,es,ep,e,r⟩:=hn;⟨o,es,ep,Heap.get?_push_of_some _ (Heap.get?_push_of_some _ e),r⟩
 have hget:((h.push {cls:= .type "tuple",data:= .seq rest.toArray}).push
  {cls:= .ref C,data:= .fields #[.ref h.objs.size, .none, .none, .none, .bool false, .none]}).get? (h.objs.size+1)=some
  {cls:= .ref C,data:= .fields #[.ref h.objs.size, .none, .none, .none, .bool false, .none]}:=by heap_get
 have hcC:(Value.ref C::bm).contains (.ref C)=true:=by simp
 have T₁:=T.keeps (h':=(h.push {cls:= .type "tuple",data:= .seq rest.toArray}).push {cls:= .ref C,data:= .fields #[.ref h.objs.size, .none, .none, .none, .bool false, .none]})
  fun b o e=>Heap.get?_push_of_some _ (Heap.get?_push_of_some _ e)
 unfold isInstance
 repeat (first | with_reducible refine wpAny_loadPart_at hget ?_ | (with_reducible refine wpAny_isSubtype_exc hC₁ ?_;rw[hcC]) | wp_step)
 show wpAny _ _ (typeLookup (.ref C) _) _ _ _
 refine wpAny_typeLookup_tail hC₁ hn₁ T₁ F.mroIs F.init.lookup ?_
 rw[hi]
 refine wpAny_holding (wpAny_bind ?_)
 unfold bindSpecial
 refine wpAny_bind (wpAny_typeOf (T:="function") ⟨_,hfI₁,hfc⟩ ?_)
 rw[if_pos (by decide)]
 refine wpAny_pure (wpAny_bind (wpAny_mono (hq _ (h.objs.size+1) ⟨fun b o hb=>Heap.get?_push_of_some _ (Heap.get?_push_of_some _ hb),Heap.get?_none_of_le (Nat.le_succ _),h.objs.size,hget,Heap.get?_none_of_le (Nat.le_refl _), ?_⟩) (fun r s' hr=> ?_) fun _ _ x=>x))
 ·exact Heap.get?_push_of_some _ (Heap.get?_push_at rfl rfl)
 ·obtain⟨rfl,hQ⟩:=hr
  wp_walk
  exact hQ
theorem Ex (F:ExcBaseFacts B newId initId bmB) (T:OwnTail h bmB bm) {mN:Str->Option Value}{rest:List Value}{fI:Addr}{oI:Obj}{Q:Value->Shared->Prop}
 (hC:h.get? C=some (excClassObj nm q C N bs bm hdct sn sub ab col dd k0 k1 k2 k3 k5 newId)) (hn:h.Ns N mN) (hi:mN "__init__"=some (.ref fI)) (hfI:h.get? fI=some oI) (hfc:oI.cls= .type "function")
 (hq:∀h' e,Heap.MadeExcOf h h' e (.ref C) rest->wpAny (model prog w) (A.under (.builtin "type.__call__" ⟨.ref C::rest,[]⟩)) (call (.ref fI) (.ref e::rest)) (fun r s'=>r= .none/\Q (.ref e) s') E ⟨h',g,d,t,os⟩) (hrest:rest.length<=sizeLine):
 wpAny (model prog w) A (call (.ref C) rest) Q E ⟨h,g,d,t,os⟩:=by
 have f1:=tc_lookup
 have f2:=tc_bind (.ref C)
 have hT:(⟨h,g,d,t,os⟩:Shared).TypeIs (.ref C) "type":=⟨_,hC,rfl⟩
 refine wpAny_call (codeAny_of_tree ?_)
 show wpAny _ _ (callAny (.ref C) _) _ _ _
 repeat (any_goals (first | assumption | with_reducible refine wpAny_loadPart_at hC ?_ | wp_step))
 refine⟨rfl, ?_⟩
 refine codeAny_call_builtin_at (Code.quiet_builtin _ (by decide +kernel)) entry_typeCall (wpAny_check_type_call_sub hC (Cp (hrest:=hrest) F T hC hn hi hfI hfc fun h' e hm=> ?_))
 exact hq h' e hm
theorem yw {M:Model}{s:Shared}{env:Env}{x:Sem Value}{Q:Flow->Shared->Prop} (hbase:bm.contains (.type "BaseException")=true) (hh:A.handled=none)
 (hx:wpAny M A x (fun v s₁=>∃e od t sl,v= .ref e/\s₁.heap.get? C=some (excClassObj nm q C N bs bm hdct sn sub ab col dd k0 k1 k2 k3 k5 newId)/\
   s₁.heap.get? e=some {cls:= .ref C,dict:=od,data:= .fields #[.ref t, .none, .none, .none, .bool false, .none],slots:=sl}/\E (.ref e) s₁) E s):
 wpAny M A (raiseStmt env (some x) none) Q E s:=by
 have hcB:(Value.ref C::bm).contains (.type "BaseException")=true:=by rw[List.contains_cons,hbase,Bool.or_true]
 unfold raiseStmt
 refine wpAny_bind (wpAny_mono hx (fun v s₁ h₁=> ?_) fun _ _ x=>x)
 obtain⟨e,od,t,sl,rfl,hC,he,hE⟩:=h₁
 obtain⟨hp,g,d,tk,os⟩:=s₁
 repeat (first | with_reducible refine wpAny_loadPart_at he ?_ | with_reducible refine wpAny_loadPart_at hC ?_ | (with_reducible refine wpAny_isSubtype_exc hC ?_;rw[hcB]) | wp_step)
 exact wpAny_raiseNew_none hh hE
end
end L2
namespace L2
open PySem PySem.Spec PyProof.Rows PySem.W
def n8 (C:Addr) (od:Option Addr) (t:Addr) (sl:Array (Option Value)):Obj:={cls:= .ref C,dict:=od,data:= .fields #[.ref t, .none, .none, .none, .bool false, .none],slots:=sl}
section
variable {prog:Program}{w:World}{A:Around}{E:Value->Shared->Prop}{h:Heap}{g:Array GenState}{d:Drawn}{t:Nat}{os:OsState}{K:PySem.W.Frag}
variable {nm q:Str}{C N x:Addr}{bs bm:List Value}{hdct:Bool}{sn:List Str}{sub:List Value}{ab:Bool}{col:Option Bool}{dd:Option Addr}{k0 k1 k2 k3 k5:Option Value}
theorem Qs {e t0:Addr}{od:Option Addr}{sl:Array (Option Value)}{v:Value}{Q:Value->Shared->Prop} (T:OwnTail h [.type "ValueError", .type "Exception", .type "BaseException", .type "object"] bm)
 (hC:h.get? C=some (excClassObj nm q C N bs bm hdct sn sub ab col dd k0 k1 k2 k3 k5 "ValueError.__new__")) (he:h.get? e=some (n8 C od t0 sl))
 (hq:∀h' t1,(∀b o,b≠e->h.get? b=some o->h'.get? b=some o)->h'.get? e=some (n8 C od t1 sl)->Q .none ⟨h',g,d,t,os⟩):
 wpAny (model prog w) A (call (.builtin "ValueError.__init__") [.ref e,v]) Q E ⟨h,g,d,t,os⟩:=by
 have F:=PySem.F.excBase_ValueError
 refine wpAny_call (codeAny_call_builtin F.init.plain F.initEntry (wpAny_check_init_subT F T hC he rfl ?_))
 unfold n8 at he
 wp_walk
 refine hq _ h.objs.size (fun b o nb hb=> ?_) ?_
 ·rw[Heap.get?_update_other _ _ (Ne.symm nb)]
  exact Heap.get?_push_of_some _ hb
 ·rw[Heap.get?_update_self _ (Heap.get?_push_of_some _ he) rfl]
  rfl
theorem Kr {self:Value}{what:Str}{bmB:List Value} (T:OwnTail h bmB bm) (hp:refuseLoop self what bmB=pure ()):refuseLoop self what bm=pure ():=by
 induction T with
 | base=>exact hp
 | own _ _ _ _ ih=>rw[refuseLoop_ref];exact ih
theorem Qt {M:Model}{o:Obj}{nameV v:Value}{Q:Unit->Shared->Prop} (T:OwnTail h [.type "ValueError", .type "Exception", .type "BaseException", .type "object"] bm)
 (hC:h.get? C=some (excClassObj nm q C N bs bm true sn sub ab col dd k0 k1 k2 k3 k5 "ValueError.__new__")) (hx:h.get? x=some o) (hc:o.cls= .ref C) (hq:Q () ⟨h,g,d,t,os⟩):
 wpAny M A (checkBuiltinCall "object.__setattr__" ⟨[.ref x,nameV,v],[]⟩) Q E ⟨h,g,d,t,os⟩:=by
 have SF:=PySem.F.store_ValueError
 have hcB:(Value.ref C::bm).contains (.type "object")=true:=by rw[List.contains_cons,T.hasType SF.hasOwner,Bool.or_true]
 have ha:=SF.args (.ref x) nameV v
 simp only[checkBuiltinCall,SF.kind,SF.split]
 refine wpAny_bind ?_
 ·unfold isInstance
  repeat (first | (with_reducible refine wpAny_loadPart_at hx ?_;rw[hc]) | (with_reducible refine wpAny_isSubtype_exc hC ?_;rw[hcB]) | wp_step)
  exact hq
theorem Ij {e t0:Addr}{tk:Tok}{sl:Array (Option Value)}{name:Str}{v:Value}{Q:Fin->Shared->Prop} (X:K.In h) (T:OwnTail h [.type "ValueError", .type "Exception", .type "BaseException", .type "object"] bm)
 (hC:h.get? C=some (excClassObj nm q C N bs bm true sn sub ab col dd k0 k1 k2 k3 k5 "ValueError.__new__")) (na:findIn K (.ref C) name=some none) (hx:h.get? e=some (n8 C none t0 sl))
 (hq:∀h' dx tk,h.get? dx=none->dx≠e->(∀b o,b≠e->h.get? b=some o->h'.get? b=some o)->h'.get? e=some (n8 C (some dx) t0 sl)->h'.Ns1 dx (fun y=>if y=name then some v else none)->Q (.done (.ret .none)) ⟨h',g,d,tk,os⟩):
 wpAny (model prog w) A (Builtin.«object.__setattr__» ⟨[.ref e, .str name tk,v],[]⟩) Q E ⟨h,g,d,t,os⟩:=by
 have hpass:refuseLoop (.ref e) "__setattr__" bm=pure ():=Kr T (PySem.F.store_ValueError.passes _)
 have LN:=looks_findIn (M:=model prog w) X na
 obtain⟨o,ho⟩:∃o,o=n8 C none t0 sl:=⟨_,rfl⟩
 rw[<-ho] at hx
 have hc:o.cls= .ref C:=by rw[ho];rfl
 have hdn:o.dict=none:=by rw[ho];rfl
 have hnc:∀c,o.data≠ .cls c:=fun c z=>by rw[ho] at z;cases z
 unfold Builtin.«object.__setattr__»
 repeat (first | rw[refuse_eq] | (rw[refuseLoop_ref,hpass]) | (with_reducible refine wpAny_loadPart_at hx ?_;rw[hc]) | with_reducible refine wpAny_mroOf_exc hC ?_ | with_reducible refine LN.at ?_ | wp_step)
 rw[hdn,if_neg (by simp[typeHasDict])]
 split
 ·rename_i hcd
  cases hcd
 split
 ·rename_i c hcd
  exact absurd hcd (hnc c)
 have hx₁:(h.push {cls:= .type "dict",data:= .dict #[]}).get? e=some o:=Heap.get?_push_of_some _ hx
 have hxs:e≠h.objs.size:=Nat.ne_of_lt (Heap.lt_size hx)
 refine wpAny_bind (wpAny_alloc' ?_)
 refine wpAny_bind (wpAny_update' hx₁ ?_)
 refine wpAny_pure ?_
 have hgd:((h.push {cls:= .type "dict",data:= .dict #[]}).update e fun o=>{cls:=o.cls,dict:=some h.objs.size,data:=o.data,slots:=o.slots}).get? h.objs.size
  =some {cls:= .type "dict",data:= .dict #[]}:=
  (Heap.get?_update_ne _ _ _ _ hxs.symm).trans (Heap.get?_push_at rfl rfl)
 have hnd:((h.push {cls:= .type "dict",data:= .dict #[]}).update e fun o=>{cls:=o.cls,dict:=some h.objs.size,data:=o.data,slots:=o.slots}).Ns h.objs.size (fun _=>none):=
  ⟨_, #[],_,hgd,rfl,fun e he=>absurd he (by simp),fun _=>rfl⟩
 show wpAny _ _ (Builtin.ObjectAttr.storeInDict h.objs.size (.str name tk) name v) _ _ _
 unfold Builtin.ObjectAttr.storeInDict Builtin.ObjectAttr.newKeyGuard
 refine wpAny_bind (wpAny_pure (wpAny_bind (wpAny_nsSet1 (Heap.Ns1.of_empty hnd) fun h' hn' hs=> ?_)))
 obtain⟨oD,esD,epD,hoD,hdD,hcD⟩:=hn'.count (Within.cons name v Within.nil)
 refine wpAny_bind (wpAny_lookBehind hoD (by rw[hdD];exact pastItsLine_dict (Nat.le_trans hcD (by rw[List.length_cons,List.length_nil,sizeLine_eq];omega))) ?_)
 wp_walk
 refine hq h' h.objs.size _ (Heap.get?_none_of_le (Nat.le_refl _)) hxs.symm (fun b ob nb hb=> ?_) ?_ hn'
 ·exact(hs.2 b (Nat.ne_of_lt (Heap.lt_size hb))).trans ((Heap.get?_update_ne _ _ _ _ nb).trans (Heap.get?_push_of_some _ hb))
 ·have:=(hs.2 e hxs).trans (Heap.get?_update_self (fun o=>{cls:=o.cls,dict:=some h.objs.size,data:=o.data,slots:=o.slots}) hx₁ (by rw[ho];rfl))
  rw[this,ho];rfl
theorem Tp {e t0:Addr}{sl:Array (Option Value)}{name:Str}{v:Value}{Q:Unit->Shared->Prop} (X:K.In h) (T:OwnTail h [.type "ValueError", .type "Exception", .type "BaseException", .type "object"] bm)
 (hC:h.get? C=some (excClassObj nm q C N bs bm true sn sub ab col dd k0 k1 k2 k3 k5 "ValueError.__new__")) (sa:findIn K (.ref C) "__setattr__"=some (some (.builtin "object.__setattr__"))) (na:findIn K (.ref C) name=some none)
 (he:h.get? e=some (n8 C none t0 sl))
 (hq:∀h' dx tk,h.get? dx=none->dx≠e->(∀b o,b≠e->h.get? b=some o->h'.get? b=some o)->h'.get? e=some (n8 C (some dx) t0 sl)->h'.Ns1 dx (fun y=>if y=name then some v else none)->Q () ⟨h',g,d,tk,os⟩):
 wpAny (model prog w) A (setAttr (.ref e) name v) Q E ⟨h,g,d,t,os⟩:=by
 have SF:=PySem.F.store_ValueError
 refine set_plain (s:=⟨h,g,d,t,os⟩) (ox:=n8 C none t0 sl) (od:=none) X ⟨he,rfl,rfl,trivial⟩ sa ?_
 exact codeAny_call_builtin SF.slot.plain SF.entry (Qt T hC he rfl (Ij X T hC na he fun h' dx tk a1 a2 a3 a4 a5=>hq h' dx tk a1 a2 a3 a4 a5))
end
end L2
namespace L2
open PySem PySem.Spec PyProof.Rows
def uQ (C:Addr) (od:Option Addr) (e:Addr):HO:= .ext fun h=>∃t sl,h.get? e=some (n8 C od t sl)
theorem Ik {P:Program}{w:World}{H:Hp}{h:Heap}{C e t:Addr}{od:Option Addr}{sl:Array (Option Value)} (he:h.get? e=some (n8 C od t sl)):dJ P w H h e (uQ C od e):=
 ⟨⟨t,sl,he⟩,⟨_,he⟩,fun _ _ ⟨t,sl,q⟩ k=>⟨t,sl,k _ q⟩⟩
structure ExI (K:PySem.W.Frag) (C fI:Addr):Prop where
 obj:∃nm q N bs bm sn sub ab col dd k0 k1 k2 k3 k5,K.lookup C=some (excClassObj nm q C N bs bm true sn sub ab col dd k0 k1 k2 k3 k5 "ValueError.__new__")/\PySem.W.nsOkIn K N=true/\PySem.W.nsIn K N "__init__"=some (some (.ref fI))/\
  PySem.W.tailIn K [.type "ValueError", .type "Exception", .type "BaseException", .type "object"] bm=true
 sa:PySem.W.findIn K (.ref C) "__setattr__"=some (some (.builtin "object.__setattr__"))
structure ExU (K:PySem.W.Frag) (M:Addr):Prop where
 sp:PySem.W.specialIn K (.ref M) "__getattribute__"=some (some (.builtin "type.__getattribute__"))
 rd:PySem.W.readsIn K M (.type "type")=true
 fc:PySem.W.findCls K (.ref M) (.type "type") "__init__"=some (.val (.builtin "ValueError.__init__"))
section
variable {X:Cx}{pins:List (Addr×Obj)}{σ:St}{H:Hp}{s:Shared}
theorem ExI.at {C fI:Addr} (cl:ExI X.K C fI) (I:Inv X pins σ H s):∃nm q N bs bm sn sub ab col dd k0 k1 k2 k3 k5,s.heap.get? C=some (excClassObj nm q C N bs bm true sn sub ab col dd k0 k1 k2 k3 k5 "ValueError.__new__")/\OwnTail s.heap [.type "ValueError", .type "Exception", .type "BaseException", .type "object"] bm:=by
 obtain⟨nm,q,N,bs,bm,sn,sub,ab,col,dd,k0,k1,k2,k3,k5,lk,_,_,tk⟩:=cl.obj
 exact⟨nm,q,N,bs,bm,sn,sub,ab,col,dd,k0,k1,k2,k3,k5,I.kIn _ _ lk,PySem.W.tail_of_in I.kIn tk⟩
def Ys (K:PySem.W.Frag) (t1 t2:TE):TE:=fun σ H Q=>t1 σ H fun x H1=>t2 σ H1 fun v H2=>∃e C fI od,x= .ref e/\H2 e=some (uQ C od e)/\ExI K C fI/\Q .non H2
theorem aa6 {M:Addr}{x:Str}{np apos cpos:Pos}{e₁ e₂:Expr}{t1 t2:TE} (cu:ExU X.K M) (hg:Gl X x) (hm:X.mg x=some (.ref M)) (h1:PE X e₁ t1) (h2:PE X e₂ t2) (hdb:(x==("__debug__":Str))=false) (m:M2 X (.Name x np) "__init__" apos e₁ e₂ cpos):
 PE X (.Call (.Attribute (.Name x np) "__init__" apos) [e₁,e₂] [] cpos) (Ys X.K t1 t2):=by
 intro pins s σ H Q I h
 have hform:methodCallForm ([e₁,e₂].length+([]:List Keyword).length) (backTo cpos (starEach [e₁,e₂] X.env)) (backToKw cpos (keywordEach [] X.env))=true:=m.few
 have hpos:methodCallPos true (.Name x np) X.env apos cpos=pure cpos:=by unfold methodCallPos;simp[m.line]
 rw[arm_eval_Call,m.base]
 refine wpAny_bind (tE I hg hm ?_ hdb)
 refine wpAny_bind (wpAny_standAt ?_)
 unfold methodCall
 rw[hform]
 refine wpAny_bind (wpAny_holding ?_)
 show wpAny _ _ (PySem.getMethod (.ref M) _ _) _ _ _
 refine PySem.W.method_cls I.kIn cu.sp (PySem.W.cls_value I.kIn cu.rd cu.fc (by decide +kernel) ?_)
 refine wpAny_bind (wpAny_of_eq hpos ?_)
 rw[m.trees]
 refine Calls.callWith_builtin rfl (Calls.evalArgs_plain (Calls.spliced_cons (thn (h1 pins _ σ H _ (I.tok _) h) fun u s1 ⟨y,H1,I1,ry,q1⟩=>Calls.spliced_cons (thn (h2 pins s1 σ H1 _ I1 q1) fun v s2 ⟨z,H2,I2,rz,e,C,fI,od,ey,ee,cl,q⟩=>Calls.spliced_nil ?_))))
 subst ey
 obtain rfl:u=Value.ref e:=ry
 obtain⟨nm,q',N,bs,bm,sn,sub,ab,col,dd,k0,k1,k2,k3,k5,hC,T⟩:=cl.at I2
 obtain⟨⟨t0,sl,he⟩,_⟩:=(show dJ X.prog X.w H2 s2.heap e (uQ C od e) from I2.hok e _ ee)
 obtain⟨hp,g,d,tk,os⟩:=s2
 refine Qs T hC he fun h' t1 kp he'=> ?_
 have I3:Inv X pins σ (upd H2 e (uQ C od e)) ⟨h',g,d,tk,os⟩:=Inv.write (s:=⟨hp,g,d,tk,os⟩) (x:=e) (e:=e) (t':=tk) I2 (by rw[ee];exact True.intro) (.inl rfl) kp ⟨_,he'⟩ (Ik he')
 have e3:upd H2 e (uQ C od e)=H2:=by
  funext z
  by_cases w:z=e
  ·rw[w,ak,ee]
  ·rw[ao w]
 rw[e3] at I3
 exact⟨.non,H2,I3,rfl,q⟩
def Yt (K:PySem.W.Frag) (ta tv:TE) (f:Str):TS:=fun D σ H=>tv σ H fun y H1=>ta σ H1 fun x H2=>∃e C fI,x= .ref e/\H2 e=some (uQ C none e)/\ExI K C fI/\PySem.W.findIn K (.ref C) f=some none/\
 ∀dx,H2 dx=none->dx≠e->D.nx σ (upd (upd H2 dx (.xd [(f,y)])) e (uQ C (some dx) e))
theorem rE {H:Hp}{a b:Addr}{u v:HO} (h:a≠b):upd (upd H a u) b v=upd (upd H b v) a u:=by
 funext z
 by_cases w:z=a
 ·subst w;rw[ao h,ak,ak]
 ·by_cases w2:z=b
  ·subst w2;rw[ak,ao w,ak]
  ·rw[ao w2,ao w,ao w,ao w2]
theorem Inv.Tq {a:Addr}{o:HO}{h':Heap}{g':Array GenState}{d':Drawn}{t' t:Nat}{g:Array GenState}{d:Drawn}{h:Heap}{os:OsState}{H':Hp} (hex:X.ex=[]) (I:Inv X pins σ H ⟨h,g,d,t,os⟩) (J:Inv X pins σ H' ⟨h',g',d',t',os⟩) (hn:h.get? a=none) (hH:H' a=none)
 (new:dJ X.prog X.w (upd H' a o) h' a o):Inv X pins σ (upd H' a o) ⟨h',g',d',t',os⟩:=by
 refine J.track hH ?_ ?_ ?_ ?_ new
 ·cases z:X.s₀.heap.get? a with
  | none=>rfl
  | some u=>
    obtain⟨o',e'⟩:=I.base.there a u z (by rw[hex];simp)
    have e':h.get? a=some o':=e'
    rw[hn] at e';cases e'
 ·rintro rfl
  obtain⟨m,⟨oL,_,_,hoL,_⟩,_⟩:=I.loc
  have hoL:h.get? _=some oL:=hoL
  rw[hn] at hoL;cases hoL
 ·rintro y c ec rfl
  obtain⟨v,u,ho,_⟩:=I.cell y _ ec
  have ho:h.get? _=some u:=ho
  rw[hn] at ho;cases ho
 ·rintro p hp rfl
  have:=(I.pin p hp).1
  have this:h.get? p.1=some p.2:=this
  rw[hn] at this;cases this
theorem Wo {o value:Expr}{f:Str}{pos pos':Pos}{ta tv:TE} (hex:X.ex=[]) (ha:PE X o ta) (hv:PE X value tv) (hs:swapsWith value (some (.Attribute o f pos')) pos.line X.env=pure false):PS X (.Assign [.Attribute o f pos'] value pos) (Yt X.K ta tv f):=by
 intro pins s σ H D I h
 refine plainObj_wpAny_Assign_Attribute (thn (hv pins s σ H _ I h) fun u s1 ⟨y,H1,I1,ry,q⟩=>thn (ha pins s1 σ H1 _ I1 q) fun ov s2 ⟨x,H2,I2,rx,e,C,fI,ex,ee,cl,nf,q2⟩=> ?_) hs
 subst ex
 obtain rfl:ov=Value.ref e:=rx
 obtain⟨nm,q',N,bs,bm,sn,sub,ab,col,dd,k0,k1,k2,k3,k5,hC,T⟩:=cl.at I2
 obtain⟨⟨t0,sl,he⟩,_⟩:=(show dJ X.prog X.w H2 s2.heap e (uQ C none e) from I2.hok e _ ee)
 have hKI:=I2.kIn
 obtain⟨hp,g,d,tk,os⟩:=s2
 refine Tp hKI T hC cl.sa nf he fun h' dx tk' dn ne kp he' hns=> ?_
 have hH:H2 dx=none:=by
  cases z:H2 dx with
  | none=>rfl
  | some v=>
    obtain⟨o,ho⟩:=(I2.hok dx v z).some
    rw[dn] at ho;cases ho
 have I3:Inv X pins σ (upd H2 e (uQ C (some dx) e)) ⟨h',g,d,tk',os⟩:=Inv.write (s:=⟨hp,g,d,tk,os⟩) (x:=e) (e:=e) (t':=tk') I2 (by rw[ee];exact True.intro) (.inl rfl) kp ⟨_,he'⟩ (Ik he')
 have I4:=Inv.Tq (o:= .xd [(f,y)]) hex I2 I3 dn (by rw[ao ne];exact hH) ⟨_,hns,fun z=>by
  by_cases w:z=f
  ·rw[w,if_pos rfl]
   show tD (List.lookup f [(f,y)]) _
   rw[List.lookup_cons,beq_self_eq_true];exact ry
  ·rw[if_neg w]
   show tD (List.lookup z [(f,y)]) _
   rw[List.lookup_cons,beq_eq_false_iff_ne.mpr w];exact True.intro⟩
 rw[rE (Ne.symm ne)] at I4
 exact⟨σ,_,I4,q2 dx hH ne⟩
end
structure Tr (P:Program) (w:World) (outer:List Env) (H:Hp) (s:Shared) (a:Addr) (cls:Value) (d:Option Addr) (H':Hp) (s':Shared):Prop where
 os:s'.os=s.os
 bare:AllBare s'.gens
 un:Un (frs outer) [] H H' s.heap s'.heap
 hok:HOk P w H' s'.heap
 free:H' a=none
 fly:∃B:Heap,xH B outer a cls d .none s'.heap/\Holds (frs outer) H' s.heap s'.heap B
def CXd (P:Program) (w:World):CXT:=fun outer H s E e s'=>∃a cls d H',e= .ref a/\Tr P w outer H s a cls d H' s'/\E cls d H'
section
variable {X:Cx}{pins:List (Addr×Obj)}{σ:St}{H H':Hp}{s s':Shared}{a:Addr}{cls:Value}{d:Option Addr}
theorem Tr.land (F:Tr X.prog X.w X.stack H s a cls d H' s') (I:Inv X pins σ H s) {B h2:Heap} (kc:Holds (frs X.stack) H' s.heap s'.heap B) (st:B.StaysIn h2) (up:s'.heap.UpToSlots h2):Inv X pins σ H' {s' with heap:=h2}:=
 I.landed F.os F.bare F.un F.hok kc st up
end
section
variable {P:Program}{w:World}{K:PySem.W.Frag}{mg:Str->Option Value}{base:Heap}{N:List Str}{qual:Str}{scope:Scope}{f:Addr}{cd:Value}{A:Around}{outer:List Env}{s₀:Shared}{H₀:Hp}{E:XK}
theorem Ot:Passes (CXd P w) (jB (CXd P w) P w K mg base N qual scope f cd A outer s₀ H₀ E) E:=by
 intro pins σ H s e s' I h
 obtain⟨a,cls,d,H',rfl,F,hE⟩:=h
 obtain⟨B,fl,kc⟩:=F.fly
 refine Qq (L:=(jB (CXd P w) P w K mg base N qual scope f cd A outer s₀ H₀ E).env.locals) I.ok.frames rfl fl fun h2 fl2 up=> ?_
 have J:=F.land I kc fl2.stays up
 exact⟨a,cls,d,H',rfl,⟨J.os,J.bare,J.base,J.hok,F.free,B,fl2,GD rfl rfl rfl I (JR (X:=(jB (CXd P w) P w K mg base N qual scope f cd A outer s₀ H₀ E)) F.un F.hok fl2.stays kc) J.free⟩,hE⟩
end
section
variable {prog:Program}{w:World}{A:Around}{E:Value->Shared->Prop}{s:Shared}{env:Env}
variable {nm q:Str}{C N:Addr}{bs bm bmB:List Value}{hdct:Bool}{sn:List Str}{sub:List Value}{ab:Bool}{col:Option Bool}{dd:Option Addr}{k0 k1 k2 k3 k5:Option Value}{B newId initId:String}
theorem Bl (F:ExcBaseFacts B newId initId bmB) {mN:Str->Option Value}{x:Str}{np cpos pos:Pos}{args:List Expr}{fI:Addr}{oI:Obj}{Q:Flow->Shared->Prop}
 (hbase:bm.contains (.type "BaseException")=true) (hh:A.handled=none) (hplain:(backTo cpos (starEach args env)).any (·.1)=false) (hi:mN "__init__"=some (.ref fI)) (hfc:oI.cls= .type "function")
 (h:wpAny (model prog w) A (eval (.Name x np) env) (fun f s₁=>f= .ref C/\wpAny (model prog w) A (evalArgs (.ref C) true (backTo cpos (starEach args env)) [])
   (fun a s₂=>a.kw=[]/\a.pos.length<=sizeLine/\s₂.heap.get? C=some (excClassObj nm q C N bs bm hdct sn sub ab col dd k0 k1 k2 k3 k5 newId)/\s₂.heap.Ns N mN/\OwnTail s₂.heap bmB bm/\s₂.heap.get? fI=some oI/\
     ∀h' e,Heap.MadeExcOf s₂.heap h' e (.ref C) a.pos->wpAny (model prog w) (A.under (.builtin "type.__call__" ⟨.ref C::a.pos,[]⟩)) (call (.ref fI) (.ref e::a.pos)) (fun r s'=>r= .none/\s'.heap.get? C=some (excClassObj nm q C N bs bm hdct sn sub ab col dd k0 k1 k2 k3 k5 newId)/\
      ∃od t sl,s'.heap.get? e=some (n8 C od t sl)/\E (.ref e) s') E {s₂ with heap:=h'}) E s₁) E s):
 wpAny (model prog w) A (exec (.Raise (some (.Call (.Name x np) args [] cpos)) none pos) env) Q E s:=by
 rw[arm_exec_Raise]
 first
  | refine wpAny_bind (wpAny_standAt (yw (C:=C) (nm:=nm) (q:=q) (N:=N) (bs:=bs) (bm:=bm) (hdct:=hdct) (sn:=sn) (sub:=sub) (ab:=ab) (col:=col) (dd:=dd) (k0:=k0) (k1:=k1) (k2:=k2) (k3:=k3) (k5:=k5) (newId:=newId) hbase hh (wpAny_bind (wpAny_mono (wpAny_Call_ofName (wpAny_mono h (fun f s₁ h₁=> ?_) fun _ _ x=>x)) (fun v s₃ h₃=>wpAny_bind (wpAny_standAt (wpAny_pure h₃))) fun _ _ x=>x))))
  | (simp only[evalOpt,Option.map];refine wpAny_bind (wpAny_standAt (yw (C:=C) (nm:=nm) (q:=q) (N:=N) (bs:=bs) (bm:=bm) (hdct:=hdct) (sn:=sn) (sub:=sub) (ab:=ab) (col:=col) (dd:=dd) (k0:=k0) (k1:=k1) (k2:=k2) (k3:=k3) (k5:=k5) (newId:=newId) hbase hh (wpAny_bind (wpAny_mono (wpAny_Call_ofName (wpAny_mono h (fun f s₁ h₁=> ?_) fun _ _ x=>x)) (fun v s₃ h₃=>wpAny_bind (wpAny_standAt (wpAny_pure h₃))) fun _ _ x=>x)))))
  | (refine wpAny_bind (wpAny_standAt (yw (C:=C) (nm:=nm) (q:=q) (N:=N) (bs:=bs) (bm:=bm) (hdct:=hdct) (sn:=sn) (sub:=sub) (ab:=ab) (col:=col) (dd:=dd) (k0:=k0) (k1:=k1) (k2:=k2) (k3:=k3) (k5:=k5) (newId:=newId) hbase hh ?_));refine wpAny_bind (wpAny_mono (wpAny_Call_ofName (wpAny_mono h (fun f s₁ h₁=> ?_) fun _ _ x=>x)) (fun v s₃ h₃=>wpAny_bind (wpAny_standAt (wpAny_pure h₃))) fun _ _ x=>x))
 obtain⟨rfl,h₁⟩:=h₁
 unfold callWith
 refine wpAny_bind (wpAny_holding (wpAny_mono h₁ (fun a s₂ h₂=>wpAny_bind (wpAny_standAt ?_)) fun _ _ x=>x))
 obtain⟨apos,akw⟩:=a
 obtain⟨hkw,hlen,hC,hn,T,hfI,h₂⟩:=h₂
 obtain rfl:akw=[]:=hkw
 obtain⟨hp,g,d,tk,os⟩:=s₂
 simp only[hplain]
 refine wpAny_bind (wpAny_keeperOf_exc hC ?_)
 refine wpAny_bind (Ex (hrest:=hlen) F T hC hn hi hfI hfc fun h' e hm=>wpAny_mono (h₂ h' e hm) (fun r s' hr=> ?_) fun _ _ x=>x)
 obtain⟨rfl,hC',od,t,sl,he,hE⟩:=hr
 refine⟨rfl,wpAny_bind (wpAny_holding (wpAny_point (wpAny_pure ?_)))⟩
 exact⟨e,od,t,sl,rfl,hC',he,hE⟩
end
theorem MK {K:PySem.W.Frag}{h:Heap}{N:Addr}{mg:Str->Option Value}{n:Str}{v:Value} (X:K.In h) (G:h.Ns N mg) (e:PySem.W.nsIn K N n=some (some v)):mg n=some v:=by
 obtain⟨o,es,ep,ho,hd,_,hf⟩:=G
 unfold PySem.W.nsIn at e
 split at e
 ·rename_i c d es' n' sl q
  have:=X _ _ q
  rw[ho] at this
  cases this
  cases hd
  split at e
  ·rename_i e0 he
   cases e
   rw[<-hf]
   unfold nsFind findBy
   rw[<-Array.find?_toList,he]
   rfl
  ·split at e<;>cases e
 ·cases e
section
variable {P:Program}{w:World}{K:PySem.W.Frag}{mg:Str->Option Value}{base:Heap}{N:List Str}{qual:Str}{scope:Scope}{f:Addr}{cd:Value}{A:Around}{outer:List Env}{s₀:Shared}{H₀:Hp}{E:XK}
def Ou (C:Addr) (sp:Sp) (E:XK) (t:TA):TS:=fun _ σ H=>t σ H fun vs H1=>vs.length<=sizeLine/\∀e,H1 e=none->
 sp (.ref e::vs) (upd H1 e (uQ C none e)) (fun v H2=>v= .non/\∃dx H3,H2=upd H3 e (uQ C (some dx) e)/\H3 e=none/\E (.ref C) (some dx) H3) (fun _ _ _=>False)
theorem Qu {k:Nat}{x:Str}{np cpos pos:Pos}{e₀:Expr}{es:List Expr}{t:TA}{C fI:Addr}{fd:FuncData}{ps:List Str}{sp:Sp} (cl:ExI K C fI) (F:aY P w K mg base CX0 k fI fd ps sp) (hr:iQ (k+1) (jB (CXd P w) P w K mg base N qual scope f cd A outer s₀ H₀ E).A) (hfn:PySem.W.isFn K (.ref fI)=true) (hb:Binds K fd ps [])
 (hg:Gl (jB (CXd P w) P w K mg base N qual scope f cd A outer s₀ H₀ E) x) (hm:mg x=some (.ref C))
 (ha:PA (jB (CXd P w) P w K mg base N qual scope f cd A outer s₀ H₀ E) (e₀::es) t) (hdb:(x==("__debug__":Str))=false:=by decide)
 (he:starEach (e₀::es) (jB (CXd P w) P w K mg base N qual scope f cd A outer s₀ H₀ E).env=(false,eval e₀ (jB (CXd P w) P w K mg base N qual scope f cd A outer s₀ H₀ E).env)::starEach es (jB (CXd P w) P w K mg base N qual scope f cd A outer s₀ H₀ E).env:=by rfl)
 (hpl:(backTo cpos (starEach es (jB (CXd P w) P w K mg base N qual scope f cd A outer s₀ H₀ E).env)).any (·.1)=false:=by rfl):
 PS (jB (CXd P w) P w K mg base N qual scope f cd A outer s₀ H₀ E) (.Raise (some (.Call (.Name x np) (e₀::es) [] cpos)) none pos) (Ou C sp E t):=by
 intro pins s σ H D I h
 obtain⟨nm,q,N',bs,bm,sn,sub,ab,col,dd,k0,k1,k2,k3,k5,lk,nk,ik,tk⟩:=cl.obj
 have XB:K.In base:=I.mod.kin
 have hN:base.Ns N' (base.nsMap N'):= .of_isNs (PySem.W.isNs_of_in XB nk)
 have T:OwnTail base [.type "ValueError", .type "Exception", .type "BaseException", .type "object"] bm:=PySem.W.tail_of_in XB tk
 obtain⟨oI,hoI,hfc⟩:∃oI,base.get? fI=some oI/\oI.cls= .type "function":=by
  obtain⟨o,ho,hc⟩:=Option.map_eq_some_iff.mp (show(K.lookup fI).map (·.cls)=some (.type "function") from beq_iff_eq.mp hfn)
  exact⟨o,XB _ _ ho,hc⟩
 have hi:base.nsMap N' "__init__"=some (.ref fI):=MK XB hN ik
 refine Bl (nm:=nm) (q:=q) (N:=N') (bs:=bs) (bm:=bm) (hdct:=true) (sn:=sn) (sub:=sub) (ab:=ab) (col:=col) (dd:=dd) (k0:=k0) (k1:=k1) (k2:=k2) (k3:=k3) (k5:=k5) (oI:=oI) PySem.F.excBase_ValueError (mN:=base.nsMap N') (T.hasType PySem.F.excBase_ValueError.hasBase) (I.ok.hd rfl)
  (by rw[he];show(false||(backTo cpos (starEach es _)).any (·.1))=false;rw[hpl];rfl) hi hfc (tE I hg hm ⟨rfl, ?_⟩ hdb)
 have ha':=ha cpos pins s σ H _ I h
 rw[he] at ha' ⊢
 refine Calls.evalArgs_plain (thn ha' fun us s2 ⟨vs,H1,I1,r,hz,hE⟩=>⟨rfl,by rw[<-r.length];exact hz,I1.bk _ _ (XB _ _ lk),hN.keeps I1.bk,T.keeps I1.bk,I1.bk _ _ hoI,fun h' e hx=> ?_⟩)
 have fre:H1 e=none:=by
  cases z:H1 e with
  | none=>rfl
  | some v=>
    obtain⟨o,ho⟩:=(I1.hok e v z).some
    rw[hx.new] at ho;cases ho
 obtain⟨t0,het,_⟩:=hx.there
 obtain⟨hp,g,d,tk',os⟩:=s2
 have I2:Inv (jB (CXd P w) P w K mg base N qual scope f cd A outer s₀ H₀ E) pins σ H1 ⟨h',g,d,tk',os⟩:=Inv.un (s:=⟨hp,g,d,tk',os⟩) (t':=tk') I1 (Un.kept hx.keeps) (I1.hok.kept hx.keeps)
 have I3:=Inv.Tq (o:=uQ C none e) rfl I1 I2 hx.new fre (Ik het)
 have hq:=hE e fre
 have r2:Vals (V.ref e::vs) (Value.ref e::us):= .cons rfl r
 have hl:(Value.ref e::us++[]).length=ps.length:=by
  have e':=r2.length
  rw[F.len _ _ _ _ hq] at e'
  rw[List.append_nil];exact e'.symm
 have hbt:=hb _ (Value.ref e::us) I3.kIn hl
 rw[List.append_nil] at hbt
 refine wpAny_call (codeAny_mono (F.run _ (jB (CXd P w) P w K mg base N qual scope f cd A outer s₀ H₀ E).stack _ _ ⟨Value.ref e::us,[]⟩ (Value.ref e::us) _ _ _ (hr.make C us []) (I3.env0.make C us []) hbt r2 hq) fun rr s' hq'=> ?_)
 cases rr with
 | error e=>exact hq'.elim
 | ok fl=>
   cases fl with
   | next=>exact hq'.elim
   | brk=>exact hq'.elim
   | cont=>exact hq'.elim
   | ret u=>
     obtain⟨v,H2,os',bare',un',hok',rv,ev,dx,H3,eH,e3,q3⟩:=id hq'
     obtain⟨_,_,I4,_⟩:=I3.after hq'
     subst ev
     subst eH
     obtain rfl:u=Value.none:=rv
     obtain⟨⟨t1,sl1,he1⟩,_⟩:=(show dJ P w _ s'.heap e (uQ C (some dx) e) from hok' e _ ak)
     refine⟨rfl,I4.bk _ _ (XB _ _ lk),some dx,t1,sl1,he1, ?_⟩
     have hne:∀{b o},hp.get? b=some o->b≠e:=fun q z=>by rw[z] at q;have:=hx.new;rw[show(⟨hp,g,d,tk',os⟩:Shared).heap.get? e=hp.get? e from rfl] at this;rw[this] at q;cases q
     have un:Un (frs (jB (CXd P w) P w K mg base N qual scope f cd A outer s₀ H₀ E).stack) [] H1 H3 hp s'.heap:=
      {keep:=fun b o q n hb hx'=>un'.keep b o (hx.keeps b o q) (by rw[ao (hne q)];exact n) hb hx'
       slot:=fun b o q n hb hx'=>un'.slot b o (hx.keeps b o q) (by rw[ao (hne q)];exact n) hb hx'
       free:=fun b o q n hx'=>by
        have:=un'.free b o (hx.keeps b o q) (by rw[ao (hne q)];exact n) hx'
        rwa [ao (hne q)] at this
       there:=fun b o q hx'=>un'.there b o (hx.keeps b o q) hx'
       tups:=fun b xs q=>by
        have nb:b≠e:=fun z=>by rw[z,fre] at q;cases q
        have:=un'.tups b xs (by rw[ao nb];exact q)
        rwa [ao nb] at this
       frzs:=fun b o u q=>by
        have nb:b≠e:=fun z=>by rw[z,fre] at q;cases q
        have:=un'.frzs b o u (by rw[ao nb];exact q)
        rwa [ao nb] at this
       tbls:=fun b ps q=>by
        have nb:b≠e:=fun z=>by rw[z,fre] at q;cases q
        obtain⟨m,this⟩:=un'.tbls b ps (by rw[ao nb];exact q)
        exact⟨m,by rwa [ao nb] at this⟩}
     have hok:HOk P w H3 s'.heap:=fun b u q=>by
      have nb:b≠e:=fun z=>by rw[z,e3] at q;cases q
      refine(hok' b u (by rw[ao nb];exact q)).stay (fun c v _ r=>r) (fun c r=> ?_) fun c xs r=> ?_
      ·by_cases z:c=e
       ·rw[z,ak] at r;cases r
       ·rwa [ao z] at r
      ·by_cases z:c=e
       ·rw[z,ak] at r;cases r
       ·rwa [ao z] at r
     have hin:∀env∈(jB (CXd P w) P w K mg base N qual scope f cd A outer s₀ H₀ E).stack,∀b,env.frame=some b->b∈e::frs (jB (CXd P w) P w K mg base N qual scope f cd A outer s₀ H₀ E).stack:=fun env hen b hb=>List.mem_cons_of_mem _ (List.mem_filterMap.mpr ⟨env,hen,hb⟩)
     refine MJ (base:=PySem.W.hideAll s'.heap (e::frs (jB (CXd P w) P w K mg base N qual scope f cd A outer s₀ H₀ E).stack)) (L:=(jB (CXd P w) P w K mg base N qual scope f cd A outer s₀ H₀ E).env.locals) (c:= .ref C) (d:=some dx) I4.ok.frames
      (PySem.W.funFrames_hide I4.stack hin) rfl he1 (fun b o z=>PySem.W.of_hideAll _ z) (PySem.W.hideAll_none _ (List.mem_cons_self ..)) rfl rfl ⟨rfl,rfl⟩ fun h2 fl up=> ?_
     have kc:Holds (frs (jB (CXd P w) P w K mg base N qual scope f cd A outer s₀ H₀ E).stack) H3 hp s'.heap (PySem.W.hideAll s'.heap (e::frs (jB (CXd P w) P w K mg base N qual scope f cd A outer s₀ H₀ E).stack)):=fun b o q nb hb=>by
      refine PySem.W.hideAll_get _ q fun z=> ?_
      rcases List.mem_cons.mp z with z | z
      ·rcases hb with⟨o0,z0⟩ | z0
       ·exact hne z0 z
       ·rw[z,e3] at z0;cases z0
      ·exact nb z
     have J:=I1.landed (s':=s') os' bare' un hok kc fl.stays up
     exact⟨e, .ref C,some dx,H3,rfl,⟨J.os,J.bare,J.base,J.hok,e3,_,fl,GD rfl rfl rfl I1 (JR (X:=jB (CXd P w) P w K mg base N qual scope f cd A outer s₀ H₀ E) un hok fl.stays kc) J.free⟩,q3⟩
end
section
variable {X:Cx}{x n:Str}{i:Nat}{C:Addr}{np hpos pos:Pos}{body suite:List Stmt}{b₀:Stmt}{tb:(St->XK)->TS}{th:TS}
end
section
variable {X:Cx}
theorem Tt {M:Addr}{x:Str}{np apos cpos:Pos}{e₁ e₂:Expr}{t1 t2:TE} (cu:ExU X.K M) (hg:Gl X x) (hm:X.mg x=some (.ref M)) (h1:QE X e₁ t1) (h2:QE X e₂ t2) (hdb:(x==("__debug__":Str))=false) (m:M2 X (.Name x np) "__init__" apos e₁ e₂ cpos):
 QE X (.Call (.Attribute (.Name x np) "__init__" apos) [e₁,e₂] [] cpos) (Ys X.K t1 t2):=⟨aa6 cu hg hm h1.h h2.h hdb m⟩
theorem Ov {o value:Expr}{f:Str}{pos pos':Pos}{ta tv:TE} (hex:X.ex=[]) (ha:QE X o ta) (hv:QE X value tv) (hs:swapsWith value (some (.Attribute o f pos')) pos.line X.env=pure false):QS X (.Assign [.Attribute o f pos'] value pos) (Yt X.K ta tv f):=⟨Wo hex ha.h hv.h hs⟩
end
section
variable {P:Program}{w:World}{K:PySem.W.Frag}{mg:Str->Option Value}{base:Heap}{N:List Str}{qual:Str}{scope:Scope}{f:Addr}{cd:Value}{A:Around}{outer:List Env}{s₀:Shared}{H₀:Hp}{E:XK}
theorem G6 {k:Nat}{x:Str}{np cpos pos:Pos}{e₀:Expr}{es:List Expr}{t:TA}{C fI:Addr}{fd:FuncData}{ps:List Str}{sp:Sp} (cl:ExI K C fI) (F:aY P w K mg base CX0 k fI fd ps sp) (hr:iQ (k+1) (jB (CXd P w) P w K mg base N qual scope f cd A outer s₀ H₀ E).A) (hfn:PySem.W.isFn K (.ref fI)=true) (hb:Binds K fd ps [])
 (hg:Gl (jB (CXd P w) P w K mg base N qual scope f cd A outer s₀ H₀ E) x) (hm:mg x=some (.ref C))
 (ha:QA (jB (CXd P w) P w K mg base N qual scope f cd A outer s₀ H₀ E) (e₀::es) t) (hdb:(x==("__debug__":Str))=false)
 (he:starEach (e₀::es) (jB (CXd P w) P w K mg base N qual scope f cd A outer s₀ H₀ E).env=(false,eval e₀ (jB (CXd P w) P w K mg base N qual scope f cd A outer s₀ H₀ E).env)::starEach es (jB (CXd P w) P w K mg base N qual scope f cd A outer s₀ H₀ E).env:=by rfl)
 (hpl:(backTo cpos (starEach es (jB (CXd P w) P w K mg base N qual scope f cd A outer s₀ H₀ E).env)).any (·.1)=false:=by rfl):
 QS (jB (CXd P w) P w K mg base N qual scope f cd A outer s₀ H₀ E) (.Raise (some (.Call (.Name x np) (e₀::es) [] cpos)) none pos) (Ou C sp E t):=⟨Qu cl F hr hfn hb hg hm ha.h hdb he hpl⟩
end
theorem Fun.okD {P:Program}{w:World}{K:PySem.W.Frag}{mg:Str->Option Value}{base:Heap}{x qual:Str}{st:Stmt}{f:Addr}{fd:FuncData}{N ps:List Str}{k:Nat}{sp:Sp} (F:Fun K x qual st f fd) (S:bL N ps (aa st)) (len:∀vs H Q E,sp vs H Q E->vs.length=ps.length)
 (hbody:∀(cdv:Value) (A:Around) (outer:List Env) (s:Shared) (H:Hp) (vs:List V) (Q:VK) (E:XK),iQ k (A.deeper (envOfC qual (aa st) s.heap.objs.size f cdv))->sp vs H Q E->
   ∃t,QSs (jB (CXd P w) P w K mg base N qual (aa st) f cdv A outer s H E) (bh st) t/\t {nx:=fun _ H'=>Q .non H',rt:=Q} (start N vs) H):aY P w K mg base (CXd P w) (k+1) f fd ps sp:=by
 obtain⟨oc,od,kV,doc,pm,an,cdv,ct,osl,rfl,lk,hcd⟩:=F.ex
 refine X7 lk hcd S len fun A outer s H vs Q E hr hsp=> ?_
 obtain⟨t,h,q⟩:=hbody cdv A outer s H vs Q E hr hsp
 exact⟨t,h.h,q⟩
section
variable {X:Cx}
theorem Tu {e:Expr}{y:Str}{k:Nat}{p p2 pos:Pos}{ta:TE} (ha:PE X e ta) (hy:y.length<=1000):PE X (.JoinedStr [.Constant (.str y) k p2, .FormattedValue e 114 none p] pos) (tFr ta):=by
 intro pins s σ H Q I h
 refine wpAny_JoinedStr ?_
 show wpAny _ _ (eval (.Constant (.str y) k p2) X.env) _ _ _
 refine thn (QV (X:=X) pins s σ H (fun v H2=>v= .str y/\H2=H) I ⟨rfl,rfl⟩) fun u2 s2 ⟨v2,H2,I2,r2,e2,e3⟩=> ?_
 subst e2 e3
 obtain⟨t2,rfl⟩:=r2
 have e1:(Str.empty++y).length=y.length:=by rw[PySem.strLen_append];show 0+_=_;omega
 refine⟨y,t2,rfl,by rw[e1,sizeLine_eq];omega, ?_⟩
 show wpAny _ _ (eval (.FormattedValue e 114 none p) X.env) _ _ _
 refine wpAny_FormattedValue_repr (thn (ha pins s2 σ H2 _ I2 h) fun u s1 ⟨v,H1,I1,r,q⟩=> ?_)
 obtain⟨z,rfl,hz,hc,q⟩:=q
 obtain⟨t,rfl⟩:=r
 have hl:=PySem.StrLaws.reprText_len z hc
 have hz1:(PySem.reprText z).length<=sizeLine:=by rw[sizeLine_eq];omega
 refine wpAny_pyReprObj_str ?_ hz1
 have hlen:(Str.empty++y++PySem.reprText z).length<=11012:=by rw[PySem.strLen_append,e1];omega
 have fin:∀tk tk',∃y' t',(Value.str (PySem.reprText z) tk)= .str y' t'/\(Str.empty++y++y').length<=sizeLine/\Joins (model X.prog X.w) X.A X.xe [] (Str.empty++y++y') (fun out s₁=>out.length<=sizeLine/\EP X pins σ Q (.str out s₁.toks) {s₁ with toks:=s₁.toks+1}) {s1 with toks:=tk'}:=fun tk tk'=>by
  refine⟨_,_,rfl,by rw[sizeLine_eq];omega,by rw[sizeLine_eq];omega, ?_⟩
  exact⟨.str _,H1,I1.tok _,⟨_,rfl⟩,q _ (by omega)⟩
 exact wpAny_formatField_str (fin _ _) (fin _ _) hz1
theorem Tv {e:Expr}{y:Str}{k:Nat}{p p2 pos:Pos}{ta:TE} (ha:QE X e ta) (hy:y.length<=1000):QE X (.JoinedStr [.Constant (.str y) k p2, .FormattedValue e 114 none p] pos) (tFr ta):=⟨Tu ha.h hy⟩
end
end L2
namespace RB
open PySem L2 PySem.Spec PyProof.Rows
inductive Er where
 | no (x:Str)
 | ring (zs:List Str)
def gG (p:List Str) (z:Str):List Str:=p.reverse.drop (p.reverse.idxOf z)++[z]
def kh (gv:Kn) (rc:Rn):Ms->Option Er
 | ([],_,_)=>none
 | (y::p,kn,_)=>match kn y with
   | some _=>none
   | none=>match gv y with
     | some _=>none
     | none=>match rc y with
       | none=>some (.no y)
       | some r=>match ev kn r with
         | .inr _=>none
         | .inl z=>if z∈y::p then some (.ring (gG (y::p) z)) else none
def Tw (y:Str):Prop:=y.length<=1000/\∀c∈y.cps.toList,c<16 ^ 8
def Yu (gv:Kn) (rc:Rn):Ms->Prop
 | (p,kn,_)=>∀y,p.head?=some y->kn y=none->gv y=none->(∀r,rc y=some r->r.Fn kn)/\(rc y=none->Tw y)
def jJ (gv:Kn) (rc:Rn) (s t:Ms):Prop:=∃k,itM gv rc k s=some t/\∀j,j<k->∀u,itM gv rc j s=some u->kh gv rc u=none
theorem jJ.mvs {gv:Kn}{rc:Rn}{s t:Ms} (h:jJ gv rc s t):Mvs gv rc s t:=let ⟨k,e,_⟩:=h;⟨k,e⟩
theorem jJ.refl {gv:Kn}{rc:Rn} (s:Ms):jJ gv rc s s:=⟨0,rfl,fun j h=>absurd h (by omega)⟩
theorem vH {gv:Kn}{rc:Rn}:∀(k j:Nat) {s t:Ms},itM gv rc k s=some t->itM gv rc (k+j) s=itM gv rc j t
 | 0,j,s,t,h=>by cases h;rw[Nat.zero_add]
 | k+1,j,s,t,h=>by
   rw[Nat.succ_add]
   have h:(match mv gv rc s with | none=>none | some t=>itM gv rc k t)=some t:=h
   show(match mv gv rc s with | none=>none | some t=>itM gv rc (k+j) t)=itM gv rc j t
   cases z:mv gv rc s with
   | none=>rw[z] at h;cases h
   | some u=>rw[z] at h;exact vH k j h
theorem Wq {gv:Kn}{rc:Rn}{s t:Ms} (h:mv gv rc s=some t):itM gv rc 1 s=some t:=by unfold itM;rw[h];rfl
theorem jJ.snoc {gv:Kn}{rc:Rn}{s t u:Ms} (h:jJ gv rc s t) (he:kh gv rc t=none) (hm:mv gv rc t=some u):jJ gv rc s u:=by
 obtain⟨k,e,n⟩:=h
 refine⟨k+1,by rw[vH k 1 e];exact Wq hm,fun j hj w hw=> ?_⟩
 by_cases z:j<k
 ·exact n j z w hw
 ·have:j=k:=by omega
  rw[this,e] at hw;cases hw;exact he
theorem jJ.trans {gv:Kn}{rc:Rn}{s t u:Ms} (h:jJ gv rc s t) (g:jJ gv rc t u):jJ gv rc s u:=by
 obtain⟨k,e,n⟩:=h
 obtain⟨k2,e2,n2⟩:=g
 refine⟨k+k2,by rw[vH k k2 e];exact e2,fun j hj w hw=> ?_⟩
 by_cases z:j<k
 ·exact n j z w hw
 ·obtain⟨d,rfl⟩:∃d,j=k+d:=⟨j - k,by omega⟩
  rw[vH k d e] at hw
  exact n2 d (by omega) w hw
theorem jJ.errs {gv:Kn}{rc:Rn}{s t t':Ms}{e:Er} (h:jJ gv rc s t) (he:kh gv rc t=some e) (h':jJ gv rc s t') (hend:kh gv rc t'≠none\/t'.1=[]):t=t':=by
 obtain⟨k,e1,n1⟩:=h
 obtain⟨k',e2,n2⟩:=h'
 rcases Nat.lt_trichotomy k k' with z | z | z
 ·have:=n2 k z t e1;rw[he] at this;cases this
 ·subst z;rw[e1] at e2;exact Option.some.inj e2
 ·rcases hend with w | w
  ·exact absurd (n1 k' z t' e2) w
  ·obtain⟨d,rfl⟩:∃d,k=k'+(d+1):=⟨k - k' - 1,by omega⟩
   rw[vH k' (d+1) e2] at e1
   obtain⟨p,c⟩:=t'
   obtain⟨kn,od⟩:=c
   have w:p=[]:=w
   subst w
   unfold itM at e1
   rw[aaX] at e1;cases e1
def jX (gv:Kn) (rc:Rn):List Str->Kn×List Str->Kn×List Str->Prop
 |[],a,b=>a=b
 | x::ws,a,b=>∃c,jJ gv rc ([x],a) ([],c)/\jX gv rc ws c b
theorem jX.snoc {gv:Kn}{rc:Rn}:∀{ws:List Str}{x:Str}{a b c:Kn×List Str},jX gv rc ws a b->jJ gv rc ([x],b) ([],c)->jX gv rc (ws++[x]) a c
 |[],x,a,b,c,h,g=>by cases h;exact⟨c,g,rfl⟩
 | y::ws,x,a,b,c,⟨d,h,h2⟩,g=>⟨d,h,jX.snoc h2 g⟩
theorem jX.runs {gv:Kn}{rc:Rn}:∀{ws:List Str}{a b:Kn×List Str},jX gv rc ws a b->Runs gv rc ws a b
 |[],a,b,h=>h
 | y::ws,a,b,⟨d,h,h2⟩=>⟨d,h.mvs,jX.runs h2⟩
theorem aa7 {gv:Kn}{rc:Rn}{y:Str}{p:List Str}{kn:Kn}{od:List Str} (h1:kn y=none) (h2:gv y=none) (h3:rc y=none):kh gv rc (y::p,kn,od)=some (.no y):=by
 unfold kh;simp only[h1,h2,h3]
theorem Ks {gv:Kn}{rc:Rn}{y z:Str}{r:R}{p:List Str}{kn:Kn}{od:List Str} (h1:kn y=none) (h2:gv y=none) (h3:rc y=some r) (h4:ev kn r= .inl z) (h5:z∈y::p):kh gv rc (y::p,kn,od)=some (.ring (gG (y::p) z)):=by
 unfold kh;simp only[h1,h2,h3,h4,if_pos h5]
theorem xu {gv:Kn}{rc:Rn}{y:Str}{v:Int}{p:List Str}{kn:Kn}{od:List Str} (h1:kn y=some v):kh gv rc (y::p,kn,od)=none:=by
 unfold kh;simp only[h1]
theorem xx {gv:Kn}{rc:Rn}{y:Str}{v:Int}{p:List Str}{kn:Kn}{od:List Str} (h1:gv y=some v):kh gv rc (y::p,kn,od)=none:=by
 unfold kh
 cases z:kn y with
 | some _=>simp only[z]
 | none=>simp only[z,h1]
theorem Il {gv:Kn}{rc:Rn}{y:Str}{r:R}{v:Int}{p:List Str}{kn:Kn}{od:List Str} (h2:gv y=none) (h3:rc y=some r) (h4:ev kn r= .inr v):kh gv rc (y::p,kn,od)=none:=by
 unfold kh
 cases z:kn y with
 | some _=>simp only[z]
 | none=>simp only[z,h2,h3,h4]
theorem Ey {gv:Kn}{rc:Rn}{y z:Str}{r:R}{p:List Str}{kn:Kn}{od:List Str} (h2:gv y=none) (h3:rc y=some r) (h4:ev kn r= .inl z) (h5:z∉y::p):kh gv rc (y::p,kn,od)=none:=by
 unfold kh
 cases w:kn y with
 | some _=>simp only[w]
 | none=>simp only[w,h2,h3,h4,if_neg h5]
def Qv (CNo CRi:Addr) (e:Er) (cls:Value) (d:Option Addr) (H:Hp):Prop:=match e with
 | .no y=>cls= .ref CNo/\∃dx,d=some dx/\H dx=some (.xd [("name", .str y)])
 | .ring zs=>cls= .ref CRi/\∃dx l,d=some dx/\H dx=some (.xd [("ring", .ref l)])/\H l=some (.lst (zs.map V.str))
theorem G7 {ns:List Str}{z:Str} (h:z∈ns):ns[ns.idxOf z]? =some z/\∀k,k<ns.idxOf z->ns[k]? ≠some z:=by
 have hl:=List.idxOf_lt_length_iff.mpr h
 refine⟨by rw[List.getElem?_eq_getElem hl];exact congrArg some (List.getElem_idxOf hl),fun k hk e=> ?_⟩
 obtain⟨hkl,e⟩:=List.getElem?_eq_some_iff.mp e
 have:=List.not_of_lt_findIdx (p:=(· ==z)) (xs:=ns) (i:=k) hk
 rw[e] at this
 simp at this
def Yv (C:Addr):Sp:=fun vs H Q _=>∃(e:Addr) (y:Str),vs=[.ref e, .str y]/\H e=some (uQ C none e)/\Tw y/\∀dx,H dx=none->dx≠e->Q .non (upd (upd H dx (.xd [("name", .str y)])) e (uQ C (some dx) e))
def Yw (C:Addr):Sp:=fun vs H Q _=>∃(e l:Addr) (xs:List V),vs=[.ref e, .ref l]/\H e=some (uQ C none e)/\H l=some (.lst xs)/\xs.length<=1000/\
 ∀l' dx,H l'=none->upd H l' (.lst xs) dx=none->dx≠e->Q .non (upd (upd (upd H l' (.lst xs)) dx (.xd [("ring", .ref l')])) e (uQ C (some dx) e))
def Ku (CSe CN CS CR CNo CRi:Addr):Sp:=fun vs H Q E=>∃(D:SrD) (gs cs:List Str) (gv:Kn) (rc:Rn) (kg kc kr:List (Key×V)) (rm:Rm) (y:Str),vs=[.ref D.so, .str y]/\FQ CSe CN D gs cs gv rc kg kc kr rm H/\
 (∀r,rc y=some r->∀(A:SeD) H',aN H H'->(∀z∈A.ft,H z=none)->(∀kn,tV CS CR kr rm y r kn A H')->Q (.ref A.s) H')/\
 (rc y=none->Tw y/\∀cls d H',aN H H'->Qv CNo CRi (.no y) cls d H'->E cls d H')
def G8 (CSe CN CNo CRi:Addr):Sp:=fun vs H Q E=>∃(H0:Hp) (D:SrD) (gs cs:List Str) (gv:Kn) (rc:Rn) (kg kc kr:List (Key×V)) (rm:Rm) (kn:Kn) (rmN:Rm) (rkn:Str->Bool) (od:List Str) (Hf:Hp) (x:Str),vs=[.ref D.so, .str x]/\FQ CSe CN D gs cs gv rc kg kc kr rm Hf/\jV H0 D gv rc rm kn rmN rkn od Hf H/\(∀t,jJ gv rc ([x],kn,od) t->Yu gv rc t)/\
 (∀(kn':Kn) (Kl:Rm) (rkn':Str->Bool) (od':List Str) (Hf' H':Hp),But [D.kd,D.sd,D.rd] H H'->aN Hf Hf'->(∀z,Mu H z->Hf z=none->Hf' z=none)->jV H0 D gv rc rm kn' Kl rkn' od' Hf' H'->jJ gv rc ([x],kn,od) ([],kn',od')->Kn.Le kn kn'->kn' x≠none->(∀y,kn' y≠none->kn y≠none\/Rch gv rc kn' x y)->Q .non H')/\
 (∀t e cls d H',jJ gv rc ([x],kn,od) t->kh gv rc t=some e->But [D.kd,D.sd,D.rd] H H'->Qv CNo CRi e cls d H'->E cls d H')
def G9 (gv:Kn) (rc:Rn) (ws:List Str) (a:Kn×List Str) (e:Er):Prop:=∃(i:Nat) (x:Str) (b:Kn×List Str) (t:Ms),ws[i]? =some x/\jX gv rc (ws.take i) a b/\jJ gv rc ([x],b) t/\kh gv rc t=some e
def vI (gv:Kn) (rc:Rn) (ws:List Str) (a:Kn×List Str):Prop:=∀(i:Nat) (x:Str) (b:Kn×List Str) (t:Ms),ws[i]? =some x->jX gv rc (ws.take i) a b->jJ gv rc ([x],b) t->Yu gv rc t
def vJ (CSe CN CNo CRi:Addr):Sp:=fun vs H Q E=>∃(h g c o dxo rcd wl:Addr) (gs cs:List Str) (gv:Kn) (rc:Rn) (kg kc kr:List (Key×V)) (rm:Rm) (ws:List Str),vs=[.ref h, .ref o, .ref wl]/\H h=some (.tup [.ref g, .ref c])/\H g=some (.dK kg)/\H c=some (.dK kc)/\Bk H kg kc gs cs gv rc/\H o=some (.ins CN dxo (nrF rcd))/\H rcd=some (.dK kr)/\j9 H kr rm/\RmF gv rc rm/\H wl=some (.lst (ws.map V.str))/\vI gv rc ws (kn0,[])/\
 (∀(D:SrD) (kn:Kn) (rmN:Rm) (rkn:Str->Bool) (od:List Str) (Hf H':Hp),aN H H'->aN H Hf->FQ CSe CN D gs cs gv rc kg kc kr rm Hf->jV H D gv rc rm kn rmN rkn od Hf H'->jX gv rc ws (kn0,[]) (kn,od)->H D.kd=none->H D.sd=none->H D.rd=none->(∀x∈ws,kn x≠none)->(∀y,kn y≠none->∃x∈ws,Rch gv rc kn x y)->Q (.ref D.so) H')/\
 (∀e cls d H',G9 gv rc ws (kn0,[]) e->aN H H'->Qv CNo CRi e cls d H'->E cls d H')
def Kv (CNo CRi:Addr):Sp:=fun vs H Q E=>∃(h g c wl:Addr) (gs cs:List Str) (gv:Kn) (rc:Rn) (ws:List Str),vs=[.ref h, .ref wl]/\pL H h g c gs cs gv rc/\H wl=some (.lst (ws.map V.str))/\vI gv rc ws (kn0,[])/\
 (∀(t kd sd l:Addr) (kw ks:List (Key×V)) (wn sn:List Str) (kn:Kn) (rmN:Rm) (H':Hp),aN H H'->H' t=some (.tup [.ref kd, .ref sd, .ref l])->H t=none->H kd=none->H sd=none->H l=none->kd≠sd->H' kd=some (.dK kw)->iz kw wn->wn.length<=60->(∀x,cI kw (.inr x)=(kn x).map V.int)->H' sd=some (.dK ks)->iz ks sn->RecM H H' ks rmN->H' l=some (.lst (sn.map V.str))->SN gv rc (fun _=>none) ws kn rmN (fun x=>(rmN x).isSome) sn->jX gv rc ws (kn0,[]) (kn,sn)->Q (.ref t) H')/\
 (∀e cls d H',G9 gv rc ws (kn0,[]) e->aN H H'->Qv CNo CRi e cls d H'->E cls d H')
def Kw (CNo CRi:Addr):Sp:=fun vs H Q E=>∃(h g c:Addr) (gs cs:List Str) (gv:Kn) (rc:Rn) (x:Str),vs=[.ref h, .str x]/\pL H h g c gs cs gv rc/\vI gv rc [x] (kn0,[])/\
 (∀(v:Int) (kn:Kn) (rmN:Rm) (od:List Str) (H':Hp),aN H H'->StG gv rc kn rmN->jX gv rc [x] (kn0,[]) (kn,od)->kn x=some v->Q (.int v) H')/\
 (∀e cls d H',G9 gv rc [x] (kn0,[]) e->aN H H'->Qv CNo CRi e cls d H'->E cls d H')
def vK (rest:Int) (mixed:Bool) (turn:Int):List (Key×V):=[(.inr "rest", .int rest),(.inr "mixed", .bl mixed),(.inr "turn", .int turn)]
def lq (H:Hp) (p:Addr) (c:Nat):Prop:=∃(rest:Int) (mixed:Bool) (turn:Int),H p=some (.dK (vK rest mixed turn))/\0<=turn/\turn<=(c:Int)
theorem lq.keep {S:List Addr}{H H':Hp}{p:Addr}{c:Nat} (h:lq H p c) (b:But S H H') (hp:p∉S):lq H' p c:=by
 obtain⟨r,m,k,e,h⟩:=h
 exact⟨r,m,k,b _ _ hp e,h⟩
theorem lq.same {H H':Hp}{p:Addr}{c:Nat} (h:lq H p c) (b:aN H H'):lq H' p c:=h.keep (S:=[]) (But.of_same b) (by simp)
theorem lq.tups {H H':Hp}{p:Addr}{c:Nat} (h:lq H p c) (b:But [p] H H'):lg H H':=fun q xs e=>b q _ (fun z=>by
 obtain⟨r,m,k,e',_⟩:=h
 have:q=p:=by simpa using z
 rw[this,e'] at e;cases e) e
theorem lq.off {H:Hp}{p z:Addr}{c:Nat}{o:HO} (h:lq H p c) (e:H z=some o) (ho:∀k,o≠ .dK k):z∉[p]:=fun w=>by
 obtain⟨r,m,k,e',_⟩:=h
 have:z=p:=by simpa using w
 rw[this,e'] at e;cases e;exact ho _ rfl
theorem Ez {H:Hp}{p:Addr}{a c:Int}{b:Bool} (e:H p=some (.dK (vK a b c))):dO H p (.str "rest") (some (.int a)):=dO.k (k:= .inr "rest") e
theorem Qw {H:Hp}{p:Addr}{a c:Int}{b:Bool} (e:H p=some (.dK (vK a b c))):dO H p (.str "mixed") (some (.bl b)):=dO.k (k:= .inr "mixed") e
theorem Ky {H:Hp}{p:Addr}{a c:Int}{b:Bool} (e:H p=some (.dK (vK a b c))):dO H p (.str "turn") (some (.int c)):=dO.k (k:= .inr "turn") e
theorem zK {H:Hp}{p:Addr}{a c:Int}{b:Bool} (e:H p=some (.dK (vK a b c))) (x:Int):lY H p (.str "rest") (.int x) (upd H p (.dK (vK x b c))):=lY.k (k:= .inr "rest") e (bG (by show 3<=1000;decide))
theorem Im {H:Hp}{p:Addr}{a c:Int}{b:Bool} (e:H p=some (.dK (vK a b c))) (x:Int):lY H p (.str "turn") (.int x) (upd H p (.dK (vK a b x))):=lY.k (k:= .inr "turn") e (bG (by show 3<=1000;decide))
def Io (K:PySem.W.Frag):Sp:=fun vs H Q _=>∃(a:Addr) (ns:List Int) (k:Int),vs=[.ref a, .int k]/\SqL K H a (ns.map V.int)/\0<=k/\k<=1000/\∀n,Q (.int n) H
def Tz (K:PySem.W.Frag):Sp:=fun vs H Q _=>∃(a:Addr) (ns:List Int) (k:Int),vs=[.ref a, .int k]/\SqL K H a (ns.map V.int)/\0<=k/\k<=1000/\∀p H',aN H H'->H p=none->lq H' p 1000->Q (.ref p) H'
def Ce:Sp:=fun vs H Q _=>∃(p:Addr) (c:Nat) (many:Int),vs=[.ref p, .int many]/\lq H p c/\c<=100000/\0<many/\many.natAbs.log2<9000/\∀n H',0<=n->n<many->But [p] H H'->lq H' p (c+1)->Q (.int n) H'
theorem TF {kn:Kn}{ns:List Str}{x:Str} (hx:x∈ns) {kn':Kn} (le:Kn.Le kn kn') (h:kn x=none) (h':kn' x≠none):Em kn' ns+1<=Em kn ns:=by
 unfold Em
 refine yt (p:=fun x=>(kn x).isNone) (p':=fun x=>(kn' x).isNone) (fun j _ hj=> ?_) hx (by rw[h];rfl) ?_
 ·cases e:kn j with
  | none=>rfl
  | some v=>rw[le j v e] at hj;cases hj
 ·cases e:kn' x with
  | none=>exact absurd e h'
  | some v=>rfl
theorem TJ {NS:List Str}{gv:Kn}{rc:Rn} (hin:∀x r,rc x=some r->r.In NS) {s t:Ms} (h:∀y∈s.1,y∈NS) (e:mv gv rc s=some t):∀y∈t.1,y∈NS:=by
 obtain⟨p,kn,od⟩:=s
 cases p with
 | nil=>cases e
 | cons y p=>
   unfold mv at e
   cases hk:kn y with
   | some v=>
     simp only[hk] at e
     cases e
     exact fun z hz=>h z (by simp[hz])
   | none=>
     simp only[hk] at e
     cases hg:gv y with
     | some v=>
       simp only[hg] at e
       cases e
       exact h
     | none=>
       simp only[hg] at e
       cases hr:rc y with
       | none=>simp only[hr] at e;cases e
       | some r=>
         simp only[hr] at e
         cases he:ev kn r with
         | inr v=>
           simp only[he] at e
           cases e
           exact h
         | inl z=>
           simp only[he] at e
           cases e
           intro w hw
           rcases List.mem_cons.mp hw with q | q
           ·rw[q];exact zB (hin y r hr) he
           ·exact h w q
open PySem.Builtin.Int (intBits)
def R.Lin:R->Prop
 | .num n=>intBits n<=41
 | .rd _=>True
 | .bin op a b=>a.Lin/\b.Lin/\(op= .times->(∃n,a= .num n/\intBits n<=2)\/∃n,b= .num n/\intBits n<=2)
 | .pick a b c=>a.Lin/\b.Lin/\c.Lin
 | .cho a ns=>a.Lin/\1<=ns.length
def R.Top (r:R):Prop:=r.Lin\/∃x s,r= .bin .times (.rd x) s/\s.Lin
theorem xF {kn:Kn}{m:Nat} (hk:∀x v,kn x=some v->intBits v<=m) {x:Str}{v:Int} (e:look kn x= .inr v):intBits v<=m:=by
 unfold look at e
 cases z:kn x with
 | none=>rw[z] at e;cases e
 | some u=>rw[z] at e;cases e;exact hk x _ z
theorem pM {kn:Kn}{m:Nat} (h41:41<=m) (hk:∀x v,kn x=some v->intBits v<=m):∀(r:R) (d:Nat) (v:Int),r.Lin->r.depth<=d->ev kn r= .inr v->intBits v<=m+2 * d
 | .num n,d,v,h,_,e=>by
   cases e
   have:intBits n<=41:=h
   omega
 | .rd x,d,v,_,_,e=>by
   have:=xF hk (x:=x) e
   omega
 | .bin op a b,d,v,⟨ha,hb,ht⟩,hd,e=>by
   simp only[R.depth] at hd
   obtain⟨d',rfl⟩:∃d',d=d'+1:=⟨d - 1,by omega⟩
   simp only[ev] at e
   cases ea:ev kn a with
   | inl x=>rw[ea] at e;cases e
   | inr u=>
     rw[ea] at e
     cases eb:ev kn b with
     | inl x=>rw[eb] at e;cases e
     | inr w=>
       rw[eb] at e
       cases e
       have ia:=pM h41 hk a d' u ha (by omega) ea
       have ib:=pM h41 hk b d' w hb (by omega) eb
       cases op with
       | plus=>have:=intBits_add_le ia ib;show intBits (u+w)<=_;omega
       | minus=>have:=intBits_sub_le ia ib;show intBits (u - w)<=_;omega
       | most=>have:=intBits_ite_le (c:=w>u) ib ia;show intBits (if w>u then w else u)<=_;omega
       | times=>
         show intBits (u * w)<=_
         rcases ht rfl with⟨n,rfl,hn⟩ | ⟨n,rfl,hn⟩
         ·cases ea
          have:=intBits_mul_le hn ib;omega
         ·cases eb
          have:=intBits_mul_le ia hn;omega
 | .pick a b c,d,v,⟨ha,hb,hc⟩,hd,e=>by
   simp only[R.depth] at hd
   obtain⟨d',rfl⟩:∃d',d=d'+1:=⟨d - 1,by omega⟩
   simp only[ev] at e
   cases ea:ev kn a with
   | inl x=>rw[ea] at e;cases e
   | inr u=>
     rw[ea] at e
     by_cases hu:u>0
     ·simp only[if_pos hu] at e
      have:=pM h41 hk b d' v hb (by omega) e;omega
     ·simp only[if_neg hu] at e
      have:=pM h41 hk c d' v hc (by omega) e;omega
 | .cho a ns,d,v,⟨ha,_⟩,hd,e=>by
   simp only[ev] at e
   cases ea:ev kn a with
   | inl x=>rw[ea] at e;cases e
   | inr u=>
     rw[ea] at e
     cases ep:pK ns u with
     | none=>
       simp only[ep] at e
       cases e
       have:intBits 0<=41:=by decide
       omega
     | some x=>
       simp only[ep] at e
       have:=xF hk e
       omega
theorem vL {kn:Kn}:∀(r:R),r.Lin->r.Fn kn
 | .num _,_=>trivial
 | .rd _,_=>trivial
 | .bin op a b,⟨ha,hb,ht⟩=>⟨vL a ha,vL b hb,fun e u v ea eb=>by
   have sm:∀n:Int,intBits n<=2-> -(2 ^ 64)<n/\n<2 ^ 64:=fun n h=>by
    have:=intBits_le_iff.mp h
    have e4:(2:Nat)^ 2=4:=by decide
    rw[e4] at this
    have e64:(2:Int)^ 64=18446744073709551616:=by decide
    rw[e64]
    omega
   rcases ht e with⟨n,rfl,hn⟩ | ⟨n,rfl,hn⟩
   ·cases ea;exact .inl (sm _ hn)
   ·cases eb;exact .inr (sm _ hn)⟩
 | .pick a b c,⟨ha,hb,hc⟩=>⟨vL a ha,vL b hb,vL c hc⟩
 | .cho a ns,⟨ha,hn⟩=>⟨vL a ha,hn⟩
theorem TQ {kn:Kn}{m:Nat} (h41:41<=m) (hk:∀x v,kn x=some v->intBits v<=m) {r:R}{v:Int} (h:r.Top) (hd:r.depth<=6) (e:ev kn r= .inr v):intBits v<=2 * m+12:=by
 rcases h with h | ⟨x,s,rfl,hs⟩
 ·have:=pM h41 hk r 6 v h hd e;omega
 ·simp only[R.depth] at hd
  simp only[ev] at e
  cases ea:look kn x with
  | inl y=>rw[ea] at e;cases e
  | inr u=>
    rw[ea] at e
    cases eb:ev kn s with
    | inl y=>rw[eb] at e;cases e
    | inr w=>
      rw[eb] at e
      cases e
      have:=intBits_mul_le (xF hk ea) (pM h41 hk s 6 w hs (by omega) eb)
      show intBits (u * w)<=_
      omega
def bd:Nat->Nat
 | 0=>41
 | k+1=>2 * bd k+12
theorem Ow:∀k,41<=bd k
 | 0=>Nat.le_refl _
 | k+1=>by have:=Ow k;unfold bd;omega
theorem Ox:∀{k j:Nat},k<=j->bd k<=bd j
 | k,0,h=>by rw[show k=0 by omega];exact Nat.le_refl _
 | k,j+1,h=>by
   by_cases e:k=j+1
   ·rw[e];exact Nat.le_refl _
   ·have:=Ox (k:=k) (j:=j) (by omega)
    show bd k<=2 * bd j+12
    omega
theorem adZ:bd 20<=60000000:=by decide +kernel
structure BdI (rc:Rn) (s:Ms):Prop where
 nd:s.2.2.Nodup
 kn:∀x∈s.2.2,s.2.1 x≠none
 rc:∀x∈s.2.2,rc x≠none
 b:∀x v,s.2.1 x=some v->intBits v<=bd s.2.2.length
theorem BdI.step {gv:Kn}{rc:Rn} (hg:∀x v,gv x=some v->intBits v<=41) (hr:∀x r,rc x=some r->r.Top/\r.depth<=6) {s t:Ms} (h:BdI rc s) (e:mv gv rc s=some t):BdI rc t:=by
 obtain⟨p,kn,od⟩:=s
 cases p with
 | nil=>cases e
 | cons y p=>
   unfold mv at e
   cases hk:kn y with
   | some v=>
     simp only[hk] at e
     cases e
     exact⟨h.nd,h.kn,h.rc,h.b⟩
   | none=>
     simp only[hk] at e
     cases hgy:gv y with
     | some v=>
       simp only[hgy] at e
       cases e
       refine⟨h.nd,fun x hx=> ?_,h.rc,fun x u hu=> ?_⟩
       ·show Kn.put kn y v x≠none
        unfold Kn.put
        split
        ·simp
        ·exact h.kn x hx
       ·have hu:Kn.put kn y v x=some u:=hu
        unfold Kn.put at hu
        by_cases z:x=y
        ·rw[if_pos z] at hu;cases hu
         have:=hg y _ hgy
         have h2:=Ow od.length
         show intBits v<=bd od.length
         omega
        ·rw[if_neg z] at hu;exact h.b x u hu
     | none=>
       simp only[hgy] at e
       cases hry:rc y with
       | none=>simp only[hry] at e;cases e
       | some r=>
         simp only[hry] at e
         cases he:ev kn r with
         | inr v=>
           simp only[he] at e
           cases e
           have hyo:y∉od:=fun z=>h.kn y z hk
           have hb:=TQ (Ow od.length) h.b (hr y r hry).1 (hr y r hry).2 he
           refine⟨?_,fun x hx=> ?_,fun x hx=> ?_,fun x u hu=> ?_⟩
           ·show(od++[y]).Nodup
            rw[List.nodup_append]
            exact⟨h.nd,by simp,fun a ha c hc z=>hyo (by rw[show c=y by simpa using hc] at z;rw[<-z];exact ha)⟩
           ·show Kn.put kn y v x≠none
            unfold Kn.put
            by_cases z:x=y
            ·rw[if_pos z];simp
            ·rw[if_neg z]
             rcases List.mem_append.mp hx with w | w
             ·exact h.kn x w
             ·exact absurd (by simpa using w) z
           ·rcases List.mem_append.mp hx with w | w
            ·exact h.rc x w
            ·rw[show x=y by simpa using w,hry];simp
           ·have hu:Kn.put kn y v x=some u:=hu
            show intBits u<=bd (od++[y]).length
            rw[List.length_append]
            show intBits u<=2 * bd od.length+12
            unfold Kn.put at hu
            by_cases z:x=y
            ·rw[if_pos z] at hu;cases hu;exact hb
            ·rw[if_neg z] at hu
             have:intBits u<=bd od.length:=h.b x u hu
             omega
         | inl z=>
           simp only[he] at e
           cases e
           exact⟨h.nd,h.kn,h.rc,h.b⟩
end RB
namespace RB
open PySem L2 PySem.Spec PyProof.Rows
open PySem.Builtin.Int (intBits)
theorem TV {n:Int} (h:n.natAbs<=1000000000000):intBits n<=41:=intBits_le_iff.mpr (by
 have:(2:Nat)^ 41=2199023255552:=by decide
 omega)
def TX:Sp:=fun vs H Q _=>∃(p:Addr) (c:Nat),vs=[.ref p]/\lq H p c/\c<=90000/\∀n H',intBits n<=41->But [p] H H'->lq H' p (c+2)->Q (.int n) H'
def Cg (ns:List Str):R->Prop
 | .num n=>intBits n<=41
 | .rd x=>x∈ns
 | _=>False
def Oz:Sp:=fun vs H Q _=>∃(p l:Addr) (c:Nat) (ns:List Str),vs=[.ref p, .ref l]/\lq H p c/\c<=80000/\H l=some (.lst (ns.map V.str))/\ns.length<=100/\
 ∀a r H',But [p] H H'->lq H' p (c+3)->IsR H' a r->Cg ns r->Q (.ref a) H'
theorem Cg.lin {ns:List Str}{r:R} (h:Cg ns r):r.Lin:=by
 cases r<;>first | exact h | trivial | cases h
theorem Cg.in_ {ns:List Str}{r:R} (h:Cg ns r):r.In ns:=by
 cases r<;>first | exact h | trivial | cases h
end RB
namespace RB
open PySem L2 PySem.Spec PyProof.Rows
open PySem.Builtin.Int (intBits)
theorem lq.ne {H:Hp}{p a:Addr}{c:Nat} (h:lq H p c) (e:H a=none):a≠p:=fun z=>by
 obtain⟨_,_,_,e',_⟩:=h
 rw[<-z,e] at e';cases e'
theorem lq.mono {H:Hp}{p:Addr}{c c':Nat} (h:lq H p c) (hc:c<=c'):lq H p c':=by
 obtain⟨r,m,k,e,h1,h2⟩:=h
 exact⟨r,m,k,e,h1,by omega⟩
def MN:Nat->Nat
 | 0=>4
 | d+1=>14+3 * MN d
theorem ad0:∀d,4<=MN d
 | 0=>Nat.le_refl _
 | d+1=>by show 4<=14+_;omega
theorem Qx {n:Int} (h0:0<=n) (h1:n<7):intBits (n - 3)<=2:=intBits_le_iff.mpr (by
 have:(2:Nat)^ 2=4:=by decide
 omega)
structure Rc4 (ns:List Str) (d:Nat) (r:R):Prop where
 l:r.Lin
 i:r.In ns
 d:r.depth<=d+1
 g:r.Good
theorem Cg.rc {ns:List Str}{r:R}{d:Nat} (hg:∀x∈ns,m8 x) (h:Cg ns r):Rc4 ns d r:=by
 refine⟨h.lin,h.in_, ?_, ?_⟩
 ·cases r<;>first | (show 1<=d+1;omega) | cases h
 ·cases r with
  | num n=>
    have:=intBits_le_iff.mp (show intBits n<=41 from h)
    show n.natAbs<10 ^ 40
    exact Nat.lt_of_lt_of_le this (by decide)
  | rd x=>exact hg x h
  | _=>cases h
def TY (d:Nat):Sp:=fun vs H Q _=>∃(p l:Addr) (c:Nat) (ns:List Str) (deep:Int),vs=[.ref p, .ref l, .int deep]/\deep=(d:Int)/\d<=3/\lq H p c/\c+MN d<=70000/\H l=some (.lst (ns.map V.str))/\ns.length<=100/\(∀x∈ns,m8 x)/\
 ∀a r H',But [p] H H'->lq H' p (c+MN d)->IsR H' a r->Rc4 ns d r->Q (.ref a) H'
def ag4:Nat->Sp
 | 0=>fun _ _ _ _=>False
 | d+1=>TY d
def Yx:Sp:=fun vs H Q _=>∃(p l:Addr) (c:Nat) (ns:List Str) (deep:Int),vs=[.ref p, .ref l, .int deep]/\0<=deep/\deep<4/\lq H p c/\c<=60000/\H l=some (.lst (ns.map V.str))/\ns.length<=100/\(∀x∈ns,m8 x)/\
 ∀a r H',But [p] H H'->lq H' p (c+290)->IsR H' a r->Rc4 ns 3 r->Q (.ref a) H'
end RB
namespace RB
open PySem L2 PySem.Spec PyProof.Rows
def dW:List Str:=["a","b","ab","ba","aa","read","plus","zz","number","pick","z","abcdefgh","most","given","c","aaaaaaaa","times","choose"]
theorem Ws:dW.Nodup:=by decide +kernel
theorem MP:∀x∈dW,m8 x:=by
 unfold m8 GC
 decide +kernel
theorem Qy:m8 "nowhere":=by
 unfold m8 GC
 decide +kernel
def T3:Sp:=fun vs H Q _=>vs=[]/\∀l H',aN H H'->H l=none->H' l=some (.lst (dW.map V.str))->Q (.ref l) H'
def Yy:Sp:=fun vs H Q _=>∃(h g c:Addr) (gs cs:List Str) (gv:Kn) (rc:Rn) (x:Str),vs=[.ref h, .str x]/\pL H h g c gs cs gv rc/\vI gv rc [x] (kn0,[])/\
 (∀(v:Int) (kn:Kn) (rmN:Rm) (od:List Str) (H':Hp),aN H H'->StG gv rc kn rmN->jX gv rc [x] (kn0,[]) (kn,od)->kn x=some v->Q (.int v) H')/\
 (∀e H',G9 gv rc [x] (kn0,[]) e->aN H H'->Q .non H')
end RB
namespace L2
open PySem PySem.Spec PyProof.Rows
def T4 (K:PySem.W.Frag) (C:Addr) (tb:(St->XK)->TS) (th:TS):TS:=fun D σ H=>tb (fun σ1 cls _ H1=>PySem.W.exmOne K cls (.ref C)=some true/\th D σ1 H1) D σ H
section
variable {X:Cx}{x:Str}{C:Addr}{np hpos pos:Pos}{body suite:List Stmt}{b₀:Stmt}{tb:(St->XK)->TS}{th:TS}
theorem T5 (hex:X.ex=[]) (hst:X.stack=X.env::X.outer) (hfr:X.env.frame=some X.env.locals) (hg:Gl X x) (hm:X.mg x=some (.ref C))
 (hb:∀pn xe (E:St->XK),JS (CXd X.prog X.w) (X.tryd pn xe) E->PSs (X.tryd pn xe) body (tb E)) (hs:∀e,PSs (X.held e) (b₀::suite) th) (hdb:(x==("__debug__":Str))=false:=by decide):
 PS X (.Try body [.ExceptHandler (some (.Name x np)) none (b₀::suite) hpos] [] [] pos) (T4 X.K C tb th):=by
 intro pins s σ H D I h
 rw[arm_exec_Try]
 refine wpAny_bind (wpAny_standAt (wpAny_tryStmt_except ?_))
 refine wpAny_mono (hb pins (fun e s₁=>wpAny (model X.prog X.w) X.A (noteFrame e X.env) (fun _ s₂=>wpAny (model X.prog X.w) X.A (setFlight e none) (fun _ s₃=>wpAny (model X.prog X.w) X.A (handleBy e X.env [.ExceptHandler (some (.Name x np)) none (b₀::suite) hpos]) (SP X pins D) X.xe s₃) X.xe s₂) X.xe s₁)
  _ ?_ [] s σ H D (I.tryd _) h) (fun f s1 q=> ?_) fun _ _ z=>z
 ·intro aip σ1 H1 s1 e s' I1 hx
  obtain⟨a,cls,d,H',rfl,F,hm1,hth⟩:=hx
  obtain⟨B,fl,kc⟩:=F.fly
  have hcls:(X.env.scope.kind== .class||(X.env.scope.kind== .module&&X.env.locals !=X.env.globals))=false:=by rw[I.ok.kind];rfl
  have hframes:X.A.frames=some (X.env::X.outer):=by rw[<-hst];exact I.ok.frames
  have fl':xH B (X.env::X.outer) a cls d .none s'.heap:=by rw[<-hst];exact fl
  refine Kq hframes hfr fl' fun h4 ad1 up4=> ?_
  refine Oq (s:={s' with heap:=h4}) ad1 fun h5 fl5 up5=> ?_
  have J5:=(Tr.land (X:=X.tryd pins _) F I1 kc fl5.stays (up4.trans up5)).untryd
  obtain⟨oe,vs,heo,hec,_⟩:=fl5.there
  refine wpAny_handleBy_cons (codeAny_handlers_test (tE (J5.held (.ref a)) hg hm ?_ hdb)) (by intro q;cases q)
  have LT:PySem.W.Looks (model X.prog X.w) h5 (typeOf (.ref a)) cls:=by
   obtain⟨hec,_⟩:=hec
   subst hec
   exact(PySem.W.Looks.ld heo).andThen .now
  refine(PySem.W.exm_one J5.kIn LT hm1).here ?_
  refine codeAny_handlers_suite ?_
  refine Oq (s:={s' with heap:=h5}) fl5 fun h6 fl6 up6=> ?_
  have J6:=(Tr.land (X:=X.tryd pins _) F I1 kc fl6.stays ((up4.trans up5).trans up6)).untryd
  refine wpAny_mono (hs (.ref a) pins _ _ _ _ (J6.held (.ref a)) hth) (fun f s8 q=> ?_) fun _ _ z=>False.elim z
  cases f with
  | next=>obtain⟨σ2,H2,J8,q⟩:=q;exact⟨σ2,H2,J8.unheld I.ok,q⟩
  | brk=>obtain⟨σ2,H2,J8,q⟩:=q;exact⟨σ2,H2,J8.unheld I.ok,q⟩
  | cont=>obtain⟨σ2,H2,J8,q⟩:=q;exact⟨σ2,H2,J8.unheld I.ok,q⟩
  | ret u=>obtain⟨v,σ2,H2,J8,r,q⟩:=q;exact⟨v,σ2,H2,J8.unheld I.ok,r,q⟩
 ·cases f with
  | next=>obtain⟨σ',H',J,q⟩:=q;exact wpAny_execs_nil ⟨σ',H',J.untryd,q⟩
  | brk=>obtain⟨σ',H',J,q⟩:=q;exact⟨σ',H',J.untryd,q⟩
  | cont=>obtain⟨σ',H',J,q⟩:=q;exact⟨σ',H',J.untryd,q⟩
  | ret u=>obtain⟨v,σ',H',J,r,q⟩:=q;exact⟨v,σ',H',J.untryd,r,q⟩
theorem T6 (hex:X.ex=[]) (hst:X.stack=X.env::X.outer) (hfr:X.env.frame=some X.env.locals) (hg:Gl X x) (hm:X.mg x=some (.ref C))
 (hb:∀pn xe (E:St->XK),JS (CXd X.prog X.w) (X.tryd pn xe) E->QSs (X.tryd pn xe) body (tb E)) (hs:∀e,QSs (X.held e) (b₀::suite) th) (hdb:(x==("__debug__":Str))=false):
 QS X (.Try body [.ExceptHandler (some (.Name x np)) none (b₀::suite) hpos] [] [] pos) (T4 X.K C tb th):=⟨T5 hex hst hfr hg hm (fun pn xe E h=>(hb pn xe E h).h) (fun e=>(hs e).h) hdb⟩
end
end L2
namespace RB
open PySem L2 PySem.Spec PyProof.Rows
def Rcs (H:Hp) (c:Addr) (ks:List Str) (rc:Rn):Prop:=∃kc,H c=some (.dK kc)/\iz kc ks/\(∀x r,rc x=some r->∃b,cI kc (.inr x)=some (.ref b)/\IsR H b r)/\∀x,rc x=none->cI kc (.inr x)=none
theorem Rcs.keep {S:List Addr}{H H':Hp}{c:Addr}{ks:List Str}{rc:Rn} (h:Rcs H c ks rc) (b:But S H H') (hc:c∉S) (t:lg H H'):Rcs H' c ks rc:=by
 obtain⟨kc,e,k,r,n⟩:=h
 exact⟨kc,b _ _ hc e,k,fun x r' e'=>let ⟨b,h1,h2⟩:=r x r' e';⟨b,h1,h2.tups t⟩,n⟩
theorem Rcs.put {H:Hp}{c:Addr}{ks:List Str}{rc:Rn} (h:Rcs H c ks rc) (hl:ks.length<=100) {x:Str}{r:R}{b:Addr} (hx:x∉ks) (hR:IsR H b r):∃H',lY H c (.str x) (.ref b) H'/\But [c] H H'/\lg H H'/\Rcs H' c (ks++[x]) (rc.put x r):=by
 obtain⟨kc,e,k,rr,n⟩:=h
 have t:lg H (upd H c (.dK (putK kc (.inr x) (.ref b)))):=zE e
 refine⟨_,lY.k (k:= .inr x) e (bG (by rw[k.len];omega)),But.set _ (by simp),t,_,ak,k.tR hx _,fun y r' e'=> ?_,fun y e'=> ?_⟩
 ·rw[jy]
  unfold Rn.put at e'
  by_cases z:y=x
  ·rw[if_pos z] at e';cases e'
   exact⟨b,by rw[if_pos (by rw[z])],hR.tups t⟩
  ·rw[if_neg z] at e'
   obtain⟨b',h1,h2⟩:=rr y r' e'
   exact⟨b',by rw[if_neg (mK z)];exact h1,h2.tups t⟩
 ·rw[jy]
  unfold Rn.put at e'
  by_cases z:y=x
  ·rw[if_pos z] at e';cases e'
  ·rw[if_neg z] at e'
   rw[if_neg (mK z)];exact n y e'
theorem Kz:∀{zs:List Str},(∀y∈zs,PyData.strOk y=true)->PyData.canLayAll0 (zs.map .str)=true
 |[],_=>rfl
 | z::zs,h=>by
   show(PyData.canLay0 (.str z)&&PyData.canLayAll0 (zs.map .str))=true
   rw[Bool.and_eq_true]
   exact⟨h z (by simp),Kz fun y hy=>h y (by simp[hy])⟩
theorem KC:∀(zs:List Str),PyData.depthAll (zs.map .str)<=4
 |[]=>by simp[PyData.depthAll]
 | z::zs=>by
   have:=KC zs
   simp only[List.map_cons,PyData.depthAll,PyData.depth]
   omega
open PySem.Builtin.Int (intBits)
def FT:List Str:=dW++(["nowhere"]:List Str)
theorem MT:∀x∈FT,m8 x:=fun x hx=>by
 rcases List.mem_append.mp hx with h | h
 ·exact MP x h
 ·rw[show x="nowhere" by simpa using h];exact Qy
structure Ok4 (r:R):Prop where
 t:r.Top
 d:r.depth<=5
 i:r.In FT
 g:r.Good
theorem Ok4.rcg {r:R} (h:Ok4 r):RcG r:=by
 have hf:=mH h.g
 have h1:=Eh r 5 h.d
 have h2:=yu r 5 hf h.d
 have e1:(3:Nat)^ 5=243:=by decide
 exact⟨hf,by have:=h.d;omega,by omega,by omega⟩
theorem Rcs.Bg {H:Hp}{c:Addr}{ks:List Str}{rc:Rn} (h:Rcs H c ks rc) (hl:ks.length<=100) {x:Str}{r:R}{b:Addr} (hx:x∈ks) (hR:IsR H b r):∃H',lY H c (.str x) (.ref b) H'/\But [c] H H'/\lg H H'/\Rcs H' c ks (rc.put x r):=by
 obtain⟨kc,e,k,rr,n⟩:=h
 have t:lg H (upd H c (.dK (putK kc (.inr x) (.ref b)))):=zE e
 refine⟨_,lY.k (k:= .inr x) e (bG (by rw[k.len];omega)),But.set _ (by simp),t,_,ak,k.Bg hx _,fun y r' e'=> ?_,fun y e'=> ?_⟩
 ·rw[jy]
  unfold Rn.put at e'
  by_cases z:y=x
  ·rw[if_pos z] at e';cases e'
   exact⟨b,by rw[if_pos (by rw[z])],hR.tups t⟩
  ·rw[if_neg z] at e'
   obtain⟨b',h1,h2⟩:=rr y r' e'
   exact⟨b',by rw[if_neg (mK z)];exact h1,h2.tups t⟩
 ·rw[jy]
  unfold Rn.put at e'
  by_cases z:y=x
  ·rw[if_pos z] at e';cases e'
  ·rw[if_neg z] at e'
   rw[if_neg (mK z)];exact n y e'
structure HoI (H:Hp) (g c:Addr) (ks gs cs:List Str) (gv:Kn) (rc:Rn):Prop where
 kg:∃kg,H g=some (.dK kg)/\iz kg gs/\∀x,cI kg (.inr x)=(gv x).map V.int
 kc:Rcs H c cs rc
 ne:g≠c
 gk:∀x∈gs,x∈ks
 ck:∀x∈cs,x∈ks
 dj:∀x∈gs,x∉cs
 l:gs.length+cs.length<=ks.length
 b:∀x v,gv x=some v->intBits v<=41
 o:∀x r,rc x=some r->Ok4 r
section
variable {S:List Addr}{H H':Hp}{g c:Addr}{ks gs cs:List Str}{gv:Kn}{rc:Rn}
theorem HoI.keep (h:HoI H g c ks gs cs gv rc) (b:But S H H') (hg:g∉S) (hc:c∉S) (t:lg H H'):HoI H' g c ks gs cs gv rc:=
 ⟨let ⟨kg,e,k⟩:=h.kg;⟨kg,b _ _ hg e,k⟩,h.kc.keep b hc t,h.ne,h.gk,h.ck,h.dj,h.l,h.b,h.o⟩
theorem HoI.same (h:HoI H g c ks gs cs gv rc) (s:aN H H'):HoI H' g c ks gs cs gv rc:=h.keep (S:=[]) (But.of_same s) (by simp) (by simp) (aN.tups s)
theorem HoI.nil (e1:H g=some (.dK [])) (e2:H c=some (.dK [])) (ne:g≠c):HoI H g c [] [] [] kn0 (fun _=>none):=
 ⟨⟨[],e1,⟨rfl,by simp⟩,fun _=>rfl⟩,⟨[],e2,⟨rfl,by simp⟩,fun _ _ h=>(by simp at h),fun _ _=>rfl⟩,ne,by simp,by simp,by simp,by simp,fun _ _ h=>(by cases h),fun _ _ h=>(by cases h)⟩
theorem HoI.dk (h:HoI H g c ks gs cs gv rc):(∃k,H g=some (.dK k))/\∃k,H c=some (.dK k):=⟨let ⟨kg,e,_⟩:=h.kg;⟨kg,e⟩,let ⟨kc,e,_⟩:=h.kc;⟨kc,e⟩⟩
theorem HoI.Wl (h:HoI H g c ks gs cs gv rc) (hl:ks.length<=50) {x:Str}{v:Int} (hx:x∉ks) (hv:intBits v<=41):∃H',lY H g (.str x) (.int v) H'/\But [g] H H'/\lg H H'/\HoI H' g c (ks++[x]) (gs++[x]) cs (gv.put x v) rc:=by
 obtain⟨kg,e,k,hk⟩:=h.kg
 have t:lg H (upd H g (.dK (putK kg (.inr x) (.int v)))):=zE e
 have b:But [g] H (upd H g (.dK (putK kg (.inr x) (.int v)))):=But.set _ (by simp)
 have hxg:x∉gs:=fun z=>hx (h.gk x z)
 have hxc:x∉cs:=fun z=>hx (h.ck x z)
 refine⟨_,lY.k (k:= .inr x) e (bG (by have:=h.l;rw[k.len];omega)),b,t,⟨_,ak,k.tR hxg _,Dd hk x v⟩,h.kc.keep b (by simpa using Ne.symm h.ne) t,h.ne,fun y hy=> ?_,fun y hy=>List.mem_append_left _ (h.ck y hy),fun y hy=> ?_,by have:=h.l;simp only[List.length_append,List.length_cons,List.length_nil];omega,fun y u e'=> ?_,h.o⟩
 ·rcases List.mem_append.mp hy with z | z
  ·exact List.mem_append_left _ (h.gk y z)
  ·exact List.mem_append_right _ z
 ·rcases List.mem_append.mp hy with z | z
  ·exact h.dj y z
  ·rw[show y=x by simpa using z];exact hxc
 ·unfold Kn.put at e'
  by_cases z:y=x
  ·rw[if_pos z] at e';cases e';exact hv
  ·rw[if_neg z] at e';exact h.b y u e'
theorem T7 {rc:Rn} (h:∀x r,rc x=some r->Ok4 r) {x:Str}{r:R} (hr:Ok4 r):∀y r',(rc.put x r) y=some r'->Ok4 r':=fun y u e'=>by
 unfold Rn.put at e'
 by_cases z:y=x
 ·rw[if_pos z] at e';cases e';exact hr
 ·rw[if_neg z] at e';exact h y u e'
theorem HoI.rC (h:HoI H g c ks gs cs gv rc) (hl:ks.length<=50) {x:Str}{r:R}{b:Addr} (hx:x∉ks) (hR:IsR H b r) (hr:Ok4 r):∃H',lY H c (.str x) (.ref b) H'/\But [c] H H'/\lg H H'/\HoI H' g c (ks++[x]) gs (cs++[x]) gv (rc.put x r):=by
 have hxg:x∉gs:=fun z=>hx (h.gk x z)
 have hxc:x∉cs:=fun z=>hx (h.ck x z)
 obtain⟨H',d,bb,t,k⟩:=h.kc.put (by have:=h.l;omega) hxc hR
 obtain⟨kg,e,kk⟩:=h.kg
 refine⟨H',d,bb,t,⟨kg,bb _ _ (by simpa using h.ne) e,kk⟩,k,h.ne,fun y hy=>List.mem_append_left _ (h.gk y hy),fun y hy=> ?_,fun y hy z=> ?_,by have:=h.l;simp only[List.length_append,List.length_cons,List.length_nil];omega,h.b,T7 h.o hr⟩
 ·rcases List.mem_append.mp hy with z | z
  ·exact List.mem_append_left _ (h.ck y z)
  ·exact List.mem_append_right _ z
 ·rcases List.mem_append.mp z with z | z
  ·exact h.dj y hy z
  ·rw[show y=x by simpa using z] at hy;exact hxg hy
theorem HoI.ad2 (h:HoI H g c ks gs cs gv rc) (hl:ks.length<=50) {x:Str}{r:R}{b:Addr} (hx:x∈cs) (hR:IsR H b r) (hr:Ok4 r):∃H',lY H c (.str x) (.ref b) H'/\But [c] H H'/\lg H H'/\HoI H' g c ks gs cs gv (rc.put x r):=by
 obtain⟨H',d,bb,t,k⟩:=h.kc.Bg (by have:=h.l;omega) hx hR
 obtain⟨kg,e,kk⟩:=h.kg
 exact⟨H',d,bb,t,⟨kg,bb _ _ (by simpa using h.ne) e,kk⟩,k,h.ne,h.gk,h.ck,h.dj,h.l,h.b,T7 h.o hr⟩
theorem HoI.get (h:HoI H g c ks gs cs gv rc) {x:Str} (hx:x∈cs):∃b r,dO H c (.str x) (some (.ref b))/\IsR H b r/\rc x=some r:=by
 obtain⟨kc,e,k,rr,n⟩:=h.kc
 cases hr:rc x with
 | none=>exact absurd hx (k.none.mp (n x hr))
 | some r=>
   obtain⟨b,hb,hR⟩:=rr x r hr
   exact⟨b,r,hb▸dO.k (k:= .inr x) e,hR,rfl⟩
structure Ho4 (gs cs:List Str) (gv:Kn) (rc:Rn):Prop where
 gk:∀x∈gs,x∈dW.take 14
 ck:∀x∈cs,x∈dW.take 14
 dj:∀x∈gs,x∉cs
 a:("a":Str)∈gs
 l:gs.length+cs.length<=14
 b:∀x v,gv x=some v->intBits v<=41
 o:∀x r,rc x=some r->Ok4 r
theorem HoI.aa8 (h:HoI H g c ks gs cs gv rc) (hl:ks.length<=50) {a:Addr} (e:H a=some (.tup [.ref g, .ref c])):pL H a g c gs cs gv rc:=by
 obtain⟨kg,e1,k1,v1⟩:=h.kg
 obtain⟨kc,e2,k2,r2,n2⟩:=h.kc
 exact⟨kg,kc,e,e1,e2,k1,k2,by have:=h.l;omega,v1,r2,n2,fun x r er=>(h.o x r er).rcg⟩
theorem HoI.ho4 (h:HoI H g c ks gs cs gv rc) (hk:∀x∈ks,x∈dW.take 14) (hl:ks.length<=14) (ha:("a":Str)∈gs):Ho4 gs cs gv rc:=
 ⟨fun x hx=>hk x (h.gk x hx),fun x hx=>hk x (h.ck x hx),h.dj,ha,by have:=h.l;omega,h.b,h.o⟩
end
def Yz (K:PySem.W.Frag):Sp:=fun vs H Q _=>∃(a:Addr) (zs:List Int) (first:Int),vs=[.ref a, .int first]/\SqL K H a (zs.map V.int)/\0<=first/\first<=10/\
 ∀(h g c:Addr) (gs cs:List Str) (gv:Kn) (rc:Rn) (H':Hp),aN H H'->H h=none->H g=none->H c=none->g≠c->pL H' h g c gs cs gv rc->Ho4 gs cs gv rc->Q (.ref h) H'
theorem Rc4.ok {ns:List Str}{r:R} (h:Rc4 ns 3 r) (hn:∀x∈ns,x∈FT):Ok4 r:=⟨.inl h.l,by have:=h.d;omega,h.i.mono hn,h.g⟩
theorem Rc4.okT {ns:List Str}{r:R} (h:Rc4 ns 3 r) (hn:∀x∈ns,x∈FT) {x:Str} (hx:x∈FT):Ok4 (.bin .times (.rd x) r):=
 ⟨.inr ⟨x,r,rfl,h.l⟩,by show max 1 r.depth+1<=5;have:=h.d;omega,⟨hx,h.i.mono hn⟩,⟨MT x hx,h.g⟩⟩
end RB
namespace RB
open PySem L2 PySem.Spec PyProof.Rows
theorem OD {us:List Str}{n:Int} (h0:0<=n) (h1:n<(us.length:Int)):∃x,atI (us.map V.str) n=some (.str x)/\x∈us:=by
 obtain⟨j,rfl⟩:=Int.eq_ofNat_of_zero_le h0
 have hj:j<us.length:=by omega
 exact⟨us[j],lH (by rw[List.getElem?_map,List.getElem?_eq_getElem hj];rfl),List.getElem_mem hj⟩
theorem Ci {ws:List Str} (h:∀y∈ws,PyData.strOk y=true):SeqAt.shaped (.list (ws.map .str))=true:=by
 have h5:(PyData.list (ws.map .str)).canLay0=true:=Kz h
 have h4:(PyData.list (ws.map .str)).depth<=64:=by
  have:=KC ws
  simp only[PyData.depth];omega
 show(_&&decide _)=true
 rw[h5,decide_eq_true h4];rfl
theorem ad3 {K:PySem.W.Frag}{H:Hp}{a b:Addr}{ws:List Str} (ha:H a=some (.lst (ws.map V.str))) (hb:H b=some (.lst (ws.map V.str))) (h:∀y∈ws,PyData.strOk y=true):aa2 K H (.ref a) (.ref b):=
 .inr ⟨.list (ws.map .str), .lst (SqL.of ha) (mG _), .lst (SqL.of hb) (mG _),Ci h⟩
def KAg (k1 k2:Kn):Prop:=∀x a b,k1 x=some a->k2 x=some b->a=b
theorem EY {k1 k2:Kn} (h:KAg k1 k2) {x:Str}{u v:Int} (e1:look k1 x= .inr u) (e2:look k2 x= .inr v):u=v:=by
 unfold look at e1 e2
 cases z1:k1 x with
 | none=>rw[z1] at e1;cases e1
 | some a=>
   cases z2:k2 x with
   | none=>rw[z2] at e2;cases e2
   | some b=>
     rw[z1] at e1;rw[z2] at e2
     cases e1;cases e2
     exact h x _ _ z1 z2
theorem lM {k1 k2:Kn} (h:KAg k1 k2):∀(r:R) (u v:Int),ev k1 r= .inr u->ev k2 r= .inr v->u=v
 | .num n,u,v,e1,e2=>by cases e1;cases e2;rfl
 | .rd x,u,v,e1,e2=>EY h (x:=x) e1 e2
 | .bin op a b,u,v,e1,e2=>by
   simp only[ev] at e1 e2
   cases a1:ev k1 a with
   | inl x=>rw[a1] at e1;cases e1
   | inr u1=>
     cases a2:ev k2 a with
     | inl x=>rw[a2] at e2;cases e2
     | inr u2=>
       rw[a1] at e1;rw[a2] at e2
       cases b1:ev k1 b with
       | inl x=>rw[b1] at e1;cases e1
       | inr w1=>
         cases b2:ev k2 b with
         | inl x=>rw[b2] at e2;cases e2
         | inr w2=>
           rw[b1] at e1;rw[b2] at e2
           cases e1;cases e2
           rw[lM h a u1 u2 a1 a2,lM h b w1 w2 b1 b2]
 | .pick a b c,u,v,e1,e2=>by
   simp only[ev] at e1 e2
   cases a1:ev k1 a with
   | inl x=>rw[a1] at e1;cases e1
   | inr u1=>
     cases a2:ev k2 a with
     | inl x=>rw[a2] at e2;cases e2
     | inr u2=>
       rw[a1] at e1;rw[a2] at e2
       have:=lM h a u1 u2 a1 a2
       subst this
       by_cases hu:u1>0
       ·simp only[if_pos hu] at e1 e2
        exact lM h b u v e1 e2
       ·simp only[if_neg hu] at e1 e2
        exact lM h c u v e1 e2
 | .cho a ns,u,v,e1,e2=>by
   simp only[ev] at e1 e2
   cases a1:ev k1 a with
   | inl x=>rw[a1] at e1;cases e1
   | inr u1=>
     cases a2:ev k2 a with
     | inl x=>rw[a2] at e2;cases e2
     | inr u2=>
       rw[a1] at e1;rw[a2] at e2
       have:=lM h a u1 u2 a1 a2
       subst this
       cases ep:pK ns u1 with
       | none=>simp only[ep] at e1 e2;cases e1;cases e2;rfl
       | some x=>
         simp only[ep] at e1 e2
         exact EY h e1 e2
def JuI (gv:Kn) (rc:Rn) (s:Ms):Prop:=∀x u,s.2.1 x=some u->gv x=some u\/(gv x=none/\∃k r kn',s.2.2[k]? =some x/\rc x=some r/\ev kn' r= .inr u/\Kn.Le kn' s.2.1/\∀y,kn' y≠none->gv y≠none\/y∈s.2.2.take k)
theorem JuI.step {gv:Kn}{rc:Rn}{s t:Ms} (h:JuI gv rc s) (hn:∀y,s.2.1 y≠none->gv y≠none\/y∈s.2.2) (e:mv gv rc s=some t):JuI gv rc t/\∀y,t.2.1 y≠none->gv y≠none\/y∈t.2.2:=by
 obtain⟨p,kn,od⟩:=s
 cases p with
 | nil=>cases e
 | cons y p=>
   unfold mv at e
   cases hk:kn y with
   | some v=>
     simp only[hk] at e
     cases e
     exact⟨h,hn⟩
   | none=>
     simp only[hk] at e
     have le:∀v,Kn.Le kn (kn.put y v):=fun v=>Kn.qz hk
     cases hgy:gv y with
     | some v=>
       simp only[hgy] at e
       cases e
       refine⟨fun x u hu=> ?_,fun x hx=> ?_⟩
       ·have hu:Kn.put kn y v x=some u:=hu
        unfold Kn.put at hu
        by_cases z:x=y
        ·rw[if_pos z] at hu;cases hu;rw[z];exact .inl hgy
        ·rw[if_neg z] at hu
         rcases h x u hu with w | ⟨g,k,r,kn',h1,h2,h3,h4,h5⟩
         ·exact .inl w
         ·exact .inr ⟨g,k,r,kn',h1,h2,h3,h4.trans (le v),h5⟩
       ·have hx:Kn.put kn y v x≠none:=hx
        unfold Kn.put at hx
        by_cases z:x=y
        ·rw[z,hgy];exact .inl (by simp)
        ·rw[if_neg z] at hx;exact hn x hx
     | none=>
       simp only[hgy] at e
       cases hry:rc y with
       | none=>simp only[hry] at e;cases e
       | some r=>
         simp only[hry] at e
         cases he:ev kn r with
         | inr v=>
           simp only[he] at e
           cases e
           refine⟨fun x u hu=> ?_,fun x hx=> ?_⟩
           ·have hu:Kn.put kn y v x=some u:=hu
            unfold Kn.put at hu
            by_cases z:x=y
            ·rw[if_pos z] at hu;cases hu
             refine .inr ⟨by rw[z];exact hgy,od.length,r,kn, ?_,by rw[z];exact hry,he,le v,fun w hw=> ?_⟩
             ·show(od++[y])[od.length]? =some x
              rw[List.getElem?_append_right (Nat.le_refl _),z];simp
             ·rcases hn w hw with q | q
              ·exact .inl q
              ·refine .inr ?_
               show w∈(od++[y]).take od.length
               rw[List.take_append_of_le_length (Nat.le_refl _),List.take_length];exact q
            ·rw[if_neg z] at hu
             rcases h x u hu with w | ⟨g,k,r',kn',h1,h2,h3,h4,h5⟩
             ·exact .inl w
             ·have hkl:k<od.length:=(List.getElem?_eq_some_iff.mp h1).1
              refine .inr ⟨g,k,r',kn', ?_,h2,h3,h4.trans (le v),fun w hw=> ?_⟩
              ·show(od++[y])[k]? =some x
               rw[List.getElem?_append_left hkl];exact h1
              ·rcases h5 w hw with q | q
               ·exact .inl q
               ·refine .inr ?_
                show w∈(od++[y]).take k
                rw[List.take_append_of_le_length (by omega)];exact q
           ·have hx:Kn.put kn y v x≠none:=hx
            unfold Kn.put at hx
            by_cases z:x=y
            ·exact .inr (by show x∈od++[y];rw[z];simp)
            ·rw[if_neg z] at hx
             rcases hn x hx with q | q
             ·exact .inl q
             ·exact .inr (List.mem_append_left _ q)
         | inl z=>
           simp only[he] at e
           cases e
           exact⟨h,hn⟩
def OdI (s:Ms):Prop:=s.2.2.Nodup/\∀x∈s.2.2,s.2.1 x≠none
theorem OdI.step {gv:Kn}{rc:Rn}{s t:Ms} (h:OdI s) (e:mv gv rc s=some t):OdI t:=by
 obtain⟨p,kn,od⟩:=s
 cases p with
 | nil=>cases e
 | cons y p=>
   unfold mv at e
   cases hk:kn y with
   | some v=>
     simp only[hk] at e
     cases e
     exact h
   | none=>
     simp only[hk] at e
     have kp:∀v x,kn x≠none->Kn.put kn y v x≠none:=fun v x hx=>by
      unfold Kn.put
      by_cases z:x=y
      ·rw[if_pos z];simp
      ·rw[if_neg z];exact hx
     cases hgy:gv y with
     | some v=>
       simp only[hgy] at e
       cases e
       exact⟨h.1,fun x hx=>kp v x (h.2 x hx)⟩
     | none=>
       simp only[hgy] at e
       cases hry:rc y with
       | none=>simp only[hry] at e;cases e
       | some r=>
         simp only[hry] at e
         cases he:ev kn r with
         | inr v=>
           simp only[he] at e
           cases e
           have hyo:y∉od:=fun z=>h.2 y z hk
           refine⟨?_,fun x hx=> ?_⟩
           ·show(od++[y]).Nodup
            rw[List.nodup_append]
            exact⟨h.1,by simp,fun a ha c hc z=>hyo (by rw[show c=y by simpa using hc] at z;rw[<-z];exact ha)⟩
           ·show Kn.put kn y v x≠none
            rcases List.mem_append.mp hx with w | w
            ·exact kp v x (h.2 x w)
            ·unfold Kn.put;rw[if_pos (by simpa using w)];simp
         | inl z=>
           simp only[he] at e
           cases e
           exact h
structure JuA (gv:Kn) (rc:Rn) (s:Ms):Prop where
 j:JuI gv rc s
 n:∀y,s.2.1 y≠none->gv y≠none\/y∈s.2.2
 o:OdI s
theorem JuA.mvs {gv:Kn}{rc:Rn}{s t:Ms} (m:Mvs gv rc s t) (h:JuA gv rc s):JuA gv rc t:=m.inv (I:=JuA gv rc) (fun _ _ hs e=>⟨(hs.j.step hs.n e).1,(hs.j.step hs.n e).2,hs.o.step e⟩) h
theorem JuA.runs {gv:Kn}{rc:Rn}:∀{ws:List Str}{a b:Kn×List Str},jX gv rc ws a b->JuA gv rc ([],a)->JuA gv rc ([],b)
 |[],a,b,h,i=>by cases h;exact i
 | x::ws,a,b,⟨c,m,h⟩,i=>JuA.runs h (JuA.mvs (s:=([x],a)) m.mvs ⟨i.j,i.n,i.o⟩)
theorem JuA.zero {gv:Kn}{rc:Rn}:JuA gv rc ([],kn0,[]) where
 j:=fun x u h=>by
  have h:(none:Option Int)=some u:=h
  cases h
 n:=fun y h=>absurd rfl h
 o:=⟨List.nodup_nil,fun x h=>by cases h⟩
theorem JuA.agree {gv:Kn}{rc:Rn}{s t:Ms} (h1:JuA gv rc s) (h2:JuA gv rc t):KAg s.2.1 t.2.1:=by
 have giv:∀x u v g,gv x=some g->s.2.1 x=some u->t.2.1 x=some v->u=v:=fun x u v g hg hu hv=>by
  rcases h1.j x u hu with a | ⟨a,_⟩
  ·rcases h2.j x v hv with b | ⟨b,_⟩
   ·rw[a] at b;exact Option.some.inj b
   ·rw[hg] at b;cases b
  ·rw[hg] at a;cases a
 have key:∀(n:Nat) (x:Str) (u v:Int),x∈s.2.2.take n->s.2.1 x=some u->t.2.1 x=some v->u=v:=fun n=>by
  induction n with
  | zero=>intro x u v hx;simp at hx
  | succ n ih=>
    intro x u v hx hu hv
    cases hgx:gv x with
    | some g=>exact giv x u v g hgx hu hv
    | none=>
      rcases h1.j x u hu with a | ⟨_,k,r,k1,e1,e2,e3,e4,e5⟩
      ·rw[hgx] at a;cases a
      ·rcases h2.j x v hv with b | ⟨_,k',r',k2,f1,f2,f3,f4,f5⟩
       ·rw[hgx] at b;cases b
       ·rw[e2] at f2;cases f2
        obtain⟨i,hi,hxi⟩:=Et hx
        have hki:i=k:=(List.getElem?_inj (List.getElem?_eq_some_iff.mp hxi).1 h1.o.1).mp (hxi.trans e1.symm)
        refine lM (fun y a b ha hb=> ?_) r u v e3 f3
        rcases e5 y (by rw[ha];simp) with g | g
        ·cases hgy:gv y with
         | none=>exact absurd hgy g
         | some c=>exact giv y a b c hgy (e4 y a ha) (f4 y b hb)
        ·exact ih y a b (Eu (by omega) y g) (e4 y a ha) (f4 y b hb)
 intro x a b ha hb
 rcases h1.n x (by rw[ha];simp) with g | g
 ·cases hgx:gv x with
  | none=>exact absurd hgx g
  | some c=>exact giv x a b c hgx ha hb
 ·exact key s.2.2.length x a b (by rw[List.take_length];exact g) ha hb
theorem Fb {gv:Kn}{rc:Rn}{ws ws':List Str}{a b:Kn×List Str} (h1:jX gv rc ws (kn0,[]) a) (h2:jX gv rc ws' (kn0,[]) b):KAg a.1 b.1:=(JuA.runs h1 JuA.zero).agree (JuA.runs h2 JuA.zero)
theorem Hg {k1 k2:Kn}{x z:Str}{v:Int} (e1:look k1 x= .inl z) (e2:look k2 x= .inr v):k2 z≠none:=by
 unfold look at e1 e2
 cases z1:k1 x with
 | some a=>rw[z1] at e1;cases e1
 | none=>
   rw[z1] at e1;cases e1
   cases z2:k2 x with
   | none=>rw[z2] at e2;cases e2
   | some b=>simp
theorem t6 {k1 k2:Kn} (h:KAg k1 k2):∀(r:R) (z:Str) (v:Int),ev k1 r= .inl z->ev k2 r= .inr v->k2 z≠none
 | .num n,z,v,e1,e2=>by cases e1
 | .rd x,z,v,e1,e2=>Hg (x:=x) e1 e2
 | .bin op a b,z,v,e1,e2=>by
   simp only[ev] at e1 e2
   cases a2:ev k2 a with
   | inl x=>rw[a2] at e2;cases e2
   | inr u2=>
     rw[a2] at e2
     cases a1:ev k1 a with
     | inl x=>rw[a1] at e1;cases e1;exact t6 h a z u2 a1 a2
     | inr u1=>
       rw[a1] at e1
       cases b2:ev k2 b with
       | inl x=>rw[b2] at e2;cases e2
       | inr w2=>
         cases b1:ev k1 b with
         | inl x=>rw[b1] at e1;cases e1;exact t6 h b z w2 b1 b2
         | inr w1=>rw[b1] at e1;cases e1
 | .pick a b c,z,v,e1,e2=>by
   simp only[ev] at e1 e2
   cases a2:ev k2 a with
   | inl x=>rw[a2] at e2;cases e2
   | inr u2=>
     rw[a2] at e2
     cases a1:ev k1 a with
     | inl x=>rw[a1] at e1;cases e1;exact t6 h a z u2 a1 a2
     | inr u1=>
       rw[a1] at e1
       have:=lM h a u1 u2 a1 a2
       subst this
       by_cases hu:u1>0
       ·simp only[if_pos hu] at e1 e2
        exact t6 h b z v e1 e2
       ·simp only[if_neg hu] at e1 e2
        exact t6 h c z v e1 e2
 | .cho a ns,z,v,e1,e2=>by
   simp only[ev] at e1 e2
   cases a2:ev k2 a with
   | inl x=>rw[a2] at e2;cases e2
   | inr u2=>
     rw[a2] at e2
     cases a1:ev k1 a with
     | inl x=>rw[a1] at e1;cases e1;exact t6 h a z u2 a1 a2
     | inr u1=>
       rw[a1] at e1
       have:=lM h a u1 u2 a1 a2
       subst this
       cases ep:pK ns u1 with
       | none=>simp only[ep] at e1 e2;cases e1
       | some x=>
         simp only[ep] at e1 e2
         exact Hg e1 e2
theorem JuA.top {gv:Kn}{rc:Rn}{p q:List Str}{a:Kn×List Str} (h:JuA gv rc (p,a)):JuA gv rc (q,a):=⟨h.j,h.n,h.o⟩
theorem JuA.go {gv:Kn}{rc:Rn}{G:Ms} (hG:JuA gv rc G):∀(k:Nat) (x:Str),(gv x≠none\/x∈G.2.2.take k)->∀(p:List Str) (kn:Kn) (od:List Str),JuA gv rc (x::p,kn,od)->(∀z∈p,gv z=none/\z∉G.2.2.take k)->
 ∃kn' od',jJ gv rc (x::p,kn,od) (p,kn',od')/\Kn.Le kn kn'/\kn' x≠none:=fun k=>by
 induction k using Nat.strongRecOn with
 | ind k ih=>
   intro x hx p
   have put:∀(kn:Kn) (od:List Str) (v:Int) (od':List Str),kn x=none->kh gv rc (x::p,kn,od)=none->mv gv rc (x::p,kn,od)=some (x::p,kn.put x v,od')->∃kn' od',jJ gv rc (x::p,kn,od) (p,kn',od')/\Kn.Le kn kn'/\kn' x≠none:=fun kn od v od' hk he hmv=>by
    have hkx:(kn.put x v) x=some v:=by unfold Kn.put;rw[if_pos rfl]
    exact⟨kn.put x v,od',((jJ.refl _).snoc he hmv).snoc (xu hkx) (Bh (by rw[hkx];simp)),Kn.qz hk,by rw[hkx];simp⟩
   have old:∀(kn:Kn) (od:List Str) (v:Int),kn x=some v->∃kn' od',jJ gv rc (x::p,kn,od) (p,kn',od')/\Kn.Le kn kn'/\kn' x≠none:=fun kn od v hk=>
    ⟨kn,od,(jJ.refl _).snoc (xu hk) (Bh (by rw[hk];simp)),Kn.Le.refl _,by rw[hk];simp⟩
   cases hg:gv x with
   | some v=>
     intro kn od hJ hp
     cases hk:kn x with
     | some u=>exact old kn od u hk
     | none=>exact put kn od v od hk (xx hg) (Ie hk hg)
   | none=>
     have hx:x∈G.2.2.take k:=hx.resolve_left (fun w=>w hg)
     obtain⟨j,hj,hxj⟩:=Et hx
     obtain⟨u,hu⟩:∃u,G.2.1 x=some u:=by
      cases e:G.2.1 x with
      | none=>exact absurd e (hG.o.2 x (List.mem_of_mem_take hx))
      | some u=>exact⟨u,rfl⟩
     rcases hG.j x u hu with a | ⟨_,k',r,k1,e1,e2,e3,e4,e5⟩
     ·rw[hg] at a;cases a
     ·have hkj:j=k':=(List.getElem?_inj (List.getElem?_eq_some_iff.mp hxj).1 hG.o.1).mp (hxj.trans e1.symm)
      subst hkj
      have hxn:x∉G.2.2.take j:=Om hG.o.1 hxj (Nat.le_refl _)
      have inner:∀(m:Nat) (kn:Kn) (od:List Str),Em kn r.nms<=m->JuA gv rc (x::p,kn,od)->(∀z∈p,gv z=none/\z∉G.2.2.take k)->∃kn' od',jJ gv rc (x::p,kn,od) (p,kn',od')/\Kn.Le kn kn'/\kn' x≠none:=fun m=>by
       induction m using Nat.strongRecOn with
       | ind m ihm=>
         intro kn od hm hJ hp
         cases hk:kn x with
         | some v=>exact old kn od v hk
         | none=>
           cases he:ev kn r with
           | inr v=>exact put kn od v (od++[x]) hk (Il hg e2 he) (Ek hg hk e2 he)
           | inl z=>
             have ag:KAg kn k1:=fun y a b ha hb=>hJ.agree hG y a b ha (e4 y b hb)
             have hz:=e5 z (t6 ag r z u he e3)
             have hzx:z≠x:=fun w=>by
              rw[w] at hz
              rcases hz with c | c
              ·exact c hg
              ·exact hxn c
             have hzp:z∉x::p:=fun w=>by
              rcases List.mem_cons.mp w with w | w
              ·exact hzx w
              ·obtain⟨p1,p2⟩:=hp z w
               rcases hz with c | c
               ·exact c p1
               ·exact p2 (Eu (by omega) z c)
             obtain⟨kn1,od1,m1,le1,hz1⟩:=ih j hj z hz (x::p) kn od hJ.top (fun y hy=>by
              rcases List.mem_cons.mp hy with w | w
              ·rw[w];exact⟨hg,hxn⟩
              ·exact⟨(hp y w).1,fun c=>(hp y w).2 (Eu (by omega) y c)⟩)
             have hzm:z∈r.nms:=zB r.tW he
             have hul:=TF hzm le1 (m5 he) hz1
             have hJ1:JuA gv rc (x::p,kn1,od1):=JuA.mvs m1.mvs hJ.top
             obtain⟨kn2,od2,m2,le2,hx2⟩:=ihm (m - 1) (by omega) kn1 od1 (by omega) hJ1 hp
             exact⟨kn2,od2,(((jJ.refl _).snoc (Ey hg e2 he hzp) (De hg hk e2 he)).trans m1).trans m2,le1.trans le2,hx2⟩
      exact fun kn od=>inner _ kn od (Nat.le_refl _)
def Bm (gv:Kn) (rc:Rn) (x:Str):Prop:=∃(b:Kn×List Str) (v:Int),jX gv rc [x] (kn0,[]) b/\b.1 x=some v
theorem Bm.one {gv:Kn}{rc:Rn}{x:Str} (h:Bm gv rc x) {a:Kn×List Str} (ha:JuA gv rc ([],a)):∃c,jJ gv rc ([x],a) ([],c)/\c.1 x≠none:=by
 obtain⟨b,v,hr,hv⟩:=h
 have hG:=JuA.runs hr JuA.zero
 obtain⟨kn',od',m,_,hx⟩:=hG.go b.2.length x (by
  rcases hG.n x (by show b.1 x≠none;rw[hv];simp) with c | c
  ·exact .inl c
  ·exact .inr (by show x∈b.2.take _;rw[List.take_length];exact c)) [] a.1 a.2 ha.top (fun z hz=>by cases hz)
 exact⟨(kn',od'),m,hx⟩
theorem zL {gv:Kn}{rc:Rn}{ws:List Str}{e:Er} (h:∀x∈ws,Bm gv rc x) (he:G9 gv rc ws (kn0,[]) e):False:=by
 obtain⟨i,x,b,t,hi,hr,hm,he⟩:=he
 obtain⟨c,m,_⟩:=(h x (List.mem_of_getElem? hi)).one (JuA.runs hr JuA.zero)
 have:=hm.errs he m (.inr rfl)
 rw[this] at he
 cases he
theorem OJ {gv:Kn}{rc:Rn}{x:Str}{e:Er} (he:G9 gv rc [x] (kn0,[]) e):¬Bm gv rc x:=fun h=>zL (fun y hy=>by rw[show y=x by simpa using hy];exact h) he
theorem Qz {gv:Kn}{rc:Rn}{ws:List Str}{b:Kn×List Str} (h:jX gv rc ws (kn0,[]) b) {x:Str} (hx:b.1 x≠none):Bm gv rc x:=by
 have hG:=JuA.runs h JuA.zero
 obtain⟨kn',od',m,_,hk⟩:=hG.go b.2.length x (by
  rcases hG.n x hx with c | c
  ·exact .inl c
  ·exact .inr (by show x∈b.2.take _;rw[List.take_length];exact c)) [] kn0 [] JuA.zero.top (fun z hz=>by cases hz)
 cases e:kn' x with
 | none=>exact absurd e hk
 | some v=>exact⟨(kn',od'),v,⟨_,m,rfl⟩,e⟩
section
variable {gv:Kn}{rc:Rn}{kn1 kn2:Kn}{rm1 rm2:Rm}
theorem QB (ag:KAg kn1 kn2) (s1:StG gv rc kn1 rm1) (s2:StG gv rc kn2 rm2) {x:Str}{q1 q2:R×List Rdp×Int} (e1:rm1 x=some q1) (e2:rm2 x=some q2):q1=q2:=by
 obtain⟨r,ps,u⟩:=q1
 obtain⟨r',qs,v⟩:=q2
 obtain⟨a1,_,_,t1,w1⟩:=s1.b _ _ _ _ e1
 obtain⟨a2,_,_,t2,w2⟩:=s2.b _ _ _ _ e2
 rw[a1] at a2;cases a2
 obtain⟨h1,h2⟩:=Ol t1.c t2.c t1.e t2.e fun p hp q hq e=>by
  have h1:=w1.s p hp
  have h2:=w2.s q hq
  rw[<-e] at h2
  exact ag _ _ _ h1 h2
 rw[h1,h2]
theorem O1 (ag:KAg kn1 kn2) (s2:StG gv rc kn2 rm2) {x:Str} (hx:kn2 x≠none) {y:Str} (h:Rch gv rc kn1 x y):kn2 y≠none:=by
 induction h with
 | refl=>exact hx
 | @step y z r _ hg hr hs ih=>
   obtain⟨qs,cq,eq,rq⟩:=hs
   cases ey:kn2 y with
   | none=>exact absurd ey ih
   | some v=>
     rcases s2.a _ _ ey with g2 | ⟨g2,r',ps,hr',m2⟩
     ·rw[hg] at g2;cases g2
     ·rw[hr] at hr';cases hr'
      obtain⟨_,_,_,t2,u2⟩:=s2.b _ _ _ _ m2
      have cT:Chn r kn0 (qs++[(z,0)]):=cq.app ⟨eq,trivial⟩
      have key:∀j p,j<qs.length->(qs++[(z,0)])[j]? =some p->kn2 p.1=some p.2:=fun j=>by
       induction j using Nat.strongRecOn with
       | ind j ihj=>
         intro p hj hp
         obtain⟨u,hu⟩:=again j cT t2.c t2.e u2.s (fun i p' hi hp'=>ihj i hi p' (by omega) hp') p hp
         have hm:p∈qs:=by
          rw[List.getElem?_append_left hj] at hp
          exact List.mem_of_getElem? hp
         rw[hu,ag _ _ _ (rq.s p hm) hu]
      obtain⟨u,hu⟩:=again qs.length cT t2.c t2.e u2.s key (z,0) (by simp)
      rw[hu];simp
theorem aa9 (ag:KAg kn1 kn2) (s2:StG gv rc kn2 rm2) {ws:List Str} (r1:∀y,kn1 y≠none->∃x∈ws,Rch gv rc kn1 x y) (w2:∀x∈ws,kn2 x≠none):Kn.Le kn1 kn2:=fun y v e=>by
 obtain⟨x,hx,h⟩:=r1 y (by rw[e];simp)
 cases e2:kn2 y with
 | none=>exact absurd e2 (O1 ag s2 (w2 x hx) h)
 | some u=>rw[ag _ _ _ e e2]
theorem O2 (h1:Kn.Le kn1 kn2) (h2:Kn.Le kn2 kn1):kn1=kn2:=by
 funext y
 cases e:kn1 y with
 | some v=>rw[h1 y v e]
 | none=>
   cases e2:kn2 y with
   | none=>rfl
   | some v=>rw[h2 y v e2] at e;cases e
theorem M3 (le:Kn.Le kn1 kn2) (s1:StG gv rc kn1 rm1) (s2:StG gv rc kn2 rm2) {x:Str}{q:R×List Rdp×Int} (e:rm1 x=some q):rm2 x=some q:=by
 obtain⟨r,ps,u⟩:=q
 obtain⟨a1,g1,k1,_,_⟩:=s1.b _ _ _ _ e
 rcases s2.a _ _ (le x u k1) with g2 | ⟨_,r',ps',_,m2⟩
 ·rw[g1] at g2;cases g2
 ·rw[m2,QB (fun y a b ha hb=>by rw[le y a ha] at hb;exact Option.some.inj hb) s1 s2 e m2]
theorem Wt (h:kn1=kn2) (s1:StG gv rc kn1 rm1) (s2:StG gv rc kn2 rm2):rm1=rm2:=by
 subst h
 funext x
 cases e:rm1 x with
 | some q=>rw[M3 (Kn.Le.refl _) s1 s2 e]
 | none=>
   cases e2:rm2 x with
   | none=>rfl
   | some q=>rw[M3 (Kn.Le.refl _) s2 s1 e2] at e;cases e
end
open PySem.Builtin.Int (intBits)
theorem aba {kn:Kn}{m:Nat} (h41:41<=m) (hm:m<=60000000) (hk:∀x v,kn x=some v->intBits v<=m) {r:R} (h:r.Top) (hd:r.depth<=6):r.Fn kn:=by
 rcases h with h | ⟨x,s,rfl,hs⟩
 ·exact vL r h
 ·simp only[R.depth] at hd
  exact⟨trivial,vL s hs,fun _ u v eu ev'=> .big (IntMulOk.of_le (xF hk (x:=x) eu) (pM h41 hk s 6 v hs (by omega) ev') (by omega))⟩
theorem BdI.runs {gv:Kn}{rc:Rn} (hg:∀x v,gv x=some v->intBits v<=41) (hr:∀x r,rc x=some r->r.Top/\r.depth<=6):∀{ws:List Str}{a b:Kn×List Str},jX gv rc ws a b->BdI rc ([],a)->BdI rc ([],b)
 |[],a,b,h,i=>by cases h;exact i
 | x::ws,a,b,⟨c,m,h⟩,i=>by
   have i1:BdI rc ([x],a):=⟨i.nd,i.kn,i.rc,i.b⟩
   exact BdI.runs hg hr h (m.mvs.inv (I:=BdI rc) (fun s t hs e=>hs.step hg hr e) i1)
theorem Wu {NS cs:List Str}{gv:Kn}{rc:Rn}{ws:List Str} (hin:∀x r,rc x=some r->r.In NS) (hok:∀y∈NS,Tw y) (hw:∀x∈ws,x∈NS) (hcs:∀x,rc x≠none->x∈cs) (hl:cs.length<=20) (hg:∀x v,gv x=some v->intBits v<=41) (hr:∀x r,rc x=some r->r.Top/\r.depth<=6):vI gv rc ws (kn0,[]):=fun i x b t hi hru hm=>by
 have i0:BdI rc ([],kn0,[]):=
  {nd:=List.nodup_nil,kn:=(fun x h=>by cases h),rc:=(fun x h=>by cases h),b:=(fun x v h=>by
    have h:(none:Option Int)=some v:=h
    cases h)}
 have i1:=BdI.runs hg hr hru i0
 have i2:BdI rc ([x],b):=⟨i1.nd,i1.kn,i1.rc,i1.b⟩
 have i3:=hm.mvs.inv (I:=BdI rc) (fun s t hs e=>hs.step hg hr e) i2
 have hn:∀y∈t.1,y∈NS:=hm.mvs.inv (I:=fun s=>∀y∈s.1,y∈NS) (fun _ _ h e=>TJ hin h e) (fun y hy=>by
  have:y=x:=by simpa using hy
  rw[this];exact hw x (List.mem_of_getElem? hi))
 have hlen:t.2.2.length<=20:=Nat.le_trans (dH i3.nd (fun y hy=>hcs y (i3.rc y hy))) hl
 have hb:=Nat.le_trans (Ox hlen) adZ
 obtain⟨p,kn,od⟩:=t
 intro y hy hk hg'
 refine⟨fun r hr'=>aba (Ow od.length) hb i3.b (hr y r hr').1 (hr y r hr').2,fun _=>hok y (hn y ?_)⟩
 cases p with
 | nil=>cases hy
 | cons z p=>cases hy;simp
end RB
namespace RB
open PySem L2 PySem.Spec PyProof.Rows
section
variable {prog:Program}{w:World}{A:Around}{E:Value->Shared->Prop}{s:Shared}
end
section
variable {prog:Program}{w:World}{A:Around}{R:Result->Shared->Prop}{I:Addr}{fp wr:List Addr}{G:Array GenState->Array GenState->Prop}{n:Nat}{P:Nat->Value->Prop}{St:Nat->Shared->Prop}
end
section
variable {prog:Program}{w:World}{A:Around}{E:Value->Shared->Prop}{s:Shared}
end
namespace SI
end SI
section
variable {prog:Program}{w:World}{A:Around}{E:Value->Shared->Prop}{s:Shared}
end
namespace SI
end SI
section
variable {prog:Program}{w:World}{A:Around}{E:Value->Shared->Prop}{s:Shared}
end
section
variable {prog:Program}{w:World}{A:Around}{E:Value->Shared->Prop}{s:Shared}
end
section
variable {prog:Program}{w:World}{A:Around}{E:Value->Shared->Prop}{s:Shared}
end
end RB
namespace TS
open PySem PyProof.Rows
section
variable {prog:Program}{w:World}{A:Around}{E:Value->Shared->Prop}{s:Shared}
end
section
variable {κ:PyProof.Rows.KeyKind}
end
section
variable {prog:Program}{w:World}{A:Around}{E:Value->Shared->Prop}{s:Shared}{κ:PyProof.Rows.KeyKind}
end
section
variable {prog:Program}{w:World}{A:Around}{E:Value->Shared->Prop}{s:Shared}{κ:PyProof.Rows.KeyKind}
end
section
variable {prog:Program}{w:World}{A:Around}{E:Value->Shared->Prop}{s:Shared}{κ:PyProof.Rows.KeyKind}{a b r:Array Keyed}{i j:Nat}{st st':SortSt}
end
section
variable {prog:Program}{w:World}{A:Around}{E:Value->Shared->Prop}{s:Shared}{κ:PyProof.Rows.KeyKind}{a b r:Array Keyed}{i j:Nat}{st st':SortSt}
end
section
variable {prog:Program}{w:World}{A:Around}{E:Value->Shared->Prop}{s:Shared}{κ:PyProof.Rows.KeyKind}{a b r:Array Keyed}{i j:Nat}{st st':SortSt}
end
section
variable {κ:PyProof.Rows.KeyKind}
end
section
variable {κ:PyProof.Rows.KeyKind}{a b r:Array Keyed}{i j:Nat}
end
section
variable {prog:Program}{w:World}{A:Around}{E:Value->Shared->Prop}{s:Shared}{κ:PyProof.Rows.KeyKind}{a b r:Array Keyed}{i j:Nat}{st st':SortSt}
end
section
variable {prog:Program}{w:World}{A:Around}{E:Value->Shared->Prop}{s:Shared}{κ:PyProof.Rows.KeyKind}{a b r:Array Keyed}{i j:Nat}{st st':SortSt}
end
section
variable {prog:Program}{w:World}{A:Around}{E:Value->Shared->Prop}{s:Shared}{κ:PyProof.Rows.KeyKind}{st:SortSt}
end
section
variable {prog:Program}{w:World}{A:Around}{E:Value->Shared->Prop}{s:Shared}{κ:PyProof.Rows.KeyKind}{st:SortSt}
end
section
variable {prog:Program}{w:World}{A:Around}{E:Value->Shared->Prop}{s:Shared}{κ:PyProof.Rows.KeyKind}{a₀:Array Keyed}{p₀:Array (Nat×Nat×Nat)}{b:Nat}{st:SortSt}
end
section
variable {prog:Program}{w:World}{A:Around}{E:Value->Shared->Prop}{s:Shared}{κ:PyProof.Rows.KeyKind}{a₀:Array Keyed}{p₀:Array (Nat×Nat×Nat)}{b:Nat}{st:SortSt}
end
section
variable {prog:Program}{w:World}{A:Around}{E:Value->Shared->Prop}{s:Shared}{κ:PyProof.Rows.KeyKind}{a₀:Array Keyed}{st:SortSt}{Rs:List (List Keyed)}{S:List Keyed}
end
section
variable {prog:Program}{w:World}{A:Around}{E:Value->Shared->Prop}{s:Shared}{κ:PyProof.Rows.KeyKind}{a₀:Array Keyed}{st:SortSt}{Rs:List (List Keyed)}{S:List Keyed}
end
section
variable {prog:Program}{w:World}{A:Around}{E:Value->Shared->Prop}{s:Shared}{κ:PyProof.Rows.KeyKind}{a₀:Array Keyed}{st:SortSt}{Rs:List (List Keyed)}{S:List Keyed}
end
section
variable {prog:Program}{w:World}{A:Around}{E:Value->Shared->Prop}{s:Shared}{κ:PyProof.Rows.KeyKind}
end
end TS
namespace RB
open PySem L2 PySem.Spec PyProof.Rows
namespace SI
end SI
section
variable {prog:Program}{w:World}{A:Around}{E:Value->Shared->Prop}{s:Shared}
end
end RB
namespace L2
open PySem PySem.Spec PyProof.Rows RB
section
variable {X:Cx}{pins:List (Addr×Obj)}{σ:List (Option V)}{H:Hp}{s:Shared}
end
end L2
namespace L2
open PySem PySem.Spec PyProof.Rows
namespace SI
end SI
end L2
namespace RB
open PySem L2 PySem.Spec PyProof.Rows
namespace SI
end SI
section
variable {prog:Program}{w:World}{A:Around}{E:Value->Shared->Prop}{s:Shared}
end
end RB
namespace L2
open PySem PySem.Spec PyProof.Rows RB
section
variable {X:Cx}{tg:Expr}
end
end L2
namespace RB
open PySem L2 PySem.Spec PyProof.Rows
end RB
namespace L2
open PySem PySem.Spec PyProof.Rows
section
variable {P:Program}{w:World}{A:Around}{E:Value->Shared->Prop}{s:Shared}
end
section
variable {P:Program}{w:World}{A:Around}{E:Value->Shared->Prop}{s:Shared}{u:Value}
end
section
variable {P:Program}{w:World}{A:Around}{E:Value->Shared->Prop}{s:Shared}{d it:Addr}{es:Array DictEntry}{ep i:Nat}
end
section
variable {P:Program}{w:World}{A:Around}{E:Value->Shared->Prop}{s:Shared}{d it:Addr}{es:Array DictEntry}{ep i:Nat}
end
section
variable {X:Cx}{tg:Expr}
end
section
variable {X:Cx}{pins:List (Addr×Obj)}{σ:St}{H:Hp}{s:Shared}{a:Addr}{kvs:List (Key×V)}{last:Option (V×V)}{y:Str}{u:Value}{A:Around}{E:Value->Shared->Prop}
end
section
variable {X:Cx}{o i:Expr}{pos:Pos}{td ty:TE}
end
section
variable {X:Cx}
end
end L2
namespace L2
open PySem PySem.Spec PyProof.Rows RB
theorem T8 {x y z:V}{us:List Value} (r:Vals [x,y,z] us):∃u v w',us=[u,v,w']/\RelV x u/\RelV y v/\RelV z w':=by
 cases r with
 | cons r1 r=>
   obtain⟨v,w',rfl,r2,r3⟩:=vals2 r
   exact⟨_,v,w',rfl,r1,r2,r3⟩
end L2
namespace RB
open PySem L2 PySem.Spec PyProof.Rows
section
variable {ns:List Str}{gv:Kn}{rc:Rn}{kn1 kn2:Kn}{rm1 rm2:Rm}
end
end RB
namespace L2
open PySem PySem.Spec PyProof.Rows RB
end L2
namespace RB
open PySem L2 PySem.Spec PyProof.Rows
section
variable {K:PySem.W.Frag}{H:Hp}{kg kc kg' kc':List (Key×V)}{gs cs gs' cs':List Str}{gv gv':Kn}{rc rc':Rn}
end
end RB
namespace L2
open PySem PySem.Spec PyProof.Rows
theorem iQ.u80 {k:Nat}{A:Around} (r:iQ k A):A.units+80<cLine:=by have:=r.un;omega
end L2
namespace RB
open PySem L2 PySem.Spec PyProof.Rows
def Rm.over (a b:Rm):Rm:=fun x=>match b x with
 | some q=>some q
 | none=>a x
theorem yx:∀{more kvs:List (Key×V)}{ns ms:List Str},iz kvs ns->more.map (·.1)=ms.map Sum.inr->∃ns',iz (eU kvs more) ns'
 |[],kvs,ns,ms,h,_=>⟨ns,h⟩
 | p::more,kvs,ns,[],h,e=>by simp at e
 | (k,v)::more,kvs,ns,y::ms,h,e=>by
   simp only[List.map_cons,List.cons.injEq] at e
   obtain⟨rfl,e2⟩:=e
   obtain⟨ns1,h1⟩:=Tf h y v
   exact yx (more:=more) (ms:=ms) h1 e2
theorem j9.merge {H:Hp}{kr ks:List (Key×V)}{rm rmN:Rm} (h:j9 H kr rm) (h2:j9 H ks rmN):j9 H (eU kr ks) (rm.over rmN):=by
 obtain⟨rs,k1⟩:=h.k
 obtain⟨sn,k2⟩:=h2.k
 refine⟨yx k1 k2.k,fun x q e=> ?_,fun x e=> ?_⟩
 ·rw[tZ k2.nd1]
  unfold Rm.over at e
  cases e2:rmN x with
  | some q2=>
    rw[e2] at e
    cases e
    obtain⟨b,hb,ra⟩:=h2.v x _ e2
    exact⟨b,by rw[hb],ra⟩
  | none=>
    rw[e2] at e
    obtain⟨b,hb,ra⟩:=h.v x q e
    exact⟨b,by rw[h2.w x e2];exact hb,ra⟩
 ·rw[tZ k2.nd1]
  unfold Rm.over at e
  cases e2:rmN x with
  | some q2=>rw[e2] at e;cases e
  | none=>
    rw[e2] at e
    rw[h2.w x e2];exact h.w x e
structure Frs (gv:Kn) (rc:Rn) (ws:List Str) (H H':Hp) (t kd sd l:Addr) (kw ks:List (Key×V)) (sn:List Str) (kn:Kn) (rm:Rm):Prop where
 s:aN H H'
 et:H' t=some (.tup [.ref kd, .ref sd, .ref l])
 fk:H kd=none
 fs:H sd=none
 fl:H l=none
 ne:kd≠sd
 ek:H' kd=some (.dK kw)
 wn:∃wn,iz kw wn/\wn.length<=60
 kv:∀x,cI kw (.inr x)=(kn x).map V.int
 es:H' sd=some (.dK ks)
 kk:iz ks sn
 rr:RecM H H' ks rm
 el:H' l=some (.lst (sn.map V.str))
 b:SN gv rc (fun _=>none) ws kn rm (fun x=>(rm x).isSome) sn
 r:jX gv rc ws (kn0,[]) (kn,sn)
theorem Wv:∀y∈FT,Tw y:=fun y hy=>by
 have h:=MT y hy
 exact⟨by have:=h.2.1;omega,fun c hc=>by have:=h.2.2 c hc;unfold GC at this;omega⟩
theorem Ho4.safe {gs cs:List Str}{gv:Kn}{rc:Rn}{H:Hp}{h g c:Addr} (k:Ho4 gs cs gv rc) (ho:pL H h g c gs cs gv rc) {ws:List Str} (hw:∀x∈ws,x∈FT):vI gv rc ws (kn0,[]):=by
 obtain⟨kg,kc,_,_,_,b⟩:=ho
 exact Wu (NS:=FT) (cs:=cs) (fun x r e=>(k.o x r e).i) Wv hw (fun x hx=>b.cm hx) (by have:=k.l;omega) k.b (fun x r e=>⟨(k.o x r e).t,by have:=(k.o x r e).d;omega⟩)
theorem Ho4.good {gs cs:List Str}{gv:Kn}{rc:Rn}{H:Hp}{h g c:Addr} (k:Ho4 gs cs gv rc) (ho:pL H h g c gs cs gv rc) {kn:Kn}{rm:Rm} (s:StG gv rc kn rm):(∀y,kn y≠none->y∈dW)/\RmG rm:=by
 obtain⟨kg,kc,_,_,_,b⟩:=ho
 have h1:∀y,kn y≠none->y∈dW:=fun y hy=>by
  rcases List.mem_append.mp (s.SM b hy) with z | z
  ·exact List.mem_of_mem_take (k.gk y z)
  ·exact List.mem_of_mem_take (k.ck y z)
 exact⟨h1,s.rmG (fun x r e=>⟨(k.o x r e).g,by have:=(k.o x r e).d;omega⟩) fun y hy=>MP y (h1 y hy)⟩
theorem Bm.given {gv:Kn}{rc:Rn}{x:Str}{v:Int} (h:gv x=some v):Bm gv rc x:=by
 have hk:kn0 x=none:=rfl
 have hkx:(kn0.put x v) x=some v:=by unfold Kn.put;rw[if_pos rfl]
 exact⟨(kn0.put x v,[]),v,⟨_,((jJ.refl _).snoc (xx h) (Ie hk h)).snoc (xu hkx) (Bh (by rw[hkx];simp)),rfl⟩,hkx⟩
theorem Ho4.aT {gs cs:List Str}{gv:Kn}{rc:Rn}{H:Hp}{h g c:Addr} (k:Ho4 gs cs gv rc) (ho:pL H h g c gs cs gv rc):Bm gv rc "a":=by
 obtain⟨kg,kc,_,_,_,b⟩:=ho
 cases e:gv "a" with
 | some v=>exact Bm.given e
 | none=>
   have:=b.k1.none (x:="a")
   rw[b.g,e] at this
   exact absurd k.a (this.mp rfl)
section
variable {gv:Kn}{rc:Rn}{ws us:List Str}{H H' G G':Hp}{t kd sd l t2 kd2 sd2 l2:Addr}{kw ks kw2 ks2:List (Key×V)}{sn sn2:List Str}{kn kn2:Kn}{rm rm2:Rm}
theorem Frs.le (f:Frs gv rc ws H H' t kd sd l kw ks sn kn rm) (f2:Frs gv rc us G G' t2 kd2 sd2 l2 kw2 ks2 sn2 kn2 rm2) (h:∀x∈ws,kn2 x≠none):Kn.Le kn kn2:=
 aa9 (Fb f.r f2.r) f2.b.ok f.b.r h
theorem Frs.eq (f:Frs gv rc ws H H' t kd sd l kw ks sn kn rm) (f2:Frs gv rc us G G' t2 kd2 sd2 l2 kw2 ks2 sn2 kn2 rm2) (h1:∀x∈ws,x∈us) (h2:∀x∈us,kn x≠none):kn2=kn/\rm2=rm:=by
 have e:=O2 (f2.le f h2) (f.le f2 fun x hx=>f2.b.w x (h1 x hx))
 exact⟨e,Wt e f2.b.ok f.b.ok⟩
theorem Frs.tol (f:Frs gv rc ws H H' t kd sd l kw ks sn kn rm) {x:Str} (hx:kn x≠none):Bm gv rc x:=Qz f.r hx
theorem Frs.od (f:Frs gv rc ws H H' t kd sd l kw ks sn kn rm) {x:Str} (hx:x∈sn):kn x≠none:=by
 have:=(f.b.om x).mp hx
 cases e:rm x with
 | none=>exact absurd e this
 | some q=>
   obtain⟨r,ps,v⟩:=q
   rw[(f.b.ok.b _ _ _ _ e).2.2.1];simp
theorem Frs.wnm (f:Frs gv rc ws H H' t kd sd l kw ks sn kn rm) {wn:List Str} (k:iz kw wn) {x:Str}:x∈wn ↔ kn x≠none:=nC k f.kv x
theorem QC (f:Frs gv rc ws H H' t kd sd l kw ks sn kn rm) (f2:Frs gv rc us G G' t2 kd2 sd2 l2 kw2 ks2 sn2 kn2 rm) {as bs:List Str} (h1:as.Perm sn2) (s1:sortedS as=true) (h2:bs.Perm sn) (s2:sortedS bs=true):as=bs:=
 MF h1 s1 h2 s2 f2.b.nd f.b.nd fun x=>(f2.b.om x).trans (f.b.om x).symm
structure Tog (kn:Kn) (rm:Rm) (kT:Kn) (rT:Rm):Prop where
 le:Kn.Le kT kn
 y:∀x,kT x≠none->rT x=rm x
 n:∀x,kT x=none->rT x=none
theorem Tog.zero:Tog kn rm kn0 (fun _=>none):=⟨fun x v e=>(by cases e),fun x h=>absurd rfl h,fun _ _=>rfl⟩
theorem StG.Ww {gv:Kn}{rc:Rn}{kn kn2:Kn}{rm rm2:Rm} (s1:StG gv rc kn rm) (s2:StG gv rc kn2 rm2) (le:Kn.Le kn2 kn) {x:Str} (hx:kn2 x≠none):rm2 x=rm x:=by
 cases e:rm2 x with
 | some q=>exact(M3 le s2 s1 e).symm
 | none=>
   cases ek:kn2 x with
   | none=>exact absurd ek hx
   | some v=>
     rcases s2.a _ _ ek with g | ⟨g,r,ps,_,m⟩
     ·cases e1:rm x with
      | none=>rfl
      | some q=>
        obtain⟨r,ps,v⟩:=q
        rw[(s1.b _ _ _ _ e1).2.1] at g;cases g
     ·rw[e] at m;cases m
theorem Tog.step {gv:Kn}{rc:Rn}{kn kn2 kT:Kn}{rm rm2 rT:Rm} (h:Tog kn rm kT rT) (s1:StG gv rc kn rm) (s2:StG gv rc kn2 rm2) (le:Kn.Le kn2 kn):Tog kn rm (kT.over kn2) (rT.over rm2):=by
 have nn:∀x,kn2 x=none->rm2 x=none:=fun x hx=>by
  cases e:rm2 x with
  | none=>rfl
  | some q=>
    obtain⟨r,ps,v⟩:=q
    rw[(s2.b _ _ _ _ e).2.2.1] at hx;cases hx
 refine⟨fun x v e=> ?_,fun x hx=> ?_,fun x hx=> ?_⟩
 ·unfold Kn.over at e
  cases e2:kn2 x with
  | some u=>rw[e2] at e;cases e;exact le x _ e2
  | none=>rw[e2] at e;exact h.le x v e
 ·unfold Rm.over
  cases e2:kn2 x with
  | some u=>
    have e3:=s1.Ww s2 le (x:=x) (by rw[e2];simp)
    cases e4:rm2 x with
    | some q=>rw[<-e3,e4]
    | none=>
      rw[e4] at e3
      show rT x=rm x
      cases ek:kT x with
      | some w=>exact h.y x (by rw[ek];simp)
      | none=>rw[h.n x ek,<-e3]
  | none=>
    rw[nn x e2]
    show rT x=rm x
    refine h.y x ?_
    unfold Kn.over at hx
    rw[e2] at hx;exact hx
 ·unfold Kn.over at hx
  unfold Rm.over
  cases e2:kn2 x with
  | some u=>rw[e2] at hx;cases hx
  | none=>
    rw[e2] at hx
    rw[nn x e2]
    exact h.n x hx
theorem Tog.full {gv:Kn}{rc:Rn}{kn kT:Kn}{rm rT:Rm} (h:Tog kn rm kT rT) (s1:StG gv rc kn rm) (hf:∀y,kn y≠none->kT y≠none):kT=kn/\rT=rm:=by
 have e1:kT=kn:=O2 h.le fun x v e=>by
  cases ek:kT x with
  | none=>exact absurd ek (hf x (by rw[e];simp))
  | some u=>rw[<-h.le x u ek,e]
 refine⟨e1, ?_⟩
 funext x
 by_cases z:kT x=none
 ·rw[h.n x z]
  cases e:rm x with
  | none=>rfl
  | some q=>
    obtain⟨r,ps,v⟩:=q
    rw[e1,(s1.b _ _ _ _ e).2.2.1] at z;cases z
 ·exact h.y x z
theorem Wx {a b:Kn}{x:Str} (h:a x≠none\/b x≠none):a.over b x≠none:=by
 unfold Kn.over
 cases e:b x with
 | some v=>simp
 | none=>exact h.resolve_right (fun w=>w e)
end
end RB
namespace L2
open PySem PySem.Spec PyProof.Rows RB
theorem Ip {X:Cx}:JS (CXd X.prog X.w) X (fun _ _ _ _=>False):=fun pins σ H s e s' I h=>by
 obtain⟨a,cls,d,H',_,_,z⟩:=h
 exact z.elim
theorem QD {X:Cx}{pins:List (Addr×Obj)}{s:Shared}{σ:St}{H:Hp}{A:Around}{a b:Addr}{ka kb:List (Key×V)} (I:Inv X pins σ H s) (ha:Rd H a (.dK ka)) (hb:Rd H b (.dK kb)) (h:zH X.K H ka kb) (hu:A.units+66<cLine):qC X.prog X.w A s (.ref a) (.ref b):=fun E Q q=>by
 by_cases hab:a=b
 ·subst hab;exact SeqAt.EqAt.same (.ref a) X.prog X.w E Q q
 obtain⟨_,lo,va,r1,da⟩:=vh I.hok ha
 obtain⟨_,lo',vb,r2,db⟩:=vh I.hok hb
 unfold eqBool
 refine wpAny_holding (wpAny_ite_split (fun z=>absurd (by have:=eq_of_beq z;injection this) hab) fun _=>wpAny_bind ?_)
 refine PySem.W.keq_eq (r:=true) lo lo' da db (by omega) (fun _=>Kp I r1 r2 h (by simp only[Around.in1_units];omega)) ?_
 rw[show va.length=vb.length by rw[<-r1.length,<-r2.length];exact h.1,show(vb.length==vb.length&&true)=true by simp]
 exact wpAny_truthy_bool q
def FW (K:PySem.W.Frag) (H:Hp) (x y:V):Prop:=aa2 K H x y\/∃a b ka kb,x= .ref a/\y= .ref b/\Rd H a (.dK ka)/\Rd H b (.dK kb)/\zH K H ka kb
theorem Ir {X:Cx}{pins:List (Addr×Obj)}{s:Shared}{σ:St}{H:Hp}{A:Around}{x y:V}{z z':Value} (I:Inv X pins σ H s) (rz:RelV x z) (rz':RelV y z') (h:FW X.K H x y) (hu:A.units+67<cLine):qC X.prog X.w A.in1 s z z':=by
 have k1:A.in1.units=A.units+1:=rfl
 rcases h with h | ⟨a,b,ka,kb,e1,e2,ha,hb,h⟩
 ·exact aa3 I rz rz' h (by omega)
 ·rw[e1] at rz
  rw[e2] at rz'
  cases rz
  cases rz'
  exact QD I ha hb h (by omega)
def ag5 (K:PySem.W.Frag) (neg:Bool):R2:=fun x y H Q=>∃a b xs ys,x= .ref a/\y= .ref b/\SqL K H a xs/\SqL K H b ys/\xs.length=ys.length/\(∀(i:Nat) x y,xs[i]? =some x->ys[i]? =some y->FW K H x y)/\Q (.bl (!neg)) H
theorem Wy {X:Cx}{pins:List (Addr×Obj)}{s:Shared}{σ:St}{H:Hp}{xs ys:List V}{its its':List Value} (I:Inv X pins σ H s) (r:Vals xs its) (r':Vals ys its') (he:∀(i:Nat) x y,xs[i]? =some x->ys[i]? =some y->FW X.K H x y) (hu:X.A.units+67<cLine):∀j (u:j<its.toArray.size) (v:j<its'.toArray.size),qC X.prog X.w X.A.in1 s its.toArray[j] its'.toArray[j]:=fun j u v=>by
 have l1:=r.length
 have l2:=r'.length
 have u':j<its.length:=by simpa using u
 have v':j<its'.length:=by simpa using v
 have hx:xs[j]? =some (xs[j]'(by omega)):=List.getElem?_eq_getElem _
 have hy:ys[j]? =some (ys[j]'(by omega)):=List.getElem?_eq_getElem _
 obtain⟨z,hz,rz⟩:=r.get hx
 obtain⟨z',hz',rz'⟩:=r'.get hy
 have e1:its.toArray[j]=z:=by
  have:its[j]? =some its[j]:=List.getElem?_eq_getElem u'
  rw[this] at hz;simpa using Option.some.inj hz
 have e2:its'.toArray[j]=z':=by
  have:its'[j]? =some its'[j]:=List.getElem?_eq_getElem v'
  rw[this] at hz';simpa using Option.some.inj hz'
 rw[e1,e2]
 exact Ir I rz rz' (he j _ _ hx hy) hu
theorem QF {X:Cx} (hu:X.A.units+80<cLine):QOp X (compareOp .NotEq) (ag5 X.K true):=⟨fun pins s σ H x y v u Q I rx ry h=>by
 obtain⟨a,b,xs,ys,rfl,rfl,ha,hb,hl,he,q⟩:=h
 cases rx
 cases ry
 obtain⟨its,r,pl,_⟩:=I.list ha
 obtain⟨its',r',pl',_⟩:=I.list hb
 have l1:=r.length
 have l2:=r'.length
 exact Mx pl.isList pl'.isList (by simp;omega) (by omega) (Wy I r r' he (by omega)) ⟨.bl false,H,I,rfl,q⟩⟩
theorem Iu {P:Program}{w:World} (a b:Addr) (x1 x2 x3 y1 y2 y3:Value) (n m:Nat) (d1 d2:Option Addr) (t1 t2:Array (Option Value)):
 MeetsIn P w (Builtin.«tuple.__eq__» ⟨[.ref a, .ref b],[]⟩)
  (fun A R s=>s.heap.get? a=some {cls:= .type "tuple",dict:=d1,data:= .seq #[x1,x2,x3] n,slots:=t1}/\s.heap.get? b=some {cls:= .type "tuple",dict:=d2,data:= .seq #[y1,y2,y3] m,slots:=t2}/\
    qC P w A.in1 s x1 y1/\qC P w A.in1 s x2 y2/\qC P w A.in1 s x3 y3/\R (.ok (.ret (.bool true))) s):=by
 intro A R s z
 obtain⟨hp,g,d,tk,os⟩:=s
 obtain⟨z1,z2,e1,e2,e3,z⟩:=z
 have f2:=AutoSeq1.sub_tuple_tuple
 wp_walk using AutoSeq1.wpAny_loadPart' z1,AutoSeq1.wpAny_loadPart' z2,wpAny_forIn_list _ (fun rest c s'=>c.1=none/\s'=⟨hp,g,d,tk,os⟩/\(rest=[(x1,y1),(x2,y2),(x3,y3)]\/rest=[(x2,y2),(x3,y3)]\/rest=[(x3,y3)]\/rest=[])) _
 case turn=>
  rintro⟨y,x⟩ rest c s' ⟨hc,rfl,h⟩
  rcases h with h | h | h | h
  ·cases h
   refine wpAny_bind (e1 _ _ ?_)
   wp_walk
   exact⟨rfl,rfl, .inr (.inl rfl)⟩
  ·cases h
   refine wpAny_bind (e2 _ _ ?_)
   wp_walk
   exact⟨rfl,rfl, .inr (.inr (.inl rfl))⟩
  ·cases h
   refine wpAny_bind (e3 _ _ ?_)
   wp_walk
   exact⟨rfl,rfl, .inr (.inr (.inr rfl))⟩
  ·cases h
 case fin=>
  rintro⟨c1,c2⟩ s' ⟨hc,rfl,_⟩
  simp only at hc
  subst hc
  wp_walk
  first | exact z | exact⟨_,rfl,z⟩
 case h=>exact⟨rfl,rfl, .inl rfl⟩
def abb (K:PySem.W.Frag) (neg:Bool):R2:=fun x y H Q=>∃a b x1 x2 x3 y1 y2 y3,x= .ref a/\y= .ref b/\H a=some (.tup [x1,x2,x3])/\H b=some (.tup [y1,y2,y3])/\FW K H x1 y1/\FW K H x2 y2/\FW K H x3 y3/\Q (.bl (!neg)) H
theorem KD {X:Cx} (hu:X.A.units+80<cLine):QOp X (compareOp .Eq) (abb X.K false):=⟨fun pins s σ H x y v u Q I rx ry h=>by
 obtain⟨a,b,x1,x2,x3,y1,y2,y3,rfl,rfl,ha,hb,q1,q2,q3,q⟩:=h
 cases rx
 cases ry
 obtain⟨us,ru,ta,_⟩:=I.tuple (SqT.of ha)
 obtain⟨ws,rw',tb,_⟩:=I.tuple (SqT.of hb)
 obtain⟨u1,u2,u3,rfl,k1,k2,k3⟩:=T8 ru
 obtain⟨v1,v2,v3,rfl,k4,k5,k6⟩:=T8 rw'
 obtain⟨⟨c1,d1',dt1,t1⟩,hp,hc1,n,hd1⟩:=ta
 obtain⟨⟨c2,d2',dt2,t2⟩,hq,hc2,m,hd2⟩:=tb
 simp only at hc1 hd1 hc2 hd2
 subst hc1 hd1 hc2 hd2
 have hT:s.TypeIs (.ref a) "tuple":=⟨_,hp,rfl⟩
 refine wpAny_richCompare_same_room (op:= .Eq) hT ⟨_,hq,rfl⟩ F.slot_tuple_eq (call_meetsIn F.slot_tuple_eq hT F.entry_tuple_eq (F.args_tuple_eq_2 _ _) (Iu a b _ _ _ _ _ _ n m d1' d2' t1 t2) ⟨hp,hq,Ir I k1 k4 q1 (by omega),Ir I k2 k5 q2 (by omega),Ir I k3 k6 q3 (by omega), ?_⟩) (by omega)
 exact⟨(fun x=>nomatch x),⟨.bl true,H,I,rfl,q⟩⟩⟩
def ag6 (t:TS):TS:=fun D σ H=>∃N:St->Hp->Prop,(∀σ' H',N σ' H'->D.nx σ' H')/\t {D with nx:=N} σ H
theorem Iv {X:Cx}{st:Stmt}{t:TS} (h:QS X st t):QS X st (ag6 t):=⟨by
 intro pins s σ H D I ⟨N,hN,q⟩
 refine thn (h.h pins s σ H _ I q) fun f s' q=> ?_
 cases f with
 | next=>obtain⟨σ',H',J,q⟩:=q;exact⟨σ',H',J,hN σ' H' q⟩
 | brk=>exact q
 | cont=>exact q
 | ret u=>exact q⟩
end L2
set_option maxHeartbeats 4000000
namespace K18
open PySem L2 PySem.Spec PyProof.Rows RB
local macro_rules | `(tactic| walk_at "ne") => `(tactic| first | assumption | exact Ne.symm (by assumption) | exact aF (by assumption) (by assumption) | exact Ne.symm (aF (by assumption) (by assumption)))
local macro_rules | `(tactic| walk_at "heap") => `(tactic| first | assumption | exact ak | (refine (ao (by walk_at "ne")).trans ?_; walk_at "heap"))
local macro_rules | `(tactic| walk_at "side") => `(tactic| first | with_reducible rfl | rfl | assumption | exact SqL.of (by walk_at "heap") | exact SqT.of (by walk_at "heap") | exact Or.inl (SqL.of (by walk_at "heap")) | exact Or.inr (SqT.of (by walk_at "heap")) | exact qw.str _ | exact qw.int _ | exact qw.bl _ | exact qw.tup (by walk_at "heap") | exact Or.inl ⟨rfl, _, SqL.of (by walk_at "heap")⟩ | exact Or.inl ⟨_, SqL.of (by walk_at "heap"), rfl⟩ | exact ad4 _ | exact Or.inl (by assumption) | exact Or.inr (by assumption) | walk_at "heap" | omega | (show _ ≤ sizeLine; decide) | (show _ < sizeLine; decide) | exact Or.inr ⟨by decide, by decide⟩ | exact Or.inl ⟨by decide, by decide⟩ | exact Or.inl ⟨by omega, by omega⟩ | exact Or.inr ⟨by omega, by omega⟩ | exact tH.inr ⟨by decide, by decide⟩ | exact tH.inl ⟨by decide, by decide⟩ | exact tH.inl ⟨by omega, by omega⟩ | exact tH.inr ⟨by omega, by omega⟩ | exact ⟨by omega, by decide⟩ | exact ⟨by omega, by assumption⟩ | exact ⟨by decide, by decide, by decide⟩ | exact ⟨_, SqT.of (by walk_at "heap")⟩ | exact ⟨_, SqL.of (by walk_at "heap")⟩ | (intro z; exact absurd (show (1 : Nat) = 0 from z.1) (by decide)) | (show Nat.log2 _ < 9000; decide +kernel) | ((rw [sizeLine_eq]); (try simp only [len_app]); omega) | exact Nat.le_of_lt (bG (by (simp only [List.length_cons, List.length_nil]); omega)) | decide +kernel)
local macro_rules | `(tactic| walk_at "v") => `(tactic| first
 | ((apply Exists.intro); (repeat apply Exists.intro); (refine And.intro ?_ ?_); walk_at "side")
 | ((refine And.intro ?_ ?_); walk_at "side"))
local macro_rules | `(tactic| walk_at "vs") => `(tactic| repeat walk_at "v")
def top (i:Nat):Stmt:=PySem.Challenge.pw_madeagain_k18_whole_wishes_turned_about.main.body.getD i (.Pass ⟨0,0,0,0⟩)
def vM (i j:Nat):Stmt:=match top i with
 | .ClassDef _ _ _ b _ _ _ _ _ _ _=>b.getD j (.Pass ⟨0,0,0,0⟩)
 | _=> .Pass ⟨0,0,0,0⟩
section
local macro_rules | `(tactic| walk_at "side") => `(tactic| first | exact HJ _ _ _ | exact DP _ _ _ | exact DQ _ _ _ | exact Yj _ _ _ | exact zz _ _ _ | exact Nat.le_of_ble_eq_true rfl)
variable {P:Program}{w:World}{K:PySem.W.Frag}{mg:Str->Option Value}{base:Heap}{C:Addr}
abbrev jK:Stmt:=top 6
theorem QH:bL ["kind","r","s"] ["kind","r","s"] (aa jK):=⟨rfl,rfl,rfl,by decide +kernel,rfl,by decide +kernel,by decide +kernel⟩
theorem pN:aG (aa jK) "kind":=by decide +kernel
theorem ql:aG (aa jK) "r":=by decide +kernel
theorem qm:aG (aa jK) "s":=by decide +kernel
theorem FZ:(aa jK).names.lookup ("max":Str)=some NameKind.globalImplicit:=by decide +kernel
theorem Ga:("max":Str)≠"__name__":=by decide +kernel
theorem Gb:(("max":Str)==("__debug__":Str))=false:=by decide +kernel
theorem QJ {f:Addr}{fd:FuncData} (nH:FnT K mg "joined" jK ["kind","r","s"] f fd) (T:Blt mg):aY P w K mg base CX0 1 f fd ["kind","r","s"] N7:=by
 refine nH.F.okQ QH (fun vs H Q E h=> ?_) (fun cdv A outer s H vs Q E hr h=> ?_)
 ·obtain⟨op,u,v,rfl,_⟩:=h
  rfl
 obtain⟨op,u,v,rfl,hm,q⟩:=h
 refine⟨_,(az (fJ (cW gF (aj 0 pN) aV (bH _)) (aC (bY (bM jF (aj 1 ql) (aj 2 qm)))) cZ)
  (az (fJ (cW gF (aj 0 pN) aV (bH _)) (aC (bY (bM jR (aj 1 ql) (aj 2 qm)))) cZ)
  (az (fJ (cW gF (aj 0 pN) aV (bH _)) (aC (bY (bM oV (aj 1 ql) (aj 2 qm)))) cZ)
  (aC (bY (cX (VM rfl) FZ T.adE aap (aP (aj 1 ql) (aP (aj 2 qm) au)) Ga Gb)))))), ?_⟩
 cases op with
 | plus=>walk_at "vs";exact q
 | minus=>walk_at "vs";exact q
 | times=>
   have hm:=hm rfl
   walk_at "vs";exact q
 | most=>walk_at "vs";exact q
abbrev bZ:Stmt:=vM 7 0
theorem uR:bL ["self","r"] ["self","r"] (aa bZ):=⟨rfl,rfl,rfl,by decide +kernel,rfl,by decide +kernel,by decide +kernel⟩
theorem gP:aG (aa bZ) "self":=by decide +kernel
theorem rF:aG (aa bZ) "r":=by decide +kernel
theorem uT {f:Addr}{fd:FuncData} (d8:fX K C "__init__" "Reckoning.__init__" bZ ["self","r"] f fd) (rc:RkC K C):aY P w K mg base CX0 1 f fd ["self","r"] (JT C):=by
 refine d8.F.okQ uR (fun vs H Q E h=> ?_) (fun cdv A outer s H vs Q E hr h=> ?_)
 ·obtain⟨a,dx,b,r,rfl,_⟩:=h
  rfl
 obtain⟨a,dx,b,r,rfl,e,hR,hw,q⟩:=h
 have lu:=rc.cl
 have nT:=rc.nT
 have nF:=rc.nF
 have nR:=rc.nR
 refine⟨_,(az (jZ (aj 0 gP) (fW (aP (aj 1 rF) au)))
  (az (jZ (aj 0 gP) (fW au))
  (aC (jZ (aj 0 gP) iU)))), ?_⟩
 walk_at "vs"
 intro a1 h1
 have e1:upd H a1 (.lst [V.ref b]) a=some (.ins C dx []):=(ao (aF e h1)).trans e
 walk_at "vs"
 intro a2 h2
 obtain⟨n2a,h2⟩:=gC h2
 obtain⟨n21,h2⟩:=gC h2
 have e2:upd (upd (upd H a1 (.lst [V.ref b])) a (.ins C dx (aO "todo" (.ref a1) []))) a2 (.lst []) a=some (.ins C dx (aO "todo" (.ref a1) [])):=(ao (Ne.symm n2a)).trans ak
 walk_at "vs"
 intro a3 h3
 obtain⟨n3a,h3⟩:=gC h3
 obtain⟨n32,h3⟩:=gC h3
 obtain⟨_,h3⟩:=gC h3
 obtain⟨n31,h3⟩:=gC h3
 have e3:upd (upd (upd (upd (upd H a1 (.lst [V.ref b])) a (.ins C dx (aO "todo" (.ref a1) []))) a2 (.lst [])) a (.ins C dx (aO "found" (.ref a2) (aO "todo" (.ref a1) [])))) a3 (.dK []) a=some (.ins C dx (aO "found" (.ref a2) (aO "todo" (.ref a1) []))):=(ao (Ne.symm n3a)).trans ak
 walk_at "vs"
 have n1a:a1≠a:=fun z=>by rw[z,e] at h1;cases h1
 refine q a1 a2 a3 _ (fun p o hp z=> ?_) h1 h2 h3 ⟨ak,⟨[.ref b], ?_, .cons (.r ?_) .nil⟩, ?_, ?_,Ne.symm n21, ?_⟩
 ·have hp:p≠a:=by simpa using hp
  rw[ao hp,ao (aF z h3),ao hp,ao (aF z h2),ao hp,ao (aF z h1)];exact z
 ·rw[ao n1a,ao (Ne.symm n31),ao n1a,ao (Ne.symm n21),ao n1a];exact ak
 ·refine hR.tups fun p xs z=> ?_
  have hp:p≠a:=fun y=>by rw[y,e] at z;cases z
  rw[ao hp,ao (aF z h3),ao hp,ao (aF z h2),ao hp,ao (aF z h1)];exact z
 ·rw[ao n2a,ao (Ne.symm n32),ao n2a];exact ak
 ·rw[ao n3a];exact ak
 ·show 0+0+2 *(wR r+0)<=10000;omega
abbrev aJ:Stmt:=vM 7 2
theorem gQ:bL ["self","step","kind","names","s","r"] ["self","step"] (aa aJ):=⟨rfl,rfl,rfl,by decide +kernel,rfl,by decide +kernel,by decide +kernel⟩
theorem rG:Loc (aa aJ) "kind":=by decide +kernel
theorem aL:aG (aa aJ) "step":=by decide +kernel
theorem cz:aG (aa aJ) "kind":=by decide +kernel
theorem aQ:aG (aa aJ) "self":=by decide +kernel
theorem qD:Loc (aa aJ) "names":=by decide +kernel
theorem kj:aG (aa aJ) "names":=by decide +kernel
theorem uc:(aa aJ).names.lookup ("len":Str)=some NameKind.globalImplicit:=by decide +kernel
theorem ud:("len":Str)≠"__name__":=by decide +kernel
theorem ue:(("len":Str)==("__debug__":Str))=false:=by decide +kernel
theorem vN:Loc (aa aJ) "s":=by decide +kernel
theorem vO:Loc (aa aJ) "r":=by decide +kernel
theorem p6:(aa aJ).names.lookup ("joined":Str)=some NameKind.globalImplicit:=by decide +kernel
theorem vP:aG (aa aJ) "s":=by decide +kernel
theorem vQ:aG (aa aJ) "r":=by decide +kernel
theorem p7:(("joined":Str)==("__debug__":Str))=false:=by decide +kernel
theorem yz {f g:Addr}{fd gd:FuncData} (eY:fX K C "go_on" "Reckoning.go_on" aJ ["self","step"] f fd) (nH:FnT K mg "joined" jK ["kind","r","s"] g gd) (T9:aY P w K mg base CX0 1 g gd ["kind","r","s"] N7)
 (T:Blt mg) (rc:RkC K C):aY P w K mg base CX0 2 f fd ["self","step"] (adR C):=by
 refine eY.F.okQ gQ (fun vs H Q E h=> ?_) (fun cdv A outer s H vs Q E hr h=> ?_)
 ·obtain⟨a,dx,a1,a2,a3,v,s,t,f,d,kn,c,rfl,_⟩:=h
  rfl
 obtain⟨a,dx,a1,a2,a3,v,st,t,fo,d,kn,c,rfl,rca,hst,hno,h1,hw,q⟩:=h
 have lu:=rc.cl
 have nT:=rc.nT
 have nF:=rc.nF
 have nR:=rc.nR
 have n13:=rca.n13
 have n23:=rca.n23
 obtain⟨e,⟨ws,e1,hws⟩,e2,e3,ne,hw0⟩:=id rca
 have e2:H a2=some (.lst (fo.map V.int)):=e2
 have e3:H a3=some (.dK (rdK d)):=e3
 refine⟨_,(az (bW (i:=2) gQ.nd rfl rG (cg bV (aj 1 aL) aB))
  (aC (fJ (cW gF (aj 2 cz) aV (bH _)) (aC (fZ (vq PySem.F.plainAttrs_list PySem.F.slot_list_append PySem.F.type_list_append kZ (bu (aj 0 aQ)) (lZ (cg bV (aj 1 aL) aB) au)))) (aC (fJ (cW gF (aj 2 cz) aV (bH _)) (aC (fZ (vq PySem.F.plainAttrs_list PySem.F.slot_list_extend PySem.F.type_list_extend yq (bu (aj 0 aQ)) (Mh (fW (Mg (jm (fM aV (lZ (cg bV (aj 1 aL) aB) (lZ (cg bV (aj 1 aL) aB) au)))) (lZ (cg bV (aj 1 aL) aB) au))) au)))) (aC (fJ (cW gF (aj 2 cz) aV (bH _)) (aC (fZ (vq PySem.F.plainAttrs_list PySem.F.slot_list_extend PySem.F.type_list_extend yq (bu (aj 0 aQ)) (Mh (fW (Mg (jm (fM aV (lZ (cg bV (aj 1 aL) aB) au))) (lZ (cg bV (aj 1 aL) aB) au))) au)))) (aC (fJ (cW gF (aj 2 cz) aV (bH _)) (aC (fZ (vq PySem.F.plainAttrs_list PySem.F.slot_list_append PySem.F.type_list_append kZ (bu (aj 0 aQ)) (ag1 (RK (cW aax (Ba PySem.F.plainAttrs_list PySem.F.slot_list_pop PySem.F.type_list_pop w6 (bu (aj 0 aQ))) aB (bH _)) (cg bV (aj 1 aL) aB) (cg bV (aj 1 aL) aB)) au)))) (aC (fJ (cW gF (aj 2 cz) aV (bH _)) (az (bW (i:=3) gQ.nd rfl qD (cg bV (aj 1 aL) aB))
  (aC (fZ (vq PySem.F.plainAttrs_list PySem.F.slot_list_append PySem.F.type_list_append kZ (bu (aj 0 aQ)) (Mg (jm (fM aV (lZ (cg bV (aj 3 kj) (bM jT (Ba PySem.F.plainAttrs_list PySem.F.slot_list_pop PySem.F.type_list_pop w6 (bu (aj 0 aQ))) (cX gM uc T.uL nZ (aP (aj 3 kj) au) ud ue))) au))) au))))) (aC (fJ (cW gF (aj 2 cz) aV (bH _)) (az (bW (i:=4) gQ.nd rfl vN (Ba PySem.F.plainAttrs_list PySem.F.slot_list_pop PySem.F.type_list_pop w6 (bu (aj 0 aQ))))
  (az (bW (i:=5) gQ.nd rfl vO (Ba PySem.F.plainAttrs_list PySem.F.slot_list_pop PySem.F.type_list_pop w6 (bu (aj 0 aQ))))
  (aC (fZ (vq PySem.F.plainAttrs_list PySem.F.slot_list_append PySem.F.type_list_append kZ (bu (aj 0 aQ)) (uP (bN (T9.mono (by omega)) hr p6 nH.m nH.F.kp nH.b .nil cJ (lZ (cg bV (aj 1 aL) aB) (aP (aj 5 vQ) (aP (aj 4 vP) au))) p7) au)))))) (aC (fZ (vq PySem.F.plainAttrs_list PySem.F.slot_list_extend PySem.F.type_list_extend yq (bu (aj 0 aQ)) (Mh (fW (Mg (jm (fM aV (aP (aj 2 cz) au))) (lZ (cg bV (aj 1 aL) aB) (lZ (cg bV (aj 1 aL) aB) au)))) au))))))))))))))))), ?_⟩
 have hi:=h1.inv _ _ rfl
 have hlw:ws.length=t.length:=hws.length
 have hlt:=Mm t
 have hw1:d.length+fo.length+2 * wT t<=10000:=hw0
 cases hst with
 | @r b r hr'=>
   cases hr' with
   | @num _ n eb=>
     have hi:c=⟨t,fo++[n],d⟩:=hi
     have hz:(fo.map V.int).length<sizeLine:=by rw[List.length_map,sizeLine_eq];omega
     subst hi
     walk_at "vs"
     have b:But [a1,a2,a3] H (upd H a2 (.lst (fo.map V.int++[V.int n]))):=But.set _ (by simp)
     exact q _ b (rca.next b ((ao ne).trans e1) (hws.tups (rca.lists b)) (by rw[ak,List.map_append];rfl) ((ao (Ne.symm n23)).trans e3) hw)
   | rd eb=>exact absurd rfl (hno _)
   | @bin _ x y op ra rb eb hx hy=>
     have hi:c=⟨t++[.join op, .r rb, .r ra],fo,d⟩:=hi
     subst hi
     have hz:∀p:Addr,ws.length+[V.ref p,V.ref y,V.ref x].length<=sizeLine:=fun p=>by rw[sizeLine_eq];show ws.length+3<=_;omega
     have ag7:atI [V.str op.word,V.ref x,V.ref y] 0=some (.str op.word):=lH (j:=0) rfl
     have ag8:atI [V.str op.word,V.ref x,V.ref y] 1=some (.ref x):=lH (j:=1) rfl
     have air:atI [V.str op.word,V.ref x,V.ref y] 2=some (.ref y):=lH (j:=2) rfl
     have fin:∀p1 p2,H p1=none->upd H p1 (.tup [V.str "join",V.str op.word]) p2=none->Q .non (upd (upd (upd H p1 (.tup [V.str "join",V.str op.word])) p2 (.lst [V.ref p1,V.ref y,V.ref x])) a1 (.lst (ws++[V.ref p1,V.ref y,V.ref x]))):=fun p1 p2 h1 h2=>by
      have b:But [a1,a2,a3] H (upd (upd (upd H p1 (.tup [V.str "join",V.str op.word])) p2 (.lst [V.ref p1,V.ref y,V.ref x])) a1 (.lst (ws++[V.ref p1,V.ref y,V.ref x]))):=(But.new _ h1).trans ((But.new _ h2).trans (But.set _ (by simp)))
      have tp:=rca.lists b
      have n1:p1≠a1:=fun z=>by rw[z,e1] at h1;cases h1
      have n2:p1≠p2:=fun z=>by rw[<-z,ak] at h2;cases h2
      have h2':=(gC h2).2
      refine q _ b (rca.next b ak ((hws.tups tp).app (.cons (.join ?_) (.cons (.r (hy.tups tp)) (.cons (.r (hx.tups tp)) .nil)))) ?_ ?_ hw)
      ·rw[ao n1,ao n2];exact ak
      ·rw[ao (Ne.symm ne),ao (aF e2 h2'),ao (aF e2 h1)];exact e2
      ·rw[ao (Ne.symm n13),ao (aF e3 h2'),ao (aF e3 h1)];exact e3
     have ex1:∀p1,H p1=none->upd H p1 (.tup [V.str "join",V.str op.word]) a1=some (.lst ws):=fun p1 h1=>(ao (aF e1 h1)).trans e1
     have ex2:∀p1 p2,H p1=none->upd H p1 (.tup [V.str "join",V.str op.word]) p2=none->upd (upd H p1 (.tup [V.str "join",V.str op.word])) p2 (.lst [V.ref p1,V.ref y,V.ref x]) a1=some (.lst ws):=fun p1 p2 h1 h2=>(ao (aF (ex1 p1 h1) h2)).trans (ex1 p1 h1)
     have ez:∀p1,H p1=none->upd H p1 (.tup [V.str "join",V.str op.word]) b=some (.tup [V.str op.word,V.ref x,V.ref y]):=fun p1 h1=>(ao (aF eb h1)).trans eb
     cases op with
     | plus=>
       walk_at "vs"
       intro p1 h1
       have ez1:=ez p1 h1
       walk_at "vs"
       intro p2 h2
       have ex:=ex2 p1 p2 h1 h2
       have hz1:=hz p1
       walk_at "vs"
       exact fin p1 p2 h1 h2
     | minus=>
       walk_at "vs"
       intro p1 h1
       have ez1:=ez p1 h1
       walk_at "vs"
       intro p2 h2
       have ex:=ex2 p1 p2 h1 h2
       have hz1:=hz p1
       walk_at "vs"
       exact fin p1 p2 h1 h2
     | times=>
       walk_at "vs"
       intro p1 h1
       have ez1:=ez p1 h1
       walk_at "vs"
       intro p2 h2
       have ex:=ex2 p1 p2 h1 h2
       have hz1:=hz p1
       walk_at "vs"
       exact fin p1 p2 h1 h2
     | most=>
       walk_at "vs"
       intro p1 h1
       have ez1:=ez p1 h1
       walk_at "vs"
       intro p2 h2
       have ex:=ex2 p1 p2 h1 h2
       have hz1:=hz p1
       walk_at "vs"
       exact fin p1 p2 h1 h2
   | @pick _ x y z ra rb rc eb hx hy hz0=>
     have hi:c=⟨t++[.branch rb rc, .r ra],fo,d⟩:=hi
     subst hi
     have hz:∀p:Addr,ws.length+[V.ref p,V.ref x].length<=sizeLine:=fun p=>by rw[sizeLine_eq];show ws.length+2<=_;omega
     walk_at "vs"
     intro p1 h1
     have ez1:upd H p1 (.tup [V.str "branch",V.ref y,V.ref z]) b=some (.tup [V.str "pick",V.ref x,V.ref y,V.ref z]):=(ao (aF eb h1)).trans eb
     walk_at "vs"
     intro p2 h2
     have ex:upd (upd H p1 (.tup [V.str "branch",V.ref y,V.ref z])) p2 (.lst [V.ref p1,V.ref x]) a1=some (.lst ws):=(ao (aF e1 (gC h2).2)).trans ((ao (aF e1 h1)).trans e1)
     have hz1:=hz p1
     walk_at "vs"
     have b:But [a1,a2,a3] H (upd (upd (upd H p1 (.tup [V.str "branch",V.ref y,V.ref z])) p2 (.lst [V.ref p1,V.ref x])) a1 (.lst (ws++[V.ref p1,V.ref x]))):=(But.new _ h1).trans ((But.new _ h2).trans (But.set _ (by simp)))
     have tp:=rca.lists b
     have n1:p1≠a1:=fun z=>by rw[z,e1] at h1;cases h1
     have n2:p1≠p2:=fun z=>by rw[<-z,ak] at h2;cases h2
     have h2':=(gC h2).2
     refine q _ b (rca.next b ak ((hws.tups tp).app (.cons (.branch (by rw[ao n1,ao n2];exact ak) (hy.tups tp) (hz0.tups tp)) (.cons (.r (hx.tups tp)) .nil))) ?_ ?_ hw)
     ·rw[ao (Ne.symm ne),ao (aF e2 h2'),ao (aF e2 h1)];exact e2
     ·rw[ao (Ne.symm n13),ao (aF e3 h2'),ao (aF e3 h1)];exact e3
   | @cho _ x y ra ns eb hx hy=>
     have hi:c=⟨t++[.among ns, .r ra],fo,d⟩:=hi
     subst hi
     have hz:∀p:Addr,ws.length+[V.ref p,V.ref x].length<=sizeLine:=fun p=>by rw[sizeLine_eq];show ws.length+2<=_;omega
     walk_at "vs"
     intro p1 h1
     have ez1:upd H p1 (.tup [V.str "among",V.ref y]) b=some (.tup [V.str "choose",V.ref x,V.ref y]):=(ao (aF eb h1)).trans eb
     walk_at "vs"
     intro p2 h2
     have ex:upd (upd H p1 (.tup [V.str "among",V.ref y])) p2 (.lst [V.ref p1,V.ref x]) a1=some (.lst ws):=(ao (aF e1 (gC h2).2)).trans ((ao (aF e1 h1)).trans e1)
     have hz1:=hz p1
     walk_at "vs"
     have b:But [a1,a2,a3] H (upd (upd (upd H p1 (.tup [V.str "among",V.ref y])) p2 (.lst [V.ref p1,V.ref x])) a1 (.lst (ws++[V.ref p1,V.ref x]))):=(But.new _ h1).trans ((But.new _ h2).trans (But.set _ (by simp)))
     have tp:=rca.lists b
     have n1:p1≠a1:=fun z=>by rw[z,e1] at h1;cases h1
     have n2:p1≠p2:=fun z=>by rw[<-z,ak] at h2;cases h2
     have h2':=(gC h2).2
     refine q _ b (rca.next b ak ((hws.tups tp).app (.cons (.among (by rw[ao n1,ao n2];exact ak) (tp _ _ hy)) (.cons (.r (hx.tups tp)) .nil))) ?_ ?_ hw)
     ·rw[ao (Ne.symm ne),ao (aF e2 h2'),ao (aF e2 h1)];exact e2
     ·rw[ao (Ne.symm n13),ao (aF e3 h2'),ao (aF e3 h1)];exact e3
 | @branch b x y ra rb eb hx hy=>
   obtain⟨g,v,hf,hi⟩:=hi
   have hf:fo=g++[v]:=hf
   subst hf
   subst hi
   have hl:((g++[v]).map V.int)[((g++[v]).map V.int).length - 1]? =some (.int v):=by rw[List.map_append,List.length_append];exact List.getElem?_concat_length
   have hd:((g++[v]).map V.int).dropLast=g.map V.int:=by rw[List.map_append];exact List.dropLast_concat
   have hz:ws.length<sizeLine:=by rw[sizeLine_eq];omega
   walk_at "vs"
   rw[hd]
   have nb:b≠a2:=fun z=>by rw[z,e2] at eb;cases eb
   have eb1:upd H a2 (.lst (g.map V.int)) b=some (.tup [V.str "branch",V.ref x,V.ref y]):=(ao nb).trans eb
   have e11:upd H a2 (.lst (g.map V.int)) a1=some (.lst ws):=(ao ne).trans e1
   have fin:∀(z:Addr) (rz:R),IsR H z rz->rz=(if v>0 then ra else rb)->Q .non (upd (upd H a2 (.lst (g.map V.int))) a1 (.lst (ws++[V.ref z]))):=fun z rz hz1 hz2=>by
    subst hz2
    have b:But [a1,a2,a3] H (upd (upd H a2 (.lst (g.map V.int))) a1 (.lst (ws++[V.ref z]))):=(But.set _ (by simp)).trans (But.set _ (by simp))
    have tp:=rca.lists b
    exact q _ b (rca.next b ak ((hws.tups tp).app (.cons (.r (hz1.tups tp)) .nil)) ((ao (Ne.symm ne)).trans ak) ((ao (Ne.symm n13)).trans ((ao (Ne.symm n23)).trans e3)) hw)
   by_cases hv:0<v
   ·refine adI hv ?_
    walk_at "vs"
    exact fin x ra hx (if_pos hv).symm
   ·refine adJ hv ?_
    walk_at "vs"
    exact fin y rb hy (if_neg hv).symm
 | @among b x ns eb hx=>
   obtain⟨g,v,y,hf,hy,hi⟩:=hi
   have hf:fo=g++[v]:=hf
   subst hf
   subst hi
   have hl:((g++[v]).map V.int)[((g++[v]).map V.int).length - 1]? =some (.int v):=by rw[List.map_append,List.length_append];exact List.getElem?_concat_length
   have hd:((g++[v]).map V.int).dropLast=g.map V.int:=by rw[List.map_append];exact List.dropLast_concat
   have hz:ws.length<sizeLine:=by rw[sizeLine_eq];omega
   have hln:(ns.map V.str).length=ns.length:=List.length_map _
   have hpos:0<((ns.map V.str).length:Int):=by
    rw[hln]
    cases ns with
    | nil=>simp[pK] at hy
    | cons n ns=>simp only[List.length_cons];omega
   have hat:atI (ns.map V.str) (v % ((ns.map V.str).length:Int))=some (.str y):=by
    rw[hln] at hpos ⊢
    have z0:=Int.emod_nonneg v (show(ns.length:Int)≠0 by omega)
    obtain⟨k,hk⟩:=Int.eq_ofNat_of_zero_le z0
    unfold pK at hy
    rw[hk] at hy ⊢
    exact lH (by rw[List.getElem?_map,show ns[k]? =some y from hy];rfl)
   have nx:x≠a2:=fun z=>by rw[z,e2] at hx;cases hx
   have ex1:upd H a2 (.lst (((g++[v]).map V.int).dropLast)) x=some (.tup (ns.map V.str)):=(ao nx).trans hx
   have e11:upd H a2 (.lst (((g++[v]).map V.int).dropLast)) a1=some (.lst ws):=(ao ne).trans e1
   walk_at "vs"
   intro p1 h1
   have e12:upd (upd H a2 (.lst (((g++[v]).map V.int).dropLast))) p1 (.tup [V.str "read",V.str y]) a1=some (.lst ws):=(ao (aF e11 h1)).trans e11
   walk_at "vs"
   have n1:p1≠a1:=fun z=>by rw[z,e11] at h1;cases h1
   obtain⟨n2,h1'⟩:=gC h1
   have b:But [a1,a2,a3] H (upd (upd (upd H a2 (.lst (((g++[v]).map V.int).dropLast))) p1 (.tup [V.str "read",V.str y])) a1 (.lst (ws++[V.ref p1]))):=(But.set _ (by simp)).trans ((But.new _ h1).trans (But.set _ (by simp)))
   have tp:=rca.lists b
   refine q _ b (rca.next b ak ((hws.tups tp).app (.cons (.r (.rd ((ao n1).trans ak))) .nil)) ?_ ?_ hw)
   ·rw[ao (Ne.symm ne),ao (Ne.symm n2),ak,hd]
   ·rw[ao (Ne.symm n13),ao (aF e3 h1'),ao (Ne.symm n23)];exact e3
 | @join b op eb=>
   obtain⟨g,u,v,hf,hm,hi⟩:=hi
   have hf:fo=g++[u,v]:=hf
   subst hf
   subst hi
   have hl:((g++[u,v]).map V.int)[((g++[u,v]).map V.int).length - 1]? =some (.int v):=by simp
   have hd:((g++[u,v]).map V.int).dropLast=(g++[u]).map V.int:=by simp
   have hl2:((g++[u]).map V.int)[((g++[u]).map V.int).length - 1]? =some (.int u):=by simp
   have hd2:((g++[u]).map V.int).dropLast=g.map V.int:=by simp
   have hz:(g.map V.int).length<sizeLine:=by
    rw[List.length_map,sizeLine_eq]
    have:(g++[u,v]).length=g.length+2:=by rw[List.length_append];rfl
    omega
   have nb:b≠a2:=fun z=>by rw[z,e2] at eb;cases eb
   have na2:a≠a2:=fun z=>rca.ins (by simp[z])
   have hl3:(((g++[u,v]).map V.int).dropLast)[(((g++[u,v]).map V.int).dropLast).length - 1]? =some (.int u):=by rw[hd];exact hl2
   have hd3:(((g++[u,v]).map V.int).dropLast).dropLast=g.map V.int:=by rw[hd];exact hd2
   have hz3:((((g++[u,v]).map V.int).dropLast).dropLast).length<sizeLine:=by rw[hd3];exact hz
   walk_at "vs"
   have b:But [a1,a2,a3] H (upd H a2 (.lst (g.map V.int++[V.int (op.ap u v)]))):=But.set _ (by simp)
   have q1:=q _ b (rca.next b ((ao ne).trans e1) (hws.tups (rca.lists b)) (by rw[ak,List.map_append];rfl) ((ao (Ne.symm n23)).trans e3) hw)
   have eq:upd (upd (upd H a2 (.lst (((g++[u,v]).map V.int).dropLast))) a2 (.lst ((((g++[u,v]).map V.int).dropLast).dropLast))) a2 (.lst ((((g++[u,v]).map V.int).dropLast).dropLast++[V.int (op.ap u v)]))=upd H a2 (.lst (g.map V.int++[V.int (op.ap u v)])):=by rw[mY,mY,hd3]
   show Q .non (upd (upd (upd H a2 (.lst (((g++[u,v]).map V.int).dropLast))) a2 (.lst ((((g++[u,v]).map V.int).dropLast).dropLast))) a2 (.lst ((((g++[u,v]).map V.int).dropLast).dropLast++[V.int (op.ap u v)])))
   rw[eq]
   exact q1
end
section
local macro_rules | `(tactic| walk_at "side") => `(tactic| first | exact HJ _ _ _ | exact DP _ _ _ | exact DQ _ _ _ | exact Yj _ _ _ | exact zz _ _ _ | exact Nat.le_of_ble_eq_true rfl)
variable {P:Program}{w:World}{K:PySem.W.Frag}{mg:Str->Option Value}{base:Heap}{C:Addr}
abbrev bD:Stmt:=vM 7 1
theorem nJ:bL ["self","known","step"] ["self","known"] (aa bD):=⟨rfl,rfl,rfl,by decide +kernel,rfl,by decide +kernel,by decide +kernel⟩
theorem cL:aG (aa bD) "self":=by decide +kernel
theorem p8:Loc (aa bD) "step":=by decide +kernel
theorem bB:aG (aa bD) "step":=by decide +kernel
theorem gR:aG (aa bD) "known":=by decide +kernel
theorem vR {f g:Addr}{fd gd:FuncData} (dD:fX K C "lacking" "Reckoning.lacking" bD ["self","known"] f fd) (eY:fX K C "go_on" "Reckoning.go_on" aJ ["self","step"] g gd) (zM:aY P w K mg base CX0 2 g gd ["self","step"] (adR C))
 (T:Blt mg) (rc:RkC K C):aY P w K mg base CX0 3 f fd ["self","known"] (R0 C):=by
 refine dD.F.okQ nJ (fun vs H Q E h=> ?_) (fun cdv A outer s H vs Q E hr h=> ?_)
 ·obtain⟨a,dx,a1,a2,a3,d,kn,n,c,c',rfl,_⟩:=h
  rfl
 obtain⟨a,dx,a1,a2,a3,dd,kn,n0,c0,c',rfl,abd,⟨kvs,ed,hkn⟩,nd3,hn0,hhalt,q⟩:=h
 have lu:=rc.cl
 have nT:=rc.nT
 have nF:=rc.nF
 have nR:=rc.nR
 have hdS:dd∉[a1,a2,a3]:=fun z=>by
  obtain⟨ws,e1,_⟩:=abd.e1
  have z:dd=a1\/dd=a2\/dd=a3:=by simpa using z
  rcases z with z | z | z
  ·rw[z,e1] at ed;cases ed
  ·rw[z,abd.e2] at ed;cases ed
  ·exact nd3 z
 refine⟨_,(az (Dw PassesOwn.never (Du (bu (aj 0 cL))) (az (bW (i:=2) nJ.nd rfl p8 (Ba PySem.F.plainAttrs_list PySem.F.slot_list_pop PySem.F.type_list_pop w6 (bu (aj 0 cL))))
  (aC (fJ (cW Ma (cg bV (aj 2 bB) aB) aV (bH _)) (aC (fZ (oX (aj 0 cL) lu eY.m (zM.mono (by omega)) hr eY.b .nil cJ (aP (aj 2 bB) au)))) (aC (fJ (HH (dZ hr) (cg bV (aj 2 bB) aB) (aj 1 gR)) (az (jQ (dZ hr) (bu (aj 0 cL)) (cg bV (aj 2 bB) aB) (fV (dZ hr) (aj 1 gR) (cg bV (aj 2 bB) aB)))
  (aC (fZ (vq PySem.F.plainAttrs_list PySem.F.slot_list_append PySem.F.type_list_append kZ (bu (aj 0 cL)) (lZ (fV (dZ hr) (aj 1 gR) (cg bV (aj 2 bB) aB)) au))))) (az (fZ (vq PySem.F.plainAttrs_list PySem.F.slot_list_append PySem.F.type_list_append kZ (bu (aj 0 cL)) (aP (aj 2 bB) au)))
  (aC (bY (cg bV (aj 2 bB) aB))))))))))
  (aC (bY Az))), ?_⟩
 refine⟨fun n σ H'=>∃c t,σ=[some (.ref a),some (.ref dd),t]/\But [a1,a2,a3] H H'/\RcAt H' a C dx a1 a2 a3 c/\StN kn n c c',
  ⟨n0,c0,none,rfl,But.refl _ _,abd,hn0⟩, ?_⟩
 rintro n σ H1 ⟨c,t0,rfl,b1,rca,hst⟩
 have n13:=rca.n13
 have n23:=rca.n23
 have na:a∉[a1,a2,a3]:=rca.ins
 have na1:a≠a1:=fun z=>na (by simp[z])
 have na2:a≠a2:=fun z=>na (by simp[z])
 have na3:a≠a3:=fun z=>na (by simp[z])
 obtain⟨e,⟨ws,e1,hws⟩,e2,e3,ne,hw0⟩:=id rca
 have ed1:=b1 _ _ hdS ed
 rcases List.eq_nil_or_concat c.todo with hnil | ⟨t,st,hs⟩
 ·rw[hnil] at hws
  cases hws
  have ec:=hst.halt (.inl hnil)
  subst ec
  walk_at "vs"
  exact(q H1 b1 rca).1 hnil
 ·rw[List.concat_eq_append] at hs
  rw[hs] at hws
  obtain⟨us,v,rfl,hus,hv⟩:=hws.snoc
  have hlu:=hus.length
  have hlt:=Mm t
  have hw1:c.rds.length+c.found.length+2 * wT (t++[st])<=10000:=by have:=hw0;unfold Cf.w at this;rw[hs] at this;exact this
  rw[lK] at hw1
  have hl:(us++[v])[(us++[v]).length - 1]? =some v:=by simp
  have hd:(us++[v]).dropLast=us:=List.dropLast_concat
  have hne:(us++[v]).isEmpty=false:=by simp
  have hz:us.length<sizeLine:=by rw[sizeLine_eq];omega
  refine⟨_,rfl,a,C,dx,_, .ref a1,rfl,e,lu,nT,HJ _ _ _,true, .inl ⟨us++[v],SqL.of e1,by simp⟩, ?_⟩
  refine(if_pos (rfl:true=true)).mpr ?_
  cases hst with
  | zero=>
    rcases hhalt with h | ⟨t',x,h,hx⟩
    ·rw[hs] at h;simp at h
    ·rw[hs] at h
     obtain⟨rfl,rfl⟩:=jz h
     refine⟨fun _ _=>False,fun _ _ z=>z.elim, ?_⟩
     cases hv with
     | @r p _ hr'=>
     cases hr' with
     | rd ep=>
     have np:p≠a1:=fun z=>by rw[z,e1] at ep;cases ep
     have nda:dd≠a1:=fun z=>hdS (by simp[z])
     have g1:dO (upd H1 a1 (.lst (us++[V.ref p]).dropLast)) dd (.str x) none:=by
      have:=dO.k (H:=upd H1 a1 (.lst (us++[V.ref p]).dropLast)) (k:= .inr x) ((ao nda).trans ed1)
      rw[hkn,hx] at this
      exact this
     have hzd:((us++[V.ref p]).dropLast).length<sizeLine:=by rw[hd];exact hz
     walk_at "vs"
     have hq:=(q H1 b1 rca).2 _ x hs
     have eq:upd (upd H1 a1 (.lst (us++[V.ref p]).dropLast)) a1 (.lst ((us++[V.ref p]).dropLast++[V.ref p]))=H1:=by rw[mY,hd,aaR e1]
     show Q (.str x) (upd (upd H1 a1 (.lst (us++[V.ref p]).dropLast)) a1 (.lst ((us++[V.ref p]).dropLast++[V.ref p])))
     rw[eq]
     exact hq
  | @succ n _ c1 _ h1 ht=>
    have hi:=h1.inv _ _ hs
    refine⟨fun σ' H'=>Wr (∃c t,σ'=[some (.ref a),some (.ref dd),t]/\But [a1,a2,a3] H H'/\RcAt H' a C dx a1 a2 a3 c/\StN kn n c c'), ?_, ?_⟩
    ·rintro σ' H' ⟨h⟩
     exact⟨n,by omega,h⟩
    by_cases hrd:∃x,st= .r (.rd x)
    ·obtain⟨x,rfl⟩:=hrd
     obtain⟨val,hx,rfl⟩:=hi
     cases hv with
     | @r p _ hr'=>
     cases hr' with
     | rd ep=>
     have np:p≠a1:=fun z=>by rw[z,e1] at ep;cases ep
     have np3:p≠a3:=fun z=>by rw[z,e3] at ep;cases ep
     have nda:dd≠a1:=fun z=>hdS (by simp[z])
     have ag9:dd≠a3:=fun z=>hdS (by simp[z])
     have ne2:a2≠a1:=Ne.symm ne
     have aha:a3≠a1:=Ne.symm n13
     have ahb:a3≠a2:=Ne.symm n23
     have hv0:cI kvs (.inr x)=some (.int val):=by rw[hkn,hx];rfl
     have ed2:upd H1 a1 (.lst (us++[V.ref p]).dropLast) dd=some (.dK kvs):=(ao nda).trans ed1
     have e32:upd H1 a1 (.lst (us++[V.ref p]).dropLast) a3=some (.dK (rdK c.rds)):=(ao aha).trans e3
     have g1:dO (upd H1 a1 (.lst (us++[V.ref p]).dropLast)) dd (.str x) (some (.int val)):=by
      have:=dO.k (k:= .inr x) ed2
      rw[hv0] at this
      exact this
     have hlr:(rdK c.rds).length<sizeLine:=by rw[show(rdK c.rds).length=c.rds.length from List.length_map _,sizeLine_eq];omega
     have pt:lY (upd H1 a1 (.lst (us++[V.ref p]).dropLast)) a3 (.str x) (.int val) (upd (upd H1 a1 (.lst (us++[V.ref p]).dropLast)) a3 (.dK (rdK (rC c.rds x val)))):=by
      have:=lY.k (k:= .inr x) (v:= .int val) e32 hlr
      rw[V0] at this
      exact this
     have ed3:upd (upd H1 a1 (.lst (us++[V.ref p]).dropLast)) a3 (.dK (rdK (rC c.rds x val))) dd=some (.dK kvs):=(ao ag9).trans ed2
     have g2:dO (upd (upd H1 a1 (.lst (us++[V.ref p]).dropLast)) a3 (.dK (rdK (rC c.rds x val)))) dd (.str x) (some (.int val)):=by
      have:=dO.k (k:= .inr x) ed3
      rw[hv0] at this
      exact this
     have hzf:(c.found.map V.int).length<sizeLine:=by rw[List.length_map,sizeLine_eq];omega
     walk_at "vs"
     have b2:But [a1,a2,a3] H1 (upd (upd (upd H1 a1 (.lst (us++[V.ref p]).dropLast)) a3 (.dK (rdK (rC c.rds x val)))) a2 (.lst (c.found.map V.int++[V.int val]))):=(But.set _ (by simp)).trans ((But.set _ (by simp)).trans (But.set _ (by simp)))
     have tp:=rca.lists b2
     refine⟨⟨⟨t,c.found++[val],rC c.rds x val⟩,_,rfl,b1.trans b2,rca.next b2 (ws:=us) ?_ (hus.tups tp) ?_ ?_ (Nat.le_trans h1.w hw0),ht⟩⟩
     ·rw[ao ne,ao n13,ak,hd]
     ·rw[ak,List.map_append];rfl
     ·rw[ao ahb,ak]
    ·have hno:∀x,st≠ .r (.rd x):=fun x z=>hrd ⟨x,z⟩
     obtain⟨p,k,xs,rfl,ep,hk⟩:=hv.hd hno
     have np:p≠a1:=fun z=>by rw[z,e1] at ep;cases ep
     have at0:atI (V.str k::xs) 0=some (.str k):=lH (j:=0) rfl
     walk_at "vs"
     refine adK (fun z=>hk (V.str.inj z)) ?_
     have b2:But [a1,a2,a3] H1 (upd H1 a1 (.lst (us++[V.ref p]).dropLast)):=But.set _ (by simp)
     have tp:=rca.lists b2
     have rc2:RcAt (upd H1 a1 (.lst (us++[V.ref p]).dropLast)) a C dx a1 a2 a3 ⟨t,c.found,c.rds⟩:=rca.next b2 (ws:=us) (by rw[ak,hd]) (hus.tups tp) ((ao (Ne.symm ne)).trans e2) ((ao (Ne.symm n13)).trans e3) (by show c.rds.length+c.found.length+2 * wT t<=10000;omega)
     have h1':St1 kn ⟨t++[st],c.found,c.rds⟩ c1:=by rw[<-hs];exact h1
     have hv2:=hv.tups tp
     have hwc:=Nat.le_trans h1.w hw0
     walk_at "vs"
     intro H3 b3 rc3
     exact⟨⟨c1,_,rfl,b1.trans (b2.trans b3),rc3,ht⟩⟩
end
section
variable {P:Program}{w:World}{K:PySem.W.Frag}{mg:Str->Option Value}{base:Heap}
abbrev bO:Stmt:=top 9
theorem yC:bL ["thing"] ["thing"] (aa bO):=⟨rfl,rfl,rfl,by decide +kernel,rfl,by decide +kernel,by decide +kernel⟩
theorem ji:(aa bO).names.lookup ("isinstance":Str)=some NameKind.globalImplicit:=by decide +kernel
theorem rH:(aa bO).names.lookup ("bool":Str)=some NameKind.globalImplicit:=by decide +kernel
theorem rJ:("bool":Str)≠"__name__":=by decide +kernel
theorem rK:(("bool":Str)==("__debug__":Str))=false:=by decide +kernel
theorem kE:aG (aa bO) "thing":=by decide +kernel
theorem jj:("isinstance":Str)≠"__name__":=by decide +kernel
theorem jk:(("isinstance":Str)==("__debug__":Str))=false:=by decide +kernel
theorem uf:(aa bO).names.lookup ("int":Str)=some NameKind.globalImplicit:=by decide +kernel
theorem ug:("int":Str)≠"__name__":=by decide +kernel
theorem uh:(("int":Str)==("__debug__":Str))=false:=by decide +kernel
theorem yD {f:Addr}{fd:FuncData} (aW:FnT K mg "is_whole_number" bO ["thing"] f fd) (T:Blt mg) (kd:Kinds K):aY P w K mg base CX0 1 f fd ["thing"] (HF K):=by
 refine aW.F.okQ yC (fun vs H Q E h=> ?_) (fun cdv A outer s H vs Q E hr h=> ?_)
 ·obtain⟨v,t,rfl,_⟩:=h
  rfl
 obtain⟨v,t,rfl,ht,q⟩:=h
 refine⟨_,(aC (bY (Hu (cX Bd ji T.jU jA (aP (aj 0 kE) (aP (wY (v:= .ty "int") uf T.adC aas rfl ug uh) au)) jj jk) (LC (aau (cX Bd ji T.jU jA (aP (aj 0 kE) (aP (wY (v:= .ty "bool") rH T.aay VB rfl rJ rK) au)) jj jk)))))), ?_⟩
 have h1:=ht.ty
 have h2:=ht.isi kd (c:="int") (by simp[tys])
 have h3:=ht.isi kd (c:="bool") (by simp[tys])
 walk_at "vs"
 cases ht with
 | bl b=>walk_at "vs";exact q
 | int i=>walk_at "vs";exact q
 | non=>exact q
 | str x=>exact q
 | tup e h=>exact q
 | oth h hT k=>rcases hT with rfl | rfl<;>exact q
abbrev dI:Stmt:=top 10
theorem M4:bL ["told","thing"] ["told","thing"] (aa dI):=⟨rfl,rfl,rfl,by decide +kernel,rfl,by decide +kernel,by decide +kernel⟩
theorem iu:(aa dI).names.lookup ("isinstance":Str)=some NameKind.globalImplicit:=by decide +kernel
theorem rM:(aa dI).names.lookup ("tuple":Str)=some NameKind.globalImplicit:=by decide +kernel
theorem rN:("tuple":Str)≠"__name__":=by decide +kernel
theorem rO:(("tuple":Str)==("__debug__":Str))=false:=by decide +kernel
theorem gA:aG (aa dI) "told":=by decide +kernel
theorem iw:("isinstance":Str)≠"__name__":=by decide +kernel
theorem iy:(("isinstance":Str)==("__debug__":Str))=false:=by decide +kernel
theorem vU:(aa dI).names.lookup ("len":Str)=some NameKind.globalImplicit:=by decide +kernel
theorem vV:("len":Str)≠"__name__":=by decide +kernel
theorem vW:(("len":Str)==("__debug__":Str))=false:=by decide +kernel
theorem fO:aG (aa dI) "thing":=by decide +kernel
theorem Fd:(aa dI).names.lookup ("all":Str)=some NameKind.globalImplicit:=by decide +kernel
theorem Fe:(aa dI).names.lookup ("zip":Str)=some NameKind.globalImplicit:=by decide +kernel
theorem yE:(("is_same":Str)==("__debug__":Str))=false:=by decide +kernel
theorem Ff:("all":Str)≠"__name__":=by decide +kernel
theorem Fg:(("all":Str)==("__debug__":Str))=false:=by decide +kernel
theorem jL:(aa dI).names.lookup ("is_whole_number":Str)=some NameKind.globalImplicit:=by decide +kernel
theorem jM:(("is_whole_number":Str)==("__debug__":Str))=false:=by decide +kernel
theorem vX:(aa dI).names.lookup ("str":Str)=some NameKind.globalImplicit:=by decide +kernel
theorem vY:("str":Str)≠"__name__":=by decide +kernel
theorem vZ:(("str":Str)==("__debug__":Str))=false:=by decide +kernel
theorem zN {d:Nat}{f g0:Addr}{fd gd0:FuncData} (fP:FnT K mg "is_same" dI ["told","thing"] f fd) (Bo:aY P w K mg base CX0 (d+1) f fd ["told","thing"] (fun vs H Q E=>0<d/\HY K (d - 1) vs H Q E))
 (aW:FnT K mg "is_whole_number" bO ["thing"] g0 gd0) (gb:aY P w K mg base CX0 1 g0 gd0 ["thing"] (HF K)) (T:Blt mg) (kd:Kinds K):
 aY P w K mg base CX0 (d+2) f fd ["told","thing"] (HY K d):=by
 refine fP.F.okQ M4 (fun vs H Q E h=> ?_) (fun cdv A outer s H vs Q E hr h=> ?_)
 ·obtain⟨v,t,v',t',rfl,_⟩:=h
  rfl
 obtain⟨v,t,v',t',rfl,ht,hu,hd,q⟩:=h
 refine⟨_,(az (fJ (yp (cX Bd iu T.jU jA (aP (aj 0 gA) (aP (wY (v:= .ty "tuple") rM T.HD Ds rfl rN rO) au)) iw iy)) (az (fJ (Lz (Gz (RG (yp (cX Bd iu T.jU jA (aP (aj 1 fO) (aP (wY (v:= .ty "tuple") rM T.HD Ds rfl rN rO) au)) iw iy))) (Dv (cW Ma (cX gM vU T.uL nZ (aP (aj 0 gA) au) vV vW) (cX gM vU T.uL nZ (aP (aj 1 fO) au) vV vW) (bH _))))) (aC (bY JG)) cZ)
  (aC (bY (cX (VJ rfl) Fd T.adD aar (adO (CZ rfl (n:=2) (fr:=[]) (N:=["part","other"]) (JC (scX:=aa dI) (NX:=["told","thing"]) rfl rfl (by decide +kernel)) (Wc Fe T.adG (aP (aj 0 gA) (aP (aj 1 fO) au))) (fun _ _ _ _ _=>(VR (K:=K) (n:=2) rfl rfl (pI (qgx (i:=0) (show List.Nodup (α:=Str) ["part","other"] by decide) (PX (by decide +kernel))) (pI (qgx (i:=1) (show List.Nodup (α:=Str) ["part","other"] by decide) (PX (by decide +kernel))) Hw)))) (fun _ _ _ _ _=>LQ) (fun _ _ _ _ _=>(bN (Bo.mono (by omega)) hr (glC (by decide +kernel)) fP.m fP.F.kp fP.b .nil cJ (aP (aj 0 (tM.ok (by decide +kernel))) (aP (aj 1 (tM.ok (by decide +kernel))) au)) yE))) au) Ff Fg)))) cZ)
  (az (fJ (yp (bN (gb.mono (by omega)) hr jL aW.m aW.F.kp aW.b .nil cJ (aP (aj 0 gA) au) jM)) (aC (bY (Hu (bN (gb.mono (by omega)) hr jL aW.m aW.F.kp aW.b .nil cJ (aP (aj 1 fO) au) jM) (LC (Dt gF (aj 0 gA) (aj 1 fO) (bH _)))))) cZ)
  (aC (bY (Hu (cX Bd iu T.jU jA (aP (aj 0 gA) (aP (wY (v:= .ty "str") vX T.Yi RC rfl vY vZ) au)) iw iy) (Hu (cX Bd iu T.jU jA (aP (aj 1 fO) (aP (wY (v:= .ty "str") vX T.Yi RC rfl vY vZ) au)) iw iy) (LC (Dt gF (aj 0 gA) (aj 1 fO) (bH _))))))))), ?_⟩
 have h1:=ht.ty
 have h2:=ht.isi kd (c:="tuple") (by simp[tys])
 have h3:=ht.isi kd (c:="str") (by simp[tys])
 have g1:=hu.ty
 have g2:=hu.isi kd (c:="tuple") (by simp[tys])
 have g3:=hu.isi kd (c:="str") (by simp[tys])
 walk_at "vs"
 have ht2:=ht
 cases ht2 with
 | @tup a vs ts ea ha=>
   have ct:RP (JQ (.tup ts)) "tuple"=true:=rfl
   rw[ct]
   walk_at "vs"
   have hu2:=hu
   cases hu2 with
   | @tup b us rs eb hb=>
     have cu:RP (JQ (.tup rs)) "tuple"=true:=rfl
     rw[cu]
     walk_at "vs"
     have l1:=ha.length
     have l2:=hb.length
     by_cases hl:vs.length=us.length
     ·refine adM (by rw[hl];simp) ?_
      walk_at "vs"
      intro D hD
      have hd0:0<d:=by
       cases d with
       | zero=>exact absurd hd (by simp[DpT])
       | succ d=>omega
      obtain⟨d,rfl⟩:∃e,d=e+1:=⟨d - 1,by omega⟩
      obtain⟨hd1,hd2⟩:ts.length<=1000/\∀t∈ts,DpT d t:=hd
      have nDa:a≠D:=fun z=>by rw[z,hD] at ea;cases ea
      have nDb:b≠D:=fun z=>by rw[z,hD] at eb;cases eb
      refine Qi (fun i σ' H'=>(∃t1 t2,σ'=[t1,t2])/\H' D=some (.lst (((List.zipWith dm ts rs).take i).map V.bl))/\aN H H') hl ?_ ?_ ?_ ?_
      ·exact⟨⟨none,none,rfl⟩,ak,aq _ hD⟩
      ·intro i σ' H' hi hP
       exact⟨SqT.of (hP.2.2 _ _ ea),SqT.of (hP.2.2 _ _ eb)⟩
      ·intro i x y T0 σ' H' hx hy hP hT
       obtain⟨⟨t1,t2,rfl⟩,eD,kp⟩:=hP
       obtain⟨hi1,tx⟩:=ha.at hx
       obtain⟨hi2,ty⟩:=hb.at hy
       have S0:=kp.trans (aq (.tup [x,y]) hT)
       have tx0:=tx.same S0
       have ty0:=ty.same S0
       have dx:=hd2 _ (List.getElem_mem hi1)
       have eT:upd H' T0 (.tup [x,y]) T0=some (.tup [x,y]):=ak
       have eD0:=(aq (.tup [x,y]) hT) _ _ eD
       generalize upd H' T0 (.tup [x,y])=H0 at *
       walk_at "vs"
       intro H5 S5
       have eD5:=S5 _ _ eD0
       refine⟨_,eD5, ?_,⟨_,_,rfl⟩, ?_, ?_⟩
       ·rw[List.length_map,List.length_take];exact bG (by omega)
       ·rw[ak,<-Qj dm hi1 hi2,List.map_append];rfl
       ·exact lE _ hD (S0.trans S5)
      ·intro σ' H' hP
       obtain⟨_,eD,kp⟩:=hP
       rw[List.take_of_length_le (by simp;omega)] at eD
       have eq:dm (.tup ts) (.tup rs)=((List.zipWith dm ts rs).all id):=by rw[dm];exact Eg (by omega)
       rw[eq] at q
       walk_at "vs"
       exact q _ kp
     ·refine adL (by simp;omega) ?_
      rw[show dm (.tup ts) (.tup rs)=false from by rw[dm];exact Ef (by omega)] at q
      walk_at "vs"
      exact q _ (aN.refl _)
   | non=>walk_at "vs";exact q _ (aN.refl _)
   | bl b=>walk_at "vs";exact q _ (aN.refl _)
   | int i=>walk_at "vs";exact q _ (aN.refl _)
   | str x=>walk_at "vs";exact q _ (aN.refl _)
   | oth h hT k=>rcases hT with rfl | rfl<;>walk_at "vs"<;>exact q _ (aN.refl _)
 | non=>walk_at "vs";exact q _ (aN.refl _)
 | bl b=>walk_at "vs";exact q _ (aN.refl _)
 | int i=>
   walk_at "vs"
   have hu2:=hu
   cases hu2 with
   | int j=>
     have ej:dm (.int i) (.int j)=decide (V.int i=V.int j):=by simp[dm]
     rw[ej] at q
     walk_at "vs";exact q _ (aN.refl _)
   | non=>walk_at "vs";exact q _ (aN.refl _)
   | bl b=>walk_at "vs";exact q _ (aN.refl _)
   | str x=>walk_at "vs";exact q _ (aN.refl _)
   | tup e h=>walk_at "vs";exact q _ (aN.refl _)
   | oth h hT k=>rcases hT with rfl | rfl<;>walk_at "vs"<;>exact q _ (aN.refl _)
 | str x=>
   walk_at "vs"
   have hu2:=hu
   cases hu2 with
   | str y=>
     have ej:dm (.str x) (.str y)=decide (V.str x=V.str y):=by simp[dm]
     rw[ej] at q
     walk_at "vs";exact q _ (aN.refl _)
   | non=>walk_at "vs";exact q _ (aN.refl _)
   | bl b=>walk_at "vs";exact q _ (aN.refl _)
   | int j=>walk_at "vs";exact q _ (aN.refl _)
   | tup e h=>walk_at "vs";exact q _ (aN.refl _)
   | oth h hT k=>rcases hT with rfl | rfl<;>walk_at "vs"<;>exact q _ (aN.refl _)
 | oth h hT k=>rcases hT with rfl | rfl<;>walk_at "vs"<;>exact q _ (aN.refl _)
theorem Fi {f g0:Addr}{fd gd0:FuncData} (fP:FnT K mg "is_same" dI ["told","thing"] f fd)
 (aW:FnT K mg "is_whole_number" bO ["thing"] g0 gd0) (gb:aY P w K mg base CX0 1 g0 gd0 ["thing"] (HF K)) (T:Blt mg) (kd:Kinds K):
 ∀d,aY P w K mg base CX0 (d+2) f fd ["told","thing"] (HY K d)
 | 0=>zN fP (never fun vs H Q E h=>absurd h.1 (by omega)) aW gb T kd
 | d+1=>zN fP ((Fi fP aW gb T kd d).imp fun vs H Q E h=>h.2) aW gb T kd
end
section
local macro_rules | `(tactic| walk_at "side") => `(tactic| first | exact xm _ _ _ _ | exact tU _ _ _ _ | exact xq _ _ _ _ | exact oY _ _ _ _ | exact (gw _ _ _ _).1 | exact (gw _ _ _ _).2.1 | exact (gw _ _ _ _).2.2.1 | exact (gw _ _ _ _).2.2.2 | exact Nat.le_of_ble_eq_true rfl)
variable {P:Program}{w:World}{K:PySem.W.Frag}{mg:Str->Option Value}{base:Heap}{CN CS CR:Addr}
abbrev aZ:Stmt:=vM 12 0
theorem qF:bL ["self","records"] ["self","records"] (aa aZ):=⟨rfl,rfl,rfl,by decide +kernel,rfl,by decide +kernel,by decide +kernel⟩
theorem nQ:aG (aa aZ) "self":=by decide +kernel
theorem lN:aG (aa aZ) "records":=by decide +kernel
theorem qG {f:Addr}{fd:FuncData} (bw:fX K CN "__init__" "NamedRecords.__init__" aZ ["self","records"] f fd) (nc:NrC K CN):aY P w K mg base CX0 1 f fd ["self","records"] (Ei CN):=by
 refine bw.F.okQ qF (fun vs H Q E h=> ?_) (fun cdv A outer s H vs Q E hr h=> ?_)
 ·obtain⟨a,dx,rcd,rfl,_⟩:=h
  rfl
 obtain⟨a,dx,rcd,rfl,e,q⟩:=h
 have kI:=nc.cl
 have nB:=nc.nB
 refine⟨_,(aC (jZ (aj 0 nQ) (aj 1 lN))), ?_⟩
 walk_at "vs"
 exact q _ (But.set _ (by simp)) ak
abbrev cA:Stmt:=vM 12 2
theorem qH:bL ["self","record"] ["self","record"] (aa cA):=⟨rfl,rfl,rfl,by decide +kernel,rfl,by decide +kernel,by decide +kernel⟩
theorem qI {f:Addr}{fd:FuncData} (cB:fX K CN "put_made" "NamedRecords.put_made" cA ["self","record"] f fd):aY P w K mg base CX0 1 f fd ["self","record"] Yn:=by
 refine cB.F.okQ qH (fun vs H Q E h=> ?_) (fun cdv A outer s H vs Q E hr h=> ?_)
 ·obtain⟨⟨v,w,rfl⟩,_⟩:=h
  rfl
 obtain⟨⟨v,w,rfl⟩,q⟩:=h
 refine⟨_,(aC VG), ?_⟩
 exact q
abbrev aM:Stmt:=vM 12 1
theorem oZ:bL ["self","name","r"] ["self","name","r"] (aa aM):=⟨rfl,rfl,rfl,by decide +kernel,rfl,by decide +kernel,by decide +kernel⟩
theorem kJ:(aa aM).names.lookup ("is_same":Str)=some NameKind.globalImplicit:=by decide +kernel
theorem eZ:aG (aa aM) "self":=by decide +kernel
theorem fj:aG (aa aM) "name":=by decide +kernel
theorem nU:aG (aa aM) "r":=by decide +kernel
theorem kO:(("is_same":Str)==("__debug__":Str))=false:=by decide +kernel
theorem o6 {f g0:Addr}{fd gd0:FuncData} (bQ:fX K CN "records_for" "NamedRecords.records_for" aM ["self","name","r"] f fd)
 (fP:FnT K mg "is_same" dI ["told","thing"] g0 gd0) (Bo:aY P w K mg base CX0 12 g0 gd0 ["told","thing"] (HY K 10)) (T:Blt mg) (nc:NrC K CN):aY P w K mg base CX0 13 f fd ["self","name","r"] (Od CN):=by
 refine bQ.F.okQ oZ (fun vs H Q E h=> ?_) (fun cdv A outer s H vs Q E hr h=> ?_)
 ·obtain⟨o,dx,rcd,b,kr,rm,y,r,rfl,_⟩:=h
  rfl
 obtain⟨o,dx,rcd,b,kr,rm,y,r,rfl,eo,er,rD,hR,hg,hdp,q⟩:=h
 have kI:=nc.cl
 have nB:=nc.nB
 have lkB:List.lookup ("by_name":Str) (nrF rcd)=some (.ref rcd):=rfl
 refine⟨_,(az (fJ (Lz (RJ (HH (dZ hr) (aj 1 fj) (bu (aj 0 eZ))) (NT (yp (bN (Bo.mono (by omega)) hr kJ fP.m fP.F.kp fP.b .nil cJ (aP (aj 2 nU) (lZ (cg bV (fV (dZ hr) (bu (aj 0 eZ)) (aj 1 fj)) aB) au)) kO))))) (aC (bY (fW (lZ (fV (dZ hr) (bu (aj 0 eZ)) (aj 1 fj)) au)))) cZ)
  (aC (bY (fW au)))), ?_⟩
 have dr:dO H rcd (.str y) (cI kr (.inr y)):=dO.k (k:= .inr y) er
 cases erm:rm y with
 | none=>
   rw[rD.w y erm] at dr
   walk_at "vs"
   intro fl hfl
   exact q fl _ (aq _ hfl) hfl fun kn=> .inr ⟨ak,fun r' ps v e=>by rw[erm] at e;cases e⟩
 | some qq=>
   obtain⟨r',ps,v'⟩:=qq
   obtain⟨bb,hbb,br,l,as,e1,R1,el,hRs,_⟩:=rD.v y _ erm
   rw[hbb] at dr
   have e1:H bb=some (.tup [.ref br, .ref l, .int v']):=e1
   have R1:IsR H br r':=R1
   have hat:atI [V.ref br, .ref l, .int v'] 0=some (.ref br):=rfl
   have t1:oW K H (.ref b) r.fK:=hR.adN
   have t2:oW K H (.ref br) r'.fK:=R1.adN
   have dp:DpT 10 r.fK:=(r.dpT hg).mono (by omega)
   walk_at "vs"
   intro H1 s1
   have dr1:dO H1 rcd (.str y) (some (.ref bb)):=by rw[<-hbb];exact dO.k (k:= .inr y) (s1 _ _ er)
   have eo1:=s1 _ _ eo
   by_cases hrr:r=r'
   ·rw[We hrr]
    subst hrr
    walk_at "vs"
    intro fl hfl
    exact q fl _ (s1.trans (aq _ hfl)) (same_none s1 hfl) fun kn=> .inl ⟨bb,ps,v',ak,hbb,erm,Nat.zero_le _,fun j p hj=>by omega⟩
   ·rw[Wf hrr]
    walk_at "vs"
    intro fl hfl
    exact q fl _ (s1.trans (aq _ hfl)) (same_none s1 hfl) fun kn=> .inr ⟨ak,fun r2 ps2 v2 e=>by
     rw[erm] at e;cases e;exact .inl (Ne.symm hrr)⟩
abbrev bF:Stmt:=vM 13 0
theorem v5:bL ["self","r","records"] ["self","r","records"] (aa bF):=⟨rfl,rfl,rfl,by decide +kernel,rfl,by decide +kernel,by decide +kernel⟩
theorem fL:aG (aa bF) "self":=by decide +kernel
theorem lO:aG (aa bF) "r":=by decide +kernel
theorem oh:aG (aa bF) "records":=by decide +kernel
theorem mL:(aa bF).names.lookup ("Reckoning":Str)=some NameKind.globalImplicit:=by decide +kernel
theorem mO:(("Reckoning":Str)==("__debug__":Str))=false:=by decide +kernel
theorem v7 {f g0:Addr}{fd gd0:FuncData} (fH:fX K CS "__init__" "Settling.__init__" bF ["self","r","records"] f fd)
 (d8:fX K CR "__init__" "Reckoning.__init__" bZ ["self","r"] g0 gd0) (v8:aY P w K mg base CX0 1 g0 gd0 ["self","r"] (JT CR))
 (v9:Mk K CR g0) (wg:mg "Reckoning"=some (.ref CR)) (sc:SeC K CS):aY P w K mg base CX0 3 f fd ["self","r","records"] (J0 CS CR):=by
 refine fH.F.okQ v5 (fun vs H Q E h=> ?_) (fun cdv A outer s H vs Q E hr h=> ?_)
 ·obtain⟨a,dx,b,fl,r,rfl,_⟩:=h
  rfl
 obtain⟨a,dx,b,fl,r,rfl,e,hR,hw,q⟩:=h
 have iW:=sc.cl
 have nR:=sc.nR
 have nF:=sc.nF
 have nP:=sc.nP
 have nK:=sc.nK
 refine⟨_,(az (jZ (aj 0 fL) (aj 1 lO))
  (az (jZ (aj 0 fL) (aj 2 oh))
  (az (jZ (aj 0 fL) aB)
  (aC (jZ (aj 0 fL) (zy v9 (v8.mono (by omega)) hr mL wg d8.b .nil cJ (aP (aj 1 lO) au) mO)))))), ?_⟩
 walk_at "vs"
 have F3:upd (upd (upd H a (.ins CS dx (aO "recipe" (.ref b) []))) a (.ins CS dx (aO "fitting" (.ref fl) (aO "recipe" (.ref b) [])))) a (.ins CS dx (aO "place" (.int 0) (aO "fitting" (.ref fl) (aO "recipe" (.ref b) []))))=upd H a (.ins CS dx (aO "place" (.int 0) (aO "fitting" (.ref fl) (aO "recipe" (.ref b) [])))):=by rw[mY,mY]
 rw[F3]
 have b1:But [a] H (upd H a (.ins CS dx (aO "place" (.int 0) (aO "fitting" (.ref fl) (aO "recipe" (.ref b) []))))):=But.set _ (by simp)
 have t1:lg H (upd H a (.ins CS dx (aO "place" (.int 0) (aO "fitting" (.ref fl) (aO "recipe" (.ref b) []))))):=fun p xs z=>(ao (fun y=>by rw[y,e] at z;cases z)).trans z
 have e1:upd H a (.ins CS dx (aO "place" (.int 0) (aO "fitting" (.ref fl) (aO "recipe" (.ref b) [])))) a=some (.ins CS dx (aO "place" (.int 0) (aO "fitting" (.ref fl) (aO "recipe" (.ref b) [])))):=ak
 have n1:∀{z},upd H a (.ins CS dx (aO "place" (.int 0) (aO "fitting" (.ref fl) (aO "recipe" (.ref b) [])))) z=none->H z=none:=fun z=>(gC z).2
 generalize upd H a (.ins CS dx (aO "place" (.int 0) (aO "fitting" (.ref fl) (aO "recipe" (.ref b) []))))=H1 at *
 intro rk dxr hrk hdxr hne
 have ahc:(upd H1 dxr (.own rk)) rk=none:=(ao (Ne.symm hne)).trans hrk
 have S1:=(aq (.own rk) hdxr).trans (aq (.ins CR dxr []) ahc)
 refine⟨rk,dxr,b,r,rfl,ak,(hR.tups t1).same S1,hw,fun a1 a2 a3 H2 b2 h1 h2 h3 rc2=>⟨rfl, ?_⟩⟩
 have h1:=same_none S1 h1
 have h2:=same_none S1 h2
 have h3:=same_none S1 h3
 have S2:aN H1 H2:=d7 S1 (fun p hp=>by
  have:p=rk:=by simpa using hp
  rw[this];exact hrk) b2
 have e2:=S2 _ _ e1
 have nak:a≠rk:=fun z=>by rw[<-z,e1] at hrk;cases hrk
 have na1:a≠a1:=fun z=>by rw[<-z,e1] at h1;cases h1
 have na2:a≠a2:=fun z=>by rw[<-z,e1] at h2;cases h2
 have na3:a≠a3:=fun z=>by rw[<-z,e1] at h3;cases h3
 walk_at "vs"
 have t3:lg H2 (upd H2 a (.ins CS dx (aO "reckoning" (.ref rk) (aO "place" (.int 0) (aO "fitting" (.ref fl) (aO "recipe" (.ref b) [])))))):=fun p xs z=>(ao (fun y=>by rw[y,e2] at z;cases z)).trans z
 refine q ⟨a,dx,b,fl,rk,dxr,a1,a2,a3,0⟩ _ ((b1.trans (But.of_same S2)).trans (But.set _ (by simp))) rfl rfl rfl rfl ak (rc2.move (S:=[a]) (But.set _ (by simp)) t3 ?_) ?_
 ·intro z hz w
  have w:z=a:=by simpa using w
  have hz:z=rk\/z=a1\/z=a2\/z=a3:=by simpa using hz
  rcases hz with y | y | y | y
  ·exact nak (w.symm.trans y)
  ·exact na1 (w.symm.trans y)
  ·exact na2 (w.symm.trans y)
  ·exact na3 (w.symm.trans y)
 ·intro z hz
  have hz:z=rk\/z=a1\/z=a2\/z=a3:=by simpa using hz
  rcases hz with rfl | rfl | rfl | rfl
  ·exact n1 hrk
  ·exact n1 h1
  ·exact n1 h2
  ·exact n1 h3
end
section
local macro_rules | `(tactic| walk_at "side") => `(tactic| first | exact xm _ _ _ _ | exact tU _ _ _ _ | exact xq _ _ _ _ | exact oY _ _ _ _ | exact (gw _ _ _ _).1 | exact (gw _ _ _ _).2.1 | exact (gw _ _ _ _).2.2.1 | exact (gw _ _ _ _).2.2.2 | exact zz _ _ _ | exact Nat.le_of_ble_eq_true rfl)
variable {P:Program}{w:World}{K:PySem.W.Frag}{mg:Str->Option Value}{base:Heap}{CN CS CR:Addr}
abbrev bf:Stmt:=vM 13 3
theorem qJ:bL ["self"] ["self"] (aa bf):=⟨rfl,rfl,rfl,by decide +kernel,rfl,by decide +kernel,by decide +kernel⟩
theorem oA:(aa bf).names.lookup ("len":Str)=some NameKind.globalImplicit:=by decide +kernel
theorem nW:aG (aa bf) "self":=by decide +kernel
theorem oE:("len":Str)≠"__name__":=by decide +kernel
theorem oF:(("len":Str)==("__debug__":Str))=false:=by decide +kernel
def Ua (CS:Addr):Sp:=fun vs H Q _=>∃(s dx b fl rk:Addr) (k:Nat) (xs:List V),vs=[.ref s]/\H s=some (.ins CS dx (seF b fl k rk))/\H fl=some (.lst xs)/\Q (.bl (decide (xs.length=0))) H
theorem qK {f:Addr}{fd:FuncData} (aR:fX K CS "was_reckoned" "Settling.was_reckoned" bf ["self"] f fd) (T:Blt mg) (sc:SeC K CS):aY P w K mg base CX0 1 f fd ["self"] (Ua CS):=by
 refine aR.F.okQ qJ (fun vs H Q E h=> ?_) (fun cdv A outer s H vs Q E hr h=> ?_)
 ·obtain⟨a,dx,b,fl,rk,k,xs,rfl,_⟩:=h
  rfl
 obtain⟨a,dx,b,fl,rk,k,xs,rfl,e,ef,q⟩:=h
 have iW:=sc.cl
 have nF:=sc.nF
 refine⟨_,(aC (bY (Dt gF (cX gM oA T.uL nZ (Mi (bu (aj 0 nW)) au) oE oF) aB (bH _)))), ?_⟩
 walk_at "vs"
 have:decide (V.int (xs.length:Int)=V.int 0)=decide (xs.length=0):=by
  by_cases z:xs.length=0
  ·rw[decide_eq_true z,z];rfl
  ·rw[decide_eq_false z]
   exact decide_eq_false fun w=>z (by have:=V.int.inj w;omega)
 rw[this]
 exact q
abbrev cU:Stmt:=vM 13 2
theorem yF:bL ["self","worth"] ["self","worth"] (aa cU):=⟨rfl,rfl,rfl,by decide +kernel,rfl,by decide +kernel,by decide +kernel⟩
theorem gf:aG (aa cU) "self":=by decide +kernel
theorem yG {f:Addr}{fd:FuncData} (fu:fX K CS "fit_on" "Settling.fit_on" cU ["self","worth"] f fd) (sc:SeC K CS):aY P w K mg base CX0 1 f fd ["self","worth"] (Yo CS):=by
 refine fu.F.okQ yF (fun vs H Q E h=> ?_) (fun cdv A outer s H vs Q E hr h=> ?_)
 ·obtain⟨a,dx,b,fl,rk,rb,br,l,k,as,ps,v,w',u,x,rfl,_⟩:=h
  rfl
 obtain⟨a,dx,b,fl,rk,rb,br,l,k,as,ps,v,w',u,x,rfl,e,ef,erb,el,hRs,hk,q⟩:=h
 have iW:=sc.cl
 have nF:=sc.nF
 have nP:=sc.nP
 refine⟨_,(az (jZ (aj 0 gf) (CZ rfl (n:=1) (fr:=[1,0]) (N:=["record","worth","self"]) (JC (scX:=aa cU) (NX:=["self","worth"]) rfl rfl (by decide +kernel)) (zx (bu (aj 0 gf))) (fun _ _ _ _ _=>(qgx (i:=0) (show List.Nodup (α:=Str) ["record","worth","self"] by decide) (PX (by decide +kernel)))) (fun _ _ _ _ _=>(RL (cW gF (cg (JM (K:=K) rfl) (cg (Be (K:=K) rfl) (cg (JM (K:=K) rfl) (aj 0 (tM.ok (by decide +kernel))) aB) (Wi (K:=K) rfl (aj 2 (tM.ok (by decide +kernel))))) aB) (aj 1 (tM.ok (by decide +kernel))) (bH _)))) (fun _ _ _ _ _=>(aj 0 (tM.ok (by decide +kernel))))))
  (aC (jZ (aj 0 gf) (bM jF (bu (aj 0 gf)) aB)))), ?_⟩
 have hkl:k<ps.length:=(List.getElem?_eq_some_iff.mp hk).1
 have hka:k<as.length:=by rw[hRs.length];exact hkl
 have hae:as[k]? =some as[k]:=List.getElem?_eq_getElem hka
 obtain⟨p,hp,ep⟩:=hRs.get k _ hae
 rw[hk] at hp
 cases hp
 have ep:H as[k]=some (.tup [.str x, .int u]):=ep
 have a1:atI [V.ref br, .ref l, .int v] 1=some (.ref l):=rfl
 have a2:atI (as.map V.ref) (k:Int)=some (.ref as[k]):=lH (by rw[List.getElem?_map,hae];rfl)
 have a3:atI [V.str x, .int u] 1=some (.int u):=rfl
 walk_at "vs"
 intro D hD
 have sD:=aq (.lst []) hD
 refine Gx (xs:=[.ref rb]) (fun i σ' H'=>(∃t,σ'=[t,some (.int w'),some (.ref a)])/\aN H H'/\H' D=some (.lst (if i=0 then [] else if u=w' then [.ref rb] else []))) ?_ ?_ ?_ ?_
 ·exact⟨⟨none,rfl⟩,sD,ak⟩
 ·intro i σ' H' _ hP
  exact SqL.of (hP.2.1 _ _ ef)
 ·intro i y σ' H' hy hP
  obtain⟨⟨t,rfl⟩,S1,eD⟩:=hP
  obtain⟨rfl,rfl⟩:i=0/\y= .ref rb:=by
   match i,hy with
   | 0,hy=>exact⟨rfl,(Option.some.inj hy).symm⟩
   | i+1,hy=>simp at hy
  rw[if_pos rfl] at eD
  have e1:=S1 _ _ e
  have ais:=S1 _ _ erb
  have el1:=S1 _ _ el
  have ep1:=S1 _ _ ep
  have hz:([]:List V).length<sizeLine:=bG (by simp)
  walk_at "vs"
  refine Ay (fun c=> ?_) (fun c=> ?_)
  ·have c:u=w':=V.int.inj (of_decide_eq_true c)
   walk_at "vs"
   refine⟨⟨_,rfl⟩,lE _ hD S1, ?_⟩
   rw[if_neg (by decide),if_pos c];exact ak
  ·have c:¬u=w':=fun z=>c (decide_eq_true (by rw[z]))
   refine⟨⟨_,rfl⟩,S1, ?_⟩
   rw[if_neg (by decide),if_neg c];exact eD
 ·intro σ' H1 hP
  obtain⟨_,S1,eD⟩:=hP
  rw[show(if([V.ref rb]:List V).length=0 then([]:List V) else if u=w' then [.ref rb] else [])=if u=w' then [.ref rb] else [] from if_neg (by simp)] at eD
  have e1:=S1 _ _ e
  have naD:a≠D:=fun z=>by rw[z,hD] at e;cases e
  walk_at "vs"
  refine q D _ ((But.of_same S1).trans ((But.set _ (by simp)).trans (But.set _ (by simp)))) hD ak ?_
  rw[ao (Ne.symm naD),ao (Ne.symm naD)];exact eD
end
section
local macro_rules | `(tactic| walk_at "side") => `(tactic| first | exact xm _ _ _ _ | exact tU _ _ _ _ | exact xq _ _ _ _ | exact oY _ _ _ _ | exact (gw _ _ _ _).1 | exact (gw _ _ _ _).2.1 | exact (gw _ _ _ _).2.2.1 | exact (gw _ _ _ _).2.2.2 | exact zz _ _ _ | exact Nat.le_of_ble_eq_true rfl)
variable {P:Program}{w:World}{K:PySem.W.Frag}{mg:Str->Option Value}{base:Heap}{CN CS CR:Addr}
abbrev aX:Stmt:=vM 13 1
theorem j0:bL ["self","known","reads","name"] ["self","known"] (aa aX):=⟨rfl,rfl,rfl,by decide +kernel,rfl,by decide +kernel,by decide +kernel⟩
theorem cO:aG (aa aX) "self":=by decide +kernel
theorem qb:Loc (aa aX) "reads":=by decide +kernel
theorem rP:(aa aX).names.lookup ("len":Str)=some NameKind.globalImplicit:=by decide +kernel
theorem jY:aG (aa aX) "reads":=by decide +kernel
theorem rQ:("len":Str)≠"__name__":=by decide +kernel
theorem rR:(("len":Str)==("__debug__":Str))=false:=by decide +kernel
theorem qL:Loc (aa aX) "name":=by decide +kernel
theorem iH:aG (aa aX) "name":=by decide +kernel
theorem iB:aG (aa aX) "known":=by decide +kernel
theorem xJ {f g0 g1:Addr}{fd gd0 gd1:FuncData} (dX:fX K CS "lacking" "Settling.lacking" aX ["self","known"] f fd)
 (fu:fX K CS "fit_on" "Settling.fit_on" cU ["self","worth"] g0 gd0) (zO:aY P w K mg base CX0 1 g0 gd0 ["self","worth"] (Yo CS))
 (dD:fX K CR "lacking" "Reckoning.lacking" bD ["self","known"] g1 gd1) (xK:aY P w K mg base CX0 3 g1 gd1 ["self","known"] (R0 CR))
 (T:Blt mg) (sc:SeC K CS) (rcC:RkC K CR):aY P w K mg base CX0 4 f fd ["self","known"] (G3 CS CR):=by
 refine dX.F.okQ j0 (fun vs H Q E h=> ?_) (fun cdv A0 outer s H vs Q E hr h=> ?_)
 ·obtain⟨A,d,kr,rm,y,r,kn,rfl,_⟩:=h
  rfl
 obtain⟨A,d,kr,rm,y,r,kn,rfl,se,rD,rf,rcg,⟨kvs,ed,hkn⟩,nd3,hfn,q⟩:=h
 have iW:=sc.cl
 have nR:=sc.nR
 have nF:=sc.nF
 have nP:=sc.nP
 have nK:=sc.nK
 have lu:=rcC.cl
 refine⟨_,(az (Dw PassesOwn.never (Du (bu (aj 0 cO))) (az (bW (i:=2) j0.nd rfl qb (cg bV (cg eX (bu (aj 0 cO)) aB) aB))
  (az (fJ (cW gF (bu (aj 0 cO)) (cX gM rP T.uL nZ (aP (aj 2 jY) au) rQ rR) (bH _)) (aC (bY Az)) cZ)
  (az (bW (i:=3) j0.nd rfl qL (cg bV (cg eX (aj 2 jY) (bu (aj 0 cO))) aB))
  (az (fJ (Bf (dZ hr) (aj 3 iH) (aj 1 iB)) (aC (bY (aj 3 iH))) cZ)
  (aC (fZ (oX (aj 0 cO) iW fu.m (zO.mono (by omega)) hr fu.b .nil cJ (lZ (fV (dZ hr) (aj 1 iB) (aj 3 iH)) au)))))))))
  (aC (bY (oX (bu (aj 0 cO)) lu dD.m (xK.mono (by omega)) hr dD.b .nil cJ (aP (aj 1 iB) au))))), ?_⟩
 have nds:d∉[A.s]:=fun z=>by
  have z:d=A.s:=by simpa using z
  have:=se.e
  rw[<-z,ed] at this;cases this
 refine⟨fun m σ H'=>∃(A1:SeD) (t1 t2:Option V),σ=[some (.ref A.s),some (.ref d),t1,t2]/\But [A.s] H H'/\tV CS CR kr rm y r kn A1 H'/\A1.s=A.s/\A1.b=A.b/\A1.rk=A.rk/\A1.a1=A.a1/\A1.a2=A.a2/\A1.a3=A.a3/\A1.dx=A.dx/\(A1.fl=A.fl\/H A1.fl=none)/\m=1000 - A1.k,
  ⟨_,A,none,none,rfl,But.refl _ _,se,rfl,rfl,rfl,rfl,rfl,rfl,rfl, .inl rfl,rfl⟩, ?_⟩
 rintro m σ H1 ⟨A1,t1,t2,rfl,b1,se1,es,eb,erk,ea1,ea2,ea3,edx,efl,rfl⟩
 have e1:=se1.e
 rw[es] at e1
 have tp1:lg H H1:=fun p xs z=>b1 p _ (fun w=>by
  have w:p=A.s:=by simpa using w
  have:=se.e
  rw[<-w,z] at this;cases this) z
 have ed1:=b1 _ _ nds ed
 have rD1:j9 H1 kr rm:=rD.map fun b' q' z=>z.but b1 tp1 (fun y hy=> .inr fun xs w=>by
  have w':y=A.s:=by simpa using hy
  have:=se.e
  rw[<-w',w] at this;cases this)
 have fin:∀H2,But [A.s] H1 H2->But A.ft H H2:=fun H2 b=>(b1.trans b).mono (by simp[SeD.ft])
 rcases se1.f with⟨rb,ps,v,Gd,hval,hrm,hkle,hall⟩ | ⟨Gd,nof⟩
 ·obtain⟨bb,hbb,br,l,as,f1,R1,el,hRs,_⟩:=rD1.v y _ hrm
  rw[hval] at hbb
  cases hbb
  have f1:H1 rb=some (.tup [.ref br, .ref l, .int v]):=f1
  have hRs:j8 H1 as ps:=hRs
  have got:=rf ps v hrm
  have hpl:ps.length<=900:=Nat.le_trans (Ke got.c r.tW) rcg.l
  have a0:atI [V.ref rb] 0=some (.ref rb):=rfl
  have a1:atI [V.ref br, .ref l, .int v] 1=some (.ref l):=rfl
  have hlm:(as.map V.ref).length=ps.length:=by rw[List.length_map];exact hRs.length
  walk_at "vs"
  refine⟨fun σ' H'=>∃(A2:SeD) (t1 t2:Option V),σ'=[some (.ref A.s),some (.ref d),t1,t2]/\But [A.s] H H'/\tV CS CR kr rm y r kn A2 H'/\A2.s=A.s/\A2.b=A.b/\A2.rk=A.rk/\A2.a1=A.a1/\A2.a2=A.a2/\A2.a3=A.a3/\A2.dx=A.dx/\(A2.fl=A.fl\/H A2.fl=none)/\A2.k=A1.k+1,fun σ' H' ⟨A2,t1,t2,z1,z2,z3,z4,z5,z6,z7,z8,z9,z10,z11,z12⟩=>⟨1000 - A2.k,by omega,A2,t1,t2,z1,z2,z3,z4,z5,z6,z7,z8,z9,z10,z11,rfl⟩, ?_⟩
  walk_at "vs"
  refine Ay (fun c=> ?_) (fun c=> ?_)
  ·have c:A1.k=ps.length:=by have:=V.int.inj (of_decide_eq_true c);omega
   walk_at "vs"
   refine(q A1 H1 (fin H1 (But.refl _ _)) es eb erk ea1 ea2 ea3 efl se1).1 (.inl ⟨rb,ps,v,Gd,hval,hrm,fun p hp=> ?_⟩)
   obtain⟨j,hj⟩:=List.getElem?_of_mem hp
   exact hall j p (by rw[c];exact(List.getElem?_eq_some_iff.mp hj).1) hj
  ·have c:A1.k<ps.length:=by
    have:¬A1.k=ps.length:=fun z=>c (decide_eq_true (by rw[hlm,z]))
    omega
   have hka:A1.k<as.length:=by rw[hRs.length];exact c
   have hae:as[A1.k]? =some as[A1.k]:=List.getElem?_eq_getElem hka
   obtain⟨⟨x,u⟩,hp,ep⟩:=hRs.get A1.k _ hae
   have ep:H1 as[A1.k]=some (.tup [.str x, .int u]):=ep
   have a2:atI (as.map V.ref) (A1.k:Int)=some (.ref as[A1.k]):=lH (by rw[List.getElem?_map,hae];rfl)
   have a3:atI [V.str x, .int u] 0=some (.str x):=rfl
   have dw:dO H1 d (.str x) ((kn x).map V.int):=by rw[<-hkn];exact dO.k (k:= .inr x) ed1
   cases ekn:kn x with
   | none=>
     rw[ekn] at dw
     have dw:dO H1 d (.str x) none:=dw
     walk_at "vs"
     exact(q A1 H1 (fin H1 (But.refl _ _)) es eb erk ea1 ea2 ea3 efl se1).2 x ekn (Mw got.c hp hall)
   | some w'=>
     rw[ekn] at dw
     have dw:dO H1 d (.str x) (some (.int w')):=dw
     walk_at "vs"
     intro fl' H2 b2 hfl' e2 QK
     have hs1:∀xs,H1 A.s≠some (.lst xs):=fun xs z=>by rw[e1] at z;cases z
     have tp2:lg H1 H2:=fun p xs z=>b2 p _ (fun w=>by
      have w:p=A.s:=by simpa using w
      rw[w,e1] at z;cases z) z
     obtain⟨cf,rc1,rch⟩:=se1.c
     have hns:∀{z:Addr},z≠A.s->z∉[A.s]:=fun h w=>h (by simpa using w)
     have nrk:A1.rk≠A.s:=fun z=>se1.n1 (by rw[es,z])
     have n1:A1.a1≠A.s:=fun z=>by obtain⟨ws,w1,_⟩:=rc1.e1;rw[z,e1] at w1;cases w1
     have n2:A1.a2≠A.s:=fun z=>by have w1:=rc1.e2;rw[z,e1] at w1;cases w1
     have n3:A1.a3≠A.s:=fun z=>by have w1:=rc1.e3;rw[z,e1] at w1;cases w1
     have f1n:fl'≠A1.a1:=fun z=>by obtain⟨ws,w1,_⟩:=rc1.e1;rw[<-z,hfl'] at w1;cases w1
     have f2n:fl'≠A1.a2:=fun z=>by have w1:=rc1.e2;rw[<-z,hfl'] at w1;cases w1
     refine⟨⟨A.s,A1.dx,A1.b,fl',A1.rk,A1.dxr,A1.a1,A1.a2,A1.a3,A1.k+1⟩,_,_,rfl,b1.trans b2,⟨e2,se1.hr.tups tp2,⟨cf,rc1.move b2 tp2 (fun z hz=> ?_),rch⟩, ?_,fun z=>nrk z.symm,f1n,f2n⟩,rfl,eb,erk,ea1,ea2,ea3,edx, .inr ?_,rfl⟩
     ·have hz:z=A1.rk\/z=A1.a1\/z=A1.a2\/z=A1.a3:=by simpa using hz
      rcases hz with rfl | rfl | rfl | rfl
      ·exact hns nrk
      ·exact hns n1
      ·exact hns n2
      ·exact hns n3
     ·by_cases huw:u=w'
      ·rw[if_pos huw] at QK
       refine .inl ⟨rb,ps,v,QK,hval,hrm,c,fun j p hj hpj=> ?_⟩
       have hj:j<A1.k+1:=hj
       by_cases hjk:j=A1.k
       ·rw[hjk,hp] at hpj;cases hpj
        rw[ekn,huw]
       ·exact hall j p (by omega) hpj
      ·rw[if_neg huw] at QK
       refine .inr ⟨QK,fun r2 ps2 v2 e=> ?_⟩
       rw[hrm] at e;cases e
       exact .inr ⟨(x,u),List.mem_of_getElem? hp,w',ekn,fun z=>huw z.symm⟩
     ·exact DY b1 hfl' (hns (show fl'≠A.s from fun z=>by rw[z,e1] at hfl';cases hfl'))
 ·obtain⟨cf,rc1,rch⟩:=se1.c
  have ait:=rc1.e
  obtain⟨nn,cf',hst,hhalt,rch',gg⟩:=rch.adU hfn
  have knA:RZ H1 d kn:=⟨kvs,ed1,hkn⟩
  have aiu:d≠A1.a3:=by rw[ea3];exact nd3
  walk_at "vs"
  intro H2 b2 rc2
  have tp2:=rc1.lists b2
  have nss:A1.s∉[A1.a1,A1.a2,A1.a3]:=fun z=>by
   have e1:=se1.e
   have z:A1.s=A1.a1\/A1.s=A1.a2\/A1.s=A1.a3:=by simpa using z
   rcases z with z | z | z
   ·obtain⟨ws,w1,_⟩:=rc1.e1;rw[z,w1] at e1;cases e1
   ·rw[z,rc1.e2] at e1;cases e1
   ·rw[z,rc1.e3] at e1;cases e1
  have nfl:A1.fl∉[A1.a1,A1.a2,A1.a3]:=fun z=>by
   have z:A1.fl=A1.a1\/A1.fl=A1.a2\/A1.fl=A1.a3:=by simpa using z
   rcases z with z | z | z
   ·exact se1.n2 z
   ·exact se1.n3 z
   ·rw[z,rc1.e3] at Gd;cases Gd
  have se2:tV CS CR kr rm y r kn A1 H2:=⟨b2 _ _ nss se1.e,se1.hr.tups tp2,⟨cf',rc2,rch'⟩, .inr ⟨b2 _ _ nfl Gd,nof⟩,se1.n1,se1.n2,se1.n3⟩
  have bb:But A.ft H H2:=(b1.mono (by simp[SeD.ft])).trans (b2.mono (by rw[ea1,ea2,ea3];simp[SeD.ft]))
  have qq:=q A1 H2 bb es eb erk ea1 ea2 ea3 efl se2
  unfold Goes at gg
  cases eev:ev kn r with
  | inr v=>
    rw[eev] at gg
    obtain⟨g1,g2,g3,g4⟩:=gg
    exact⟨fun _=>qq.1 (.inr ⟨b2 _ _ nfl Gd,nof,cf',v,rc2,g2,g3,g4⟩),fun t x z=>by rw[g1] at z;simp at z⟩
  | inl x=>
    rw[eev] at gg
    obtain⟨⟨t,g1⟩,g2,g3⟩:=gg
    refine⟨fun z=>by rw[g1] at z;simp at z,fun t' x' z=> ?_⟩
    rw[g1] at z
    obtain⟨_,z⟩:=jz z
    cases z
    exact qq.2 x g2 g3
end
section
local macro_rules | `(tactic| walk_at "side") => `(tactic| first | exact xm _ _ _ _ | exact tU _ _ _ _ | exact xq _ _ _ _ | exact oY _ _ _ _ | exact (gw _ _ _ _).1 | exact (gw _ _ _ _).2.1 | exact (gw _ _ _ _).2.2.1 | exact (gw _ _ _ _).2.2.2 | exact zz _ _ _ | exact DP _ _ _ | exact DQ _ _ _ | exact Nat.le_of_ble_eq_true rfl)
variable {P:Program}{w:World}{K:PySem.W.Frag}{mg:Str->Option Value}{base:Heap}{CN CS CR:Addr}
abbrev bR:Stmt:=vM 13 4
theorem um:bL ["self"] ["self"] (aa bR):=⟨rfl,rfl,rfl,by decide +kernel,rfl,by decide +kernel,by decide +kernel⟩
theorem bI:aG (aa bR) "self":=by decide +kernel
theorem jG:(aa bR).names.lookup ("list":Str)=some NameKind.globalImplicit:=by decide +kernel
theorem o7:("list":Str)≠"__name__":=by decide +kernel
theorem o8:(("list":Str)==("__debug__":Str))=false:=by decide +kernel
theorem uo {f g0:Addr}{fd gd0:FuncData} (cP:fX K CS "new_record" "Settling.new_record" bR ["self"] f fd)
 (aR:fX K CS "was_reckoned" "Settling.was_reckoned" bf ["self"] g0 gd0) (iY:aY P w K mg base CX0 1 g0 gd0 ["self"] (Ua CS))
 (T:Blt mg) (sc:SeC K CS) (rcC:RkC K CR):aY P w K mg base CX0 2 f fd ["self"] (Oe CS CR):=by
 refine cP.F.okQ um (fun vs H Q E h=> ?_) (fun cdv A0 outer s H vs Q E hr h=> ?_)
 ·obtain⟨A,kr,rm,y,r,kn,rfl,_⟩:=h
  rfl
 obtain⟨A,kr,rm,y,r,kn,rfl,e,rD,rf,rcg,se,q⟩:=h
 have iW:=sc.cl
 have nR:=sc.nR
 have nF:=sc.nF
 have nP:=sc.nP
 have nK:=sc.nK
 have lu:=rcC.cl
 have nFo:=rcC.nF
 have nRe:=rcC.nR
 refine⟨_,(az (fJ (yp (DK (aj 0 bI) iW aR.m (iY.mono (by omega)) hr aR.b .nil cJ)) (aC (bY (jm (Mi (bu (aj 0 bI)) (uP (aaZ rfl (bu (bu (aj 0 bI))) jG T.vA) (lZ (cg eX (bu (bu (aj 0 bI))) aB) au)))))) cZ)
  (aC (bY (jm (Mi (bu (aj 0 bI)) (uP (lD tO jG T.vA qd (lZ (cg bV (cg eX (bu (aj 0 bI)) aB) aB) au) o7 o8) (lZ (cg bV (cg eX (bu (aj 0 bI)) aB) aB) au))))))), ?_⟩
 rcases se with⟨rb,ps,v,efl,hval,hrm,hall⟩ | ⟨efl,nof,c,v,rc1,hfo,got,rows⟩
 ·obtain⟨bb,hbb,br,l,as,f1,R1,el,hRs,_⟩:=rD.v y _ hrm
  rw[hval] at hbb
  cases hbb
  have f1:H rb=some (.tup [.ref br, .ref l, .int v]):=f1
  have hRs:j8 H as ps:=hRs
  have got:=rf ps v hrm
  have hpl:ps.length<=900:=Nat.le_trans (Ke got.c r.tW) rcg.l
  have a0:atI [V.ref rb] 0=some (.ref rb):=rfl
  have a1:atI [V.ref br, .ref l, .int v] 1=some (.ref l):=rfl
  have a2:atI [V.ref br, .ref l, .int v] 2=some (.int v):=rfl
  walk_at "vs"
  intro l' hl'
  have s1:=aq (.lst (as.map V.ref)) hl'
  have el1:upd H l' (.lst (as.map V.ref)) l'=some (.lst (as.map V.ref)):=ak
  have e1:=s1 _ _ e
  have Gd:=s1 _ _ efl
  have f11:=s1 _ _ f1
  generalize upd H l' (.lst (as.map V.ref))=H1 at *
  walk_at "vs"
  intro rb' hrb'
  have s2:=aq (.tup [.ref A.b, .ref l', .int v]) hrb'
  exact q rb' l' as ps v false _ (s1.trans s2) ak hl' (s2 _ _ el1) (hRs.same (s1.trans s2)) ⟨got,⟨hall,(xg got.c).2⟩,hrm⟩ ⟨_,s2 _ _ Gd,rfl⟩
 ·have e1:=rc1.e
  have e2:=rc1.e2
  rw[hfo] at e2
  have e3:=rc1.e3
  have a0:atI [V.int v] 0=some (.int v):=rfl
  walk_at "vs"
  intro l' as H1 s1 hl' el1 hal hit
  have e1':=s1 _ _ e1
  have e2':H1 A.a2=some (.lst [.int v]):=s1 _ _ e2
  have eS:=s1 _ _ e
  have Gd:=s1 _ _ efl
  walk_at "vs"
  intro rb' hrb'
  have s2:=aq (.tup [.ref A.b, .ref l', .int v]) hrb'
  have hR:j8 H1 as c.rds:=Kc (by rw[hal];unfold rdK;rw[List.length_map]) fun j b p h1 h2=>by
   have h3:(rdK c.rds)[j]? =some (.inr p.1, .int p.2):=by unfold rdK;rw[List.getElem?_map,h2];rfl
   exact hit j b _ h1 h3
  exact q rb' l' as c.rds v true _ (s1.trans s2) ak hl' (s2 _ _ el1) (hR.same s2) ⟨got,rows,nof⟩ ⟨_,s2 _ _ Gd,rfl⟩
end
section
local macro_rules | `(tactic| walk_at "side") => `(tactic| first | exact zF _ _ _ _ _ _ | exact tX _ _ _ _ _ _ | exact Ig _ _ _ _ _ _ | exact zG _ _ _ _ _ _ | exact tY _ _ _ _ _ _ | exact qg _ _ _ _ _ _ | exact (iV _ _ _ _ _ _).1 | exact (iV _ _ _ _ _ _).2.1 | exact (iV _ _ _ _ _ _).2.2.1 | exact (iV _ _ _ _ _ _).2.2.2.1 | exact (iV _ _ _ _ _ _).2.2.2.2 | exact (Bj _).1 | exact (Bj _).2 | exact (gw _ _ _ _).1 | exact (gw _ _ _ _).2.2.1 | exact (gw _ _ _ _).2.2.2 | exact Nat.le_of_ble_eq_true rfl)
variable {P:Program}{w:World}{K:PySem.W.Frag}{mg:Str->Option Value}{base:Heap}{CSe CN CS CR CM CNo CRi:Addr}
abbrev cD:Stmt:=vM 14 0
theorem yH:bL ["self","house","old"] ["self","house","old"] (aa cD):=⟨rfl,rfl,rfl,by decide +kernel,rfl,by decide +kernel,by decide +kernel⟩
theorem cV:aG (aa cD) "self":=by decide +kernel
theorem kW:aG (aa cD) "house":=by decide +kernel
theorem uq:aG (aa cD) "old":=by decide +kernel
theorem yI {f:Addr}{fd:FuncData} (gh:fX K CSe "__init__" "Search.__init__" cD ["self","house","old"] f fd) (sc:SrC K CSe):aY P w K mg base CX0 1 f fd ["self","house","old"] (Kf CSe):=by
 refine gh.F.okQ yH (fun vs H Q E h=> ?_) (fun cdv A outer s H vs Q E hr h=> ?_)
 ·obtain⟨a,dx,h,g,c,o,rfl,_⟩:=h
  rfl
 obtain⟨a,dx,h,g,c,o,rfl,e,eh,q⟩:=h
 have o9:=sc.cl
 have nG:=sc.nG
 have nR:=sc.nR
 have nO:=sc.nO
 have nK:=sc.nK
 have nS:=sc.nS
 have nM:=sc.nM
 refine⟨_,(az (jZ (aj 0 cV) (cg bV (aj 1 kW) aB))
  (az (jZ (aj 0 cV) (cg bV (aj 1 kW) aB))
  (az (jZ (aj 0 cV) (aj 2 uq))
  (az (jZ (aj 0 cV) iU)
  (az (jZ (aj 0 cV) iU)
  (aC (jZ (aj 0 cV) iU))))))), ?_⟩
 have nha:h≠a:=fun z=>by rw[z,e] at eh;cases eh
 have a0:atI [V.ref g, .ref c] 0=some (.ref g):=rfl
 have a1:atI [V.ref g, .ref c] 1=some (.ref c):=rfl
 walk_at "vs"
 rw[mY,mY]
 have b1:But [a] H (upd H a (.ins CSe dx (aO "old" (.ref o) (aO "recipes" (.ref c) (aO "given" (.ref g) []))))):=But.set _ (by simp)
 have e1:upd H a (.ins CSe dx (aO "old" (.ref o) (aO "recipes" (.ref c) (aO "given" (.ref g) [])))) a=some (.ins CSe dx (aO "old" (.ref o) (aO "recipes" (.ref c) (aO "given" (.ref g) [])))):=ak
 have n1:∀{z},upd H a (.ins CSe dx (aO "old" (.ref o) (aO "recipes" (.ref c) (aO "given" (.ref g) [])))) z=none->H z=none:=fun z=>(gC z).2
 generalize upd H a (.ins CSe dx (aO "old" (.ref o) (aO "recipes" (.ref c) (aO "given" (.ref g) []))))=H1 at *
 walk_at "vs"
 intro kd hkd
 have s2:=aq (.dK []) hkd
 have ek2:upd H1 kd (.dK []) kd=some (.dK []):=ak
 have e2:=s2 _ _ e1
 generalize upd H1 kd (.dK [])=H2 at *
 have nka:kd≠a:=fun z=>by rw[z,e2] at ek2;cases ek2
 walk_at "vs"
 have b3:But [a] H2 (upd H2 a (.ins CSe dx (aO "known" (.ref kd) (aO "old" (.ref o) (aO "recipes" (.ref c) (aO "given" (.ref g) [])))))):=But.set _ (by simp)
 have e3:upd H2 a (.ins CSe dx (aO "known" (.ref kd) (aO "old" (.ref o) (aO "recipes" (.ref c) (aO "given" (.ref g) []))))) a=some (.ins CSe dx (aO "known" (.ref kd) (aO "old" (.ref o) (aO "recipes" (.ref c) (aO "given" (.ref g) []))))):=ak
 have ek3:upd H2 a (.ins CSe dx (aO "known" (.ref kd) (aO "old" (.ref o) (aO "recipes" (.ref c) (aO "given" (.ref g) []))))) kd=some (.dK []):=(ao nka).trans ek2
 have n3:∀{z},upd H2 a (.ins CSe dx (aO "known" (.ref kd) (aO "old" (.ref o) (aO "recipes" (.ref c) (aO "given" (.ref g) []))))) z=none->H2 z=none:=fun z=>(gC z).2
 generalize upd H2 a (.ins CSe dx (aO "known" (.ref kd) (aO "old" (.ref o) (aO "recipes" (.ref c) (aO "given" (.ref g) [])))))=H3 at *
 intro sd hsd
 have s4:=aq (.dK []) hsd
 have es4:upd H3 sd (.dK []) sd=some (.dK []):=ak
 have nks:kd≠sd:=fun z=>by rw[<-z,ek3] at hsd;cases hsd
 have ek4:=s4 _ _ ek3
 have e4:=s4 _ _ e3
 generalize upd H3 sd (.dK [])=H4 at *
 have nsa:sd≠a:=fun z=>by rw[z,e4] at es4;cases es4
 walk_at "vs"
 have b5:But [a] H4 (upd H4 a (.ins CSe dx (aO "settled" (.ref sd) (aO "known" (.ref kd) (aO "old" (.ref o) (aO "recipes" (.ref c) (aO "given" (.ref g) []))))))):=But.set _ (by simp)
 have e5:upd H4 a (.ins CSe dx (aO "settled" (.ref sd) (aO "known" (.ref kd) (aO "old" (.ref o) (aO "recipes" (.ref c) (aO "given" (.ref g) [])))))) a=some (.ins CSe dx (aO "settled" (.ref sd) (aO "known" (.ref kd) (aO "old" (.ref o) (aO "recipes" (.ref c) (aO "given" (.ref g) [])))))):=ak
 have ek5:upd H4 a (.ins CSe dx (aO "settled" (.ref sd) (aO "known" (.ref kd) (aO "old" (.ref o) (aO "recipes" (.ref c) (aO "given" (.ref g) [])))))) kd=some (.dK []):=(ao nka).trans ek4
 have es5:upd H4 a (.ins CSe dx (aO "settled" (.ref sd) (aO "known" (.ref kd) (aO "old" (.ref o) (aO "recipes" (.ref c) (aO "given" (.ref g) [])))))) sd=some (.dK []):=(ao nsa).trans es4
 have n5:∀{z},upd H4 a (.ins CSe dx (aO "settled" (.ref sd) (aO "known" (.ref kd) (aO "old" (.ref o) (aO "recipes" (.ref c) (aO "given" (.ref g) [])))))) z=none->H4 z=none:=fun z=>(gC z).2
 generalize upd H4 a (.ins CSe dx (aO "settled" (.ref sd) (aO "known" (.ref kd) (aO "old" (.ref o) (aO "recipes" (.ref c) (aO "given" (.ref g) []))))))=H5 at *
 intro rd hrd
 have s6:=aq (.dK []) hrd
 have er6:upd H5 rd (.dK []) rd=some (.dK []):=ak
 have nkr:kd≠rd:=fun z=>by rw[<-z,ek5] at hrd;cases hrd
 have nsr:sd≠rd:=fun z=>by rw[<-z,es5] at hrd;cases hrd
 have ek6:=s6 _ _ ek5
 have es6:=s6 _ _ es5
 have e6:=s6 _ _ e5
 generalize upd H5 rd (.dK [])=H6 at *
 have nra:rd≠a:=fun z=>by rw[z,e6] at er6;cases er6
 walk_at "vs"
 have hk0:H kd=none:=n1 hkd
 have hs0:H sd=none:=n1 (same_none s2 (n3 hsd))
 have hr0:H rd=none:=n1 (same_none s2 (n3 (same_none s4 (n5 hrd))))
 exact q kd sd rd _ ((b1.trans (But.of_same s2)).trans (b3.trans ((But.of_same s4).trans (b5.trans ((But.of_same s6).trans (But.set _ (by simp))))))) ak hk0 hs0 hr0 nks nkr nsr ((ao nka).trans ek6) ((ao nsa).trans es6) ((ao nra).trans er6)
abbrev cF:Stmt:=vM 3 0
theorem yJ:bL ["self","name"] ["self","name"] (aa cF):=⟨rfl,rfl,rfl,by decide +kernel,rfl,by decide +kernel,by decide +kernel⟩
theorem oG:(aa cF).names.lookup ("MadeError":Str)=some NameKind.globalImplicit:=by decide +kernel
theorem lF:aG (aa cF) "self":=by decide +kernel
theorem lG:aG (aa cF) "name":=by decide +kernel
theorem oH:(("MadeError":Str)==("__debug__":Str))=false:=by decide +kernel
theorem yK {f:Addr}{fd:FuncData} (gj:fX K CNo "__init__" "NoName.__init__" cF ["self","name"] f fd) (xG:ExI K CNo f) (wj:ExU K CM) (pO:mg "MadeError"=some (.ref CM)) (nN:PySem.W.findIn K (.ref CNo) "name"=some none):aY P w K mg base CX0 1 f fd ["self","name"] (Yv CNo):=by
 refine gj.F.okQ yJ (fun vs H Q E h=> ?_) (fun cdv A outer s H vs Q E hr h=> ?_)
 ·obtain⟨e,y,rfl,_⟩:=h
  rfl
 obtain⟨e,y,rfl,ee,⟨y1,y2⟩,q⟩:=h
 refine⟨_,(az (fZ (Tt wj oG pO (aj 0 lF) (Tv (aj 1 lG) (by decide +kernel)) oH ⟨rfl,rfl,rfl,rfl⟩))
  (aC (Ov rfl (aj 0 lF) (aj 1 lG) rfl))), ?_⟩
 walk_at "vs"
 intro z hz
 refine⟨e,CNo,f,none,rfl,ee,xG, ?_⟩
 walk_at "vs"
 exact q
abbrev cN:Stmt:=vM 4 0
theorem Bp:bL ["self","ring"] ["self","ring"] (aa cN):=⟨rfl,rfl,rfl,by decide +kernel,rfl,by decide +kernel,by decide +kernel⟩
theorem pP:(aa cN).names.lookup ("MadeError":Str)=some NameKind.globalImplicit:=by decide +kernel
theorem mC:aG (aa cN) "self":=by decide +kernel
theorem pQ:(("MadeError":Str)==("__debug__":Str))=false:=by decide +kernel
theorem uU:(aa cN).names.lookup ("list":Str)=some NameKind.globalImplicit:=by decide +kernel
theorem uV:aG (aa cN) "ring":=by decide +kernel
theorem uW:("list":Str)≠"__name__":=by decide +kernel
theorem uX:(("list":Str)==("__debug__":Str))=false:=by decide +kernel
theorem Bq {f:Addr}{fd:FuncData} (iC:fX K CRi "__init__" "Ring.__init__" cN ["self","ring"] f fd) (KH:ExI K CRi f) (wj:ExU K CM) (pO:mg "MadeError"=some (.ref CM)) (nN:PySem.W.findIn K (.ref CRi) "ring"=some none) (T:Blt mg):aY P w K mg base CX0 1 f fd ["self","ring"] (Yw CRi):=by
 refine iC.F.okQ Bp (fun vs H Q E h=> ?_) (fun cdv A outer s H vs Q E hr h=> ?_)
 ·obtain⟨e,l,xs,rfl,_⟩:=h
  rfl
 obtain⟨e,l,xs,rfl,ee,el,hxl,q⟩:=h
 refine⟨_,(az (fZ (Tt wj pP pO (aj 0 mC) aV pQ ⟨rfl,rfl,rfl,rfl⟩))
  (aC (Ov rfl (aj 0 mC) (lD tO uU T.vA qd (aP (aj 1 uV) au) uW uX) rfl))), ?_⟩
 walk_at "vs"
 intro l' hl'
 have nel:e≠l':=fun z=>by rw[z,hl'] at ee;cases ee
 have ee':upd H l' (.lst xs) e=some (uQ CRi none e):=(ao nel).trans ee
 walk_at "vs"
 exact fun dx hdx ne=>q l' dx hl' hdx ne
abbrev cC:Stmt:=vM 14 1
theorem uM:bL ["self","name","r"] ["self","name"] (aa cC):=⟨rfl,rfl,rfl,by decide +kernel,rfl,by decide +kernel,by decide +kernel⟩
theorem iD:aG (aa cC) "name":=by decide +kernel
theorem jN:aG (aa cC) "self":=by decide +kernel
theorem ur:(aa cC).names.lookup ("NoName":Str)=some NameKind.globalImplicit:=by decide +kernel
theorem uv:(("NoName":Str)==("__debug__":Str))=false:=by decide +kernel
theorem zP:Loc (aa cC) "r":=by decide +kernel
theorem qM:(aa cC).names.lookup ("Settling":Str)=some NameKind.globalImplicit:=by decide +kernel
theorem qp:aG (aa cC) "r":=by decide +kernel
theorem qN:(("Settling":Str)==("__debug__":Str))=false:=by decide +kernel
theorem Cq {f g0 g1 g2:Addr}{fd gd0 gd1 gd2:FuncData} (gU:fX K CSe "begin" "Search.begin" cC ["self","name"] f fd)
 (bQ:fX K CN "records_for" "NamedRecords.records_for" aM ["self","name","r"] g0 gd0) (pR:aY P w K mg base CX0 13 g0 gd0 ["self","name","r"] (Od CN))
 (fH:fX K CS "__init__" "Settling.__init__" bF ["self","r","records"] g1 gd1) (xM:aY P w K mg base CX0 3 g1 gd1 ["self","r","records"] (J0 CS CR))
 (yL:Mk K CS g1) (yM:mg "Settling"=some (.ref CS)) (gj:fX K CNo "__init__" "NoName.__init__" cF ["self","name"] g2 gd2) (zQ:aY P w K mg base CX0 1 g2 gd2 ["self","name"] (Yv CNo)) (xG:ExI K CNo g2) (Ub:PySem.W.isFn K (.ref g2)=true) (Wz:mg "NoName"=some (.ref CNo))
 (T:Blt mg) (sc:SrC K CSe) (nc:NrC K CN):aY P w K mg base (CXd P w) 14 f fd ["self","name"] (Ku CSe CN CS CR CNo CRi):=by
 refine gU.F.okD uM (fun vs H Q E h=> ?_) (fun cdv A0 outer s H vs Q E hr h=> ?_)
 ·obtain⟨D,gs,cs,gv,rc,kg,kc,kr,rm,y,rfl,_⟩:=h
  rfl
 obtain⟨D,gs,cs,gv,rc,kg,kc,kr,rm,y,rfl,sh,q,qe⟩:=h
 have o9:=sc.cl
 have nR:=sc.nR
 have nO:=sc.nO
 have kI:=nc.cl
 have e:=sh.e
 have ec:=sh.ec
 have eo:=sh.eo
 have er:=sh.er
 have rD:=sh.rD
 refine⟨_,(az (fJ (Bf (dZ hr) (aj 1 iD) (bu (aj 0 jN))) (aC (G6 xG (zQ.mono (by omega)) hr Ub gj.b ur Wz (aP (aj 1 iD) au) uv)) cZ)
  (az (bW (i:=2) uM.nd rfl zP (fV (dZ hr) (bu (aj 0 jN)) (aj 1 iD)))
  (aC (bY (zy yL (xM.mono (by omega)) hr qM yM fH.b .nil cJ (aP (aj 2 qp) (uP (oX (bu (aj 0 jN)) kI bQ.m (pR.mono (by omega)) hr bQ.b .nil cJ (aP (aj 1 iD) (aP (aj 2 qp) au))) au)) qN))))), ?_⟩
 cases hrc:rc y with
 | none=>
   obtain⟨nm,qe⟩:=qe hrc
   have dc:dO H D.c (.str y) none:=by rw[<-sh.bd.rn y hrc];exact dO.k (k:= .inr y) ec
   walk_at "vs"
   intro e he
   refine⟨e,y,rfl,ak,nm,fun dx hdx ne=>⟨rfl,dx,upd H dx (.xd [("name", .str y)]), ?_,(ao (Ne.symm ne)).trans he,qe _ _ _ (aq _ ((ao ne).symm.trans hdx)) ⟨rfl,dx,rfl,ak⟩⟩⟩
   rw[rE (Ne.symm ne),mY]
 | some r=>
   have q:=q r hrc
   obtain⟨br,hbr,hR⟩:=sh.bd.r y r hrc
   have rk0:=sh.bd.ok y r hrc
   have hg:=rk0.g
   have hd8:=rk0.d
   have hw:=rk0.w
   have dc:dO H D.c (.str y) (some (.ref br)):=by rw[<-hbr];exact dO.k (k:= .inr y) ec
   walk_at "vs"
   intro fl H1 s1 hfl fit
   have hR1:=hR.same s1
   walk_at "vs"
   intro a dx ha hdx hne
   have haH:(upd H1 dx (.own a)) a=none:=(ao (Ne.symm hne)).trans ha
   have S1:=(aq (.own a) hdx).trans (aq (.ins CS dx []) haH)
   refine⟨a,dx,br,fl,r,rfl,ak,hR1.same S1,hw,fun A H2 b2 eA eb efl ek e2 rc2 hfr=>⟨rfl, ?_⟩⟩
   have S2:aN H1 H2:=d7 S1 (fun p hp=>by
    have:p=a:=by simpa using hp
    rw[this];exact ha) b2
   have QL:∀z∈[A.rk,A.a1,A.a2,A.a3],H1 z=none:=fun z hz=>same_none S1 (hfr z hz)
   have ad5:H1 fl≠none:=fun z=>by
    rcases fit kn0 with⟨rb,ps,v,w1,_⟩ | ⟨w1,_⟩
    ·rw[z] at w1;cases w1
    ·rw[z] at w1;cases w1
   rw[<-eA]
   refine q A H2 (s1.trans S2) (fun z hz=> ?_) (fun kn=>⟨?_, ?_,⟨_,rc2,⟨0, .zero⟩⟩, ?_,fun z=> ?_,fun z=> ?_,fun z=> ?_⟩)
   ·have hz:z=A.s\/z=A.fl\/z=A.rk\/z=A.a1\/z=A.a2\/z=A.a3:=by simpa [SeD.ft] using hz
    rcases hz with w | w | w | w | w | w
    ·rw[w,eA];exact same_none s1 ha
    ·rw[w,efl];exact hfl
    ·exact same_none s1 (QL z (by simp[w]))
    ·exact same_none s1 (QL z (by simp[w]))
    ·exact same_none s1 (QL z (by simp[w]))
    ·exact same_none s1 (QL z (by simp[w]))
   ·rw[eA,eb,efl,ek];exact e2
   ·rw[eb];exact hR1.same S2
   ·rw[efl,ek];exact(fit kn).at fun o e=>S2 _ _ e
   ·have:=hfr A.rk (by simp)
    rw[<-z,eA,ak] at this;cases this
   ·exact ad5 (by rw[<-efl,z];exact QL _ (by simp))
   ·exact ad5 (by rw[<-efl,z];exact QL _ (by simp))
end
section
local macro_rules | `(tactic| walk_at "side") => `(tactic| first | exact zF _ _ _ _ _ _ | exact tX _ _ _ _ _ _ | exact Ig _ _ _ _ _ _ | exact zG _ _ _ _ _ _ | exact tY _ _ _ _ _ _ | exact qg _ _ _ _ _ _ | exact (iV _ _ _ _ _ _).1 | exact (iV _ _ _ _ _ _).2.1 | exact (iV _ _ _ _ _ _).2.2.1 | exact (iV _ _ _ _ _ _).2.2.2.1 | exact (iV _ _ _ _ _ _).2.2.2.2 | exact (Bj _).1 | exact (Bj _).2 | exact (gw _ _ _ _).1 | exact (gw _ _ _ _).2.2.1 | exact (gw _ _ _ _).2.2.2 | exact Nat.le_of_ble_eq_true rfl)
variable {P:Program}{w:World}{K:PySem.W.Frag}{mg:Str->Option Value}{base:Heap}{CSe CN CS CR:Addr}
abbrev dR:Stmt:=vM 14 2
theorem ye:bL ["self","name","settling","record"] ["self","name","settling"] (aa dR):=⟨rfl,rfl,rfl,by decide +kernel,rfl,by decide +kernel,by decide +kernel⟩
theorem wk:Loc (aa dR) "record":=by decide +kernel
theorem lQ:aG (aa dR) "settling":=by decide +kernel
theorem jn:aG (aa dR) "self":=by decide +kernel
theorem lA:aG (aa dR) "name":=by decide +kernel
theorem jO:aG (aa dR) "record":=by decide +kernel
theorem Ge {f g0 g1 g2:Addr}{fd gd0 gd1 gd2:FuncData} (jo:fX K CSe "end" "Search.end" dR ["self","name","settling"] f fd)
 (cP:fX K CS "new_record" "Settling.new_record" bR ["self"] g0 gd0) (uY:aY P w K mg base CX0 2 g0 gd0 ["self"] (Oe CS CR))
 (aR:fX K CS "was_reckoned" "Settling.was_reckoned" bf ["self"] g1 gd1) (iY:aY P w K mg base CX0 1 g1 gd1 ["self"] (Ua CS))
 (cB:fX K CN "put_made" "NamedRecords.put_made" cA ["self","record"] g2 gd2) (rW:aY P w K mg base CX0 1 g2 gd2 ["self","record"] Yn)
 (T:Blt mg) (sr:SrC K CSe) (sc:SeC K CS) (nc:NrC K CN):aY P w K mg base CX0 3 f fd ["self","name","settling"] (Og CSe CN CS CR):=by
 refine jo.F.okQ ye (fun vs H Q E h=> ?_) (fun cdv A0 outer s H vs Q E hr h=> ?_)
 ·obtain⟨H0,D,gs,cs,gv,rc,kg,kc,kr,rm,kn,rmN,rkn,od,Hf,A,y,r,rfl,_⟩:=h
  rfl
 obtain⟨H0,D,gs,cs,gv,rc,kg,kc,kr,rm,kn,rmN,rkn,od,Hf,A,y,r,rfl,sh,so,e,hR,se,hkn,hgv,hrc,hft,q⟩:=h
 have o9:=sr.cl
 have nK:=sr.nK
 have nS:=sr.nS
 have nM:=sr.nM
 have nO:=sr.nO
 have iW:=sc.cl
 have kI:=nc.cl
 obtain⟨e0,_,_,_,eo0,_,rD0,rf0,nks,nkr,nsr⟩:=sh.same so.sm
 have rfy:∀ps v,rm y=some (r,ps,v)->nj r kn0 ps v:=fun ps v h=>rf0 y r ps v h hgv hrc
 have rcgy:=sh.bd.ok y r hrc
 refine⟨_,(az (bW (i:=3) ye.nd rfl wk (DK (aj 2 lQ) iW cP.m (uY.mono (by omega)) hr cP.b .nil cJ))
  (az (jQ (dZ hr) (bu (aj 0 jn)) (aj 1 lA) (cg bV (aj 3 jO) aB))
  (az (jQ (dZ hr) (bu (aj 0 jn)) (aj 1 lA) (aj 3 jO))
  (aC (fJ (yp (DK (aj 2 lQ) iW aR.m (iY.mono (by omega)) hr aR.b .nil cJ)) (az (jQ (dZ hr) (bu (aj 0 jn)) (aj 1 lA) JG)
  (aC (fZ (oX (bu (aj 0 jn)) kI cB.m (rW.mono (by omega)) hr cB.b .nil cJ (aP (aj 3 jO) au))))) cZ))))), ?_⟩
 walk_at "vs"
 intro rb l as ps v made H1 s1 erb hl el hRs rcd ⟨xs,efl,exs⟩
 obtain⟨kw,ws,ek,kk1,hkw⟩:=so.ek
 obtain⟨ks,es,rDs,kod⟩:=so.es
 obtain⟨kk,rs,er,kk3,hkk,hrn⟩:=so.er
 have hkl:kw.length<=60:=so.kl sh.bd kk1 hkw
 have hsl:ks.length<=60:=so.sl sh.bd kod rDs.s.w
 have hrm:rmN y=none:=by
  cases z:rmN y with
  | none=>rfl
  | some q'=>
    obtain⟨r1,ps1,v1⟩:=q'
    have:=(so.ok.b y r1 ps1 v1 z).2.2.1
    rw[hkn] at this;cases this
 have hry:rkn y=false:=by
  cases z:rkn y with
  | false=>rfl
  | true=>exact absurd hrm (hrn y z)
 have hrl:kk.length<=60:=so.sl sh.bd kk3 fun x z=>by
  have:rkn x=false:=by
   cases w:rkn x with
   | false=>rfl
   | true=>exact absurd z (hrn x w)
  rw[hkk,this];rfl
 have e1:=s1 _ _ e
 have e01:=s1 _ _ e0
 have ek1:=s1 _ _ ek
 have es1:=s1 _ _ es
 have er1:=s1 _ _ er
 have eo1:=s1 _ _ eo0
 have a2:atI [V.ref A.b, .ref l, .int v] 2=some (.int v):=rfl
 obtain⟨H2,eH2⟩:∃H2,H2=upd H1 D.kd (.dK (putK kw (.inr y) (.int v))):=⟨_,rfl⟩
 have dp1:lY H1 D.kd (.str y) (.int v) H2:=by rw[eH2];exact lY.k (k:= .inr y) ek1 (bG (by omega))
 have k2:∀{z:Addr}{o:HO},z≠D.kd->H1 z=some o->H2 z=some o:=fun h h'=>by rw[eH2];exact(ao h).trans h'
 have j2:∀{z:Addr}{o:HO},H1 z=some o->(∀ks',o≠ .dK ks')->H2 z=some o:=fun{z o} h1 h2=>k2 (fun w=>by rw[w,ek1] at h1;cases h1;exact h2 _ rfl) h1
 have ek2:H2 D.kd=some (.dK (putK kw (.inr y) (.int v))):=by rw[eH2];exact ak
 have es2:=k2 (Ne.symm nks) es1
 have er2:=k2 (Ne.symm nkr) er1
 have b2:But [D.kd,D.sd,D.rd] H1 H2:=by rw[eH2];exact But.set _ (by simp)
 have e02:=j2 e01 (by simp)
 have e2:=j2 e1 (by simp)
 have eo2:=j2 eo1 (by simp)
 have QK:=j2 efl (by simp)
 have aiv:=j2 erb (by simp)
 clear eH2
 obtain⟨H3,eH3⟩:∃H3,H3=upd H2 D.sd (.dK (putK ks (.inr y) (.ref rb))):=⟨_,rfl⟩
 have dp2:lY H2 D.sd (.str y) (.ref rb) H3:=by rw[eH3];exact lY.k (k:= .inr y) es2 (bG (by omega))
 have k3:∀{z:Addr}{o:HO},z≠D.sd->H2 z=some o->H3 z=some o:=fun h h'=>by rw[eH3];exact(ao h).trans h'
 have j3:∀{z:Addr}{o:HO},H2 z=some o->(∀ks',o≠ .dK ks')->H3 z=some o:=fun{z o} h1 h2=>k3 (fun w=>by rw[w,es2] at h1;cases h1;exact h2 _ rfl) h1
 have es3:H3 D.sd=some (.dK (putK ks (.inr y) (.ref rb))):=by rw[eH3];exact ak
 have ek3:=k3 nks ek2
 have er3:=k3 (Ne.symm nsr) er2
 have b3:But [D.kd,D.sd,D.rd] H2 H3:=by rw[eH3];exact But.set _ (by simp)
 have e03:=j3 e02 (by simp)
 have e3:=j3 e2 (by simp)
 have eo3:=j3 eo2 (by simp)
 have aiw:=j3 QK (by simp)
 have B3:But [D.kd,D.sd,D.rd] H H3:=(But.of_same s1).trans (b2.trans b3)
 clear eH3
 have gs:=Wj so.sm s1
 have gi:=Wk so.sm s1
 have gt:lg H1 (grow Hf H H1):=Qm
 have gk:=Df (Hf:=Hf) s1 ⟨_,ek,by simp⟩ so.fk
 have gss:=Df (Hf:=Hf) s1 ⟨_,es,by simp⟩ so.fs
 have gr:=Df (Hf:=Hf) s1 ⟨_,er,by simp⟩ so.fr
 have gl:grow Hf H H1 l=some (.lst (as.map V.ref)):=(Sy hl).trans el
 have ra:vD [] (grow Hf H H1) rb (r,ps,v):=⟨A.b,l,as,gt _ _ erb,(hR.same s1).tups gt,gl,hRs.tups gt,by simp⟩
 have hgot:=rcd.1
 have hrows:=rcd.2.1
 have rDg:=rDs.same gs
 have hl0:H0 l=none:=by
  cases z:H0 l with
  | none=>rfl
  | some u=>have:=so.sm _ _ (so.h0 _ _ z);rw[hl] at this;cases this
 have rD':=rDg.put (x:=y) ra (gt _ _ erb) hl0 hrm (fun y' u b' br' l' v' w1 w2 w3=>by
  rintro rfl
  obtain⟨b2,h2,br2,l2,as2,x1,_,x3,_⟩:=rDs.s.v y' u w1
  rw[w2] at h2;cases h2
  have:=gs _ _ x1
  rw[w3] at this;cases this
  have:=so.sm _ _ x3
  rw[hl] at this;cases this)
 have ok':=so.ok.rC hkn hgv hrc hgot hrows
 have lek:Kn.Le kn (kn.put y v):=Kn.qz hkn
 have md':∀x r1 ps1 v1,(rmN.put y (r,ps,v)) x=some (r1,ps1,v1)->Rcd rm x r1 (kn.put y v) ps1 v1 (if x=y then made else rkn x):=fun x r1 ps1 v1 h=>by
  unfold Rm.put at h
  by_cases z:x=y
  ·rw[if_pos z] at h ⊢
   cases h
   rw[z];exact rcd.le lek
  ·rw[if_neg z] at h ⊢
   exact(so.md x r1 ps1 v1 h).le lek
 have hev:=aaW hgot hrows
 have hyo:y∉od:=kod.none.mp (rDs.s.w y hrm)
 have hyw:y∉ws:=kk1.none.mp (by rw[hkw,hkn];rfl)
 have hyr:y∉rs:=kk3.none.mp (by rw[hkk,hry];rfl)
 have ad6:∀{H'},But [D.kd,D.sd,D.rd] H1 H'->aN (grow Hf H H1) H':=fun b z o h=>b z o (fun w=>by
  have w:z=D.kd\/z=D.sd\/z=D.rd:=by simpa using w
  rcases w with w | w | w
  ·rw[w,gk] at h;cases h
  ·rw[w,gss] at h;cases h
  ·rw[w,gr] at h;cases h) (gi z o h)
 have fin:∀H' kk' rs',But [D.kd,D.sd,D.rd] H1 H'->H' D.kd=some (.dK (putK kw (.inr y) (.int v)))->H' D.sd=some (.dK (putK ks (.inr y) (.ref rb)))->H' D.rd=some (.dK kk')->iz kk' rs'->(∀x,cI kk' (.inr x)=if(if x=y then made else rkn x)=true then some (.bl true) else none)->Q .non H':=fun H' kk' rs' bb h1 h2 h3 h4 h5=>by
  refine q v ps made (grow Hf H H1) H' ((But.of_same s1).trans bb) gs (fun z m hz=>Df s1 m hz) ⟨ad6 bb,gk,gss,gr,⟨_,_,h1,kk1.tR hyw _,Dd hkw y v⟩,⟨_,h2,rD',kod.tR hyo _⟩,⟨_,_,h3,h4,h5,fun x hx=> ?_⟩,ok',md',so.h0.trans gs⟩ hev
  unfold Rm.put
  by_cases z:x=y
  ·rw[if_pos z];simp
  ·rw[if_neg z] at hx ⊢;exact hrn x hx
 cases hm:made with
 | false=>
   rw[hm] at exs
   have hxs:decide (xs.length=0)=false:=exs
   walk_at "vs"
   rw[hxs]
   walk_at "vs"
   refine fin H3 kk rs (b2.trans b3) ek3 es3 er3 kk3 fun x=> ?_
   rw[hkk,hm]
   by_cases z:x=y
   ·rw[if_pos z,z,hry]
   ·rw[if_neg z]
 | true=>
   rw[hm] at exs
   have hxs:decide (xs.length=0)=true:=exs
   obtain⟨H4,eH4⟩:∃H4,H4=upd H3 D.rd (.dK (putK kk (.inr y) (.bl true))):=⟨_,rfl⟩
   have dp3:lY H3 D.rd (.str y) (.bl true) H4:=by rw[eH4];exact lY.k (k:= .inr y) er3 (bG (by omega))
   have k4:∀{z:Addr}{o:HO},z≠D.rd->H3 z=some o->H4 z=some o:=fun h h'=>by rw[eH4];exact(ao h).trans h'
   have j4:∀{z:Addr}{o:HO},H3 z=some o->(∀ks',o≠ .dK ks')->H4 z=some o:=fun{z o} h1 h2=>k4 (fun w=>by rw[w,er3] at h1;cases h1;exact h2 _ rfl) h1
   have er4:H4 D.rd=some (.dK (putK kk (.inr y) (.bl true))):=by rw[eH4];exact ak
   have ek4:=k4 nkr ek3
   have es4:=k4 nsr es3
   have b4:But [D.kd,D.sd,D.rd] H3 H4:=by rw[eH4];exact But.set _ (by simp)
   have e04:=j4 e03 (by simp)
   have eo4:=j4 eo3 (by simp)
   clear eH4
   walk_at "vs"
   rw[hxs]
   walk_at "vs"
   refine⟨⟨_,_,rfl⟩, ?_⟩
   refine fin H4 _ _ (b2.trans (b3.trans b4)) ek4 es4 er4 (kk3.tR hyr _) fun x=> ?_
   rw[jy,hm]
   by_cases z:x=y
   ·rw[if_pos (by rw[z]),if_pos z];rfl
   ·rw[if_neg (mK z),if_neg z];exact hkk x
end
section
local macro_rules | `(tactic| walk_at "side") => `(tactic| first | exact zF _ _ _ _ _ _ | exact tX _ _ _ _ _ _ | exact Ig _ _ _ _ _ _ | exact zG _ _ _ _ _ _ | exact tY _ _ _ _ _ _ | exact qg _ _ _ _ _ _ | exact (iV _ _ _ _ _ _).1 | exact (iV _ _ _ _ _ _).2.1 | exact (iV _ _ _ _ _ _).2.2.1 | exact (iV _ _ _ _ _ _).2.2.2.1 | exact (iV _ _ _ _ _ _).2.2.2.2 | exact (Bj _).1 | exact (Bj _).2 | exact (gw _ _ _ _).1 | exact (gw _ _ _ _).2.2.1 | exact (gw _ _ _ _).2.2.2 | exact Nat.le_of_ble_eq_true rfl)
variable {P:Program}{w:World}{K:PySem.W.Frag}{mg:Str->Option Value}{base:Heap}{CSe CN CS CR CNo CRi:Addr}
abbrev aU:Stmt:=vM 14 5
theorem iZ:bL ["self","name","path","begun","last","other"] ["self","name"] (aa aU):=⟨rfl,rfl,rfl,by decide +kernel,rfl,by decide +kernel,by decide +kernel⟩
theorem uZ:Loc (aa aU) "path":=by decide +kernel
theorem u0:aG (aa aU) "name":=by decide +kernel
theorem uw:Loc (aa aU) "begun":=by decide +kernel
theorem cQ:aG (aa aU) "path":=by decide +kernel
theorem u5:Loc (aa aU) "last":=by decide +kernel
theorem bz:aG (aa aU) "last":=by decide +kernel
theorem cR:aG (aa aU) "self":=by decide +kernel
theorem gH:aG (aa aU) "begun":=by decide +kernel
theorem ux:Loc (aa aU) "other":=by decide +kernel
theorem fB:aG (aa aU) "other":=by decide +kernel
theorem u6:(aa aU).names.lookup ("Ring":Str)=some NameKind.globalImplicit:=by decide +kernel
theorem u9:(("Ring":Str)==("__debug__":Str))=false:=by decide +kernel
theorem Br {f g0 g1 g2 g3:Addr}{fd gd0 gd1 gd2 gd3:FuncData} (gB:fX K CSe "settle" "Search.settle" aU ["self","name"] f fd)
 (gU:fX K CSe "begin" "Search.begin" cC ["self","name"] g0 gd0) (Fj:aY P w K mg base (CXd P w) 14 g0 gd0 ["self","name"] (Ku CSe CN CS CR CNo CRi))
 (dX:fX K CS "lacking" "Settling.lacking" aX ["self","known"] g1 gd1) (yN:aY P w K mg base CX0 4 g1 gd1 ["self","known"] (G3 CS CR))
 (jo:fX K CSe "end" "Search.end" dR ["self","name","settling"] g2 gd2) (Iw:aY P w K mg base CX0 3 g2 gd2 ["self","name","settling"] (Og CSe CN CS CR))
 (iC:fX K CRi "__init__" "Ring.__init__" cN ["self","ring"] g3 gd3) (Cr:aY P w K mg base CX0 1 g3 gd3 ["self","ring"] (Yw CRi)) (KH:ExI K CRi g3) (abe:PySem.W.isFn K (.ref g3)=true) (ad7:mg "Ring"=some (.ref CRi))
 (T:Blt mg) (sr:SrC K CSe) (sc:SeC K CS):aY P w K mg base (CXd P w) 15 f fd ["self","name"] (G8 CSe CN CNo CRi):=by
 refine gB.F.okD iZ (fun vs H Q E h=> ?_) (fun cdv A0 outer s H vs Q E hr h=> ?_)
 ·obtain⟨H0,D,gs,cs,gv,rc,kg,kc,kr,rm,kn,rmN,rkn,od,Hf,x,rfl,_⟩:=h
  rfl
 obtain⟨H0,D,gs,cs,gv,rc,kg,kc,kr,rm,knI,ad8,ad9,odI,HfI,x,rfl,shI,soI,hx,q,qe⟩:=h
 have o9:=sr.cl
 have nG:=sr.nG
 have nK:=sr.nK
 have iW:=sc.cl
 have nle:=shI.bd.n
 have e0:=soI.sm _ _ shI.e
 refine⟨_,(az (bW (i:=2) iZ.nd rfl uZ (fW (aP (aj 1 u0) au)))
  (az (bW (i:=3) iZ.nd rfl uw iU)
  (aC (Dw PassesOwn.leaving (Du (aj 2 cQ)) (az (bW (i:=4) iZ.nd rfl u5 (cg eX (aj 2 cQ) (RD Hy aB)))
  (az (fJ (HH (dZ hr) (aj 4 bz) (bu (aj 0 cR))) (aC (jQ (dZ hr) (bu (aj 0 cR)) (aj 4 bz) (fV (dZ hr) (bu (aj 0 cR)) (aj 4 bz)))) cZ)
  (az (fJ (HH (dZ hr) (aj 4 bz) (bu (aj 0 cR))) (az (fZ (Ba PySem.F.plainAttrs_list PySem.F.slot_list_pop PySem.F.type_list_pop w6 (aj 2 cQ)))
  (aC JK)) cZ)
  (az (fJ (Bf (dZ hr) (aj 4 bz) (aj 3 gH)) (aC (jQ (dZ hr) (aj 3 gH) (aj 4 bz) (oX (aj 0 cR) o9 gU.m (Fj.mono (by omega)) hr gU.b .nil Ot (aP (aj 4 bz) au)))) cZ)
  (az (bW (i:=5) iZ.nd rfl ux (oX (fV (dZ hr) (aj 3 gH) (aj 4 bz)) iW dX.m (yN.mono (by omega)) hr dX.b .nil cJ (Mi (bu (aj 0 cR)) au)))
  (aC (fJ (cW VH (aj 5 fB) Az (bH _)) (aC (fZ (oX (aj 0 cR) o9 jo.m (Iw.mono (by omega)) hr jo.b .nil cJ (aP (aj 4 bz) (lZ (fV (dZ hr) (aj 3 gH) (aj 4 bz)) au))))) (aC (fJ (cW Mf (aj 5 fB) (aj 2 cQ) rfl) (aC (G6 KH (Cr.mono (by omega)) hr abe iC.b u6 ad7 (vB (bM wZ (vp vz (aj 2 cQ) (zu (vq PySem.F.plainAttrs_list PySem.F.slot_list_index PySem.F.type_list_index Qo (aj 2 cQ) (aP (aj 5 fB) au))) zq) (fW (aP (aj 5 fB) au))) au) u9)) (aC (fZ (vq PySem.F.plainAttrs_list PySem.F.slot_list_append PySem.F.type_list_append kZ (aj 2 cQ) (aP (aj 5 fB) au))))))))))))))))), ?_⟩
 walk_at "vs"
 intro pth hpth
 have s1:=aq (.lst [.str x]) hpth
 have ep1:upd H pth (.lst [.str x]) pth=some (.lst [.str x]):=ak
 have so1:=soI.same s1
 generalize upd H pth (.lst [.str x])=H1 at *
 walk_at "vs"
 intro bgd hbgd
 have s2:=aq (.dK []) hbgd
 have eb2:upd H1 bgd (.dK []) bgd=some (.dK []):=ak
 have so2:=so1.same s2
 have ep2:=s2 _ _ ep1
 have S2:=s1.trans s2
 have nn:pth≠bgd:=fun z=>by rw[<-z,ep1] at hbgd;cases hbgd
 have fI:∀{z:Addr},H z=none->HfI z=none:=fun{z} h=>by
  cases q':HfI z with
  | none=>rfl
  | some o=>have:=soI.sm _ _ q';rw[h] at this;cases this
 have hb0:=same_none s1 hbgd
 have alI:∀z∈[D.kd,D.sd,D.rd],H z≠none:=fun z hz=>by
  obtain⟨kw,ws,e2,_⟩:=soI.ek
  obtain⟨ks',e3,_⟩:=soI.es
  obtain⟨kk,rs,e4,_⟩:=soI.er
  have hz:z=D.kd\/z=D.sd\/z=D.rd:=by simpa using hz
  rcases hz with rfl | rfl | rfl
  ·rw[e2];simp
  ·rw[e3];simp
  ·rw[e4];simp
 generalize upd H1 bgd (.dK [])=H2 at *
 have lp0:LpG H0 CSe CN CS CR D pth bgd gs cs gv rc kg kc kr rm knI odI HfI H x [x] knI ad8 ad9 odI (fun _=>none) HfI H2:=
  ⟨But.of_same S2,aN.refl _,fun _ _ z=>z,shI,so2,ep2,fI hpth,fI hb0,hpth,hb0,fun z=>alI _ z hpth,fun z=>alI _ z hb0,nn,by simp,by simp,fun i hi=>by
    have:i=x:=by simpa using hi
    rw[this];exact .refl,Kn.Le.refl _,fun y hy=> .inl hy,⟨⟨[],[],eb2,⟨rfl,by simp⟩,fun y=>by rw[pG];rfl⟩,fun y hy=>absurd rfl hy,fun y A hy=>(nomatch hy),fun y A hy=>(nomatch hy),fun y y' A A' _ hy=>(nomatch hy)⟩, .inl rfl,fun y A hy=>(nomatch hy),Mvs.refl _⟩
 refine⟨fun m σ H'=>∃(is:List Str) (kn:Kn) (rmN:Rm) (rkn:Str->Bool) (od:List Str) (bg:Str->Option SeD) (Hf:Hp) (t1 t2:Option V),σ=[some (.ref D.so),some (.str x),some (.ref pth),some (.ref bgd),t1,t2]/\LpG H0 CSe CN CS CR D pth bgd gs cs gv rc kg kc kr rm knI odI HfI H x is kn rmN rkn od bg Hf H'/\jJ gv rc ([x],knI,odI) (is.reverse,kn,od)/\m=Cd (gs++cs) kn is,
  ⟨_,[x],knI,ad8,ad9,odI,fun _=>none,HfI,none,none,rfl,lp0,jJ.refl _,rfl⟩, ?_⟩
 rintro m σ H3 ⟨is,kn,rmN,rkn,od,bg,Hf,t1,t2,rfl,lp,mn,rfl⟩
 have ep:=lp.ep
 have e3:=lp.so.sm _ _ lp.sh.e
 have hlen:=lp.len
 rcases List.eq_nil_or_concat is with hnil | ⟨js,i,his⟩
 ·subst hnil
  have ep:H3 pth=some (.lst []):=ep
  walk_at "vs"
  have hkx:kn x≠none:=by
   rcases lp.hd with z | ⟨_,z⟩
   ·cases z
   ·exact z
  exact q kn rmN rkn od Hf H3 lp.b lp.sf lp.fm lp.so mn lp.le hkx lp.new
 ·rw[List.concat_eq_append] at his
  subst his
  have hne:((js++[i]).map V.str).isEmpty=false:=by simp
  have hla:atI ((js++[i]).map V.str) (-1)=some (.str i):=VP (by rw[List.map_append];rfl)
  have hdl:((js++[i]).map V.str).dropLast=js.map V.str:=by rw[List.map_append];exact List.dropLast_concat
  have hll:((js++[i]).map V.str)[((js++[i]).map V.str).length - 1]? =some (.str i):=by simp
  have hjl:js.length+1<=61:=by rw[List.length_append] at hlen;exact hlen
  have un:=lp.un
  rw[List.dropLast_concat] at un
  refine⟨_,rfl,true, .inl ⟨_,SqL.of ep,by simp⟩, ?_⟩
  refine(if_pos (rfl:true=true)).mpr ?_
  refine⟨fun σ' H'=>Wr (∃(is:List Str) (kn':Kn) (rmN:Rm) (rkn:Str->Bool) (od:List Str) (bg:Str->Option SeD) (Hf:Hp) (t1 t2:Option V),σ'=[some (.ref D.so),some (.str x),some (.ref pth),some (.ref bgd),t1,t2]/\LpG H0 CSe CN CS CR D pth bgd gs cs gv rc kg kc kr rm knI odI HfI H x is kn' rmN rkn od bg Hf H'/\jJ gv rc ([x],knI,odI) (is.reverse,kn',od)/\Cd (gs++cs) kn' is<Cd (gs++cs) kn (js++[i])),fun σ' H' ⟨⟨is',kn',Kl,rkn',od',bg',Hf',t1',t2',z1,z2,z4,z3⟩⟩=>⟨_,z3,is',kn',Kl,rkn',od',bg',Hf',t1',t2',z1,z2,z4,rfl⟩, ?_⟩
  obtain⟨kw,ws,ek,kkw,hkw⟩:=lp.so.ek
  have hkl:=lp.so.kl lp.sh.bd kkw hkw
  have eg3:=lp.so.sm _ _ lp.sh.eg
  have hbd:=lp.sh.bd
  have fine:=hx _ mn
  have dg:dO H3 D.g (.str i) ((gv i).map V.int):=by rw[<-hbd.g];exact dO.k (k:= .inr i) eg3
  have np:=lp.np
  simp only[List.mem_cons,List.not_mem_nil,or_false,not_or] at np
  cases hgv:gv i with
  | some v=>
    rw[hgv] at dg
    have dg:dO H3 D.g (.str i) (some (.int v)):=dg
    obtain⟨so4,le4⟩:=lp.so.giv ek kkw hkw hgv lp.sh.ne
    have hi:i∈gs++cs:=List.mem_append_left _ (hbd.gm (by rw[hgv];simp))
    have b4:But [D.kd,D.sd,D.rd] H3 (upd H3 D.kd (.dK (putK kw (.inr i) (.int v)))):=But.set _ (by simp)
    obtain⟨H4,eH4⟩:∃H4,H4=upd H3 D.kd (.dK (putK kw (.inr i) (.int v))):=⟨_,rfl⟩
    have dp:lY H3 D.kd (.str i) (.int v) H4:=by rw[eH4];exact lY.k (k:= .inr i) ek (bG (by omega))
    rw[<-eH4] at so4 b4
    have hmv:Mvs gv rc ((js++[i]).reverse,kn,od) ((js++[i]).reverse,kn.put i v,od):=by
     cases hkn:kn i with
     | none=>exact(Mvs.refl _).snoc (by rw[List.reverse_append];exact Ie hkn hgv)
     | some u=>
       have e:kn.put i v=kn:=by
        have:=le4 _ _ hkn
        unfold Kn.put at this
        rw[if_pos rfl] at this
        funext y
        unfold Kn.put
        by_cases w:y=i
        ·rw[if_pos w,w,hkn,this]
        ·rw[if_neg w]
       rw[e];exact Mvs.refl _
    have lp4:=lp.know b4 (aN.refl _) (fun _ _ z=>z) so4 le4 (fun y hy=>by
     unfold Kn.put at hy
     by_cases w:y=i
     ·exact .inr w
     ·rw[if_neg w] at hy;exact .inl hy) (fun y hne h=>by unfold Kn.put;rw[if_neg hne];exact h) hmv
    have e4:=lp4.so.sm _ _ lp4.sh.e
    have ep4:=lp4.ep
    have dk4:dO H4 D.kd (.str i) (some (.int v)):=by
     obtain⟨kw4,ws4,ek4,_,hk4⟩:=lp4.so.ek
     have:cI kw4 (.inr i)=some (.int v):=by rw[hk4];unfold Kn.put;rw[if_pos rfl];rfl
     rw[<-this];exact dO.k (k:= .inr i) ek4
    have hk4:(kn.put i v) i≠none:=by unfold Kn.put;rw[if_pos rfl];simp
    have lp5:=lp4.pop hk4
    have mn4:jJ gv rc ([x],knI,odI) ((js++[i]).reverse,kn.put i v,od):=by
     cases hkn:kn i with
     | none=>exact mn.snoc (by rw[List.reverse_append];exact xx hgv) (by rw[List.reverse_append];exact Ie hkn hgv)
     | some u=>
       have e:kn.put i v=kn:=by
        have:=le4 _ _ hkn
        unfold Kn.put at this
        rw[if_pos rfl] at this
        funext y
        unfold Kn.put
        by_cases w:y=i
        ·rw[if_pos w,w,hkn,this]
        ·rw[if_neg w]
       rw[e];exact mn
    have mn5:jJ gv rc ([x],knI,odI) (js.reverse,kn.put i v,od):=mn4.snoc (by rw[List.reverse_append];exact xx hgv) (by rw[List.reverse_append];exact Bh hk4)
    have un4:=lp4.un
    rw[List.dropLast_concat] at un4
    have hm:=Kh (ns:=gs++cs) (js:=js) fun j hj=>(un4 j hj).1
    walk_at "vs"
    rw[hdl]
    refine⟨js,_,_,_,_,_,_,_,_,rfl,lp5,mn5, ?_⟩
    cases hkn:kn i with
    | none=>
      have hu:=En (v:=v) hi hkn
      rw[nu hkn]
      omega
    | some u=>
      have e:kn.put i v=kn:=by
       have:=le4 _ _ hkn
       unfold Kn.put at this
       rw[if_pos rfl] at this
       funext y
       unfold Kn.put
       by_cases w:y=i
       ·rw[if_pos w,w,hkn,this]
       ·rw[if_neg w]
      rw[e] at hm ⊢
      rw[xr (by rw[hkn];simp)]
      omega
  | none=>
    rw[hgv] at dg
    have dg:dO H3 D.g (.str i) none:=dg
    cases hkn:kn i with
    | some u=>
      have hk4:kn i≠none:=by rw[hkn];simp
      have dk4:dO H3 D.kd (.str i) (some (.int u)):=by
       have:cI kw (.inr i)=some (.int u):=by rw[hkw,hkn];rfl
       rw[<-this];exact dO.k (k:= .inr i) ek
      have lp5:=lp.pop hk4
      have mn5:jJ gv rc ([x],knI,odI) (js.reverse,kn,od):=mn.snoc (by rw[List.reverse_append];exact xu hkn) (by rw[List.reverse_append];exact Bh hk4)
      have hm:=Kh (ns:=gs++cs) (js:=js) fun j hj=>(un j hj).1
      walk_at "vs"
      rw[hdl]
      refine⟨js,_,_,_,_,_,_,_,_,rfl,lp5,mn5, ?_⟩
      rw[xr hk4]
      omega
    | none=>
      have dk4:dO H3 D.kd (.str i) none:=by
       have:cI kw (.inr i)=none:=by rw[hkw,hkn];rfl
       rw[<-this];exact dO.k (k:= .inr i) ek
      obtain⟨hfnr,hnm⟩:=fine i (by rw[List.reverse_append];rfl) hkn hgv
      cases hrc:rc i with
      | none=>
        obtain⟨kb,ks,eb,kkb,hkb⟩:=lp.bgi.e
        have hA:bg i=none:=by
         cases z:bg i with
         | none=>rfl
         | some A=>exact absurd hrc (lp.bgi.nm i (by rw[z];simp))
        have db:dO H3 bgd (.str i) none:=by
         have:cI kb (.inr i)=none:=by rw[hkb,hA];rfl
         rw[<-this];exact dO.k (k:= .inr i) eb
        have sh3:=lp.sh.same lp.so.sm
        walk_at "vs"
        refine⟨fun r' hr'=>(by rw[hrc] at hr';cases hr'),fun _=>⟨hnm hrc,fun cls d H' s' er=> ?_⟩⟩
        exact qe _ _ cls d H' mn (by rw[List.reverse_append];exact aa7 hkn hgv hrc) (lp.b.trans (But.of_same s')) er
      | some r=>
        have hfn:=hfnr r hrc
        have hi:i∈gs++cs:=List.mem_append_right _ (hbd.cm (by rw[hrc];simp))
        have rcgi:=hbd.ok i r hrc
        have rfi:∀ps v,rm i=some (r,ps,v)->nj r kn0 ps v:=fun ps v h=>lp.sh.rf i r ps v h hgv hrc
        obtain⟨kb,ks,eb,kkb,hkb⟩:=lp.bgi.e
        cases hA:bg i with
        | some A=>
          have db:dO H3 bgd (.str i) (some (.ref A.s)):=by
           have:cI kb (.inr i)=some (.ref A.s):=by rw[hkb,hA];rfl
           rw[<-this];exact dO.k (k:= .inr i) eb
          have lp6:=lp
          obtain⟨kb6,ks6,eb6,kk6,abf⟩:=lp6.bgi.e
          obtain⟨r',hr',_,seo⟩:=lp6.bgi.ok i A hA hkn
          rw[hrc] at hr'
          cases hr'
          have e6:=lp6.so.sm _ _ lp6.sh.e
          have rD6:=lp6.sh.rD.same lp6.so.sm
          obtain⟨kw6,ws6,ek6,ahd,abg⟩:=lp6.so.ek
          have knA:RZ H3 D.kd kn:=⟨kw6,ek6,abg⟩
          have nd3:D.kd≠A.a3:=fun z=>(lp6.bgi.al i A hA A.a3 (by simp[SeD.ft])).2.2 (by rw[<-z];simp)
          have db6:dO H3 bgd (.str i) (some (.ref A.s)):=by
           have:cI kb6 (.inr i)=some (.ref A.s):=by rw[abf,hA];rfl
           rw[<-this];exact dO.k (k:= .inr i) eb6
          have eA6:=seo.e
          walk_at "vs"
          intro A' H7 b7 es eb' erk e1' e2' e3' efl so7
          have lp7:=lp6.gone hA b7 so7 hrc hgv es erk e1' e2' e3' efl
          have e7:=lp7.so.sm _ _ lp7.sh.e
          have ep7:=lp7.ep
          refine⟨fun hend=> ?_,fun z hzn hsk=> ?_⟩
          ·obtain⟨kb7,ks7,eb7,kk7,abh⟩:=lp7.bgi.e
           have db7:dO H7 bgd (.str i) (some (.ref A'.s)):=by
            have:cI kb7 (.inr i)=some (.ref A'.s):=by rw[abh];unfold jW;rw[if_pos rfl];rfl
            rw[<-this];exact dO.k (k:= .inr i) eb7
           have ahe:=lp7.so
           have sh7:=lp7.sh
           have eA7:=so7.e
           have hR7:=so7.hr
           have hft:∀z∈A'.ft,z∉[D.kd,D.sd,D.rd]:=fun z hz w=>(lp7.bgi.al i A' (by unfold jW;rw[if_pos rfl]) z hz).2.2 (by
            simp only[List.mem_cons,List.not_mem_nil,or_false] at w ⊢
            rcases w with q | q | q
            ·exact .inr (.inr (.inl q))
            ·exact .inr (.inr (.inr (.inl q)))
            ·exact .inr (.inr (.inr (.inr q))))
           walk_at "vs"
           intro v ps made Hf' H8 b8 sf8 fm8 so8 hev
           have lp8:=lp7.know b8 sf8 fm8 so8 (Kn.qz hkn) (fun y hy=>by
            unfold Kn.put at hy
            by_cases w:y=i
            ·exact .inr w
            ·rw[if_neg w] at hy;exact .inl hy) (fun y hne h=>by unfold Kn.put;rw[if_neg hne];exact h) ((Mvs.refl _).snoc (by rw[List.reverse_append];exact Ek hgv hkn hrc hev))
           walk_at "vs"
           refine⟨_,_,_,_,_,_,_,_,_,rfl,lp8,mn.snoc (by rw[List.reverse_append];exact Il hgv hrc hev) (by rw[List.reverse_append];exact Ek hgv hkn hrc hev), ?_⟩
           have hu:=En (v:=v) hi hkn
           rw[nu hkn,xr (by unfold Kn.put;rw[if_pos rfl];simp)]
           omega
          ·by_cases hj:z∈js++[i]
           ·have hin:inV (.str z) ((js++[i]).map V.str)=true:=by
             unfold inV
             rw[List.any_eq_true]
             exact⟨.str z,List.mem_map.mpr ⟨z,hj,rfl⟩,by show(z==z)=true;simp⟩
            have hfl:((js++[i]).map V.str).all uI=true:=by
             rw[List.all_eq_true]
             intro u hu
             obtain⟨k,hk,rfl⟩:=List.mem_map.mp hu
             rfl
            have hsz:((js++[i]).map V.str).length<sizeLine:=by rw[List.length_map];exact bG (by omega)
            obtain⟨ahf,ahg⟩:=G7 hj
            have hmvr:kh gv rc ((js++[i]).reverse,kn,od)=some (.ring (gG (js++[i]).reverse z)):=by
             rw[List.reverse_append]
             exact Ks hkn hgv hrc (hsk.ev hzn) (by show z∈[i].reverse++js.reverse;rw[<-List.reverse_append];exact List.mem_reverse.mpr hj)
            walk_at "vs"
            rw[hin]
            walk_at "vs"
            intro p1 hp1
            rw[show Cj ((js++[i]).map V.str) (some (((js++[i]).idxOf z:Nat):Int)) none=((js++[i]).drop ((js++[i]).idxOf z)).map V.str by rw[GJ,List.map_drop]]
            have sA:=aq (.lst (((js++[i]).drop ((js++[i]).idxOf z)).map V.str)) hp1
            have eA:upd H7 p1 (.lst (((js++[i]).drop ((js++[i]).idxOf z)).map V.str)) p1=some (.lst (((js++[i]).drop ((js++[i]).idxOf z)).map V.str)):=ak
            have ahh:(((js++[i]).drop ((js++[i]).idxOf z)).map V.str).length<=61:=by rw[List.length_map,List.length_drop];omega
            generalize upd H7 p1 (.lst (((js++[i]).drop ((js++[i]).idxOf z)).map V.str))=HA at *
            walk_at "vs"
            intro p2 hp2
            have sB:=aq (.lst [.str z]) hp2
            have eB:upd HA p2 (.lst [.str z]) p2=some (.lst [.str z]):=ak
            have eA2:=sB _ _ eA
            generalize upd HA p2 (.lst [.str z])=HB at *
            have hcl:(((js++[i]).drop ((js++[i]).idxOf z)).map V.str).length+[V.str z].length<=sizeLine:=Nat.le_of_lt (bG (by show _+1<=1000;omega))
            walk_at "vs"
            intro p3 hp3
            have eCC:((js++[i]).drop ((js++[i]).idxOf z)).map V.str++[V.str z]=(gG (js++[i]).reverse z).map V.str:=by
             unfold gG
             rw[List.reverse_reverse,List.map_append];rfl
            rw[eCC]
            have hrl:((gG (js++[i]).reverse z).map V.str).length<=1000:=by rw[<-eCC,List.length_append];show _+1<=1000;omega
            have sC:=aq (.lst ((gG (js++[i]).reverse z).map V.str)) hp3
            have eC:upd HB p3 (.lst ((gG (js++[i]).reverse z).map V.str)) p3=some (.lst ((gG (js++[i]).reverse z).map V.str)):=ak
            generalize upd HB p3 (.lst ((gG (js++[i]).reverse z).map V.str))=HC at *
            walk_at "vs"
            intro e he
            have nep:p3≠e:=fun z'=>by rw[<-z',eC] at he;cases he
            refine⟨e,p3,_,rfl,ak,(ao nep).trans eC,hrl,fun l' dx hl' hdx ne=> ?_⟩
            have nel:l'≠e:=fun z'=>by rw[z',ak] at hl';cases hl'
            have hl0:HC l'=none:=(ao nel).symm.trans hl'
            have nld:dx≠l':=fun z'=>by rw[z',ak] at hdx;cases hdx
            have hd0:upd HC l' (.lst ((gG (js++[i]).reverse z).map V.str)) dx=none:=by
             rw[ao nld,ao ne] at hdx
             rw[ao nld];exact hdx
            have sD:=aq (.lst ((gG (js++[i]).reverse z).map V.str)) hl0
            have sE:=aq (.xd [("ring", .ref l')]) hd0
            refine⟨rfl,dx,upd (upd HC l' (.lst ((gG (js++[i]).reverse z).map V.str))) dx (.xd [("ring", .ref l')]), ?_,(ao (Ne.symm ne)).trans ((ao (Ne.symm nel)).trans he), ?_⟩
            ·rw[rE (H:=HC) (a:=e) (b:=l') (Ne.symm nel),rE (a:=e) (b:=dx) (Ne.symm ne),mY]
            ·exact qe _ _ _ _ _ mn hmvr (lp7.b.trans (But.of_same (sA.trans (sB.trans (sC.trans (sD.trans sE)))))) ⟨rfl,dx,l',rfl,ak,sE _ _ ak⟩
           ·have hin:inV (.str z) ((js++[i]).map V.str)=false:=by
             unfold inV
             rw[List.any_eq_false]
             intro u hu
             obtain⟨k,hk,rfl⟩:=List.mem_map.mp hu
             intro w
             have w:(k==z)=true:=w
             exact hj (eq_of_beq w▸hk)
            have hfl:((js++[i]).map V.str).all uI=true:=by
             rw[List.all_eq_true]
             intro u hu
             obtain⟨k,hk,rfl⟩:=List.mem_map.mp hu
             rfl
            have hsz:((js++[i]).map V.str).length<sizeLine:=by rw[List.length_map];exact bG (by omega)
            walk_at "vs"
            rw[hin]
            walk_at "vs"
            have em:((js++[i]).map V.str)++[V.str z]=(js++[i]++[z]).map V.str:=by rw[List.map_append (l₁:=js++[i])];rfl
            rw[em]
            refine⟨js++[i]++[z],_,_,_,_,_,_,_,_,rfl,lp7.push hkn hj hgv hrc hsk hzn,mn.snoc (by rw[List.reverse_append];exact Ey hgv hrc (hsk.ev hzn) (fun w=>hj (List.mem_reverse.mp (by rw[List.reverse_append];exact w)))) (by rw[List.reverse_append (as:=js++[i]),List.reverse_append];exact De hgv hkn hrc (hsk.ev hzn)), ?_⟩
            rw[nu hkn,nu hzn,List.length_append]
            simp only[List.length_cons,List.length_nil]
            omega
        | none=>
          have db:dO H3 bgd (.str i) none:=by
           have:cI kb (.inr i)=none:=by rw[hkb,hA];rfl
           rw[<-this];exact dO.k (k:= .inr i) eb
          have sh3:=lp.sh.same lp.so.sm
          have hkbl:kb.length<=60:=by
           rw[kkb.len]
           have:=dH (ws:=ks) (ns:=cs) kkb.nd fun y hy=>hbd.cm (lp.bgi.nm y fun z=>kkb.none.mp (by rw[hkb,z];rfl) hy)
           omega
          walk_at "vs"
          refine⟨fun r' hr'=> ?_,fun hn=>by rw[hrc] at hn;cases hn⟩
          rw[hrc] at hr'
          cases hr'
          intro A H4 s4 hA4 so4
          have lp6:=lp.begun s4 hA4 (so4 kn) hrc hgv hA eb
          have dpb:lY H4 bgd (.str i) (.ref A.s) (upd H4 bgd (.dK (putK kb (.inr i) (.ref A.s)))):=lY.k (k:= .inr i) (s4 _ _ eb) (bG (by omega))
          have hA:jW bg i A i=some A:=by unfold jW;rw[if_pos rfl]
          generalize upd H4 bgd (.dK (putK kb (.inr i) (.ref A.s)))=H5 at *
          obtain⟨kb6,ks6,eb6,kk6,abf⟩:=lp6.bgi.e
          obtain⟨r',hr',_,seo⟩:=lp6.bgi.ok i A hA hkn
          rw[hrc] at hr'
          cases hr'
          have e6:=lp6.so.sm _ _ lp6.sh.e
          have rD6:=lp6.sh.rD.same lp6.so.sm
          obtain⟨kw6,ws6,ek6,ahd,abg⟩:=lp6.so.ek
          have knA:RZ H5 D.kd kn:=⟨kw6,ek6,abg⟩
          have nd3:D.kd≠A.a3:=fun z=>(lp6.bgi.al i A hA A.a3 (by simp[SeD.ft])).2.2 (by rw[<-z];simp)
          have db6:dO H5 bgd (.str i) (some (.ref A.s)):=by
           have:cI kb6 (.inr i)=some (.ref A.s):=by rw[abf,hA];rfl
           rw[<-this];exact dO.k (k:= .inr i) eb6
          have eA6:=seo.e
          walk_at "vs"
          intro A' H7 b7 es eb' erk e1' e2' e3' efl so7
          have lp7:=lp6.gone hA b7 so7 hrc hgv es erk e1' e2' e3' efl
          have e7:=lp7.so.sm _ _ lp7.sh.e
          have ep7:=lp7.ep
          refine⟨fun hend=> ?_,fun z hzn hsk=> ?_⟩
          ·obtain⟨kb7,ks7,eb7,kk7,abh⟩:=lp7.bgi.e
           have db7:dO H7 bgd (.str i) (some (.ref A'.s)):=by
            have:cI kb7 (.inr i)=some (.ref A'.s):=by rw[abh];unfold jW;rw[if_pos rfl];rfl
            rw[<-this];exact dO.k (k:= .inr i) eb7
           have ahe:=lp7.so
           have sh7:=lp7.sh
           have eA7:=so7.e
           have hR7:=so7.hr
           have hft:∀z∈A'.ft,z∉[D.kd,D.sd,D.rd]:=fun z hz w=>(lp7.bgi.al i A' (by unfold jW;rw[if_pos rfl]) z hz).2.2 (by
            simp only[List.mem_cons,List.not_mem_nil,or_false] at w ⊢
            rcases w with q | q | q
            ·exact .inr (.inr (.inl q))
            ·exact .inr (.inr (.inr (.inl q)))
            ·exact .inr (.inr (.inr (.inr q))))
           walk_at "vs"
           intro v ps made Hf' H8 b8 sf8 fm8 so8 hev
           have lp8:=lp7.know b8 sf8 fm8 so8 (Kn.qz hkn) (fun y hy=>by
            unfold Kn.put at hy
            by_cases w:y=i
            ·exact .inr w
            ·rw[if_neg w] at hy;exact .inl hy) (fun y hne h=>by unfold Kn.put;rw[if_neg hne];exact h) ((Mvs.refl _).snoc (by rw[List.reverse_append];exact Ek hgv hkn hrc hev))
           walk_at "vs"
           refine⟨_,_,_,_,_,_,_,_,_,rfl,lp8,mn.snoc (by rw[List.reverse_append];exact Il hgv hrc hev) (by rw[List.reverse_append];exact Ek hgv hkn hrc hev), ?_⟩
           have hu:=En (v:=v) hi hkn
           rw[nu hkn,xr (by unfold Kn.put;rw[if_pos rfl];simp)]
           omega
          ·by_cases hj:z∈js++[i]
           ·have hin:inV (.str z) ((js++[i]).map V.str)=true:=by
             unfold inV
             rw[List.any_eq_true]
             exact⟨.str z,List.mem_map.mpr ⟨z,hj,rfl⟩,by show(z==z)=true;simp⟩
            have hfl:((js++[i]).map V.str).all uI=true:=by
             rw[List.all_eq_true]
             intro u hu
             obtain⟨k,hk,rfl⟩:=List.mem_map.mp hu
             rfl
            have hsz:((js++[i]).map V.str).length<sizeLine:=by rw[List.length_map];exact bG (by omega)
            obtain⟨ahf,ahg⟩:=G7 hj
            have hmvr:kh gv rc ((js++[i]).reverse,kn,od)=some (.ring (gG (js++[i]).reverse z)):=by
             rw[List.reverse_append]
             exact Ks hkn hgv hrc (hsk.ev hzn) (by show z∈[i].reverse++js.reverse;rw[<-List.reverse_append];exact List.mem_reverse.mpr hj)
            walk_at "vs"
            rw[hin]
            walk_at "vs"
            intro p1 hp1
            rw[show Cj ((js++[i]).map V.str) (some (((js++[i]).idxOf z:Nat):Int)) none=((js++[i]).drop ((js++[i]).idxOf z)).map V.str by rw[GJ,List.map_drop]]
            have sA:=aq (.lst (((js++[i]).drop ((js++[i]).idxOf z)).map V.str)) hp1
            have eA:upd H7 p1 (.lst (((js++[i]).drop ((js++[i]).idxOf z)).map V.str)) p1=some (.lst (((js++[i]).drop ((js++[i]).idxOf z)).map V.str)):=ak
            have ahh:(((js++[i]).drop ((js++[i]).idxOf z)).map V.str).length<=61:=by rw[List.length_map,List.length_drop];omega
            generalize upd H7 p1 (.lst (((js++[i]).drop ((js++[i]).idxOf z)).map V.str))=HA at *
            walk_at "vs"
            intro p2 hp2
            have sB:=aq (.lst [.str z]) hp2
            have eB:upd HA p2 (.lst [.str z]) p2=some (.lst [.str z]):=ak
            have eA2:=sB _ _ eA
            generalize upd HA p2 (.lst [.str z])=HB at *
            have hcl:(((js++[i]).drop ((js++[i]).idxOf z)).map V.str).length+[V.str z].length<=sizeLine:=Nat.le_of_lt (bG (by show _+1<=1000;omega))
            walk_at "vs"
            intro p3 hp3
            have eCC:((js++[i]).drop ((js++[i]).idxOf z)).map V.str++[V.str z]=(gG (js++[i]).reverse z).map V.str:=by
             unfold gG
             rw[List.reverse_reverse,List.map_append];rfl
            rw[eCC]
            have hrl:((gG (js++[i]).reverse z).map V.str).length<=1000:=by rw[<-eCC,List.length_append];show _+1<=1000;omega
            have sC:=aq (.lst ((gG (js++[i]).reverse z).map V.str)) hp3
            have eC:upd HB p3 (.lst ((gG (js++[i]).reverse z).map V.str)) p3=some (.lst ((gG (js++[i]).reverse z).map V.str)):=ak
            generalize upd HB p3 (.lst ((gG (js++[i]).reverse z).map V.str))=HC at *
            walk_at "vs"
            intro e he
            have nep:p3≠e:=fun z'=>by rw[<-z',eC] at he;cases he
            refine⟨e,p3,_,rfl,ak,(ao nep).trans eC,hrl,fun l' dx hl' hdx ne=> ?_⟩
            have nel:l'≠e:=fun z'=>by rw[z',ak] at hl';cases hl'
            have hl0:HC l'=none:=(ao nel).symm.trans hl'
            have nld:dx≠l':=fun z'=>by rw[z',ak] at hdx;cases hdx
            have hd0:upd HC l' (.lst ((gG (js++[i]).reverse z).map V.str)) dx=none:=by
             rw[ao nld,ao ne] at hdx
             rw[ao nld];exact hdx
            have sD:=aq (.lst ((gG (js++[i]).reverse z).map V.str)) hl0
            have sE:=aq (.xd [("ring", .ref l')]) hd0
            refine⟨rfl,dx,upd (upd HC l' (.lst ((gG (js++[i]).reverse z).map V.str))) dx (.xd [("ring", .ref l')]), ?_,(ao (Ne.symm ne)).trans ((ao (Ne.symm nel)).trans he), ?_⟩
            ·rw[rE (H:=HC) (a:=e) (b:=l') (Ne.symm nel),rE (a:=e) (b:=dx) (Ne.symm ne),mY]
            ·exact qe _ _ _ _ _ mn hmvr (lp7.b.trans (But.of_same (sA.trans (sB.trans (sC.trans (sD.trans sE)))))) ⟨rfl,dx,l',rfl,ak,sE _ _ ak⟩
           ·have hin:inV (.str z) ((js++[i]).map V.str)=false:=by
             unfold inV
             rw[List.any_eq_false]
             intro u hu
             obtain⟨k,hk,rfl⟩:=List.mem_map.mp hu
             intro w
             have w:(k==z)=true:=w
             exact hj (eq_of_beq w▸hk)
            have hfl:((js++[i]).map V.str).all uI=true:=by
             rw[List.all_eq_true]
             intro u hu
             obtain⟨k,hk,rfl⟩:=List.mem_map.mp hu
             rfl
            have hsz:((js++[i]).map V.str).length<sizeLine:=by rw[List.length_map];exact bG (by omega)
            walk_at "vs"
            rw[hin]
            walk_at "vs"
            have em:((js++[i]).map V.str)++[V.str z]=(js++[i]++[z]).map V.str:=by rw[List.map_append (l₁:=js++[i])];rfl
            rw[em]
            refine⟨js++[i]++[z],_,_,_,_,_,_,_,_,rfl,lp7.push hkn hj hgv hrc hsk hzn,mn.snoc (by rw[List.reverse_append];exact Ey hgv hrc (hsk.ev hzn) (fun w=>hj (List.mem_reverse.mp (by rw[List.reverse_append];exact w)))) (by rw[List.reverse_append (as:=js++[i]),List.reverse_append];exact De hgv hkn hrc (hsk.ev hzn)), ?_⟩
            rw[nu hkn,nu hzn,List.length_append]
            simp only[List.length_cons,List.length_nil]
            omega
end
section
local macro_rules | `(tactic| walk_at "side") => `(tactic| first | exact zF _ _ _ _ _ _ | exact tX _ _ _ _ _ _ | exact Ig _ _ _ _ _ _ | exact zG _ _ _ _ _ _ | exact tY _ _ _ _ _ _ | exact qg _ _ _ _ _ _ | exact (iV _ _ _ _ _ _).1 | exact (iV _ _ _ _ _ _).2.1 | exact (iV _ _ _ _ _ _).2.2.1 | exact (iV _ _ _ _ _ _).2.2.2.1 | exact (iV _ _ _ _ _ _).2.2.2.2 | exact Nat.le_of_ble_eq_true rfl)
variable {P:Program}{w:World}{K:PySem.W.Frag}{mg:Str->Option Value}{base:Heap}{CSe CN CS CR CNo CRi:Addr}
abbrev dF:Stmt:=top 15
theorem wu:bL ["house","old","wishes","search","name"] ["house","old","wishes"] (aa dF):=⟨rfl,rfl,rfl,by decide +kernel,rfl,by decide +kernel,by decide +kernel⟩
theorem yO:Loc (aa dF) "search":=by decide +kernel
theorem yP:(aa dF).names.lookup ("Search":Str)=some NameKind.globalImplicit:=by decide +kernel
theorem Cu:aG (aa dF) "old":=by decide +kernel
theorem zR:aG (aa dF) "house":=by decide +kernel
theorem yQ:(("Search":Str)==("__debug__":Str))=false:=by decide +kernel
theorem yR:aG (aa dF) "wishes":=by decide +kernel
theorem Bs:Loc (aa dF) "name":=by decide +kernel
theorem pU:aG (aa dF) "search":=by decide +kernel
theorem Bt:aG (aa dF) "name":=by decide +kernel
theorem KJ {f g0 g1:Addr}{fd gd0 gd1:FuncData} (fQ:FnT K mg "searched" dF ["house","old","wishes"] f fd)
 (gh:fX K CSe "__init__" "Search.__init__" cD ["self","house","old"] g0 gd0) (zT:aY P w K mg base CX0 1 g0 gd0 ["self","house","old"] (Kf CSe))
 (gB:fX K CSe "settle" "Search.settle" aU ["self","name"] g1 gd1) (Cv:aY P w K mg base (CXd P w) 15 g1 gd1 ["self","name"] (G8 CSe CN CNo CRi))
 (Fl:Mk K CSe g0) (Fo:mg "Search"=some (.ref CSe)) (T:Blt mg) (sr:SrC K CSe):aY P w K mg base (CXd P w) 16 f fd ["house","old","wishes"] (vJ CSe CN CNo CRi):=by
 refine fQ.F.okD wu (fun vs H Q E h=> ?_) (fun cdv A outer s H vs Q E hr h=> ?_)
 ·obtain⟨h,g,c,o,dxo,rcd,wl,gs,cs,gv,rc,kg,kc,kr,rm,ws,rfl,_⟩:=h
  rfl
 obtain⟨h,g,c,o,dxo,rcd,wl,gs,cs,gv,rc,kg,kc,kr,rm,ws,rfl,eh,eg,ec,bd,eo,er,rD,rf,ewl,hws,q,qe⟩:=h
 have o9:=sr.cl
 refine⟨_,(az (bW (i:=3) wu.nd rfl yO (zy Fl (zT.mono (by omega)) hr yP Fo gh.b .nil cJ (aP (aj 0 zR) (aP (aj 1 Cu) au)) yQ))
  (az (Bc PassesOwn.leaving rfl (zx (aj 2 yR)) (mZ (i:=4) wu.nd rfl Bs) (aC (fZ (oX (aj 3 pU) o9 gB.m (Cv.mono (by omega)) hr gB.b .nil Ot (aP (aj 4 Bt) au)))))
  (aC (bY (aj 3 pU))))), ?_⟩
 walk_at "vs"
 intro a dx ha hdx hne
 have haH:(upd H dx (.own a)) a=none:=(ao (Ne.symm hne)).trans ha
 have S1:=(aq (.own a) hdx).trans (aq (.ins CSe dx []) haH)
 refine⟨a,dx,h,g,c,o,rfl,ak,S1 _ _ eh,fun kd sd rd H2 b2 e2 hk hs hr' nks nkr nsr ek2 es2 er2=>⟨rfl, ?_⟩⟩
 have hk0:=same_none S1 hk
 have hs0:=same_none S1 hs
 have hr0:=same_none S1 hr'
 have S2:aN H H2:=d7 S1 (fun p hp=>by
  have:p=a:=by simpa using hp
  rw[this];exact ha) b2
 have nka:kd≠a:=fun z=>by rw[z,ak] at hk;cases hk
 have nsa:sd≠a:=fun z=>by rw[z,ak] at hs;cases hs
 have nra:rd≠a:=fun z=>by rw[z,ak] at hr';cases hr'
 have sf0:aN H (upd H a (.ins CSe dx (srF g c o kd sd rd))):=aq _ ha
 have sm0:aN (upd H a (.ins CSe dx (srF g c o kd sd rd))) H2:=fun z ob e=>by
  by_cases w:z=a
  ·subst w;rw[ak] at e;cases e;exact e2
  ·rw[ao w] at e;exact S2 _ _ e
 have shf:FQ CSe CN ⟨a,dx,g,c,o,dxo,rcd,kd,sd,rd⟩ gs cs gv rc kg kc kr rm (upd H a (.ins CSe dx (srF g c o kd sd rd))):=
  ⟨ak,sf0 _ _ eg,sf0 _ _ ec,bd.tups (aN.tups sf0),sf0 _ _ eo,sf0 _ _ er,rD.same sf0,rf,nks,nkr,nsr⟩
 have so2:jV H ⟨a,dx,g,c,o,dxo,rcd,kd,sd,rd⟩ gv rc rm kn0 (fun _=>none) (fun _=>false) [] (upd H a (.ins CSe dx (srF g c o kd sd rd))) H2:=
  ⟨sm0,(ao nka).trans hk0,(ao nsa).trans hs0,(ao nra).trans hr0,⟨[],[],ek2,⟨rfl,by simp⟩,fun x=>by rw[pG];rfl⟩,⟨[],es2,RecM.nil,⟨rfl,by simp⟩⟩,⟨[],[],er2,⟨rfl,by simp⟩,fun x=>by rw[pG];rfl,fun x h=>(nomatch h)⟩,⟨fun x v e=>(nomatch e),fun x r ps v e=>(nomatch e)⟩,fun x r ps v e=>(nomatch e),sf0⟩
 have ahi:=S2 _ _ ewl
 walk_at "vs"
 refine Di (xs:=ws.map V.str) (fun i σ H'=>∃(kn:Kn) (rmN:Rm) (rkn:Str->Bool) (od:List Str) (Hf:Hp) (t:Option V),σ=[some (.ref h),some (.ref o),some (.ref wl),some (.ref a),t]/\aN H H'/\aN H Hf/\FQ CSe CN ⟨a,dx,g,c,o,dxo,rcd,kd,sd,rd⟩ gs cs gv rc kg kc kr rm Hf/\jV H ⟨a,dx,g,c,o,dxo,rcd,kd,sd,rd⟩ gv rc rm kn rmN rkn od Hf H'/\jX gv rc (ws.take i) (kn0,[]) (kn,od)/\(∀x∈ws.take i,kn x≠none)/\∀y,kn y≠none->∃x∈ws,Rch gv rc kn x y) ?_ ?_ ?_ ?_
 ·exact⟨_,_,_,_,_,none,rfl,S2,sf0,shf,so2,rfl,by simp,fun y hy=>absurd rfl hy⟩
 ·rintro i σ H' _ ⟨kn,rmN,rkn,od,Hf,t,_,S3,_⟩
  exact SqL.of (S3 _ _ ewl)
 ·rintro i v σ H3 hv ⟨kn,rmN,rkn,od,Hf,t,rfl,S3,sf3,sh3,so3,ru3,hw3,hr3⟩
  obtain⟨x,hxi,rfl⟩:∃x,ws[i]? =some x/\v=V.str x:=by
   rw[List.getElem?_map] at hv
   cases e:ws[i]? with
   | none=>rw[e] at hv;cases hv
   | some x=>rw[e] at hv;exact⟨x,rfl,(Option.some.inj hv).symm⟩
  have hxm:x∈ws:=List.mem_of_getElem? hxi
  have hxn:=fun t m=>hws i x (kn,od) t hxi ru3 m
  have e3:H3 a=some (.ins CSe dx (srF g c o kd sd rd)):=so3.sm _ _ sh3.e
  walk_at "vs"
  refine⟨H,⟨a,dx,g,c,o,dxo,rcd,kd,sd,rd⟩,gs,cs,gv,rc,kg,kc,kr,rm,kn,rmN,rkn,od,Hf,x,rfl,sh3,so3,hxn,fun kn' Kl rkn' od' Hf' H4 b4 sf4 fm4 so4 mv4 le4 hx4 hr4=> ?_,fun t e cls d H4 mv4 he b4 er=>qe e cls d H4 ⟨i,x,(kn,od),t,hxi,ru3,mv4,he⟩ (d7 S3 (fun p hp=> ?_) b4) er⟩
  case refine_2=>
   have hp:p=kd\/p=sd\/p=rd:=by simpa using hp
   rcases hp with rfl | rfl | rfl
   ·exact hk0
   ·exact hs0
   ·exact hr0
  refine⟨kn',Kl,rkn',od',Hf',_,rfl,d7 S3 (fun p hp=> ?_) b4,sf3.trans sf4,sh3.same sf4,so4,by rw[List.take_add_one,hxi];exact ru3.snoc mv4,fun y hy=> ?_,fun y hy=> ?_⟩
  ·have hp:p=kd\/p=sd\/p=rd:=by simpa using hp
   rcases hp with rfl | rfl | rfl
   ·exact hk0
   ·exact hs0
   ·exact hr0
  ·rw[List.take_add_one,hxi] at hy
   rcases List.mem_append.mp hy with z | z
   ·intro w
    cases e:kn y with
    | none=>exact hw3 y z e
    | some u=>rw[le4 y u e] at w;cases w
   ·have:y=x:=by simpa using z
    rw[this];exact hx4
  ·rcases hr4 y hy with z | z
   ·obtain⟨x',hx',r'⟩:=hr3 y z
    exact⟨x',hx',r'.le le4⟩
   ·exact⟨x,hxm,z⟩
 ·rintro σ H3 ⟨kn,rmN,rkn,od,Hf,t,rfl,S3,sf3,sh3,so3,ru3,hw3,hr3⟩
  walk_at "vs"
  rw[show ws.take (ws.map V.str).length=ws by rw[List.length_map];exact List.take_length] at hw3 ru3
  exact q ⟨a,dx,g,c,o,dxo,rcd,kd,sd,rd⟩ kn rmN rkn od Hf H3 S3 sf3 sh3 so3 ru3 hk0 hs0 hr0 hw3 hr3
--P KN
abbrev cG:Stmt:=top 17
theorem wz:bL ["house","wishes","search"] ["house","wishes"] (aa cG):=⟨rfl,rfl,rfl,by decide +kernel,rfl,by decide +kernel,by decide +kernel⟩
theorem vd:Loc (aa cG) "search":=by decide +kernel
theorem rY:(aa cG).names.lookup ("searched":Str)=some NameKind.globalImplicit:=by decide +kernel
theorem vf:aG (aa cG) "wishes":=by decide +kernel
theorem pq:(aa cG).names.lookup ("NamedRecords":Str)=some NameKind.globalImplicit:=by decide +kernel
theorem pA:(("NamedRecords":Str)==("__debug__":Str))=false:=by decide +kernel
theorem wA:aG (aa cG) "house":=by decide +kernel
theorem rZ:(("searched":Str)==("__debug__":Str))=false:=by decide +kernel
theorem xN:(aa cG).names.lookup ("list":Str)=some NameKind.globalImplicit:=by decide +kernel
theorem jE:aG (aa cG) "search":=by decide +kernel
theorem xO:("list":Str)≠"__name__":=by decide +kernel
theorem xP:(("list":Str)==("__debug__":Str))=false:=by decide +kernel
theorem Fp {f g0 g1:Addr}{fd gd0 gd1:FuncData} (bJ:FnT K mg "fresh_build" cG ["house","wishes"] f fd)
 (fQ:FnT K mg "searched" dF ["house","old","wishes"] g0 gd0) (yS:aY P w K mg base (CXd P w) 16 g0 gd0 ["house","old","wishes"] (vJ CSe CN CNo CRi))
 (bw:fX K CN "__init__" "NamedRecords.__init__" aZ ["self","records"] g1 gd1) (jb:aY P w K mg base CX0 1 g1 gd1 ["self","records"] (Ei CN))
 (jc:Mk K CN g1) (jd:mg "NamedRecords"=some (.ref CN))
 (T:Blt mg) (sr:SrC K CSe):aY P w K mg base (CXd P w) 17 f fd ["house","wishes"] (Kv CNo CRi):=by
 refine bJ.F.okD wz (fun vs H Q E h=> ?_) (fun cdv A outer s H vs Q E hr h=> ?_)
 ·obtain⟨h,g,c,wl,gs,cs,gv,rc,ws,rfl,_⟩:=h
  rfl
 obtain⟨h,g,c,wl,gs,cs,gv,rc,ws,rfl,⟨kg,kc,eh,eg,ec,bd⟩,ewl,hws,q,qe⟩:=h
 have o9:=sr.cl
 have nK:=sr.nK
 have nS:=sr.nS
 refine⟨_,(az (bW (i:=2) wz.nd rfl vd (bN (yS.mono (by omega)) hr rY fQ.m fQ.F.kp fQ.b .nil Ot (aP (aj 0 wA) (uP (zy jc (jb.mono (by omega)) hr pq jd bw.b .nil cJ (Qa iU au) pA) (aP (aj 1 vf) au))) rZ))
  (aC (bY (jm (Mi (bu (aj 2 jE)) (Mi (bu (aj 2 jE)) (uP (lD (DX rfl) xN T.vA qd (Mi (bu (aj 2 jE)) au) xO xP) au))))))), ?_⟩
 walk_at "vs"
 intro rcd hrcd
 have S0:=aq (.dK []) hrcd
 have er0:upd H rcd (.dK []) rcd=some (.dK []):=ak
 generalize upd H rcd (.dK [])=H0 at *
 walk_at "vs"
 intro o dxo ho hdxo hne
 have hoH:(upd H0 dxo (.own o)) o=none:=(ao (Ne.symm hne)).trans ho
 have S1:=(aq (.own o) hdxo).trans (aq (.ins CN dxo []) hoH)
 refine⟨o,dxo,rcd,rfl,ak,fun H2 b2 e2=>⟨rfl, ?_⟩⟩
 have S2':aN H0 H2:=d7 S1 (fun p hp=>by
  have:p=o:=by simpa using hp
  rw[this];exact ho) b2
 have S2:=S0.trans S2'
 have eh2:=S2 _ _ eh
 have eg2:=S2 _ _ eg
 have ec2:=S2 _ _ ec
 have bd2:=bd.tups (aN.tups S2)
 have er2:=S2' _ _ er0
 have rD2:j9 H2 [] (fun _=>none):=⟨⟨[],⟨rfl,by simp⟩⟩,fun x q e=>(nomatch e),fun x _=>pG⟩
 have rf2:RmF gv rc (fun _=>none):=fun x r ps v e=>(nomatch e)
 have ahi:=S2 _ _ ewl
 walk_at "vs"
 refine⟨?_,fun e cls d H' he s' er=>qe e cls d H' he (S2.trans s') er⟩
 intro D kn rmN rkn sn Hf H3 s3 sf3 sh3 so3 ru3 hk3 hs3 hr3 hw3 hrch
 have S3:=S2.trans s3
 have e3:=so3.sm _ _ sh3.e
 obtain⟨kw,wn,ek,kkw,hkw⟩:=so3.ek
 obtain⟨ks,es,rDs,kks⟩:=so3.es
 obtain⟨kk,rs,er3,kkr,hkk,hrn⟩:=so3.er
 obtain⟨nks,nkr,nsr⟩:=sh3.ne
 have hk0:=same_none S2 hk3
 have hs0:=same_none S2 hs3
 have hwl:=so3.kl bd kkw hkw
 rw[kkw.len] at hwl
 have aea:=so3.sl bd kks rDs.s.w
 rw[kks.len] at aea
 have som:∀x,x∈sn ↔ rmN x≠none:=fun x=>⟨fun hx z=>kks.none.mp (rDs.s.w x z) hx,fun hx=>Decidable.byContradiction fun w=>by
  have:=kks.none.mpr w
  cases e:rmN x with
  | none=>exact hx e
  | some qq=>
    obtain⟨b,hb,_⟩:=rDs.s.v x qq e
    rw[hb] at this;cases this⟩
 walk_at "vs"
 intro l hl
 rw[Qh kks.k]
 have s4:=aq (.lst (sn.map V.str)) hl
 have el4:upd H3 l (.lst (sn.map V.str)) l=some (.lst (sn.map V.str)):=ak
 have ek4:=s4 _ _ ek
 have es4:=s4 _ _ es
 generalize upd H3 l (.lst (sn.map V.str))=H4 at *
 walk_at "vs"
 intro t ht
 have s6:=aq (.tup [.ref D.kd, .ref D.sd, .ref l]) ht
 have hrk:∀x,rkn x=(rmN x).isSome:=fun x=>by
  cases e:rmN x with
  | none=>
    cases w:rkn x with
    | false=>rfl
    | true=>exact absurd e (hrn x w)
  | some qq=>
    obtain⟨r,ps,v⟩:=qq
    have h3:=(so3.md x r ps v e).2.2
    cases w:rkn x with
    | true=>rfl
    | false=>rw[w,if_neg (by decide)] at h3;cases h3
 exact q t D.kd D.sd l kw ks wn sn kn rmN _ (S3.trans (s4.trans s6)) ak (same_none (S3.trans s4) ht) hk0 hs0 (same_none S3 hl) nks (s6 _ _ ek4) kkw hwl hkw (s6 _ _ es4) kks ((rDs.same (so3.sm.trans (s4.trans s6))).low S2) (s6 _ _ el4) ⟨so3.ok,fun x r ps v e=>by rw[<-hrk];exact so3.md x r ps v e,hw3,hrch,fun x hx z=>(by rw[z] at hx;cases hx),ru3.runs,kks.nd,som,aea⟩ ru3
--Q KN
--P Uc
abbrev gW:Stmt:=top 19
theorem KQ:bL ["house","name"] ["house","name"] (aa gW):=⟨rfl,rfl,rfl,by decide +kernel,rfl,by decide +kernel,by decide +kernel⟩
theorem wB:(aa gW).names.lookup ("searched":Str)=some NameKind.globalImplicit:=by decide +kernel
theorem su:aG (aa gW) "name":=by decide +kernel
theorem qO:(aa gW).names.lookup ("NamedRecords":Str)=some NameKind.globalImplicit:=by decide +kernel
theorem qP:(("NamedRecords":Str)==("__debug__":Str))=false:=by decide +kernel
theorem zU:aG (aa gW) "house":=by decide +kernel
theorem wC:(("searched":Str)==("__debug__":Str))=false:=by decide +kernel
theorem KR {f g0 g1:Addr}{fd gd0 gd1:FuncData} (jP:FnT K mg "worth_of" gW ["house","name"] f fd)
 (fQ:FnT K mg "searched" dF ["house","old","wishes"] g0 gd0) (yS:aY P w K mg base (CXd P w) 16 g0 gd0 ["house","old","wishes"] (vJ CSe CN CNo CRi))
 (bw:fX K CN "__init__" "NamedRecords.__init__" aZ ["self","records"] g1 gd1) (jb:aY P w K mg base CX0 1 g1 gd1 ["self","records"] (Ei CN))
 (jc:Mk K CN g1) (jd:mg "NamedRecords"=some (.ref CN))
 (T:Blt mg) (sr:SrC K CSe):aY P w K mg base (CXd P w) 17 f fd ["house","name"] (Kw CNo CRi):=by
 refine jP.F.okD KQ (fun vs H Q E h=> ?_) (fun cdv A outer s H vs Q E hr h=> ?_)
 ·obtain⟨h,g,c,gs,cs,gv,rc,x,rfl,_⟩:=h
  rfl
 obtain⟨h,g,c,gs,cs,gv,rc,x,rfl,⟨kg,kc,eh,eg,ec,bd⟩,hws,q,qe⟩:=h
 have o9:=sr.cl
 have nK:=sr.nK
 have nS:=sr.nS
 refine⟨_,(aC (bY (fV (dZ hr) (bu (bN (yS.mono (by omega)) hr wB fQ.m fQ.F.kp fQ.b .nil Ot (aP (aj 0 zU) (uP (zy jc (jb.mono (by omega)) hr qO jd bw.b .nil cJ (Qa iU au) qP) (Mh (fW (aP (aj 1 su) au)) au))) wC)) (aj 1 su)))), ?_⟩
 walk_at "vs"
 intro rcd hrcd
 have S0:=aq (.dK []) hrcd
 have er0:upd H rcd (.dK []) rcd=some (.dK []):=ak
 generalize upd H rcd (.dK [])=H0 at *
 walk_at "vs"
 intro o dxo ho hdxo hne
 have hoH:(upd H0 dxo (.own o)) o=none:=(ao (Ne.symm hne)).trans ho
 have S1:=(aq (.own o) hdxo).trans (aq (.ins CN dxo []) hoH)
 refine⟨o,dxo,rcd,rfl,ak,fun H2 b2 e2=>⟨rfl, ?_⟩⟩
 have S2':aN H0 H2:=d7 S1 (fun p hp=>by
  have:p=o:=by simpa using hp
  rw[this];exact ho) b2
 have S2:=S0.trans S2'
 have er2:=S2' _ _ er0
 walk_at "vs"
 intro wl hwl
 have s3:=aq (.lst [.str x]) hwl
 have aix:upd H2 wl (.lst [.str x]) wl=some (.lst ([x].map V.str)):=ak
 have S3:=S2.trans s3
 have eh3:=S3 _ _ eh
 have eg3:=S3 _ _ eg
 have ec3:=S3 _ _ ec
 have bd3:=bd.tups (aN.tups S3)
 have er3:=s3 _ _ er2
 have e23:=s3 _ _ e2
 have rD3:j9 (upd H2 wl (.lst [.str x])) [] (fun _=>none):=⟨⟨[],⟨rfl,by simp⟩⟩,fun x q e=>(nomatch e),fun x _=>pG⟩
 have rf3:RmF gv rc (fun _=>none):=fun x r ps v e=>(nomatch e)
 generalize upd H2 wl (.lst [.str x])=H3 at *
 walk_at "vs"
 refine⟨?_,fun e cls d H' he s' er=>qe e cls d H' he (S3.trans s') er⟩
 intro D kn rmN rkn sn Hf H4 s4 sf4 sh4 so4 ru4 hk4 hs4 hr4 hw4 hrch
 have S4:=S3.trans s4
 have e4:=so4.sm _ _ sh4.e
 obtain⟨kw,wn,ek,kkw,hkw⟩:=so4.ek
 obtain⟨ks,es,rDs,kks⟩:=so4.es
 obtain⟨v,hv⟩:∃v,kn x=some v:=by
  cases z:kn x with
  | none=>exact absurd z (hw4 x (by simp))
  | some v=>exact⟨v,rfl⟩
 have dk:dO H4 D.kd (.str x) (some (.int v)):=by
  have:=dO.k (k:= .inr x) ek
  rw[hkw,hv] at this;exact this
 walk_at "vs"
 exact q v kn rmN sn H4 S4 so4.ok ru4 hv
--Q Uc
end
section
variable {P:Program}{w:World}{K:PySem.W.Frag}{mg:Str->Option Value}{base:Heap}
abbrev gY:Stmt:=top 21
theorem KY:bL ["script","k"] ["script","k"] (aa gY):=⟨rfl,rfl,rfl,by decide +kernel,rfl,by decide +kernel,by decide +kernel⟩
theorem kY:aG (aa gY) "k":=by decide +kernel
theorem Cw:(aa gY).names.lookup ("len":Str)=some NameKind.globalImplicit:=by decide +kernel
theorem pW:aG (aa gY) "script":=by decide +kernel
theorem Cy:("len":Str)≠"__name__":=by decide +kernel
theorem Cz:(("len":Str)==("__debug__":Str))=false:=by decide +kernel
theorem KZ {f:Addr}{fd:FuncData} (dG:FnT K mg "_law_cell" gY ["script","k"] f fd) (T:Blt mg):aY P w K mg base CX0 1 f fd ["script","k"] (Io K):=by
 refine dG.F.okQ KY (fun vs H Q E h=> ?_) (fun cdv A outer s H vs Q E hr h=> ?_)
 ·obtain⟨a,ns,k,rfl,_⟩:=h
  rfl
 obtain⟨a,ns,k,rfl,hS,h0,h80,q⟩:=h
 refine⟨_,(az (fJ (cW RM (aj 1 kY) (cX gM Cw T.uL nZ (aP (aj 0 pW) au) Cy Cz) (bH _)) (aC (bY (cg eX (aj 0 pW) (aj 1 kY)))) cZ)
  (aC (bY (bM jF (bM jF (bM oV (bM oV aB (aj 1 kY)) (aj 1 kY)) (bM oV aB (aj 1 kY))) aB)))), ?_⟩
 walk_at "vs"
 refine Ay (fun c1=> ?_) (fun c1=> ?_)
 ·have c1':k<((ns.map V.int).length:Int):=by simpa using c1
  obtain⟨v,j,hv,_⟩:=adH h0 c1'
  walk_at "vs"
  exact q _
 ·have m1:tH 5 k:= .inl ⟨by decide,by decide⟩
  have m2:tH (5 * k) k:= .inl ⟨by omega,by omega⟩
  have m3:tH 9 k:= .inl ⟨by decide,by decide⟩
  walk_at "vs"
  exact q _
abbrev fY:Stmt:=top 22
theorem Iz:bL ["script","k"] ["script","k"] (aa fY):=⟨rfl,rfl,rfl,by decide +kernel,rfl,by decide +kernel,by decide +kernel⟩
theorem wD:aG (aa fY) "k":=by decide +kernel
theorem lR:(aa fY).names.lookup ("_law_cell":Str)=some NameKind.globalImplicit:=by decide +kernel
theorem oK:aG (aa fY) "script":=by decide +kernel
theorem lU:(("_law_cell":Str)==("__debug__":Str))=false:=by decide +kernel
theorem IK {f g:Addr}{fd gd:FuncData} (d9:FnT K mg "_law_state" fY ["script","k"] f fd) (dG:FnT K mg "_law_cell" gY ["script","k"] g gd) (uy:aY P w K mg base CX0 1 g gd ["script","k"] (Io K)) (T:Blt mg):
 aY P w K mg base CX0 2 f fd ["script","k"] (Tz K):=by
 refine d9.F.okQ Iz (fun vs H Q E h=> ?_) (fun cdv A outer s H vs Q E hr h=> ?_)
 ·obtain⟨a,ns,k,rfl,_⟩:=h
  rfl
 obtain⟨a,ns,k,rfl,hS,h0,h1,q⟩:=h
 refine⟨_,(aC (bY (VF (Hv aV (bN (uy.mono (by omega)) hr lR dG.m dG.F.kp dG.b .nil cJ (aP (aj 0 oK) (aP (aj 1 wD) au)) lU) (Hv aV (Dt gF (bM jT (bN (uy.mono (by omega)) hr lR dG.m dG.F.kp dG.b .nil cJ (aP (aj 0 oK) (fM aB au)) lU) aB) aB (bH _)) (Hv aV (aj 1 wD) aav)))))), ?_⟩
 walk_at "vs"
 intro p hp
 have s1:=aq (.dK []) hp
 have hS1:=SqL.same s1 hS
 have e1:upd H p (.dK []) p=some (.dK []):=ak
 generalize upd H p (.dK [])=H1 at *
 walk_at "vs"
 intro n1
 walk_at "vs"
 intro n2
 walk_at "vs"
 refine⟨vK n1 (decide (V.int (n2 % 2)=V.int 1)) k,rfl,by show 3<=15;decide, ?_⟩
 have em:eU [] (vK n1 (decide (V.int (n2 % 2)=V.int 1)) k)=vK n1 (decide (V.int (n2 % 2)=V.int 1)) k:=rfl
 rw[em]
 exact q p _ (lE _ hp s1) hp ⟨_,_,_,ak,by omega,by omega⟩
abbrev cM:Stmt:=top 23
theorem qt:bL ["state","many","found","stir"] ["state","many"] (aa cM):=⟨rfl,rfl,rfl,by decide +kernel,rfl,by decide +kernel,by decide +kernel⟩
theorem cH:aG (aa cM) "state":=by decide +kernel
theorem zV:Loc (aa cM) "found":=by decide +kernel
theorem mQ:aG (aa cM) "many":=by decide +kernel
theorem zW:aG (aa cM) "found":=by decide +kernel
theorem sy:Loc (aa cM) "stir":=by decide +kernel
theorem mR:aG (aa cM) "stir":=by decide +kernel
theorem K6 {f:Addr}{fd:FuncData} (aA:FnT K mg "_law_take" cM ["state","many"] f fd) (T:Blt mg):aY P w K mg base CX0 1 f fd ["state","many"] Ce:=by
 refine aA.F.okQ qt (fun vs H Q E h=> ?_) (fun cdv A outer s H vs Q E hr h=> ?_)
 ·obtain⟨p,c,many,rfl,_⟩:=h
  rfl
 obtain⟨p,c,many,rfl,⟨rest,mixed,count,e,h0,h1⟩,hc,hm,hlg,q⟩:=h
 refine⟨_,(az (fJ (RG (yp (fV (dZ hr) (aj 0 cH) aV))) (az (bW (i:=2) qt.nd rfl zV (bM jT (fV (dZ hr) (aj 0 cH) aV) (aj 1 mQ)))
  (az (jQ (dZ hr) (aj 0 cH) aV (bM pJ (fV (dZ hr) (aj 0 cH) aV) (aj 1 mQ)))
  (aC (bY (aj 2 zW))))) cZ)
  (az (jQ (dZ hr) (aj 0 cH) aV (bM jF (fV (dZ hr) (aj 0 cH) aV) aB))
  (az (bW (i:=3) qt.nd rfl sy (bM jT (bM jF (bM jT (fV (dZ hr) (aj 0 cH) aV) aB) (bM oV aB (fV (dZ hr) (aj 0 cH) aV))) aB))
  (az (bW (i:=3) qt.nd rfl sy (bM jT (bM oV (aj 3 mR) (aj 3 mR)) aB))
  (az (jQ (dZ hr) (aj 0 cH) aV (bM jT (bM jF (bM oV (aj 3 mR) aB) aB) aB))
  (aC (bY (bM jT (bM pJ (fV (dZ hr) (aj 0 cH) aV) aB) (aj 1 mQ))))))))), ?_⟩
 have d1:=Ez e
 have d2:=Qw e
 have d3:=Ky e
 walk_at "vs"
 cases mixed with
 | false=>
   walk_at "vs"
   refine And.intro (zK e _) ?_
   walk_at "vs"
   exact q _ _ (Int.emod_nonneg _ (by omega)) (Int.emod_lt_of_pos _ hm) (But.set _ (by simp)) ⟨_,_,_,ak,h0,by omega⟩
 | true=>
   walk_at "vs"
   refine And.intro (Im e _) ?_
   have e2:upd H p (.dK (vK rest true (count+1))) p=some (.dK (vK rest true (count+1))):=ak
   have b2:But [p] H (upd H p (.dK (vK rest true (count+1)))):=But.set _ (by simp)
   clear d1 d2 d3
   generalize upd H p (.dK (vK rest true (count+1)))=H2 at *
   have d1:=Ez e2
   have d3:=Ky e2
   have m1:tH 70001 (count+1):= .inl ⟨by decide,by decide⟩
   have r0:=Int.emod_nonneg (rest % 2147483579+70001 *(count+1)) (show(2147483579:Int)≠0 by decide)
   have r1:=Int.emod_lt_of_pos (rest % 2147483579+70001 *(count+1)) (show(0:Int)<2147483579 by decide)
   have m2:tH ((rest % 2147483579+70001 *(count+1)) % 2147483579) ((rest % 2147483579+70001 *(count+1)) % 2147483579):= .inl ⟨by omega,by omega⟩
   have z1:=Int.emod_nonneg ((rest % 2147483579+70001 *(count+1)) % 2147483579 *((rest % 2147483579+70001 *(count+1)) % 2147483579)) (show(2147483563:Int)≠0 by decide)
   have z2:=Int.emod_lt_of_pos ((rest % 2147483579+70001 *(count+1)) % 2147483579 *((rest % 2147483579+70001 *(count+1)) % 2147483579)) (show(0:Int)<2147483563 by decide)
   have m3:tH ((rest % 2147483579+70001 *(count+1)) % 2147483579 *((rest % 2147483579+70001 *(count+1)) % 2147483579) % 2147483563) 50021:= .inl ⟨by omega,by omega⟩
   walk_at "vs"
   refine And.intro (zK e2 _) ?_
   have e3:upd H2 p (.dK (vK (((rest % 2147483579+70001 *(count+1)) % 2147483579 *((rest % 2147483579+70001 *(count+1)) % 2147483579) % 2147483563 * 50021+7) % 2147483579) true (count+1))) p=some (.dK (vK (((rest % 2147483579+70001 *(count+1)) % 2147483579 *((rest % 2147483579+70001 *(count+1)) % 2147483579) % 2147483563 * 50021+7) % 2147483579) true (count+1))):=ak
   have d4:=Ez e3
   walk_at "vs"
   exact q _ _ (Int.emod_nonneg _ (by omega)) (Int.emod_lt_of_pos _ hm) (b2.trans (But.set _ (by simp))) ⟨_,_,_,ak,by omega,by omega⟩
end
section
variable {P:Program}{w:World}{K:PySem.W.Frag}{mg:Str->Option Value}{base:Heap}
abbrev dU:Stmt:=top 24
theorem yf:bL ["state","kind"] ["state"] (aa dU):=⟨rfl,rfl,rfl,by decide +kernel,rfl,by decide +kernel,by decide +kernel⟩
theorem yU:Loc (aa dU) "kind":=by decide +kernel
theorem je:(aa dU).names.lookup ("_law_take":Str)=some NameKind.globalImplicit:=by decide +kernel
theorem j6:aG (aa dU) "state":=by decide +kernel
theorem jf:(("_law_take":Str)==("__debug__":Str))=false:=by decide +kernel
theorem lB:aG (aa dU) "kind":=by decide +kernel
theorem Gf {f g0:Addr}{fd gd0:FuncData} (dh:FnT K mg "_law_number" dU ["state"] f fd)
 (aA:FnT K mg "_law_take" cM ["state","many"] g0 gd0) (bA:aY P w K mg base CX0 1 g0 gd0 ["state","many"] Ce)
 (T:Blt mg):aY P w K mg base CX0 2 f fd ["state"] TX:=by
 refine dh.F.okQ yf (fun vs H Q E h=> ?_) (fun cdv A outer s H vs Q E hr h=> ?_)
 ·obtain⟨p,c,rfl,_⟩:=h
  rfl
 obtain⟨p,c,rfl,st,hc,q⟩:=h
 refine⟨_,(az (bW (i:=1) yf.nd rfl yU (bN (bA.mono (by omega)) hr je aA.m aA.F.kp aA.b .nil cJ (aP (aj 0 j6) (fM aB au)) jf))
  (az (fJ (cW gF (aj 1 lB) aB (bH _)) (aC (bY (bM jR (bN (bA.mono (by omega)) hr je aA.m aA.F.kp aA.b .nil cJ (aP (aj 0 j6) (vB (bM jF (bM oV aB (bM NZ aB aB)) aB) au)) jf) (bM NZ aB aB)))) cZ)
  (aC (bY (bM jR (bN (bA.mono (by omega)) hr je aA.m aA.F.kp aA.b .nil cJ (aP (aj 0 j6) (lZ (cg eX (fW (fM aB (fM aB (fM aB au)))) (aj 1 lB)) au)) jf) (cg eX (fW (fM aB (fM aB (fM aB au)))) (aj 1 lB))))))), ?_⟩
 walk_at "vs"
 intro kind H1 k0 k1 b1 st1
 walk_at "vs"
 by_cases hk:kind=3
 ·rw[show decide (V.int kind=V.int 3)=true by subst hk;rfl]
  walk_at "vs"
  intro n H2 n0 n1 b2 st2
  have e10:(10:Int)^ Int.toNat 12=1000000000000:=by decide
  rw[e10] at n1
  walk_at "vs"
  rw[e10]
  exact q _ _ (TV (by omega)) (b1.trans b2) st2
 ·rw[show decide (V.int kind=V.int 3)=false from decide_eq_false fun z=>hk (by cases z;rfl)]
  have three:∃m d:Int,atI [V.int 5, .int 21, .int 2001] kind=some (.int m)/\atI [V.int 2, .int 10, .int 1000] kind=some (.int d)/\0<m/\m<=2001/\0<=d/\d<=1000:=by
   have:kind=0\/kind=1\/kind=2:=by omega
   rcases this with rfl | rfl | rfl
   ·exact⟨5,2,rfl,rfl,by decide,by decide,by decide,by decide⟩
   ·exact⟨21,10,rfl,rfl,by decide,by decide,by decide,by decide⟩
   ·exact⟨2001,1000,rfl,rfl,by decide,by decide,by decide,by decide⟩
  obtain⟨m,d,am,ad,m0,m1,d0,d1⟩:=three
  have hlg:m.natAbs.log2<9000:=Nat.lt_of_le_of_lt (Nat.log2_le_self _) (by omega)
  walk_at "vs"
  intro l hl
  have sl:=aq (.lst [V.int 5, .int 21, .int 2001]) hl
  have el:upd H1 l (.lst [V.int 5, .int 21, .int 2001]) l=some (.lst [V.int 5, .int 21, .int 2001]):=ak
  replace st1:=st1.same sl
  replace b1:=b1.trans (But.of_same sl)
  generalize upd H1 l (.lst [V.int 5, .int 21, .int 2001])=H2 at *
  walk_at "vs"
  intro n H3 n0 n1 b3 st3
  replace b1:=b1.trans b3
  walk_at "vs"
  intro l2 hl2
  have sl2:=aq (.lst [V.int 2, .int 10, .int 1000]) hl2
  have el2:upd H3 l2 (.lst [V.int 2, .int 10, .int 1000]) l2=some (.lst [V.int 2, .int 10, .int 1000]):=ak
  replace st3:=st3.same sl2
  replace b1:=b1.trans (But.of_same sl2)
  generalize upd H3 l2 (.lst [V.int 2, .int 10, .int 1000])=H4 at *
  walk_at "vs"
  exact q _ _ (TV (by omega)) b1 st3
abbrev fD:Stmt:=top 25
theorem K7:bL ["state","some"] ["state","some"] (aa fD):=⟨rfl,rfl,rfl,by decide +kernel,rfl,by decide +kernel,by decide +kernel⟩
theorem mD:(aa fD).names.lookup ("_law_take":Str)=some NameKind.globalImplicit:=by decide +kernel
theorem lV:aG (aa fD) "state":=by decide +kernel
theorem mF:(("_law_take":Str)==("__debug__":Str))=false:=by decide +kernel
theorem mU:aG (aa fD) "some":=by decide +kernel
theorem sG:(aa fD).names.lookup ("_law_number":Str)=some NameKind.globalImplicit:=by decide +kernel
theorem sH:(("_law_number":Str)==("__debug__":Str))=false:=by decide +kernel
theorem CG:(aa fD).names.lookup ("len":Str)=some NameKind.globalImplicit:=by decide +kernel
theorem CJ:("len":Str)≠"__name__":=by decide +kernel
theorem CP:(("len":Str)==("__debug__":Str))=false:=by decide +kernel
theorem K8 {f g0 g1:Addr}{fd gd0 gd1:FuncData} (fG:FnT K mg "_law_leaf" fD ["state","some"] f fd)
 (aA:FnT K mg "_law_take" cM ["state","many"] g0 gd0) (bA:aY P w K mg base CX0 1 g0 gd0 ["state","many"] Ce)
 (dh:FnT K mg "_law_number" dU ["state"] g1 gd1) (uz:aY P w K mg base CX0 2 g1 gd1 ["state"] TX)
 (T:Blt mg):aY P w K mg base CX0 3 f fd ["state","some"] Oz:=by
 refine fG.F.okQ K7 (fun vs H Q E h=> ?_) (fun cdv A outer s H vs Q E hr h=> ?_)
 ·obtain⟨p,l,c,ns,rfl,_⟩:=h
  rfl
 obtain⟨p,l,c,ns,rfl,st,hc,el,hn,q⟩:=h
 refine⟨_,(az (fJ (Lz (Gz (cW (Qc hr.units) (aj 1 mU) (fW au) (bH _)) (Dv (cW gF (bN (bA.mono (by omega)) hr mD aA.m aA.F.kp aA.b .nil cJ (aP (aj 0 lV) (fM aB au)) mF) aB (bH _))))) (aC (bY (jm (fM aV (uP (bN (uz.mono (by omega)) hr sG dh.m dh.F.kp dh.b .nil cJ (aP (aj 0 lV) au) sH) au))))) cZ)
  (aC (bY (jm (fM aV (lZ (cg eX (aj 1 mU) (bN (bA.mono (by omega)) hr mD aA.m aA.F.kp aA.b .nil cJ (aP (aj 0 lV) (uP (cX gM CG T.uL nZ (aP (aj 1 mU) au) CJ CP) au)) mF)) au)))))), ?_⟩
 walk_at "vs"
 intro z hz
 have sz:=aq (.lst []) hz
 have ez:upd H z (.lst []) z=some (.lst []):=ak
 replace st:=st.same sz
 replace el:=sz _ _ el
 have b0:But [p] H (upd H z (.lst [])):=But.of_same sz
 generalize upd H z (.lst [])=H0 at *
 have num:∀(Hx:Hp) (cx:Nat),But [p] H Hx->lq Hx p cx->cx<=c+1->∀n H',PySem.Builtin.Int.intBits n<=41->But [p] Hx H'->lq H' p (cx+2)->∀a,H' a=none->Q (.ref a) (upd H' a (.tup [.str "number", .int n])):=fun Hx cx bx sx hcx n H' hb b' s' a ha=>by
  have s2:=aq (.tup [.str "number", .int n]) ha
  refine q a (.num n) _ (bx.trans (b'.trans (But.of_same s2))) ?_ (.num ak) hb
  obtain⟨r,m,k,e,h1,h2⟩:=s'.same s2
  exact⟨r,m,k,e,h1,by omega⟩
 cases ns with
 | nil=>
   walk_at "vs"
   intro n H1 hb b1 st1
   walk_at "vs"
   exact fun a ha=>num H0 c b0 st (by omega) n H1 hb b1 st1 a ha
 | cons y ys=>
   walk_at "vs"
   intro t H1 t0 t1 b1 st1
   have el1:=b1 _ _ (st.off el (by simp)) el
   walk_at "vs"
   by_cases ht:t=0
   ·rw[show decide (V.int t=V.int 0)=true by subst ht;rfl]
    walk_at "vs"
    intro n H2 hb b2 st2
    walk_at "vs"
    exact fun a ha=>num H1 (c+1) (b0.trans b1) st1 (Nat.le_refl _) n H2 hb b2 st2 a ha
   ·rw[show decide (V.int t=V.int 0)=false from decide_eq_false fun z=>ht (by cases z;rfl)]
    have hm0:(0:Int)<((((y::ys).map V.str).length:Nat):Int):=by rw[List.length_map];show(0:Int)<((ys.length+1:Nat):Int);omega
    have hlg:((((y::ys).map V.str).length:Nat):Int).natAbs.log2<9000:=Nat.lt_of_le_of_lt (Nat.log2_le_self _) (by rw[List.length_map,Int.natAbs_natCast];omega)
    walk_at "vs"
    intro n H2 n0 n1 b2 st2
    have el2:=b2 _ _ (st1.off el1 (by simp)) el1
    obtain⟨x,hx,hxm⟩:∃x,atI ((y::ys).map V.str) n=some (.str x)/\x∈y::ys:=by
     obtain⟨j,rfl⟩:=Int.eq_ofNat_of_zero_le n0
     have hj:j<(y::ys).length:=by rw[List.length_map] at n1;omega
     exact⟨(y::ys)[j],lH (by rw[List.getElem?_map,List.getElem?_eq_getElem hj];rfl),List.getElem_mem hj⟩
    walk_at "vs"
    intro a ha
    have s2:=aq (.tup [.str "read", .str x]) ha
    refine q a (.rd x) _ (b0.trans (b1.trans (b2.trans (But.of_same s2)))) ?_ (.rd ak) hxm
    obtain⟨r,m,k,e,h1,h2⟩:=st2.same s2
    exact⟨r,m,k,e,h1,by omega⟩
end
section
variable {P:Program}{w:World}{K:PySem.W.Frag}{mg:Str->Option Value}{base:Heap}
abbrev aH:Stmt:=top 26
theorem iI:bL ["state","some","deep","kind","small","other","names","first","second"] ["state","some","deep"] (aa aH):=⟨rfl,rfl,rfl,by decide +kernel,rfl,by decide +kernel,by decide +kernel⟩
theorem yV:Loc (aa aH) "kind":=by decide +kernel
theorem gq:(aa aH).names.lookup ("_law_take":Str)=some NameKind.globalImplicit:=by decide +kernel
theorem bU:aG (aa aH) "state":=by decide +kernel
theorem eE:(("_law_take":Str)==("__debug__":Str))=false:=by decide +kernel
theorem gZ:aG (aa aH) "kind":=by decide +kernel
theorem fU:aG (aa aH) "deep":=by decide +kernel
theorem sI:(aa aH).names.lookup ("_law_leaf":Str)=some NameKind.globalImplicit:=by decide +kernel
theorem dY:aG (aa aH) "some":=by decide +kernel
theorem sJ:(("_law_leaf":Str)==("__debug__":Str))=false:=by decide +kernel
theorem xQ:Loc (aa aH) "small":=by decide +kernel
theorem xR:Loc (aa aH) "other":=by decide +kernel
theorem dz:(aa aH).names.lookup ("_law_recipe":Str)=some NameKind.globalImplicit:=by decide +kernel
theorem dB:(("_law_recipe":Str)==("__debug__":Str))=false:=by decide +kernel
theorem oM:aG (aa aH) "small":=by decide +kernel
theorem oN:aG (aa aH) "other":=by decide +kernel
theorem xT:Loc (aa aH) "names":=by decide +kernel
theorem xU:(aa aH).names.lookup ("tuple":Str)=some NameKind.globalImplicit:=by decide +kernel
theorem xV:(aa aH).names.lookup ("range":Str)=some NameKind.globalImplicit:=by decide +kernel
theorem zX:("len":Str)≠"__name__":=by decide +kernel
theorem zY:(("len":Str)==("__debug__":Str))=false:=by decide +kernel
theorem xW:("tuple":Str)≠"__name__":=by decide +kernel
theorem xX:(("tuple":Str)==("__debug__":Str))=false:=by decide +kernel
theorem xY:aG (aa aH) "names":=by decide +kernel
theorem xZ:Loc (aa aH) "first":=by decide +kernel
theorem wF:Loc (aa aH) "second":=by decide +kernel
theorem nY:aG (aa aH) "second":=by decide +kernel
theorem oO:aG (aa aH) "first":=by decide +kernel
theorem uN {d:Nat}{f g0 g1:Addr}{fd gd0 gd1:FuncData} (aK:FnT K mg "_law_recipe" aH ["state","some","deep"] f fd)
 (aA:FnT K mg "_law_take" cM ["state","many"] g0 gd0) (bA:aY P w K mg base CX0 1 g0 gd0 ["state","many"] Ce)
 (fG:FnT K mg "_law_leaf" fD ["state","some"] g1 gd1) (lC:aY P w K mg base CX0 3 g1 gd1 ["state","some"] Oz)
 (jq:aY P w K mg base CX0 (d+3) f fd ["state","some","deep"] (ag4 d)) (T:Blt mg):
 aY P w K mg base CX0 (d+4) f fd ["state","some","deep"] (TY d):=by
 refine aK.F.okQ iI (fun vs H Q E h=> ?_) (fun cdv A outer s H vs Q E hr h=> ?_)
 ·obtain⟨p,l,c,ns,deep,rfl,_⟩:=h
  rfl
 obtain⟨p,l,c,ns,deep,rfl,hdeep,hd3,hp,hc,el,hn1,hg,q⟩:=h
 refine⟨_,(az (bW (i:=3) iI.nd rfl yV (bN (bA.mono (by omega)) hr gq aA.m aA.F.kp aA.b .nil cJ (aP (aj 0 bU) (fM aB au)) eE))
  (az (fJ (Lz (Gz (cW gF (aj 2 fU) aB (bH _)) (Dv (cW gF (aj 3 gZ) aB (bH _))))) (aC (bY (bN (lC.mono (by omega)) hr sI fG.m fG.F.kp fG.b .nil cJ (aP (aj 0 bU) (aP (aj 1 dY) au)) sJ))) cZ)
  (az (fJ (cW gF (aj 3 gZ) aB (bH _)) (az (bW (i:=4) iI.nd rfl xQ (jm (fM aV (vB (bM jR (bN (bA.mono (by omega)) hr gq aA.m aA.F.kp aA.b .nil cJ (aP (aj 0 bU) (fM aB au)) eE) aB) au))))
  (az (bW (i:=5) iI.nd rfl xR (bN (jq.mono (by omega)) hr dz aK.m aK.F.kp aK.b .nil cJ (aP (aj 0 bU) (aP (aj 1 dY) (vB (bM jR (aj 2 fU) aB) au))) dB))
  (aC (bY (cg eX (fW (Mg (jm (fM aV (aP (aj 4 oM) (aP (aj 5 oN) au)))) (Mg (jm (fM aV (aP (aj 5 oN) (aP (aj 4 oM) au)))) au))) (bN (bA.mono (by omega)) hr gq aA.m aA.F.kp aA.b .nil cJ (aP (aj 0 bU) (fM aB au)) eE)))))) cZ)
  (az (fJ (Lz (RJ (cW gF (aj 3 gZ) aB (bH _)) (NT (cW (Qn hr.units) (aj 1 dY) (fW au) (bH _))))) (az (bW (i:=6) iI.nd rfl xT (lD JL xU T.HD Ds (adO (CZ rfl (n:=1) (fr:=[1,0]) (N:=["k","some","state"]) (JC (scX:=aa aH) (NX:=["state","some","deep","kind","small","other","names","first","second"]) rfl rfl (by decide +kernel)) (Bb xV T.Hz (vB (bM jF aB (bN (bA.mono (by omega)) hr gq aA.m aA.F.kp aA.b .nil cJ (aP (aj 0 bU) (fM aB au)) eE)) au)) (fun _ _ _ _ _=>(qgx (i:=0) (show List.Nodup (α:=Str) ["k","some","state"] by decide) (PX (by decide +kernel)))) (fun _ _ _ _ _=>LQ) (fun _ _ _ _ _=>(cg (Be (K:=K) rfl) (aj 1 (tM.ok (by decide +kernel))) (bN (bA.mono (by omega)) hr (glC (by decide +kernel)) aA.m aA.F.kp aA.b .nil cJ (aP (aj 2 (tM.ok (by decide +kernel))) (uP (cX (BX (K:=K) rfl) (glC (by decide +kernel)) T.uL nZ (aP (aj 1 (tM.ok (by decide +kernel))) au) zX zY) au)) eE)))) au) xW xX))
  (aC (bY (jm (fM aV (uP (bN (jq.mono (by omega)) hr dz aK.m aK.F.kp aK.b .nil cJ (aP (aj 0 bU) (aP (aj 1 dY) (vB (bM jR (aj 2 fU) aB) au))) dB) (aP (aj 6 xY) au))))))) cZ)
  (az (bW (i:=7) iI.nd rfl xZ (bN (jq.mono (by omega)) hr dz aK.m aK.F.kp aK.b .nil cJ (aP (aj 0 bU) (aP (aj 1 dY) (vB (bM jR (aj 2 fU) aB) au))) dB))
  (az (bW (i:=8) iI.nd rfl wF (bN (jq.mono (by omega)) hr dz aK.m aK.F.kp aK.b .nil cJ (aP (aj 0 bU) (aP (aj 1 dY) (vB (bM jR (aj 2 fU) aB) au))) dB))
  (az (fJ (cW RM (aj 3 gZ) aB (bH _)) (aC (bY (jm (fM aV (aP (aj 7 oO) (aP (aj 8 nY) (uP (bN (jq.mono (by omega)) hr dz aK.m aK.F.kp aK.b .nil cJ (aP (aj 0 bU) (aP (aj 1 dY) (vB (bM jR (aj 2 fU) aB) au))) dB) au))))))) cZ)
  (aC (bY (jm (lZ (cg eX (fW (fM aV (fM aV (fM aV (fM aV au))))) (bM jR (aj 3 gZ) aB)) (aP (aj 7 oO) (aP (aj 8 nY) au))))))))))))), ?_⟩
 have ht:=ad0 d
 have nlp:=hp.off el (by simp)
 walk_at "vs"
 intro kind H1 k0 k1 b1 pl1
 have el1:=b1 _ _ nlp el
 have leafq:∀a r H',But [p] H1 H'->lq H' p (c+1+3)->IsR H' a r->Cg ns r->Q (.ref a) H':=fun a r H' b pl R ok=>
  q a r H' (b1.trans b) (pl.mono (by omega)) R (ok.rc hg)
 cases d with
 | zero=>
   have hdeep:deep=0:=hdeep
   subst hdeep
   walk_at "vs"
   exact leafq
 | succ d=>
   have hdeep:deep=(d:Int)+1:=hdeep
   have hnd:¬(deep=0):=by omega
   have et:MN (d+1)=14+3 * MN d:=rfl
   walk_at "vs"
   refine Ay (fun c0=>absurd (V.int.inj (of_decide_eq_true c0)) hnd) (fun _=> ?_)
   walk_at "vs"
   refine Ay (fun c0=> ?_) (fun c0=> ?_)
   ·walk_at "vs"
    exact leafq
   ·have c0':¬(kind=0):=fun z=>c0 (by rw[z];rfl)
    walk_at "vs"
    --BRANCHES
    have pl:=pl1
    have B:=b1
    clear pl1
    refine Ay (fun c1=> ?_) (fun c1=> ?_)
    ·walk_at "vs"
     intro n W1 n0 n1 b_ st_
     replace B:=B.trans b_
     replace el1:=b_ _ _ (pl.off el1 (by simp)) el1
     replace pl:=st_
     clear b_
     walk_at "vs"
     intro sm hsm
     have s_:=aq (.tup [.str "number", .int (n - 3)]) hsm
     have esm:upd W1 sm (.tup [.str "number", .int (n - 3)]) sm=some (.tup [.str "number", .int (n - 3)]):=ak
     replace B:=B.trans (But.of_same s_)
     replace el1:=s_ _ _ el1
     replace pl:=pl.same s_
     generalize upd W1 sm (.tup [.str "number", .int (n - 3)])=W2 at *
     clear s_
     have Rsm:IsR W2 sm (.num (n - 3)):= .num esm
     clear esm
     walk_at "vs"
     intro a1 ra1 W3 b_ st_ Ra1 mj
     replace B:=B.trans b_
     replace el1:=b_ _ _ (pl.off el1 (by simp)) el1
     replace Rsm:=Rsm.tups (pl.tups b_)
     replace pl:=st_
     clear b_
     have abi:=mj.d
     walk_at "vs"
     intro t1 ht1
     have s_:=aq (.tup [.str "times", .ref sm, .ref a1]) ht1
     have et1:upd W3 t1 (.tup [.str "times", .ref sm, .ref a1]) t1=some (.tup [.str "times", .ref sm, .ref a1]):=ak
     replace B:=B.trans (But.of_same s_)
     replace el1:=s_ _ _ el1
     replace Rsm:=Rsm.same s_
     replace Ra1:=Ra1.same s_
     replace pl:=pl.same s_
     generalize upd W3 t1 (.tup [.str "times", .ref sm, .ref a1])=W4 at *
     clear s_
     walk_at "vs"
     intro t2 ht2
     have s_:=aq (.tup [.str "times", .ref a1, .ref sm]) ht2
     have et2:upd W4 t2 (.tup [.str "times", .ref a1, .ref sm]) t2=some (.tup [.str "times", .ref a1, .ref sm]):=ak
     replace B:=B.trans (But.of_same s_)
     replace el1:=s_ _ _ el1
     replace Rsm:=Rsm.same s_
     replace Ra1:=Ra1.same s_
     replace et1:=s_ _ _ et1
     replace pl:=pl.same s_
     generalize upd W4 t2 (.tup [.str "times", .ref a1, .ref sm])=W5 at *
     clear s_
     walk_at "vs"
     intro l9 hl9
     have s_:=aq (.lst [.ref t1, .ref t2]) hl9
     have el9:upd W5 l9 (.lst [.ref t1, .ref t2]) l9=some (.lst [.ref t1, .ref t2]):=ak
     replace B:=B.trans (But.of_same s_)
     replace el1:=s_ _ _ el1
     replace Rsm:=Rsm.same s_
     replace Ra1:=Ra1.same s_
     replace et1:=s_ _ _ et1
     replace et2:=s_ _ _ et2
     replace pl:=pl.same s_
     generalize upd W5 l9 (.lst [.ref t1, .ref t2])=W6 at *
     clear s_
     walk_at "vs"
     intro m W7 m0 m1 b_ st_
     replace B:=B.trans b_
     replace el1:=b_ _ _ (pl.off el1 (by simp)) el1
     replace Rsm:=Rsm.tups (pl.tups b_)
     replace Ra1:=Ra1.tups (pl.tups b_)
     replace et1:=b_ _ _ (pl.off et1 (by simp)) et1
     replace et2:=b_ _ _ (pl.off et2 (by simp)) et2
     replace el9:=b_ _ _ (pl.off el9 (by simp)) el9
     replace pl:=st_
     clear b_
     have I1:IsR W7 t1 (.bin .times (.num (n - 3)) ra1):= .bin (op:= .times) et1 Rsm Ra1
     have I2:IsR W7 t2 (.bin .times ra1 (.num (n - 3))):= .bin (op:= .times) et2 Ra1 Rsm
     have sn:=Qx n0 n1
     have gn:R.Good (.num (n - 3)):=by show(n - 3).natAbs<10 ^ 40;omega
     have ln:R.Lin (.num (n - 3)):=Nat.le_trans sn (by decide)
     have two:m=0\/m=1:=by omega
     rcases two with rfl | rfl
     ·have hat:atI [V.ref t1, .ref t2] 0=some (.ref t1):=rfl
      walk_at "vs"
      exact q _ _ _ B (pl.mono (by omega)) I1 ⟨⟨ln,mj.l,fun _=> .inl ⟨_,rfl,sn⟩⟩,⟨trivial,mj.i⟩,by show max 1 ra1.depth+1<=_;omega,⟨gn,mj.g⟩⟩
     ·have hat:atI [V.ref t1, .ref t2] 1=some (.ref t2):=rfl
      walk_at "vs"
      exact q _ _ _ B (pl.mono (by omega)) I2 ⟨⟨mj.l,ln,fun _=> .inr ⟨_,rfl,sn⟩⟩,⟨mj.i,trivial⟩,by show max ra1.depth 1+1<=_;omega,⟨mj.g,gn⟩⟩
    ·skip
     walk_at "vs"
     refine Ay (fun c2=> ?_) (fun c2=> ?_)
     ·walk_at "vs"
      intro z0 hz0
      have s_:=aq (.lst []) hz0
      have ez0:upd H1 z0 (.lst []) z0=some (.lst []):=ak
      replace B:=B.trans (But.of_same s_)
      replace el1:=s_ _ _ el1
      replace pl:=pl.same s_
      generalize upd H1 z0 (.lst [])=W8 at *
      clear s_
      cases hns:ns with
      | nil=>
        subst hns
        walk_at "vs"
        intro a1 ra1 W9 b_ st_ Ra1 mj
        replace B:=B.trans b_
        replace el1:=b_ _ _ (pl.off el1 (by simp)) el1
        replace ez0:=b_ _ _ (pl.off ez0 (by simp)) ez0
        replace pl:=st_
        clear b_
        have abi:=mj.d
        walk_at "vs"
        intro a2 ra2 W10 b_ st_ Ra2 yW
        replace B:=B.trans b_
        replace el1:=b_ _ _ (pl.off el1 (by simp)) el1
        replace ez0:=b_ _ _ (pl.off ez0 (by simp)) ez0
        replace Ra1:=Ra1.tups (pl.tups b_)
        replace pl:=st_
        clear b_
        have ahj:=yW.d
        walk_at "vs"
        refine Ay (fun c3=> ?_) (fun c3=> ?_)
        ·walk_at "vs"
         intro a3 ra3 W11 b_ st_ Ra3 IV
         replace B:=B.trans b_
         replace el1:=b_ _ _ (pl.off el1 (by simp)) el1
         replace ez0:=b_ _ _ (pl.off ez0 (by simp)) ez0
         replace Ra1:=Ra1.tups (pl.tups b_)
         replace Ra2:=Ra2.tups (pl.tups b_)
         replace pl:=st_
         clear b_
         have ahk:=IV.d
         walk_at "vs"
         intro p9 hp9
         have s_:=aq (.tup [.str "pick", .ref a1, .ref a2, .ref a3]) hp9
         have e9:upd W11 p9 (.tup [.str "pick", .ref a1, .ref a2, .ref a3]) p9=some (.tup [.str "pick", .ref a1, .ref a2, .ref a3]):=ak
         replace B:=B.trans (But.of_same s_)
         replace el1:=s_ _ _ el1
         replace ez0:=s_ _ _ ez0
         replace Ra1:=Ra1.same s_
         replace Ra2:=Ra2.same s_
         replace Ra3:=Ra3.same s_
         replace pl:=pl.same s_
         generalize upd W11 p9 (.tup [.str "pick", .ref a1, .ref a2, .ref a3])=W12 at *
         clear s_
         exact q _ _ _ B (pl.mono (by omega)) (.pick e9 Ra1 Ra2 Ra3) ⟨⟨mj.l,yW.l,IV.l⟩,⟨mj.i,yW.i,IV.i⟩,by show max ra1.depth (max ra2.depth ra3.depth)+1<=_;omega,⟨mj.g,yW.g,IV.g⟩⟩
        ·have c3':¬kind<5:=by simpa using c3
         obtain⟨op,hop,hat⟩:∃op:Op,op≠ .times/\atI [V.str "plus",V.str "minus",V.str "most",V.str "plus"] (kind - 5)=some (.str op.word):=by
          have hm:kind - 5=0\/kind - 5=1\/kind - 5=2\/kind - 5=3:=by omega
          rcases hm with hm | hm | hm | hm
          ·rw[hm];exact⟨.plus,by decide,rfl⟩
          ·rw[hm];exact⟨.minus,by decide,rfl⟩
          ·rw[hm];exact⟨.most,by decide,rfl⟩
          ·rw[hm];exact⟨.plus,by decide,rfl⟩
         walk_at "vs"
         intro lz hlz
         have s_:=aq (.lst [.str "plus", .str "minus", .str "most", .str "plus"]) hlz
         have elz:upd W10 lz (.lst [.str "plus", .str "minus", .str "most", .str "plus"]) lz=some (.lst [.str "plus", .str "minus", .str "most", .str "plus"]):=ak
         replace B:=B.trans (But.of_same s_)
         replace el1:=s_ _ _ el1
         replace ez0:=s_ _ _ ez0
         replace Ra1:=Ra1.same s_
         replace Ra2:=Ra2.same s_
         replace pl:=pl.same s_
         generalize upd W10 lz (.lst [.str "plus", .str "minus", .str "most", .str "plus"])=W13 at *
         clear s_
         walk_at "vs"
         intro p9 hp9
         have s_:=aq (.tup [.str op.word, .ref a1, .ref a2]) hp9
         have e9:upd W13 p9 (.tup [.str op.word, .ref a1, .ref a2]) p9=some (.tup [.str op.word, .ref a1, .ref a2]):=ak
         replace B:=B.trans (But.of_same s_)
         replace el1:=s_ _ _ el1
         replace ez0:=s_ _ _ ez0
         replace Ra1:=Ra1.same s_
         replace Ra2:=Ra2.same s_
         replace elz:=s_ _ _ elz
         replace pl:=pl.same s_
         generalize upd W13 p9 (.tup [.str op.word, .ref a1, .ref a2])=W14 at *
         clear s_
         exact q _ _ _ B (pl.mono (by omega)) (.bin e9 Ra1 Ra2) ⟨⟨mj.l,yW.l,fun z=>absurd z hop⟩,⟨mj.i,yW.i⟩,by show max ra1.depth ra2.depth+1<=_;omega,⟨mj.g,yW.g⟩⟩
      | cons y ys=>
        have hlm:(ns.map V.str).length=ns.length:=List.length_map _
        have hl0:0<((ns.map V.str).length:Int):=by rw[hlm,hns];show(0:Int)<((ys.length+1:Nat):Int);omega
        have hlog:((ns.map V.str).length:Int).natAbs.log2<9000:=by
         rw[hlm]
         exact Nat.lt_of_le_of_lt (Nat.log2_le_self _) (by rw[Int.natAbs_natCast];omega)
        have hne:(ns.map V.str).isEmpty=false:=by rw[hns];rfl
        walk_at "vs"
        rw[hne]
        walk_at "vs"
        intro n9 W15 n90 n91 b_ st_
        replace B:=B.trans b_
        replace el1:=b_ _ _ (pl.off el1 (by simp)) el1
        replace ez0:=b_ _ _ (pl.off ez0 (by simp)) ez0
        replace pl:=st_
        clear b_
        walk_at "vs"
        intro D hD
        have nD:D∉[p]:=fun z=>pl.ne hD (by simpa using z)
        have nDp:D≠p:=by simpa using nD
        have hD0:=DY B hD nD
        refine Dr (fun i σ' H'=>(∃t,σ'=t::[some (.ref l),some (.ref p)])/\∃ts:List Str,H' D=some (.lst (ts.map V.str))/\ts.length=i/\(∀x∈ts,x∈ns)/\But [p] H H'/\lq H' p (c+1+1+i)) ?_ ?_ ?_
        ·exact⟨⟨none,rfl⟩,[],ak,rfl,by simp,B.upd _ hD0,pl.same (aq _ hD)⟩
        ·intro i σ' H' hi hP
         obtain⟨⟨t,rfl⟩,ts,e,et',ho,hb,hpl⟩:=hP
         have elH:=hb _ _ nlp el
         have hi9:(i:Int)<10:=by omega
         walk_at "vs"
         intro n6 H5 n60 n61 b5 pl5
         have hb5:=hb.trans b5
         have el5:=hb5 _ _ nlp el
         have e5:=b5 _ _ nD e
         obtain⟨x,hx,hxm⟩:∃x,atI (ns.map V.str) n6=some (.str x)/\x∈ns:=by
          obtain⟨j,rfl⟩:=Int.eq_ofNat_of_zero_le n60
          have hj:j<ns.length:=by rw[hlm] at n61;omega
          exact⟨ns[j],lH (by rw[List.getElem?_map,List.getElem?_eq_getElem hj];rfl),List.getElem_mem hj⟩
         have hz:(ts.map V.str).length<sizeLine:=by rw[List.length_map];exact bG (by omega)
         walk_at "vs"
         refine⟨⟨_,rfl⟩,ts++[x], ?_,by rw[List.length_append,et'];rfl, ?_,hb5.upd _ hD0,pl5.keep (But.set _ (by simp)) (S:=[D]) (by simpa using Ne.symm nDp)⟩
         ·rw[List.map_append];exact ak
         ·intro y hy
          rcases List.mem_append.mp hy with z | z
          ·exact ho y z
          ·have:y=x:=by simpa using z
           rw[this];exact hxm
        ·intro σ' H' hP
         obtain⟨_,ts,e,et',ho,hb,hpl⟩:=hP
         clear B pl el1 ez0
         have B:=hb
         have pl:=hpl
         have el1:=hb _ _ nlp el
         clear hb hpl
         walk_at "vs"
         intro pt hpt
         have s_:=aq (.tup (ts.map V.str)) hpt
         have ept:upd H' pt (.tup (ts.map V.str)) pt=some (.tup (ts.map V.str)):=ak
         replace B:=B.trans (But.of_same s_)
         replace el1:=s_ _ _ el1
         replace pl:=pl.same s_
         generalize upd H' pt (.tup (ts.map V.str))=W16 at *
         clear s_
         walk_at "vs"
         intro a1 ra1 W17 b_ st_ Ra1 mj
         replace B:=B.trans b_
         replace el1:=b_ _ _ (pl.off el1 (by simp)) el1
         replace ept:=b_ _ _ (pl.off ept (by simp)) ept
         replace pl:=st_
         clear b_
         have abi:=mj.d
         walk_at "vs"
         intro p9 hp9
         have s_:=aq (.tup [.str "choose", .ref a1, .ref pt]) hp9
         have e9:upd W17 p9 (.tup [.str "choose", .ref a1, .ref pt]) p9=some (.tup [.str "choose", .ref a1, .ref pt]):=ak
         replace B:=B.trans (But.of_same s_)
         replace el1:=s_ _ _ el1
         replace ept:=s_ _ _ ept
         replace Ra1:=Ra1.same s_
         replace pl:=pl.same s_
         generalize upd W17 p9 (.tup [.str "choose", .ref a1, .ref pt])=W18 at *
         clear s_
         exact q _ _ _ B (pl.mono (by omega)) (.cho e9 Ra1 ept) ⟨⟨mj.l,by omega⟩,⟨mj.i,ho⟩,by show ra1.depth+1<=_;omega,⟨mj.g,by omega,by omega,fun x hx=>hg x (ho x hx)⟩⟩
     ·walk_at "vs"
      intro a1 ra1 W19 b_ st_ Ra1 mj
      replace B:=B.trans b_
      replace el1:=b_ _ _ (pl.off el1 (by simp)) el1
      replace pl:=st_
      clear b_
      have abi:=mj.d
      walk_at "vs"
      intro a2 ra2 W20 b_ st_ Ra2 yW
      replace B:=B.trans b_
      replace el1:=b_ _ _ (pl.off el1 (by simp)) el1
      replace Ra1:=Ra1.tups (pl.tups b_)
      replace pl:=st_
      clear b_
      have ahj:=yW.d
      walk_at "vs"
      refine Ay (fun c3=> ?_) (fun c3=> ?_)
      ·walk_at "vs"
       intro a3 ra3 W21 b_ st_ Ra3 IV
       replace B:=B.trans b_
       replace el1:=b_ _ _ (pl.off el1 (by simp)) el1
       replace Ra1:=Ra1.tups (pl.tups b_)
       replace Ra2:=Ra2.tups (pl.tups b_)
       replace pl:=st_
       clear b_
       have ahk:=IV.d
       walk_at "vs"
       intro p9 hp9
       have s_:=aq (.tup [.str "pick", .ref a1, .ref a2, .ref a3]) hp9
       have e9:upd W21 p9 (.tup [.str "pick", .ref a1, .ref a2, .ref a3]) p9=some (.tup [.str "pick", .ref a1, .ref a2, .ref a3]):=ak
       replace B:=B.trans (But.of_same s_)
       replace el1:=s_ _ _ el1
       replace Ra1:=Ra1.same s_
       replace Ra2:=Ra2.same s_
       replace Ra3:=Ra3.same s_
       replace pl:=pl.same s_
       generalize upd W21 p9 (.tup [.str "pick", .ref a1, .ref a2, .ref a3])=W22 at *
       clear s_
       exact q _ _ _ B (pl.mono (by omega)) (.pick e9 Ra1 Ra2 Ra3) ⟨⟨mj.l,yW.l,IV.l⟩,⟨mj.i,yW.i,IV.i⟩,by show max ra1.depth (max ra2.depth ra3.depth)+1<=_;omega,⟨mj.g,yW.g,IV.g⟩⟩
      ·have c3':¬kind<5:=by simpa using c3
       obtain⟨op,hop,hat⟩:∃op:Op,op≠ .times/\atI [V.str "plus",V.str "minus",V.str "most",V.str "plus"] (kind - 5)=some (.str op.word):=by
        have hm:kind - 5=0\/kind - 5=1\/kind - 5=2\/kind - 5=3:=by omega
        rcases hm with hm | hm | hm | hm
        ·rw[hm];exact⟨.plus,by decide,rfl⟩
        ·rw[hm];exact⟨.minus,by decide,rfl⟩
        ·rw[hm];exact⟨.most,by decide,rfl⟩
        ·rw[hm];exact⟨.plus,by decide,rfl⟩
       walk_at "vs"
       intro lz hlz
       have s_:=aq (.lst [.str "plus", .str "minus", .str "most", .str "plus"]) hlz
       have elz:upd W20 lz (.lst [.str "plus", .str "minus", .str "most", .str "plus"]) lz=some (.lst [.str "plus", .str "minus", .str "most", .str "plus"]):=ak
       replace B:=B.trans (But.of_same s_)
       replace el1:=s_ _ _ el1
       replace Ra1:=Ra1.same s_
       replace Ra2:=Ra2.same s_
       replace pl:=pl.same s_
       generalize upd W20 lz (.lst [.str "plus", .str "minus", .str "most", .str "plus"])=W23 at *
       clear s_
       walk_at "vs"
       intro p9 hp9
       have s_:=aq (.tup [.str op.word, .ref a1, .ref a2]) hp9
       have e9:upd W23 p9 (.tup [.str op.word, .ref a1, .ref a2]) p9=some (.tup [.str op.word, .ref a1, .ref a2]):=ak
       replace B:=B.trans (But.of_same s_)
       replace el1:=s_ _ _ el1
       replace Ra1:=Ra1.same s_
       replace Ra2:=Ra2.same s_
       replace elz:=s_ _ _ elz
       replace pl:=pl.same s_
       generalize upd W23 p9 (.tup [.str op.word, .ref a1, .ref a2])=W24 at *
       clear s_
       exact q _ _ _ B (pl.mono (by omega)) (.bin e9 Ra1 Ra2) ⟨⟨mj.l,yW.l,fun z=>absurd z hop⟩,⟨mj.i,yW.i⟩,by show max ra1.depth ra2.depth+1<=_;omega,⟨mj.g,yW.g⟩⟩
theorem yg {f g0 g1:Addr}{fd gd0 gd1:FuncData} (aK:FnT K mg "_law_recipe" aH ["state","some","deep"] f fd)
 (aA:FnT K mg "_law_take" cM ["state","many"] g0 gd0) (bA:aY P w K mg base CX0 1 g0 gd0 ["state","many"] Ce)
 (fG:FnT K mg "_law_leaf" fD ["state","some"] g1 gd1) (lC:aY P w K mg base CX0 3 g1 gd1 ["state","some"] Oz) (T:Blt mg):∀d,aY P w K mg base CX0 (d+4) f fd ["state","some","deep"] (TY d)
 | 0=>uN aK aA bA fG lC (never fun vs H Q E h=>h) T
 | d+1=>uN aK aA bA fG lC (yg aK aA bA fG lC T d) T
theorem Fq {f g0 g1:Addr}{fd gd0 gd1:FuncData} (aK:FnT K mg "_law_recipe" aH ["state","some","deep"] f fd)
 (aA:FnT K mg "_law_take" cM ["state","many"] g0 gd0) (bA:aY P w K mg base CX0 1 g0 gd0 ["state","many"] Ce)
 (fG:FnT K mg "_law_leaf" fD ["state","some"] g1 gd1) (lC:aY P w K mg base CX0 3 g1 gd1 ["state","some"] Oz) (T:Blt mg):aY P w K mg base CX0 7 f fd ["state","some","deep"] Yx:=by
 have ok:=yg aK aA bA fG lC T
 refine⟨fun vs H Q E h=> ?_,fun A outer s H args us vs Q E hr he hb hv hs=> ?_⟩
 ·obtain⟨p,l,c,ns,deep,rfl,_⟩:=h
  rfl
 ·obtain⟨p,l,c,ns,deep,rfl,h0,h4,hp,hc,el,hn,hg,q⟩:=hs
  obtain⟨d,rfl⟩:=Int.eq_ofNat_of_zero_le h0
  have hd:d=0\/d=1\/d=2\/d=3:=by omega
  have ht:MN d<=290:=by rcases hd with rfl | rfl | rfl | rfl<;>decide
  exact((ok d).mono (by omega)).run A outer s H args us _ Q E hr he hb hv ⟨p,l,c,ns,_,rfl,rfl,by omega,hp,by omega,el,hn,hg,fun a r H' b pl R o=>q a r H' b (pl.mono (by omega)) R ⟨o.l,o.i,by have:=o.d;omega,o.g⟩⟩
end
section
variable {P:Program}{w:World}{K:PySem.W.Frag}{mg:Str->Option Value}{base:Heap}
abbrev gK:Stmt:=top 27
theorem zZ:bL ["some"] [] (aa gK):=⟨rfl,rfl,rfl,by decide +kernel,rfl,by decide +kernel,by decide +kernel⟩
theorem Aa:Loc (aa gK) "some":=by decide +kernel
theorem Ab:aG (aa gK) "some":=by decide +kernel
theorem IW {f:Addr}{fd:FuncData} (eF:FnT K mg "_law_names" gK [] f fd) (T:Blt mg):aY P w K mg base CX0 1 f fd [] T3:=by
 refine eF.F.okQ zZ (fun vs H Q E h=> ?_) (fun cdv A outer s H vs Q E hr h=> ?_)
 ·obtain⟨rfl,_⟩:=h
  rfl
 obtain⟨rfl,q⟩:=h
 refine⟨_,(az (bW (i:=0) zZ.nd rfl Aa (fW (fM aV (fM aV (fM aV (fM aV (fM aV (fM aV (fM aV (fM aV (fM aV (fM aV (fM aV (fM aV (fM aV (fM aV au))))))))))))))))
  (aC (bY (bM wZ (aj 0 Ab) (fW (fM aV (fM aV (fM aV (fM aV au))))))))), ?_⟩
 walk_at "vs"
 intro l1 h1
 have s1:=aq (.lst [V.str "a", .str "b", .str "ab", .str "ba", .str "aa", .str "read", .str "plus", .str "zz", .str "number", .str "pick", .str "z", .str "abcdefgh", .str "most", .str "given"]) h1
 have e1:upd H l1 (.lst [V.str "a", .str "b", .str "ab", .str "ba", .str "aa", .str "read", .str "plus", .str "zz", .str "number", .str "pick", .str "z", .str "abcdefgh", .str "most", .str "given"]) l1=some (.lst [V.str "a", .str "b", .str "ab", .str "ba", .str "aa", .str "read", .str "plus", .str "zz", .str "number", .str "pick", .str "z", .str "abcdefgh", .str "most", .str "given"]):=ak
 generalize upd H l1 (.lst [V.str "a", .str "b", .str "ab", .str "ba", .str "aa", .str "read", .str "plus", .str "zz", .str "number", .str "pick", .str "z", .str "abcdefgh", .str "most", .str "given"])=H1 at *
 walk_at "vs"
 intro l2 h2
 have s2:=aq (.lst [V.str "c", .str "aaaaaaaa", .str "times", .str "choose"]) h2
 have e2:upd H1 l2 (.lst [V.str "c", .str "aaaaaaaa", .str "times", .str "choose"]) l2=some (.lst [V.str "c", .str "aaaaaaaa", .str "times", .str "choose"]):=ak
 replace e1:=s2 _ _ e1
 generalize upd H1 l2 (.lst [V.str "c", .str "aaaaaaaa", .str "times", .str "choose"])=H2 at *
 walk_at "vs"
 intro l3 h3
 exact q l3 _ (s1.trans (s2.trans (aq _ h3))) (same_none (s1.trans s2) h3) ak
end
section
variable {P:Program}{w:World}{K:PySem.W.Frag}{mg:Str->Option Value}{base:Heap}{CM CNo CRi:Addr}
abbrev bK:Stmt:=top 29
theorem iG:bL ["house","name","found"] ["house","name"] (aa bK):=⟨rfl,rfl,rfl,by decide +kernel,rfl,by decide +kernel,by decide +kernel⟩
theorem jg:Loc (aa bK) "found":=by decide +kernel
theorem pX:(aa bK).names.lookup ("worth_of":Str)=some NameKind.globalImplicit:=by decide +kernel
theorem uA:aG (aa bK) "name":=by decide +kernel
theorem sO:aG (aa bK) "house":=by decide +kernel
theorem pY:(("worth_of":Str)==("__debug__":Str))=false:=by decide +kernel
theorem pB:(aa bK).names.lookup ("MadeError":Str)=some NameKind.globalImplicit:=by decide +kernel
theorem pC:(("MadeError":Str)==("__debug__":Str))=false:=by decide +kernel
theorem sS:aG (aa bK) "found":=by decide +kernel
theorem Ac {f g0:Addr}{fd gd0:FuncData} (eG:FnT K mg "_law_worth_told" bK ["house","name"] f fd)
 (eN:PySem.W.exmOne K (.ref CNo) (.ref CM)=some true) (eR:PySem.W.exmOne K (.ref CRi) (.ref CM)=some true)
 (jP:FnT K mg "worth_of" gW ["house","name"] g0 gd0) (M5:aY P w K mg base (CXd P w) 17 g0 gd0 ["house","name"] (Kw CNo CRi))
 (pO:mg "MadeError"=some (.ref CM)) (T:Blt mg):aY P w K mg base CX0 18 f fd ["house","name"] Yy:=by
 refine eG.F.okQ iG (fun vs H Q E h=> ?_) (fun cdv A outer s H vs Q E hr h=> ?_)
 ·obtain⟨h,g,c,gs,cs,gv,rc,x,rfl,_⟩:=h
  rfl
 obtain⟨h,g,c,gs,cs,gv,rc,x,rfl,ho,hsf,q,qe⟩:=h
 have S:=iG
 have exc:∀e cls d H1,Qv CNo CRi e cls d H1->PySem.W.exmOne K cls (.ref CM)=some true:=fun e cls d H1 er=>by
  cases e with
  | no y=>rw[er.1];exact eN
  | ring zs=>rw[er.1];exact eR
 refine⟨_,(az (bW (i:=2) iG.nd rfl jg Az)
  (az (T6 rfl rfl rfl pB pO (fun pn xe E hX=>(aC (bW (i:=2) iG.nd rfl jg (vC (M5.mono (by omega)) hr pX jP.m jP.F.kp jP.b .nil hX (aP (aj 0 sO) (aP (aj 1 uA) au)) pY)))) (fun e=>(aC (bW (i:=2) iG.nd rfl jg Az))) pC)
  (aC (bY (aj 2 sS))))), ?_⟩
 walk_at "vs"
 refine⟨?_, ?_⟩
 ·intro v kn rmN od H1 s1 st ru hk
  walk_at "vs"
  exact q v kn rmN od H1 s1 st ru hk
 ·intro e cls d H1 he s1 er
  refine⟨exc e cls d H1 er, ?_⟩
  walk_at "vs"
  exact qe e H1 he s1
end
section
variable {P:Program}{w:World}{K:PySem.W.Frag}{mg:Str->Option Value}{base:Heap}
abbrev aD:Stmt:=top 28
theorem di:bL ["script","first","shape","many","given","recipes","names","k","name","state","some","cooked","j","at"] ["script","first"] (aa aD):=⟨rfl,rfl,rfl,by decide +kernel,rfl,by decide +kernel,by decide +kernel⟩
theorem yX:Loc (aa aD) "shape":=by decide +kernel
theorem uB:(aa aD).names.lookup ("_law_cell":Str)=some NameKind.globalImplicit:=by decide +kernel
theorem oR:aG (aa aD) "script":=by decide +kernel
theorem uC:(("_law_cell":Str)==("__debug__":Str))=false:=by decide +kernel
theorem Ad:Loc (aa aD) "many":=by decide +kernel
theorem ie:aG (aa aD) "shape":=by decide +kernel
theorem yZ:Loc (aa aD) "given":=by decide +kernel
theorem wG:Loc (aa aD) "recipes":=by decide +kernel
theorem za:Loc (aa aD) "names":=by decide +kernel
theorem qu:aG (aa aD) "many":=by decide +kernel
theorem sU:(aa aD).names.lookup ("_law_names":Str)=some NameKind.globalImplicit:=by decide +kernel
theorem sV:(("_law_names":Str)==("__debug__":Str))=false:=by decide +kernel
theorem uD:(aa aD).names.lookup ("enumerate":Str)=some NameKind.globalImplicit:=by decide +kernel
theorem ig:aG (aa aD) "names":=by decide +kernel
theorem Ae:Loc (aa aD) "name":=by decide +kernel
theorem Ft:Loc (aa aD) "k":=by decide +kernel
theorem zb:Loc (aa aD) "state":=by decide +kernel
theorem sW:(aa aD).names.lookup ("_law_state":Str)=some NameKind.globalImplicit:=by decide +kernel
theorem zc:aG (aa aD) "first":=by decide +kernel
theorem jh:aG (aa aD) "k":=by decide +kernel
theorem sX:(("_law_state":Str)==("__debug__":Str))=false:=by decide +kernel
theorem jr:(aa aD).names.lookup ("_law_take":Str)=some NameKind.globalImplicit:=by decide +kernel
theorem ir:aG (aa aD) "state":=by decide +kernel
theorem jt:(("_law_take":Str)==("__debug__":Str))=false:=by decide +kernel
theorem pZ:aG (aa aD) "given":=by decide +kernel
theorem jH:aG (aa aD) "name":=by decide +kernel
theorem qQ:(aa aD).names.lookup ("_law_number":Str)=some NameKind.globalImplicit:=by decide +kernel
theorem qR:(("_law_number":Str)==("__debug__":Str))=false:=by decide +kernel
theorem Af:Loc (aa aD) "some":=by decide +kernel
theorem cY:aG (aa aD) "recipes":=by decide +kernel
theorem qT:(aa aD).names.lookup ("_law_recipe":Str)=some NameKind.globalImplicit:=by decide +kernel
theorem lW:aG (aa aD) "some":=by decide +kernel
theorem qU:(("_law_recipe":Str)==("__debug__":Str))=false:=by decide +kernel
theorem mV:(aa aD).names.lookup ("len":Str)=some NameKind.globalImplicit:=by decide +kernel
theorem mW:("len":Str)≠"__name__":=by decide +kernel
theorem mX:(("len":Str)==("__debug__":Str))=false:=by decide +kernel
theorem yc:Loc (aa aD) "cooked":=by decide +kernel
theorem Ag:(aa aD).names.lookup ("list":Str)=some NameKind.globalImplicit:=by decide +kernel
theorem Ah:("list":Str)≠"__name__":=by decide +kernel
theorem Ai:(("list":Str)==("__debug__":Str))=false:=by decide +kernel
theorem zf:(aa aD).names.lookup ("range":Str)=some NameKind.globalImplicit:=by decide +kernel
theorem Bu:(aa aD).names.lookup ("min":Str)=some NameKind.globalImplicit:=by decide +kernel
theorem iK:aG (aa aD) "cooked":=by decide +kernel
theorem Bv:("min":Str)≠"__name__":=by decide +kernel
theorem Bw:(("min":Str)==("__debug__":Str))=false:=by decide +kernel
theorem Fv:Loc (aa aD) "j":=by decide +kernel
theorem CQ:Loc (aa aD) "at":=by decide +kernel
theorem wH:aG (aa aD) "j":=by decide +kernel
theorem uO:aG (aa aD) "at":=by decide +kernel
theorem Ja {f g0 g1 g2 g3 g4 g5:Addr}{fd gd0 gd1 gd2 gd3 gd4 gd5:FuncData} (jl:FnT K mg "_law_house" aD ["script","first"] f fd)
 (dG:FnT K mg "_law_cell" gY ["script","k"] g0 gd0) (uy:aY P w K mg base CX0 1 g0 gd0 ["script","k"] (Io K))
 (d9:FnT K mg "_law_state" fY ["script","k"] g1 gd1) (wI:aY P w K mg base CX0 2 g1 gd1 ["script","k"] (Tz K))
 (aA:FnT K mg "_law_take" cM ["state","many"] g2 gd2) (bA:aY P w K mg base CX0 1 g2 gd2 ["state","many"] Ce)
 (dh:FnT K mg "_law_number" dU ["state"] g3 gd3) (uz:aY P w K mg base CX0 2 g3 gd3 ["state"] TX)
 (aK:FnT K mg "_law_recipe" aH ["state","some","deep"] g4 gd4) (jq:aY P w K mg base CX0 7 g4 gd4 ["state","some","deep"] Yx)
 (eF:FnT K mg "_law_names" gK [] g5 gd5) (wJ:aY P w K mg base CX0 1 g5 gd5 [] T3)
 (T:Blt mg):aY P w K mg base CX0 8 f fd ["script","first"] (Yz K):=by
 refine jl.F.okQ di (fun vs H Q E h=> ?_) (fun cdv A outer s H vs Q E hr h=> ?_)
 ·obtain⟨a,zs,start,rfl,_⟩:=h
  rfl
 obtain⟨a,zs,start,rfl,hS,h0,h10,q⟩:=h
 refine⟨_,(az (bW (i:=2) di.nd rfl yX (bM pJ (bN (uy.mono (by omega)) hr uB dG.m dG.F.kp dG.b .nil cJ (aP (aj 0 oR) (fM aB au)) uC) aB))
  (az (bW (i:=3) di.nd rfl Ad (bM jF aB (bM jT (aj 2 ie) aB)))
  (az (bW (i:=4) di.nd rfl yZ iU)
  (az (bW (i:=5) di.nd rfl wG iU)
  (az (bW (i:=6) di.nd rfl za (vp vz (JH (wJ.mono (by omega)) hr sU eF.m eF.F.kp eF.b .nil cJ sV) zq (zu (aj 3 qu))))
  (az (Bc PassesOwn.never rfl (Wh uD T.JP (aP (aj 6 ig) au)) (LR rfl (pI (mZ (i:=7) di.nd rfl Ft) (pI (mZ (i:=8) di.nd rfl Ae) Hw))) (az (bW (i:=9) di.nd rfl zb (bN (wI.mono (by omega)) hr sW d9.m d9.F.kp d9.b .nil cJ (aP (aj 0 oR) (vB (bM jF (aj 1 zc) (aj 7 jh)) au)) sX))
  (aC (fJ (Lz (Gz (cW gF (bN (bA.mono (by omega)) hr jr aA.m aA.F.kp aA.b .nil cJ (aP (aj 9 ir) (fM aB au)) jt) aB (bH _)) (Dv (cW gF (aj 7 jh) aB (bH _))))) (aC (jQ (dZ hr) (aj 4 pZ) (aj 8 jH) (bN (uz.mono (by omega)) hr qQ dh.m dh.F.kp dh.b .nil cJ (aP (aj 9 ir) au) qR))) (az (bW (i:=10) di.nd rfl Af (cg eX (fW (lZ (vp vz (aj 6 ig) zq (zu (aj 7 jh))) (lZ (vp vz (aj 6 ig) zq (zu (aj 7 jh))) (lZ (vp vz (aj 6 ig) zq (zu (aj 7 jh))) (vB (bM wZ (aj 6 ig) (fW (fM aV au))) au))))) (bM jT (bM pJ (aj 2 ie) aB) aB)))
  (az (jQ (dZ hr) (aj 5 cY) (aj 8 jH) (bN (jq.mono (by omega)) hr qT aK.m aK.F.kp aK.b .nil cJ (aP (aj 9 ir) (aP (aj 10 lW) (vB (bM jF aB (bN (bA.mono (by omega)) hr jr aA.m aA.F.kp aA.b .nil cJ (aP (aj 9 ir) (fM aB au)) jt)) au))) qU))
  (aC (fJ (cW gF (aj 7 jh) (bM jF aB (bM jT (bM pJ (aj 2 ie) aB) (aj 3 qu))) (bH _)) (aC (jQ (dZ hr) (aj 5 cY) (aj 8 jH) (jm (fM aV (Mg (jm (fM aV (lZ (cg eX (aj 10 lW) (bN (bA.mono (by omega)) hr jr aA.m aA.F.kp aA.b .nil cJ (aP (aj 9 ir) (uP (cX gM mV T.uL nZ (aP (aj 10 lW) au) mW mX) au)) jt)) au))) (lZ (fV (dZ hr) (aj 5 cY) (aj 8 jH)) au)))))) cZ))))))))
  (az (bW (i:=11) di.nd rfl yc (lD (DX rfl) Ag T.vA qd (aP (aj 5 cY) au) Ah Ai))
  (az (Bc PassesOwn.never rfl (Bb zf T.Hz (uP (cX (VN rfl) Bu T.adF aaq (vB (bM jT (bM pJ (aj 2 ie) aB) aB) (vB (bM jR (cX gM mV T.uL nZ (aP (aj 11 iK) au) mW mX) aB) au)) Bv Bw) au)) (mZ (i:=12) di.nd rfl Fv) (az (bW (i:=13) di.nd rfl CQ (bM jR (bM jR (cX gM mV T.uL nZ (aP (aj 11 iK) au) mW mX) aB) (aj 12 wH)))
  (aC (jQ (dZ hr) (aj 5 cY) (cg eX (aj 11 iK) (aj 13 uO)) (fV (dZ hr) (aj 5 cY) (cg eX (aj 11 iK) (bM jT (bM jF (bM pJ (aj 2 ie) aB) (bM oV aB (aj 12 wH))) (aj 13 uO))))))))
  (aC (bY (jm (aP (aj 4 pZ) (aP (aj 5 cY) au))))))))))))), ?_⟩
 walk_at "vs"
 intro n0
 have hm0:=Int.emod_nonneg (n0 / 2) (show(13:Int)≠0 by decide)
 have hm8:=Int.emod_lt_of_pos (n0 / 2) (show(0:Int)<13 by decide)
 obtain⟨m,hm⟩:∃m:Nat,(m:Int)=2+n0 / 2 % 13:=⟨(2+n0 / 2 % 13).toNat,by omega⟩
 have m2:2<=m/\m<=14:=by omega
 walk_at "vs"
 intro g hg0
 have s1:=aq (.dK []) hg0
 have e1:upd H g (.dK []) g=some (.dK []):=ak
 generalize upd H g (.dK [])=H1 at *
 walk_at "vs"
 intro c hc
 have hc0:=same_none s1 hc
 have ngc:g≠c:=fun z=>by rw[z,hc] at e1;cases e1
 have s2:=aq (.dK []) hc
 have e2:upd H1 c (.dK []) c=some (.dK []):=ak
 replace e1:=s2 _ _ e1
 replace s1:=s1.trans s2
 generalize upd H1 c (.dK [])=H2 at *
 walk_at "vs"
 intro l0 H3 s3 hl0 el0
 replace e1:=s3 _ _ e1
 replace e2:=s3 _ _ e2
 replace s1:=s1.trans s3
 have hcut:Cj (dW.map V.str) none (some (2+n0 / 2 % 13))=(dW.take m).map V.str:=by rw[<-hm,RW,List.map_take]
 walk_at "vs"
 rw[hcut]
 intro nl hnl
 have s4:=aq (.lst ((dW.take m).map V.str)) hnl
 have enl:upd H3 nl (.lst ((dW.take m).map V.str)) nl=some (.lst ((dW.take m).map V.str)):=ak
 replace e1:=s4 _ _ e1
 replace e2:=s4 _ _ e2
 replace s1:=s1.trans s4
 generalize upd H3 nl (.lst ((dW.take m).map V.str))=H4 at *
 have hrl:(dW.take m).length=m:=by rw[List.length_take,show dW.length=18 from rfl];omega
 have hnd:(dW.take m).Nodup:=Ws.sublist (List.take_sublist _ _)
 walk_at "vs"
 refine Sq (xs:=(dW.take m).map V.str) (fun j σ' H'=>Wr (∃(t7 t8 t9 t10:Option V) (gs cs:List Str) (gv:Kn) (rc:Rn),σ'=[some (.ref a),some (.int start),some (.int (n0 / 2)),some (.int (2+n0 / 2 % 13)),some (.ref g),some (.ref c),some (.ref nl),t7,t8,t9,t10,none,none,none]/\aN H H'/\H' nl=some (.lst ((dW.take m).map V.str))/\HoI H' g c ((dW.take m).take j) gs cs gv rc/\(1<=j->("a":Str)∈gs))) ?_ ?_ ?_ ?_
 ·exact⟨⟨_,_,_,_,_,_,_,_,rfl,s1,enl,HoI.nil e1 e2 ngc,fun z=>absurd z (by decide)⟩⟩
 ·rintro j σ' H' _ ⟨⟨_,_,_,_,_,_,_,_,_,_,e,_⟩⟩
  exact SqL.of e
 ·rintro j v T σ' Z hv hT ⟨⟨t7,t8,t9,t10,gs,cs,gv,rc,rfl,SX,enl,hI,ha⟩⟩
  obtain⟨x,hxj,rfl⟩:∃x,(dW.take m)[j]? =some x/\v=V.str x:=by
   rw[List.getElem?_map] at hv
   cases e:(dW.take m)[j]? with
   | none=>rw[e] at hv;cases hv
   | some x=>rw[e] at hv;exact⟨x,rfl,(Option.some.inj hv).symm⟩
  have hj:j<m:=by rw[<-hrl];exact(List.getElem?_eq_some_iff.mp hxj).1
  have hxn:x∉(dW.take m).take j:=Om hnd hxj (Nat.le_refl _)
  have hkl:((dW.take m).take j).length<=50:=by rw[List.length_take];omega
  have hst:(dW.take m).take (j+1)=(dW.take m).take j++[x]:=by rw[List.take_add_one,hxj];rfl
  have s_:=aq (.tup [.int (j:Int), .str x]) hT
  have eT:upd Z T (.tup [.int (j:Int), .str x]) T=some (.tup [.int (j:Int), .str x]):=ak
  replace enl:=s_ _ _ enl
  replace hI:=hI.same s_
  replace SX:=SX.trans s_
  generalize upd Z T (.tup [.int (j:Int), .str x])=Z1 at *
  clear s_
  have hS1:=SqL.same SX hS
  walk_at "vs"
  intro p Z2 s2 hp2 st
  have S1:aN Z1 Z2:=s2
  have hp0:H p=none:=same_none SX hp2
  obtain⟨⟨kg9,eg9⟩,⟨kc9,ec9⟩⟩:=hI.dk
  have npc:p≠c:=fun z=>by rw[<-z,hp2] at ec9;cases ec9
  have npg:p≠g:=fun z=>by rw[<-z,hp2] at eg9;cases eg9
  have nlg:nl∉[g]:=fun z=>by rw[show nl=g by simpa using z,eg9] at enl;cases enl
  have nlc:nl∉[c]:=fun z=>by rw[show nl=c by simpa using z,ec9] at enl;cases enl
  have hpS:∀z∈[p],Z1 z=none:=fun z hz=>by rw[show z=p by simpa using hz];exact hp2
  have hgS:∀z∈[g],H z=none:=fun z hz=>by rw[show z=g by simpa using hz];exact hg0
  have hcS:∀z∈[c],H z=none:=fun z hz=>by rw[show z=c by simpa using hz];exact hc0
  have ha0:j=0->x=("a":Str):=fun z=>by
   subst z
   rw[List.getElem?_take_of_lt (by omega)] at hxj
   exact(Option.some.inj hxj).symm
  walk_at "vs"
  intro t Z3 t0 t1 b3 st3
  have S3:=d7 S1 hpS b3
  clear b3 st S1 s2
  walk_at "vs"
  refine Ay (fun c1=> ?_) (fun c1=> ?_)
  ·walk_at "vs"
   intro n Z4 hb b4 st4
   have S4:=d7 S3 hpS b4
   obtain⟨Z5,dp,b5,t5,hI5⟩:=(hI.same S4).Wl hkl (v:=n) hxn hb
   walk_at "vs"
   exact⟨⟨_,_,_,_,_,_,_,_,rfl,d7 (SX.trans S4) hgS b5,b5 _ _ nlg (S4 _ _ enl),by rw[hst];exact hI5,fun _=>by
    by_cases z:j=0
    ·rw[ha0 z];simp
    ·exact List.mem_append_left _ (ha (by omega))⟩⟩
  ·walk_at "vs"
   refine Ay (fun c2=> ?_) (fun c2=> ?_)
   ·walk_at "vs"
    intro n Z4 hb b4 st4
    have S4:=d7 S3 hpS b4
    obtain⟨Z5,dp,b5,t5,hI5⟩:=(hI.same S4).Wl hkl (v:=n) hxn hb
    walk_at "vs"
    exact⟨⟨_,_,_,_,_,_,_,_,rfl,d7 (SX.trans S4) hgS b5,b5 _ _ nlg (S4 _ _ enl),by rw[hst];exact hI5,fun _=>by
     by_cases z:j=0
     ·rw[ha0 z];simp
     ·exact List.mem_append_left _ (ha (by omega))⟩⟩
   ·have hj0:¬j=0:=fun z=>c2 (by subst z;rfl)
    have hcj:Cj ((dW.take m).map V.str) none (some (j:Int))=((dW.take m).take j).map V.str:=by rw[RW,<-List.map_take]
    have en3:=S3 _ _ enl
    walk_at "vs"
    rw[hcj]
    intro l1 hl1
    have q1:=aq (.lst (((dW.take m).take j).map V.str)) hl1
    have el1:upd Z3 l1 (.lst (((dW.take m).take j).map V.str)) l1=some (.lst (((dW.take m).take j).map V.str)):=ak
    replace en3:=q1 _ _ en3
    replace st3:=st3.same q1
    replace S3:=S3.trans q1
    generalize upd Z3 l1 (.lst (((dW.take m).take j).map V.str))=Z4 at *
    walk_at "vs"
    rw[hcj]
    intro l2 hl2
    have q2:=aq (.lst (((dW.take m).take j).map V.str)) hl2
    have el2:upd Z4 l2 (.lst (((dW.take m).take j).map V.str)) l2=some (.lst (((dW.take m).take j).map V.str)):=ak
    replace en3:=q2 _ _ en3
    replace st3:=st3.same q2
    replace el1:=q2 _ _ el1
    replace S3:=S3.trans q2
    generalize upd Z4 l2 (.lst (((dW.take m).take j).map V.str))=Z5 at *
    walk_at "vs"
    rw[hcj]
    intro l3 hl3
    have q3:=aq (.lst (((dW.take m).take j).map V.str)) hl3
    have el3:upd Z5 l3 (.lst (((dW.take m).take j).map V.str)) l3=some (.lst (((dW.take m).take j).map V.str)):=ak
    replace en3:=q3 _ _ en3
    replace st3:=st3.same q3
    replace el1:=q3 _ _ el1
    replace el2:=q3 _ _ el2
    replace S3:=S3.trans q3
    generalize upd Z5 l3 (.lst (((dW.take m).take j).map V.str))=Z6 at *
    clear q1 q2 q3
    walk_at "vs"
    intro l4 hl4
    have q4:=aq (.lst [.str "nowhere"]) hl4
    have el4:upd Z6 l4 (.lst [.str "nowhere"]) l4=some (.lst [.str "nowhere"]):=ak
    replace en3:=q4 _ _ en3
    replace st3:=st3.same q4
    replace el1:=q4 _ _ el1
    replace el2:=q4 _ _ el2
    replace el3:=q4 _ _ el3
    replace S3:=S3.trans q4
    generalize upd Z6 l4 (.lst [.str "nowhere"])=Z7 at *
    clear q4
    have hc2:((dW.take m).map V.str).length+[V.str "nowhere"].length<=sizeLine:=Nat.le_of_lt (bG (by rw[List.length_map,hrl];show _+1<=1000;omega))
    walk_at "vs"
    intro l5 hl5
    have q5:=aq (.lst ((dW.take m).map V.str++[.str "nowhere"])) hl5
    have el5:upd Z7 l5 (.lst ((dW.take m).map V.str++[.str "nowhere"])) l5=some (.lst ((dW.take m++(["nowhere"]:List Str)).map V.str)):=by rw[ak,List.map_append];rfl
    replace st3:=st3.same q5
    replace el1:=q5 _ _ el1
    replace el2:=q5 _ _ el2
    replace el3:=q5 _ _ el3
    replace S3:=S3.trans q5
    generalize upd Z7 l5 (.lst ((dW.take m).map V.str++[.str "nowhere"]))=Z8 at *
    clear q5 en3
    walk_at "vs"
    intro l6 hl6
    have q6:=aq (.lst [.ref l1, .ref l2, .ref l3, .ref l5]) hl6
    have el6:upd Z8 l6 (.lst [.ref l1, .ref l2, .ref l3, .ref l5]) l6=some (.lst [.ref l1, .ref l2, .ref l3, .ref l5]):=ak
    replace st3:=st3.same q6
    replace el1:=q6 _ _ el1
    replace el2:=q6 _ _ el2
    replace el3:=q6 _ _ el3
    replace el5:=q6 _ _ el5
    replace S3:=S3.trans q6
    generalize upd Z8 l6 (.lst [.ref l1, .ref l2, .ref l3, .ref l5])=Z9 at *
    clear q6
    obtain⟨sl,us,hat,esl,hin,hu1,hu2⟩:∃(sl:Addr) (us:List Str),atI [V.ref l1, .ref l2, .ref l3, .ref l5] (n0 / 2 / 13 % 4)=some (.ref sl)/\Z9 sl=some (.lst (us.map V.str))/\(∀y∈us,y∈FT)/\1<=us.length/\us.length<=20:=by
     have w0:=Int.emod_nonneg (n0 / 2 / 13) (show(4:Int)≠0 by decide)
     have w4:=Int.emod_lt_of_pos (n0 / 2 / 13) (show(0:Int)<4 by decide)
     have hw:n0 / 2 / 13 % 4=0\/n0 / 2 / 13 % 4=1\/n0 / 2 / 13 % 4=2\/n0 / 2 / 13 % 4=3:=by omega
     have hs:∀y∈(dW.take m).take j,y∈FT:=fun y hy=>List.mem_append_left _ (List.mem_of_mem_take (List.mem_of_mem_take hy))
     have hl:((dW.take m).take j).length=j:=by rw[List.length_take,hrl];omega
     rcases hw with hw | hw | hw | hw
     ·rw[hw];exact⟨l1,_,rfl,el1,hs,by omega,by omega⟩
     ·rw[hw];exact⟨l2,_,rfl,el2,hs,by omega,by omega⟩
     ·rw[hw];exact⟨l3,_,rfl,el3,hs,by omega,by omega⟩
     ·rw[hw]
      refine⟨l5,_,rfl,el5,fun y hy=> ?_, ?_, ?_⟩
      ·rcases List.mem_append.mp hy with z | z
       ·exact List.mem_append_left _ (List.mem_of_mem_take z)
       ·exact List.mem_append_right _ z
      ·rw[List.length_append,hrl];show 1<=m+1;omega
      ·rw[List.length_append,hrl];show m+1<=20;omega
    clear el1 el2 el3 el5
    have hug:∀y∈us,m8 y:=fun y hy=>MT y (hin y hy)
    walk_at "vs"
    intro d Za d0 d1 ba sta
    replace esl:=ba _ _ (st3.off esl (by simp)) esl
    have Sa:=d7 S3 hpS ba
    clear ba st3 S3
    walk_at "vs"
    intro b1 r Zb bb stb R1 hr1
    replace esl:=bb _ _ (sta.off esl (by simp)) esl
    have Sb:=d7 Sa hpS bb
    clear bb sta Sa
    have hIb:=hI.same Sb
    obtain⟨Zc,dp,bc,tc,hIc⟩:=hIb.rC hkl hxn R1 (hr1.ok hin)
    obtain⟨_,⟨kcb,ecb⟩⟩:=hIb.dk
    have nsc:sl∉[c]:=fun z=>by rw[show sl=c by simpa using z,ecb] at esl;cases esl
    replace esl:=bc _ _ nsc esl
    replace stb:=stb.keep bc (by simpa using npc)
    have Sc:=d7 (SX.trans Sb) hcS bc
    have enc:=bc _ _ nlc (Sb _ _ enl)
    have hxs:x∈cs++[x]:=by simp
    walk_at "vs"
    refine Ay (fun c3=> ?_) (fun c3=> ?_)
    ·have hlu:(us.map V.str).length=us.length:=List.length_map _
     have hlg:((((us.map V.str).length:Nat)):Int).natAbs.log2<9000:=Nat.lt_of_le_of_lt (Nat.log2_le_self _) (by rw[hlu,Int.natAbs_natCast];omega)
     have hm1:(0:Int)<(((us.map V.str).length:Nat):Int):=by rw[hlu];omega
     walk_at "vs"
     intro n Zd n0' n1' bd std
     obtain⟨y,hy,hyu⟩:=OD (us:=us) n0' (by rw[<-hlu];exact n1')
     replace esl:=bd _ _ (stb.off esl (by simp)) esl
     have hId:=hIc.keep bd (by simpa using Ne.symm npg) (by simpa using Ne.symm npc) (stb.tups bd)
     have Sd:=d7 Sc (fun z hz=>by rw[show z=p by simpa using hz];exact hp0) bd
     have end_:=bd _ _ (stb.off enc (by simp)) enc
     walk_at "vs"
     intro a1 ha1
     have q1:=aq (.tup [.str "read", .str y]) ha1
     have ea1:upd Zd a1 (.tup [.str "read", .str y]) a1=some (.tup [.str "read", .str y]):=ak
     replace hId:=hId.same q1
     replace Sd:=Sd.trans q1
     replace end_:=q1 _ _ end_
     generalize upd Zd a1 (.tup [.str "read", .str y])=Ze at *
     clear q1
     obtain⟨b2,r2,dg,R2,hr2⟩:=hId.get hxs
     have:r2=r:=by
      unfold Rn.put at hr2
      rw[if_pos rfl] at hr2;exact(Option.some.inj hr2).symm
     subst this
     walk_at "vs"
     intro a2 ha2
     have q2:=aq (.tup [.str "times", .ref a1, .ref b2]) ha2
     have ea2:upd Ze a2 (.tup [.str "times", .ref a1, .ref b2]) a2=some (.tup [.str "times", .ref a1, .ref b2]):=ak
     replace hId:=hId.same q2
     replace Sd:=Sd.trans q2
     replace end_:=q2 _ _ end_
     replace ea1:=q2 _ _ ea1
     replace R2:=R2.same q2
     generalize upd Ze a2 (.tup [.str "times", .ref a1, .ref b2])=Zf at *
     clear q2
     obtain⟨Zg,dp2,bg,tg,hIg⟩:=hId.ad2 (by rw[<-hst,List.length_take];omega) hxs (.bin (op:= .times) ea2 (.rd ea1) R2) (hr1.okT hin (hin y hyu))
     walk_at "vs"
     exact⟨⟨_,_,_,_,_,_,_,_,rfl,d7 Sd hcS bg,bg _ _ nlc end_,by rw[hst];exact hIg,fun _=>ha (by omega)⟩⟩
    ·walk_at "vs"
     exact⟨⟨_,_,_,_,_,_,_,_,rfl,Sc,enc,by rw[hst];exact hIc,fun _=>ha (by omega)⟩⟩
 ·rintro σ' H5 ⟨⟨t7,t8,t9,t10,gs,cs,gv,rc,rfl,SX,enl,hI,ha⟩⟩
  rw[List.length_map,hrl] at hI ha
  rw[List.take_of_length_le (by rw[hrl];exact Nat.le_refl _)] at hI
  have ha:("a":Str)∈gs:=ha (by omega)
  have hkl:(dW.take m).length<=50:=by omega
  obtain⟨kc,ec,kkc,_⟩:=hI.kc
  have hlc:cs.length<=14:=by have:=hI.l;omega
  have hlk:kc.map (fun kv=>kV kv.1)=cs.map V.str:=by
   have:=kkc.k
   rw[show(kc.map fun kv=>kV kv.1)=(kc.map (·.1)).map kV by rw[List.map_map];rfl,this,List.map_map];rfl
  walk_at "vs"
  rw[hlk]
  intro ck hck
  have q1:=aq (.lst (cs.map V.str)) hck
  have eck:upd H5 ck (.lst (cs.map V.str)) ck=some (.lst (cs.map V.str)):=ak
  replace hI:=hI.same q1
  replace SX:=SX.trans q1
  generalize upd H5 ck (.lst (cs.map V.str))=H6 at *
  clear q1 ec enl
  have hlm:(cs.map V.str).length=cs.length:=List.length_map _
  have w0:=Int.emod_nonneg (n0 / 2 / 700) (show(4:Int)≠0 by decide)
  have w4:=Int.emod_lt_of_pos (n0 / 2 / 700) (show(0:Int)<4 by decide)
  walk_at "vs"
  refine Pa (fun i σ' H'=>Wr (∃(t12 t13:Option V) (rc:Rn),σ'=[some (.ref a),some (.int start),some (.int (n0 / 2)),some (.int (2+n0 / 2 % 13)),some (.ref g),some (.ref c),some (.ref nl),t7,t8,t9,t10,some (.ref ck),t12,t13]/\aN H H'/\H' ck=some (.lst (cs.map V.str))/\HoI H' g c (dW.take m) gs cs gv rc)) ?_ ?_ ?_
  ·exact⟨⟨_,_,_,rfl,SX,eck,hI⟩⟩
  ·clear SX eck hI
   rintro i σ' Z hi ⟨⟨t12,t13,rc,rfl,SX,eck,hI⟩⟩
   have hi2:i+1<cs.length:=by
    rw[hlm] at hi
    split at hi<;>omega
   have ei:(0+(i:Int))=(i:Int):=by omega
   rw[ei]
   have hp1:(0:Int)<(((cs.map V.str).length:Nat):Int) - 1 - (i:Int):=by rw[hlm];omega
   have v0:=Int.emod_nonneg (n0 / 2 / 2800+3 *(i:Int)) (show(((cs.map V.str).length:Nat):Int) - 1 - (i:Int)≠0 by omega)
   have v1:=Int.emod_lt_of_pos (n0 / 2 / 2800+3 *(i:Int)) hp1
   obtain⟨xb,hxb,mxb⟩:=OD (us:=cs) v0 (by rw[<-hlm];omega)
   obtain⟨xa,hxa,mxa⟩:=OD (us:=cs) (n:=(((cs.map V.str).length:Nat):Int) - 1 - (i:Int)) (by omega) (by rw[<-hlm];omega)
   obtain⟨b2,r2,dg,R2,hr2⟩:=hI.get mxb
   obtain⟨Z2,dp,bb,tt,hI2⟩:=hI.ad2 hkl mxa R2 (hI.o xb r2 hr2)
   have m1:tH 3 (i:Int):= .inl ⟨by decide,by decide⟩
   obtain⟨_,⟨kcz,ecz⟩⟩:=hI.dk
   have ncc:ck∉[c]:=fun z=>by rw[show ck=c by simpa using z,ecz] at eck;cases eck
   walk_at "vs"
   exact⟨⟨_,_,_,rfl,d7 SX (fun z hz=>by rw[show z=c by simpa using hz];exact hc0) bb,bb _ _ ncc eck,hI2⟩⟩
  ·rintro σ' Z ⟨⟨t12,t13,rc,rfl,SX,eck,hI⟩⟩
   walk_at "vs"
   intro h hh
   have q1:=aq (.tup [.ref g, .ref c]) hh
   exact q h g c gs cs gv rc _ (SX.trans q1) (same_none SX hh) hg0 hc0 ngc ((hI.same q1).aa8 hkl ak) (hI.ho4 (fun x hx=>List.take_subset_take_left _ (by omega) hx) (by omega) ha)
end
section
variable {P:Program}{w:World}{K:PySem.W.Frag}{mg:Str->Option Value}{base:Heap}{CNo CRi:Addr}
abbrev dN:Stmt:=top 30
theorem lX:bL ["script","house","names","state","wishes","worths","records","order","some","found","together","name","other"] ["script"] (aa dN):=⟨rfl,rfl,rfl,by decide +kernel,rfl,by decide +kernel,by decide +kernel⟩
theorem Jb:Loc (aa dN) "house":=by decide +kernel
theorem Aj:(aa dN).names.lookup ("_law_house":Str)=some NameKind.globalImplicit:=by decide +kernel
theorem yh:aG (aa dN) "script":=by decide +kernel
theorem Ak:(("_law_house":Str)==("__debug__":Str))=false:=by decide +kernel
theorem Jc:Loc (aa dN) "names":=by decide +kernel
theorem uE:(("_law_worth_told":Str)==("__debug__":Str))=false:=by decide +kernel
theorem Al:(aa dN).names.lookup ("_law_names":Str)=some NameKind.globalImplicit:=by decide +kernel
theorem Am:(("_law_names":Str)==("__debug__":Str))=false:=by decide +kernel
theorem Jd:Loc (aa dN) "state":=by decide +kernel
theorem An:(aa dN).names.lookup ("_law_state":Str)=some NameKind.globalImplicit:=by decide +kernel
theorem Ao:(("_law_state":Str)==("__debug__":Str))=false:=by decide +kernel
theorem Gg:Loc (aa dN) "wishes":=by decide +kernel
theorem Je:(aa dN).names.lookup ("range":Str)=some NameKind.globalImplicit:=by decide +kernel
theorem Bx:(aa dN).names.lookup ("_law_take":Str)=some NameKind.globalImplicit:=by decide +kernel
theorem Jf:aG (aa dN) "state":=by decide +kernel
theorem sY:(("_law_take":Str)==("__debug__":Str))=false:=by decide +kernel
theorem M6:("len":Str)≠"__name__":=by decide +kernel
theorem M7:(("len":Str)==("__debug__":Str))=false:=by decide +kernel
theorem ju:(aa dN).names.lookup ("fresh_build":Str)=some NameKind.globalImplicit:=by decide +kernel
theorem wK:(aa dN).names.lookup ("list":Str)=some NameKind.globalImplicit:=by decide +kernel
theorem iJ:aG (aa dN) "wishes":=by decide +kernel
theorem wL:("list":Str)≠"__name__":=by decide +kernel
theorem wM:(("list":Str)==("__debug__":Str))=false:=by decide +kernel
theorem pD:aG (aa dN) "house":=by decide +kernel
theorem jw:(("fresh_build":Str)==("__debug__":Str))=false:=by decide +kernel
theorem Jg:Loc (aa dN) "order":=by decide +kernel
theorem Fw:Loc (aa dN) "records":=by decide +kernel
theorem Gh:Loc (aa dN) "worths":=by decide +kernel
theorem Aq:aG (aa dN) "order":=by decide +kernel
theorem m6:aG (aa dN) "worths":=by decide +kernel
theorem K9:Loc (aa dN) "some":=by decide +kernel
theorem Ar:Loc (aa dN) "found":=by decide +kernel
theorem La:aG (aa dN) "some":=by decide +kernel
theorem yj:(aa dN).names.lookup ("sorted":Str)=some NameKind.globalImplicit:=by decide +kernel
theorem jx:aG (aa dN) "found":=by decide +kernel
theorem yl:("sorted":Str)≠"__name__":=by decide +kernel
theorem ym:(("sorted":Str)==("__debug__":Str))=false:=by decide +kernel
theorem wN:aG (aa dN) "records":=by decide +kernel
theorem CT:Loc (aa dN) "together":=by decide +kernel
theorem Lb:Loc (aa dN) "name":=by decide +kernel
theorem Ld:aG (aa dN) "name":=by decide +kernel
theorem Jh:Loc (aa dN) "other":=by decide +kernel
theorem Av:aG (aa dN) "other":=by decide +kernel
theorem oJ:aG (aa dN) "together":=by decide +kernel
theorem abj {f g0 g1 g2 g3 g4 g5:Addr}{fd gd0 gd1 gd2 gd3 gd4 gd5:FuncData} (Ud:FnT K mg "law" dN ["script"] f fd)
 (jl:FnT K mg "_law_house" aD ["script","first"] g0 gd0) (Lf:aY P w K mg base CX0 8 g0 gd0 ["script","first"] (Yz K))
 (d9:FnT K mg "_law_state" fY ["script","k"] g1 gd1) (wI:aY P w K mg base CX0 2 g1 gd1 ["script","k"] (Tz K))
 (aA:FnT K mg "_law_take" cM ["state","many"] g2 gd2) (bA:aY P w K mg base CX0 1 g2 gd2 ["state","many"] Ce)
 (eF:FnT K mg "_law_names" gK [] g3 gd3) (wJ:aY P w K mg base CX0 1 g3 gd3 [] T3)
 (eG:FnT K mg "_law_worth_told" bK ["house","name"] g4 gd4) (By:aY P w K mg base CX0 18 g4 gd4 ["house","name"] Yy)
 (bJ:FnT K mg "fresh_build" cG ["house","wishes"] g5 gd5) (m7:aY P w K mg base (CXd P w) 17 g5 gd5 ["house","wishes"] (Kv CNo CRi))
 (T:Blt mg):aY P w K mg base CX0 19 f fd ["script"] (N5 K):=by
 refine Ud.F.okQ lX (fun vs H Q E h=> ?_) (fun cdv A0 outer s H vs Q E hr h=> ?_)
 ·obtain⟨a,ns,rfl,_⟩:=h
  rfl
 obtain⟨a,zs,rfl,hS,h63,q⟩:=h
 refine⟨_,(az (bW (i:=1) lX.nd rfl Jb (bN (Lf.mono (by omega)) hr Aj jl.m jl.F.kp jl.b .nil cJ (aP (aj 0 yh) (fM aB au)) Ak))
  (az (Iv (bW (i:=2) lX.nd rfl Jc (CZ rfl (n:=1) (fr:=[1]) (N:=["name","house"]) (JC (scX:=aa dN) (NX:=["script","house","names","state","wishes","worths","records","order","some","found","together","name","other"]) rfl rfl (by decide +kernel)) (zx (JH (wJ.mono (by omega)) hr Al eF.m eF.F.kp eF.b .nil cJ Am)) (fun _ _ _ _ _=>(qgx (i:=0) (show List.Nodup (α:=Str) ["name","house"] by decide) (PX (by decide +kernel)))) (fun _ _ _ _ _=>(RL (cW RN (bN (By.mono (by omega)) hr (glC (by decide +kernel)) eG.m eG.F.kp eG.b .nil cJ (aP (aj 1 (tM.ok (by decide +kernel))) (aP (aj 0 (tM.ok (by decide +kernel))) au)) uE) Az (bH _)))) (fun _ _ _ _ _=>(aj 0 (tM.ok (by decide +kernel)))))))
  (az (bW (i:=3) lX.nd rfl Jd (bN (wI.mono (by omega)) hr An d9.m d9.F.kp d9.b .nil cJ (aP (aj 0 yh) (fM aB au)) Ao))
  (az (Iv (LK (i:=4) rfl lX.nd rfl Gg (n:=1) (fr:=[2,3]) (N:=["k","names","state"]) (JC (scX:=aa dN) (NX:=["script","house","names","state","wishes","worths","records","order","some","found","together","name","other"]) rfl rfl (by decide +kernel)) (Bb Je T.Hz (uP (bN (bA.mono (by omega)) hr Bx aA.m aA.F.kp aA.b .nil cJ (aP (aj 3 Jf) (fM aB au)) sY) au)) (fun _ _ _ _ _=>(qgx (i:=0) (show List.Nodup (α:=Str) ["k","names","state"] by decide) (PX (by decide +kernel)))) (fun _ _ _ _ _=>LQ) (fun _ _ _ _ _=>(cg (Be (K:=K) rfl) (aj 1 (tM.ok (by decide +kernel))) (bN (bA.mono (by omega)) hr (glC (by decide +kernel)) aA.m aA.F.kp aA.b .nil cJ (aP (aj 2 (tM.ok (by decide +kernel))) (uP (cX (BX (K:=K) rfl) (glC (by decide +kernel)) T.uL nZ (aP (aj 1 (tM.ok (by decide +kernel))) au) M6 M7) au)) sY))) rfl))
  (az (aaw (vC (m7.mono (by omega)) hr ju bJ.m bJ.F.kp bJ.b .nil Ip (aP (aj 1 pD) (uP (lD tO wK T.vA qd (aP (aj 4 iJ) au) wL wM) au)) jw) (LR rfl (pI (mZ (i:=5) lX.nd rfl Gh) (pI (mZ (i:=6) lX.nd rfl Fw) (pI (mZ (i:=7) lX.nd rfl Jg) Hw)))))
  (az (Iv (Bc PassesOwn.never rfl (zx (fW (lZ (R3 (aj 4 iJ) (RD Hy aB)) (vB (bM wZ (aj 4 iJ) (aj 4 iJ)) (vB (bM wZ (aj 4 iJ) (lD (DX rfl) wK T.vA qd (aP (aj 5 m6) au) wL wM)) (vB (bM wZ (R3 (aj 7 Aq) (RD Hy aB)) (aj 4 iJ)) au)))))) (mZ (i:=8) lX.nd rfl K9) (az (bW (i:=9) lX.nd rfl Ar (vC (m7.mono (by omega)) hr ju bJ.m bJ.F.kp bJ.b .nil Ip (aP (aj 1 pD) (uP (lD tO wK T.vA qd (aP (aj 8 La) au) wL wM) au)) jw))
  (aC (fJ (Lz (Gz (cW (G4 hr.u66) (cg bV (aj 9 jx) aB) (aj 5 m6) (bH _)) (Gz (cW (G4 hr.u66) (cg bV (aj 9 jx) aB) (aj 6 wN) (bH _)) (Dv (cW (Ml hr.units) (cX Eo yj T.JN Gy (lZ (cg bV (aj 9 jx) aB) au) yl ym) (cX Eo yj T.JN Gy (aP (aj 7 Aq) au) yl ym) (bH _)))))) (aC (bY JG)) cZ)))))
  (az (bW (i:=10) lX.nd rfl CT (fW (Qa iU (Qa iU au))))
  (az (Iv (Bc PassesOwn.never rfl (zx (aj 4 iJ)) (mZ (i:=11) lX.nd rfl Lb) (az (bW (i:=9) lX.nd rfl Ar (vC (m7.mono (by omega)) hr ju bJ.m bJ.F.kp bJ.b .nil Ip (aP (aj 1 pD) (Mh (fW (aP (aj 11 Ld) au)) au)) jw))
  (az (Bc PassesOwn.never rfl (V2 (cg bV (aj 9 jx) aB)) (mZ (i:=12) lX.nd rfl Jh) (aC (fJ (cW Ma (fV (dZ hr) (aj 5 m6) (aj 12 Av)) (fV (dZ hr) (cg bV (aj 9 jx) aB) (aj 12 Av)) (bH _)) (aC (bY JG)) cZ)))
  (az (fZ (Oh (cg eX (aj 10 oJ) aB) (cg bV (aj 9 jx) aB) ⟨rfl,rfl,rfl,rfl⟩))
  (aC (fZ (Oh (cg eX (aj 10 oJ) aB) (cg bV (aj 9 jx) aB) ⟨rfl,rfl,rfl,rfl⟩))))))))
  (az (fJ (cW (QF hr.u80) (aj 10 oJ) (fW (aP (aj 5 m6) (aP (aj 6 wN) au))) (bH _)) (aC (bY JG)) cZ)
  (aC (bY (Dt (KD hr.u80) (vC (m7.mono (by omega)) hr ju bJ.m bJ.F.kp bJ.b .nil Ip (aP (aj 1 pD) (Mh (fW au) au)) jw) (jm (Qa iU (Qa iU (Mh (fW au) au)))) (bH _))))))))))))), ?_⟩
 walk_at "vs"
 intro h g c gs cs gv rc H1 s1 hh hg hc ngc ho k4
 walk_at "vs"
 refine⟨fun σ' H'=>Wr (∃(nl:Addr) (us:List Str),σ'=[some (.ref a),some (.ref h),some (.ref nl),none,none,none,none,none,none,none,none,none,none]/\aN H1 H'/\H' nl=some (.lst (us.map V.str))/\(∀x∈us,x∈dW/\Bm gv rc x)/\1<=us.length/\us.length<=18), ?_, ?_⟩
 rotate_left
 ·walk_at "vs"
  intro l0 H2 s2 hl0 el0
  walk_at "vs"
  intro D hD
  have hD0:=same_none s2 hD
  have sD:=aq (.lst []) hD
  refine Gx (xs:=dW.map V.str) (fun i σ' H'=>Wr ((∃t,σ'=[t,some (.ref h)])/\aN H2 H'/\∃us:List Str,H' D=some (.lst (us.map V.str))/\(∀x∈us,x∈dW/\Bm gv rc x)/\us.length<=i/\(1<=i->1<=us.length))) ?_ ?_ ?_ ?_
  ·exact⟨⟨none,rfl⟩,sD,[],ak,by simp,by simp,fun z=>absurd z (by decide)⟩
  ·rintro i σ' H' _ ⟨_,S,_⟩
   exact SqL.of (S _ _ el0)
  ·rintro i v σ' H' hv ⟨⟨t,rfl⟩,S,us,eD,hus,hl,h1⟩
   obtain⟨x,hx,rfl⟩:∃x,dW[i]? =some x/\v=V.str x:=by
    rw[List.getElem?_map] at hv
    cases e:dW[i]? with
    | none=>rw[e] at hv;cases hv
    | some x=>rw[e] at hv;exact⟨x,rfl,(Option.some.inj hv).symm⟩
   have hi:i<18:=(List.getElem?_eq_some_iff.mp hx).1
   have hxm:=List.mem_of_getElem? hx
   have ho':=(ho.same s2).same S
   have hsf:vI gv rc [x] (kn0,[]):=k4.safe ho (fun y hy=>by rw[show y=x by simpa using hy];exact List.mem_append_left _ hxm)
   walk_at "vs"
   refine⟨?_, ?_⟩
   ·intro n kn rmN od H5 s5 st ru hk
    have hz:(us.map V.str).length<sizeLine:=by rw[List.length_map];exact bG (by omega)
    have eD5:=s5 _ _ eD
    walk_at "vs"
    refine⟨⟨_,rfl⟩,lE _ hD (S.trans s5),us++[x], ?_, ?_, ?_,fun _=> ?_⟩
    ·rw[List.map_append];exact ak
    ·intro y hy
     rcases List.mem_append.mp hy with z | z
     ·exact hus y z
     ·rw[show y=x by simpa using z];exact⟨hxm,(kn,od),n,ru,hk⟩
    ·rw[List.length_append];show us.length+1<=i+1;omega
    ·rw[List.length_append];show 1<=us.length+1;omega
   ·intro e H5 he s5
    walk_at "vs"
    refine⟨⟨_,rfl⟩,S.trans s5,us,s5 _ _ eD,hus,by omega,fun _=> ?_⟩
    by_cases z:i=0
    ·subst z
     have:x=("a":Str):=(Option.some.inj hx).symm
     rw[this] at he
     exact absurd (k4.aT ho) (OJ he)
    ·exact h1 (by omega)
  ·rintro σ' H' ⟨_,S,us,eD,hus,hl,h1⟩
   walk_at "vs"
   exact⟨⟨D,us,rfl,s2.trans S,eD,hus,h1 (by decide),hl⟩⟩
 rintro σ' H2 ⟨⟨nl,us,rfl,s2,enl,hus,hu1,hu2⟩⟩
 have hS2:=SqL.same (s1.trans s2) hS
 walk_at "vs"
 intro p H3 s3 hp3 st3
 have ahl:=s3 _ _ enl
 walk_at "vs"
 refine⟨fun σ' H'=>Wr (∃(wl:Addr) (ws:List Str),σ'=[some (.ref a),some (.ref h),some (.ref nl),some (.ref p),some (.ref wl),none,none,none,none,none,none,none,none]/\aN H2 H'/\H' wl=some (.lst (ws.map V.str))/\(∀x∈ws,x∈us)/\ws.length<=9), ?_, ?_⟩
 rotate_left
 ·walk_at "vs"
  intro m H4 m0 m9 b4 st4
  have S4:=d7 s3 (fun z hz=>by rw[show z=p by simpa using hz];exact hp3) b4
  walk_at "vs"
  intro D hD
  have hD0:=same_none S4 hD
  have nDp:D≠p:=st4.ne hD
  refine Dr (fun i σ' H'=>Wr ((∃t,σ'=[t,some (.ref nl),some (.ref p)])/\aN H2 H'/\lq H' p (2000+i)/\∃ws:List Str,H' D=some (.lst (ws.map V.str))/\(∀x∈ws,x∈us)/\ws.length=i)) ?_ ?_ ?_
  ·exact⟨⟨none,rfl⟩,S4.trans (aq _ hD),(st4.same (aq _ hD)).mono (by omega),[],ak,by simp,rfl⟩
  ·rintro i σ' H' hi ⟨⟨t,rfl⟩,S5,st5,ws,eD,hws,hl⟩
   have aiy:=S5 _ _ enl
   have hi9:i<9:=by
    have:i<(m - 0).toNat:=by simpa using hi
    omega
   have hlm:(us.map V.str).length=us.length:=List.length_map _
   have hm0:(0:Int)<(((us.map V.str).length:Nat):Int):=by rw[hlm];omega
   have hlg:(((us.map V.str).length:Nat):Int).natAbs.log2<9000:=Nat.lt_of_le_of_lt (Nat.log2_le_self _) (by rw[hlm,Int.natAbs_natCast];omega)
   walk_at "vs"
   intro n H6 n0 n1 b6 st6
   obtain⟨x,hx,hxm⟩:=OD (us:=us) n0 (by rw[<-hlm];exact n1)
   have S6:=d7 S5 (fun z hz=>by rw[show z=p by simpa using hz];exact hp3) b6
   have aiz:=S6 _ _ enl
   have eD6:=b6 _ _ (st5.off eD (by simp)) eD
   have hz:(ws.map V.str).length<sizeLine:=by rw[List.length_map];exact bG (by omega)
   walk_at "vs"
   refine⟨⟨_,rfl⟩,lE _ hD0 S6,(st6.keep (But.set _ (by simp)) (S:=[D]) (by simpa using Ne.symm nDp)).mono (by omega),ws++[x], ?_, ?_, ?_⟩
   ·rw[List.map_append];exact ak
   ·intro y hy
    rcases List.mem_append.mp hy with z | z
    ·exact hws y z
    ·rw[show y=x by simpa using z];exact hxm
   ·rw[List.length_append,hl];rfl
  ·rintro σ' H' ⟨_,S5,st5,ws,eD,hws,hl⟩
   walk_at "vs"
   exact⟨⟨D,ws,rfl,S5,eD,hws,by rw[hl];omega⟩⟩
 clear st3 ahl hS2
 rintro σ' H4 ⟨⟨wl,ws,rfl,s4,ewl,hws,hwl⟩⟩
 have ho4:=(ho.same s2).same s4
 have hwt:∀x∈ws,x∈dW/\Bm gv rc x:=fun x hx=>hus x (hws x hx)
 walk_at "vs"
 intro w1 hw1
 have q1:=aq (.lst (ws.map V.str)) hw1
 have ew1:upd H4 w1 (.lst (ws.map V.str)) w1=some (.lst (ws.map V.str)):=ak
 replace ewl:=q1 _ _ ewl
 replace ho4:=ho4.same q1
 generalize upd H4 w1 (.lst (ws.map V.str))=H5 at *
 have hsf:vI gv rc ws (kn0,[]):=k4.safe ho (fun y hy=>List.mem_append_left _ (hwt y hy).1)
 walk_at "vs"
 refine⟨?_,fun e cls d H' he=>absurd he (fun he=>zL (fun x hx=>(hwt x hx).2) he)⟩
 intro t kd sd l kw ks wn sn kn rm H6 f1 f2 f3 f4 f5 f6 f7 f8 f9 f10 f11 f12 f13 f14 f15 f16 f17
 have fr:Frs gv rc ws H5 H6 t kd sd l kw ks sn kn rm:=⟨f1,f2,f4,f5,f6,f7,f8,⟨wn,f9,f10⟩,f11,f12,f13,f14,f15,f16,f17⟩
 clear f1 f2 f3 f4 f5 f6 f7 f8 f9 f10 f11 f12 f13 f14 f15 f16 f17
 have et:=fr.et
 have ekd:=fr.ek
 have esd:=fr.es
 have eod:=fr.el
 walk_at "vs"
 have sz9:ws.length+ws.length<=100:=by omega
 obtain⟨wn,hwk,aiA⟩:=fr.wn
 have hkg:=k4.good ho fr.b.ok
 have hwm:∀x,x∈wn ↔ kn x≠none:=fun x=>fr.wnm hwk
 have hwn:wn.length<=18:=dH hwk.nd (ns:=dW) fun x hx=>hkg.1 x ((hwm x).mp hx)
 have hsn:sn.length<=18:=dH fr.b.nd (ns:=dW) fun x hx=>hkg.1 x (fr.od hx)
 have S6:aN H4 H6:=q1.trans fr.s
 have ho6:=ho4.same fr.s
 have wO:=fr.s _ _ ewl
 have hrec:=fr.rr.s
 have hlk:kw.map (fun kv=>kV kv.1)=wn.map V.str:=by
  rw[show(kw.map fun kv=>kV kv.1)=(kw.map (·.1)).map kV by rw[List.map_map];rfl,hwk.k,List.map_map];rfl
 refine⟨fun σ' H'=>Wr (∃t8 t9:Option V,σ'=[some (.ref a),some (.ref h),some (.ref nl),some (.ref p),some (.ref wl),some (.ref kd),some (.ref sd),some (.ref l),t8,t9,none,none,none]/\aN H6 H'), ?_, ?_⟩
 rotate_left
 ·walk_at "vs"
  have S7:aN H6 H6:=aN.refl _
  have c1:(ws.map V.str).length+(ws.map V.str).length<=sizeLine:=Nat.le_of_lt (bG (by rw[List.length_map];omega))
  have c2:(ws.map V.str).length+(kw.map (fun kv=>kV kv.1)).length<=sizeLine:=Nat.le_of_lt (bG (by rw[List.length_map,List.length_map,hwk.len];omega))
  have c3:(sn.map V.str).reverse.length+(ws.map V.str).length<=sizeLine:=Nat.le_of_lt (bG (by rw[List.length_map,List.length_reverse,List.length_map];omega))
  intro r1 hr1
  have q_:=aq (.lst (ws.map V.str).reverse) hr1
  have er1:upd H6 r1 (.lst (ws.map V.str).reverse) r1=some (.lst (ws.reverse.map V.str)):=by rw[ak,List.map_reverse]
  replace wO:=q_ _ _ wO
  replace ekd:=q_ _ _ ekd
  replace eod:=q_ _ _ eod
  replace S7:=S7.trans q_
  generalize upd H6 r1 (.lst (ws.map V.str).reverse)=J1 at *
  clear q_
  walk_at "vs"
  intro r2 hr2
  have q_:=aq (.lst (ws.map V.str++ws.map V.str)) hr2
  have er2:upd J1 r2 (.lst (ws.map V.str++ws.map V.str)) r2=some (.lst ((ws++ws).map V.str)):=by rw[ak,List.map_append]
  replace wO:=q_ _ _ wO
  replace ekd:=q_ _ _ ekd
  replace eod:=q_ _ _ eod
  replace er1:=q_ _ _ er1
  replace S7:=S7.trans q_
  generalize upd J1 r2 (.lst (ws.map V.str++ws.map V.str))=J2 at *
  clear q_
  walk_at "vs"
  intro r3 hr3
  have q_:=aq (.lst (kw.map (fun kv=>kV kv.1))) hr3
  have er3:upd J2 r3 (.lst (kw.map (fun kv=>kV kv.1))) r3=some (.lst (kw.map (fun kv=>kV kv.1))):=ak
  replace wO:=q_ _ _ wO
  replace ekd:=q_ _ _ ekd
  replace eod:=q_ _ _ eod
  replace er1:=q_ _ _ er1
  replace er2:=q_ _ _ er2
  replace S7:=S7.trans q_
  generalize upd J2 r3 (.lst (kw.map (fun kv=>kV kv.1)))=J3 at *
  clear q_
  walk_at "vs"
  intro r4 hr4
  have q_:=aq (.lst (ws.map V.str++kw.map (fun kv=>kV kv.1))) hr4
  have er4:upd J3 r4 (.lst (ws.map V.str++kw.map (fun kv=>kV kv.1))) r4=some (.lst ((ws++wn).map V.str)):=by rw[ak,hlk,List.map_append]
  replace wO:=q_ _ _ wO
  replace ekd:=q_ _ _ ekd
  replace eod:=q_ _ _ eod
  replace er1:=q_ _ _ er1
  replace er2:=q_ _ _ er2
  replace S7:=S7.trans q_
  generalize upd J3 r4 (.lst (ws.map V.str++kw.map (fun kv=>kV kv.1)))=J4 at *
  clear q_
  walk_at "vs"
  intro r5 hr5
  have q_:=aq (.lst (sn.map V.str).reverse) hr5
  have er5:upd J4 r5 (.lst (sn.map V.str).reverse) r5=some (.lst (sn.map V.str).reverse):=ak
  replace wO:=q_ _ _ wO
  replace er1:=q_ _ _ er1
  replace er2:=q_ _ _ er2
  replace er4:=q_ _ _ er4
  replace S7:=S7.trans q_
  generalize upd J4 r5 (.lst (sn.map V.str).reverse)=J5 at *
  clear q_
  walk_at "vs"
  intro r6 hr6
  have q_:=aq (.lst ((sn.map V.str).reverse++ws.map V.str)) hr6
  have er6:upd J5 r6 (.lst ((sn.map V.str).reverse++ws.map V.str)) r6=some (.lst ((sn.reverse++ws).map V.str)):=by rw[ak,List.map_append,List.map_reverse]
  replace wO:=q_ _ _ wO
  replace er1:=q_ _ _ er1
  replace er2:=q_ _ _ er2
  replace er4:=q_ _ _ er4
  replace S7:=S7.trans q_
  generalize upd J5 r6 (.lst ((sn.map V.str).reverse++ws.map V.str))=J6 at *
  clear q_
  walk_at "vs"
  intro r7 hr7
  have q_:=aq (.lst [.ref r1, .ref r2, .ref r4, .ref r6]) hr7
  have er7:upd J6 r7 (.lst [.ref r1, .ref r2, .ref r4, .ref r6]) r7=some (.lst [.ref r1, .ref r2, .ref r4, .ref r6]):=ak
  replace er1:=q_ _ _ er1
  replace er2:=q_ _ _ er2
  replace er4:=q_ _ _ er4
  replace er6:=q_ _ _ er6
  replace S7:=S7.trans q_
  generalize upd J6 r7 (.lst [.ref r1, .ref r2, .ref r4, .ref r6])=J7 at *
  clear q_
  have hall:∀v∈[V.ref r1, .ref r2, .ref r4, .ref r6],∃(ra:Addr) (vs:List Str),v= .ref ra/\J7 ra=some (.lst (vs.map V.str))/\(∀x∈ws,x∈vs)/\(∀x∈vs,kn x≠none):=by
   have hw:∀x∈ws,kn x≠none:=fr.b.w
   intro v hv
   simp only[List.mem_cons,List.not_mem_nil,or_false] at hv
   rcases hv with rfl | rfl | rfl | rfl
   ·exact⟨r1,_,rfl,er1,fun x hx=>List.mem_reverse.mpr hx,fun x hx=>hw x (List.mem_reverse.mp hx)⟩
   ·exact⟨r2,_,rfl,er2,fun x hx=>List.mem_append_left _ hx,fun x hx=>(List.mem_append.mp hx).elim (hw x) (hw x)⟩
   ·exact⟨r4,_,rfl,er4,fun x hx=>List.mem_append_left _ hx,fun x hx=>(List.mem_append.mp hx).elim (hw x) (hwm x).mp⟩
   ·exact⟨r6,_,rfl,er6,fun x hx=>List.mem_append_right _ hx,fun x hx=>(List.mem_append.mp hx).elim (fun z=>fr.od (List.mem_reverse.mp z)) (hw x)⟩
  clear er1 er2 er4 er6 wO ekd eod er3 er5
  walk_at "vs"
  refine Di (xs:=[V.ref r1, .ref r2, .ref r4, .ref r6]) (fun i σ' H'=>Wr (∃t8 t9:Option V,σ'=[some (.ref a),some (.ref h),some (.ref nl),some (.ref p),some (.ref wl),some (.ref kd),some (.ref sd),some (.ref l),t8,t9,none,none,none]/\aN J7 H')) ?_ ?_ ?_ ?_
  ·exact⟨⟨_,_,rfl,aN.refl _⟩⟩
  ·rintro i σ' H' _ ⟨⟨_,_,_,S⟩⟩
   exact SqL.of (S _ _ er7)
  ·rintro i v σ' J8 hv ⟨⟨t8,t9,rfl,S8⟩⟩
   obtain⟨ra,vs,rfl,era,g1,g2⟩:=hall v (List.mem_of_getElem? hv)
   have aiB:=S8 _ _ era
   walk_at "vs"
   intro w2 hw2
   have q_:=aq (.lst (vs.map V.str)) hw2
   have ew2:upd J8 w2 (.lst (vs.map V.str)) w2=some (.lst (vs.map V.str)):=ak
   replace S8:=S8.trans q_
   generalize upd J8 w2 (.lst (vs.map V.str))=J9 at *
   clear q_
   have hsf:vI gv rc vs (kn0,[]):=k4.safe ho (fun y hy=>List.mem_append_left _ (hkg.1 y (g2 y hy)))
   have ho9:=ho6.same (S7.trans S8)
   walk_at "vs"
   refine⟨?_,fun e cls d H' he=>absurd he (fun he=>zL (fun x hx=>fr.tol (g2 x hx)) he)⟩
   intro t' kd' sd' l' kw' ks' wn' sn' kn' rm' K1 f1 f2 f3 f4 f5 f6 f7 f8 f9 f10 f11 f12 f13 f14 f15 f16 f17
   have fr':Frs gv rc vs J9 K1 t' kd' sd' l' kw' ks' sn' kn' rm':=⟨f1,f2,f4,f5,f6,f7,f8,⟨wn',f9,f10⟩,f11,f12,f13,f14,f15,f16,f17⟩
   clear f1 f3 f4 f5 f6 f7 f10 f14 f16 f17
   obtain⟨ek',er'⟩:=fr.eq fr' g1 g2
   subst ek' er'
   have SK:=(S7.trans S8).trans fr'.s
   have SJ:=S8.trans fr'.s
   have rd1:Rd K1 kd' (.dK kw'):= .inl f8
   have rd2:Rd K1 kd (.dK kw):= .inl (SK _ _ fr.ek)
   have rd3:Rd K1 sd' (.dK ks'):= .inl f12
   have rd4:Rd K1 sd (.dK ks):= .inl (SK _ _ fr.es)
   have sd1:zH K K1 kw' kw:=Yq f9 f11 hwk fr.kv
   have sd2:zH K K1 ks' ks:=Ti fr'.rr.s (hrec.same SK) hkg.2
   have eo1:=SK _ _ fr.el
   have hs1:sn'.length<64:=Nat.lt_of_le_of_lt (dH fr'.b.nd (ns:=dW) fun x hx=>hkg.1 x (fr'.od hx)) (by decide)
   have hs2:sn.length<64:=by omega
   walk_at "vs"
   intro p1 u1 hp1 pm1 so1
   have q_:=aq (.lst (u1.map V.str)) hp1
   have ep1:upd K1 p1 (.lst (u1.map V.str)) p1=some (.lst (u1.map V.str)):=ak
   replace eo1:=q_ _ _ eo1
   replace SK:=SK.trans q_
   replace SJ:=SJ.trans q_
   generalize upd K1 p1 (.lst (u1.map V.str))=K2 at *
   clear q_ rd1 rd2 rd3 rd4 sd1 sd2
   walk_at "vs"
   intro p2 u2 hp2 pm2 so2
   have q_:=aq (.lst (u2.map V.str)) hp2
   have ep2:upd K2 p2 (.lst (u2.map V.str)) p2=some (.lst (u2.map V.str)):=ak
   replace ep1:=q_ _ _ ep1
   replace SK:=SK.trans q_
   replace SJ:=SJ.trans q_
   generalize upd K2 p2 (.lst (u2.map V.str))=K3 at *
   clear q_
   have eu:u1=u2:=QC fr fr' pm1 so1 pm2 so2
   subst eu
   have dt1:oU K K3 (.ref p1) (.list (u1.map .str)):= .lst (SqL.of ep1) (mG _)
   have dt2:oU K K3 (.ref p2) (.list (u1.map .str)):= .lst (SqL.of ep2) (mG _)
   have dts:SeqAt.shaped (.list (u1.map .str))=true:=Ci fun y hy=>tQ (MP y (hkg.1 y (fr.od (pm2.mem_iff.mp hy))))
   walk_at "vs"
   exact⟨⟨_,_,rfl,SJ⟩⟩
  ·rintro σ' H' ⟨⟨t8,t9,rfl,S8⟩⟩
   exact⟨⟨_,_,rfl,S7.trans S8⟩⟩
 rintro σ' H7 ⟨⟨t8,t9,rfl,S7⟩⟩
 have ho7:=ho6.same S7
 replace ekd:=S7 _ _ ekd
 replace esd:=S7 _ _ esd
 replace wO:=S7 _ _ wO
 replace hrec:=hrec.same S7
 clear S6 et eod hlk hw1 ew1 q1
 intro d0 hd0
 have q_:=aq (.dK []) hd0
 have ed0:upd H7 d0 (.dK []) d0=some (.dK []):=ak
 have S8:aN H7 _:=q_
 generalize upd H7 d0 (.dK [])=J1 at *
 clear q_
 walk_at "vs"
 intro d1 hd1
 have hd1':=same_none S8 hd1
 have n01:d0≠d1:=fun z=>by rw[z,hd1] at ed0;cases ed0
 have q_:=aq (.dK []) hd1
 have ed1:upd J1 d1 (.dK []) d1=some (.dK []):=ak
 replace S8:=S8.trans q_
 replace ed0:=q_ _ _ ed0
 generalize upd J1 d1 (.dK [])=J2 at *
 clear q_ hd1
 walk_at "vs"
 intro tl htl
 have htl':=same_none S8 htl
 have q_:=aq (.lst [.ref d0, .ref d1]) htl
 have etl:upd J2 tl (.lst [.ref d0, .ref d1]) tl=some (.lst [.ref d0, .ref d1]):=ak
 replace S8:=S8.trans q_
 replace ed0:=q_ _ _ ed0
 replace ed1:=q_ _ _ ed1
 generalize upd J2 tl (.lst [.ref d0, .ref d1])=J3 at *
 clear q_ htl
 walk_at "vs"
 refine⟨fun σ' H'=>Wr (∃(t9 t11 t12:Option V) (k0 k1:List (Key×V)),σ'=[some (.ref a),some (.ref h),some (.ref nl),some (.ref p),some (.ref wl),some (.ref kd),some (.ref sd),some (.ref l),t8,t9,some (.ref tl),t11,t12]/\aN H7 H'/\H' tl=some (.lst [.ref d0, .ref d1])/\H' d0=some (.dK k0)/\H' d1=some (.dK k1)/\(∃n0,iz k0 n0)/\(∀x,cI k0 (.inr x)=(kn x).map V.int)/\j9 H' k1 rm), ?_, ?_⟩
 rotate_left
 ·have ahm:=S8 _ _ wO
  walk_at "vs"
  clear ahm
  refine Di (xs:=ws.map V.str) (fun i σ' H'=>Wr (∃(t9 t11 t12:Option V) (k0 k1:List (Key×V)) (kT:Kn) (rT:Rm),σ'=[some (.ref a),some (.ref h),some (.ref nl),some (.ref p),some (.ref wl),some (.ref kd),some (.ref sd),some (.ref l),t8,t9,some (.ref tl),t11,t12]/\aN H7 H'/\H' tl=some (.lst [.ref d0, .ref d1])/\H' d0=some (.dK k0)/\H' d1=some (.dK k1)/\(∃n0,iz k0 n0)/\(∀x,cI k0 (.inr x)=(kT x).map V.int)/\j9 H' k1 rT/\Tog kn rm kT rT/\∀x∈ws.take i,∀y,Rch gv rc kn x y->kT y≠none)) ?_ ?_ ?_ ?_
  ·exact⟨⟨_,_,_,[],[],kn0,fun _=>none,rfl,S8,etl,ed0,ed1,⟨[],⟨rfl,by simp⟩⟩,fun _=>rfl,⟨⟨[],⟨rfl,by simp⟩⟩,fun x q e=>(nomatch e),fun x _=>rfl⟩,Tog.zero,fun x hx=>by simp at hx⟩⟩
  ·rintro i σ' H' _ ⟨⟨_,_,_,_,_,_,_,_,S,_⟩⟩
   exact SqL.of (S _ _ wO)
  ·clear S8 etl ed0 ed1
   rintro i v σ' J8 hv ⟨⟨t9,t11,t12,k0,k1,kT,rT,rfl,S8,etl,ed0,ed1,⟨n0,hk0⟩,hv0,hr1,tog,hd⟩⟩
   obtain⟨x,hx,rfl⟩:∃x,ws[i]? =some x/\v=V.str x:=by
    rw[List.getElem?_map] at hv
    cases e:ws[i]? with
    | none=>rw[e] at hv;cases hv
    | some x=>rw[e] at hv;exact⟨x,rfl,(Option.some.inj hv).symm⟩
   have hxm:=List.mem_of_getElem? hx
   walk_at "vs"
   intro w2 hw2
   have q_:=aq (.lst [.str x]) hw2
   have ew2:upd J8 w2 (.lst [.str x]) w2=some (.lst ([x].map V.str)):=ak
   replace S8:=S8.trans q_
   replace etl:=q_ _ _ etl
   replace ed0:=q_ _ _ ed0
   replace ed1:=q_ _ _ ed1
   replace hr1:=hr1.same q_
   generalize upd J8 w2 (.lst [.str x])=J9 at *
   clear q_ hw2
   have hsf:vI gv rc [x] (kn0,[]):=k4.safe ho (fun y hy=>by rw[show y=x by simpa using hy];exact List.mem_append_left _ (hwt x hxm).1)
   have ho9:=ho7.same S8
   walk_at "vs"
   refine⟨?_,fun e cls d H' he=>absurd he (fun he=>OJ he (hwt x hxm).2)⟩
   intro t' kd' sd' l' kw' ks' wn' sn' kn' rm' K1 f1 f2 f3 f4 f5 f6 f7 f8 f9 f10 f11 f12 f13 f14 f15 f16 f17
   have fr':Frs gv rc [x] J9 K1 t' kd' sd' l' kw' ks' sn' kn' rm':=⟨f1,f2,f4,f5,f6,f7,f8,⟨wn',f9,f10⟩,f11,f12,f13,f14,f15,f16,f17⟩
   clear f3 f6 f7 f10 f15 f16 f17
   have hle:Kn.Le kn' kn:=fr'.le fr fun y hy=>by rw[show y=x by simpa using hy];exact fr.b.w x hxm
   have nk0:d0≠kd':=fun z=>by rw[z,f4] at ed0;cases ed0
   have nk1:d1≠kd':=fun z=>by rw[z,f4] at ed1;cases ed1
   have ns0:d0≠sd':=fun z=>by rw[z,f5] at ed0;cases ed0
   have ns1:d1≠sd':=fun z=>by rw[z,f5] at ed1;cases ed1
   walk_at "vs"
   intro o
   have efr:upd K1 kd' (.frz o (.dK kw')) kd'=some (.frz o (.dK kw')):=ak
   have S2:aN J9 (upd K1 kd' (.frz o (.dK kw'))):=lE _ f4 f1
   have rr2:j9 (upd K1 kd' (.frz o (.dK kw'))) ks' rm':=f14.s.map fun b q z=>z.dk f8
   have es2:upd K1 kd' (.frz o (.dK kw')) sd'=some (.dK ks'):=(ao (Ne.symm fr'.ne)).trans f12
   have et2:upd K1 kd' (.frz o (.dK kw')) t'=some (.tup [.ref kd', .ref sd', .ref l']):=(ao (fun z=>by rw[z,f8] at f2;cases f2)).trans f2
   replace S8:=S8.trans S2
   replace etl:=S2 _ _ etl
   replace hr1:=hr1.same S2
   replace ed0:=S2 _ _ ed0
   replace ed1:=S2 _ _ ed1
   have ahn:=S8 _ _ ekd
   generalize upd K1 kd' (.frz o (.dK kw'))=K2 at *
   clear S2 f1 f2 f4 f5 f8 f12 f14
   refine R4 (kvs:=kw') (fun i σ' H'=>Wr (∃t12:Option V,σ'=[some (.ref a),some (.ref h),some (.ref nl),some (.ref p),some (.ref wl),some (.ref kd),some (.ref sd),some (.ref l),t8,some (.ref t'),some (.ref tl),some (.str x),t12]/\H'=K2)) ?_ ?_ ?_ ?_
   ·exact⟨⟨_,rfl,rfl⟩⟩
   ·rintro i σ' H' _ ⟨⟨_,_,rfl⟩⟩
    exact efr
   ·rintro i k v σ' H' hkv ⟨⟨aho,rfl,rfl⟩⟩
    obtain⟨y,rfl,hy⟩:=f9.at hkv
    have hvv:=Ed f9 (List.mem_of_getElem? hkv)
    rw[f11] at hvv
    cases e:kn' y with
    | none=>rw[e] at hvv;cases hvv
    | some u=>
      have hu:=hle y u e
      have dg1:dO H' kd (.str y) (some (.int u)):=by
       have:=dO.k (k:= .inr y) ahn
       rw[fr.kv,hu] at this;exact this
      have dg2:dO H' kd' (.str y) (some (.int u)):= .inl ⟨kw', .inr y, .inr ⟨o,efr⟩,rfl,by rw[f11,e];rfl⟩
      walk_at "vs"
      refine Ay (fun c=>absurd c (by simp)) (fun _=> ?_)
      walk_at "vs"
      exact⟨⟨_,rfl,rfl⟩⟩
   ·rintro σ' H' ⟨⟨aho,rfl,rfl⟩⟩
    have aiC:IsD H' d0:= .inl ⟨k0, .inl ed0⟩
    have rdk:Rd H' kd' (.dK kw'):= .inr ⟨o,efr⟩
    have hl0:k0.length<=18:=by
     rw[hk0.len]
     exact dH hk0.nd (ns:=dW) fun y hy=>by
      have:=(nC hk0 hv0 y).mp hy
      cases e:kT y with
      | none=>exact absurd e this
      | some u=>exact hkg.1 y (by rw[tog.le y u e];simp)
    have aiD:kw'.length<=18:=by
     rw[f9.len]
     exact dH f9.nd (ns:=dW) fun y hy=>by
      have:=(nC f9 f11 y).mp hy
      cases e:kn' y with
      | none=>exact absurd e this
      | some u=>exact hkg.1 y (by rw[hle y u e];simp)
    have hl1':ks'.length<=18:=by
     rw[f13.len]
     exact dH f13.nd (ns:=dW) fun y hy=>by
      have:=(rr2.mem f13 y).mp hy
      cases e:rm' y with
      | none=>exact absurd e this
      | some u=>
        obtain⟨r,ps,v⟩:=u
        exact hkg.1 y (by rw[hle y v (fr'.b.ok.b _ _ _ _ e).2.2.1];simp)
    obtain⟨rs1,hk1⟩:=hr1.k
    have hl1:k1.length<=18:=by
     rw[hk1.len]
     exact dH hk1.nd (ns:=dW) fun y hy=>by
      have:=(hr1.mem hk1 y).mp hy
      cases e:kT y with
      | none=>exact absurd (tog.n y e) this
      | some u=>exact hkg.1 y (by rw[tog.le y u e];simp)
    have hz0:k0.length+kw'.length<=sizeLine:=Nat.le_of_lt (bG (by omega))
    have hz1:k1.length+ks'.length<=sizeLine:=Nat.le_of_lt (bG (by omega))
    have ag7:atI [V.ref d0, .ref d1] 0=some (.ref d0):=rfl
    have ag8:atI [V.ref d0, .ref d1] 1=some (.ref d1):=rfl
    have b3:But [d0] H' (upd H' d0 (.dK (eU k0 kw'))):=But.set _ (by simp)
    have e03:upd H' d0 (.dK (eU k0 kw')) d0=some (.dK (eU k0 kw')):=ak
    have hr3:j9 (upd H' d0 (.dK (eU k0 kw'))) k1 rT:=hr1.map fun b q z=>z.dk ed0
    have rr3:j9 (upd H' d0 (.dK (eU k0 kw'))) ks' rm':=rr2.map fun b q z=>z.dk ed0
    have S3:=lE (.dK (eU k0 kw')) hd0 S8
    have et3:=(ao (o:= .dK (eU k0 kw')) (show t'≠d0 from fun z=>by rw[z,ed0] at et2;cases et2)).trans et2
    have abk:=(ao (o:= .dK (eU k0 kw')) (show tl≠d0 from fun z=>by rw[z,ed0] at etl;cases etl)).trans etl
    have abl:=(ao (o:= .dK (eU k0 kw')) (Ne.symm n01)).trans ed1
    have es3:=(ao (o:= .dK (eU k0 kw')) (Ne.symm ns0)).trans es2
    have aiE:IsD (upd H' d0 (.dK (eU k0 kw'))) d1:= .inl ⟨k1, .inl abl⟩
    have rds:Rd (upd H' d0 (.dK (eU k0 kw'))) sd' (.dK ks'):= .inl es3
    walk_at "vs"
    have hr4:j9 (upd (upd H' d0 (.dK (eU k0 kw'))) d1 (.dK (eU k1 ks'))) (eU k1 ks') (rT.over rm'):=(hr3.merge rr3).map fun b q z=>z.dk abl
    obtain⟨n0',hn0'⟩:=yx hk0 (more:=kw') f9.k
    refine⟨⟨_,_,_,eU k0 kw',eU k1 ks',kT.over kn',rT.over rm',rfl,lE _ hd1' S3,(ao (show tl≠d1 from fun z=>by rw[z,abl] at abk;cases abk)).trans abk,(ao n01).trans e03,ak,⟨n0',hn0'⟩,S9 hv0 f11 f9,hr4,tog.step fr.b.ok fr'.b.ok hle,fun z hz y hy=>Wx ?_⟩⟩
    rw[List.take_add_one,hx] at hz
    rcases List.mem_append.mp hz with z1 | z1
    ·exact .inl (hd z z1 y hy)
    ·have:z=x:=by simpa using z1
     subst this
     exact .inr (O1 (Fb fr.r fr'.r) fr'.b.ok (fr'.b.w z (by simp)) hy)
  ·rintro σ' H' ⟨⟨t9,t11,t12,k0,k1,kT,rT,rfl,S8,etl,ed0,ed1,hk0,hv0,hr1,tog,hd⟩⟩
   rw[List.length_map,List.take_length] at hd
   obtain⟨e1,e2⟩:=tog.full fr.b.ok fun y hy=>by
    obtain⟨x,hx,hr⟩:=fr.b.r y hy
    exact hd x hx y hr
   subst e1 e2
   exact⟨⟨_,_,_,_,_,rfl,S8,etl,ed0,ed1,hk0,hv0,hr1⟩⟩
 clear S8 etl ed0 ed1
 rintro σ' H8 ⟨⟨t9,t11,t12,k0,k1,rfl,S8,etl,ed0,ed1,⟨n0,hk0⟩,hv0,hr1⟩⟩
 have Ue:=hrec.same S8
 have abm:=S8 _ _ ekd
 have abn:=S8 _ _ esd
 have ho8:=ho7.same S8
 walk_at "vs"
 intro q2 hq2
 have q_:=aq (.lst [.ref kd, .ref sd]) hq2
 have eq2:upd H8 q2 (.lst [.ref kd, .ref sd]) q2=some (.lst [.ref kd, .ref sd]):=ak
 replace etl:=q_ _ _ etl
 replace ed0:=q_ _ _ ed0
 replace ed1:=q_ _ _ ed1
 replace abm:=q_ _ _ abm
 replace abn:=q_ _ _ abn
 replace Ue:=Ue.same q_
 replace hr1:=hr1.same q_
 replace ho8:=ho8.same q_
 generalize upd H8 q2 (.lst [.ref kd, .ref sd])=H9 at *
 clear q_
 have sqa:SqL K H9 tl [.ref d0, .ref d1]:=SqL.of etl
 have sqb:SqL K H9 q2 [.ref kd, .ref sd]:=SqL.of eq2
 have hev:∀(i:Nat) x y,[V.ref d0, .ref d1][i]? =some x->[V.ref kd, .ref sd][i]? =some y->FW K H9 x y:=fun i x y h1 h2=>by
  match i,h1,h2 with
  | 0,h1,h2=>cases h1;cases h2;exact .inr ⟨d0,kd,k0,kw,rfl,rfl, .inl ed0, .inl abm,Yq hk0 hv0 hwk fr.kv⟩
  | 1,h1,h2=>cases h1;cases h2;exact .inr ⟨d1,sd,k1,ks,rfl,rfl, .inl ed1, .inl abn,Ti hr1 Ue hkg.2⟩
  | n+2,h1,h2=>simp at h1
 walk_at "vs"
 intro w3 hw3
 have q_:=aq (.lst []) hw3
 have ew3:upd H9 w3 (.lst []) w3=some (.lst (([]:List Str).map V.str)):=ak
 replace ho8:=ho8.same q_
 generalize upd H9 w3 (.lst [])=H10 at *
 clear q_
 have aiF:vI gv rc [] (kn0,[]):=k4.safe ho (fun y hy=>by cases hy)
 walk_at "vs"
 refine⟨?_,fun e cls d H' he=>absurd he (fun he=>zL (fun x hx=>by cases hx) he)⟩
 intro t' kd' sd' l' kw' ks' wn' sn' kn' rm' K1 f1 f2 f3 f4 f5 f6 f7 f8 f9 f10 f11 f12 f13 f14 f15 f16 f17
 have aeb:∀y,kn' y=none:=fun y=>by
  cases e:kn' y with
  | none=>rfl
  | some v=>
    obtain⟨x,hx,_⟩:=f16.r y (by rw[e];simp)
    cases hx
 have hr0:∀y,rm' y=none:=fun y=>by
  cases e:rm' y with
  | none=>rfl
  | some u=>
    obtain⟨r,ps,v⟩:=u
    have:=(f16.ok.b _ _ _ _ e).2.2.1
    rw[aeb] at this;cases this
 have ew0:kw'=[]:=by
  have:wn'=[]:=List.eq_nil_iff_forall_not_mem.mpr fun y hy=>(nC f9 f11 y).mp hy (aeb y)
  rw[this] at f9
  exact List.eq_nil_of_length_eq_zero f9.len
 have es0:sn'=[]:=List.eq_nil_iff_forall_not_mem.mpr fun y hy=>(f16.om y).mp hy (hr0 y)
 have ek0:ks'=[]:=by
  rw[es0] at f13
  exact List.eq_nil_of_length_eq_zero f13.len
 subst ew0 es0 ek0
 clear f1 f3 f4 f5 f6 f7 f9 f10 f11 f13 f14 f16 f17
 walk_at "vs"
 intro e0 he0
 have q_:=aq (.dK []) he0
 have ee0:upd K1 e0 (.dK []) e0=some (.dK []):=ak
 replace f2:=q_ _ _ f2
 replace f8:=q_ _ _ f8
 replace f12:=q_ _ _ f12
 replace f15:=q_ _ _ f15
 generalize upd K1 e0 (.dK [])=K2 at *
 clear q_
 walk_at "vs"
 intro e1 he1
 have q_:=aq (.dK []) he1
 have ee1:upd K2 e1 (.dK []) e1=some (.dK []):=ak
 replace f2:=q_ _ _ f2
 replace f8:=q_ _ _ f8
 replace f12:=q_ _ _ f12
 replace f15:=q_ _ _ f15
 replace ee0:=q_ _ _ ee0
 generalize upd K2 e1 (.dK [])=K3 at *
 clear q_
 walk_at "vs"
 intro e2 he2
 have q_:=aq (.lst []) he2
 have ee2:upd K3 e2 (.lst []) e2=some (.lst []):=ak
 replace f2:=q_ _ _ f2
 replace f8:=q_ _ _ f8
 replace f12:=q_ _ _ f12
 replace f15:=q_ _ _ f15
 replace ee0:=q_ _ _ ee0
 replace ee1:=q_ _ _ ee1
 generalize upd K3 e2 (.lst [])=K4 at *
 clear q_
 walk_at "vs"
 intro e3 he3
 have q_:=aq (.tup [.ref e0, .ref e1, .ref e2]) he3
 have ee3:upd K4 e3 (.tup [.ref e0, .ref e1, .ref e2]) e3=some (.tup [.ref e0, .ref e1, .ref e2]):=ak
 replace f2:=q_ _ _ f2
 replace f8:=q_ _ _ f8
 replace f12:=q_ _ _ f12
 replace f15:=q_ _ _ f15
 replace ee0:=q_ _ _ ee0
 replace ee1:=q_ _ _ ee1
 replace ee2:=q_ _ _ ee2
 generalize upd K4 e3 (.tup [.ref e0, .ref e1, .ref e2])=K5 at *
 clear q_
 have nsd:zH K K5 [] []:=⟨rfl,fun k u m=>(nomatch m)⟩
 have v1:FW K K5 (.ref kd') (.ref e0):= .inr ⟨_,_,_,_,rfl,rfl, .inl f8, .inl ee0,nsd⟩
 have v2:FW K K5 (.ref sd') (.ref e1):= .inr ⟨_,_,_,_,rfl,rfl, .inl f12, .inl ee1,nsd⟩
 have v3:FW K K5 (.ref l') (.ref e2):= .inl (ad3 (ws:=[]) f15 ee2 (by simp))
 walk_at "vs"
 exact q _
end
theorem j7 {K:PySem.W.Frag}{h:Heap}{mg:Str->Option Value} (X:K.In h) (G:h.Ns mainGlobals mg) {x:Str}{st:Stmt}{ps:List Str}{f:Addr}{oc:Value}{od an:Option Addr}{osl:Array (Option Value)}{kV doc pm cdv ct:Value}
 (a:PySem.W.nsIn K mainGlobals x=some (some (.ref f))) (l:K.lookup f=some ⟨oc,od, .func (PySem.W.fnOf x x (bC st) (bh st) (aa st) .none kV doc pm an cdv ct),osl⟩) (c:PySem.W.codeIn K cdv x=true) (k:PySem.W.keepIn K (.ref f)=true)
 (hb:∀us:List Value,us.length=ps.length->bindArgs (PySem.W.fnOf x x (bC st) (bh st) (aa st) .none kV doc pm an cdv ct) ⟨us,[]⟩=pure (ps.zip us)):
 FnT K mg x st ps f (PySem.W.fnOf x x (bC st) (bh st) (aa st) .none kV doc pm an cdv ct):=
 ⟨jC l c k,Binds.all hb,PySem.W.mg_of X G a⟩
theorem len0 {p:List Value->Prop} (h:p []) (us:List Value) (hl:us.length=0):p us:=by
 obtain rfl:=List.eq_nil_of_length_eq_zero hl;exact h
theorem Ug {p:List Value->Prop} (h:∀x0,p [x0]) (us:List Value) (hl:us.length=1):p us:=by
 match us,hl with |[x0],_=>exact h x0
theorem sZ {p:List Value->Prop} (h:∀x0 x1,p [x0,x1]) (us:List Value) (hl:us.length=2):p us:=by
 match us,hl with |[x0,x1],_=>exact h x0 x1
theorem M8 {p:List Value->Prop} (h:∀x0 x1 x2,p [x0,x1,x2]) (us:List Value) (hl:us.length=3):p us:=by
 match us,hl with |[x0,x1,x2],_=>exact h x0 x1 x2
theorem aiG {p:List Value->Prop} (h:∀x0 x1 x2 x3,p [x0,x1,x2,x3]) (us:List Value) (hl:us.length=4):p us:=by
 match us,hl with |[x0,x1,x2,x3],_=>exact h x0 x1 x2 x3
theorem aiH {p:List Value->Prop} (h:∀x0 x1 x2 x3 x4,p [x0,x1,x2,x3,x4]) (us:List Value) (hl:us.length=5):p us:=by
 match us,hl with |[x0,x1,x2,x3,x4],_=>exact h x0 x1 x2 x3 x4
theorem aiI {p:List Value->Prop} (h:∀x0 x1 x2 x3 x4 x5,p [x0,x1,x2,x3,x4,x5]) (us:List Value) (hl:us.length=6):p us:=by
 match us,hl with |[x0,x1,x2,x3,x4,x5],_=>exact h x0 x1 x2 x3 x4 x5
theorem all_mk {l:PySem.W.OpenLaw}{w:World}{K:PySem.W.Frag}{h:Heap}{mg:Str->Option Value}{fa f1 f2 f3 f4 f5 f6 f7 f8 f9 f10 f11 f12 f13 f14 f15 f16:Addr} (X:K.In h) (G:h.Ns mainGlobals mg) (hfa:mg "law"=some (.ref fa))
 {od1 an1 od2 an2 od3 an3 od4 an4 od5 an5 od6 an6 od7 an7 od8 an8 od9 an9 ahp ahq ahr ahs aht ahu ahv ahw ahx ahy ahz ahA ahB aec:Option Addr}{sl1 sl2 sl3 sl4 sl5 sl6 sl7 sl8 sl9 ahC ahD ahE ahF ahG ahH ahI:Array (Option Value)}{oc1 kV1 dc1 pm1 cd1 ct1 oc2 kV2 dc2 pm2 cd2 ct2 oc3 kV3 dc3 pm3 cd3 ct3 oc4 kV4 dc4 pm4 cd4 ct4 oc5 kV5 dc5 pm5 cd5 ct5 oc6 kV6 dc6 pm6 cd6 ct6 oc7 kV7 dc7 pm7 cd7 ct7 oc8 kV8 dc8 pm8 cd8 ct8 oc9 kV9 dc9 pm9 cd9 ct9 ahJ ahK ahL ahM aed ahN ahO ahP ahQ ahR aee ahS ahT ahU ahV ahW aef ahX ahY ahZ ah0 ah1 aeg ah2 ah3 ah4 ah5 ah6 aeh ah7 ah8 ah9 aia aib aei aic aid aej aek ael abo aem:Value}
 (a1:PySem.W.nsIn K mainGlobals "joined"=some (some (.ref f1))) (l1:K.lookup f1=some ⟨oc1,od1, .func (PySem.W.fnOf "joined" "joined" (bC jK) (bh jK) (aa jK) .none kV1 dc1 pm1 an1 cd1 ct1),sl1⟩) (c1:PySem.W.codeIn K cd1 "joined"=true) (k1:PySem.W.keepIn K (.ref f1)=true)
 (a2:PySem.W.nsIn K mainGlobals "is_whole_number"=some (some (.ref f2))) (l2:K.lookup f2=some ⟨oc2,od2, .func (PySem.W.fnOf "is_whole_number" "is_whole_number" (bC bO) (bh bO) (aa bO) .none kV2 dc2 pm2 an2 cd2 ct2),sl2⟩) (c2:PySem.W.codeIn K cd2 "is_whole_number"=true) (k2:PySem.W.keepIn K (.ref f2)=true)
 (a3:PySem.W.nsIn K mainGlobals "is_same"=some (some (.ref f3))) (l3:K.lookup f3=some ⟨oc3,od3, .func (PySem.W.fnOf "is_same" "is_same" (bC dI) (bh dI) (aa dI) .none kV3 dc3 pm3 an3 cd3 ct3),sl3⟩) (c3:PySem.W.codeIn K cd3 "is_same"=true) (k3:PySem.W.keepIn K (.ref f3)=true)
 (a4:PySem.W.nsIn K mainGlobals "searched"=some (some (.ref f4))) (l4:K.lookup f4=some ⟨oc4,od4, .func (PySem.W.fnOf "searched" "searched" (bC dF) (bh dF) (aa dF) .none kV4 dc4 pm4 an4 cd4 ct4),sl4⟩) (c4:PySem.W.codeIn K cd4 "searched"=true) (k4:PySem.W.keepIn K (.ref f4)=true)
 (a5:PySem.W.nsIn K mainGlobals "fresh_build"=some (some (.ref f5))) (l5:K.lookup f5=some ⟨oc5,od5, .func (PySem.W.fnOf "fresh_build" "fresh_build" (bC cG) (bh cG) (aa cG) .none kV5 dc5 pm5 an5 cd5 ct5),sl5⟩) (c5:PySem.W.codeIn K cd5 "fresh_build"=true) (k5:PySem.W.keepIn K (.ref f5)=true)
 (a6:PySem.W.nsIn K mainGlobals "worth_of"=some (some (.ref f6))) (l6:K.lookup f6=some ⟨oc6,od6, .func (PySem.W.fnOf "worth_of" "worth_of" (bC gW) (bh gW) (aa gW) .none kV6 dc6 pm6 an6 cd6 ct6),sl6⟩) (c6:PySem.W.codeIn K cd6 "worth_of"=true) (k6:PySem.W.keepIn K (.ref f6)=true)
 (a7:PySem.W.nsIn K mainGlobals "_law_cell"=some (some (.ref f7))) (l7:K.lookup f7=some ⟨oc7,od7, .func (PySem.W.fnOf "_law_cell" "_law_cell" (bC gY) (bh gY) (aa gY) .none kV7 dc7 pm7 an7 cd7 ct7),sl7⟩) (c7:PySem.W.codeIn K cd7 "_law_cell"=true) (k7:PySem.W.keepIn K (.ref f7)=true)
 (a8:PySem.W.nsIn K mainGlobals "_law_state"=some (some (.ref f8))) (l8:K.lookup f8=some ⟨oc8,od8, .func (PySem.W.fnOf "_law_state" "_law_state" (bC fY) (bh fY) (aa fY) .none kV8 dc8 pm8 an8 cd8 ct8),sl8⟩) (c8:PySem.W.codeIn K cd8 "_law_state"=true) (k8:PySem.W.keepIn K (.ref f8)=true)
 (a9:PySem.W.nsIn K mainGlobals "_law_take"=some (some (.ref f9))) (l9:K.lookup f9=some ⟨oc9,od9, .func (PySem.W.fnOf "_law_take" "_law_take" (bC cM) (bh cM) (aa cM) .none kV9 dc9 pm9 an9 cd9 ct9),sl9⟩) (c9:PySem.W.codeIn K cd9 "_law_take"=true) (k9:PySem.W.keepIn K (.ref f9)=true)
 (a10:PySem.W.nsIn K mainGlobals "_law_number"=some (some (.ref f10))) (l10:K.lookup f10=some ⟨ahJ,ahp, .func (PySem.W.fnOf "_law_number" "_law_number" (bC dU) (bh dU) (aa dU) .none ahK ahL ahM ahq aed ahN),ahC⟩) (c10:PySem.W.codeIn K aed "_law_number"=true) (k10:PySem.W.keepIn K (.ref f10)=true)
 (a11:PySem.W.nsIn K mainGlobals "_law_leaf"=some (some (.ref f11))) (l11:K.lookup f11=some ⟨ahO,ahr, .func (PySem.W.fnOf "_law_leaf" "_law_leaf" (bC fD) (bh fD) (aa fD) .none ahP ahQ ahR ahs aee ahS),ahD⟩) (c11:PySem.W.codeIn K aee "_law_leaf"=true) (k11:PySem.W.keepIn K (.ref f11)=true)
 (a12:PySem.W.nsIn K mainGlobals "_law_recipe"=some (some (.ref f12))) (l12:K.lookup f12=some ⟨ahT,aht, .func (PySem.W.fnOf "_law_recipe" "_law_recipe" (bC aH) (bh aH) (aa aH) .none ahU ahV ahW ahu aef ahX),ahE⟩) (c12:PySem.W.codeIn K aef "_law_recipe"=true) (k12:PySem.W.keepIn K (.ref f12)=true)
 (a13:PySem.W.nsIn K mainGlobals "_law_names"=some (some (.ref f13))) (l13:K.lookup f13=some ⟨ahY,ahv, .func (PySem.W.fnOf "_law_names" "_law_names" (bC gK) (bh gK) (aa gK) .none ahZ ah0 ah1 ahw aeg ah2),ahF⟩) (c13:PySem.W.codeIn K aeg "_law_names"=true) (k13:PySem.W.keepIn K (.ref f13)=true)
 (a14:PySem.W.nsIn K mainGlobals "_law_house"=some (some (.ref f14))) (l14:K.lookup f14=some ⟨ah3,ahx, .func (PySem.W.fnOf "_law_house" "_law_house" (bC aD) (bh aD) (aa aD) .none ah4 ah5 ah6 ahy aeh ah7),ahG⟩) (c14:PySem.W.codeIn K aeh "_law_house"=true) (k14:PySem.W.keepIn K (.ref f14)=true)
 (a15:PySem.W.nsIn K mainGlobals "_law_worth_told"=some (some (.ref f15))) (l15:K.lookup f15=some ⟨ah8,ahz, .func (PySem.W.fnOf "_law_worth_told" "_law_worth_told" (bC bK) (bh bK) (aa bK) .none ah9 aia aib ahA aei aic),ahH⟩) (c15:PySem.W.codeIn K aei "_law_worth_told"=true) (k15:PySem.W.keepIn K (.ref f15)=true)
 (a16:PySem.W.nsIn K mainGlobals "law"=some (some (.ref f16))) (l16:K.lookup f16=some ⟨aid,ahB, .func (PySem.W.fnOf "law" "law" (bC dN) (bh dN) (aa dN) .none aej aek ael aec abo aem),ahI⟩) (c16:PySem.W.codeIn K abo "law"=true) (k16:PySem.W.keepIn K (.ref f16)=true)
 (kd:Kinds K)
 {CK:Addr} (ACK:PySem.W.nsIn K mainGlobals "Reckoning"=some (some (.ref CK)))
 {WD:Addr}{aen aeo:Option Addr}{aep:Array (Option Value)}{aeq aer aes aet YB aeu:Value}
 (WK:PySem.W.findIn K (.ref CK) "__init__"=some (some (.ref WD))) (WL:PySem.W.isFn K (.ref WD)=true) (abp:K.lookup WD=some ⟨aeq,aen, .func (PySem.W.fnOf "__init__" "Reckoning.__init__" (bC bZ) (bh bZ) (aa bZ) .none aer aes aet aeo YB aeu),aep⟩) (abq:PySem.W.codeIn K YB "Reckoning.__init__"=true) (WM:PySem.W.keepIn K (.ref WD)=true)
 {WN:Addr}{aev aew:Option Addr}{aex:Array (Option Value)}{aey aez aeA aeB YC aeC:Value}
 (abr:PySem.W.findIn K (.ref CK) "lacking"=some (some (.ref WN))) (abt:PySem.W.isFn K (.ref WN)=true) (abu:K.lookup WN=some ⟨aey,aev, .func (PySem.W.fnOf "lacking" "Reckoning.lacking" (bC bD) (bh bD) (aa bD) .none aez aeA aeB aew YC aeC),aex⟩) (abv:PySem.W.codeIn K YC "Reckoning.lacking"=true) (WQ:PySem.W.keepIn K (.ref WN)=true)
 {WR:Addr}{aeD aeE:Option Addr}{aeF:Array (Option Value)}{aeG aeH aeI aeJ YD aeK:Value}
 (abw:PySem.W.findIn K (.ref CK) "go_on"=some (some (.ref WR))) (abx:PySem.W.isFn K (.ref WR)=true) (aby:K.lookup WR=some ⟨aeG,aeD, .func (PySem.W.fnOf "go_on" "Reckoning.go_on" (bC aJ) (bh aJ) (aa aJ) .none aeH aeI aeJ aeE YD aeK),aeF⟩) (abz:PySem.W.codeIn K YD "Reckoning.go_on"=true) (WT:PySem.W.keepIn K (.ref WR)=true)
 (abA:PySem.W.plainGet K CK Str.empty=true) (abB:PySem.W.hasDictIn K CK=true) (abC:PySem.W.plainOver K CK=true) (abD:PySem.W.findIn K (.ref CK) "__setattr__"=some (some (.builtin "object.__setattr__"))) (abE:PySem.W.makesIn K CK=true) (abF:PySem.W.keepIn K (.ref CK)=true)
 (Fx:PySem.W.findIn K (.ref CK) "todo"=some none)
 (BJ:PySem.W.findIn K (.ref CK) "found"=some none)
 (BK:PySem.W.findIn K (.ref CK) "reads"=some none)
 {CN:Addr} (ACN:PySem.W.nsIn K mainGlobals "NamedRecords"=some (some (.ref CN)))
 {WW:Addr}{aeL aeM:Option Addr}{aeN:Array (Option Value)}{aeO aeP aeQ aeR YF aeS:Value}
 (WX:PySem.W.findIn K (.ref CN) "__init__"=some (some (.ref WW))) (WY:PySem.W.isFn K (.ref WW)=true) (abG:K.lookup WW=some ⟨aeO,aeL, .func (PySem.W.fnOf "__init__" "NamedRecords.__init__" (bC aZ) (bh aZ) (aa aZ) .none aeP aeQ aeR aeM YF aeS),aeN⟩) (abH:PySem.W.codeIn K YF "NamedRecords.__init__"=true) (W0:PySem.W.keepIn K (.ref WW)=true)
 {Xa:Addr}{aeT aeU:Option Addr}{aeV:Array (Option Value)}{aeW aeX aeY aeZ YG ae0:Value}
 (abI:PySem.W.findIn K (.ref CN) "records_for"=some (some (.ref Xa))) (abJ:PySem.W.isFn K (.ref Xa)=true) (abK:K.lookup Xa=some ⟨aeW,aeT, .func (PySem.W.fnOf "records_for" "NamedRecords.records_for" (bC aM) (bh aM) (aa aM) .none aeX aeY aeZ aeU YG ae0),aeV⟩) (abL:PySem.W.codeIn K YG "NamedRecords.records_for"=true) (Xb:PySem.W.keepIn K (.ref Xa)=true)
 {Xc:Addr}{ae1 ae2:Option Addr}{ae3:Array (Option Value)}{ae4 ae5 ae6 ae7 YH ae8:Value}
 (abM:PySem.W.findIn K (.ref CN) "put_made"=some (some (.ref Xc))) (abN:PySem.W.isFn K (.ref Xc)=true) (abO:K.lookup Xc=some ⟨ae4,ae1, .func (PySem.W.fnOf "put_made" "NamedRecords.put_made" (bC cA) (bh cA) (aa cA) .none ae5 ae6 ae7 ae2 YH ae8),ae3⟩) (abP:PySem.W.codeIn K YH "NamedRecords.put_made"=true) (Xd:PySem.W.keepIn K (.ref Xc)=true)
 (abQ:PySem.W.plainGet K CN Str.empty=true) (abR:PySem.W.hasDictIn K CN=true) (abS:PySem.W.plainOver K CN=true) (abT:PySem.W.findIn K (.ref CN) "__setattr__"=some (some (.builtin "object.__setattr__"))) (abU:PySem.W.makesIn K CN=true) (abV:PySem.W.keepIn K (.ref CN)=true)
 (wQ:PySem.W.findIn K (.ref CN) "by_name"=some none)
 {CS:Addr} (ACS:PySem.W.nsIn K mainGlobals "Settling"=some (some (.ref CS)))
 {Xe:Addr}{ae9 afa:Option Addr}{afb:Array (Option Value)}{afc afd afe afg YJ afh:Value}
 (Xf:PySem.W.findIn K (.ref CS) "__init__"=some (some (.ref Xe))) (Xg:PySem.W.isFn K (.ref Xe)=true) (abW:K.lookup Xe=some ⟨afc,ae9, .func (PySem.W.fnOf "__init__" "Settling.__init__" (bC bF) (bh bF) (aa bF) .none afd afe afg afa YJ afh),afb⟩) (abX:PySem.W.codeIn K YJ "Settling.__init__"=true) (Xh:PySem.W.keepIn K (.ref Xe)=true)
 {Xi:Addr}{afi afj:Option Addr}{afk:Array (Option Value)}{afl afm afn afo YK afp:Value}
 (abY:PySem.W.findIn K (.ref CS) "lacking"=some (some (.ref Xi))) (abZ:PySem.W.isFn K (.ref Xi)=true) (ab0:K.lookup Xi=some ⟨afl,afi, .func (PySem.W.fnOf "lacking" "Settling.lacking" (bC aX) (bh aX) (aa aX) .none afm afn afo afj YK afp),afk⟩) (ab1:PySem.W.codeIn K YK "Settling.lacking"=true) (Xj:PySem.W.keepIn K (.ref Xi)=true)
 {Xk:Addr}{afq afr:Option Addr}{afs:Array (Option Value)}{aft afu afv afw YL afx:Value}
 (ab2:PySem.W.findIn K (.ref CS) "fit_on"=some (some (.ref Xk))) (ab3:PySem.W.isFn K (.ref Xk)=true) (ab4:K.lookup Xk=some ⟨aft,afq, .func (PySem.W.fnOf "fit_on" "Settling.fit_on" (bC cU) (bh cU) (aa cU) .none afu afv afw afr YL afx),afs⟩) (ab5:PySem.W.codeIn K YL "Settling.fit_on"=true) (Xl:PySem.W.keepIn K (.ref Xk)=true)
 {Xm:Addr}{afy afz:Option Addr}{afA:Array (Option Value)}{afB afC afD afE YM afF:Value}
 (ab6:PySem.W.findIn K (.ref CS) "was_reckoned"=some (some (.ref Xm))) (ab7:PySem.W.isFn K (.ref Xm)=true) (ab8:K.lookup Xm=some ⟨afB,afy, .func (PySem.W.fnOf "was_reckoned" "Settling.was_reckoned" (bC bf) (bh bf) (aa bf) .none afC afD afE afz YM afF),afA⟩) (ab9:PySem.W.codeIn K YM "Settling.was_reckoned"=true) (Xn:PySem.W.keepIn K (.ref Xm)=true)
 {Xo:Addr}{afG afH:Option Addr}{afI:Array (Option Value)}{afJ afK afL afM YQ afN:Value}
 (acd:PySem.W.findIn K (.ref CS) "new_record"=some (some (.ref Xo))) (ace:PySem.W.isFn K (.ref Xo)=true) (acf:K.lookup Xo=some ⟨afJ,afG, .func (PySem.W.fnOf "new_record" "Settling.new_record" (bC bR) (bh bR) (aa bR) .none afK afL afM afH YQ afN),afI⟩) (acg:PySem.W.codeIn K YQ "Settling.new_record"=true) (Xp:PySem.W.keepIn K (.ref Xo)=true)
 (ach:PySem.W.plainGet K CS Str.empty=true) (aci:PySem.W.hasDictIn K CS=true) (acj:PySem.W.plainOver K CS=true) (ack:PySem.W.findIn K (.ref CS) "__setattr__"=some (some (.builtin "object.__setattr__"))) (acn:PySem.W.makesIn K CS=true) (aco:PySem.W.keepIn K (.ref CS)=true)
 (zg:PySem.W.findIn K (.ref CS) "recipe"=some none)
 (wU:PySem.W.findIn K (.ref CS) "fitting"=some none)
 (BL:PySem.W.findIn K (.ref CS) "place"=some none)
 (qW:PySem.W.findIn K (.ref CS) "reckoning"=some none)
 {CE:Addr} (ACE:PySem.W.nsIn K mainGlobals "Search"=some (some (.ref CE)))
 {Xq:Addr}{afO afP:Option Addr}{afQ:Array (Option Value)}{afR afS afT afU YS afV:Value}
 (Xr:PySem.W.findIn K (.ref CE) "__init__"=some (some (.ref Xq))) (Xu:PySem.W.isFn K (.ref Xq)=true) (acp:K.lookup Xq=some ⟨afR,afO, .func (PySem.W.fnOf "__init__" "Search.__init__" (bC cD) (bh cD) (aa cD) .none afS afT afU afP YS afV),afQ⟩) (acq:PySem.W.codeIn K YS "Search.__init__"=true) (Xv:PySem.W.keepIn K (.ref Xq)=true)
 {Xw:Addr}{afW afX:Option Addr}{afY:Array (Option Value)}{afZ af0 af1 af2 YT af3:Value}
 (acr:PySem.W.findIn K (.ref CE) "begin"=some (some (.ref Xw))) (acs:PySem.W.isFn K (.ref Xw)=true) (acu:K.lookup Xw=some ⟨afZ,afW, .func (PySem.W.fnOf "begin" "Search.begin" (bC cC) (bh cC) (aa cC) .none af0 af1 af2 afX YT af3),afY⟩) (acv:PySem.W.codeIn K YT "Search.begin"=true) (Xx:PySem.W.keepIn K (.ref Xw)=true)
 {Xy:Addr}{af4 af5:Option Addr}{af6:Array (Option Value)}{af7 af8 af9 aga YW agb:Value}
 (acw:PySem.W.findIn K (.ref CE) "end"=some (some (.ref Xy))) (acy:PySem.W.isFn K (.ref Xy)=true) (acz:K.lookup Xy=some ⟨af7,af4, .func (PySem.W.fnOf "end" "Search.end" (bC dR) (bh dR) (aa dR) .none af8 af9 aga af5 YW agb),af6⟩) (acA:PySem.W.codeIn K YW "Search.end"=true) (Xz:PySem.W.keepIn K (.ref Xy)=true)
 {XC:Addr}{agc agd:Option Addr}{age:Array (Option Value)}{agf agg agh agi YX agj:Value}
 (acB:PySem.W.findIn K (.ref CE) "settle"=some (some (.ref XC))) (acC:PySem.W.isFn K (.ref XC)=true) (acD:K.lookup XC=some ⟨agf,agc, .func (PySem.W.fnOf "settle" "Search.settle" (bC aU) (bh aU) (aa aU) .none agg agh agi agd YX agj),age⟩) (acE:PySem.W.codeIn K YX "Search.settle"=true) (XD:PySem.W.keepIn K (.ref XC)=true)
 (acF:PySem.W.plainGet K CE Str.empty=true) (acG:PySem.W.hasDictIn K CE=true) (acH:PySem.W.plainOver K CE=true) (acI:PySem.W.findIn K (.ref CE) "__setattr__"=some (some (.builtin "object.__setattr__"))) (acJ:PySem.W.makesIn K CE=true) (acK:PySem.W.keepIn K (.ref CE)=true)
 (BP:PySem.W.findIn K (.ref CE) "given"=some none)
 (wV:PySem.W.findIn K (.ref CE) "recipes"=some none)
 (Ji:PySem.W.findIn K (.ref CE) "old"=some none)
 (BR:PySem.W.findIn K (.ref CE) "known"=some none)
 (wW:PySem.W.findIn K (.ref CE) "settled"=some none)
 (uF:PySem.W.findIn K (.ref CE) "reckoned"=some none)
 {CNo:Addr} (acL:PySem.W.nsIn K mainGlobals "NoName"=some (some (.ref CNo)))
 {Uh:Addr}{agk agl:Option Addr}{agm:Array (Option Value)}{agn ago agp agq YZ agr:Value}
 (acM:PySem.W.findIn K (.ref CNo) "__init__"=some (some (.ref Uh)))
 (XF:PySem.W.isFn K (.ref Uh)=true)
 (acN:K.lookup Uh=some ⟨agn,agk, .func (PySem.W.fnOf "__init__" "NoName.__init__" (bC cF) (bh cF) (aa cF) .none ago agp agq agl YZ agr),agm⟩)
 (acO:PySem.W.codeIn K YZ "NoName.__init__"=true)
 (XH:PySem.W.keepIn K (.ref Uh)=true)
 {ags aie:Str}{acP:Addr}{agt Y0:List Value}{agu:List Str}{acQ:List Value}{agv:Bool}{acR:Option Bool}{agw:Option Addr}{agx agy agz agA agB:Option Value}
 (Ui:K.lookup CNo=some (excClassObj ags aie CNo acP agt Y0 true agu acQ agv acR agw agx agy agz agA agB "ValueError.__new__"))
 (Uj:PySem.W.nsOkIn K acP=true)
 (Uk:PySem.W.nsIn K acP "__init__"=some (some (.ref Uh)))
 (Ul:PySem.W.tailIn K [.type "ValueError", .type "Exception", .type "BaseException", .type "object"] Y0=true)
 (Um:PySem.W.findIn K (.ref CNo) "__setattr__"=some (some (.builtin "object.__setattr__")))
 (Uo:PySem.W.findIn K (.ref CNo) "name"=some none)
 {CRi:Addr} (acS:PySem.W.nsIn K mainGlobals "Ring"=some (some (.ref CRi)))
 {Up:Addr}{agC agD:Option Addr}{agE:Array (Option Value)}{agF agG agH agI Y4 agJ:Value}
 (acT:PySem.W.findIn K (.ref CRi) "__init__"=some (some (.ref Up)))
 (XJ:PySem.W.isFn K (.ref Up)=true)
 (acU:K.lookup Up=some ⟨agF,agC, .func (PySem.W.fnOf "__init__" "Ring.__init__" (bC cN) (bh cN) (aa cN) .none agG agH agI agD Y4 agJ),agE⟩)
 (acV:PySem.W.codeIn K Y4 "Ring.__init__"=true)
 (XM:PySem.W.keepIn K (.ref Up)=true)
 {agK aif:Str}{acW:Addr}{agL Y5:List Value}{agM:List Str}{acX:List Value}{agN:Bool}{acY:Option Bool}{agO:Option Addr}{agP agQ agR agS agT:Option Value}
 (Uq:K.lookup CRi=some (excClassObj agK aif CRi acW agL Y5 true agM acX agN acY agO agP agQ agR agS agT "ValueError.__new__"))
 (Ur:PySem.W.nsOkIn K acW=true)
 (Us:PySem.W.nsIn K acW "__init__"=some (some (.ref Up)))
 (Ut:PySem.W.tailIn K [.type "ValueError", .type "Exception", .type "BaseException", .type "object"] Y5=true)
 (Uu:PySem.W.findIn K (.ref CRi) "__setattr__"=some (some (.builtin "object.__setattr__")))
 (Uv:PySem.W.findIn K (.ref CRi) "ring"=some none)
 {CM:Addr} (ACM:PySem.W.nsIn K mainGlobals "MadeError"=some (some (.ref CM)))
 (spM:PySem.W.specialIn K (.ref CM) "__getattribute__"=some (some (.builtin "type.__getattribute__")))
 (rdM:PySem.W.readsIn K CM (.type "type")=true)
 (fcM:PySem.W.findCls K (.ref CM) (.type "type") "__init__"=some (.val (.builtin "ValueError.__init__")))
 (eN:PySem.W.exmOne K (.ref CNo) (.ref CM)=some true)
 (eR:PySem.W.exmOne K (.ref CRi) (.ref CM)=some true)
 (Uw:PySem.W.nsIn K mainGlobals "len"=some none)
 (Jj:PySem.W.nsIn K mainGlobals "range"=some none)
 (Ux:PySem.W.nsIn K mainGlobals "str"=some none)
 (Uy:PySem.W.nsIn K mainGlobals "int"=some none)
 (M9:PySem.W.nsIn K mainGlobals "list"=some none)
 (Jk:PySem.W.nsIn K mainGlobals "tuple"=some none)
 (uG:PySem.W.nsIn K mainGlobals "isinstance"=some none)
 (Nb:PySem.W.nsIn K mainGlobals "bool"=some none)
 (Nf:PySem.W.nsIn K mainGlobals "dict"=some none)
 (Uz:PySem.W.nsIn K mainGlobals "sum"=some none)
 (UG:PySem.W.nsIn K mainGlobals "all"=some none)
 (UJ:PySem.W.nsIn K mainGlobals "any"=some none)
 (UL:PySem.W.nsIn K mainGlobals "max"=some none)
 (UT:PySem.W.nsIn K mainGlobals "min"=some none)
 (Fy:PySem.W.nsIn K mainGlobals "sorted"=some none)
 (UW:PySem.W.nsIn K mainGlobals "set"=some none)
 (wX:PySem.W.nsIn K mainGlobals "enumerate"=some none)
 (U0:PySem.W.nsIn K mainGlobals "zip"=some none)
 (zj:PySem.W.nsIn K mainGlobals "reversed"=some none)
 (U3:PySem.W.nsIn K mainGlobals "abs"=some none)
 :∃fd:FuncData,(∀(s:Shared) (v:Value),BindsTo s fd ⟨[v],[]⟩ [("script",v)])/\∀base:Heap,K.In base->base.Ns mainGlobals mg->aY l.prog w K mg base CX0 19 fa fd ["script"] (N5 K):=by
 have e:=hfa.symm.trans (PySem.W.mg_of X G a16)
 cases e
 have nH:FnT K mg "joined" jK ["kind","r","s"] _ _:=j7 X G a1 l1 c1 k1 (M8 (fun _ _ _=>rfl))
 have aW:FnT K mg "is_whole_number" bO ["thing"] _ _:=j7 X G a2 l2 c2 k2 (Ug (fun _=>rfl))
 have fP:FnT K mg "is_same" dI ["told","thing"] _ _:=j7 X G a3 l3 c3 k3 (sZ (fun _ _=>rfl))
 have fQ:FnT K mg "searched" dF ["house","old","wishes"] _ _:=j7 X G a4 l4 c4 k4 (M8 (fun _ _ _=>rfl))
 have bJ:FnT K mg "fresh_build" cG ["house","wishes"] _ _:=j7 X G a5 l5 c5 k5 (sZ (fun _ _=>rfl))
 have jP:FnT K mg "worth_of" gW ["house","name"] _ _:=j7 X G a6 l6 c6 k6 (sZ (fun _ _=>rfl))
 have dG:FnT K mg "_law_cell" gY ["script","k"] _ _:=j7 X G a7 l7 c7 k7 (sZ (fun _ _=>rfl))
 have d9:FnT K mg "_law_state" fY ["script","k"] _ _:=j7 X G a8 l8 c8 k8 (sZ (fun _ _=>rfl))
 have aA:FnT K mg "_law_take" cM ["state","many"] _ _:=j7 X G a9 l9 c9 k9 (sZ (fun _ _=>rfl))
 have dh:FnT K mg "_law_number" dU ["state"] _ _:=j7 X G a10 l10 c10 k10 (Ug (fun _=>rfl))
 have fG:FnT K mg "_law_leaf" fD ["state","some"] _ _:=j7 X G a11 l11 c11 k11 (sZ (fun _ _=>rfl))
 have aK:FnT K mg "_law_recipe" aH ["state","some","deep"] _ _:=j7 X G a12 l12 c12 k12 (M8 (fun _ _ _=>rfl))
 have eF:FnT K mg "_law_names" gK [] _ _:=j7 X G a13 l13 c13 k13 (len0 rfl)
 have jl:FnT K mg "_law_house" aD ["script","first"] _ _:=j7 X G a14 l14 c14 k14 (sZ (fun _ _=>rfl))
 have eG:FnT K mg "_law_worth_told" bK ["house","name"] _ _:=j7 X G a15 l15 c15 k15 (sZ (fun _ _=>rfl))
 have Ud:FnT K mg "law" dN ["script"] _ _:=j7 X G a16 l16 c16 k16 (Ug (fun _=>rfl))
 have d8:fX K CK "__init__" "Reckoning.__init__" bZ ["self","r"] _ _:=⟨jC abp abq WM,Binds.all (sZ (fun _ _=>rfl)),⟨WK,WL,WM⟩⟩
 have dD:fX K CK "lacking" "Reckoning.lacking" bD ["self","known"] _ _:=⟨jC abu abv WQ,Binds.all (sZ (fun _ _=>rfl)),⟨abr,abt,WQ⟩⟩
 have eY:fX K CK "go_on" "Reckoning.go_on" aJ ["self","step"] _ _:=⟨jC aby abz WT,Binds.all (sZ (fun _ _=>rfl)),⟨abw,abx,WT⟩⟩
 have aih:Cls K CK:=⟨abA,abB,abC,abD⟩
 have v9:Mk K CK _:=⟨abE,WK,WL,abF⟩
 have wg:=PySem.W.mg_of X G ACK
 have bw:fX K CN "__init__" "NamedRecords.__init__" aZ ["self","records"] _ _:=⟨jC abG abH W0,Binds.all (sZ (fun _ _=>rfl)),⟨WX,WY,W0⟩⟩
 have bQ:fX K CN "records_for" "NamedRecords.records_for" aM ["self","name","r"] _ _:=⟨jC abK abL Xb,Binds.all (M8 (fun _ _ _=>rfl)),⟨abI,abJ,Xb⟩⟩
 have cB:fX K CN "put_made" "NamedRecords.put_made" cA ["self","record"] _ _:=⟨jC abO abP Xd,Binds.all (sZ (fun _ _=>rfl)),⟨abM,abN,Xd⟩⟩
 have aii:Cls K CN:=⟨abQ,abR,abS,abT⟩
 have jc:Mk K CN _:=⟨abU,WX,WY,abV⟩
 have jd:=PySem.W.mg_of X G ACN
 have fH:fX K CS "__init__" "Settling.__init__" bF ["self","r","records"] _ _:=⟨jC abW abX Xh,Binds.all (M8 (fun _ _ _=>rfl)),⟨Xf,Xg,Xh⟩⟩
 have dX:fX K CS "lacking" "Settling.lacking" aX ["self","known"] _ _:=⟨jC ab0 ab1 Xj,Binds.all (sZ (fun _ _=>rfl)),⟨abY,abZ,Xj⟩⟩
 have fu:fX K CS "fit_on" "Settling.fit_on" cU ["self","worth"] _ _:=⟨jC ab4 ab5 Xl,Binds.all (sZ (fun _ _=>rfl)),⟨ab2,ab3,Xl⟩⟩
 have aR:fX K CS "was_reckoned" "Settling.was_reckoned" bf ["self"] _ _:=⟨jC ab8 ab9 Xn,Binds.all (Ug (fun _=>rfl)),⟨ab6,ab7,Xn⟩⟩
 have cP:fX K CS "new_record" "Settling.new_record" bR ["self"] _ _:=⟨jC acf acg Xp,Binds.all (Ug (fun _=>rfl)),⟨acd,ace,Xp⟩⟩
 have aij:Cls K CS:=⟨ach,aci,acj,ack⟩
 have yL:Mk K CS _:=⟨acn,Xf,Xg,aco⟩
 have yM:=PySem.W.mg_of X G ACS
 have gh:fX K CE "__init__" "Search.__init__" cD ["self","house","old"] _ _:=⟨jC acp acq Xv,Binds.all (M8 (fun _ _ _=>rfl)),⟨Xr,Xu,Xv⟩⟩
 have gU:fX K CE "begin" "Search.begin" cC ["self","name"] _ _:=⟨jC acu acv Xx,Binds.all (sZ (fun _ _=>rfl)),⟨acr,acs,Xx⟩⟩
 have jo:fX K CE "end" "Search.end" dR ["self","name","settling"] _ _:=⟨jC acz acA Xz,Binds.all (M8 (fun _ _ _=>rfl)),⟨acw,acy,Xz⟩⟩
 have gB:fX K CE "settle" "Search.settle" aU ["self","name"] _ _:=⟨jC acD acE XD,Binds.all (sZ (fun _ _=>rfl)),⟨acB,acC,XD⟩⟩
 have aik:Cls K CE:=⟨acF,acG,acH,acI⟩
 have Fl:Mk K CE _:=⟨acJ,Xr,Xu,acK⟩
 have Fo:=PySem.W.mg_of X G ACE
 have T:Blt mg:=⟨PySem.W.mg_none_of X G Uw,PySem.W.mg_none_of X G Jj,PySem.W.mg_none_of X G Ux,PySem.W.mg_none_of X G Uy,PySem.W.mg_none_of X G M9,PySem.W.mg_none_of X G Jk,PySem.W.mg_none_of X G uG,PySem.W.mg_none_of X G Nb,PySem.W.mg_none_of X G Nf,PySem.W.mg_none_of X G Uz,PySem.W.mg_none_of X G UG,PySem.W.mg_none_of X G UJ,PySem.W.mg_none_of X G UL,PySem.W.mg_none_of X G UT,PySem.W.mg_none_of X G Fy,PySem.W.mg_none_of X G UW,PySem.W.mg_none_of X G wX,PySem.W.mg_none_of X G U0,PySem.W.mg_none_of X G zj,PySem.W.mg_none_of X G U3⟩
 refine⟨PySem.W.fnOf "law" "law" (bC dN) (bh dN) (aa dN) .none aej aek ael aec abo aem,fun s v=> .of_eq rfl,fun base _ _=> ?_⟩
 have gj:fX K CNo "__init__" "NoName.__init__" cF ["self","name"] _ _:=⟨jC acN acO XH,Binds.all (sZ (fun _ _=>rfl)),⟨acM,XF,XH⟩⟩
 have iC:fX K CRi "__init__" "Ring.__init__" cN ["self","ring"] _ _:=⟨jC acU acV XM,Binds.all (sZ (fun _ _=>rfl)),⟨acT,XJ,XM⟩⟩
 have xG:ExI K CNo _:=⟨⟨_,_,_,_,_,_,_,_,_,_,_,_,_,_,_,Ui,Uj,Uk,Ul⟩,Um⟩
 have KH:ExI K CRi _:=⟨⟨_,_,_,_,_,_,_,_,_,_,_,_,_,_,_,Uq,Ur,Us,Ut⟩,Uu⟩
 have cuM:ExU K CM:=⟨spM,rdM,fcM⟩
 have mM:=PySem.W.mg_of X G ACM
 have mNo:=PySem.W.mg_of X G acL
 have mRi:=PySem.W.mg_of X G acS
 have NI:=yK (P:=l.prog) (w:=w) (base:=base) (mg:=mg) gj xG cuM mM Uo
 have RI:=Bq (P:=l.prog) (w:=w) (base:=base) (mg:=mg) iC KH cuM mM Uv T
 have rkc:RkC K CK:=⟨aih,Fx,BJ,BK⟩
 have nrc:NrC K CN:=⟨aii,wQ⟩
 have sec:SeC K CS:=⟨aij,zg,wU,BL,qW⟩
 have src:SrC K CE:=⟨aik,BP,wV,Ji,BR,wW,uF⟩
 have D1:=QJ (P:=l.prog) (w:=w) (base:=base) nH T
 have D2:=uT (P:=l.prog) (w:=w) (base:=base) (mg:=mg) d8 rkc
 have D3:=yz (P:=l.prog) (w:=w) (base:=base) eY nH D1 T rkc
 have D4:=vR (P:=l.prog) (w:=w) (base:=base) dD eY D3 T rkc
 have D5:=yD (P:=l.prog) (w:=w) (base:=base) aW T kd
 have D6:=Fi (P:=l.prog) (w:=w) (base:=base) fP aW D5 T kd 10
 have D7:=qG (P:=l.prog) (w:=w) (base:=base) (mg:=mg) bw nrc
 have D8:=qI (P:=l.prog) (w:=w) (base:=base) (mg:=mg) cB
 have D9:=o6 (P:=l.prog) (w:=w) (base:=base) bQ fP D6 T nrc
 have C1:=v7 (P:=l.prog) (w:=w) (base:=base) fH d8 D2 v9 wg sec
 have C2:=qK (P:=l.prog) (w:=w) (base:=base) aR T sec
 have C3:=yG (P:=l.prog) (w:=w) (base:=base) (mg:=mg) fu sec
 have C4:=xJ (P:=l.prog) (w:=w) (base:=base) dX fu C3 dD D4 T sec rkc
 have C5:=uo (P:=l.prog) (w:=w) (base:=base) cP aR C2 T sec rkc
 have C6:=yI (P:=l.prog) (w:=w) (base:=base) (mg:=mg) gh src
 have C7:=Cq (P:=l.prog) (w:=w) (base:=base) (CRi:=CRi) gU bQ D9 fH C1 yL yM gj NI xG XF mNo T src nrc
 have C8:=Ge (P:=l.prog) (w:=w) (base:=base) jo cP C5 aR C2 cB D8 T src sec nrc
 have C9:=Br (P:=l.prog) (w:=w) (base:=base) gB gU C7 dX C4 jo C8 iC RI KH XJ mRi T src sec
 have CC:=KJ (P:=l.prog) (w:=w) (base:=base) fQ gh C6 gB C9 Fl Fo T src
 have DF:=Fp (P:=l.prog) (w:=w) (base:=base) bJ fQ CC bw D7 jc jd T src
 have DW:=KR (P:=l.prog) (w:=w) (base:=base) jP fQ CC bw D7 jc jd T src
 have F1:=KZ (P:=l.prog) (w:=w) (base:=base) dG T
 have F2:=IK (P:=l.prog) (w:=w) (base:=base) d9 dG F1 T
 have F3:=K6 (P:=l.prog) (w:=w) (base:=base) aA T
 have F4:=Gf (P:=l.prog) (w:=w) (base:=base) dh aA F3 T
 have F5:=K8 (P:=l.prog) (w:=w) (base:=base) fG aA F3 dh F4 T
 have F6:=Fq (P:=l.prog) (w:=w) (base:=base) aK aA F3 fG F5 T
 have F7:=IW (P:=l.prog) (w:=w) (base:=base) eF T
 have F8:=Ja (P:=l.prog) (w:=w) (base:=base) jl dG F1 d9 F2 aA F3 dh F4 aK F6 eF F7 T
 have F9:=Ac (P:=l.prog) (w:=w) (base:=base) eG eN eR jP DW mM T
 exact abj Ud jl F8 d9 F2 aA F3 eF F7 eG F9 bJ DF T
theorem walk {l:PySem.W.OpenLaw}{q:Program}{loose:List Str}{XP:(Str->Option Value)->Heap->Prop}{YP:World->Heap->Prop}{d:DefRec}{K:Params->PySem.W.Frag} (hn:l.most=some 63) (hdf:d.params.defaults=[])
 (hY:∀(w:World) (h:Heap),YP w h->(K w.params).In h)
 (F:∀(w:World) (mg:Str->Option Value) (fa:Addr) (h:Heap),(K w.params).In h->h.Ns mainGlobals mg->mg d.name=some (.ref fa)->
   ∃fd:FuncData,(∀(s:Shared) (u:Value),BindsTo s fd ⟨[u],[]⟩ [("script",u)])/\∀base:Heap,(K w.params).In base->base.Ns mainGlobals mg->aY l.prog w (K w.params) mg base CX0 19 fa fd ["script"] (N5 (K w.params))):
 PySem.W.WalkO q loose XP YP l.row.toRowW d [] (fun f vs=>PySem.call f vs):=
 L2.NK (n:=63) (k:=19) (x:="script") (CX:=fun _=>CX0) (sp:=fun w=>N5 (K w.params)) hn (by decide) hdf ⟨rfl,by decide,by decide⟩ hY F (fun _ _ a ns hl _ hS=>⟨a,ns,rfl,hS,hl,fun _=>rfl⟩) fun _ _ _ _ _ z=>z
end K18
open PySem PySem.W PyProof.Rows
namespace PySem.W.Fast
def tw17408549252553581336:Nat:=0
def tw2633527295404226284:Nat:=0
def tw16201729539112957888:Nat:=0
def tw5163272621646951206:Nat:=0
def tw7510039385735107555:Nat:=0
def tw16985422867294357393:Nat:=0
def tw14051733208132551655:Nat:=0
def tw10828052423113565078:Nat:=0
def tw17931814782728759391:Nat:=0
def tw4179288223189080266:Nat:=0
def tw14917634455904738564:Nat:=0
def tw11384288262191601174:Nat:=0
def tw16194328172741855996:Nat:=0
def tw14601532164152358356:Nat:=0
def tw18317745256419858221:Nat:=0
def tw11936024884365656983:Nat:=0
def tw16613476022218542914:Nat:=0
def tw5152764842276574995:Nat:=0
def tw1703925205181736915:Nat:=0
def tw14575874701716704454:Nat:=0
def tw668284295960412906:Nat:=0
def tw9008189558852477841:Nat:=0
def tw3556864247730688245:Nat:=0
def tw10651251166033708468:Nat:=0
def tw9615189542675987301:Nat:=0
def tw12915212993957634101:Nat:=0
def tw7704236488979584128:Nat:=0
def tw1842160915347515186:Nat:=0
def tw5520521682343618430:Nat:=0
def tw8916162909364572213:Nat:=0
def tw6311671057909147406:Nat:=0
def tw16692503237180456852:Nat:=0
def tw322359625784238206:Nat:=0
def tw16536123821263869581:Nat:=0
def tw5452067827970416799:Nat:=0
def tw16002700308362588755:Nat:=0
def tw324096296294153423:Nat:=0
def tw16593738836796703703:Nat:=0
def tw18396591320959985988:Nat:=0
def tw8178059006285266529:Nat:=0
def tw16926481031193173372:Nat:=0
def tw14475197950215075843:Nat:=0
def tw8846979651440238054:Nat:=0
def tw12352786065882171561:Nat:=0
def tw3280443672522430010:Nat:=0
def tw6388213934167665651:Nat:=0
def tw3817393668726885768:Nat:=0
def tw16677877041785219390:Nat:=0
def tw1925607291768505745:Nat:=0
def tw9019734905413194151:Nat:=0
def tw685970868441390464:Nat:=0
def tw7434260733019489592:Nat:=0
def tw10861128305832687227:Nat:=0
def tw2539361127878470742:Nat:=0
def tw5192779252766930908:Nat:=0
def tw18385451532838995169:Nat:=0
def tw1886666326329120737:Nat:=0
def tw16966199900034039494:Nat:=0
def tw17185577627090959131:Nat:=0
def tw13457086713575310319:Nat:=0
def tw4911951084419273535:Nat:=0
def tw9956357925865998721:Nat:=0
def tw6251973369500945016:Nat:=0
def tw12705750424357552583:Nat:=0
def tw15149579940161920808:Nat:=0
def tw14466086373273957865:Nat:=0
def tw10136945508812525034:Nat:=0
def tw2610285958511663816:Nat:=0
def tw5272633825690747449:Nat:=0
def tw2262077885319814054:Nat:=0
def tw14632670888671769473:Nat:=0
def tw17289861303454397996:Nat:=0
def tw5780401124437137922:Nat:=0
def tw16549118501589975219:Nat:=0
def tw16036409387495706360:Nat:=0
def tw1468387978623196800:Nat:=0
def tw9380306273191142168:Nat:=0
def tw12981174897795362913:Nat:=0
def tw3552376186766501525:Nat:=0
def tw10127680741468621161:Nat:=0
def tw4536150471623621397:Nat:=0
def tw6467364075607150344:Nat:=0
def tw15427704747046636213:Nat:=0
def tw16605571258959561986:Nat:=0
def tw3038992322581159040:Nat:=0
def tw3518290428240355591:Nat:=0
def tw10915838430781579960:Nat:=0
def tw5143153963126822021:Nat:=0
def tw10739154569656620085:Nat:=0
def tw9863552770113684813:Nat:=0
def tw18432628538535380006:Nat:=0
def tw7656863077810724505:Nat:=0
def tw2115775993111217261:Nat:=0
def tw7711806945926624989:Nat:=0
def tw7998123397541570599:Nat:=0
def tw1166862846361423868:Nat:=0
def tw15683734812158735687:Nat:=0
def tw4319212675902194035:Nat:=0
def tw3243993899040927446:Nat:=0
def tw6660050700927537458:Nat:=0
def tw16237579927097750483:Nat:=0
def tw1545229614108885981:Nat:=0
def tw6962774166884206136:Nat:=0
def tw12856871925915553406:Nat:=0
def tw1028626493315331149:Nat:=0
def tw5314943947010299622:Nat:=0
def tw13606682846197070320:Nat:=0
def tw5001124404938815149:Nat:=0
def tw1149304101550816045:Nat:=0
def tw14553518925173602097:Nat:=0
def tw6828968803756623255:Nat:=0
def tw201306802730356130:Nat:=0
def tw6204373791347114631:Nat:=0
def tw2220166002326545415:Nat:=0
def tw16023707806417547182:Nat:=0
def tw18280296863464285023:Nat:=0
def tw11665544149618766520:Nat:=0
def tw1749980308248089942:Nat:=0
def tw9580622989712043120:Nat:=0
def tw1743644542995187701:Nat:=0
def tw4273057606200254489:Nat:=0
def tw1450032947840444271:Nat:=0
def tw7261959697342955373:Nat:=0
def tw3814663370088358612:Nat:=0
def tw15669890611030243968:Nat:=0
def tw8948126464496710217:Nat:=0
def tw3927319753207339520:Nat:=0
def tw3718747415242398082:Nat:=0
def tw17994519867422650753:Nat:=0
def tw7202399358474446820:Nat:=0
def tw14738702859197618721:Nat:=0
def tw8005365748418793339:Nat:=0
def tw950130722668882176:Nat:=0
def tw13446907118580605217:Nat:=0
def tw4964353714808052555:Nat:=0
def tw3999556995373218012:Nat:=0
def tw11023422556238796376:Nat:=0
def tw4798544302049595385:Nat:=0
def tw10381538994257970892:Nat:=0
def tw11944875705799158644:Nat:=0
def tw6339588737110179002:Nat:=0
def tw6718204908989268577:Nat:=0
def tw2371694057802138079:Nat:=0
def tw7599675241184106792:Nat:=0
def tw3804593904954261671:Nat:=0
def tw15327008887301198661:Nat:=0
def tw17860261250361456232:Nat:=0
def tw17909060492787504458:Nat:=0
def tw6013943964103840868:Nat:=0
def tw9475800920140912583:Nat:=0
def tw9658337631367919139:Nat:=0
def tw3458694320346009544:Nat:=0
def tw4436936131682351664:Nat:=0
def tw6148470580673400512:Nat:=0
def tw2231631160119452420:Nat:=0
def tw12204283924111152365:Nat:=0
def tw17731984774439594823:Nat:=0
def tw18397353099866200106:Nat:=0
def tw1977354211047565232:Nat:=0
def tw1884823110056330930:Nat:=0
def tw10657498699892012351:Nat:=0
def tw10793376404158374541:Nat:=0
def tw12611051759163557891:Nat:=0
def tw8995220533983963757:Nat:=0
def tw479505471454557747:Nat:=0
def tw8716384188000298387:Nat:=0
def tw7483983537715908230:Nat:=0
def tw15338389875065084802:Nat:=0
def tw13429362728113526603:Nat:=0
def tw9358949147481477523:Nat:=0
def tw12140639756109596062:Nat:=0
def tw16798007526311351561:Nat:=0
def tw13045769809858556934:Nat:=0
def tw654648838345022279:Nat:=0
def tw12729006151439435182:Nat:=0
def tw17212706926406080090:Nat:=0
def tw9248383886037657034:Nat:=0
def tw7746702239635707521:Nat:=0
def tw18353510562697960580:Nat:=0
def tw1428072287614665960:Nat:=0
def tw4007055737790714804:Nat:=0
def tw4110228602970657529:Nat:=0
def tw14715873787000661903:Nat:=0
def tw9079407446222900951:Nat:=0
def tw16217351281936590150:Nat:=0
def tw1948788266797801783:Nat:=0
def tw9014958113105781968:Nat:=0
def tw10738982948711091252:Nat:=0
def tw9478916761210863930:Nat:=0
def tw13481812280454228385:Nat:=0
def tw15944009703315172162:Nat:=0
def tw13871383710144453275:Nat:=0
def tw6434984126424780547:Nat:=0
def tw10793543250317779330:Nat:=0
def tw3284519599893401558:Nat:=0
def tw1312673718733427457:Nat:=0
def tw8353741836843030669:Nat:=0
def tw16012600834957646800:Nat:=0
def tw6085496173916766407:Nat:=0
def tw5506083687335719600:Nat:=0
def tw3262047196241905502:Nat:=0
def tw17713198839938187447:Nat:=0
def tw12193560736852469597:Nat:=0
def tw4963730700503701895:Nat:=0
def tw1012318725681029304:Nat:=0
def tw7263907460593827226:Nat:=0
def tw14083840358778480287:Nat:=0
def tw1594492070487683492:Nat:=0
def tw5202180715350292834:Nat:=0
def tw1620756547473522665:Nat:=0
def tw4282480687816046226:Nat:=0
def tw12146529616976677425:Nat:=0
def tw5749533812509112557:Nat:=0
def tw1639677438870482402:Nat:=0
def tw15234559761880805914:Nat:=0
def tw11276807470269541612:Nat:=0
def tw6209792747949648694:Nat:=0
def tw7158260664429516425:Nat:=0
def tw16128054917867836592:Nat:=0
def tw7570614486111020801:Nat:=0
def tw5984486374607552789:Nat:=0
def tw2402579187417297983:Nat:=0
def tw16141163635930117313:Nat:=0
def tw16537160468621496332:Nat:=0
def tw16758686773747586784:Nat:=0
def tw2366763249845777120:Nat:=0
def tw2529676338326918680:Nat:=0
def tw353808087217963898:Nat:=0
def tw8267375260283783963:Nat:=0
def tw2453237926750433863:Nat:=0
def tw6142357042511285913:Nat:=0
def tw13708369316352556500:Nat:=0
def tw13928276359480105417:Nat:=0
def tw11643577714767807234:Nat:=0
def tw10348729081587910732:Nat:=0
def tw583476828418998242:Nat:=0
def tw11271742350739344040:Nat:=0
def tw9495273904010488352:Nat:=0
def tw16537500296422986738:Nat:=0
def tw12441969473689867553:Nat:=0
def tw3142059450547930919:Nat:=0
def tw5156022162364846242:Nat:=0
def tw14402348258550282860:Nat:=0
def tw3073883492249142277:Nat:=0
def tw1051088924921395753:Nat:=0
def tw13935173700603176600:Nat:=0
def tw16192398315237743626:Nat:=0
def tw16394815862020838367:Nat:=0
def tw16259220004009195489:Nat:=0
def tw16580591781489511045:Nat:=0
def tw3816603908962908634:Nat:=0
def tw13138439972443813296:Nat:=0
def tw9678012512654951230:Nat:=0
def tw14736186814389395673:Nat:=0
def tw4475686978961316684:Nat:=0
def tw15264764226530337853:Nat:=0
def tw11708986082038280476:Nat:=0
def tw5661539266281273282:Nat:=0
def tw18386433272740151647:Nat:=0
def tw4086092915414237959:Nat:=0
def tw8483542651945570647:Nat:=0
def tw1576473310012617887:Nat:=0
def tw17914415375644719221:Nat:=0
def tw13168823691637105261:Nat:=0
def tw260733790754885048:Nat:=0
def tw1885372713233957677:Nat:=0
def tw9116767296030907307:Nat:=0
def tw12660148761819091807:Nat:=0
def tw2905087526359703541:Nat:=0
def tw4161971822026672575:Nat:=0
def tw4128047971440486689:Nat:=0
def tw12728457840896332457:Nat:=0
def tw5924215622465285984:Nat:=0
def tw3167824484071827836:Nat:=0
def tw7431431780195727047:Nat:=0
def tw17321979656125307768:Nat:=0
def tw4985245146798359203:Nat:=0
def tw5164463629881796356:Nat:=0
def tw12935933167698072239:Nat:=0
def tw18402371530704805211:Nat:=0
def tw7639833651417223588:Nat:=0
def tw9262847709288774941:Nat:=0
def tw9215333137894136819:Nat:=0
def tw14154822514433237360:Nat:=0
def tw2881491099574889047:Nat:=0
def tw1224737583494744601:Nat:=0
def tw4559472925603432583:Nat:=0
def tw2084874844627080455:Nat:=0
def tw15590812152932831865:Nat:=0
def tw18382676672898787674:Nat:=0
def tw16915625975222874640:Nat:=0
def tw696589923611786017:Nat:=0
def tw571295391136533346:Nat:=0
def tw17774522565788564113:Nat:=0
def tw17076800375043715982:Nat:=0
def tw10950832694033386346:Nat:=0
def tw7381777429228438763:Nat:=0
def tw1682109441239498915:Nat:=0
def tw9826670247573806842:Nat:=0
def tw3864072908287049656:Nat:=0
def tw985361049378227639:Nat:=0
def tw12601573759146112621:Nat:=0
def tw15803482230886516958:Nat:=0
def tw6354664803323615483:Nat:=0
def tw13327291890109175027:Nat:=0
def tw13217999648713195436:Nat:=0
def tw17931027363181780612:Nat:=0
def tw9201480859787391788:Nat:=0
def tw4455907911405221024:Nat:=0
def tw3700473859052511998:Nat:=0
def tw9996605157758082364:Nat:=0
def tw3890757061947105552:Nat:=0
def tw2273889288783324990:Nat:=0
def tw14656799781255772286:Nat:=0
def tw1176816359804017020:Nat:=0
def tw2897298698171526225:Nat:=0
def tw7854941556717147529:Nat:=0
def tw13119557399139487587:Nat:=0
def tw10606760269436762874:Nat:=0
def tw12649990646483552425:Nat:=0
def tw14118512103432889177:Nat:=0
def tw9692653619364474194:Nat:=0
def tw6338629929012153088:Nat:=0
def tw2340352254983774610:Nat:=0
def tw15866375363731539394:Nat:=0
def tw12132898458694076281:Nat:=0
def tw3967637404130304752:Nat:=0
def tw2234377851844432394:Nat:=0
def tw15906798135250660262:Nat:=0
def tw8502198331524900524:Nat:=0
def tw140322340755013748:Nat:=0
def tw14047029133484074627:Nat:=0
def tw8421353990332985627:Nat:=0
end PySem.W.Fast
set_option maxRecDepth 100000 in
set_option maxHeartbeats 0 in
theorem PySem.Challenge.cw_madeagain_k18_whole_wishes_turned_about_holds : PySem.Challenge.rw_madeagain_k18_whole_wishes_turned_about.Holds := by
 w_on;o_law;k_head;(case hw=>w_witness2)
 k_fill
 refine K18.walk (l:=PySem.Challenge.rw_madeagain_k18_whole_wishes_turned_about) rfl rfl (fun w h Y=>PySem.W.kIn_of Y) ?F
 case F=>
  intro w mg fa h KX G hmg
  refine' K18.all_mk KX G hmg ?a1 ?l1 ?c1 ?k1 ?a2 ?l2 ?c2 ?k2 ?a3 ?l3 ?c3 ?k3 ?a4 ?l4 ?c4 ?k4 ?a5 ?l5 ?c5 ?k5 ?a6 ?l6 ?c6 ?k6 ?a7 ?l7 ?c7 ?k7 ?a8 ?l8 ?c8 ?k8 ?a9 ?l9 ?c9 ?k9 ?a10 ?l10 ?c10 ?k10 ?a11 ?l11 ?c11 ?k11 ?a12 ?l12 ?c12 ?k12 ?a13 ?l13 ?c13 ?k13 ?a14 ?l14 ?c14 ?k14 ?a15 ?l15 ?c15 ?k15 ?a16 ?l16 ?c16 ?k16 ?kd ?ACK ?WK ?WL ?abp ?abq ?WM ?abr ?abt ?abu ?abv ?WQ ?abw ?abx ?aby ?abz ?WT ?abA ?abB ?abC ?abD ?abE ?abF ?Fx ?BJ ?BK ?ACN ?WX ?WY ?abG ?abH ?W0 ?abI ?abJ ?abK ?abL ?Xb ?abM ?abN ?abO ?abP ?Xd ?abQ ?abR ?abS ?abT ?abU ?abV ?wQ ?ACS ?Xf ?Xg ?abW ?abX ?Xh ?abY ?abZ ?ab0 ?ab1 ?Xj ?ab2 ?ab3 ?ab4 ?ab5 ?Xl ?ab6 ?ab7 ?ab8 ?ab9 ?Xn ?acd ?ace ?acf ?acg ?Xp ?ach ?aci ?acj ?ack ?acn ?aco ?zg ?wU ?BL ?qW ?ACE ?Xr ?Xu ?acp ?acq ?Xv ?acr ?acs ?acu ?acv ?Xx ?acw ?acy ?acz ?acA ?Xz ?acB ?acC ?acD ?acE ?XD ?acF ?acG ?acH ?acI ?acJ ?acK ?BP ?wV ?Ji ?BR ?wW ?uF ?acL ?acM ?XF ?acN ?acO ?XH ?Ui ?Uj ?Uk ?Ul ?Um ?Uo ?acS ?acT ?XJ ?acU ?acV ?XM ?Uq ?Ur ?Us ?Ut ?Uu ?Uv ?ACM ?spM ?rdM ?fcM ?eN ?eR ?Uw ?Jj ?Ux ?Uy ?M9 ?Jk ?uG ?Nb ?Nf ?Uz ?UG ?UJ ?UL ?UT ?Fy ?UW ?wX ?U0 ?zj ?U3
  (case a1=>k_is);(case l1=>k_is);(case c1=>k_is);(case k1=>k_is)
  (case a2=>k_is);(case l2=>k_is);(case c2=>k_is);(case k2=>k_is)
  (case a3=>k_is);(case l3=>k_is);(case c3=>k_is);(case k3=>k_is)
  (case a4=>k_is);(case l4=>k_is);(case c4=>k_is);(case k4=>k_is)
  (case a5=>k_is);(case l5=>k_is);(case c5=>k_is);(case k5=>k_is)
  (case a6=>k_is);(case l6=>k_is);(case c6=>k_is);(case k6=>k_is)
  (case a7=>k_is);(case l7=>k_is);(case c7=>k_is);(case k7=>k_is)
  (case a8=>k_is);(case l8=>k_is);(case c8=>k_is);(case k8=>k_is)
  (case a9=>k_is);(case l9=>k_is);(case c9=>k_is);(case k9=>k_is)
  (case a10=>k_is);(case l10=>k_is);(case c10=>k_is);(case k10=>k_is)
  (case a11=>k_is);(case l11=>k_is);(case c11=>k_is);(case k11=>k_is)
  (case a12=>k_is);(case l12=>k_is);(case c12=>k_is);(case k12=>k_is)
  (case a13=>k_is);(case l13=>k_is);(case c13=>k_is);(case k13=>k_is)
  (case a14=>k_is);(case l14=>k_is);(case c14=>k_is);(case k14=>k_is)
  (case a15=>k_is);(case l15=>k_is);(case c15=>k_is);(case k15=>k_is)
  (case a16=>k_is);(case l16=>k_is);(case c16=>k_is);(case k16=>k_is)
  (case kd=>exact RB.RQ (by kernel_rfl))
  (case ACK=>k_is);(case WK=>k_is);(case WL=>k_is);(case abp=>k_is);(case abq=>k_is);(case WM=>k_is);(case abr=>k_is);(case abt=>k_is);(case abu=>k_is);(case abv=>k_is);(case WQ=>k_is);(case abw=>k_is);(case abx=>k_is);(case aby=>k_is);(case abz=>k_is);(case WT=>k_is);(case abA=>k_is);(case abB=>k_is);(case abC=>k_is);(case abD=>k_is);(case abE=>k_is);(case abF=>k_is);(case Fx=>k_is);(case BJ=>k_is);(case BK=>k_is);(case ACN=>k_is);(case WX=>k_is);(case WY=>k_is);(case abG=>k_is);(case abH=>k_is);(case W0=>k_is);(case abI=>k_is);(case abJ=>k_is);(case abK=>k_is);(case abL=>k_is);(case Xb=>k_is);(case abM=>k_is);(case abN=>k_is);(case abO=>k_is);(case abP=>k_is);(case Xd=>k_is);(case abQ=>k_is);(case abR=>k_is);(case abS=>k_is);(case abT=>k_is);(case abU=>k_is);(case abV=>k_is);(case wQ=>k_is);(case ACS=>k_is);(case Xf=>k_is);(case Xg=>k_is);(case abW=>k_is);(case abX=>k_is);(case Xh=>k_is);(case abY=>k_is);(case abZ=>k_is);(case ab0=>k_is);(case ab1=>k_is);(case Xj=>k_is);(case ab2=>k_is);(case ab3=>k_is);(case ab4=>k_is);(case ab5=>k_is);(case Xl=>k_is);(case ab6=>k_is);(case ab7=>k_is);(case ab8=>k_is);(case ab9=>k_is);(case Xn=>k_is);(case acd=>k_is);(case ace=>k_is);(case acf=>k_is);(case acg=>k_is);(case Xp=>k_is);(case ach=>k_is);(case aci=>k_is);(case acj=>k_is);(case ack=>k_is);(case acn=>k_is);(case aco=>k_is);(case zg=>k_is);(case wU=>k_is);(case BL=>k_is);(case qW=>k_is);(case ACE=>k_is);(case Xr=>k_is);(case Xu=>k_is);(case acp=>k_is);(case acq=>k_is);(case Xv=>k_is);(case acr=>k_is);(case acs=>k_is);(case acu=>k_is);(case acv=>k_is);(case Xx=>k_is);(case acw=>k_is);(case acy=>k_is);(case acz=>k_is);(case acA=>k_is);(case Xz=>k_is);(case acB=>k_is);(case acC=>k_is);(case acD=>k_is);(case acE=>k_is);(case XD=>k_is);(case acF=>k_is);(case acG=>k_is);(case acH=>k_is);(case acI=>k_is);(case acJ=>k_is);(case acK=>k_is);(case BP=>k_is);(case wV=>k_is);(case Ji=>k_is);(case BR=>k_is);(case wW=>k_is);(case uF=>k_is)
  (case acL=>k_is)
  (case acM=>k_is)
  (case XF=>k_is)
  (case acN=>k_is)
  (case acO=>k_is)
  (case XH=>k_is)
  (case Ui=>k_is)
  (case Uj=>kernel_rfl)
  (case Uk=>kernel_rfl)
  (case Ul=>kernel_rfl)
  (case Um=>kernel_rfl)
  (case Uo=>kernel_rfl)
  (case acS=>k_is)
  (case acT=>k_is)
  (case XJ=>k_is)
  (case acU=>k_is)
  (case acV=>k_is)
  (case XM=>k_is)
  (case Uq=>k_is)
  (case Ur=>kernel_rfl)
  (case Us=>kernel_rfl)
  (case Ut=>kernel_rfl)
  (case Uu=>kernel_rfl)
  (case Uv=>kernel_rfl)
  (case ACM=>k_is)
  (case spM=>kernel_rfl)
  (case rdM=>kernel_rfl)
  (case fcM=>kernel_rfl)
  (case eN=>kernel_rfl)
  (case eR=>kernel_rfl)
  (case Uw=>k_is);(case Jj=>k_is);(case Ux=>k_is);(case Uy=>k_is);(case M9=>k_is);(case Jk=>k_is);(case uG=>k_is);(case Nb=>k_is);(case Nf=>k_is);(case Uz=>k_is);(case UG=>k_is);(case UJ=>k_is);(case UL=>k_is);(case UT=>k_is);(case Fy=>k_is);(case UW=>k_is);(case wX=>k_is);(case U0=>k_is);(case zj=>k_is);(case U3=>k_is)
