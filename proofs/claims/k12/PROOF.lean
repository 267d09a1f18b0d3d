import PyProof.Rows.All
import Wide.All
import OpenK.AllK
import Wide.FinOn
import Lean
import PyProof.EqAt
import PyProof.EqKinds
import PyProof.TupleCall
import KE.KTops
import KE.KIntText
import KE.KTryMore
import PyProof.ExcBaseAll.ValueError
import PyProof.ZipIter
import KE.KTurns
import PyProof.Rows.SetFrom
import KE.KxText
import PyProof.Rows.SumGenD
import KE.KDictList
import PyProof.DictWalks
import KE.KEqDict
import KE.KDictOf
import PyProof.Rows.SortStr
import PyProof.Rows.SortWalk
import PyProof.WalksEnum
import PyProof.Rows.SumAny
import KE.KItemsList
import KE.KRevIter
import PyProof.ExcInit
import PyProof.InstStoreFacts
import OpenK.KCls
import PySem.Challenge.RW_madeagain_k12_rings_and_names_refused
set_option Elab.async false
set_option linter.all false
set_option maxRecDepth 100000
noncomputable section
namespace L2
open PySem PySem.Spec PyProof.Rows
abbrev Key:=Sum Int Str
def zJ:Key->Value->Bool
 | .inl k,v=>Value.isInt k v
 | .inr x,v=>Value.isStrOf x v
def afu (w:World):Key->Int
 | .inl k=>hashInt k
 | .inr x=>hashStr w x
theorem fK:∀{k:Key}{v:Value},zJ k v=true->(∃i t,k=Sum.inl i/\v=Value.int i t)\/(∃x t,k=Sum.inr x/\v=Value.str x t)
 | .inl i,v,h=>by
   obtain⟨t,e⟩:=Value.isInt_shape (k:=i) (v:=v) h
   exact .inl ⟨i,t,rfl,e⟩
 | .inr x,v,h=>by
   obtain⟨t,e⟩:=Value.isStrOf_shape (x:=x) (v:=v) h
   exact .inr ⟨x,t,rfl,e⟩
theorem K4 (i:Int) (t:Tok):zJ (.inl i) (.int i t)=true:=by simp[zJ,Value.isInt]
theorem K5 (x:Str) (t:Tok):zJ (.inr x) (.str x t)=true:=by simp[zJ,Value.isStrOf]
theorem Xe (a b:Int):decide ((Sum.inl a:Key)=Sum.inl b)=(a==b):=by
 by_cases e:a=b
 ·subst e;simp
 ·have h:¬(Sum.inl a:Key)=Sum.inl b:=fun q=>e (Sum.inl.inj q)
  rw[decide_eq_false h]
  exact(beq_eq_false_iff_ne.mpr e).symm
theorem Xf (a b:Str):decide ((Sum.inr a:Key)=Sum.inr b)=decide (a=b):=by
 by_cases e:a=b
 ·subst e;simp
 ·have h:¬(Sum.inr a:Key)=Sum.inr b:=fun q=>e (Sum.inr.inj q)
  rw[decide_eq_false h,decide_eq_false e]
theorem Xg (a:Int) (b:Str):decide ((Sum.inl a:Key)=Sum.inr b)=false:=decide_eq_false (fun q=>nomatch q)
theorem Xh (a:Str) (b:Int):decide ((Sum.inr a:Key)=Sum.inl b)=false:=decide_eq_false (fun q=>nomatch q)
def gf (prog:Program) (w:World):PySem.KeyKind prog w Key where
 is:=zJ
 hash:=afu w
 inj:=fun v a b ha hb=>by
  rcases fK ha with⟨i,t,rfl,rfl⟩ | ⟨x,t,rfl,rfl⟩
  ·rcases fK hb with⟨j,u,rfl,e⟩ | ⟨y,u,rfl,e⟩
   ·injection e with e1 _;rw[e1]
   ·exact nomatch e
  ·rcases fK hb with⟨j,u,rfl,e⟩ | ⟨y,u,rfl,e⟩
   ·exact nomatch e
   ·injection e with e1 _;rw[e1]
 byValue:=fun k v h=>by
  rcases fK h with⟨i,t,rfl,rfl⟩ | ⟨x,t,rfl,rfl⟩<;>rfl
 pyHash:=fun hv h=>by
  rcases fK hv with⟨i,t,rfl,rfl⟩ | ⟨x,t,rfl,rfl⟩
  ·exact wpAny_pyHash_int h
  ·exact wpAny_pyHash_str h
 eqBool:=fun hu hv h=>by
  rcases fK hu with⟨i,t,rfl,rfl⟩ | ⟨x,t,rfl,rfl⟩
  ·rcases fK hv with⟨j,u,rfl,rfl⟩ | ⟨y,u,rfl,rfl⟩
   ·rw[Xe] at h;exact wpAny_eqBool_int h
   ·rw[Xg] at h;exact SeqAt.EqAt.int_str i t y u _ _ _ _ h
  ·rcases fK hv with⟨j,u,rfl,rfl⟩ | ⟨y,u,rfl,rfl⟩
   ·rw[Xh] at h;exact SeqAt.EqAt.str_int x t j u _ _ _ _ h
   ·rw[Xf] at h;exact wpAny_eqBool_str h
 «strs»:=fun k x t v h=>by
  rcases fK h with⟨i,u,rfl,e⟩ | ⟨y,u,rfl,e⟩
  ·exact nomatch e
  ·injection e with e1 _
   subst e1
   cases v<;>rfl
theorem Fg (prog:Program) (w:World) (i:Int) (t:Tok):(gf prog w).is (.inl i) (.int i t)=true:=K4 i t
theorem Fi (prog:Program) (w:World) (x:Str) (t:Tok):(gf prog w).is (.inr x) (.str x t)=true:=K5 x t
end L2
namespace L2
open PySem PySem.Spec PyProof.Rows
inductive V where
 | non | bl (b:Bool) | int (i:Int) | str (x:Str) | byt (b:Array UInt8) | flt (b:UInt64) | ref (a:Addr) | ty (n:String)
 deriving DecidableEq
def RelV:V->Value->Prop
 | .non,u=>u=Value.none
 | .bl b,u=>u=Value.bool b
 | .int i,u=>∃t,u=Value.int i t
 | .str x,u=>∃t,u=Value.str x t
 | .byt b,u=>∃t,u=Value.bytes b t
 | .flt b,u=>∃t,u=Value.float b t
 | .ref a,u=>u=Value.ref a
 | .ty n,u=>u=Value.type n
abbrev Vals:List V->List Value->Prop:=Paired RelV
theorem Vals.length {xs:List V}{us:List Value} (r:Vals xs us):xs.length=us.length:=Paired.length r
theorem Vals.get:∀{xs:List V}{us:List Value}{i:Nat}{x:V},Vals xs us->xs[i]? =some x->∃u,us[i]? =some u/\RelV x u
 | _,_,_,_, .nil,e=>by simp at e
 | _,_,0,_, .cons r _,e=>by simp at e;subst e;exact⟨_,rfl,r⟩
 | _,_,i+1,x, .cons _ t,e=>by
   obtain⟨u,h1,h2⟩:=Vals.get (i:=i) (x:=x) t (by simpa using e)
   exact⟨u,by simpa using h1,h2⟩
theorem Vals.append:∀{xs ys:List V}{us ws:List Value},Vals xs us->Vals ys ws->Vals (xs++ys) (us++ws)
 | _,_,_,_, .nil,s=>s
 | _,_,_,_, .cons r t,s=> .cons r (Vals.append t s)
theorem Vals.take:∀{xs:List V}{us:List Value} (n:Nat),Vals xs us->Vals (xs.take n) (us.take n)
 | _,_,0,_=> .nil
 | _,_,_+1, .nil=> .nil
 | _,_,n+1, .cons r t=> .cons r (Vals.take n t)
theorem Vals.drop:∀{xs:List V}{us:List Value} (n:Nat),Vals xs us->Vals (xs.drop n) (us.drop n)
 | _,_,0,r=>r
 | _,_,_+1, .nil=> .nil
 | _,_,n+1, .cons _ t=>Vals.drop n t
def rQ:Option V->Option Value->Prop
 | some v,some u=>RelV v u
 | none,none=>True
 | _,_=>False
def KV {κ:Type}:List (κ×V)->List (κ×Value)->Prop:=Paired fun(p:κ×V) (q:κ×Value)=>p.1=q.1/\RelV p.2 q.2
def kV:Key->V
 | .inl i=> .int i
 | .inr x=> .str x
inductive HO where
 | lst (xs:List V)
 | tup (xs:List V)
 | dK (kvs:List (Key×V)) | dT (kvs:List (List Key×V))
 | set (S:Int->Bool) (n:Nat)
 | ins (C dx:Addr) (fs:List (Str×V))
 | own (x:Addr)
 | xd (fs:List (Str×V))
 | met (f x:Addr)
 | rng (lo hi:Int)
 | frz (o:Obj) (u:HO)
 | tbl (ps:Array Value)
 | ext (φ:Heap->Prop)
abbrev Hp:=Addr->Option HO
def upd (H:Hp) (a:Addr) (o:HO):Hp:=fun b=>if b=a then some o else H b
theorem ak {H:Hp}{a:Addr}{o:HO}:upd H a o a=some o:=by unfold upd;rw[if_pos rfl]
theorem ao {H:Hp}{a b:Addr}{o:HO} (h:b≠a):upd H a o b=H b:=by unfold upd;rw[if_neg h]
theorem kO {H:Hp}{a:Addr}{o u:HO}:upd (upd H a o) a u=upd H a u:=by
 funext b;unfold upd;split<;>rfl
theorem abp {H:Hp}{a b:Addr}{o u:HO} (h:H a=some o) (h':H b=some u) (d:o≠u):a≠b:=by
 intro e;subst e;rw[h] at h';exact d (Option.some.inj h')
theorem aC {H:Hp}{a b:Addr}{o:HO} (h:H a=some o) (h':H b=none):a≠b:=by
 intro e;subst e;rw[h] at h';cases h'
section
variable (P:Program) (w:World)
def dm (H:Hp) (h:Heap) (a:Addr):HO->Prop
 | .lst xs=>xs.length<=sizeLine/\∃(its:List Value) (n:Nat),Vals xs its/\h.get? a=some {cls:= .type "list",data:= .seq its.toArray n}
 | .tup xs=>xs.length<=sizeLine/\∃its:List Value,Vals xs its/\IsTup h a its.toArray
 | .dK kvs=>kvs.length<=sizeLine/\(a==sysModules)=false/\∃vs,KV kvs vs/\h.DictOf (gf P w) a vs
 | .dT kvs=>kvs.length<=sizeLine/\(a==sysModules)=false/\∃xs:List (List Key×Addr×Value),
     Paired (fun(p:List Key×V) (q:List Key×Addr×Value)=>p.1=q.1/\H q.2.1=some (.tup (p.1.map kV))/\RelV p.2 q.2.2) kvs xs/\
     ∃o es ep,h.get? a=some o/\o.ExactDict/\o.data= .dict es ep/\es.toList=xs.map (entryOfKey (tupleKind (gf P w)))/\(xs.map (·.1)).Nodup
 | .set S n=>h.SetOf (intKind P w) a S n
 | .ins C dx fs=>H dx=some (.own a)/\fs.length<=1000/\dx≠a/\h.get? a=some (PySem.W.instObj C dx)/\
     ∃mA,h.Ns1 dx mA/\(∀f,rQ (fs.lookup f) (mA f))/\PySem.Within mA (fs.map (·.1))
 | .own _=>∃o,h.get? a=some o
 | .xd fs=>∃mA,h.Ns1 a mA/\∀f,rQ (fs.lookup f) (mA f)
 | .rng lo hi=>∃t u v,h.get? a=some {cls:= .type "range",data:= .fields #[.int lo t, .int hi u, .int 1 v]}
 | .frz o u=>h.get? a=some o/\dm H h a u
 | .tbl ps=>h.get? a=some {cls:= .none,data:= .fields ps}
 | .met f x=>h.get? a=some (PySem.W.methodObj (.ref f) (.ref x))
 | .ext φ=>φ h/\(∃o,h.get? a=some o)/\∀h1 h2:Heap,φ h1->(∀o,h1.get? a=some o->h2.get? a=some o)->φ h2
def HOk (H:Hp) (h:Heap):Prop:=∀a o,H a=some o->dm P w H h a o
end
section
variable {P:Program}{w:World}{H H':Hp}{h h':Heap}{a:Addr}{o:HO}
theorem dm.lt (x:dm P w H h a o):a<h.objs.size:=by
 cases o with
 | lst xs=>obtain⟨_,_,_,_,e⟩:=x;exact Heap.lt_size e
 | tup xs=>obtain⟨_,_,_,p⟩:=x;exact p.lt
 | dK kvs=>obtain⟨_,_,_,_,o,_,_,e,_⟩:=x;exact Heap.lt_size e
 | dT kvs=>obtain⟨_,_,_,_,o,_,_,e,_⟩:=x;exact Heap.lt_size e
 | set S n=>obtain⟨o,_,_,_,e,_⟩:=x;exact Heap.lt_size e
 | ins C dx fs=>obtain⟨_,_,_,e,_⟩:=x;exact Heap.lt_size e
 | own y=>obtain⟨_,e⟩:=x;exact Heap.lt_size e
 | xd fs=>obtain⟨_,⟨_,_,_,e,_⟩,_⟩:=x;exact Heap.lt_size e
 | rng lo hi=>obtain⟨_,_,_,e⟩:=x;exact Heap.lt_size e
 | frz ob u=>obtain⟨e,_⟩:=x;exact Heap.lt_size e
 | tbl ps=>exact Heap.lt_size (show h.get? a=some _ from x)
 | met f y=>exact Heap.lt_size (show h.get? a=some _ from x)
 | ext φ=>obtain⟨_,⟨_,e⟩,_⟩:=x;exact Heap.lt_size e
theorem Paired.Xi {α β:Type}{F G:α->β->Prop}:∀{l₁:List α}{l₂:List β},Paired F l₁ l₂->(∀a b,F a b->G a b)->Paired G l₁ l₂
 | _,_, .nil,_=> .nil
 | _,_, .cons r t,f=> .cons (f _ _ r) (Paired.Xi t f)
theorem dm.stay (x:dm P w H h a o) (k:∀b u,(b=a\/H b=some (.own a))->h.get? b=some u->h'.get? b=some u)
 (ho:∀b,H b=some (.own a)->H' b=some (.own a)) (ht:∀b xs,H b=some (.tup xs)->H' b=some (.tup xs)):dm P w H' h' a o:=by
 induction o with
 | lst xs=>obtain⟨z,its,n,r,e⟩:=x;exact⟨z,its,n,r,k _ _ (.inl rfl) e⟩
 | tup xs=>obtain⟨z,its,r,ob,e,c⟩:=x;exact⟨z,its,r,ob,k _ _ (.inl rfl) e,c⟩
 | dK kvs=>obtain⟨z,y,vs,r,ob,es,ep,e,c⟩:=x;exact⟨z,y,vs,r,ob,es,ep,k _ _ (.inl rfl) e,c⟩
 | dT kvs=>
   obtain⟨z,y,xs,r,ob,es,ep,e,c⟩:=x
   exact⟨z,y,xs,Paired.Xi r fun p q z=>⟨z.1,ht _ _ z.2.1,z.2.2⟩,ob,es,ep,k _ _ (.inl rfl) e,c⟩
 | set S n=>obtain⟨ob,es,ep,t,e,c⟩:=x;exact⟨ob,es,ep,t,k _ _ (.inl rfl) e,c⟩
 | ins C dx fs=>
   obtain⟨d,z,ne,e,mA,⟨od,es,ep,e2,c⟩,r⟩:=x
   exact⟨ho _ d,z,ne,k _ _ (.inl rfl) e,mA,⟨od,es,ep,k _ _ (.inr d) e2,c⟩,r⟩
 | own y=>obtain⟨ob,e⟩:=x;exact⟨ob,k _ _ (.inl rfl) e⟩
 | xd fs=>obtain⟨mA,⟨od,es,ep,e,c⟩,r⟩:=x;exact⟨mA,⟨od,es,ep,k _ _ (.inl rfl) e,c⟩,r⟩
 | rng lo hi=>obtain⟨t,u,v,e⟩:=x;exact⟨t,u,v,k _ _ (.inl rfl) e⟩
 | frz ob u ih=>obtain⟨e,q⟩:=x;exact⟨k _ _ (.inl rfl) e,ih q⟩
 | tbl ps=>
   have e:h.get? a=some {cls:= .none,data:= .fields ps}:=x
   show h'.get? a=some {cls:= .none,data:= .fields ps}
   exact k a _ (.inl rfl) e
 | met f y=>
   have e:h.get? a=some (PySem.W.methodObj (.ref f) (.ref y)):=x
   show h'.get? a=some (PySem.W.methodObj (.ref f) (.ref y))
   exact k a _ (.inl rfl) e
 | ext φ=>obtain⟨p,⟨o,e⟩,st⟩:=x;exact⟨st _ _ p fun o q=>k _ _ (.inl rfl) q,⟨o,k _ _ (.inl rfl) e⟩,st⟩
theorem HOk.lt (x:HOk P w H h) (e:H a=some o):a<h.objs.size:=(x a o e).lt
theorem HOk.fresh (x:HOk P w H h) (e:h.objs.size<=a):H a=none:=by
 cases q:H a with
 | none=>rfl
 | some u=>exact absurd (Nat.lt_of_lt_of_le (x.lt q) e) (Nat.lt_irrefl _)
theorem HOk.kept (x:HOk P w H h) (k:∀b u,h.get? b=some u->h'.get? b=some u):HOk P w H h':=fun a o e=>
 (x a o e).stay (fun b u _ q=>k b u q) (fun _ q=>q) fun _ _ q=>q
theorem HOk.laid (x:HOk P w H h) (k:∀b u,h.get? b=some u->h'.get? b=some u) (hp:h.objs.size<=a) (new:dm P w (upd H a o) h' a o):HOk P w (upd H a o) h':=fun b u e=>by
 have hn:=x.fresh hp
 by_cases hb:b=a
 ·subst hb;rw[ak] at e;cases e;exact new
 ·rw[ao hb] at e
  exact(x b u e).stay (fun c v _ q=>k c v q) (fun c q=>by rw[ao (aC q hn)];exact q) fun c xs q=>by rw[ao (aC q hn)];exact q
end
def Rd (H:Hp) (a:Addr) (u:HO):Prop:=H a=some u\/∃o,H a=some (.frz o u)
theorem Rd.ok {P:Program}{w:World}{H:Hp}{h:Heap}{a:Addr}{u:HO} (r:Rd H a u) (x:HOk P w H h):dm P w H h a u:=by
 rcases r with r | ⟨o,r⟩
 ·exact x a u r
 ·obtain⟨_,q⟩:=x a _ r
  exact q
def Mut:Option HO->Prop
 | some (.lst _)=>True
 | some (.dK _)=>True
 | some (.dT _)=>True
 | some (.set _ _)=>True
 | some (.ins _ _ _)=>True
 | some (.ext _)=>True
 | _=>False
section
variable {P:Program}{w:World}{H:Hp}{h h':Heap}{x e:Addr}{o':HO}
theorem HOk.write (ok:HOk P w H h) (mu:Mut (H x)) (he:e=x\/H e=some (.own x)) (k:∀b u,b≠e->h.get? b=some u->h'.get? b=some u) (heo:∃u,h'.get? e=some u)
 (new:dm P w (upd H x o') h' x o'):HOk P w (upd H x o') h':=fun b u q=>by
 have nown:∀c y,H c=some (.own y)->c≠x:=fun c y r z=>by subst z;rw[r] at mu;exact mu
 have ntup:∀c xs,H c=some (.tup xs)->c≠x:=fun c xs r z=>by subst z;rw[r] at mu;exact mu
 by_cases hb:b=x
 ·subst hb;rw[ak] at q;cases q;exact new
 ·rw[ao hb] at q
  by_cases hbe:b=e
  ·have q':H b=some (.own x):=by
    rcases he with z | z
    ·exact absurd (hbe.trans z) hb
    ·rw[hbe];exact z
   rw[q] at q';cases q'
   obtain⟨v,hv⟩:=heo
   exact⟨v,by rw[hbe];exact hv⟩
  ·refine(ok b u q).stay (fun c v hc r=>k c v ?_ r) (fun c r=>by rw[ao (nown c b r)];exact r) fun c xs r=>by rw[ao (ntup c xs r)];exact r
   rcases hc with rfl | hc
   ·exact hbe
   ·rintro rfl
    rcases he with z | z
    ·exact nown c b hc z
    ·rw[hc] at z;cases z;exact hb rfl
end
structure Un (fs ex:List Addr) (H H':Hp) (h h':Heap):Prop where
 keep:∀b o,h.get? b=some o->H b=none->b∉fs->b∉ex->h'.get? b=some o
 slot:∀b o,h.get? b=some o->H b=none->b∈fs->b∉ex->∃sl,h'.get? b=some {o with slots:=sl}
 free:∀b o,h.get? b=some o->H b=none->b∉ex->H' b=none
 there:∀b o,h.get? b=some o->b∉ex->∃o',h'.get? b=some o'
 tups:∀b xs,H b=some (.tup xs)->H' b=some (.tup xs)
 frzs:∀b o u,H b=some (.frz o u)->H' b=some (.frz o u)
 tbls:∀b ps,H b=some (.tbl ps)->∃more,H' b=some (.tbl (ps++more))
section
variable {fs fs' ex ex':List Addr}{H H1 H2:Hp}{h h1 h2 h':Heap}{a x e:Addr}{o:HO}
theorem Un.any (u:Un fs ex H H1 h h1) {b:Addr}{ob:Obj} (q:h.get? b=some ob) (n:H b=none) (hx:b∉ex):∃sl,h1.get? b=some {ob with slots:=sl}:=by
 by_cases hb:b∈fs
 ·exact u.slot b ob q n hb hx
 ·exact⟨ob.slots,u.keep b ob q n hb hx⟩
theorem Un.kept (k:∀b u,h.get? b=some u->h'.get? b=some u):Un fs ex H H h h':=
 ⟨fun b ob q _ _ _=>k b ob q,fun b ob q _ _ _=>⟨ob.slots,k b ob q⟩,fun _ _ _ n _=>n,fun b ob q _=>⟨ob,k b ob q⟩,fun _ _ q=>q,fun _ _ _ q=>q,fun _ ps q=>⟨#[],by rw[q];simp⟩⟩
theorem Un.refl:Un fs ex H H h h:=Un.kept fun _ _ q=>q
theorem Un.laid (k:∀b u,h.get? b=some u->h'.get? b=some u) (hp:h.objs.size<=a) (hn:H a=none):Un fs ex H (upd H a o) h h' where
 keep:=fun b u q _ _ _=>k b u q
 slot:=fun b u q _ _ _=>⟨u.slots,k b u q⟩
 free:=fun b u q n _=>by rw[ao (Nat.ne_of_lt (Nat.lt_of_lt_of_le (Heap.lt_size q) hp))];exact n
 there:=fun b u q _=>⟨u,k b u q⟩
 tups:=fun b xs q=>by rw[ao (aC q hn)];exact q
 frzs:=fun b u xs q=>by rw[ao (aC q hn)];exact q
 tbls:=fun b ps q=>⟨#[],by rw[ao (aC q hn),q];simp⟩
theorem Un.write (mu:Mut (H x)) (he:e=x\/H e=some (.own x)) (k:∀b u,b≠e->h.get? b=some u->h'.get? b=some u) (heo:∃u,h'.get? e=some u):Un fs ex H (upd H x o) h h':=by
 have hx:∀b,H b=none->b≠x:=fun b n z=>by subst z;rw[n] at mu;exact mu
 have hb:∀b,H b=none->b≠e:=fun b n z=>by
  subst z
  rcases he with r | r
  ·exact hx b n r
  ·rw[n] at r;cases r
 have hm:∀b u,H b=some u->¬Mut (some u)->b≠x:=fun b u q nm z=>by subst z;rw[q] at mu;exact nm mu
 refine⟨fun b u q n _ _=>k b u (hb b n) q,fun b u q n _ _=>⟨u.slots,k b u (hb b n) q⟩,fun b u q n _=>by rw[ao (hx b n)];exact n,fun b u q _=> ?_,
  fun b xs q=>by rw[ao (hm b _ q fun z=>z)];exact q,fun b u xs q=>by rw[ao (hm b _ q fun z=>z)];exact q,fun b ps q=>⟨#[],by rw[ao (hm b _ q fun z=>z),q];simp⟩⟩
 by_cases hbe:b=e
 ·subst hbe;exact heo
 ·exact⟨u,k b u hbe q⟩
end
def trk (h:Heap) (H:Hp):List Addr:=(List.range h.objs.size).filter fun a=>(H a).isSome
def Dt (h:Heap) (H:Hp):Heap:=PySem.W.hideAll h (trk h H)
theorem K6 (h:Heap) (H:Hp):(Dt h H).objs.size=h.objs.size:=PySem.W.hideAll_size _ _
theorem M4 {h:Heap}{H:Hp}{b:Addr}{o:Obj} (e:h.get? b=some o) (n:H b=none):(Dt h H).get? b=some o:=
 PySem.W.hideAll_get _ e fun hm=>by
  have q:(H b).isSome=true:=(List.mem_filter.mp hm).2
  rw[n] at q;simp at q
theorem RG {h:Heap}{H:Hp}{b:Addr}{o:Obj} (e:(Dt h H).get? b=some o):h.get? b=some o/\H b=none:=by
 have e':h.get? b=some o:=PySem.W.of_hideAll (trk h H) e
 refine⟨e', ?_⟩
 cases q:H b with
 | none=>rfl
 | some x=>
   have hm:b∈trk h H:=List.mem_filter.mpr ⟨List.mem_range.mpr (Heap.lt_size e'),by simp[q]⟩
   have z:(Dt h H).get? b=none:=PySem.W.hideAll_none (trk h H) hm
   rw[z] at e;cases e
end L2
namespace L2
open PySem PySem.Spec PyProof.Rows
structure Mod (K:PySem.W.Frag) (mg:Str->Option Value) (base:Heap):Prop where
 kin:K.In base
 glob:base.Ns mainGlobals mg
 blt:∃mb,base.Ns builtinsNs mb/\∀x:Str,x≠"__name__"->mb x=bootBuiltins x
 nolimit:base.NoLimit
structure Cx where
 prog:Program
 w:World
 K:PySem.W.Frag
 mg:Str->Option Value
 base:Heap
 A:Around
 N:List Str
 s₀:Shared
 H₀:Hp
 env:Env
 outer:List Env
 stack:List Env
 ex:List Addr
 fn:Str->Bool
 calm:Bool
 pn:List (Addr×Obj)
 xe:Value->Shared->Prop
def frs (l:List Env):List Addr:=l.filterMap (·.frame)
abbrev Cx.fs (X:Cx):List Addr:=frs X.outer
def Vis (sc:Scope) (x:Str):Prop:=sc.names.lookup x=some .local\/sc.names.lookup x=some .cell\/sc.names.lookup x=some .free
def Loc (sc:Scope) (x:Str):Prop:=sc.names.lookup x=some .local\/sc.names.lookup x=some .cell
def Look (env:Env) (h:Heap) (m:Str->Option Value) (x:Str) (u:Value):Prop:=
 (env.kindOf x=some .local/\m x=some u)\/((env.kindOf x=some .cell\/env.kindOf x=some .free)/\∃c,env.cells.lookup x=some c/\h.IsCell c (some u))
structure Cx.Ok (X:Cx):Prop where
 mod:Mod X.K X.mg X.base
 kind:X.env.scope.kind= .function
 glob:X.env.globals=mainGlobals
 blt:X.env.builtins=builtinsNs
 above:X.s₀.heap.objs.size<=X.env.locals
 inj:∀x y c,X.env.cells.lookup x=some c->X.env.cells.lookup y=some c->x=y
 has:∀x,(X.env.kindOf x=some .cell\/X.env.kindOf x=some .free)->∃c,X.env.cells.lookup x=some c
 cab:∀x c,X.fn x=true->X.env.cells.lookup x=some c->X.s₀.heap.objs.size<=c
 hd:X.calm=true->X.A.handled=none
 frames:X.A.frames=some X.stack
 stk:X.stack=X.outer\/(X.stack=X.env::X.outer/\X.env.frame=some X.env.locals)
 exf:∀b∈X.ex,b≠X.env.locals/\∀x c,X.env.cells.lookup x=some c->c≠b
 bs:∀b o,X.base.get? b=some o->X.s₀.heap.get? b=some o/\X.H₀ b=none
 bsz:X.base.objs.size<=X.s₀.heap.objs.size
 noex:∀b o,X.base.get? b=some o->b∉X.ex
 exfs:∀b∈X.ex,b∉X.fs
 funs:X.s₀.heap.FunFrames X.base X.outer
 frf:∀b∈X.fs,X.H₀ b=none
structure Inv (X:Cx) (pins:List (Addr×Obj)) (σ:List (Option V)) (H:Hp) (s:Shared):Prop where
 ok:X.Ok
 os:s.os=X.s₀.os
 bare:AllBare s.gens
 base:Un X.fs X.ex X.H₀ H X.s₀.heap s.heap
 loc:∃m,s.heap.Ns X.env.locals m/\∀(i:Nat) (x:Str) (v:V),X.N[i]? =some x->σ[i]? =some (some v)->Vis X.env.scope x->∃u,RelV v u/\Look X.env s.heap m x u
 cell:∀x c,X.env.cells.lookup x=some c->∃v,s.heap.IsCell c v
 free:H X.env.locals=none
 lO:∀x c,X.env.cells.lookup x=some c->H c=none
 pin:∀p∈X.pn++pins,s.heap.get? p.1=some p.2/\H p.1=none/\p.1≠X.env.locals/\p.1∉X.fs/\∀v,p.2.data≠ .cell v
 hok:HOk X.prog X.w H s.heap
 len:σ.length=X.N.length
section
variable {X:Cx}{pins:List (Addr×Obj)}{σ:List (Option V)}{H H':Hp}{s:Shared}{h':Heap}
theorem Cx.Ok.nofr (ok:X.Ok) {b:Addr}{o:Obj} (e:X.base.get? b=some o):b∉X.fs:=fun hb=>by
 have:=(ok.funs.mem hb).1
 rw[e] at this;cases this
theorem Inv.bs (I:Inv X pins σ H s):∀b o,X.base.get? b=some o->s.heap.get? b=some o/\H b=none:=fun b o e=>
 ⟨I.base.keep b o (I.ok.bs b o e).1 (I.ok.bs b o e).2 (I.ok.nofr e) (I.ok.noex b o e),I.base.free b o (I.ok.bs b o e).1 (I.ok.bs b o e).2 (I.ok.noex b o e)⟩
theorem Inv.bk (I:Inv X pins σ H s):∀b o,X.base.get? b=some o->s.heap.get? b=some o:=fun b o e=>(I.bs b o e).1
theorem Inv.mod (I:Inv X pins σ H s):Mod X.K X.mg X.base:=I.ok.mod
theorem Inv.kIn (I:Inv X pins σ H s):X.K.In s.heap:=I.ok.mod.kin.keeps I.bk
theorem Inv.lt (I:Inv X pins σ H s):X.env.locals<s.heap.objs.size:=let ⟨_,hn,_⟩:=I.loc;hn.lt
theorem Inv.sz (I:Inv X pins σ H s):X.s₀.heap.objs.size<=s.heap.objs.size:=Nat.le_trans I.ok.above (Nat.le_of_lt I.lt)
theorem Inv.nofs (I:Inv X pins σ H s) {a:Addr} (h:s.heap.objs.size<=a):a∉X.fs:=fun hb=>by
 obtain⟨_,o,ho,_⟩:=I.ok.funs.mem hb
 exact absurd (Nat.lt_of_lt_of_le (Heap.lt_size ho) (Nat.le_trans I.sz h)) (Nat.lt_irrefl _)
theorem Inv.cne (I:Inv X pins σ H s):∀x c,X.env.cells.lookup x=some c->c≠X.env.locals:=fun x c e z=>by
 obtain⟨v,o,ho,hd⟩:=I.cell x c e
 obtain⟨m,⟨o',es,ep,ho',hd',_⟩,_⟩:=I.loc
 rw[z,ho'] at ho;cases ho;rw[hd'] at hd;cases hd
theorem Inv.funs (I:Inv X pins σ H s):s.heap.FunFrames X.base X.outer:=by
 have all:∀(l:List Env),(∀b∈frs l,b∈X.fs)->X.s₀.heap.FunFrames X.base l->s.heap.FunFrames X.base l:=by
  intro l
  induction l with
  | nil=>intro _ _;trivial
  | cons env r ih=>
    intro hs hl
    obtain⟨hk,⟨L,o,hf,hn,ho,hd⟩,hr⟩:=hl
    have hL:L∈X.fs:=hs L (by unfold frs;rw[List.filterMap_cons,hf];exact List.mem_cons_self)
    obtain⟨sl,e⟩:=I.base.slot L o ho (I.ok.frf L hL) hL fun z=>I.ok.exfs L z hL
    exact⟨hk,⟨L,_,hf,hn,e,hd⟩,ih (fun b hb=>hs b (by unfold frs;rw[List.filterMap_cons,hf];exact List.mem_cons_of_mem _ hb)) hr⟩
 exact all X.outer (fun _ hb=>hb) I.ok.funs
theorem Inv.stack (I:Inv X pins σ H s):s.heap.FunFrames X.base X.stack:=by
 rcases I.ok.stk with e | ⟨e,hf⟩
 ·rw[e];exact I.funs
 ·rw[e]
  obtain⟨m,hn,_⟩:=I.loc
  refine .cons (by rw[I.ok.kind];decide) hf hn ?_ I.funs
  exact Heap.get?_none_of_le (Nat.le_trans I.ok.bsz I.ok.above)
theorem Inv.Du (I:Inv X pins σ H s):∀b∈frs X.stack,b∈X.env.locals::X.fs:=fun b hb=>by
 rcases I.ok.stk with e | ⟨e,hf⟩
 ·rw[e] at hb;exact List.mem_cons_of_mem _ hb
 ·rw[e] at hb
  unfold frs at hb
  rw[List.filterMap_cons,hf] at hb
  exact hb
theorem Inv.Dv (I:Inv X pins σ H s):∀b∈frs X.stack,H b=none:=fun b hb=>by
 rcases List.mem_cons.mp (I.Du b hb) with e | hb
 ·rw[e];exact I.free
 ·obtain⟨_,o,ho,_⟩:=I.ok.funs.mem hb
  exact I.base.free b o ho (I.ok.frf b hb) fun z=>I.ok.exfs b z hb
theorem Inv.step {g':Array GenState}{t':Nat}{d':Drawn}{ch:List Addr} (I:Inv X pins σ H s)
 (hch:∀b∈ch,(b∈X.ex\/X.s₀.heap.objs.size<=b)/\b≠X.env.locals/\(∀x c,X.env.cells.lookup x=some c->c≠b)/\∀p∈X.pn++pins,p.1≠b)
 (keep:∀b o,b≠X.env.locals->b∉X.fs->b∉ch->s.heap.get? b=some o->H b=none->h'.get? b=some o)
 (slot:∀b o,b≠X.env.locals->b∈X.fs->b∉ch->s.heap.get? b=some o->H b=none->∃sl,h'.get? b=some {o with slots:=sl}) (free:∀b o,b∉ch->s.heap.get? b=some o->H b=none->H' b=none)
 (there:∀b o,b∉ch->s.heap.get? b=some o->∃o',h'.get? b=some o')
 (tups:∀b xs,H b=some (.tup xs)->H' b=some (.tup xs)) (frzs:∀b o u,H b=some (.frz o u)->H' b=some (.frz o u)) (tbls:∀b ps,H b=some (.tbl ps)->∃more,H' b=some (.tbl (ps++more)))
 (ns:∀m,s.heap.Ns X.env.locals m->h'.Ns X.env.locals m) (hok:HOk X.prog X.w H' h') (hg:AllBare g'):
 Inv X pins σ H' {s with heap:=h',gens:=g',drawn:=d',toks:=t'}:=by
 have neL:∀b o,X.s₀.heap.get? b=some o->b≠X.env.locals:=fun b o e=>Nat.ne_of_lt (Nat.lt_of_lt_of_le (Heap.lt_size e) I.ok.above)
 have neC:∀b o,X.s₀.heap.get? b=some o->b∉X.ex->b∉ch:=fun b o e hx hb=>by
  rcases(hch b hb).1 with z | z
  ·exact hx z
  ·exact absurd (Nat.lt_of_lt_of_le (Heap.lt_size e) z) (Nat.lt_irrefl _)
 have cellK:∀x c,X.env.cells.lookup x=some c->∀v,s.heap.IsCell c v->h'.IsCell c v:=fun x c e v ⟨o,ho,hd⟩=>by
  have nch:c∉ch:=fun z=>(hch c z).2.2.1 x c e rfl
  by_cases hc:c∈X.fs
  ·obtain⟨sl,q⟩:=slot c o (I.cne x c e) hc nch ho (I.lO x c e)
   exact⟨_,q,hd⟩
  ·exact⟨o,keep c o (I.cne x c e) hc nch ho (I.lO x c e),hd⟩
 refine⟨I.ok,I.os,hg,⟨fun b o e n hb hx=> ?_,fun b o e n hb hx=> ?_,fun b o e n hx=> ?_,fun b o e hx=> ?_,fun b xs e=>tups b xs (I.base.tups b xs e),fun b o xs e=>frzs b o xs (I.base.frzs b o xs e),fun b ps e=> ?_⟩, ?_,fun x c e=> ?_, ?_,fun x c e=> ?_,fun p hp=> ?_,hok,I.len⟩
 ·exact keep b o (neL b o e) hb (neC b o e hx) (I.base.keep b o e n hb hx) (I.base.free b o e n hx)
 ·obtain⟨sl,e1⟩:=I.base.slot b o e n hb hx
  obtain⟨sl',e2⟩:=slot b _ (neL b o e) hb (neC b o e hx) e1 (I.base.free b o e n hx)
  exact⟨sl',e2⟩
 ·obtain⟨o',e1⟩:=I.base.there b o e hx
  exact free b o' (neC b o e hx) e1 (I.base.free b o e n hx)
 ·obtain⟨o',e1⟩:=I.base.there b o e hx
  exact there b o' (neC b o e hx) e1
 ·obtain⟨m1,e1⟩:=I.base.tbls b ps e
  obtain⟨m2,e2⟩:=tbls b _ e1
  exact⟨m1++m2,by rw[e2,Array.append_assoc]⟩
 ·obtain⟨m,hn,hl⟩:=I.loc
  refine⟨m,ns m hn,fun i x v e1 e2 e3=> ?_⟩
  obtain⟨u,r,l⟩:=hl i x v e1 e2 e3
  refine⟨u,r, ?_⟩
  rcases l with l | ⟨k,c,e,z⟩
  ·exact .inl l
  ·exact .inr ⟨k,c,e,cellK x c e _ z⟩
 ·obtain⟨v,z⟩:=I.cell x c e
  exact⟨v,cellK x c e v z⟩
 ·obtain⟨m,⟨o,_,_,ho,_⟩,_⟩:=I.loc
  exact free _ o (fun z=>(hch _ z).2.1 rfl) ho I.free
 ·obtain⟨v,o,ho,hd⟩:=I.cell x c e
  exact free c o (fun z=>(hch c z).2.2.1 x c e rfl) ho (I.lO x c e)
 ·obtain⟨e,n,ne,nf,d⟩:=I.pin p hp
  have nch:p.1∉ch:=fun z=>(hch p.1 z).2.2.2 p hp rfl
  exact⟨keep p.1 p.2 ne nf nch e n,free p.1 p.2 nch e n,ne,nf,d⟩
theorem Inv.un {t':Nat} (I:Inv X pins σ H s) (u:Un X.fs [] H H' s.heap h') (hok:HOk X.prog X.w H' h'):Inv X pins σ H' {s with heap:=h',toks:=t'}:=by
 obtain⟨m,⟨o,es,ep,ho,r⟩,_⟩:=id I.loc
 obtain⟨sl,hL⟩:=u.any ho I.free (by simp)
 exact I.step (g':=s.gens) (d':=s.drawn) (ch:=[]) (fun _ z=>nomatch z) (fun b o _ hb _ e n=>u.keep b o e n hb (by simp)) (fun b o _ hb _ e n=>u.slot b o e n hb (by simp)) (fun b o _ e n=>u.free b o e n (by simp)) (fun b o _ e=>u.there b o e (by simp)) u.tups u.frzs u.tbls (fun m' hm=>by
  obtain⟨o',es',ep',ho',r'⟩:=hm
  rw[ho] at ho';cases ho'
  exact⟨_,es',ep',hL,r'⟩) hok I.bare
theorem Inv.call {g':Array GenState}{t':Nat}{d':Drawn}{ch:List Addr} (I:Inv X pins σ H s) (u:Un (frs X.stack) ch H H' s.heap h') (hok:HOk X.prog X.w H' h') (hg:AllBare g')
 (hch:∀b∈ch,(b∈X.ex\/X.s₀.heap.objs.size<=b)/\b≠X.env.locals/\(∀x c,X.env.cells.lookup x=some c->c≠b)/\∀p∈X.pn++pins,p.1≠b):
 Inv X pins σ H' {s with heap:=h',gens:=g',drawn:=d',toks:=t'}:=by
 obtain⟨m,⟨o,es,ep,ho,r⟩,_⟩:=id I.loc
 obtain⟨sl,hL⟩:=u.any ho I.free fun z=>(hch _ z).2.1 rfl
 exact I.step (ch:=ch) hch (fun b o hL hb hc e n=>u.keep b o e n (fun z=>(List.mem_cons.mp (I.Du b z)).elim hL hb) hc) (fun b o _ _ hc e n=>u.any e n hc) (fun b o hc e n=>u.free b o e n hc) (fun b o hc e=>u.there b o e hc) u.tups u.frzs u.tbls (fun m' hm=>by
  obtain⟨o',es',ep',ho',r'⟩:=hm
  rw[ho] at ho';cases ho'
  exact⟨_,es',ep',hL,r'⟩) hok hg
theorem Inv.turned {t':Nat}{it:Addr} (I:Inv X pins σ H s) (k:∀b o,b≠it->s.heap.get? b=some o->h'.get? b=some o) (hn:H it=none) (hL:it≠X.env.locals)
 (h1:it∈X.ex\/X.s₀.heap.objs.size<=it) (h2:∀x c,X.env.cells.lookup x=some c->c≠it) (h3:∀p∈X.pn++pins,p.1≠it):Inv X pins σ H {s with heap:=h',toks:=t'}:=by
 have nit:∀b u,H b=some u->b≠it:=fun b u e z=>by rw[z,hn] at e;cases e
 refine I.step (g':=s.gens) (d':=s.drawn) (ch:=[it]) (fun b hb=> ?_) (fun b o _ _ hc e _=>k b o (fun z=>hc (by simp[z])) e) (fun b o _ _ hc e _=>⟨o.slots,k b o (fun z=>hc (by simp[z])) e⟩) (fun _ _ _ _ n=>n)
  (fun b o hc e=>⟨o,k b o (fun z=>hc (by simp[z])) e⟩) (fun _ _ e=>e) (fun _ _ _ e=>e) (fun b ps e=>⟨#[],by rw[e];simp⟩) (fun m hm=> ?_) (fun b u e=> ?_) I.bare
 ·have e:b=it:=by simpa using hb
  subst e
  exact⟨h1,hL,h2,h3⟩
 ·obtain⟨o,es,ep,ho,r⟩:=hm
  exact⟨o,es,ep,k _ o (Ne.symm hL) ho,r⟩
 ·refine(I.hok b u e).stay (fun c v hc q=>k c v ?_ q) (fun _ q=>q) fun _ _ q=>q
  rcases hc with z | z
  ·rw[z];exact nit b u e
  ·exact nit c _ z
theorem Inv.tok (I:Inv X pins σ H s) (t:Nat):Inv X pins σ H {s with toks:=t}:=I.un (h':=s.heap) (t':=t) Un.refl I.hok
theorem Inv.kept {t':Nat} (I:Inv X pins σ H s) (k:∀b u,s.heap.get? b=some u->h'.get? b=some u):Inv X pins σ H {s with heap:=h',toks:=t'}:=I.un (Un.kept k) (I.hok.kept k)
theorem Inv.laid {a:Addr}{o:HO}{t':Nat} (I:Inv X pins σ H s) (k:∀b u,s.heap.get? b=some u->h'.get? b=some u) (hp:s.heap.objs.size<=a) (new:dm X.prog X.w (upd H a o) h' a o):
 Inv X pins σ (upd H a o) {s with heap:=h',toks:=t'}:=I.un (Un.laid k hp (I.hok.fresh hp)) (I.hok.laid k hp new)
theorem Inv.write {x e:Addr}{o:HO}{t':Nat} (I:Inv X pins σ H s) (mu:Mut (H x)) (he:e=x\/H e=some (.own x)) (k:∀b u,b≠e->s.heap.get? b=some u->h'.get? b=some u) (heo:∃u,h'.get? e=some u)
 (new:dm X.prog X.w (upd H x o) h' x o):Inv X pins σ (upd H x o) {s with heap:=h',toks:=t'}:=I.un (Un.write mu he k heo) (I.hok.write mu he k heo new)
theorem Inv.JD {pins':List (Addr×Obj)} (I:Inv X pins σ H s) (h:∀p∈pins',s.heap.get? p.1=some p.2/\H p.1=none/\p.1≠X.env.locals/\p.1∉X.fs/\∀v,p.2.data≠ .cell v):Inv X pins' σ H s:=
 ⟨I.ok,I.os,I.bare,I.base,I.loc,I.cell,I.free,I.lO,fun p hp=>(List.mem_append.mp hp).elim (fun z=>I.pin p (List.mem_append_left _ z)) (h p),I.hok,I.len⟩
theorem zK {N:List Str} (hN:N.Nodup) {i j:Nat}{x:Str} (a:N[i]? =some x) (b:N[j]? =some x):i=j:=by
 obtain⟨h1,e1⟩:=List.getElem?_eq_some_iff.mp a
 obtain⟨h2,e2⟩:=List.getElem?_eq_some_iff.mp b
 exact(List.getElem_inj hN).mp (e1.trans e2.symm)
theorem K7 {M:Model}{A:Around}{E:Value->Shared->Prop}{i:Nat}{x:Str}{v:V}{u:Value}{Q:Unit->Shared->Prop} (I:Inv X pins σ H s) (hN:X.N.Nodup) (hi:X.N[i]? =some x) (hx:Loc X.env.scope x) (r:RelV v u)
 (h:∀s',Inv X pins (σ.set i (some v)) H s'->(∃a,Heap.SameBut a s.heap s'.heap/\(a=X.env.locals\/X.env.cells.lookup x=some a))->Q () s') (hf:X.fn x=true\/X.env.scope.names.lookup x=some .local:=by first | exact .inl rfl | exact .inr rfl | assumption):wpAny M A (storeName X.env x u) Q E s:=by
 obtain⟨m,hn,hl⟩:=id I.loc
 have hcls:(X.env.scope.kind== .class||(X.env.scope.kind== .module&&X.env.locals !=X.env.globals))=false:=by rw[I.ok.kind];rfl
 have hiσ:i<σ.length:=by rw[I.len];exact(List.getElem?_eq_some_iff.mp hi).1
 have cne:=I.cne
 have tracked:∀{a:Addr}{h':Heap},(∃o,s.heap.get? a=some o/\H a=none)->Heap.SameBut a s.heap h'->HOk X.prog X.w H h':=fun{a h'} ha hs b ob e=>by
  obtain⟨_,_,hfree⟩:=ha
  refine(I.hok b ob e).stay (fun c w' hc q=>(hs.2 c ?_).trans q) (fun _ q=>q) fun _ _ q=>q
  rintro rfl
  rcases hc with rfl | hc
  ·rw[hfree] at e;cases e
  ·rw[hfree] at hc;cases hc
 rcases hx with hk | hk
 ·refine wpAny_storeName_local hk hn (fun h' hn' hs=> ?_) hcls
  obtain⟨oL,_,_,hoL,_⟩:=id hn
  refine h _ ⟨I.ok,I.os,I.bare,⟨fun b o e n hb hx=> ?_,fun b o e n hb hx=> ?_,I.base.free,fun b o e hx=> ?_,I.base.tups,I.base.frzs,I.base.tbls⟩,⟨_,hn',fun j y v' e1 e2 e3=> ?_⟩,fun y c e=> ?_,I.free,I.lO,fun p hp=> ?_,tracked ⟨oL,hoL,I.free⟩ hs,by simpa using I.len⟩ ⟨_,hs, .inl rfl⟩
  ·exact(hs.2 b (Nat.ne_of_lt (Nat.lt_of_lt_of_le (Heap.lt_size e) I.ok.above))).trans (I.base.keep b o e n hb hx)
  ·obtain⟨sl,e1⟩:=I.base.slot b o e n hb hx
   exact⟨sl,(hs.2 b (Nat.ne_of_lt (Nat.lt_of_lt_of_le (Heap.lt_size e) I.ok.above))).trans e1⟩
  ·obtain⟨o',e1⟩:=I.base.there b o e hx
   exact⟨o',(hs.2 b (Nat.ne_of_lt (Nat.lt_of_lt_of_le (Heap.lt_size e) I.ok.above))).trans e1⟩
  ·by_cases hj:j=i
   ·subst hj
    rw[hi] at e1;cases e1
    rw[List.getElem?_set_self hiσ] at e2
    cases e2
    exact⟨u,r, .inl ⟨hk,by simp⟩⟩
   ·rw[List.getElem?_set_ne (Ne.symm hj)] at e2
    obtain⟨u',r',q⟩:=hl j y v' e1 e2 e3
    refine⟨u',r', ?_⟩
    rcases q with⟨k,e⟩ | ⟨k,c,e,z⟩
    ·refine .inl ⟨k, ?_⟩
     have:y≠x:=fun e=>hj (zK hN e1 (e▸hi))
     simp[this,e]
    ·exact .inr ⟨k,c,e,z.sameBut hs (cne y c e)⟩
  ·obtain⟨w',z⟩:=I.cell y c e
   exact⟨w',z.sameBut hs (cne y c e)⟩
  ·obtain⟨e,n,ne,nf,d⟩:=I.pin p hp
   exact⟨(hs.2 p.1 ne).trans e,n,ne,nf,d⟩
 ·have hfn:X.fn x=true:=by
   rcases hf with z | z
   ·exact z
   ·rw[z] at hk;cases hk
  obtain⟨c,hc⟩:=I.ok.has x (.inl hk)
  obtain⟨w',z⟩:=I.cell x c hc
  refine wpAny_storeName_cell I.ok.kind hk hc z (fun h' hc' hs=> ?_)
  obtain⟨oc,hoc,hocd⟩:=id z
  refine h {s with heap:=h'} ⟨I.ok,I.os,I.bare,⟨fun b o e n hb hx=> ?_,fun b o e n hb hx=> ?_,I.base.free,fun b o e hx=> ?_,I.base.tups,I.base.frzs,I.base.tbls⟩,⟨m,hn.sameBut hs (Ne.symm (cne x c hc)),fun j y v' e1 e2 e3=> ?_⟩,fun y c' e=> ?_,I.free,I.lO,fun p hp=> ?_,tracked ⟨oc,hoc,I.lO x c hc⟩ hs,by simpa using I.len⟩ ⟨c,hs, .inr hc⟩
  ·exact(hs.2 b (Nat.ne_of_lt (Nat.lt_of_lt_of_le (Heap.lt_size e) (I.ok.cab x c hfn hc)))).trans (I.base.keep b o e n hb hx)
  ·obtain⟨sl,e1⟩:=I.base.slot b o e n hb hx
   exact⟨sl,(hs.2 b (Nat.ne_of_lt (Nat.lt_of_lt_of_le (Heap.lt_size e) (I.ok.cab x c hfn hc)))).trans e1⟩
  ·obtain⟨o',e1⟩:=I.base.there b o e hx
   exact⟨o',(hs.2 b (Nat.ne_of_lt (Nat.lt_of_lt_of_le (Heap.lt_size e) (I.ok.cab x c hfn hc)))).trans e1⟩
  ·by_cases hj:j=i
   ·subst hj
    rw[hi] at e1;cases e1
    rw[List.getElem?_set_self hiσ] at e2
    cases e2
    exact⟨u,r, .inr ⟨.inl hk,c,hc,hc'⟩⟩
   ·rw[List.getElem?_set_ne (Ne.symm hj)] at e2
    obtain⟨u',r',q⟩:=hl j y v' e1 e2 e3
    refine⟨u',r', ?_⟩
    rcases q with q | ⟨k,c',e,z'⟩
    ·exact .inl q
    ·refine .inr ⟨k,c',e,z'.sameBut hs ?_⟩
     rintro rfl
     exact hj (zK hN e1 (I.ok.inj _ _ _ e hc▸hi))
  ·by_cases hcc:c'=c
   ·subst hcc;exact⟨_,hc'⟩
   ·obtain⟨w2,z2⟩:=I.cell y c' e
    exact⟨w2,z2.sameBut hs hcc⟩
  ·obtain⟨e,n,ne,nf,d⟩:=I.pin p hp
   refine⟨(hs.2 p.1 ?_).trans e,n,ne,nf,d⟩
   intro q
   rw[q,hoc] at e
   have q':oc=p.2:=Option.some.inj e
   exact d w' (by rw[<-q'];exact hocd)
theorem zL {M:Model}{A:Around}{E:Value->Shared->Prop}{i:Nat}{x:Str}{v:V}{u:Value}{Q:Unit->Shared->Prop} (I:Inv X pins σ H s) (hN:X.N.Nodup) (hi:X.N[i]? =some x) (hx:Loc X.env.scope x) (r:RelV v u)
 (h:∀s',Inv X pins (σ.set i (some v)) H s'->Q () s') (hf:X.fn x=true\/X.env.scope.names.lookup x=some .local:=by first | exact .inl rfl | exact .inr rfl | assumption):wpAny M A (storeName X.env x u) Q E s:=
 K7 I hN hi hx r (fun s' I' _=>h s' I') hf
theorem Inv.call' {s':Shared}{ch:List Addr} (I:Inv X pins σ H s) (ho:s'.os=s.os) (u:Un (frs X.stack) ch H H' s.heap s'.heap) (hok:HOk X.prog X.w H' s'.heap) (hg:AllBare s'.gens)
 (hch:∀b∈ch,(b∈X.ex\/X.s₀.heap.objs.size<=b)/\b≠X.env.locals/\(∀x c,X.env.cells.lookup x=some c->c≠b)/\∀p∈X.pn++pins,p.1≠b):Inv X pins σ H' s':=by
 obtain⟨h',g',d',t',o'⟩:=s'
 have e:o'=s.os:=ho
 subst e
 exact I.call (g':=g') (t':=t') (d':=d') u hok hg hch
end
abbrev XK:=Value->Option Addr->Hp->Prop
abbrev St:=List (Option V)
abbrev VK:=V->Hp->Prop
abbrev TE:=St->Hp->VK->Prop
abbrev TT:=St->Hp->(Bool->Hp->Prop)->Prop
abbrev TA:=St->Hp->(List V->Hp->Prop)->Prop
structure Ends where
 nx:St->Hp->Prop
 rt:VK
 bk:St->Hp->Prop:=fun _ _=>False
 ct:St->Hp->Prop:=fun _ _=>False
abbrev TS:=Ends->St->Hp->Prop
def EP (X:Cx) (pins:List (Addr×Obj)) (σ:St) (Q:VK) (u:Value) (s':Shared):Prop:=∃v H',Inv X pins σ H' s'/\RelV v u/\Q v H'
def TP (X:Cx) (pins:List (Addr×Obj)) (σ:St) (Q:Bool->Hp->Prop) (b:Bool) (s':Shared):Prop:=∃H',Inv X pins σ H' s'/\Q b H'
def AP (X:Cx) (pins:List (Addr×Obj)) (σ:St) (Q:List V->Hp->Prop) (us:List Value) (s':Shared):Prop:=∃vs H',Inv X pins σ H' s'/\Vals vs us/\Q vs H'
def SP (X:Cx) (pins:List (Addr×Obj)) (D:Ends) (f:Flow) (s':Shared):Prop:=
 match f with
 | .next=>∃σ' H',Inv X pins σ' H' s'/\D.nx σ' H'
 | .brk=>∃σ' H',Inv X pins σ' H' s'/\D.bk σ' H'
 | .cont=>∃σ' H',Inv X pins σ' H' s'/\D.ct σ' H'
 | .ret u=>∃v σ' H',Inv X pins σ' H' s'/\RelV v u/\D.rt v H'
def PE (X:Cx) (e:Expr) (t:TE):Prop:=
 ∀(pins:List (Addr×Obj)) (s:Shared) (σ:St) (H:Hp) (Q:VK),Inv X pins σ H s->t σ H Q->wpAny (model X.prog X.w) X.A (eval e X.env) (EP X pins σ Q) X.xe s
def PT (X:Cx) (e:Expr) (t:TT):Prop:=
 ∀(pins:List (Addr×Obj)) (s:Shared) (σ:St) (H:Hp) (Q:Bool->Hp->Prop),Inv X pins σ H s->t σ H Q->wpAny (model X.prog X.w) X.A (isTrue e X.env (eval e X.env)) (TP X pins σ Q) X.xe s
def PW (X:Cx) (e:Expr) (t:TT):Prop:=
 ∀(whole:Sem Value) (pins:List (Addr×Obj)) (s:Shared) (σ:St) (H:Hp) (Q:Bool->Hp->Prop),Inv X pins σ H s->t σ H Q->wpAny (model X.prog X.w) X.A (isTrue e X.env whole) (TP X pins σ Q) X.xe s
theorem PW.pt {X:Cx}{e:Expr}{t:TT} (h:PW X e t):PT X e t:=h _
def PA (X:Cx) (es:List Expr) (t:TA):Prop:=
 ∀(pos:Pos) (pins:List (Addr×Obj)) (s:Shared) (σ:St) (H:Hp) (Q:List V->Hp->Prop),Inv X pins σ H s->t σ H Q->wpAny (model X.prog X.w) X.A (spliced (backTo pos (starEach es X.env))) (AP X pins σ Q) X.xe s
def PS (X:Cx) (st:Stmt) (t:TS):Prop:=
 ∀(pins:List (Addr×Obj)) (s:Shared) (σ:St) (H:Hp) (D:Ends),Inv X pins σ H s->t D σ H->wpAny (model X.prog X.w) X.A (exec st X.env) (SP X pins D) X.xe s
def PSs (X:Cx) (st:List Stmt) (t:TS):Prop:=
 ∀(pins:List (Addr×Obj)) (s:Shared) (σ:St) (H:Hp) (D:Ends),Inv X pins σ H s->t D σ H->wpAny (model X.prog X.w) X.A (execs st X.env) (SP X pins D) X.xe s
theorem thn {α:Type}{t:Sem α}{Q Q':α->Shared->Prop}{M:Model}{A:Around}{E:Value->Shared->Prop}{s:Shared} (h:wpAny M A t Q E s) (hQ:∀a s,Q a s->Q' a s):wpAny M A t Q' E s:=wpAny_mono h hQ fun _ _ x=>x
end L2
namespace L2
open PySem PySem.Spec PyProof.Rows
section
variable {X:Cx}
def Xj (i:Nat):TE:=fun σ H Q=>∃v,σ[i]? =some (some v)/\Q v H
def tC (v:V):TE:=fun _ H Q=>Q v H
theorem Xk {i:Nat}{x:Str}{pos:Pos} (hN:X.N[i]? =some x) (hv:Vis X.env.scope x) (hd:(x==("__debug__":Str))=false:=by decide) (hcd:(x==("__classdict__":Str))=false:=by decide):PE X (.Name x pos) (Xj i):=by
 intro pins s σ H Q I h
 obtain⟨v,e,h⟩:=h
 obtain⟨m,hn,hl⟩:=I.loc
 obtain⟨u,r,l⟩:=hl i x v hN e hv
 have fin:EP X pins σ Q u s:=⟨v,H,I,r,h⟩
 rcases l with⟨hk,hm⟩ | ⟨hk,c,hc,hcell⟩
 ·exact wpAny_Name (wpAny_loadName_local I.ok.kind hk hn hm fin) hd
 ·rcases hk with hk | hk
  ·exact wpAny_Name (wpAny_loadName_cell I.ok.kind hk hc hcell fin) hd
  ·exact wpAny_Name (wpAny_loadName_free I.ok.kind hk hc hcell fin hcd) hd
theorem Xl {i j pos}:PE X (.Constant (.int i) j pos) (tC (.int i)):=fun _ _ _ H _ I h=>wpAny_Constant_int ⟨.int i,H,I.tok _,⟨_,rfl⟩,h⟩
theorem abq {b j pos}:PE X (.Constant (.bool b) j pos) (tC (.bl b)):=fun _ _ _ H _ I h=>Constant_bool ⟨.bl b,H,I,rfl,h⟩
theorem Xm {j pos}:PE X (.Constant .none j pos) (tC .non):=fun _ _ _ H _ I h=>Constant_none ⟨.non,H,I,rfl,h⟩
theorem M5 {x j pos}:PE X (.Constant (.str x) j pos) (tC (.str x)):=fun _ _ _ H _ I h=>Calls.Constant_str ⟨.str x,H,I.tok _,⟨_,rfl⟩,h⟩
def Gl (X:Cx) (x:Str):Prop:=X.env.kindOf x=some .globalImplicit
theorem qI {E:Value->Shared->Prop}{pins:List (Addr×Obj)}{s:Shared}{σ:St}{H:Hp}{x:Str}{u:Value}{pos:Pos}{Q:Value->Shared->Prop} (I:Inv X pins σ H s) (hg:Gl X x) (hm:X.mg x=some u) (h:Q u s)
 (hd:(x==("__debug__":Str))=false:=by decide):wpAny (model X.prog X.w) X.A (eval (.Name x pos) X.env) Q E s:=
 Calls.Name_function_global I.ok.kind hg (Calls.loadGlobal_global (by rw[I.ok.glob];exact I.mod.glob.keeps I.bk) hm h) hd
theorem vV {E:Value->Shared->Prop}{pins:List (Addr×Obj)}{s:Shared}{σ:St}{H:Hp}{x:Str}{u:Value}{pos:Pos}{Q:Value->Shared->Prop} (I:Inv X pins σ H s) (hg:Gl X x) (hm:X.mg x=none) (hv:bootBuiltins x=some u) (h:Q u s)
 (hn:x≠"__name__":=by decide) (hd:(x==("__debug__":Str))=false:=by decide):wpAny (model X.prog X.w) X.A (eval (.Name x pos) X.env) Q E s:=by
 obtain⟨mb,h1,h2⟩:=I.mod.blt
 exact Calls.Name_function_global I.ok.kind hg (Calls.loadGlobal_builtin (by rw[I.ok.glob];exact I.mod.glob.keeps I.bk) hm (by rw[I.ok.blt];exact h1.keeps I.bk) ((h2 x hn).trans hv) h) hd
theorem RJ {x:Str}{v:V}{u:Value}{pos:Pos} (hg:Gl X x) (hm:X.mg x=some u) (r:RelV v u) (hd:(x==("__debug__":Str))=false:=by decide):PE X (.Name x pos) (tC v):=
 fun _ _ _ H _ I h=>qI I hg hm ⟨v,H,I,r,h⟩ hd
theorem RK {x:Str}{v:V}{u:Value}{pos:Pos} (hg:Gl X x) (hm:X.mg x=none) (hv:bootBuiltins x=some u) (r:RelV v u) (hn:x≠"__name__":=by decide) (hd:(x==("__debug__":Str))=false:=by decide):PE X (.Name x pos) (tC v):=
 fun _ _ _ H _ I h=>vV I hg hm hv ⟨v,H,I,r,h⟩ hn hd
variable {a b:Expr}{ta tb:TE}{pos:Pos}
def PC (X:Cx) (op:CmpOp) (a b:Expr) (t:TE):Prop:=
 ∀(pins:List (Addr×Obj)) (s:Shared) (σ:St) (H:Hp) (Q:VK),Inv X pins σ H s->t σ H Q->
  wpAny (model X.prog X.w) X.A (eval a X.env) (fun v s₁=>wpAny (model X.prog X.w) X.A (eval b X.env) (fun u s₂=>wpAny (model X.prog X.w) X.A (compareOp op v u) (EP X pins σ Q) X.xe s₂) X.xe s₁) X.xe s
def tB (t:TE):TT:=fun σ H Q=>t σ H fun x H1=>∃c,x= .bl c/\Q c H1
theorem M6 {op:CmpOp}{t:TE} (h:PC X op a b t) (h1:behindInMarks op b=false:=by first | exact nobehind _ (by decide) (by decide) | rfl):PT X (.Compare a [op] [b] pos) (tB t):=by
 intro pins s σ H Q I hw
 refine wpAny_isTrue_Compare1 (thn (h pins s σ H _ I hw) fun v s1 h1=>thn h1 fun u s2 h2=>thn h2 fun c s3 ⟨x,H1,I1,r1,q1⟩=> ?_) h1
 obtain⟨d,rfl,q⟩:=q1
 cases r1
 exact wpAny_truthy_bool ⟨H1,I1,q⟩
theorem Xn {e:Expr}{t:TE} (h:PE X e t) (he:∀whole,isTrue e X.env whole=(do let v <-whole;standAt e.pos;holding [v] (truthy v)):=by intro _;rfl):PT X e (tB t):=by
 intro pins s σ H Q I hw
 refine isTrue_plain (thn (h pins s σ H _ I hw) fun v s1 ⟨x,H1,I1,r1,q1⟩=> ?_) (he _)
 obtain⟨d,rfl,q⟩:=q1
 cases r1
 exact wpAny_truthy_bool ⟨H1,I1,q⟩
variable {tA tB':TT}{rest:List Expr}
def abr (t u:TT):TT:=fun σ H Q=>t σ H fun c H1=>if c=true then u σ H1 Q else Q false H1
def tOr (t u:TT):TT:=fun σ H Q=>t σ H fun c H1=>if c=true then Q true H1 else u σ H1 Q
def abt (t:TT):TT:=fun σ H Q=>t σ H fun c H1=>Q (!c) H1
theorem RL (ha:PT X a tA):PW X (.BoolOp .And [a] pos) tA:=by
 intro wh pins s σ H Q I h
 refine isTrue_and (thn (ha pins s σ H Q I h) fun c s1 e=> ?_)
 cases c with
 | true=>exact isTrue_and_nil e
 | false=>exact e
theorem Xo (ha:PT X a tA):PW X (.BoolOp .Or [a] pos) tA:=by
 intro wh pins s σ H Q I h
 refine isTrue_or (thn (ha pins s σ H Q I h) fun c s1 e=> ?_)
 cases c with
 | false=>exact isTrue_or_nil e
 | true=>exact e
theorem Xp (ha:PT X a tA) (hb:PW X (.BoolOp .And (b::rest) pos) tB'):PW X (.BoolOp .And (a::b::rest) pos) (abr tA tB'):=by
 intro wh pins s σ H Q I h
 refine isTrue_and (thn (ha pins s σ H _ I h) fun c s1 ⟨H1,I1,q1⟩=> ?_)
 cases c with
 | true=>exact hb wh pins s1 σ H1 Q I1 q1
 | false=>exact⟨H1,I1,q1⟩
theorem abu (ha:PT X a tA) (hb:PW X (.BoolOp .Or (b::rest) pos) tB'):PW X (.BoolOp .Or (a::b::rest) pos) (tOr tA tB'):=by
 intro wh pins s σ H Q I h
 refine isTrue_or (thn (ha pins s σ H _ I h) fun c s1 ⟨H1,I1,q1⟩=> ?_)
 cases c with
 | true=>exact⟨H1,I1,q1⟩
 | false=>exact hb wh pins s1 σ H1 Q I1 q1
theorem Xq (ha:PT X a tA):PT X (.UnaryOp .Not a pos) (abt tA):=by
 intro pins s σ H Q I h
 exact isTrue_not (ha pins s σ H (fun c H1=>Q (!c) H1) I h)
def Vw (ta tb:TE):TE:=fun σ H Q=>ta σ H fun x H1=>∃c,x= .bl c/\if c=true then tb σ H1 Q else Q (.bl false) H1
def abv (ta tb:TE):TE:=fun σ H Q=>ta σ H fun x H1=>∃c,x= .bl c/\if c=true then Q (.bl true) H1 else tb σ H1 Q
def Vx (ta:TE):TE:=fun σ H Q=>ta σ H fun x H1=>∃c,x= .bl c/\Q (.bl (!c)) H1
theorem Xr {op}{t:TE} (h:PE X a t):PE X (.BoolOp op [a] pos) t:=fun pins s σ H Q I hw=>BoolOp_one (h pins s σ H Q I hw)
theorem Xu (ha:PE X a ta) (hb:PE X (.BoolOp .And (b::rest) pos) tb):PE X (.BoolOp .And (a::b::rest) pos) (Vw ta tb):=by
 intro pins s σ H Q I h
 refine BoolOp_and (thn (ha pins s σ H _ I h) fun v s1 ⟨x,H1,I1,r1,q1⟩=> ?_)
 obtain⟨c,rfl,q1⟩:=q1
 cases r1
 refine wpAny_truthy_bool ?_
 cases c with
 | true=>exact hb pins s1 σ H1 Q I1 q1
 | false=>exact⟨.bl false,H1,I1,rfl,q1⟩
theorem abw (ha:PE X a ta) (hb:PE X (.BoolOp .Or (b::rest) pos) tb):PE X (.BoolOp .Or (a::b::rest) pos) (abv ta tb):=by
 intro pins s σ H Q I h
 refine BoolOp_or (thn (ha pins s σ H _ I h) fun v s1 ⟨x,H1,I1,r1,q1⟩=> ?_)
 obtain⟨c,rfl,q1⟩:=q1
 cases r1
 refine wpAny_truthy_bool ?_
 cases c with
 | false=>exact hb pins s1 σ H1 Q I1 q1
 | true=>exact⟨.bl true,H1,I1,rfl,q1⟩
theorem Xv (ha:PE X a ta):PE X (.UnaryOp .Not a pos) (Vx ta):=by
 intro pins s σ H Q I h
 refine UnaryOp_ (thn (ha pins s σ H _ I h) fun v s1 ⟨x,H1,I1,r1,q1⟩=> ?_)
 obtain⟨c,rfl,q1⟩:=q1
 cases r1
 exact not_of (wpAny_truthy_bool ⟨.bl (!c),H1,I1,rfl,q1⟩)
def tIf (t:TT) (ta tb:TE):TE:=fun σ H Q=>t σ H fun c H1=>if c=true then ta σ H1 Q else tb σ H1 Q
theorem M7 {c:Expr} (hc:PT X c tA) (ha:PE X a ta) (hb:PE X b tb):PE X (.IfExp c a b pos) (tIf tA ta tb):=by
 intro pins s σ H Q I h
 refine wpAny_IfExp (thn (hc pins s σ H _ I h) fun d s1 ⟨H1,I1,q1⟩=> ?_)
 cases d with
 | true=>exact ha pins s1 σ H1 Q I1 q1
 | false=>exact hb pins s1 σ H1 Q I1 q1
end
end L2
namespace L2
open PySem PySem.Spec PyProof.Rows
def SqL (K:PySem.W.Frag) (H:Hp) (a:Addr) (xs:List V):Prop:=
 Rd H a (.lst xs)\/
  ∃(o:Obj) (its:Array Value) (n:Nat),K.lookup a=some o/\o.cls= .type "list"/\o.dict=none/\o.data= .seq its n/\its.size<=sizeLine/\Vals xs its.toList
def SqT (K:PySem.W.Frag) (H:Hp) (a:Addr) (xs:List V):Prop:=
 Rd H a (.tup xs)\/
  ∃(o:Obj) (its:Array Value) (n:Nat),K.lookup a=some o/\o.cls= .type "tuple"/\o.data= .seq its n/\its.size<=sizeLine/\Vals xs its.toList
def afv:Value->Option V
 | .none=>some .non
 | .bool b=>some (.bl b)
 | .int i _=>some (.int i)
 | .str x _=>some (.str x)
 | .bytes b _=>some (.byt b)
 | .float b _=>some (.flt b)
 | .ref a=>some (.ref a)
 | .type n=>some (.ty n)
 | _=>none
theorem RelV.abs {x:V}{u:Value} (r:RelV x u):afv u=some x:=by
 cases x with
 | non=>cases r;rfl
 | bl _=>cases r;rfl
 | int _=>obtain⟨t,rfl⟩:=r;rfl
 | str _=>obtain⟨t,rfl⟩:=r;rfl
 | byt _=>obtain⟨t,rfl⟩:=r;rfl
 | flt _=>obtain⟨t,rfl⟩:=r;rfl
 | ref _=>cases r;rfl
 | ty _=>cases r;rfl
theorem RelV.inj {x y:V}{u:Value} (r:RelV x u) (q:RelV y u):x=y:=Option.some.inj (r.abs.symm.trans q.abs)
theorem Vals.inj:∀{xs ys:List V}{us:List Value},Vals xs us->Vals ys us->xs=ys
 | _,_,_, .nil, .nil=>rfl
 | _,_,_, .cons r t, .cons r' t'=>by rw[r.inj r',Vals.inj t t']
section
variable {X:Cx}{pins:List (Addr×Obj)}{σ:St}{H:Hp}{s:Shared}{a:Addr}{xs ys:List V}
theorem SqL.of {K:PySem.W.Frag} (h:H a=some (.lst xs)):SqL K H a xs:= .inl (.inl h)
theorem SqT.of {K:PySem.W.Frag} (h:H a=some (.tup xs)):SqT K H a xs:= .inl (.inl h)
theorem Inv.list (I:Inv X pins σ H s) (h:SqL X.K H a xs):∃its:List Value,Vals xs its/\PlainL s.heap a its.toArray/\xs.length<=sizeLine:=by
 rcases h with h | ⟨o,its,n,hk,hc,hd,hs,hz,r⟩
 ·obtain⟨z,its,n,r,e⟩:=h.ok I.hok
  exact⟨its,r,⟨_,n,e,rfl,rfl,rfl⟩,z⟩
 ·refine⟨its.toList,r,⟨o,n,I.kIn a o hk,hc,hd,by simpa using hs⟩, ?_⟩
  have e:=r.length
  simp only[Array.length_toList] at e
  omega
theorem Inv.tuple (I:Inv X pins σ H s) (h:SqT X.K H a xs):∃its:List Value,Vals xs its/\IsTup s.heap a its.toArray/\xs.length<=sizeLine:=by
 rcases h with h | ⟨o,its,n,hk,hc,hs,hz,r⟩
 ·obtain⟨z,its,r,p⟩:=h.ok I.hok
  exact⟨its,r,p,z⟩
 ·refine⟨its.toList,r,⟨o,I.kIn a o hk,hc,n,by simpa using hs⟩, ?_⟩
  have e:=r.length
  simp only[Array.length_toList] at e
  omega
theorem Inv.Fj (I:Inv X pins σ H s) (h:SqL X.K H a xs) (h':SqL X.K H a ys):xs=ys:=by
 obtain⟨its,r,⟨o,n,e,_,_,d⟩,_⟩:=I.list h
 obtain⟨its',r',⟨o',n',e',_,_,d'⟩,_⟩:=I.list h'
 rw[e] at e';cases e'
 rw[d] at d'
 injection d' with d1 _
 have:its=its':=by simpa using congrArg Array.toList d1
 subst this
 exact r.inj r'
theorem Inv.Cy (I:Inv X pins σ H s) (h:SqT X.K H a xs) (h':SqT X.K H a ys):xs=ys:=by
 obtain⟨its,r,⟨o,e,_,n,d⟩,_⟩:=I.tuple h
 obtain⟨its',r',⟨o',e',_,n',d'⟩,_⟩:=I.tuple h'
 rw[e] at e';cases e'
 rw[d] at d'
 injection d' with d1 _
 have:its=its':=by simpa using congrArg Array.toList d1
 subst this
 exact r.inj r'
end
abbrev Cx.wish (X:Cx) (E:Value->Shared->Prop):Cx:={X with xe:=E}
abbrev Cx.nox (X:Cx):Cx:=X.wish fun _ _=>False
theorem Cx.Ok.wish {X:Cx} (ok:X.Ok) (E:Value->Shared->Prop):(X.wish E).Ok:=
 ⟨ok.mod,ok.kind,ok.glob,ok.blt,ok.above,ok.inj,ok.has,ok.cab,ok.hd,ok.frames,ok.stk,ok.exf,ok.bs,ok.bsz,ok.noex,ok.exfs,ok.funs,ok.frf⟩
theorem Cx.Ok.unwish {X:Cx}{E:Value->Shared->Prop} (ok:(X.wish E).Ok):X.Ok:=
 ⟨ok.mod,ok.kind,ok.glob,ok.blt,ok.above,ok.inj,ok.has,ok.cab,ok.hd,ok.frames,ok.stk,ok.exf,ok.bs,ok.bsz,ok.noex,ok.exfs,ok.funs,ok.frf⟩
section
variable {X:Cx}{pins:List (Addr×Obj)}{σ:St}{H:Hp}{s:Shared}{E:Value->Shared->Prop}
theorem Inv.wish (I:Inv X pins σ H s) (E:Value->Shared->Prop):Inv (X.wish E) pins σ H s:=⟨I.ok.wish E,I.os,I.bare,I.base,I.loc,I.cell,I.free,I.lO,I.pin,I.hok,I.len⟩
theorem Inv.unwish (I:Inv (X.wish E) pins σ H s):Inv X pins σ H s:=⟨I.ok.unwish,I.os,I.bare,I.base,I.loc,I.cell,I.free,I.lO,I.pin,I.hok,I.len⟩
theorem SP.unwish {D:Ends}{f:Flow}{s':Shared} (h:SP (X.wish E) pins D f s'):SP X pins D f s':=by
 cases f with
 | next=>obtain⟨σ',H',I,q⟩:=h;exact⟨σ',H',I.unwish,q⟩
 | brk=>obtain⟨σ',H',I,q⟩:=h;exact⟨σ',H',I.unwish,q⟩
 | cont=>obtain⟨σ',H',I,q⟩:=h;exact⟨σ',H',I.unwish,q⟩
 | ret u=>obtain⟨v,σ',H',I,r,q⟩:=h;exact⟨v,σ',H',I.unwish,r,q⟩
theorem PSs.nox {st:List Stmt}{t:TS} (h:PSs X.nox st t):PSs X st t:=fun pins s σ H D I hw=>
 wpAny_mono (h pins s σ H D (I.wish _) hw) (fun _ _ q=>q.unwish) fun _ _ z=>False.elim z
end
section
variable {X:Cx}{st:Stmt}{rest:List Stmt}{t u:TS}{e:Expr}{te:TE}{pos:Pos}
def JF:TS:=fun D σ H=>D.nx σ H
def abx (t u:TS):TS:=fun D σ H=>t {D with nx:=u D} σ H
theorem RM:PSs X [] JF:=fun _ _ σ H _ I h=>wpAny_execs_nil ⟨σ,H,I,h⟩
theorem M8 (h1:PS X st t) (h2:PSs X rest u):PSs X (st::rest) (abx t u):=by
 intro pins s σ H D I h
 refine wpAny_execs_cons (thn (h1 pins s σ H {D with nx:=u D} I h) fun f s1 q=> ?_)
 cases f with
 | next=>
   obtain⟨σ',H',I',q⟩:=q
   exact h2 pins s1 σ' H' D I' q
 | ret v=>exact q
 | brk=>exact q
 | cont=>exact q
theorem RP (h1:PS X st t):PSs X [st] t:=by
 intro pins s σ H D I h
 refine wpAny_execs_cons (thn (h1 pins s σ H D I h) fun f s1 q=> ?_)
 cases f with
 | next=>exact wpAny_execs_nil q
 | ret v=>exact q
 | brk=>exact q
 | cont=>exact q
def Vy:TS:=fun D σ H=>D.ct σ H
theorem RQ:PS X (.Pass pos) JF:=fun _ _ σ H _ I h=>wpAny_Pass ⟨σ,H,I,h⟩
theorem Fl:PS X (.Continue pos) Vy:=fun _ _ σ H _ I h=>wpAny_Continue ⟨σ,H,I,h⟩
theorem Inv.quiet {pins:List (Addr×Obj)}{σ:St}{H:Hp}{s:Shared} (I:Inv X pins σ H s):interactive X.env=false:=by simp[interactive,I.ok.kind]
def Vz (te:TE):TS:=fun D σ H=>te σ H fun _ H1=>D.nx σ H1
theorem RT (he:PE X e te) (hs:swapsWith e none pos.line X.env=pure false:=by rfl):PS X (.Expr e pos) (Vz te):=by
 intro pins s σ H D I h
 exact wpAny_Expr_any (thn (he pins s σ H _ I h) fun v s1 ⟨x,H1,I1,r1,q1⟩=>⟨σ,H1,I1,q1⟩) I.quiet hs
def aby (te:TE):TS:=fun D σ H=>te σ H D.rt
theorem Xw (he:PE X e te):PS X (.Return (some e) pos) (aby te):=by
 intro pins s σ H D I h
 exact wpAny_Return_some (thn (he pins s σ H _ I h) fun v s1 ⟨x,H1,I1,r1,q1⟩=>⟨x,σ,H1,I1,r1,q1⟩)
def abz (c:TT) (t u:TS):TS:=fun D σ H=>c σ H fun b H1=>if b=true then t D σ H1 else u D σ H1
theorem abA {c:Expr}{a b:List Stmt}{tc:TT} (hc:PT X c tc) (ha:PSs X a t) (hb:PSs X b u):PS X (.If c a b pos) (abz tc t u):=by
 intro pins s σ H D I h
 refine wpAny_If (thn (hc pins s σ H _ I h) fun d s1 ⟨H1,I1,q1⟩=> ?_)
 cases d with
 | true=>exact ha pins s1 σ H1 D I1 q1
 | false=>exact hb pins s1 σ H1 D I1 q1
end
abbrev TG:=V->St->Hp->(St->Hp->Prop)->Prop
abbrev TGs:=List V->St->Hp->(St->Hp->Prop)->Prop
def PG (X:Cx) (target:Expr) (t:TG):Prop:=
 ∀(pins:List (Addr×Obj)) (s:Shared) (σ:St) (H:Hp) (v:V) (u:Value) (Q:St->Hp->Prop),Inv X pins σ H s->RelV v u->t v σ H Q->
  wpAny (model X.prog X.w) X.A (assign target X.env u) (fun _ s'=>∃σ' H',Inv X pins σ' H' s'/\Q σ' H') X.xe s
def PGs (X:Cx) (ts:List Expr) (t:TGs):Prop:=
 ∀(pins:List (Addr×Obj)) (s:Shared) (σ:St) (H:Hp) (vs:List V) (us:List Value) (Q:St->Hp->Prop),Inv X pins σ H s->Vals vs us->t vs σ H Q->
  wpAny (model X.prog X.w) X.A (assignInOrder ((assignEach ts X.env).map (·.2)) us) (fun _ s'=>∃σ' H',Inv X pins σ' H' s'/\Q σ' H') X.xe s
section
variable {X:Cx}{pos:Pos}
def Cz (i:Nat):TG:=fun v σ H Q=>Q (σ.set i (some v)) H
theorem JG {i:Nat}{x:Str} (hN:X.N.Nodup) (hi:X.N[i]? =some x) (hx:Loc X.env.scope x) (hf:X.fn x=true\/X.env.scope.names.lookup x=some .local:=by first | exact .inl rfl | exact .inr rfl | assumption):PG X (.Name x pos) (Cz i):=by
 intro pins s σ H v u Q I r h
 exact wpAny_assign_Name (zL I hN hi hx r (fun s' I'=>⟨_,H,I',h⟩) hf)
def abB:TGs:=fun vs σ H Q=>vs=[]/\Q σ H
def VB (t:TG) (u:TGs):TGs:=fun vs σ H Q=>∃v r,vs=v::r/\t v σ H fun σ' H'=>u r σ' H' Q
theorem RW:PGs X [] abB:=by
 intro pins s σ H vs us Q I r h
 obtain⟨e,h⟩:=h
 subst e
 cases r
 exact assignInOrder_nil ⟨σ,H,I,h⟩
theorem M9 {e:Expr}{es:List Expr}{t:TG}{u:TGs} (h1:PG X e t) (h2:PGs X es u)
 (hs:(assignEach (e::es) X.env).map (·.2)=assign e X.env::(assignEach es X.env).map (·.2):=by rfl):PGs X (e::es) (VB t u):=by
 intro pins s σ H vs us Q I r h
 obtain⟨v,vr,e1,h⟩:=h
 subst e1
 cases r with
 | cons r rr=>
   rw[hs]
   refine assignInOrder_cons (thn (h1 pins s σ H _ _ _ I r h) fun _ s1 ⟨σ1,H1,I1,q1⟩=> ?_)
   exact h2 pins s1 σ1 H1 _ _ Q I1 rr q1
def Xx (K:PySem.W.Frag) (n:Nat) (t:TGs):TG:=fun v σ H Q=>∃a xs,v= .ref a/\SqT K H a xs/\xs.length=n/\t xs σ H Q
theorem Xy {es:List Expr}{k:Nat}{t:TGs}{n:Nat} (hc:X.calm=true) (h:PGs X es t)
 (hn:(assignEach es X.env).length=n:=by rfl) (hst:(assignEach es X.env).findIdx? (·.1)=none:=by rfl):PG X (.Tuple es k pos) (Xx X.K n t):=by
 intro pins s σ H v u Q I r hw
 obtain⟨a,xs,e1,hq,hl,hw⟩:=hw
 subst e1
 cases r
 obtain⟨its,rv,ht,hz⟩:=I.tuple hq
 refine assign_Tuple_tuple (I.ok.hd hc) ht (by simp[hn,<-hl,rv.length]) hst fun h' hx=> ?_
 have I1:Inv X pins σ H {s with heap:=h'}:=I.kept (t':=s.toks) fun b o e=>hx b o (Nat.ne_of_lt (Heap.lt_size e)) e
 exact h pins _ σ H xs _ Q I1 (by simpa using rv) hw
def abC (te:TE) (g:TG):TS:=fun D σ H=>te σ H fun x H1=>g x σ H1 D.nx
theorem Xz {i:Nat}{x:Str}{e:Expr}{te:TE}{pos':Pos} (hN:X.N.Nodup) (hi:X.N[i]? =some x) (hx:Loc X.env.scope x) (he:PE X e te) (hs:swapsWith e (some (.Name x pos')) pos.line X.env=pure false:=by rfl) (hf:X.fn x=true\/X.env.scope.names.lookup x=some .local:=by first | exact .inl rfl | exact .inr rfl | assumption):
 PS X (.Assign [.Name x pos'] e pos) (abC te (Cz i)):=by
 intro pins s σ H D I h
 refine wpAny_Assign_Name (thn (he pins s σ H _ I h) fun v s1 ⟨y,H1,I1,r1,q1⟩=> ?_) hs
 exact zL I1 hN hi hx r1 (fun s2 I2=>⟨_,H1,I2,q1⟩) hf
end
section
variable {X:Cx}{pos:Pos}
def Nb (c:TT) (tb:TS):TS:=fun D σ H=>∃W:Nat->St->Hp->Prop,(∃m,W m σ H)/\∀m σ H,W m σ H->
 c σ H fun b H1=>if b=true then∃N:St->Hp->Prop,(∀σ' H',N σ' H'->∃m',m'<m/\W m' σ' H')/\tb {D with nx:=N,ct:=N,bk:=D.nx} σ H1 else D.nx σ H1
theorem Nf {c:Expr}{body:List Stmt}{tc:TT}{tb:TS} (hp:PassesOwn (model X.prog X.w) X.A X.env X.xe) (hc:PT X c tc) (hb:PSs X body tb):PS X (.While c body [] pos) (Nb tc tb):=by
 intro pins s σ H D I h
 obtain⟨W,⟨m0,w0⟩,turn⟩:=h
 refine wpAny_While (codeAny_whileLoop (fun n s'=>∃σ' H',Inv X pins σ' H' s'/\W n σ' H') ?_ m0 ⟨σ,H,I,w0⟩)
 rintro n s1 ⟨σ1,H1,I1,w1⟩
 refine wpAny_passesOwn hp (thn (hc pins s1 σ1 H1 _ I1 (turn n σ1 H1 w1)) fun b s2 ⟨H2,I2,q2⟩=> ?_)
 cases b with
 | true=>
   obtain⟨N,hN,q2⟩:=q2
   rw[if_pos rfl]
   refine wpAny_passesOwn hp (thn (hb pins s2 σ1 H2 _ I2 q2) fun f s3 q3=> ?_)
   cases f with
   | next=>
     obtain⟨σ3,H3,I3,n3⟩:=q3
     obtain⟨m',hm,w3⟩:=hN σ3 H3 n3
     exact⟨m',hm,σ3,H3,I3,w3⟩
   | cont=>
     obtain⟨σ3,H3,I3,n3⟩:=q3
     obtain⟨m',hm,w3⟩:=hN σ3 H3 n3
     exact⟨m',hm,σ3,H3,I3,w3⟩
   | brk=>exact q3
   | ret v=>exact q3
 | false=>
   rw[if_neg Bool.false_ne_true]
   exact wpAny_execs_nil ⟨σ1,H2,I2,q2⟩
end
structure It where
 go:Nat->Hp->Prop
 yld:Nat->Hp->V->Hp->Prop
 stop:Nat->Hp->Prop
def yf (X:Cx) (pins:List (Addr×Obj)) (H:Hp) (b:Addr):Prop:=
 H b=none/\b≠X.env.locals/\b∉X.fs/\(b∈X.ex\/X.s₀.heap.objs.size<=b)/\(∀x c,X.env.cells.lookup x=some c->c≠b)/\∀p∈X.pn++pins,p.1≠b
theorem Inv.HJ {X:Cx}{pins:List (Addr×Obj)}{σ:St}{H H':Hp}{s:Shared}{b:Addr} (I:Inv X pins σ H s) (hb:s.heap.objs.size<=b) (hn:H' b=none):yf X pins H' b:=by
 refine⟨hn,Nat.ne_of_gt (Nat.lt_of_lt_of_le I.lt hb),I.nofs hb, .inr (Nat.le_trans I.sz hb),fun x c e z=> ?_,fun p hp z=> ?_⟩
 ·obtain⟨v,q⟩:=I.cell x c e
  exact absurd (Nat.lt_of_lt_of_le q.lt (by rw[z];exact hb)) (Nat.lt_irrefl _)
 ·exact absurd (Nat.lt_of_lt_of_le (Heap.lt_size (I.pin p hp).1) (by rw[z];exact hb)) (Nat.lt_irrefl _)
structure Turn (P:Program) (w:World) (K:PySem.W.Frag) (tg:Expr) (J:It) (fp:List Addr) (it:Addr) (tn:Nat->Heap->Prop):Prop where
 mem:it∈fp
 obj:∀i h,tn i h->∀b∈fp,∃o,h.get? b=some o/\∀v,o.data≠ .cell v
 keep:∀i h h',tn i h->(∀b∈fp,∀o,h.get? b=some o->h'.get? b=some o)->tn i h'
 item:∀(X:Cx),X.prog=P->X.w=w->X.K=K->X.calm=true->∀(i:Nat) (pins:List (Addr×Obj)) (s:Shared) (σ:St) (H:Hp) (E:Value->Shared->Prop),Inv X pins σ H s->(∀b∈fp,yf X pins H b)->tn i s.heap->J.go i H->
  wpAny (model P w) X.A (pyNext (.ref it)) (fun r s1=>∃u,r=some u/\
   wpAny (model P w) X.A (letOwnedTupleGo tg (.ref it) u) (fun _ s2=>∃x H',Inv X pins σ H' s2/\RelV x u/\J.yld i H x H'/\tn (i+1) s2.heap/\∀b∈fp,H' b=none) E s1) E s
 done:∀(X:Cx),X.prog=P->X.w=w->X.K=K->X.calm=true->∀(i:Nat) (pins:List (Addr×Obj)) (s:Shared) (σ:St) (H:Hp) (E:Value->Shared->Prop),Inv X pins σ H s->(∀b∈fp,yf X pins H b)->tn i s.heap->J.stop i H->
  wpAny (model P w) X.A (pyNext (.ref it)) (fun r s1=>r=none/\Inv X pins σ H s1) E s
 self:∀(A:Around) (i:Nat) (s:Shared) (Q:Value->Shared->Prop) (E:Value->Shared->Prop),tn i s.heap->Q (.ref it) s->wpAny (model P w) A (pyIter (.ref it)) Q E s
abbrev TI:=St->Hp->(It->Hp->Prop)->Prop
def PIE (X:Cx) (pins:List (Addr×Obj)) (σ:St) (tg:Expr) (R:It->Hp->Prop) (itv:Value) (s2:Shared):Prop:=
 ∃(it:Addr) (fp:List Addr) (tn:Nat->Heap->Prop) (J:It) (H':Hp),itv= .ref it/\Inv X pins σ H' s2/\Turn X.prog X.w X.K tg J fp it tn/\tn 0 s2.heap/\(∀b∈fp,yf X pins H' b)/\R J H'
def PI (X:Cx) (tg iter:Expr) (wi:TI):Prop:=
 ∀(pins:List (Addr×Obj)) (s:Shared) (σ:St) (H:Hp) (R:It->Hp->Prop),Inv X pins σ H s->wi σ H R->
  wpAny (model X.prog X.w) X.A (eval iter X.env) (fun v s1=>wpAny (model X.prog X.w) X.A (pyIter v) (PIE X pins σ tg R) X.xe s1) X.xe s
theorem VD {M:Model}{A:Around}{E:Value->Shared->Prop}{s:Shared}{tg:Expr}{it:Addr}{u:Value}{o:Obj}{n:String}{vs:Array Value}{Q:Unit->Shared->Prop} (ho:s.heap.get? it=some o) (hc:o.cls= .type n) (hd:o.data= .fields vs)
 (hn:["enumerate","zip","dict_itemiterator","dict_reverseitemiterator","odict_iterator","itertools.zip_longest","itertools.pairwise"].contains n=false) (hQ:Q () s):wpAny M A (letOwnedTupleGo tg (.ref it) u) Q E s:=by
 unfold letOwnedTupleGo
 cases tg<;>first
  | exact wpAny_pure hQ
  | (cases u<;>first
      | exact wpAny_pure hQ
      | (refine wpAny_bind (wpAny_load ho ?_)
         rw[hc,hd]
         show wpAny M A (if(["enumerate","zip","dict_itemiterator","dict_reverseitemiterator","odict_iterator","itertools.zip_longest","itertools.pairwise"].contains n&&vs[0]? ==some (rawInt _))=true then _ else _) Q E s
         rw[if_neg (by intro h;rw[hn,Bool.false_and] at h;cases h)]
         exact wpAny_pure hQ))
def Itl (K:PySem.W.Frag) (a:Addr):It:=
 ⟨fun i H=>∃xs x,SqL K H a xs/\xs[i]? =some x,fun i H x H'=>H'=H/\∀xs,SqL K H a xs->xs[i]? =some x,fun i H=>∃xs,SqL K H a xs/\xs.length<=i⟩
def Itr (lo:Int) (n:Nat):It:=⟨fun i _=>i<n,fun i H x H'=>H'=H/\x= .int (lo+i),fun i _=>n<=i⟩
theorem K8 {P:Program}{w:World}{K:PySem.W.Frag}{tg:Expr} (a it:Addr):Turn P w K tg (Itl K a) [it] it (fun i h=>h.IsListIter it a i) where
 mem:=by simp
 obj:=fun i h st b hb=>by
  have e:b=it:=by simpa using hb
  subst e
  obtain⟨o,e,c,d⟩:=st
  exact⟨o,e,fun v z=>by rw[d] at z;cases z⟩
 keep:=fun i h h' st k=>st.at fun o e=>k it (by simp) o e
 item:=by
  intro X hP hw hK hc i pins s σ H E I hf st hg
  subst hP hw hK
  obtain⟨xs,x,hq,hx⟩:=hg
  obtain⟨its,rv,p,hz⟩:=I.list hq
  obtain⟨u,hu,ru⟩:=rv.get hx
  obtain⟨f0,f1,f2,f3,f4,f5⟩:=hf it (by simp)
  refine wpAny_pyNext_list_item st p.isList (x:=u) (by simpa using hu) fun h' st' sb=> ?_
  have I1:Inv X pins σ H {s with heap:=h'}:=I.turned (t':=s.toks) (fun b o hb e=>(sb.2 b hb).trans e) f0 f1 f3 f4 f5
  obtain⟨o,e,c,d⟩:=id st'
  exact⟨u,rfl,VD (s:={s with heap:=h'}) e c d (by decide) ⟨x,H,I1,ru,⟨rfl,fun ys hy=>by rw[I.Fj hy hq];exact hx⟩,st',fun b hb=>(hf b hb).1⟩⟩
 done:=by
  intro X hP hw hK hc i pins s σ H E I hf st hg
  subst hP hw hK
  obtain⟨xs,hq,hx⟩:=hg
  obtain⟨its,rv,p,hz⟩:=I.list hq
  obtain⟨f0,f1,f2,f3,f4,f5⟩:=hf it (by simp)
  have hl:=rv.length
  exact wpAny_pyNext_list_end (I.ok.hd hc) st p.isList (by simp;omega) fun h' eb=>⟨rfl,I.turned (t':=s.toks) (fun b o hb e=>eb b o hb e) f0 f1 f3 f4 f5⟩
 self:=fun _ _ _ _ _ st h=>wpAny_pyIter_listiter st h
theorem HN {P:Program}{w:World}{K:PySem.W.Frag}{tg:Expr} (it:Addr) (lo:Int) (n:Nat):Turn P w K tg (Itr lo n) [it] it (fun i h=>IsRangeIter h it (lo+(i:Nat)* 1) ((n:Int) - (i:Nat)) 1) where
 mem:=by simp
 obj:=fun i h st b hb=>by
  have e:b=it:=by simpa using hb
  subst e
  exact⟨_,st,fun v z=>by
   have z':Data.fields _=Data.cell v:=z
   cases z'⟩
 keep:=fun i h h' st k=>k it (by simp) _ st
 item:=by
  intro X hP hw hK hc i pins s σ H E I hf st hg
  subst hP hw hK
  obtain⟨f0,f1,f2,f3,f4,f5⟩:=hf it (by simp)
  have W:=Walks.range (prog:=X.prog) (w:=X.w) (I.ok.hd hc) it lo 1 n
  refine W.item i s _ _ hg st fun v h' tk hv st' kk=> ?_
  obtain⟨t,rfl⟩:=hv
  have I1:Inv X pins σ H {s with heap:=h',toks:=tk}:=I.turned (fun b o hb e=>kk b o (by simpa using hb) e) f0 f1 f3 f4 f5
  refine⟨_,rfl,VD (s:={s with heap:=h',toks:=tk}) (n:="range_iterator") st' rfl rfl (by decide) ⟨.int (lo+i),H,I1,⟨t, ?_⟩,⟨rfl,rfl⟩,st',fun b hb=>(hf b hb).1⟩⟩
  rw[Int.mul_one]
 done:=by
  intro X hP hw hK hc i pins s σ H E I hf st hg
  subst hP hw hK
  obtain⟨f0,f1,f2,f3,f4,f5⟩:=hf it (by simp)
  exact wpAny_pyNext_range_end (I.ok.hd hc) st (by have:n<=i:=hg;omega) fun h' eb=>⟨rfl,I.turned (t':=s.toks) (fun b o hb e=>eb b o hb e) f0 f1 f3 f4 f5⟩
 self:=fun _ _ _ _ _ st h=>wpAny_pyIter_rangeiter st h
end L2
namespace L2
open PySem PySem.Spec PyProof.Rows
section
variable {X:Cx}{tg:Expr}
def VF (K:PySem.W.Frag) (tl:TE):TI:=fun σ H R=>tl σ H fun x H1=>∃a,x= .ref a/\(∃xs,SqL K H1 a xs)/\R (Itl K a) H1
theorem RX {l:Expr}{tl:TE} (hl:PE X l tl):PI X tg l (VF X.K tl):=by
 intro pins s σ H R I h
 refine thn (hl pins s σ H _ I h) fun v s1 ⟨x,H1,I1,r1,q1⟩=> ?_
 obtain⟨a,e,⟨xs,hq⟩,q⟩:=q1
 subst e
 cases r1
 obtain⟨its,rv,p,hz⟩:=I1.list hq
 refine wpAny_pyIter_list p.isList ?_
 refine⟨s1.heap.objs.size,[s1.heap.objs.size],_,_,H1,rfl,I1.kept (t':=s1.toks) fun b o e=>Heap.get?_push_of_some _ e,K8 a _,⟨_,Heap.get?_push_size _ rfl,rfl,rfl⟩,fun b hb=> ?_,q⟩
 have e:b=s1.heap.objs.size:=by simpa using hb
 subst e
 exact I1.HJ (Nat.le_refl _) (I1.hok.fresh (Nat.le_refl _))
theorem Ng {pins:List (Addr×Obj)}{σ:St}{H:Hp}{s:Shared}{R:It->Hp->Prop}{E:Value->Shared->Prop}{lo hi:Int}{t u v:Tok}{tk:Nat} (I:Inv X pins σ H s) (h1: -(2 ^ 62)<=lo) (h2:lo<2 ^ 62) (h3: -(2 ^ 62)<=hi) (h4:hi<2 ^ 62)
 (q:R (Itr lo (hi - lo).toNat) H):wpAny (model X.prog X.w) X.A (pyIter (.ref s.heap.objs.size)) (PIE X pins σ tg R) E {s with heap:=s.heap.push {cls:= .type "range",data:= .fields #[.int lo t, .int hi u, .int 1 v]},toks:=tk}:=by
 refine wpAny_pyIter_range (IsRange.new ..) (small_one h1 h2 h3 h4) ?_
 have I1:Inv X pins σ H {s with heap:=s.heap.push {cls:= .type "range",data:= .fields #[.int lo t, .int hi u, .int 1 v]},toks:=tk}:=I.kept fun b o e=>Heap.get?_push_of_some _ e
 refine⟨(s.heap.push {cls:= .type "range",data:= .fields #[.int lo t, .int hi u, .int 1 v]}).objs.size,[(s.heap.push {cls:= .type "range",data:= .fields #[.int lo t, .int hi u, .int 1 v]}).objs.size],_,_,H,rfl,
  I1.kept (t':=tk) fun b o e=>Heap.get?_push_of_some _ e,HN _ lo (hi - lo).toNat, ?_,fun b hb=> ?_,q⟩
 ·have e1:lo+((0:Nat):Int)* 1=lo:=by simp
  have e2:(((hi - lo).toNat:Nat):Int) - ((0:Nat):Int)=Builtin.Range.rangeSize lo hi 1:=by rw[rangeSize_one];split<;>omega
  show IsRangeIter _ _ (lo+((0:Nat):Int)* 1) ((((hi - lo).toNat:Nat):Int) - ((0:Nat):Int)) 1
  rw[e1,e2]
  exact Heap.get?_push_size _ rfl
 ·have e:b=(s.heap.push {cls:= .type "range",data:= .fields #[.int lo t, .int hi u, .int 1 v]}).objs.size:=by simpa using hb
  subst e
  exact I1.HJ (Nat.le_refl _) (I1.hok.fresh (Nat.le_refl _))
def VG (ta:TA):TI:=fun σ H R=>ta σ H fun vs H1=>∃j:Int,vs=[.int j]/\ -(2 ^ 62)<=j/\j<2 ^ 62/\R (Itr 0 j.toNat) H1
theorem K9 {a:Expr}{ta:TA}{p pos:Pos} (hg:Gl X "range") (hm:X.mg "range"=none) (ha:PA X [a] ta) (hs:starEach [a] X.env=[(false,eval a X.env)]:=by rfl):PI X tg (.Call (.Name "range" p) [a] [] pos) (VG ta):=by
 intro pins s σ H R I h
 refine Call_ (vV I hg hm boot_range (PyProof.Rows.callWith_type1 (thn (ha pos pins s σ H _ I h) fun us s1 ⟨vs,H1,I1,r1,q1⟩=> ?_) hs rfl))
 obtain⟨j,e,q1,q2,q⟩:=q1
 subst e
 cases r1 with
 | cons r rr=>
   cases rr
   obtain⟨t,rfl⟩:=r
   exact call_range_1 (Ng I1 (by omega) (by omega) q1 q2 (by simpa using q))
def abD (wi:TI) (g:TG) (tb:TS):TS:=fun D σ H=>wi σ H fun J H1=>∃W:Nat->Nat->St->Hp->Prop,(∃m,W 0 m σ H1)/\∀i m σ H,W i m σ H->
 (J.stop i H/\D.nx σ H)\/(J.go i H/\∃N:St->Hp->Prop,(∀σ' H',N σ' H'->∃m',m'<m/\W (i+1) m' σ' H')/\∀x H',J.yld i H x H'->g x σ H' fun σ2 H2=>tb {D with nx:=N,ct:=N,bk:=D.nx} σ2 H2)
def zM (fp:List Addr) (h:Heap):List (Addr×Obj):=fp.filterMap fun b=>(h.get? b).map fun o=>(b,o)
theorem qJ {fp:List Addr}{h:Heap}{b:Addr}{o:Obj} (hb:b∈fp) (e:h.get? b=some o):(b,o)∈zM fp h:=List.mem_filterMap.mpr ⟨b,hb,by rw[e];rfl⟩
theorem La {fp:List Addr}{h:Heap}{p:Addr×Obj} (hp:p∈zM fp h):p.1∈fp/\h.get? p.1=some p.2:=by
 obtain⟨b,hb,e⟩:=List.mem_filterMap.mp hp
 cases q:h.get? b with
 | none=>rw[q] at e;cases e
 | some o=>
   rw[q] at e
   have e':(b,o)=p:=Option.some.inj e
   subst e'
   exact⟨hb,q⟩
theorem Inv.pinned {pins:List (Addr×Obj)}{σ:St}{H:Hp}{s:Shared}{fp:List Addr} (I:Inv X pins σ H s) (hf:∀b∈fp,yf X pins H b) (ho:∀b∈fp,∃o,s.heap.get? b=some o/\∀v,o.data≠ .cell v):Inv X (pins++zM fp s.heap) σ H s:=
 I.JD fun p hp=>(List.mem_append.mp hp).elim (fun z=>I.pin p (List.mem_append_right _ z)) fun z=>by
   obtain⟨hb,e⟩:=La z
   obtain⟨f0,f1,f2,_⟩:=hf p.1 hb
   obtain⟨o,e',d⟩:=ho p.1 hb
   rw[e] at e';cases e'
   exact⟨e,f0,f1,f2,d⟩
theorem Inv.unpinned {pins pl:List (Addr×Obj)}{σ:St}{H:Hp}{s:Shared} (I:Inv X (pins++pl) σ H s):Inv X pins σ H s:=I.JD fun p hp=>I.pin p (List.mem_append_right _ (List.mem_append_left _ hp))
theorem XC {iter:Expr}{body:List Stmt}{wi:TI}{g:TG}{tb:TS}{pos:Pos} (hp:PassesOwn (model X.prog X.w) X.A X.env X.xe) (hc:X.calm=true) (hi:PI X tg iter wi) (hg:PG X tg g) (hb:PSs X body tb)
 (hs:∀x,foldedSetIterable iter X.env x=pure x:=by intro _;rfl):PS X (.For tg iter body [] pos) (abD wi g tb):=by
 intro pins s σ H D I h
 refine wpAny_For (thn (hi pins s σ H _ I h) fun v s1 h1=>thn h1 fun itv s2 h2=> ?_) hs
 obtain⟨it,fp,tn,J,H2,e,I2,T,st2,f2,W,⟨m0,w0⟩,turn⟩:=h2
 subst e
 have stat:∀{H':Hp},(∀b∈fp,H' b=none)->∀b∈fp,yf X pins H' b:=fun hn b hb=>⟨hn b hb,(f2 b hb).2⟩
 refine codeAny_forLoop_any (fun n s'=>∃i σ' H',Inv X pins σ' H' s'/\tn i s'.heap/\(∀b∈fp,H' b=none)/\W i n σ' H') ?_ m0 ⟨0,σ,H2,I2,st2,fun b hb=>(f2 b hb).1,w0⟩
 rintro n s3 ⟨i,σ3,H3,I3,st3,fr3,w3⟩
 rcases turn i n σ3 H3 w3 with⟨stop,qn⟩ | ⟨go,N,hN,step⟩
 ·refine wpAny_passesOwn hp (thn (T.done X rfl rfl rfl hc i pins s3 σ3 H3 X.xe I3 (stat fr3) st3 stop) fun r s4 ⟨hr,I4⟩=> ?_)
  subst hr
  exact wpAny_execs_nil ⟨σ3,H3,I4,qn⟩
 ·refine wpAny_passesOwn hp (thn (T.item X rfl rfl rfl hc i pins s3 σ3 H3 X.xe I3 (stat fr3) st3 go) fun r s4 ⟨u,hr,h4⟩=> ?_)
  subst hr
  refine wpAny_passesOwn hp (thn h4 fun _ s5 ⟨x,H5,I5,r5,y5,st5,fr5⟩=> ?_)
  have I5':=I5.pinned (stat fr5) (T.obj _ _ st5)
  refine wpAny_passesOwn hp (thn (hg _ s5 σ3 H5 x u _ I5' r5 (step x H5 y5)) fun _ s6 ⟨σ6,H6,I6,q6⟩=> ?_)
  refine wpAny_passesOwn hp (thn (hb _ s6 σ6 H6 _ I6 q6) fun f s7 q7=> ?_)
  have again:∀{σ7:St}{H7:Hp},Inv X (pins++zM fp s5.heap) σ7 H7 s7->N σ7 H7->∃m,m<n/\∃i σ' H',Inv X pins σ' H' s7/\tn i s7.heap/\(∀b∈fp,H' b=none)/\W i m σ' H':=fun{σ7 H7} I7 n7=>by
   obtain⟨m',hm,w7⟩:=hN σ7 H7 n7
   refine⟨m',hm,i+1,σ7,H7,I7.unpinned,T.keep _ _ _ st5 fun b hb o e=>(I7.pin (b,o) (List.mem_append_right _ (List.mem_append_right _ (qJ hb e)))).1,fun b hb=> ?_,w7⟩
   obtain⟨o,e,d⟩:=T.obj _ _ st5 b hb
   exact(I7.pin (b,o) (List.mem_append_right _ (List.mem_append_right _ (qJ hb e)))).2.1
  cases f with
  | next=>obtain⟨σ7,H7,I7,n7⟩:=q7;exact again I7 n7
  | cont=>obtain⟨σ7,H7,I7,n7⟩:=q7;exact again I7 n7
  | brk=>obtain⟨σ7,H7,I7,q7⟩:=q7;exact⟨σ7,H7,I7.unpinned,q7⟩
  | ret v=>obtain⟨x7,σ7,H7,I7,r7,q7⟩:=q7;exact⟨x7,σ7,H7,I7.unpinned,r7,q7⟩
end
theorem Nh {K:PySem.W.Frag}{a:Addr}{xs:List V}{g:TG}{tb:TS}{D:Ends}{σ:St}{H:Hp} (Pv:Nat->St->Hp->Prop) (h0:Pv 0 σ H) (hl:∀i σ H,i<=xs.length->Pv i σ H->SqL K H a xs)
 (hs:∀i x σ H,xs[i]? =some x->Pv i σ H->g x σ H fun σ2 H2=>tb {D with nx:=Pv (i+1),ct:=Pv (i+1),bk:=D.nx} σ2 H2) (hd:∀σ H,Pv xs.length σ H->D.nx σ H):
 ∃W:Nat->Nat->St->Hp->Prop,(∃m,W 0 m σ H)/\∀i m σ H,W i m σ H->
  ((Itl K a).stop i H/\D.nx σ H)\/((Itl K a).go i H/\∃N:St->Hp->Prop,(∀σ' H',N σ' H'->∃m',m'<m/\W (i+1) m' σ' H')/\∀x H',(Itl K a).yld i H x H'->g x σ H' fun σ2 H2=>tb {D with nx:=N,ct:=N,bk:=D.nx} σ2 H2):=by
 refine⟨fun i m σ H=>m=xs.length - i/\i<=xs.length/\Pv i σ H,⟨xs.length,by simp,Nat.zero_le _,h0⟩, ?_⟩
 rintro i m σ H ⟨rfl,hi,p⟩
 have q:=hl i σ H hi p
 by_cases hlt:i<xs.length
 ·refine .inr ⟨⟨xs,xs[i],q,by simp[hlt]⟩,Pv (i+1),fun σ' H' p'=>⟨xs.length - (i+1),by omega,rfl,hlt,p'⟩,fun x H' y=> ?_⟩
  obtain⟨e,y⟩:=y
  subst e
  exact hs i x σ _ (y xs q) p
 ·have e:i=xs.length:=by omega
  subst e
  exact .inl ⟨⟨xs,q,Nat.le_refl _⟩,hd σ H p⟩
theorem CG {lo:Int}{n:Nat}{g:TG}{tb:TS}{D:Ends}{σ:St}{H:Hp} (Pv:Nat->St->Hp->Prop) (h0:Pv 0 σ H)
 (hs:∀i σ H,i<n->Pv i σ H->g (.int (lo+i)) σ H fun σ2 H2=>tb {D with nx:=Pv (i+1),ct:=Pv (i+1),bk:=D.nx} σ2 H2) (hd:∀σ H,Pv n σ H->D.nx σ H):
 ∃W:Nat->Nat->St->Hp->Prop,(∃m,W 0 m σ H)/\∀i m σ H,W i m σ H->
  ((Itr lo n).stop i H/\D.nx σ H)\/((Itr lo n).go i H/\∃N:St->Hp->Prop,(∀σ' H',N σ' H'->∃m',m'<m/\W (i+1) m' σ' H')/\∀x H',(Itr lo n).yld i H x H'->g x σ H' fun σ2 H2=>tb {D with nx:=N,ct:=N,bk:=D.nx} σ2 H2):=by
 refine⟨fun i m σ H=>m=n - i/\i<=n/\Pv i σ H,⟨n,by simp,Nat.zero_le _,h0⟩, ?_⟩
 rintro i m σ H ⟨rfl,hi,p⟩
 by_cases hlt:i<n
 ·refine .inr ⟨hlt,Pv (i+1),fun σ' H' p'=>⟨n - (i+1),by omega,rfl,hlt,p'⟩,fun x H' y=> ?_⟩
  obtain⟨e,y⟩:=y
  subst e y
  exact hs i σ _ hlt p
 ·have e:i=n:=by omega
  subst e
  exact .inl ⟨Nat.le_refl _,hd σ H p⟩
end L2
namespace L2
open PySem PySem.Spec PyProof.Rows
abbrev R2:=V->V->Hp->VK->Prop
def OpR (X:Cx) (f:Value->Value->Sem Value) (r:R2):Prop:=
 ∀(pins:List (Addr×Obj)) (s:Shared) (σ:St) (H:Hp) (x y:V) (v u:Value) (Q:VK),Inv X pins σ H s->RelV x v->RelV y u->r x y H Q->
  wpAny (model X.prog X.w) X.A (f v u) (EP X pins σ Q) X.xe s
def UnR (X:Cx) (f:Value->Sem Value) (r:V->Hp->VK->Prop):Prop:=
 ∀(pins:List (Addr×Obj)) (s:Shared) (σ:St) (H:Hp) (x:V) (v:Value) (Q:VK),Inv X pins σ H s->RelV x v->r x H Q->
  wpAny (model X.prog X.w) X.A (f v) (EP X pins σ Q) X.xe s
def tL (X:Cx) (f:Value) (r:List V->Hp->VK->Prop):Prop:=
 ∀(pins:List (Addr×Obj)) (s:Shared) (σ:St) (H:Hp) (xs:List V) (us:List Value) (Q:VK),Inv X pins σ H s->Vals xs us->r xs H Q->
  wpAny (model X.prog X.w) X.A (call f us) (EP X pins σ Q) X.xe s
def afw (X:Cx) (r:V->Hp->(Bool->Hp->Prop)->Prop):Prop:=
 ∀(pins:List (Addr×Obj)) (s:Shared) (σ:St) (H:Hp) (x:V) (v:Value) (Q:Bool->Hp->Prop),Inv X pins σ H s->RelV x v->r x H Q->
  wpAny (model X.prog X.w) X.A (truthy v) (TP X pins σ Q) X.xe s
def tOp (r:R2) (ta tb:TE):TE:=fun σ H Q=>ta σ H fun x H1=>tb σ H1 fun y H2=>r x y H2 Q
def tUn (r:V->Hp->VK->Prop) (ta:TE):TE:=fun σ H Q=>ta σ H fun x H1=>r x H1 Q
def rI (C:Int->Int->Prop) (g:Int->Int->V):R2:=fun x y H Q=>∃i j,x= .int i/\y= .int j/\C i j/\Q (g i j) H
def rI0 (g:Int->Int->V):R2:=fun x y H Q=>∃i j,x= .int i/\y= .int j/\Q (g i j) H
def rU (g:Int->V):V->Hp->VK->Prop:=fun x H Q=>∃i,x= .int i/\Q (g i) H
section
variable {X:Cx}{a b c:Expr}{ta tb tc:TE}{pos:Pos}
theorem XD (ha:PE X a ta) (hb:PE X b tb) {pins:List (Addr×Obj)}{s:Shared}{σ:St}{H:Hp}{R:V->V->Hp->Prop} (I:Inv X pins σ H s)
 (h:ta σ H fun x H1=>tb σ H1 fun y H2=>R x y H2) {Q:Value->Shared->Prop}{f:Value->Value->Sem Value}
 (hf:∀v u s2 x y H2,Inv X pins σ H2 s2->RelV x v->RelV y u->R x y H2->wpAny (model X.prog X.w) X.A (f v u) Q X.xe s2):
 wpAny (model X.prog X.w) X.A (eval a X.env) (fun v s₁=>wpAny (model X.prog X.w) X.A (eval b X.env) (fun u s₂=>wpAny (model X.prog X.w) X.A (f v u) Q X.xe s₂) X.xe s₁) X.xe s:=by
 refine thn (ha pins s σ H _ I h) fun v s1 ⟨x,H1,I1,r1,q1⟩=> ?_
 refine thn (hb pins s1 σ H1 _ I1 q1) fun u s2 ⟨y,H2,I2,r2,q2⟩=> ?_
 exact hf v u s2 x y H2 I2 r1 r2 q2
theorem abE {op:Operator}{r:R2} (ho:OpR X (binaryOp op) r) (ha:PE X a ta) (hb:PE X b tb):PE X (.BinOp a op b pos) (tOp r ta tb):=by
 intro pins s σ H Q I h
 exact wpAny_BinOp (XD ha hb I h fun v u s2 x y H2 I2 rx ry q=>ho pins s2 σ H2 x y v u Q I2 rx ry q)
theorem abF {op:UnaryOp}{r:V->Hp->VK->Prop} (ho:UnR X (unaryOp op) r) (ha:PE X a ta):PE X (.UnaryOp op a pos) (tUn r ta):=by
 intro pins s σ H Q I h
 exact UnaryOp_ (thn (ha pins s σ H _ I h) fun v s1 ⟨x,H1,I1,r1,q1⟩=>ho pins s1 σ H1 x v Q I1 r1 q1)
theorem opI {f:Value->Value->Sem Value}{C:Int->Int->Prop}{g:Int->Int->Int}
 (rule:∀(i j:Int) (t u:Tok) (s:Shared) (Q:Value->Shared->Prop) (E:Value->Shared->Prop),C i j->Q (.int (g i j) s.toks) {s with toks:=s.toks+1}->wpAny (model X.prog X.w) X.A (f (.int i t) (.int j u)) Q E s):
 OpR X f (rI C fun i j=> .int (g i j)):=by
 intro pins s σ H x y v u Q I rx ry h
 obtain⟨i,j,rfl,rfl,hc,q⟩:=h
 obtain⟨t,rfl⟩:=rx
 obtain⟨t',rfl⟩:=ry
 exact rule i j t t' s _ _ hc ⟨.int (g i j),H,I.tok _,⟨_,rfl⟩,q⟩
theorem abG {f:Value->Value->Sem Value}{g:Int->Int->Int}
 (rule:∀(i j:Int) (t u:Tok) (s:Shared) (Q:Value->Shared->Prop) (E:Value->Shared->Prop),Q (.int (g i j) s.toks) {s with toks:=s.toks+1}->wpAny (model X.prog X.w) X.A (f (.int i t) (.int j u)) Q E s):
 OpR X f (rI0 fun i j=> .int (g i j)):=by
 intro pins s σ H x y v u Q I rx ry h
 obtain⟨i,j,rfl,rfl,q⟩:=h
 obtain⟨t,rfl⟩:=rx
 obtain⟨t',rfl⟩:=ry
 exact rule i j t t' s _ _ ⟨.int (g i j),H,I.tok _,⟨_,rfl⟩,q⟩
theorem abH {f:Value->Value->Sem Value}{g:Int->Int->Bool}
 (rule:∀(i j:Int) (t u:Tok) (s:Shared) (Q:Value->Shared->Prop) (E:Value->Shared->Prop),Q (.bool (g i j)) s->wpAny (model X.prog X.w) X.A (f (.int i t) (.int j u)) Q E s):
 OpR X f (rI0 fun i j=> .bl (g i j)):=by
 intro pins s σ H x y v u Q I rx ry h
 obtain⟨i,j,rfl,rfl,q⟩:=h
 obtain⟨t,rfl⟩:=rx
 obtain⟨t',rfl⟩:=ry
 exact rule i j t t' s _ _ ⟨.bl (g i j),H,I,rfl,q⟩
def wZ (i j:Int):Prop:=(-(2 ^ 64)<i/\i<2 ^ 64)\/(-(2 ^ 64)<j/\j<2 ^ 64)
theorem wZ.ok {i j:Int} (h:wZ i j):IntMulOk i j:=by
 rcases h with⟨h1,h2⟩ | ⟨h1,h2⟩
 ·exact .of_left (intBits_le_64 h1 h2)
 ·exact .of_right (intBits_le_64 h1 h2)
theorem XF:OpR X (binaryOp .Add) (rI0 fun i j=> .int (i+j)):=abG fun _ _ _ _ _ _ _ q=>add_int q
theorem XH:OpR X (binaryOp .Sub) (rI0 fun i j=> .int (i - j)):=abG fun _ _ _ _ _ _ _ q=>sub_int q
theorem XJ:OpR X (binaryOp .Mult) (rI wZ fun i j=> .int (i * j)):=opI fun _ _ _ _ _ _ _ hc q=>mul_int q hc.ok
theorem XM:OpR X (binaryOp .Mod) (rI (fun _ j=>0<j) fun i j=> .int (i % j)):=opI fun i j _ _ _ _ _ hc q=>by
 have h1:(0:Int)<j:=hc
 exact mod_int' (by omega) (by rw[Int.fmod_eq_emod_of_nonneg i (by omega)];exact q)
theorem unI {f:Value->Sem Value}{g:Int->Int}
 (rule:∀(i:Int) (t:Tok) (s:Shared) (Q:Value->Shared->Prop) (E:Value->Shared->Prop),Q (.int (g i) s.toks) {s with toks:=s.toks+1}->wpAny (model X.prog X.w) X.A (f (.int i t)) Q E s):
 UnR X f (rU fun i=> .int (g i)):=by
 intro pins s σ H x v Q I rx h
 obtain⟨i,rfl,q⟩:=h
 obtain⟨t,rfl⟩:=rx
 exact rule i t s _ _ ⟨.int (g i),H,I.tok _,⟨_,rfl⟩,q⟩
theorem XN:UnR X (unaryOp .USub) (rU fun i=> .int (-i)):=unI fun _ _ _ _ _ q=>neg_int q
end
def abI:V->V->Bool
 | .non, .non=>true | .non, .int _=>true | .int _, .non=>true | .non, .bl _=>true | .bl _, .non=>true | .non, .str _=>true | .str _, .non=>true
 | .int _, .int _=>true | .bl _, .bl _=>true | .str _, .str _=>true | .byt _, .byt _=>true
 | .int _, .str _=>true | .str _, .int _=>true | .bl _, .str _=>true | .str _, .bl _=>true
 | _,_=>false
def rEq:R2:=fun x y H Q=>abI x y=true/\Q (.bl (decide (x=y))) H
def rNe:R2:=fun x y H Q=>abI x y=true/\Q (.bl (!decide (x=y))) H
theorem JH {i j:Int}:decide (V.int i=V.int j)=(i==j):=by
 rw[Bool.eq_iff_iff]
 simp
theorem Ni {i j:Bool}:decide (V.bl i=V.bl j)=(i==j):=by
 rw[Bool.eq_iff_iff]
 simp
theorem JK {i j:Str}:decide (V.str i=V.str j)=(i==j):=by
 rw[Bool.eq_iff_iff]
 simp
theorem JL {i j:Array UInt8}:decide (V.byt i=V.byt j)=(i.toList==j.toList):=by
 rw[Bool.eq_iff_iff]
 cases i
 cases j
 simp
section
variable {X:Cx}{a b c:Expr}{ta tb tc:TE}{pos:Pos}
theorem dh {pins:List (Addr×Obj)}{σ:St}{H:Hp}{s:Shared}{Q:VK}{k k':Bool} (I:Inv X pins σ H s) (q:Q (.bl k) H) (e:k=k'):EP X pins σ Q (.bool k') s:=by
 subst e
 exact⟨.bl k,H,I,rfl,q⟩
theorem abJ:OpR X (compareOp .Eq) rEq:=by
 intro pins s σ H x y v u Q I rx ry h
 obtain⟨hs,q⟩:=h
 cases x with
 | non=>
   cases rx
   cases y with
   | non=>cases ry;exact PySem.EqNone.eq_none_none (dh I q (by simp))
   | bl j=>cases ry;exact PySem.EqNone.eq_none_bool (dh I q (by simp))
   | int j=>obtain⟨t',rfl⟩:=ry;exact PySem.EqNone.eq_none_int (dh I q (by simp))
   | str j=>obtain⟨t',rfl⟩:=ry;exact PySem.EqNone.eq_none_str (dh I q (by simp))
   | _=>exact absurd (show false=true from hs) Bool.false_ne_true
 | bl i=>
   cases rx
   cases y with
   | non=>cases ry;exact PySem.EqNone.eq_bool_none (dh I q (by simp))
   | bl j=>cases ry;exact eq_bool (dh I q Ni)
   | str j=>obtain⟨t',rfl⟩:=ry;exact PySem.EqMixed.eq_bool_str (dh I q (by simp))
   | _=>exact absurd (show false=true from hs) Bool.false_ne_true
 | int i=>
   obtain⟨t,rfl⟩:=rx
   cases y with
   | non=>cases ry;exact PySem.EqNone.eq_int_none (dh I q (by simp))
   | int j=>obtain⟨t',rfl⟩:=ry;exact eq_int (dh I q JH)
   | str j=>obtain⟨t',rfl⟩:=ry;exact PySem.EqMixed.eq_int_str (dh I q (by simp))
   | _=>exact absurd (show false=true from hs) Bool.false_ne_true
 | str i=>
   obtain⟨t,rfl⟩:=rx
   cases y with
   | non=>cases ry;exact PySem.EqNone.eq_str_none (dh I q (by simp))
   | bl j=>cases ry;exact PySem.EqMixed.eq_str_bool (dh I q (by simp))
   | int j=>obtain⟨t',rfl⟩:=ry;exact PySem.EqMixed.eq_str_int (dh I q (by simp))
   | str j=>obtain⟨t',rfl⟩:=ry;exact eq_str (dh I q JK)
   | _=>exact absurd (show false=true from hs) Bool.false_ne_true
 | byt i=>
   obtain⟨t,rfl⟩:=rx
   cases y with
   | byt j=>obtain⟨t',rfl⟩:=ry;exact PySem.W.eq_bytes (dh I q JL)
   | _=>exact absurd (show false=true from hs) Bool.false_ne_true
 | _=>cases y<;>exact absurd (show false=true from hs) Bool.false_ne_true
theorem abK:OpR X (compareOp .NotEq) rNe:=by
 intro pins s σ H x y v u Q I rx ry h
 obtain⟨hs,q⟩:=h
 cases x with
 | non=>
   cases rx
   cases y with
   | non=>cases ry;exact PySem.EqNone.ne_none_none (dh I q (by simp))
   | bl j=>cases ry;exact PySem.EqNone.ne_none_bool (dh I q (by simp))
   | int j=>obtain⟨t',rfl⟩:=ry;exact PySem.EqNone.ne_none_int (dh I q (by simp))
   | str j=>obtain⟨t',rfl⟩:=ry;exact PySem.EqNone.ne_none_str (dh I q (by simp))
   | _=>exact absurd (show false=true from hs) Bool.false_ne_true
 | bl i=>
   cases rx
   cases y with
   | non=>cases ry;exact PySem.EqNone.ne_bool_none (dh I q (by simp))
   | bl j=>cases ry;exact ne_bool (dh I q (congrArg not Ni))
   | str j=>obtain⟨t',rfl⟩:=ry;exact PySem.EqMixed.ne_bool_str (dh I q (by simp))
   | _=>exact absurd (show false=true from hs) Bool.false_ne_true
 | int i=>
   obtain⟨t,rfl⟩:=rx
   cases y with
   | non=>cases ry;exact PySem.EqNone.ne_int_none (dh I q (by simp))
   | int j=>obtain⟨t',rfl⟩:=ry;exact ne_int (dh I q (congrArg not JH))
   | str j=>obtain⟨t',rfl⟩:=ry;exact PySem.EqMixed.ne_int_str (dh I q (by simp))
   | _=>exact absurd (show false=true from hs) Bool.false_ne_true
 | str i=>
   obtain⟨t,rfl⟩:=rx
   cases y with
   | non=>cases ry;exact PySem.EqNone.ne_str_none (dh I q (by simp))
   | bl j=>cases ry;exact PySem.EqMixed.ne_str_bool (dh I q (by simp))
   | int j=>obtain⟨t',rfl⟩:=ry;exact PySem.EqMixed.ne_str_int (dh I q (by simp))
   | str j=>obtain⟨t',rfl⟩:=ry;exact ne_str (dh I q (congrArg not JK))
   | _=>exact absurd (show false=true from hs) Bool.false_ne_true
 | byt i=>
   obtain⟨t,rfl⟩:=rx
   cases y with
   | byt j=>obtain⟨t',rfl⟩:=ry;exact PySem.W.ne_bytes (dh I q (congrArg not JL))
   | _=>exact absurd (show false=true from hs) Bool.false_ne_true
 | _=>cases y<;>exact absurd (show false=true from hs) Bool.false_ne_true
theorem abL:OpR X (compareOp .Lt) (rI0 fun i j=> .bl (decide (i<j))):=abH fun _ _ _ _ _ _ _ q=>lt_int q
theorem abM:OpR X (compareOp .Gt) (rI0 fun i j=> .bl (decide (j<i))):=abH fun _ _ _ _ _ _ _ q=>gt_int q
theorem XQ:OpR X (compareOp .Is) (fun x y H Q=>y= .non/\Q (.bl (decide (x= .non))) H):=by
 intro pins s σ H x y v u Q I rx ry h
 obtain⟨rfl,q⟩:=h
 cases ry
 refine is_none_gen (dh I q ?_)
 cases x<;>first
  | (cases rx;rfl)
  | (obtain⟨t,rfl⟩:=rx;rfl)
theorem RZ:OpR X (compareOp .IsNot) (fun x y H Q=>y= .non/\Q (.bl (!decide (x= .non))) H):=by
 intro pins s σ H x y v u Q I rx ry h
 obtain⟨rfl,q⟩:=h
 cases ry
 refine isnot_none_gen (dh I q ?_)
 cases x<;>first
  | (cases rx;rfl)
  | (obtain⟨t,rfl⟩:=rx;rfl)
theorem XR (b:Expr) {op:CmpOp} (h:op≠ .In:=by decide) (h2:op≠ .NotIn:=by decide):behindInMarks op b=false:=by
 have e1:(op==CmpOp.In)=false:=by cases op<;>first | rfl | exact absurd rfl h
 have e2:(op==CmpOp.NotIn)=false:=by cases op<;>first | rfl | exact absurd rfl h2
 cases b<;>simp[behindInMarks,e1,e2]
theorem R0 {op:CmpOp}{r:R2} (ho:OpR X (compareOp op) r) (ha:PE X a ta) (hb:PE X b tb) (hm:behindInMarks op b=false):PE X (.Compare a [op] [b] pos) (tOp r ta tb):=by
 intro pins s σ H Q I h
 exact wpAny_Compare1 (XD ha hb I h fun v u s2 x y H2 I2 rx ry q=>ho pins s2 σ H2 x y v u Q I2 rx ry q) hm
def VH (t:TE):TT:=fun σ H Q=>t σ H fun x H'=>∃k,x= .bl k/\Q k H'
theorem R6 {op:CmpOp}{r:R2} (ho:OpR X (compareOp op) r) (ha:PE X a ta) (hb:PE X b tb) (hm:behindInMarks op b=false):PT X (.Compare a [op] [b] pos) (VH (tOp r ta tb)):=by
 intro pins s σ H Q I h
 refine wpAny_isTrue_Compare1 (thn (ha pins s σ H _ I h) fun v s1 ⟨x,H1,I1,r1,q1⟩=>thn (hb pins s1 σ H1 _ I1 q1) fun u s2 ⟨y,H2,I2,r2,q2⟩=>
  thn (ho pins s2 σ H2 x y v u _ I2 r1 r2 q2) fun c s3 ⟨z,H3,I3,r3,k,e,q3⟩=> ?_) hm
 subst e
 cases r3
 exact wpAny_truthy_bool ⟨H3,I3,q3⟩
def XS (K:PySem.W.Frag) (x:V) (H:Hp) (k:Bool):Prop:=
 match x with
 | .non=>k=false
 | .bl b=>k=b
 | .int i=>k=(i !=0)
 | .str y=>y.length<=sizeLine/\k=((y.length:Int) !=0)
 | .byt y=>y.size<=sizeLine/\k=((y.size:Int) !=0)
 | .ref p=>(∃xs,SqL K H p xs/\k= !xs.isEmpty)\/(∃xs,SqT K H p xs/\k= !xs.isEmpty)\/∃kvs,H p=some (.dK kvs)/\k= !kvs.isEmpty
 | _=>False
theorem HQ {κ:Type}{kvs:List (κ×V)}{vs:List (κ×Value)} (r:KV kvs vs):(!vs.isEmpty)= !kvs.isEmpty:=by
 cases r<;>rfl
theorem zN {xs:List V}{its:List Value} (r:Vals xs its):(!its.toArray.isEmpty)= !xs.isEmpty:=by
 cases r<;>simp
theorem zO:(sizeLine:Nat)<2 ^ 63:=by rw[sizeLine_eq];decide
theorem XX:afw X (fun x H Q=>∃k,XS X.K x H k/\Q k H):=by
 intro pins s σ H x v Q I rx h
 obtain⟨k,e,q⟩:=h
 have hl:=zO
 have hs:sizeLine=16777216:=sizeLine_eq
 cases x with
 | non=>
   cases rx
   have e':k=false:=e
   subst e'
   exact truthy_none ⟨H,I,q⟩
 | bl b=>
   cases rx
   have e':k=b:=e
   subst e'
   exact wpAny_truthy_bool ⟨H,I,q⟩
 | int i=>
   obtain⟨t,rfl⟩:=rx
   have e':k=(i !=0):=e
   subst e'
   exact PySem.P.truthy_int ⟨H,I,q⟩
 | str y=>
   obtain⟨t,rfl⟩:=rx
   obtain⟨hy,e'⟩:y.length<=sizeLine/\k=((y.length:Int) !=0):=e
   subst e'
   exact PySem.P.truthy_str (by omega) ⟨H,I.tok _,q⟩
 | byt y=>
   obtain⟨t,rfl⟩:=rx
   obtain⟨hy,e'⟩:y.size<=sizeLine/\k=((y.size:Int) !=0):=e
   subst e'
   exact PySem.W.truthy_bytes (by omega) ⟨H,I.tok _,q⟩
 | ref p=>
   cases rx
   have e':(∃xs,SqL X.K H p xs/\k= !xs.isEmpty)\/(∃xs,SqT X.K H p xs/\k= !xs.isEmpty)\/∃kvs,H p=some (.dK kvs)/\k= !kvs.isEmpty:=e
   rcases e' with⟨xs,hx,e'⟩ | ⟨xs,hx,e'⟩ | ⟨kvs,hx,e'⟩
   ·subst e'
    obtain⟨its,r,pl,hz⟩:=I.list hx
    have hlen:=r.length
    exact wpAny_truthy_list pl.isList (by simp only[List.size_toArray];omega) ⟨H,I.tok _,by rw[zN r];exact q⟩
   ·subst e'
    obtain⟨its,r,pl,hz⟩:=I.tuple hx
    have hlen:=r.length
    exact truthy_tuple pl (by simp only[List.size_toArray];omega) ⟨H,I.tok _,by rw[zN r];exact q⟩
   ·subst e'
    obtain⟨hz,hS,vs,r,m⟩:kvs.length<=sizeLine/\(p==sysModules)=false/\∃vs,KV kvs vs/\s.heap.DictOf (gf X.prog X.w) p vs:=I.hok p _ hx
    have hlen:kvs.length=vs.length:=Paired.length r
    exact wpAny_truthy_dict hS m (by omega) ⟨H,I.tok _,by rw[HQ r];exact q⟩
 | _=>exact(show False from e).elim
theorem Nj (ha:PE X a ta) (he:∀whole,isTrue a X.env whole=(do let v <-whole;standAt a.pos;holding [v] (truthy v))):
 PT X a (fun σ H Q=>ta σ H fun x H'=>∃k,XS X.K x H' k/\Q k H'):=by
 intro pins s σ H Q I h
 exact isTrue_plain (thn (ha pins s σ H _ I h) fun v s1 ⟨x,H1,I1,r1,q1⟩=>XX pins s1 σ H1 x v Q I1 r1 q1) (he _)
theorem vals1 {x:V}{us:List Value} (r:Vals [x] us):∃u,us=[u]/\RelV x u:=by
 cases r with
 | cons r1 r2=>cases r2;exact⟨_,rfl,r1⟩
theorem vals2 {x y:V}{us:List Value} (r:Vals [x,y] us):∃u w',us=[u,w']/\RelV x u/\RelV y w':=by
 cases r with
 | cons r1 r2=>
   cases r2 with
   | cons r3 r4=>cases r4;exact⟨_,_,rfl,r1,r3⟩
theorem Lb (hc:X.calm=true):tL X (.builtin "max") (fun xs H Q=>∃i j,xs=[.int i, .int j]/\Q (.int (if j>i then j else i)) H):=by
 intro pins s σ H xs us Q I r h
 obtain⟨i,j,rfl,q⟩:=h
 obtain⟨u,w',rfl,⟨t,rfl⟩,⟨t',rfl⟩⟩:=vals2 r
 refine max_two_ints (I.ok.hd hc) fun h' tk k=>⟨_,H,I.kept k, ?_,q⟩
 by_cases hj:j>i
 ·rw[if_pos hj,if_pos hj];exact⟨_,rfl⟩
 ·rw[if_neg hj,if_neg hj];exact⟨_,rfl⟩
theorem Ld (hc:X.calm=true):tL X (.builtin "min") (fun xs H Q=>∃i j,xs=[.int i, .int j]/\Q (.int (if j<i then j else i)) H):=by
 intro pins s σ H xs us Q I r h
 obtain⟨i,j,rfl,q⟩:=h
 obtain⟨u,w',rfl,⟨t,rfl⟩,⟨t',rfl⟩⟩:=vals2 r
 refine min_two_ints (I.ok.hd hc) fun h' tk k=>⟨_,H,I.kept k, ?_,q⟩
 by_cases hj:j<i
 ·rw[if_pos hj,if_pos hj];exact⟨_,rfl⟩
 ·rw[if_neg hj,if_neg hj];exact⟨_,rfl⟩
end
end L2
namespace L2
open PySem PySem.Spec PyProof.Rows
structure HR (h:Heap) (x dx C:Addr) (mA:Str->Option Value):Prop where
 obj:h.get? x=some (PySem.W.instObj C dx)
 ns:h.Ns1 dx mA
 ne:dx≠x
theorem Lf {h:Heap}{dx:Addr}{mA:Str->Option Value} (n:h.Ns1 dx mA):∃od,h.get? dx=some od/\∀name,PySem.W.lookIn name od=some (mA name):=by
 obtain⟨o,es,ep,ho,hd,hk,_,hm⟩:=n
 refine⟨o,ho,fun name=> ?_⟩
 have e:=hm name
 unfold nsFind findBy at e
 rw[<-Array.find?_toList] at e
 unfold PySem.W.lookIn
 rw[hd]
 dsimp only
 split
 ·rename_i y q
  rw[q] at e
  exact congrArg some e
 ·rename_i q
  rw[q] at e
  have a:es.toList.any (·.refKey)=false:=by
   rw[List.any_eq_false]
   intro y hy
   obtain⟨z,t,hkey⟩:=hk y (Array.mem_toList_iff.mp hy)
   simp[DictEntry.refKey,hkey]
  have a':¬es.toList.any (·.refKey)=true:=by rw[a];exact Bool.false_ne_true
  rw[if_neg a']
  exact congrArg some e
theorem HR.look {h:Heap}{x dx C:Addr}{mA:Str->Option Value} (I:HR h x dx C mA):∃od,PySem.W.InstAt h x (PySem.W.instObj C dx) C (some od)/\∀name,PySem.W.lookIn name od=some (mA name):=
 let ⟨od,ho,hl⟩:=Lf I.ns
 ⟨od,⟨I.obj,rfl,rfl,ho⟩,hl⟩
section
variable {prog:Program}{w:World}{A:Around}{E:Value->Shared->Prop}{s:Shared}{K:PySem.W.Frag}{x dx C f:Addr}{mA:Str->Option Value}{name:Str}{v:Value}
theorem get_map {expr:Bool}{Q:Value->Shared->Prop} (X:K.In s.heap) (I:HR s.heap x dx C mA) (hg:PySem.W.plainGet K C name=true) (hh:PySem.W.hasDictIn K C=true)
 (ha:PySem.W.findIn K (.ref C) name=some none) (hv:mA name=some v) (hv':PySem.W.handedIn v=true) (h:Q v {s with toks:=s.toks+1}):
 wpAny (model prog w) A (getAttr (.ref x) name expr) Q E s:=by
 obtain⟨od,J,hl⟩:=I.look
 exact PySem.W.get_value X J (PySem.W.plainGet_of hg).1 (PySem.W.findObj_own hh ha rfl (by rw[hl,hv])) hv' h
theorem Nk {pl:Sem Bool}{Q:Value×List Value->Shared->Prop} (X:K.In s.heap) (I:HR s.heap x dx C mA) (hg:PySem.W.plainGet K C name=true)
 (hf:PySem.W.findIn K (.ref C) name=some (some (.ref f))) (ht:PySem.W.isFn K (.ref f)=true) (hv:mA name=none) (h:Q (.ref f,[.ref x]) s):
 wpAny (model prog w) A (getMethod (.ref x) name pl) Q E s:=by
 obtain⟨od,J,hl⟩:=I.look
 exact PySem.W.method_fn X J (PySem.W.plainGet_of hg).1 (PySem.W.plainGet_of hg).2 hf (beq_iff_eq.mp ht) (by show(PySem.W.lookIn name od).map (·.isSome)=some false;rw[hl,hv];rfl) h
theorem R7 {ns:List Str}{Q:Unit->Shared->Prop} (X:K.In s.heap) (I:HR s.heap x dx C mA)
 (hs:PySem.W.findIn K (.ref C) "__setattr__"=some (some (.builtin "object.__setattr__"))) (hp:PySem.W.plainOver K C=true) (ht:PySem.W.takerIn K C name=some none) (hh:PySem.W.hasDictIn K C=true)
 (hw:PySem.Within mA ns) (hsz:ns.length<=sizeLine)
 (h:∀h',HR h' x dx C (fun y=>if y=name then some v else mA y)->Heap.SameBut dx s.heap h'->Q () {s with heap:=h',toks:=s.toks+2}):
 wpAny (model prog w) A (setAttr (.ref x) name v) Q E s:=by
 obtain⟨od,J,hl⟩:=I.look
 refine PySem.W.set_plain X J hs (PySem.W.osa_open (s:={s with toks:=s.toks+1}) (r:=none) X J hp ht fun b=> ?_)
 obtain⟨cd,hc,hd'⟩:=PySem.W.any_some hh
 have hx:s.heap.get? x=some ⟨.ref C,some dx, .plain, #[]⟩:=I.obj
 refine wpAny_bind (wpAny_pure (wpAny_bind (wpAny_bind (wpAny_loadPart hx (wpAny_bind (PySem.W.Looks.here (s:={s with toks:=s.toks+1}) (PySem.W.looks_clsIn X hc) ?_))))))
 rw[hd']
 refine wpAny_pure (a:=some dx) (wpAny_bind (wpAny_pure (wpAny_bind ?_)))
 refine wpAny_nsSet1 (s:={s with toks:=s.toks+1}) I.ns fun h' hn2 hs2=> ?_
 obtain⟨oD,esD,epD,hoD,hdD,hcD⟩:=hn2.count (PySem.Within.cons name v hw)
 refine wpAny_bind (wpAny_lookBehind hoD (by rw[hdD];exact pastItsLine_dict (Nat.le_trans hcD (by rw[List.length_cons];omega))) ?_)
 exact wpAny_pure (h _ ⟨(hs2.2 _ (Ne.symm I.ne)).trans I.obj,hn2,I.ne⟩ hs2)
theorem Nm {R:Result->Shared->Prop}{vs:List Value}{kw:List (Str×Value)} (X:K.In s.heap) (hm:PySem.W.makesIn K C=true)
 (hi:PySem.W.findIn K (.ref C) "__init__"=some (some (.ref f))) (hf:PySem.W.typeIn K (.ref f)=some (.type "function"))
 (h:codeAny (model prog w) (A.under (.builtin "type.__call__" ⟨.ref C::vs,kw⟩)) (.call (.ref f) ⟨.ref (s.heap.objs.size+1)::vs,kw⟩) (PySem.W.InitBack (s.heap.objs.size+1) R)
   {s with heap:=(s.heap.push PySem.W.emptyDict).push (PySem.W.instObj C s.heap.objs.size)}):
 codeAny (model prog w) A (.call (.ref C) ⟨vs,kw⟩) R s:=by
 obtain⟨hh,g,d,t,os⟩:=s
 exact PySem.W.make_core (PySem.W.makes_of X hm) (PySem.W.looks_findIn X hi) (fun self=>PySem.W.bind_fn X self hf) (.inl rfl) h
end
def aP (f:Str) (v:V):List (Str×V)->List (Str×V)
 |[]=>[(f,v)]
 | (g,x)::r=>if g=f then(g,v)::r else(g,x)::aP f v r
theorem yM (f g:Str) (v:V):∀fs:List (Str×V),(aP f v fs).lookup g=if g=f then some v else fs.lookup g
 |[]=>by
  show List.lookup g [(f,v)]=_
  by_cases h:g=f
  ·have hb:(g==f)=true:=beq_iff_eq.mpr h
   simp only[List.lookup,hb,if_pos h]
  ·have hb:(g==f)=false:=beq_eq_false_iff_ne.mpr h
   simp only[List.lookup,hb,if_neg h]
 | (k,x)::r=>by
   have ih:=yM f g v r
   rw[show aP f v ((k,x)::r)=(if k=f then(k,v)::r else(k,x)::aP f v r) from rfl]
   by_cases hk:k=f
   ·rw[if_pos hk]
    by_cases h:g=k
    ·have hb:(g==k)=true:=beq_iff_eq.mpr h
     simp only[List.lookup,hb,if_pos (h.trans hk)]
    ·have hb:(g==k)=false:=beq_eq_false_iff_ne.mpr h
     simp only[List.lookup,hb,if_neg (fun e:g=f=>h (e.trans hk.symm))]
   ·rw[if_neg hk]
    by_cases h:g=k
    ·have hb:(g==k)=true:=beq_iff_eq.mpr h
     simp only[List.lookup,hb,if_neg (fun e:g=f=>hk (h.symm.trans e))]
    ·have hb:(g==k)=false:=beq_eq_false_iff_ne.mpr h
     simp only[List.lookup,hb]
     exact ih
theorem yg (f:Str) (v:V):∀fs:List (Str×V),f∈(aP f v fs).map (·.1)/\∀g,g∈fs.map (·.1)->g∈(aP f v fs).map (·.1)
 |[]=>⟨by simp[aP],fun g h=>by simp at h⟩
 | (k,x)::r=>by
   obtain⟨i1,i2⟩:=yg f v r
   rw[show aP f v ((k,x)::r)=(if k=f then(k,v)::r else(k,x)::aP f v r) from rfl]
   by_cases hk:k=f
   ·rw[if_pos hk]
    subst hk
    exact⟨by simp,fun g h=>by simpa using h⟩
   ·rw[if_neg hk]
    refine⟨?_,fun g h=> ?_⟩
    ·rw[List.map_cons]
     exact List.mem_cons_of_mem _ i1
    ·rw[List.map_cons] at h ⊢
     rcases List.mem_cons.mp h with e | e
     ·exact List.mem_cons.mpr (.inl e)
     ·exact List.mem_cons_of_mem _ (i2 g e)
theorem yN (f:Str) (v:V):∀fs:List (Str×V),(aP f v fs).length<=fs.length+1
 |[]=>by simp[aP]
 | (k,x)::r=>by
   have ih:=yN f v r
   rw[show aP f v ((k,x)::r)=(if k=f then(k,v)::r else(k,x)::aP f v r) from rfl]
   by_cases hk:k=f
   ·rw[if_pos hk,List.length_cons,List.length_cons];omega
   ·rw[if_neg hk,List.length_cons,List.length_cons];omega
theorem rQ.some_of {v:V}{o:Option Value} (r:rQ (some v) o):∃u,o=some u/\RelV v u:=by
 cases o with
 | none=>exact(show False from r).elim
 | some u=>exact⟨u,rfl,r⟩
theorem rQ.none_of {o:Option Value} (r:rQ none o):o=none:=by
 cases o with
 | none=>rfl
 | some u=>exact(show False from r).elim
theorem Lg {v:V}{u:Value} (r:RelV v u):PySem.W.handedIn u=true:=by
 cases v with
 | non=>cases(show u=Value.none from r);rfl
 | bl b=>cases(show u=Value.bool b from r);rfl
 | int i=>obtain⟨t,e⟩:=(show∃t,u=Value.int i t from r);cases e;rfl
 | str x=>obtain⟨t,e⟩:=(show∃t,u=Value.str x t from r);cases e;rfl
 | byt b=>obtain⟨t,e⟩:=(show∃t,u=Value.bytes b t from r);cases e;rfl
 | flt b=>obtain⟨t,e⟩:=(show∃t,u=Value.float b t from r);cases e;rfl
 | ref a=>cases(show u=Value.ref a from r);rfl
 | ty n=>cases(show u=Value.type n from r);rfl
section
variable {P:Program}{w:World}{H H':Hp}{h h':Heap}{a C dx:Addr}{fs fs':List (Str×V)}
theorem zA (hok:HOk P w H h) (e:H a=some (.ins C dx fs)):∃mA,HR h a dx C mA/\(∀f,rQ (fs.lookup f) (mA f))/\PySem.Within mA (fs.map (·.1))/\fs.length<=1000/\H dx=some (.own a):=by
 obtain⟨d,z,ne,ob,mA,n,r,q⟩:=(show dm P w H h a (.ins C dx fs) from hok a _ e)
 exact⟨mA,⟨ob,n,ne⟩,r,q,z,d⟩
end
structure Cls (K:PySem.W.Frag) (C:Addr):Prop where
 pg:PySem.W.plainGet K C Str.empty=true
 hd:PySem.W.hasDictIn K C=true
 po:PySem.W.plainOver K C=true
 sa:PySem.W.findIn K (.ref C) "__setattr__"=some (some (.builtin "object.__setattr__"))
theorem Cls.get {K:PySem.W.Frag}{C:Addr} (c:Cls K C) (f:Str):PySem.W.plainGet K C f=true:=c.pg
def gQ (K:PySem.W.Frag) (C:Addr) (f:Str):Prop:=PySem.W.findIn K (.ref C) f=some none
theorem gQ.taker {K:PySem.W.Frag}{C:Addr}{f:Str} (n:gQ K C f):PySem.W.takerIn K C f=some none:=by
 unfold PySem.W.takerIn
 rw[show PySem.W.findIn K (.ref C) f=some none from n]
 rfl
structure Meth (K:PySem.W.Frag) (C:Addr) (m:Str) (f:Addr):Prop where
 at_:PySem.W.findIn K (.ref C) m=some (some (.ref f))
 fn:PySem.W.isFn K (.ref f)=true
 kp:PySem.W.keepIn K (.ref f)=true
section
variable {X:Cx}{pins:List (Addr×Obj)}{σ:St}{H:Hp}{s:Shared}{a C dx:Addr}{fs:List (Str×V)}{f:Str}{v:V}{A:Around}{E:Value->Shared->Prop}
theorem HS {b:Bool}{Q:Value->Shared->Prop} (I:Inv X pins σ H s) (e:H a=some (.ins C dx fs)) (c:Cls X.K C) (n:gQ X.K C f) (l:fs.lookup f=some v)
 (h:∀u s',Inv X pins σ H s'->RelV v u->Q u s'):wpAny (model X.prog X.w) A (getAttr (.ref a) f b) Q E s:=by
 obtain⟨mA,O,r,_,_,_⟩:=zA I.hok e
 obtain⟨u,hu,ru⟩:=rQ.some_of (v:=v) (o:=mA f) (by rw[<-l];exact r f)
 exact get_map I.kIn O (c.get f) c.hd n hu (Lg ru) (h u _ (I.tok _) ru)
theorem zP {m:Str}{g:Addr}{pl:Sem Bool}{Q:Value×List Value->Shared->Prop} (I:Inv X pins σ H s) (e:H a=some (.ins C dx fs)) (c:Cls X.K C) (k:Meth X.K C m g) (l:fs.lookup m=none)
 (h:Q (.ref g,[.ref a]) s):wpAny (model X.prog X.w) A (getMethod (.ref a) m pl) Q E s:=by
 obtain⟨mA,O,r,_,_,_⟩:=zA I.hok e
 have hn:mA m=none:=rQ.none_of (by rw[<-l];exact r m)
 exact Nk I.kIn O (c.get m) k.at_ k.fn hn h
theorem HW {y:V}{u:Value}{Q:Unit->Shared->Prop} (I:Inv X pins σ H s) (e:H a=some (.ins C dx fs)) (c:Cls X.K C) (n:gQ X.K C f) (hl:fs.length<1000) (ry:RelV y u)
 (h:∀s',Inv X pins σ (upd H a (.ins C dx (aP f y fs))) s'->Q () s'):wpAny (model X.prog X.w) A (setAttr (.ref a) f u) Q E s:=by
 obtain⟨mA,O,r,wi,_,ho⟩:=zA I.hok e
 have hz:(fs.map (·.1)).length<=sizeLine:=by rw[List.length_map,sizeLine_eq];omega
 refine R7 I.kIn O c.sa c.po n.taker c.hd wi hz fun h' O' sb=>h _ ?_
 have hd:∃o,h'.get? dx=some o:=let ⟨o,_,_,e',_⟩:=O'.ns;⟨o,e'⟩
 refine I.write (x:=a) (e:=dx) (by rw[e];exact True.intro) (.inr ho) (fun b q hb z=>(sb.2 b hb).trans z) hd ?_
 refine⟨by rw[ao O.ne];exact ho, ?_,O.ne,O'.obj,_,O'.ns,fun g=> ?_,fun g hg=> ?_⟩
 ·have:=yN f y fs;omega
 ·show rQ ((aP f y fs).lookup g) (if g=f then some u else mA g)
  rw[yM]
  by_cases q:g=f
  ·rw[if_pos q,if_pos q];exact ry
  ·rw[if_neg q,if_neg q];exact r g
 ·by_cases q:g=f
  ·rw[q];exact(yg f y fs).1
  ·refine(yg f y fs).2 g (wi g fun z=>hg ?_)
   show(if g=f then some u else mA g)=none
   rw[if_neg q];exact z
theorem Inv.made (I:Inv X pins σ H s):Inv X pins σ (upd (upd H s.heap.objs.size (.own (s.heap.objs.size+1))) (s.heap.objs.size+1) (.ins C s.heap.objs.size []))
 {s with heap:=(s.heap.push PySem.W.emptyDict).push (PySem.W.instObj C s.heap.objs.size)}:=by
 have e1:(s.heap.push PySem.W.emptyDict).get? s.heap.objs.size=some PySem.W.emptyDict:=Heap.get?_push_size s.heap rfl
 have e2:((s.heap.push PySem.W.emptyDict).push (PySem.W.instObj C s.heap.objs.size)).get? (s.heap.objs.size+1)=some (PySem.W.instObj C s.heap.objs.size):=by
  have:=Heap.get?_push_size (s.heap.push PySem.W.emptyDict) (o:=PySem.W.instObj C s.heap.objs.size) rfl
  rwa [Heap.size_push] at this
 have e3:(s.heap.push PySem.W.emptyDict).Ns s.heap.objs.size (fun _=>none):=⟨PySem.W.emptyDict, #[],_,e1,rfl,(fun e he=>absurd he (by simp)),fun _=>rfl⟩
 have I1:=I.laid (a:=s.heap.objs.size) (o:= .own (s.heap.objs.size+1)) (h':=s.heap.push PySem.W.emptyDict) (t':=s.toks) (fun b u q=>Heap.get?_push_of_some _ q) (Nat.le_refl _) ⟨_,e1⟩
 refine I1.laid (a:=s.heap.objs.size+1) (o:= .ins C s.heap.objs.size []) (t':=s.toks) (fun b u q=>Heap.get?_push_of_some _ q) (Nat.le_of_eq (Heap.size_push _ _)) ?_
 have ne:s.heap.objs.size≠s.heap.objs.size+1:=Nat.ne_of_lt (Nat.lt_succ_self _)
 refine⟨by rw[ao ne,ak],Nat.zero_le _,ne,e2,fun _=>none,(Heap.Ns1.of_empty e3).at fun o q=>Heap.get?_push_of_some _ q,fun _=>True.intro,fun y hy=>absurd rfl hy⟩
theorem JM {prog:Program}{w:World}{env:Env}{e:Expr}{f:Str}{pos:Pos}{s:Shared}{Q:Value->Shared->Prop} (hb:attributeBase e f env (eval e env)=eval e env)
 (h:wpAny (model prog w) A (eval e env) (fun o s₁=>wpAny (model prog w) A (getAttr o f true) Q E s₁) E s):wpAny (model prog w) A (eval (.Attribute e f pos) env) Q E s:=
 Attribute_any_ h (by rw[arm_eval_Attribute,hb])
end
def X3 (K:PySem.W.Frag) (ta:TE) (f:Str):TE:=fun σ H Q=>ta σ H fun x H1=>∃a C dx fs v,x= .ref a/\H1 a=some (.ins C dx fs)/\Cls K C/\gQ K C f/\fs.lookup f=some v/\Q v H1
def abN (K:PySem.W.Frag) (ta tv:TE) (f:Str):TS:=fun D σ H=>tv σ H fun y H1=>ta σ H1 fun x H2=>∃a C dx fs,x= .ref a/\H2 a=some (.ins C dx fs)/\Cls K C/\gQ K C f/\fs.length<1000/\
 D.nx σ (upd H2 a (.ins C dx (aP f y fs)))
section
variable {X:Cx}{o e value:Expr}{f:Str}{pos pos' tpos:Pos}{ta tv:TE}
theorem X4 (he:PE X e ta) (hb:attributeBase e f X.env (eval e X.env)=eval e X.env):PE X (.Attribute e f pos) (X3 X.K ta f):=by
 intro pins s σ H Q I h
 refine JM hb (thn (he pins s σ H _ I h) fun u s1 ⟨x,H1,I1,rx,a,C,dx,fs,v,ex,ea,c,n,l,q⟩=> ?_)
 subst ex
 obtain rfl:u=Value.ref a:=rx
 exact HS I1 ea c n l fun u' s2 I2 ru=>⟨v,H1,I2,ru,q⟩
theorem X5 (ha:PE X o ta) (hv:PE X value tv) (hs:swapsWith value (some (.Attribute o f pos')) pos.line X.env=pure false):PS X (.Assign [.Attribute o f pos'] value pos) (abN X.K ta tv f):=by
 intro pins s σ H D I h
 refine plainObj_wpAny_Assign_Attribute (thn (hv pins s σ H _ I h) fun u s1 ⟨y,H1,I1,ry,q⟩=>thn (ha pins s1 σ H1 _ I1 q) fun ov s2 ⟨x,H2,I2,rx,a,C,dx,fs,ex,ea,c,n,l,q2⟩=> ?_) hs
 subst ex
 obtain rfl:ov=Value.ref a:=rx
 exact HW I2 ea c n l ry fun s3 I3=>⟨σ,_,I3,q2⟩
end
section
variable {X:Cx}{pins:List (Addr×Obj)}{σ:St}{H:Hp}{s:Shared}{A:Around}{E:Value->Shared->Prop}{Q:Value->Shared->Prop}{c:Value}{b:Bool}
inductive nU (K:PySem.W.Frag) (H:Hp):V->Value->Prop where
 | non:nU K H .non (.type "NoneType")
 | bl (x:Bool):nU K H (.bl x) (.type "bool")
 | int (i:Int):nU K H (.int i) (.type "int")
 | str (x:Str):nU K H (.str x) (.type "str")
 | flt (x:UInt64):nU K H (.flt x) (.type "float")
 | lst {a:Addr}{xs:List V} (e:H a=some (.lst xs)):nU K H (.ref a) (.type "list")
 | frz {a:Addr}{o:Obj}{xs:List V} (e:H a=some (.frz o (.lst xs))):nU K H (.ref a) (.type "list")
 | tup {a:Addr}{xs:List V} (e:H a=some (.tup xs)):nU K H (.ref a) (.type "tuple")
 | dK {a:Addr}{kvs:List (Key×V)} (e:H a=some (.dK kvs)):nU K H (.ref a) (.type "dict")
 | dT {a:Addr}{kvs:List (List Key×V)} (e:H a=some (.dT kvs)):nU K H (.ref a) (.type "dict")
 | ins {a C dx:Addr}{fs:List (Str×V)} (e:H a=some (.ins C dx fs)) (cl:Cls K C) (ha:PySem.W.findIn K (.ref C) "__class__"=some (some (.builtin "object.__class__")))
    (hn:PySem.W.specialIn K (.builtin "object.__class__") "__get__"=some (some (.builtin "getset_descriptor.__get__"))) (htk:PySem.W.takesIn K (.builtin "object.__class__")=some true)
    (hm:PySem.W.mroIn K C (.type "object")=some true):nU K H (.ref a) (.ref C)
theorem Lh {x:V}{u t:Value} (I:Inv X pins σ H s) (rx:RelV x u) (ty:nU X.K H x t) (e:PySem.W.kitOne X.K t c=some b) (h:∀tk,Q (.bool b) {s with toks:=tk}):
 wpAny (model X.prog X.w) A (call (.builtin "isinstance") [u,c]) Q E s:=by
 cases ty with
 | non=>cases(show u=Value.none from rx);exact PySem.W.kia_one PySem.W.kitx_none I.kIn True.intro e (fun z=>nomatch z) h
 | bl y=>cases(show u=Value.bool y from rx);exact PySem.W.kia_one PySem.W.kitx_bool I.kIn True.intro e (fun z=>nomatch z) h
 | int i=>obtain⟨t,q⟩:=(show∃t,u=Value.int i t from rx);cases q;exact PySem.W.kia_one PySem.W.kitx_int I.kIn True.intro e (fun z=>nomatch z) h
 | str y=>obtain⟨t,q⟩:=(show∃t,u=Value.str y t from rx);cases q;exact PySem.W.kia_one PySem.W.kitx_str I.kIn True.intro e (fun z=>nomatch z) h
 | flt y=>obtain⟨t,q⟩:=(show∃t,u=Value.float y t from rx);cases q;exact PySem.W.kia_one PySem.W.kitx_float I.kIn True.intro e (fun z=>nomatch z) h
 | @lst a xs ea=>
   cases(show u=Value.ref a from rx)
   obtain⟨_,_,n,_,h1⟩:=(show dm X.prog X.w H s.heap a (.lst xs) from I.hok a _ ea)
   exact PySem.W.kia_one PySem.W.kitx_list I.kIn ⟨_,h1,rfl⟩ e (fun z=>nomatch z) h
 | @frz a ob xs ea=>
   cases(show u=Value.ref a from rx)
   obtain⟨_,_,_,n,_,h1⟩:=(show dm X.prog X.w H s.heap a (.frz ob (.lst xs)) from I.hok a _ ea)
   exact PySem.W.kia_one PySem.W.kitx_list I.kIn ⟨_,h1,rfl⟩ e (fun z=>nomatch z) h
 | @tup a xs ea=>
   cases(show u=Value.ref a from rx)
   obtain⟨_,_,_,p⟩:=(show dm X.prog X.w H s.heap a (.tup xs) from I.hok a _ ea)
   obtain⟨o,h1,h2,_⟩:=p
   exact PySem.W.kia_one PySem.W.kitx_tuple I.kIn ⟨o,h1,h2⟩ e (fun z=>nomatch z) h
 | @dK a kvs ea=>
   cases(show u=Value.ref a from rx)
   obtain⟨_,_,vs,_,p⟩:=(show dm X.prog X.w H s.heap a (.dK kvs) from I.hok a _ ea)
   obtain⟨o,es,ep,h1,h2,_⟩:=p
   exact PySem.W.kia_one PySem.W.kitx_dict I.kIn ⟨o,h1,h2.1⟩ e (fun z=>nomatch z) h
 | @dT a kvs ea=>
   cases(show u=Value.ref a from rx)
   obtain⟨_,_,xs,_,o,es,ep,h1,h2,_⟩:=(show dm X.prog X.w H s.heap a (.dT kvs) from I.hok a _ ea)
   exact PySem.W.kia_one PySem.W.kitx_dict I.kIn ⟨o,h1,h2.1⟩ e (fun z=>nomatch z) h
 | @ins a C dx fs ea cl ha hn htk hm=>
   cases(show u=Value.ref a from rx)
   obtain⟨mA,O,_⟩:=zA I.hok ea
   obtain⟨od,J,_⟩:=O.look
   exact PySem.W.kia_one (PySem.W.kitx_own (cl.get _) cl.hd ha hn htk hm) I.kIn J e (fun z=>nomatch z) h
end
end L2
namespace L2
open PySem PySem.Spec PyProof.Rows
structure iD (k:Nat) (A:Around):Prop where
 hd:A.handled=none
 dp:A.depth+3 * k+5<recursionLimit
 un:A.units+16 * k+200<cLine
theorem iD.mono {j k:Nat}{A:Around} (r:iD k A) (h:j<=k):iD j A:=⟨r.hd,by have:=r.dp;omega,by have:=r.un;omega⟩
theorem iD.deeper {k:Nat}{A:Around} (r:iD (k+1) A) (env:Env):iD k (A.deeper env):=
 ⟨r.hd,by have:=r.dp;show A.depth+1+3 * k+5<_;omega,by have:=r.un;show A.units+3+16 * k+200<_;omega⟩
theorem HX {A:Around}{C:Addr}{us:List Value}{kw:List (Str×Value)}:(A.under (.builtin "type.__call__" ⟨.ref C::us,kw⟩)).depth=A.depth+1:=by
 first | rfl | simp[Around.under,Code.weight,Code.isCreation,Code.isGuard,Code.isCaller,Code.frames,Code.isFrame,guardIds]
theorem HY {A:Around}{C:Addr}{us:List Value}{kw:List (Str×Value)}:(A.under (.builtin "type.__call__" ⟨.ref C::us,kw⟩)).units=A.units+1:=by
 first | rfl | simp[Around.under,Code.cUnits,Code.frames,Code.isFrame]
theorem iD.make {k:Nat}{A:Around} (r:iD (k+1) A) (C:Addr) (us:List Value) (kw:List (Str×Value)):iD k (A.under (.builtin "type.__call__" ⟨.ref C::us,kw⟩)):=
 ⟨r.hd,by have:=r.dp;rw[HX];omega,by have:=r.un;rw[HY];omega⟩
theorem iD.depth {k:Nat}{A:Around} (r:iD k A):A.depth<recursionLimit:=by have:=r.dp;omega
theorem iD.units {k:Nat}{A:Around} (r:iD k A):A.units+64<cLine:=by have:=r.un;omega
def R8:TA:=fun _ H Q=>Q [] H
def oE (ta:TE) (tr:TA):TA:=fun σ H Q=>ta σ H fun x H1=>tr σ H1 fun xs H2=>Q (x::xs) H2
section
variable {X:Cx}{e:Expr}{es:List Expr}{te:TE}{t:TA}{pos:Pos}
theorem X6:PA X [] R8:=fun _ _ _ _ H Q I h=>Calls.spliced_nil ⟨[],H,I, .nil,h⟩
theorem R9 (ha:PE X e te) (hr:PA X es t) (hs:starEach (e::es) X.env=(false,eval e X.env)::starEach es X.env:=by rfl):PA X (e::es) (oE te t):=by
 intro pos pins s σ H Q I h
 rw[hs]
 show wpAny _ _ (spliced ((false,eval e X.env)::backTo pos (starEach es X.env))) _ _ s
 refine Calls.spliced_cons (thn (ha pins s σ H _ I h) fun u s1 ⟨x,H1,I1,r1,q1⟩=> ?_)
 exact thn (hr pos pins s1 σ H1 _ I1 q1) fun us s2 ⟨xs,H2,I2,r2,q2⟩=>⟨x::xs,H2,I2, .cons r1 r2,q2⟩
def abO (t:TA):TE:=fun σ H Q=>t σ H fun xs H1=>xs.length<=sizeLine/\∀p,H1 p=none->Q (.ref p) (upd H1 p (.tup xs))
def abP (t:TA):TE:=fun σ H Q=>t σ H fun xs H1=>xs.length<=sizeLine/\∀p,H1 p=none->Q (.ref p) (upd H1 p (.lst xs))
theorem X7 {x1} (h:PA X es t):PE X (.Tuple es x1 pos) (abO t):=by
 intro pins s σ H Q I hq
 refine wpAny_Tuple_spliced (thn (h pos pins s σ H _ I hq) fun us s1 ⟨xs,H1,I1,r,z,q⟩=>⟨by rw[<-r.length];exact z, ?_⟩)
 have hf:H1 s1.heap.objs.size=none:=I1.hok.fresh (Nat.le_refl _)
 refine⟨.ref s1.heap.objs.size,upd H1 s1.heap.objs.size (.tup xs),I1.laid (t':=s1.toks) (fun b u e=>Heap.get?_push_of_some _ e) (Nat.le_refl _) ?_,rfl,q _ hf⟩
 exact⟨z,us,r,⟨_,Heap.get?_push_size _ rfl,rfl,_,rfl⟩⟩
theorem X8 (h:PA X es t):PE X (.List es pos) (abP t):=by
 intro pins s σ H Q I hq
 refine wpAny_List_spliced (thn (h pos pins s σ H _ I hq) fun us s1 ⟨xs,H1,I1,r,z,q⟩=>⟨by rw[<-r.length];exact z, ?_⟩)
 have hf:H1 s1.heap.objs.size=none:=I1.hok.fresh (Nat.le_refl _)
 refine⟨.ref s1.heap.objs.size,upd H1 s1.heap.objs.size (.lst xs),I1.laid (t':=s1.toks) (fun b u e=>Heap.get?_push_of_some _ e) (Nat.le_refl _) ?_,rfl,q _ hf⟩
 exact⟨z,us,0,r,Heap.get?_push_size _ rfl⟩
end
abbrev Sp:=List V->Hp->VK->XK->Prop
abbrev CXT:=List Env->Hp->Shared->XK->Value->Shared->Prop
structure Ia (P:Program) (w:World) (K:PySem.W.Frag) (mg:Str->Option Value) (base:Heap) (A:Around) (outer:List Env) (s:Shared) (H:Hp):Prop where
 frames:A.frames=some outer
 mod:Mod K mg base
 bs:∀b o,base.get? b=some o->s.heap.get? b=some o/\H b=none
 bsz:base.objs.size<=s.heap.objs.size
 funs:s.heap.FunFrames base outer
 frf:∀b∈frs outer,H b=none
 hok:HOk P w H s.heap
 bare:AllBare s.gens
def CE (outer:List Env) (P:Program) (w:World) (H:Hp) (s:Shared) (Q:VK) (u:Value) (s':Shared):Prop:=
 ∃v H',s'.os=s.os/\AllBare s'.gens/\Un (frs outer) [] H H' s.heap s'.heap/\HOk P w H' s'.heap/\RelV v u/\Q v H'
def CR (CX:CXT) (outer:List Env) (P:Program) (w:World) (H:Hp) (s:Shared) (Q:VK) (E:XK) (r:Result) (s':Shared):Prop:=
 match r with
 | .ok (.ret u)=>CE outer P w H s Q u s'
 | .ok _=>False
 | .error e=>CX outer H s E e s'
structure bI (P:Program) (w:World) (K:PySem.W.Frag) (mg:Str->Option Value) (base:Heap) (CX:CXT) (k:Nat) (f:Addr) (fd:FuncData) (ps:List Str) (sp:Sp):Prop where
 len:∀vs H Q E,sp vs H Q E->vs.length=ps.length
 run:∀(A:Around) (outer:List Env) (s:Shared) (H:Hp) (args:Args) (us:List Value) (vs:List V) (Q:VK) (E:XK),iD k A->Ia P w K mg base A outer s H->BindsTo s fd args (ps.zip us)->Vals vs us->sp vs H Q E->
  codeAny (model P w) A (.call (.ref f) args) (CR CX outer P w H s Q E) s
theorem bI.mono {P:Program}{w:World}{K:PySem.W.Frag}{mg:Str->Option Value}{base:Heap}{CX:CXT}{j k:Nat}{f:Addr}{fd:FuncData}{ps:List Str}{sp:Sp} (F:bI P w K mg base CX j f fd ps sp) (h:j<=k):
 bI P w K mg base CX k f fd ps sp:=⟨F.len,fun A outer s H args us vs Q E hr=>F.run A outer s H args us vs Q E (hr.mono h)⟩
theorem bI.imp {P:Program}{w:World}{K:PySem.W.Frag}{mg:Str->Option Value}{base:Heap}{CX:CXT}{k:Nat}{f:Addr}{fd:FuncData}{ps:List Str}{sp sp':Sp} (F:bI P w K mg base CX k f fd ps sp)
 (h:∀vs H Q E,sp' vs H Q E->sp vs H Q E):bI P w K mg base CX k f fd ps sp':=
 ⟨fun vs H Q E q=>F.len vs H Q E (h _ _ _ _ q),fun A outer s H args us vs Q E hr he hb hv hs=>F.run A outer s H args us vs Q E hr he hb hv (h _ _ _ _ hs)⟩
theorem Ia.make {P:Program}{w:World}{K:PySem.W.Frag}{mg:Str->Option Value}{base:Heap}{A:Around}{outer:List Env}{s:Shared}{H:Hp} (e:Ia P w K mg base A outer s H) (C:Addr) (us:List Value) (kw:List (Str×Value)):
 Ia P w K mg base (A.under (.builtin "type.__call__" ⟨.ref C::us,kw⟩)) outer s H:=⟨by first | exact e.frames | (simpa [Around.under,Code.envs,Code.isFrame,pushEnvs] using e.frames),e.mod,e.bs,e.bsz,e.funs,e.frf,e.hok,e.bare⟩
section
variable {X:Cx}{pins:List (Addr×Obj)}{σ:St}{H:Hp}{s s':Shared}
theorem Inv.env0 (I:Inv X pins σ H s):Ia X.prog X.w X.K X.mg X.base X.A X.stack s H:=
 ⟨I.ok.frames,I.ok.mod,I.bs,Nat.le_trans I.ok.bsz I.sz,I.stack,I.Dv,I.hok,I.bare⟩
theorem Inv.after {Q:VK}{u:Value} (I:Inv X pins σ H s) (h:CE X.stack X.prog X.w H s Q u s'):EP X pins σ Q u s':=by
 obtain⟨v,H',os,bare,un,hok,r,q⟩:=h
 obtain⟨hh,g,d,t,os'⟩:=s'
 obtain rfl:os'=s.os:=os
 exact⟨v,H',I.call (h':=hh) (g':=g) (d':=d) (t':=t) (ch:=[]) un hok bare (fun b z=>absurd z (by simp)),r,q⟩
end
def VJ (sp:Sp) (dvs:List V) (E:XK) (t:TA):TE:=fun σ H Q=>t σ H fun vs H1=>sp (vs++dvs) H1 Q E
def JN (C:Addr) (m:Str) (sp:Sp) (dvs:List V) (E:XK) (ta:TE) (t:TA):TE:=fun σ H Q=>ta σ H fun x H1=>∃a dx fs,x= .ref a/\H1 a=some (.ins C dx fs)/\fs.lookup m=none/\
 t σ H1 fun vs H2=>sp (x::(vs++dvs)) H2 Q E
def VL (C:Addr) (sp:Sp) (dvs:List V) (E:XK) (t:TA):TE:=fun σ H Q=>t σ H fun vs H1=>∀x dx,H1 x=none->H1 dx=none->dx≠x->
 sp (.ref x::(vs++dvs)) (upd (upd H1 dx (.own x)) x (.ins C dx [])) (fun v H2=>v= .non/\Q (.ref x) H2) E
def Binds (K:PySem.W.Frag) (fd:FuncData) (ps:List Str) (ds:List Value):Prop:=
 ∀(s:Shared) (us:List Value),K.In s.heap->(us++ds).length=ps.length->BindsTo s fd ⟨us,[]⟩ (ps.zip (us++ds))
theorem Binds.all {K:PySem.W.Frag}{fd:FuncData}{ps:List Str} (h:∀us:List Value,us.length=ps.length->bindArgs fd ⟨us,[]⟩=pure (ps.zip us)):Binds K fd ps []:=fun s us _ hl=>by
 rw[List.append_nil] at hl ⊢
 exact .of_eq (h us hl)
def Passes (CX:CXT) (X:Cx) (E:XK):Prop:=∀(pins:List (Addr×Obj)) (σ:St) (H:Hp) (s:Shared) (e:Value) (s':Shared),Inv X pins σ H s->CX X.stack H s E e s'->X.xe e s'
section
variable {X:Cx}{CX:CXT}{k:Nat}{f C:Addr}{fd:FuncData}{ps:List Str}{sp:Sp}{dvs:List V}{ds:List Value}{E:XK}{x m:Str}{p pos apos:Pos}{e o:Expr}{es:List Expr}{ta:TE}{t:TA}
theorem Ib {pins:List (Addr×Obj)}{σ:St}{H:Hp}{s:Shared}{Q:VK}{us:List Value}{vs:List V} (F:bI X.prog X.w X.K X.mg X.base CX k f fd ps sp) (hr:iD k X.A) (hb:Binds X.K fd ps ds) (hd:Vals dvs ds) (hx:Passes CX X E)
 (I:Inv X pins σ H s) (r:Vals vs us) (h:sp (vs++dvs) H Q E):wpAny (model X.prog X.w) X.A (call (.ref f) us) (EP X pins σ Q) X.xe s:=by
 have r2:Vals (vs++dvs) (us++ds):=r.append hd
 have hl:(us++ds).length=ps.length:=by rw[<-r2.length];exact F.len _ _ _ _ h
 refine wpAny_call (codeAny_mono (F.run X.A X.stack s H ⟨us,[]⟩ (us++ds) (vs++dvs) Q E hr I.env0 (hb s us I.kIn hl) r2 h) fun r s' hq=> ?_)
 cases r with
 | error e=>exact hx pins σ H s e s' I hq
 | ok fl=>
   cases fl with
   | ret u=>exact I.after hq
   | next=>exact False.elim hq
   | brk=>exact False.elim hq
   | cont=>exact False.elim hq
theorem Sd (F:bI X.prog X.w X.K X.mg X.base CX k f fd ps sp) (hr:iD k X.A) (hg:Gl X x) (hm:X.mg x=some (.ref f)) (hk:PySem.W.keepIn X.K (.ref f)=true) (hb:Binds X.K fd ps ds) (hd:Vals dvs ds) (hx:Passes CX X E)
 (ha:PA X (e::es) t) (hdb:(x==("__debug__":Str))=false:=by decide) (he:starEach (e::es) X.env=(false,eval e X.env)::starEach es X.env:=by rfl) (hpl:(backTo pos (starEach es X.env)).any (·.1)=false:=by rfl):
 PE X (.Call (.Name x p) (e::es) [] pos) (VJ sp dvs E t):=by
 intro pins s σ H Q I h
 refine wpAny_Call_Name_kw (qI I hg hm ?_ hdb)
 refine PySem.W.callWith_K (h₀:=X.base) I.ok.mod.kin hk (thn (ha pos pins s σ H _ I h) fun us s1 ⟨vs,H1,I1,r,q⟩=>⟨I1.kIn, ?_⟩) he hpl
 exact Ib F hr hb hd hx I1 r q
theorem Sg {pl:Sem Bool} (he:PE X o ta) (c:Cls X.K C) (hm:Meth X.K C m f) (F:bI X.prog X.w X.K X.mg X.base CX k f fd ps sp) (hr:iD k X.A) (hb:Binds X.K fd ps ds) (hd:Vals dvs ds) (hx:Passes CX X E) (ha:PA X (e::es) t)
 (hst:starEach (e::es) X.env=(false,eval e X.env)::starEach es X.env:=by rfl) (hpl:(backTo pos (starEach es X.env)).any (·.1)=false:=by rfl)
 (ht:eval (.Call (.Attribute o m apos) (e::es) [] pos) X.env=(do
   let ov <-eval o X.env
   standAt apos.atName
   let (f,first) <-holding [ov] (getMethod ov m pl)
   callWith pos f first (backTo pos (starEach (e::es) X.env)) (backToKw pos (keywordEach [] X.env))):=by rfl):
 PE X (.Call (.Attribute o m apos) (e::es) [] pos) (JN C m sp dvs E ta t):=by
 intro pins s σ H Q I h
 refine PySem.W.methodCall_KW (pl:=pl) (thn (he pins s σ H _ I h) fun u s1 ⟨x,H1,I1,rx,a,dx,fs,ex,ea,l,q⟩=> ?_) ht
 subst ex
 obtain rfl:u=Value.ref a:=rx
 refine zP I1 ea c hm l ?_
 refine PySem.W.callWith_K (first:=[.ref a]) (h₀:=X.base) I.ok.mod.kin hm.kp (thn (ha pos pins s1 σ H1 _ I1 q) fun us s2 ⟨vs,H2,I2,r,q2⟩=>⟨I2.kIn, ?_⟩) hst hpl
 exact Ib (us:= .ref a::us) (vs:= .ref a::vs) F hr hb hd hx I2 (.cons rfl r) q2
theorem Np {pl:Sem Bool} (he:PE X o ta) (c:Cls X.K C) (hm:Meth X.K C m f) (F:bI X.prog X.w X.K X.mg X.base CX k f fd ps sp) (hr:iD k X.A) (hb:Binds X.K fd ps ds) (hd:Vals dvs ds) (hx:Passes CX X E)
 (ht:eval (.Call (.Attribute o m apos) [] [] pos) X.env=(do
   let ov <-eval o X.env
   standAt apos.atName
   let (f,first) <-holding [ov] (getMethod ov m pl)
   callWith pos f first (backTo pos (starEach [] X.env)) (backToKw pos (keywordEach [] X.env))):=by rfl):
 PE X (.Call (.Attribute o m apos) [] [] pos) (JN C m sp dvs E ta R8):=by
 intro pins s σ H Q I h
 refine PySem.W.methodCall_KW (pl:=pl) (thn (he pins s σ H _ I h) fun u s1 ⟨x,H1,I1,rx,a,dx,fs,ex,ea,l,q⟩=> ?_) ht
 subst ex
 obtain rfl:u=Value.ref a:=rx
 refine zP I1 ea c hm l ?_
 exact PySem.W.callWith_K0 (first:=[.ref a]) I1.kIn hm.kp (Ib (us:=[.ref a]) (vs:=[.ref a]) F hr hb hd hx I1 (.cons rfl .nil) q)
structure Mk (K:PySem.W.Frag) (C f:Addr):Prop where
 makes:PySem.W.makesIn K C=true
 init:PySem.W.findIn K (.ref C) "__init__"=some (some (.ref f))
 fn:PySem.W.isFn K (.ref f)=true
 kp:PySem.W.keepIn K (.ref C)=true
theorem Nq {pins:List (Addr×Obj)}{σ:St}{H:Hp}{s:Shared}{Q:VK}{us:List Value}{vs:List V} (M:Mk X.K C f) (F:bI X.prog X.w X.K X.mg X.base CX k f fd ps sp) (hr:iD (k+1) X.A) (hb:Binds X.K fd ps ds) (hd:Vals dvs ds)
 (hx:Passes CX X E) (I:Inv X pins σ H s) (r:Vals vs us)
 (h:∀x dx,H x=none->H dx=none->dx≠x->sp (.ref x::(vs++dvs)) (upd (upd H dx (.own x)) x (.ins C dx [])) (fun v H2=>v= .non/\Q (.ref x) H2) E):
 wpAny (model X.prog X.w) X.A (call (.ref C) us) (EP X pins σ Q) X.xe s:=by
 have hq:=h (s.heap.objs.size+1) s.heap.objs.size (I.hok.fresh (Nat.le_succ _)) (I.hok.fresh (Nat.le_refl _)) (Nat.ne_of_lt (Nat.lt_succ_self _))
 have I2:=Inv.made (C:=C) I
 have r2:Vals (V.ref (s.heap.objs.size+1)::(vs++dvs)) (Value.ref (s.heap.objs.size+1)::(us++ds)):= .cons rfl (r.append hd)
 have hl:(Value.ref (s.heap.objs.size+1)::us++ds).length=ps.length:=by
  have e:=r2.length
  rw[F.len _ _ _ _ hq] at e
  exact e.symm
 refine wpAny_call (Nm (f:=f) I.kIn M.makes M.init (beq_iff_eq.mp M.fn) (codeAny_mono (F.run _ X.stack _ _ ⟨Value.ref (s.heap.objs.size+1)::us,[]⟩ (Value.ref (s.heap.objs.size+1)::(us++ds)) _ _ E (hr.make C us [])
  (I2.env0.make C us []) (hb _ (Value.ref (s.heap.objs.size+1)::us) I2.kIn hl) r2 hq) fun r s' hq'=> ?_))
 cases r with
 | error e=>exact hx pins σ _ _ e s' I2 hq'
 | ok fl=>
   cases fl with
   | ret u=>
     obtain⟨v,H',I3,rv,ev,q3⟩:=I2.after hq'
     subst ev
     exact⟨rv,⟨V.ref (s.heap.objs.size+1),H',I3,rfl,q3⟩⟩
   | next=>exact False.elim hq'
   | brk=>exact False.elim hq'
   | cont=>exact False.elim hq'
theorem Sh (M:Mk X.K C f) (F:bI X.prog X.w X.K X.mg X.base CX k f fd ps sp) (hr:iD (k+1) X.A) (hg:Gl X x) (hm:X.mg x=some (.ref C)) (hb:Binds X.K fd ps ds) (hd:Vals dvs ds) (hx:Passes CX X E)
 (ha:PA X (e::es) t) (hdb:(x==("__debug__":Str))=false:=by decide) (he:starEach (e::es) X.env=(false,eval e X.env)::starEach es X.env:=by rfl) (hpl:(backTo pos (starEach es X.env)).any (·.1)=false:=by rfl):
 PE X (.Call (.Name x p) (e::es) [] pos) (VL C sp dvs E t):=by
 intro pins s σ H Q I h
 refine wpAny_Call_Name_kw (qI I hg hm ?_ hdb)
 refine PySem.W.callWith_K (h₀:=X.base) I.ok.mod.kin M.kp (thn (ha pos pins s σ H _ I h) fun us s1 ⟨vs,H1,I1,r,q⟩=>⟨I1.kIn, ?_⟩) he hpl
 exact Nq M F hr hb hd hx I1 r q
end
section
variable {X:Cx}{CX:CXT}{k:Nat}{f C:Addr}{fd:FuncData}{ps ks:List Str}{sp:Sp}{E:XK}{x m:Str}{p pos apos kpos:Pos}{e o:Expr}{es:List Expr}{kws:List Keyword}{te ta:TE}{t tk:TA}{nm:Option Str}
variable {g:List Value->List Value->List Value}{gV:List V->List V->List V}
end
structure bM (N P:List Str) (sc:Scope):Prop where
 kind:sc.kind= .function
 co:sc.isCoroutine=false
 gen:sc.isGenerator=false
 nd:N.Nodup
 pre:N.take P.length=P
 par:∀x∈P,sc.names.lookup x=some .local\/sc.names.lookup x=some .cell
 nofree:∀y∈sc.names,y.2≠ .free
theorem CJ {kindOf:Str->Option NameKind}{x:Str}:∀{binds:List (Str×Value)}{m:Str->Option Value},(∀v,(x,v)∉binds)->bindL kindOf binds m x=m x
 |[],_,_=>rfl
 | (n,v)::r,m,h=>by
   unfold bindL
   rw[CJ fun w hw=>h w (List.mem_cons_of_mem _ hw)]
   split
   ·have:x≠n:=by rintro rfl;exact h v List.mem_cons_self
    simp[this]
   ·rfl
theorem CP {kindOf:Str->Option NameKind}{x:Str}:∀{binds:List (Str×Value)}{m:Str->Option Value},(∀v,(x,v)∉binds)->bindC kindOf binds m x=m x
 |[],_,_=>rfl
 | (n,v)::r,m,h=>by
   unfold bindC
   rw[CP fun w hw=>h w (List.mem_cons_of_mem _ hw)]
   split
   ·rfl
   ·have:x≠n:=by rintro rfl;exact h v List.mem_cons_self
    simp[this]
theorem CQ {kindOf:Str->Option NameKind}{x:Str}{v:Value}:∀{P:List Str}{vs:List Value}{i:Nat}{m:Str->Option Value},P.Nodup->P[i]? =some x->vs[i]? =some v->kindOf x=some .local->
 bindL kindOf (P.zip vs) m x=some v
 |[],_,_,_,_,h,_,_=>by simp at h
 | _::_,[],_,_,_,_,h,_=>by simp at h
 | p::P,w::vs,0,m,nd,h1,h2,hk=>by
   simp at h1 h2;subst h1;subst h2
   show bindL kindOf ((p,w)::P.zip vs) m p=_
   unfold bindL
   rw[CJ fun v hv=>(List.nodup_cons.mp nd).1 (List.of_mem_zip hv).1,if_pos hk]
   simp
 | p::P,w::vs,i+1,m,nd,h1,h2,hk=>by
   show bindL kindOf ((p,w)::P.zip vs) m x=_
   unfold bindL
   exact CQ (i:=i) (List.nodup_cons.mp nd).2 (by simpa using h1) (by simpa using h2) hk
theorem CT {kindOf:Str->Option NameKind}{x:Str}{v:Value}:∀{P:List Str}{vs:List Value}{i:Nat}{m:Str->Option Value},P.Nodup->P[i]? =some x->vs[i]? =some v->kindOf x≠some .local->
 bindC kindOf (P.zip vs) m x=some v
 |[],_,_,_,_,h,_,_=>by simp at h
 | _::_,[],_,_,_,_,h,_=>by simp at h
 | p::P,w::vs,0,m,nd,h1,h2,hk=>by
   simp at h1 h2;subst h1;subst h2
   show bindC kindOf ((p,w)::P.zip vs) m p=_
   unfold bindC
   rw[CP fun v hv=>(List.nodup_cons.mp nd).1 (List.of_mem_zip hv).1,if_neg hk]
   simp
 | p::P,w::vs,i+1,m,nd,h1,h2,hk=>by
   show bindC kindOf ((p,w)::P.zip vs) m x=_
   unfold bindC
   exact CT (i:=i) (List.nodup_cons.mp nd).2 (by simpa using h1) (by simpa using h2) hk
def start (N:List Str) (vs:List V):St:=vs.map some++List.replicate (N.length - vs.length) none
def iR (CX:CXT) (P:Program) (w:World) (K:PySem.W.Frag) (mg:Str->Option Value) (base:Heap) (N:List Str) (qual:Str) (scope:Scope) (f:Addr) (cd:Value) (A:Around) (outer:List Env) (s:Shared) (H:Hp) (E:XK):Cx where
 prog:=P
 w:=w
 K:=K
 mg:=mg
 base:=base
 A:=A.deeper (envOfC qual scope s.heap.objs.size f cd)
 N:=N
 s₀:=s
 H₀:=H
 env:=envOfC qual scope s.heap.objs.size f cd
 outer:=outer
 stack:=envOfC qual scope s.heap.objs.size f cd::outer
 ex:=[]
 calm:=true
 fn:=fun _=>true
 pn:=[]
 xe:=fun e s'=>wpAny (model P w) (A.deeper (envOfC qual scope s.heap.objs.size f cd)) (leaving (envOfC qual scope s.heap.objs.size f cd) e) (fun _ s''=>CX outer H s E e s'') (fun e' s''=>CX outer H s E e' s'') s'
theorem Fo {sc:Scope}{n:Nat}{x:Str} (h:sc.names.lookup x=some .cell):∃c,(cellsFrom n sc.names []).lookup x=some c:=by
 have q:=PySem.W.cellsFrom_some sc.names n [] (.inl h)
 exact Option.isSome_iff_exists.mp q
theorem Li {CX:CXT}{P:Program}{w:World}{K:PySem.W.Frag}{mg:Str->Option Value}{base:Heap}{N ps:List Str}{qual:Str}{scope:Scope}{f:Addr}{cd:Value}{A:Around}{outer:List Env}{s s1:Shared}{H:Hp}{E:XK}{us:List Value}{vs:List V}
 (S:bM N ps scope) (hd:A.handled=none) (e0:Ia P w K mg base A outer s H) (hl:vs.length=ps.length) (r:Vals vs us)
 (x:InCallC s s.heap.objs.size (bindL (envOfC qual scope s.heap.objs.size f cd).kindOf (ps.zip us) fun _=>none) (cellsFrom (s.heap.objs.size+1) scope.names []) (bindC (envOfC qual scope s.heap.objs.size f cd).kindOf (ps.zip us) fun _=>none) s1):
 Inv (iR CX P w K mg base N qual scope f cd A outer s H E) [] (start N vs) H s1:=by
 have hpl:ps.length<=N.length:=by have:=congrArg List.length S.pre;rw[List.length_take] at this;omega
 obtain⟨h1,tk,rfl,hk⟩:=x.done
 have noA:∀b:Addr,b∉(iR CX P w K mg base N qual scope f cd A outer s H E).ex:=fun b z=>absurd (show b∈([]:List Addr) from z) (by simp)
 refine⟨⟨e0.mod,S.kind,rfl,rfl,Nat.le_refl _,fun y z c h1 h2=> ?_,fun y hy=> ?_,fun y c _ h=> ?_,fun _=>hd,Around.frames_deeper e0.frames, .inr ⟨rfl,rfl⟩,fun b z=>absurd z (noA b),e0.bs,e0.bsz,fun b _ _=>noA b,fun b z=>absurd z (noA b),e0.funs,e0.frf⟩,
  rfl,e0.bare,Un.kept hk,⟨_,x.toInCall.ns,fun i y v h1 h2 h3=> ?_⟩,fun y c h=>⟨_,x.cell y c h⟩,e0.hok.fresh (Nat.le_refl _),fun y c h=> ?_,fun p hp=>absurd (show p∈([]:List (Addr×Obj)) from hp) (by simp),e0.hok.kept hk, ?_⟩
 ·exact name_of_addr x.apart (PySem.mem_of_lookup h1) (PySem.mem_of_lookup h2)
 ·have hy:scope.names.lookup y=some .cell\/scope.names.lookup y=some .free:=hy
  rcases hy with hy | hy
  ·exact Fo hy
  ·exact absurd rfl (S.nofree _ (PySem.mem_of_lookup hy))
 ·exact Nat.le_of_lt (x.above y c (PySem.mem_of_lookup h))
 ·have hi:i<vs.length:=by
   unfold start at h2
   by_cases hi:i<vs.length
   ·exact hi
   ·rw[List.getElem?_append_right (by simpa using hi)] at h2
    rw[List.getElem?_replicate] at h2
    split at h2<;>cases h2
  have ha:vs[i]? =some v:=by
   unfold start at h2
   rw[List.getElem?_append_left (by simpa using hi),List.getElem?_map] at h2
   cases e:vs[i]? with
   | none=>rw[e] at h2;cases h2
   | some a=>rw[e] at h2;cases h2;rfl
  obtain⟨u,hu,rv⟩:=r.get ha
  have hp:ps[i]? =some y:=by
   rw[<-S.pre,List.getElem?_take_of_lt (by omega)];exact h1
  have ndP:ps.Nodup:=by rw[<-S.pre];exact S.nd.sublist (List.take_sublist _ _)
  refine⟨u,rv, ?_⟩
  rcases S.par y (List.mem_of_getElem? hp) with k | k
  ·exact .inl ⟨k,CQ ndP hp hu k⟩
  ·obtain⟨c,e⟩:=Fo (n:=s.heap.objs.size+1) k
   refine .inr ⟨.inl k,c,e, ?_⟩
   have q:=x.cell y c e
   rw[CT ndP hp hu (by show scope.names.lookup y≠_;rw[k];decide)] at q
   exact q
 ·exact e0.hok.fresh (Nat.le_of_lt (x.above y c (PySem.mem_of_lookup h)))
 ·unfold start
  show _=N.length
  rw[List.length_append,List.length_map,List.length_replicate]
  omega
theorem VM {CX:CXT}{P:Program}{w:World}{K:PySem.W.Frag}{mg:Str->Option Value}{base:Heap}{k:Nat}{f:Addr}{name qual:Str}{params:Arguments}{body:List Stmt}{scope:Scope}{dV kV doc pm cdv ct oc:Value}{an od:Option Addr}
 {osl:Array (Option Value)}{N ps:List Str}{sp:Sp} (lk:K.lookup f=some ⟨oc,od, .func (PySem.W.fnOf name qual params body scope dV kV doc pm an cdv ct),osl⟩) (hcd:PySem.W.codeIn K cdv qual=true) (S:bM N ps scope)
 (len:∀vs H Q E,sp vs H Q E->vs.length=ps.length)
 (hbody:∀(A:Around) (outer:List Env) (s:Shared) (H:Hp) (vs:List V) (Q:VK) (E:XK),iD k (A.deeper (envOfC qual scope s.heap.objs.size f cdv))->sp vs H Q E->
   ∃t,PSs (iR CX P w K mg base N qual scope f cdv A outer s H E) body t/\t {nx:=fun _ H'=>Q .non H',rt:=Q} (start N vs) H):
 bI P w K mg base CX (k+1) f (PySem.W.fnOf name qual params body scope dV kV doc pm an cdv ct) ps sp:=by
 refine⟨len,fun A outer s H args us vs Q E hr e0 hb r hsp=> ?_⟩
 have hl:=len _ _ _ _ hsp
 have KX:K.In s.heap:=e0.mod.kin.keeps fun b o e=>(e0.bs b o e).1
 have lim:s.heap.NoLimit:=e0.mod.nolimit.keeps fun b o e=>(e0.bs b o e).1
 have hkind:∀y∈ps.zip us,scope.names.lookup y.1=some .local\/(scope.names.lookup y.1=some .cell/\((cellsFrom (s.heap.objs.size+1) scope.names []).lookup y.1).isSome=true):=fun⟨n,v⟩ hy=>by
  rcases S.par n (List.of_mem_zip hy).1 with q | q
  ·exact .inl q
  ·exact .inr ⟨q,PySem.W.cellsFrom_some _ _ _ (.inl q)⟩
 refine codeAny_call_function hr.depth (KX _ _ lk) rfl S.co S.gen rfl (PySem.W.codeRec_of KX hcd) (hb _ _ _ _ ?_)
 refine wpAny_newFunctionEnv_cells S.kind hkind fun env he s1 x=> ?_
 subst he
 refine⟨lim.keeps x.toInCall.keep,codeAny_func ?_⟩
 obtain⟨t,ht,hq⟩:=hbody A outer s H vs Q E (hr.deeper _) hsp
 have I:Inv (iR CX P w K mg base N qual scope f cdv A outer s H E) [] (start N vs) H s1:=Li S hr.hd e0 hl r x
 refine wpAny_mono (ht [] s1 (start N vs) H _ I hq) (fun fl s' hs=> ?_) fun e s' hs=>hs
 have fin:∀{σ':St}{H':Hp}{v:V}{u:Value},Inv (iR CX P w K mg base N qual scope f cdv A outer s H E) [] σ' H' s'->RelV v u->Q v H'->CE outer P w H s Q u s':=
  fun{σ' H' v u} J rv q=>⟨v,H',J.os,J.bare,J.base,J.hok,rv,q⟩
 cases fl with
 | ret u=>
   obtain⟨v,σ',H',J,rv,q⟩:=hs
   exact fin J rv q
 | next=>
   obtain⟨σ',H',J,q⟩:=hs
   exact fin (v:=V.non) (u:=Value.none) J rfl q
 | brk=>
   obtain⟨_,_,_,q⟩:=hs
   exact False.elim q
 | cont=>
   obtain⟨_,_,_,q⟩:=hs
   exact False.elim q
end L2
namespace L2
open PySem PySem.Spec PyProof.Rows
section
variable {X:Cx}{x:Str}{p pos:Pos}{e:Expr}{es:List Expr}{t:TA}{id T:String}{r:List V->Hp->VK->Prop}
def tCB (r:List V->Hp->VK->Prop) (t:TA):TE:=fun σ H Q=>t σ H fun vs H1=>r vs H1 Q
theorem Nr (hc:tL X (.builtin id) r) (hg:Gl X x) (hm:X.mg x=none) (hv:bootBuiltins x=some (.builtin id)) (ha:PA X (e::es) t) (hn:x≠"__name__":=by decide) (hdb:(x==("__debug__":Str))=false:=by decide)
 (he:starEach (e::es) X.env=(false,eval e X.env)::starEach es X.env:=by rfl) (hpl:(backTo pos (starEach es X.env)).any (·.1)=false:=by rfl):PE X (.Call (.Name x p) (e::es) [] pos) (tCB r t):=by
 intro pins s σ H Q I h
 refine wpAny_Call_Name_kw (vV I hg hm hv ?_ hn hdb)
 exact PyProof.Rows.callWith_builtin1 (thn (ha pos pins s σ H _ I h) fun us s1 ⟨vs,H1,I1,r1,q1⟩=>hc pins s1 σ H1 vs us Q I1 r1 q1) he hpl
theorem Lj (hc:tL X (.type T) r) (hg:Gl X x) (hm:X.mg x=none) (hv:bootBuiltins x=some (.type T)) (ha:PA X (e::es) t) (hn:x≠"__name__":=by decide) (hdb:(x==("__debug__":Str))=false:=by decide)
 (he:starEach (e::es) X.env=(false,eval e X.env)::starEach es X.env:=by rfl) (hpl:(backTo pos (starEach es X.env)).any (·.1)=false:=by rfl):PE X (.Call (.Name x p) (e::es) [] pos) (tCB r t):=by
 intro pins s σ H Q I h
 refine wpAny_Call_Name_kw (vV I hg hm hv ?_ hn hdb)
 exact PyProof.Rows.callWith_type1 (thn (ha pos pins s σ H _ I h) fun us s1 ⟨vs,H1,I1,r1,q1⟩=>hc pins s1 σ H1 vs us Q I1 r1 q1) he hpl
end
end L2
namespace HT
open PySem PyProof.Rows
section
open PySem.SeqAt
open PySem.AutoSeq1 (wpAny_loadPart')
open PySem.MeetsSeq PySem.MeetsSeq2 PySem.MeetsSeq3
end
section
variable {prog:Program}{w:World}{A:Around}{E:Value->Shared->Prop}{s:Shared}
def sIx (n d:Nat):Option Int->Nat
 | none=>d
 | some v=>if v<0 then(v+(n:Int)).toNat else min v.toNat n
theorem zB (n d k:Nat):sIx n d (some (k:Int))=min k n:=by
 show(if(k:Int)<0 then((k:Int)+(n:Int)).toNat else min (k:Int).toNat n)=min k n
 rw[if_neg (by omega),Int.toNat_natCast]
end
end HT
namespace L2
open PySem PySem.Spec PyProof.Rows
abbrev TO:=St->Hp->(Option Int->Hp->Prop)->Prop
def PO (X:Cx) (e:Option Expr) (t:TO):Prop:=
 ∀(pins:List (Addr×Obj)) (s:Shared) (σ:St) (H:Hp) (Q:Option Int->Hp->Prop),Inv X pins σ H s->t σ H Q->
  wpAny (model X.prog X.w) X.A (evalPart e X.env) (fun u s'=>∃o H',Inv X pins σ H' s'/\IsPart u o/\Q o H') X.xe s
def JP:TO:=fun _ H Q=>Q none H
def VN (t:TE):TO:=fun σ H Q=>t σ H fun x H1=>∃i,x= .int i/\Q (some i) H1
section
variable {X:Cx}{e:Expr}{te:TE}{lo hi:Option Expr}{tl th:TO}{pos p2:Pos}
theorem Sq:PO X none JP:=by
 intro pins s σ H Q I h
 rw[evalPart_none]
 exact wpAny_pure ⟨none,H,I, .none,h⟩
theorem Ss (h:PE X e te):PO X (some e) (VN te):=by
 intro pins s σ H Q I hw
 rw[evalPart_some]
 refine thn (h pins s σ H _ I hw) fun u s1 ⟨x,H1,I1,r1,q1⟩=> ?_
 obtain⟨i,rfl,q⟩:=q1
 obtain⟨t,rfl⟩:=r1
 exact⟨some i,H1,I1, .int i t,q⟩
def SlR (X:Cx) (r:V->Option Int->Option Int->Hp->VK->Prop):Prop:=
 ∀(pins:List (Addr×Obj)) (s:Shared) (σ:St) (H:Hp) (x:V) (v vl vu:Value) (lo hi:Option Int) (sl:Addr) (Q:VK),Inv X pins σ H s->RelV x v->s.heap.IsSliceOf sl vl vu .none->IsPart vl lo->IsPart vu hi->r x lo hi H Q->
  ∃T id,typeLookup (.type T) "__getitem__"=pure (some (.builtin id))/\s.TypeIs v T/\wpAny (model X.prog X.w) X.A (getItem v (.ref sl)) (EP X pins σ Q) X.xe s
def tSl (r:V->Option Int->Option Int->Hp->VK->Prop) (te:TE) (tl th:TO):TE:=fun σ H Q=>te σ H fun x H1=>tl σ H1 fun l H2=>th σ H2 fun u H3=>r x l u H3 Q
theorem Nt {r:V->Option Int->Option Int->Hp->VK->Prop} (hr:SlR X r) (he:PE X e te) (hl:PO X lo tl) (hu:PO X hi th):PE X (.Subscript e (.Slice lo hi none p2) pos) (tSl r te tl th):=by
 intro pins s σ H Q I h
 refine Subscript_ (thn (he pins s σ H _ I h) fun v s1 ⟨x,H1,I1,r1,q1⟩=> ?_)
 refine wpAny_Slice (thn (hl pins s1 σ H1 _ I1 q1) fun vl s2 ⟨l,H2,I2,pl,q2⟩=>thn (hu pins s2 σ H2 _ I2 q2) fun vu s3 ⟨u,H3,I3,pu,q3⟩=> ?_)
 rw[evalPart_none]
 refine wpAny_pure ?_
 have I4:Inv X pins σ H3 {s3 with heap:=s3.heap.push {cls:= .type "slice",data:= .fields #[vl,vu, .none]}}:=I3.kept (t':=s3.toks) fun b ob q=>Heap.get?_push_of_some _ q
 obtain⟨T,id,hT,ht,hg⟩:=hr pins {s3 with heap:=s3.heap.push {cls:= .type "slice",data:= .fields #[vl,vu, .none]}} σ H3 x v vl vu l u s3.heap.objs.size Q I4 r1 (Heap.IsSliceOf.new ..) pl pu q3
 show wpAny (model X.prog X.w) X.A (subscriptTail e (.Slice lo hi none p2) v (.ref s3.heap.objs.size)) (EP X pins σ Q) X.xe {s3 with heap:=s3.heap.push {cls:= .type "slice",data:= .fields #[vl,vu, .none]}}
 exact tail_any (ops:=[.ref s3.heap.objs.size,v]) ht hT hg (by with_unfolding_all rfl)
def tM (xs:List V) (lo hi:Option Int):List V:=(xs.drop (HT.sIx xs.length 0 lo)).take (HT.sIx xs.length xs.length hi - HT.sIx xs.length 0 lo)
theorem Fp (xs:List V) (lo hi:Option Int):(tM xs lo hi).length<=xs.length:=by
 unfold tM
 rw[List.length_take,List.length_drop]
 omega
end
end L2
namespace L2
open PySem PySem.Spec PyProof.Rows
def ixN (n:Nat) (i:Int):Option Nat:=if 0<=i then(if i<n then some i.toNat else none) else if -(n:Int)<=i then some (i+n).toNat else none
def atI {α:Type} (xs:List α) (i:Int):Option α:=(ixN xs.length i).bind fun j=>xs[j]?
theorem Su {n:Nat}{i:Int}{j:Nat} (h:ixN n i=some j):seqIndex? i n=some j/\j<n/\ -(n:Int)<=i/\i<n:=by
 unfold ixN at h
 by_cases h0:0<=i
 ·rw[if_pos h0] at h
  by_cases h1:i<n
  ·rw[if_pos h1] at h
   have e:i.toNat=j:=Option.some.inj h
   exact⟨by rw[seqIndex_of h0 h1,e],by omega,by omega,h1⟩
  ·rw[if_neg h1] at h;cases h
 ·rw[if_neg h0] at h
  by_cases h1: -(n:Int)<=i
  ·rw[if_pos h1] at h
   have e:(i+n).toNat=j:=Option.some.inj h
   exact⟨by rw[seqIndex_neg (by omega) h1,e],by omega,h1,by omega⟩
  ·rw[if_neg h1] at h;cases h
theorem JQ {α:Type}{xs:List α}{i:Int}{v:α} (h:atI xs i=some v):∃j,seqIndex? i xs.length=some j/\xs[j]? =some v/\j<xs.length/\ -(xs.length:Int)<=i/\i<xs.length:=by
 unfold atI at h
 cases e:ixN xs.length i with
 | none=>rw[e] at h;cases h
 | some j=>
   rw[e] at h
   obtain⟨h1,h2,h3,h4⟩:=Su e
   exact⟨j,h1,h,h2,h3,h4⟩
theorem jJ {α:Type}{xs:List α}{j:Nat}{v:α} (h:xs[j]? =some v):atI xs (j:Int)=some v:=by
 have hj:j<xs.length:=(List.getElem?_eq_some_iff.mp h).1
 have e:ixN xs.length (j:Int)=some j:=by
  unfold ixN
  rw[if_pos (by omega),if_pos (by omega)];simp
 unfold atI;rw[e];exact h
def JR (b:Expr):Prop:=∀o i,subscripted b false o i=operate [o,i] (getItem o i)
def IxR (X:Cx) (r:R2):Prop:=
 ∀(value slice:Expr) (pins:List (Addr×Obj)) (s:Shared) (σ:St) (H:Hp) (x y:V) (v u:Value) (Q:VK),Inv X pins σ H s->RelV x v->RelV y u->r x y H Q->
  subscripted slice false v u=operate [v,u] (getItem v u)->wpAny (model X.prog X.w) X.A (subscriptTail value slice v u) (EP X pins σ Q) X.xe s
def MtR (X:Cx) (id:String) (r:V->List V->Hp->VK->Prop):Prop:=
 ∀(pins:List (Addr×Obj)) (s:Shared) (σ:St) (H:Hp) (x:V) (xs:List V) (v:Value) (us:List Value) (Q:VK),Inv X pins σ H s->RelV x v->Vals xs us->r x xs H Q->
  wpAny (model X.prog X.w) X.A (call (.builtin id) (v::us)) (EP X pins σ Q) X.xe s
section
variable {X:Cx}{a b:Expr}{ta tb:TE}{pos:Pos}
theorem abQ {r:R2} (hr:IxR X r) (ha:PE X a ta) (hb:PE X b tb) (hs:JR b):PE X (.Subscript a b pos) (tOp r ta tb):=by
 intro pins s σ H Q I h
 exact Subscript_ (XD ha hb I h fun v u s2 x y H2 I2 rx ry q=>hr a b pins s2 σ H2 x y v u Q I2 rx ry q (hs _ _))
def Yb (K:PySem.W.Frag):R2:=fun x y H Q=>∃p xs i v,x= .ref p/\y= .int i/\SqL K H p xs/\atI xs i=some v/\Q v H
def Yc (K:PySem.W.Frag):R2:=fun x y H Q=>∃p xs i v,x= .ref p/\y= .int i/\SqT K H p xs/\atI xs i=some v/\Q v H
theorem Sv:IxR X (Yb X.K):=by
 intro value slice pins s σ H x y v u Q I rx ry h hs
 obtain⟨p,xs,i,z,rfl,rfl,hq,he,q⟩:=h
 cases rx
 obtain⟨t,rfl⟩:=ry
 obtain⟨its,r,pl,hz⟩:=I.list hq
 obtain⟨j,h1,h2,h3,h4,h5⟩:=JQ he
 obtain⟨w,ew,rw'⟩:=r.get h2
 have hl:=r.length
 have hn:=zO
 have fin:EP X pins σ Q w s:=⟨z,H,I,rw',q⟩
 by_cases h0:0<=i
 ·have hj:i.toNat=j:=by
   rw[seqIndex_of h0 h5] at h1
   exact Option.some.inj h1
  exact item_listR pl.isList h0 (by omega) (by rw[hj];simpa using ew) fin hs
 ·have hj:(i+(its.toArray.size:Int)).toNat=j:=by
   rw[seqIndex_neg (by omega) h4] at h1
   rw[List.size_toArray,<-hl]
   exact Option.some.inj h1
  exact subscriptTail_builtinR (x:=w) pl.isList.typeIs slot_list_getitem.lookup
   (wpAny_getItem_list_neg (Q:=fun r s'=>r=w/\EP X pins σ Q r s') pl.isList (by omega) (by rw[List.size_toArray]<;>omega) (by omega) (by rw[hj];simpa using ew) ⟨rfl,fin⟩) hs
theorem Yd:IxR X (Yc X.K):=by
 intro value slice pins s σ H x y v u Q I rx ry h hs
 obtain⟨p,xs,i,z,rfl,rfl,hq,he,q⟩:=h
 cases rx
 obtain⟨t,rfl⟩:=ry
 obtain⟨its,r,pl,hz⟩:=I.tuple hq
 obtain⟨j,h1,h2,h3,h4,h5⟩:=JQ he
 obtain⟨w,ew,rw'⟩:=r.get h2
 have hl:=r.length
 have hn:=zO
 have fin:EP X pins σ Q w s:=⟨z,H,I,rw',q⟩
 exact subscriptTail_builtinR (x:=w) pl.typeIs slot_tuple_getitem.lookup
  (getItem_tuple (j:=j) (Q:=fun r s'=>r=w/\EP X pins σ Q r s') pl (by omega) (by omega) (by rw[List.size_toArray,<-hl];exact h1) (by simpa using ew) ⟨rfl,fin⟩) hs
theorem Dw (lo hi:Option Int) (n:Nat):(sliceBounds lo hi none n).1=((HT.sIx n 0 lo:Nat):Int)/\(sliceBounds lo hi none n).2.1=((HT.sIx n n hi:Nat):Int)/\(sliceBounds lo hi none n).2.2=1:=by
 refine⟨?_, ?_,rfl⟩
 ·cases lo with
  | none=>simp[sliceBounds,HT.sIx]
  | some i=>
    simp only[sliceBounds,HT.sIx,Option.getD_none,show(1:Int)>0 by decide,if_true]
    by_cases h:i<0
    ·simp only[h,if_true]<;>omega
    ·simp only[h,if_false]<;>omega
 ·cases hi with
  | none=>simp[sliceBounds,HT.sIx]
  | some i=>
    simp only[sliceBounds,HT.sIx,Option.getD_none,show(1:Int)>0 by decide,if_true]
    by_cases h:i<0
    ·simp only[h,if_true]<;>omega
    ·simp only[h,if_false]<;>omega
theorem BL (its:List Value) (lo hi:Option Int):slicePick its.toArray lo hi none=((its.drop (HT.sIx its.length 0 lo)).take (HT.sIx its.length its.length hi - HT.sIx its.length 0 lo)).toArray:=by
 obtain⟨h1,h2,h3⟩:=Dw lo hi its.toArray.size
 unfold slicePick
 rw[h1,h2,h3]
 simp only[sliceRange_one,pick_run,List.size_toArray]<;>rfl
def abR (K:PySem.W.Frag):V->Option Int->Option Int->Hp->VK->Prop:=fun x lo hi H Q=>∃a xs,x= .ref a/\SqL K H a xs/\∀p,H p=none->Q (.ref p) (upd H p (.lst (tM xs lo hi)))
theorem Sw:SlR X (abR X.K):=by
 intro pins s σ H x v vl vu lo hi sl Q I rx hs pl pu h
 obtain⟨a,xs,rfl,hx,q⟩:=h
 cases rx
 obtain⟨its,r,ht,hz⟩:=I.list hx
 have hlen:=r.length
 refine⟨"list",_,slot_list_getitem.lookup,ht.isList.typeIs, ?_⟩
 refine wpAny_getItem_list_slice ht.isList hs pl pu .none (by simp) ?_ (by rw[List.size_toArray]<;>omega)
 rw[BL,<-hlen]
 refine⟨.ref s.heap.objs.size,_,I.laid (t':=s.toks) (o:= .lst (tM xs lo hi)) (fun b ob q=>Heap.get?_push_of_some _ q) (Nat.le_refl _) ?_,rfl,q _ (I.hok.fresh (Nat.le_refl _))⟩
 exact⟨Nat.le_trans (Fp xs lo hi) hz,_,0,(r.drop (HT.sIx xs.length 0 lo)).take (HT.sIx xs.length xs.length hi - HT.sIx xs.length 0 lo),Heap.get?_push_size _ rfl⟩
def oF:V->Bool
 | .non=>true
 | .bl _=>true
 | .int _=>true
 | .str _=>true
 | _=>false
def eqV:V->V->Bool
 | .non, .non=>true
 | .bl a, .bl b=>a==b
 | .bl a, .int b=>(if a then 1 else 0)==b
 | .int a, .bl b=>a==(if b then 1 else 0)
 | .int a, .int b=>a==b
 | .str a, .str b=>a==b
 | _,_=>false
theorem Ye {A:Around}{s:Shared}{y x:V}{u v:Value} (ry:RelV y u) (rx:RelV x v) (fy:oF y=true) (fx:oF x=true):SeqAt.EqAt A s u v (eqV y x):=by
 cases y with
 | non=>
   cases ry
   cases x with
   | non=>cases rx;exact SeqAt.EqAt.same _
   | bl b=>cases rx;exact SeqAt.EqAt.none_bool b
   | int b=>obtain⟨t,rfl⟩:=rx;exact SeqAt.EqAt.none_int b t
   | str b=>obtain⟨t,rfl⟩:=rx;exact SeqAt.EqAt.none_str b t
   | _=>exact absurd (show false=true from fx) Bool.false_ne_true
 | bl a=>
   cases ry
   cases x with
   | non=>cases rx;exact SeqAt.EqAt.bool_none a
   | bl b=>cases rx;exact SeqAt.EqAt.bool_bool a b
   | int b=>obtain⟨t,rfl⟩:=rx;exact SeqAt.EqAt.bool_int a b t
   | str b=>obtain⟨t,rfl⟩:=rx;exact SeqAt.EqAt.bool_str a b t
   | _=>exact absurd (show false=true from fx) Bool.false_ne_true
 | int a=>
   obtain⟨t',rfl⟩:=ry
   cases x with
   | non=>cases rx;exact SeqAt.EqAt.int_none a t'
   | bl b=>cases rx;exact SeqAt.EqAt.int_bool a t' b
   | int b=>obtain⟨t,rfl⟩:=rx;exact SeqAt.EqAt.int_int a t' b t
   | str b=>obtain⟨t,rfl⟩:=rx;exact SeqAt.EqAt.int_str a t' b t
   | _=>exact absurd (show false=true from fx) Bool.false_ne_true
 | str a=>
   obtain⟨t',rfl⟩:=ry
   cases x with
   | non=>cases rx;exact SeqAt.EqAt.str_none a t'
   | bl b=>cases rx;exact SeqAt.EqAt.str_bool a t' b
   | int b=>obtain⟨t,rfl⟩:=rx;exact SeqAt.EqAt.str_int a t' b t
   | str b=>obtain⟨t,rfl⟩:=rx;exact SeqAt.EqAt.str_str a t' b t
   | _=>exact absurd (show false=true from fx) Bool.false_ne_true
 | _=>exact absurd (show false=true from fy) Bool.false_ne_true
def eqU (x:V) (u:Value):Bool:=match u with
 | .none=>eqV .non x
 | .bool b=>eqV (.bl b) x
 | .int i _=>eqV (.int i) x
 | .str z _=>eqV (.str z) x
 | _=>false
theorem Nu {x y:V}{u:Value} (r:RelV y u) (f:oF y=true):eqU x u=eqV y x:=by
 cases y with
 | non=>cases r;rfl
 | bl b=>cases r;rfl
 | int i=>obtain⟨t,rfl⟩:=r;rfl
 | str z=>obtain⟨t,rfl⟩:=r;rfl
 | _=>exact absurd (show false=true from f) Bool.false_ne_true
theorem Dy {x:V}:∀{xs:List V}{us:List Value},Vals xs us->xs.all oF=true->us.any (eqU x)=xs.any fun y=>eqV y x
 | _,_, .nil,_=>rfl
 | y::xs,u::us, .cons r t,f=>by
   rw[List.all_cons,Bool.and_eq_true] at f
   rw[List.any_cons,List.any_cons,Nu r f.1,Dy t f.2]
theorem zQ {A:Around}{s:Shared}{x:V}{v:Value} (rx:RelV x v) (fx:oF x=true):∀{xs:List V}{us:List Value},Vals xs us->xs.all oF=true->∀u∈us,SeqAt.EqAt A s u v (eqU x u)
 | _,_, .nil,_=>fun u hu=>by cases hu
 | y::xs,u::us, .cons r t,f=>fun u' hu=>by
   rw[List.all_cons,Bool.and_eq_true] at f
   rcases List.mem_cons.mp hu with rfl | hu
   ·rw[Nu r f.1];exact Ye r rx f.1 fx
   ·exact zQ rx fx t f.2 u' hu
def inV (x:V) (xs:List V):Bool:=xs.any fun y=>eqV y x
def rIn (K:PySem.W.Frag) (neg:Bool):R2:=fun x y H Q=>∃p xs,y= .ref p/\(SqL K H p xs\/SqT K H p xs)/\oF x=true/\xs.all oF=true/\Q (.bl (if neg then !inV x xs else inV x xs)) H
theorem Lk:OpR X (compareOp .In) (rIn X.K false):=by
 intro pins s σ H x y v u Q I rx ry h
 obtain⟨p,xs,rfl,hq,fx,fs,q⟩:=h
 cases ry
 rcases hq with hq | hq
 ·obtain⟨its,r,pl,hz⟩:=I.list hq
  refine SeqAt.in_listAt (eqU x) pl.isList (fun w hw=>zQ rx fx r fs w (by simpa using hw)) ⟨.bl _,H,I,rfl, ?_⟩
  rw[show its.toArray.any (eqU x)=its.any (eqU x) by simp,Dy r fs]
  exact q
 ·obtain⟨its,r,pl,hz⟩:=I.tuple hq
  refine SeqAt.in_tupleAt (eqU x) pl (fun w hw=>zQ rx fx r fs w (by simpa using hw)) ⟨.bl _,H,I,rfl, ?_⟩
  rw[show its.toArray.any (eqU x)=its.any (eqU x) by simp,Dy r fs]
  exact q
theorem Dz:tL X (.builtin "len") (fun xs H Q=>∃p ys,xs=[.ref p]/\(SqL X.K H p ys\/SqT X.K H p ys)/\Q (.int ys.length) H):=by
 intro pins s σ H xs us Q I r h
 obtain⟨p,ys,rfl,hq,q⟩:=h
 obtain⟨u,rfl,rx⟩:=vals1 r
 cases rx
 have hn:=zO
 rcases hq with hq | hq
 ·obtain⟨its,r',pl,hz⟩:=I.list hq
  have hlen:=r'.length
  exact Calls.call_len_list pl.isList (by simp only[List.size_toArray]<;>omega) ⟨.int ys.length,H,I.tok _,⟨s.toks+1,by rw[List.size_toArray,hlen]⟩,q⟩
 ·obtain⟨its,r',pl,hz⟩:=I.tuple hq
  have hlen:=r'.length
  exact len_tuple pl (by simp only[List.size_toArray]<;>omega) ⟨.int ys.length,H,I.tok _,⟨s.toks+1,by rw[List.size_toArray,hlen]⟩,q⟩
theorem DG:tL X (.type "list") (fun xs H Q=>∃p ys,xs=[.ref p]/\(SqL X.K H p ys\/SqT X.K H p ys)/\∀l,H l=none->Q (.ref l) (upd H l (.lst ys))):=by
 intro pins s σ H xs us Q I r h
 obtain⟨p,ys,rfl,hq,q⟩:=h
 obtain⟨u,rfl,rx⟩:=vals1 r
 cases rx
 have fin:∀(its:List Value),Vals ys its->ys.length<=sizeLine->∀(h':Heap) (c':Nat),(∀b o',s.heap.get? b=some o'->h'.get? b=some o')->
  h'.get? s.heap.objs.size=some {cls:= .type "list",dict:=none,data:= .seq its.toArray c',slots:= #[]}->EP X pins σ Q (.ref s.heap.objs.size) {s with heap:=h'}:=fun its r' hz h' c' kp e=>
  ⟨.ref s.heap.objs.size,_,I.laid (t':=s.toks) kp (Nat.le_refl _) (show dm X.prog X.w _ h' _ (.lst ys) from⟨hz,its,c',r',e⟩),rfl,q _ (I.hok.fresh (Nat.le_refl _))⟩
 rcases hq with hq | hq
 ·obtain⟨its,r',pl,hz⟩:=I.list hq
  have hlen:=r'.length
  obtain⟨o,ho,hc,n,hd⟩:=pl.isList
  exact call_list_seq p (.inl rfl) ho hc hd (fun h' c' kp e=>fin its r' hz h' c' kp e) (by simp only[List.size_toArray]<;>omega)
 ·obtain⟨its,r',pl,hz⟩:=I.tuple hq
  have hlen:=r'.length
  obtain⟨o,ho,hc,n,hd⟩:=pl
  exact call_list_seq p (.inr rfl) ho hc hd (fun h' c' kp e=>fin its r' hz h' c' kp e) (by simp only[List.size_toArray]<;>omega)
def tyV (K:PySem.W.Frag) (T:String) (x:V) (H:Hp):Prop:=match x with
 | .str _=>T="str"
 | .int _=>T="int"
 | .ref p=>(T="list"/\∃xs,SqL K H p xs)\/(T="tuple"/\∃o,K.lookup p=some o/\o.cls= .type "tuple"/\o.dict=none)\/
     (T="dict"/\((∃kvs,H p=some (.dK kvs))\/∃kvs,H p=some (.dT kvs)))\/(T="set"/\∃S n,H p=some (.set S n))
 | _=>False
theorem Nv {pins:List (Addr×Obj)}{σ:St}{H:Hp}{s:Shared}{T:String}{x:V}{v:Value} (I:Inv X pins σ H s) (r:RelV x v) (ty:tyV X.K T x H):
 s.TypeIs v T/\∀a,v= .ref a->∃ob,s.heap.get? a=some ob/\ob.dict=none:=by
 cases x with
 | str z=>
   obtain⟨t,rfl⟩:=r
   cases(show T="str" from ty)
   exact⟨typeIs_str s z t,fun _ e=>nomatch e⟩
 | int i=>
   obtain⟨t,rfl⟩:=r
   cases(show T="int" from ty)
   exact⟨typeIs_int s i t,fun _ e=>nomatch e⟩
 | ref p=>
   cases r
   rcases ty with⟨rfl,xs,hq⟩ | ⟨rfl,o,hk,hc,hd⟩ | ⟨rfl,hk⟩ | ⟨rfl,S,n,hk⟩
   ·obtain⟨its,_,pl,_⟩:=I.list hq
    refine⟨pl.isList.typeIs,fun a e=> ?_⟩
    cases e
    obtain⟨o,n,e,c,hd,_⟩:=pl
    exact⟨o,e,hd⟩
   ·refine⟨⟨o,I.kIn p o hk,hc⟩,fun a e=> ?_⟩
    cases e
    exact⟨o,I.kIn _ o hk,hd⟩
   ·have z:∃o,s.heap.get? p=some o/\o.ExactDict:=by
     rcases hk with⟨kvs,hk⟩ | ⟨kvs,hk⟩
     ·obtain⟨_,_,_,_,o,_,_,e,ex,_⟩:=I.hok p _ hk
      exact⟨o,e,ex⟩
     ·obtain⟨_,_,_,_,o,_,_,e,ex,_⟩:=I.hok p _ hk
      exact⟨o,e,ex⟩
    obtain⟨o,e,ex⟩:=z
    refine⟨⟨o,e,ex.1⟩,fun a e2=> ?_⟩
    cases e2
    exact⟨o,e,ex.2.1⟩
   ·obtain⟨o,_,_,_,e,ex,_⟩:=I.hok p _ hk
    refine⟨⟨o,e,ex.1⟩,fun a e2=> ?_⟩
    cases e2
    exact⟨o,e,ex.2.1⟩
 | _=>exact False.elim ty
def abS (K:PySem.W.Frag) (T:String) (r:V->List V->Hp->VK->Prop) (to:TE):TE:=fun σ H Q=>to σ H fun x H1=>tyV K T x H1/\r x [] H1 Q
def tBM (K:PySem.W.Frag) (T:String) (r:V->List V->Hp->VK->Prop) (to:TE) (t:TA):TE:=fun σ H Q=>to σ H fun x H1=>tyV K T x H1/\t σ H1 fun xs H2=>r x xs H2 Q
variable {o e:Expr}{es:List Expr}{to:TE}{t:TA}{name:Str}{apos cpos:Pos}{T id:String}{r:V->List V->Hp->VK->Prop}
theorem Yg (pa:PlainAttrs T) (slot:Slot T name id) (hty:typeOf (.builtin id)=pure (.type "method_descriptor")) (hm:MtR X id r) (ho:PE X o to)
 (hbase:attributeBase o name X.env (eval o X.env)=eval o X.env:=by rfl) (hline:(apos.endLine==cpos.line)=true:=by rfl):PE X (.Call (.Attribute o name apos) [] [] cpos) (abS X.K T r to):=by
 intro pins s σ H Q I h
 refine wpAny_Call_method0_late hbase hline (thn (ho pins s σ H _ I h) fun v s1 ⟨x,H1,I1,r1,ty,q1⟩=> ?_)
 obtain⟨h1,h2⟩:=Nv I1 r1 ty
 exact⟨T,id,pa,slot,hty,h1,h2,Calls.callWith_builtin rfl (PySem.evalArgs_none (hm pins s1 σ H1 x [] v [] Q I1 r1 .nil q1))⟩
theorem abT (pa:PlainAttrs T) (slot:Slot T name id) (hty:typeOf (.builtin id)=pure (.type "method_descriptor")) (hm:MtR X id r) (ho:PE X o to) (ha:PA X (e::es) t)
 (hbase:attributeBase o name X.env (eval o X.env)=eval o X.env:=by rfl)
 (hfew:((backTo cpos (starEach (e::es) X.env)).all (fun x=> !x.1)&&(backToKw cpos (keywordEach [] X.env)).all (fun x=>x.1.isSome)
   &&decide ((e::es).length+([]:List Keyword).length+(if([]:List Keyword).isEmpty then 0 else 1)<30))=true:=by rfl)
 (hline:(apos.endLine==cpos.line)=true:=by rfl) (hs:starEach (e::es) X.env=(false,eval e X.env)::starEach es X.env:=by rfl) (hplain:(backTo cpos (starEach es X.env)).any (·.1)=false:=by rfl):
 PE X (.Call (.Attribute o name apos) (e::es) [] cpos) (tBM X.K T r to t):=by
 intro pins s σ H Q I h
 refine wpAny_Call_method_late hbase hfew hline rfl (thn (ho pins s σ H _ I h) fun v s1 ⟨x,H1,I1,r1,ty,q1⟩=> ?_)
 obtain⟨h1,h2⟩:=Nv I1 r1 ty
 refine⟨T,id,pa,slot,hty,h1,h2, ?_⟩
 have hA:=ha cpos pins s1 σ H1 _ I1 q1
 rw[hs] at hA ⊢
 refine Calls.callWith_builtin (by show(false||(backTo cpos (starEach es X.env)).any (·.1))=false;rw[hplain]<;>rfl) (Calls.evalArgs_plain ?_)
 exact thn hA fun us s2 ⟨vs,H2,I2,r2,q2⟩=>hm pins s2 σ H2 x vs v us Q I2 r1 r2 q2
/- xs.append(e),list.index on a module's tuple .. are MtR facts of 06m -/
end
end L2
namespace L2
open PySem PySem.Spec PyProof.Rows
def MtM (X:Cx) (id:String) (r:V->List V->Hp->VK->Prop):Prop:=
 ∀(pins:List (Addr×Obj)) (s:Shared) (σ:St) (H:Hp) (x:V) (xs:List V) (v:Value) (us:List Value) (Q:VK),Inv X pins σ H s->RelV x v->Vals xs us->r x xs H Q->
  wpAny (model X.prog X.w) X.A (call (.builtin id) (v::us)) (EP X pins σ Q) X.xe s
theorem Vals.one:∀{x:V}{us:List Value},Vals [x] us->∃u,us=[u]/\RelV x u
 | _,_, .cons r .nil=>⟨_,rfl,r⟩
theorem Vals.two:∀{x y:V}{us:List Value},Vals [x,y] us->∃u v,us=[u,v]/\RelV x u/\RelV y v
 | _,_,_, .cons r (.cons q .nil)=>⟨_,_,rfl,r,q⟩
theorem Vals.zero:∀{us:List Value},Vals [] us->us=[]
 | _, .nil=>rfl
theorem Vals.dropLast {xs:List V}{us:List Value} (h:Vals xs us):Vals xs.dropLast us.dropLast:=by
 induction h with
 | nil=>exact .nil
 | cons r t ih=>
   cases t with
   | nil=>exact .nil
   | cons q t'=>exact .cons r ih
theorem Ie {α:Type} (l:List α):l.eraseIdx (l.length - 1)=l.dropLast:=by
 induction l with
 | nil=>rfl
 | cons a r ih=>
   cases r with
   | nil=>rfl
   | cons b r=>
     have e:(a::b::r).length - 1=((b::r).length - 1)+1:=by
      have h1:(a::b::r).length=r.length+2:=rfl
      have h2:(b::r).length=r.length+1:=rfl
      omega
     rw[e,List.eraseIdx_cons_succ,ih]
     all_goals rfl
section
variable {X:Cx}{pins:List (Addr×Obj)}{σ:St}{H:Hp}{s:Shared}{l b:Addr}{xs ys zs:List V}
theorem Inv.lset {its its':List Value}{n:Nat}{f:Array Value->Array Value}{t':Nat} (I:Inv X pins σ H s) (hH:H l=some (.lst xs))
 (e:s.heap.get? l=some {cls:= .type "list",data:= .seq its.toArray n}) (hf:f its.toArray=its'.toArray) (hv:Vals ys its') (hz:ys.length<=sizeLine):
 Inv X pins σ (upd H l (.lst ys)) {s with heap:=s.heap.update l (Obj.mapSeq f),toks:=t'}:=by
 have q:=PySem.IsL.update e f
 rw[hf] at q
 refine I.write (x:=l) (e:=l) (by rw[hH];exact trivial) (.inl rfl) (fun b' u hb hu=>(Heap.get?_update_other s.heap (Obj.mapSeq f) (Ne.symm hb)).trans hu) ⟨_,q⟩ ?_
 exact⟨hz,its',_,hv,q⟩
theorem Inv.lnew {its:List Value}{t':Nat} (I:Inv X pins σ H s) (hv:Vals ys its) (hz:ys.length<=sizeLine):
 Inv X pins σ (upd H s.heap.objs.size (.lst ys)) {s with heap:=s.heap.push {cls:= .type "list",data:= .seq its.toArray},toks:=t'}:=
 I.laid (fun _ _ q=>Heap.get?_push_of_some _ q) (Nat.le_refl _) ⟨hz,its,0,hv,Heap.get?_push_size _ rfl⟩
theorem Inv.fresh (I:Inv X pins σ H s):H s.heap.objs.size=none:=I.hok.fresh (Nat.le_refl _)
theorem Inv.Ln (I:Inv X pins σ H s) (hH:H l=some (.lst xs)):xs.length<=sizeLine/\∃(its:List Value) (n:Nat),Vals xs its/\xs.length=its.length/\s.heap.get? l=some {cls:= .type "list",data:= .seq its.toArray n}:=by
 obtain⟨z,its,n,r,e⟩:=I.hok l _ hH
 exact⟨z,its,n,r,r.length,e⟩
theorem Nx {n:Nat} (h:n<=sizeLine):Builtin.List.listTooLong n=false:=by
 unfold Builtin.List.listTooLong
 exact decide_eq_false (by omega)
end
section
variable {X:Cx}
def JS:V->List V->Hp->VK->Prop:=fun x vs H Q=>∃l xs y,x= .ref l/\vs=[y]/\H l=some (.lst xs)/\xs.length<sizeLine/\Q .non (upd H l (.lst (xs++[y])))
theorem CV:MtM X "list.append" JS:=by
 intro pins s σ H x vs v us Q I rx rv h
 obtain⟨l,xs,y,rfl,rfl,hH,hz,q⟩:=h
 cases rx
 obtain⟨u,rfl,ru⟩:=rv.one
 obtain⟨z,its,n,r,hl,e⟩:=I.Ln hH
 refine call_meets F.slot_list_append ⟨_,e,rfl⟩ F.entry_list_append (F.args_list_append_2 _ _) (PySem.list_append l its.toArray n u (by rw[List.size_toArray];omega)) ⟨e, ?_⟩
 refine⟨.non,_,I.lset (its':=its++[u]) hH e (by simp) (r.append (.cons ru .nil)) ?_,rfl,q⟩
 rw[List.length_append,List.length_singleton]
 omega
def JT:V->List V->Hp->VK->Prop:=fun x vs H Q=>∃l b xs zs,x= .ref l/\vs=[.ref b]/\H l=some (.lst xs)/\H b=some (.lst zs)/\xs.length+zs.length<=sizeLine/\Q .non (upd H l (.lst (xs++zs)))
theorem Lp:MtM X "list.extend" JT:=by
 intro pins s σ H x vs v us Q I rx rv h
 obtain⟨l,b,xs,zs,rfl,rfl,hH,hB,hz,q⟩:=h
 cases rx
 obtain⟨u,rfl,ru⟩:=rv.one
 cases ru
 obtain⟨z,its,n,r,hl,e⟩:=I.Ln hH
 obtain⟨z2,its2,n2,r2,hl2,e2⟩:=I.Ln hB
 have hsz:its.toArray.size+its2.toArray.size<=sizeLine:=by rw[List.size_toArray,List.size_toArray];omega
 have hlong:¬(!its.toArray.isEmpty&&Builtin.List.listTooLong (its.toArray.size+its2.toArray.size))=true:=by
  rw[Nx hsz,Bool.and_false]
  exact Bool.false_ne_true
 refine call_meets F.slot_list_extend ⟨_,e,rfl⟩ F.entry_list_extend (F.args_list_extend_2 _ _)
  (AutoSeq1.list_extend_list_list_0 l its.toArray n b its2.toArray n2 hlong (by rw[List.size_toArray];omega) (by omega)) ⟨e,e2, ?_⟩
 refine⟨.non,_,I.lset (its':=its++its2) hH e (by simp) (r.append r2) ?_,rfl,q⟩
 rw[List.length_append]
 omega
def abU:V->List V->Hp->VK->Prop:=fun x vs H Q=>∃l xs y,x= .ref l/\vs=[]/\H l=some (.lst xs)/\xs[xs.length - 1]? =some y/\Q y (upd H l (.lst xs.dropLast))
theorem Yh:MtM X "list.pop" abU:=by
 intro pins s σ H x vs v us Q I rx rv h
 obtain⟨l,xs,y,rfl,rfl,hH,hy,q⟩:=h
 cases rx
 have hus:=rv.zero
 subst hus
 obtain⟨z,its,n,r,hl,e⟩:=I.Ln hH
 obtain⟨u,hu,ru⟩:=r.get hy
 have hy':its.toArray[its.toArray.size - 1]? =some u:=by
  show its.toArray[its.length - 1]? =some u
  rw[<-Array.getElem?_toList,<-hl]
  exact hu
 refine call_meets F.slot_list_pop ⟨_,e,rfl⟩ F.entry_list_pop (F.args_list_pop_1 _) (MeetsSeq.list_pop_last l its.toArray n u hy' (by rw[List.size_toArray];omega)) ⟨e, ?_⟩
 refine⟨y,_,I.lset (its':=its.dropLast) hH e ?_ r.dropLast ?_,ru,q⟩
 ·show its.toArray.eraseIdxIfInBounds (its.toArray.size - 1)=its.dropLast.toArray
  rw[List.size_toArray,List.eraseIdxIfInBounds_toArray,Ie]
 ·rw[List.length_dropLast]
  omega
def abV:R2:=fun x y H Q=>∃l b xs zs,x= .ref l/\y= .ref b/\H l=some (.lst xs)/\H b=some (.lst zs)/\xs.length+zs.length<=sizeLine/\∀p,H p=none->Q (.ref p) (upd H p (.lst (xs++zs)))
theorem Yi:OpR X (binaryOp .Add) abV:=by
 intro pins s σ H x y v u Q I rx ry h
 obtain⟨l,b,xs,zs,rfl,rfl,hH,hB,hz,q⟩:=h
 cases rx
 cases ry
 obtain⟨z,its,n,r,hl,e⟩:=I.Ln hH
 obtain⟨z2,its2,n2,r2,hl2,e2⟩:=I.Ln hB
 refine PySem.P.add_list e e2 ?_ (by rw[List.size_toArray,List.size_toArray];omega)
 have ea:its.toArray++its2.toArray=(its++its2).toArray:=by simp
 rw[ea]
 exact⟨.ref _,_,I.lnew (t':=s.toks) (r.append r2) (by rw[List.length_append];omega),rfl,q _ I.fresh⟩
end
section
variable {prog:Program}{w:World}{A:Around}{E:Value->Shared->Prop}{s:Shared}
end
section
variable {X:Cx}
end
end L2
namespace L2
open PySem PySem.Spec PyProof.Rows
section
variable {κ:Type} [DecidableEq κ]
def dG (kvs:List (κ×V)) (k:κ):Option V:=(kvs.find? fun kv=>decide (kv.1=k)).map (·.2)
def putK (kvs:List (κ×V)) (k:κ) (v:V):List (κ×V):=
 if(kvs.any fun kv=>decide (kv.1=k))=true then kvs.map (fun kv=>if kv.1=k then(kv.1,v) else kv) else kvs++[(k,v)]
theorem pO {k:κ}:dG ([]:List (κ×V)) k=none:=rfl
theorem iJ {p:κ×V}{r:List (κ×V)}{k:κ} (e:p.1=k):dG (p::r) k=some p.2:=by simp[dG,List.find?_cons,e]
theorem gR {p:κ×V}{r:List (κ×V)}{k:κ} (e:¬p.1=k):dG (p::r) k=dG r k:=by simp[dG,List.find?_cons,e]
theorem tO (k:κ):∀kvs:List (κ×V),(kvs.any fun kv=>decide (kv.1=k))=(dG kvs k).isSome
 |[]=>rfl
 | p::r=>by
   rw[List.any_cons]
   by_cases e:p.1=k
   ·simp only[iJ e,decide_eq_true e,Bool.true_or,Option.isSome_some]
   ·rw[gR e,decide_eq_false e,Bool.false_or];exact tO k r
theorem Fq (k j:κ) (y:V):∀kvs:List (κ×V),dG (kvs.map fun kv=>if kv.1=k then(kv.1,y) else kv) j=(dG kvs j).map fun x=>if j=k then y else x
 |[]=>rfl
 | p::r=>by
   have ih:=Fq k j y r
   rw[List.map_cons]
   by_cases h:p.1=k
   ·rw[if_pos h]
    by_cases e:p.1=j
    ·rw[iJ (p:=(p.1,y)) e,iJ e,Option.map_some,if_pos (e.symm.trans h)]
    ·rw[gR (p:=(p.1,y)) e,gR e,ih]
   ·rw[if_neg h]
    by_cases e:p.1=j
    ·rw[iJ (p:=p) e,iJ e,Option.map_some,if_neg (fun z=>h (e.trans z))]
    ·rw[gR (p:=p) e,gR e,ih]
theorem CW (k j:κ) (y:V):∀kvs:List (κ×V),dG kvs k=none->dG (kvs++[(k,y)]) j=if j=k then some y else dG kvs j
 |[],_=>by
  by_cases e:k=j
  ·rw[if_pos e.symm];exact iJ (p:=(k,y)) e
  ·rw[if_neg (fun z=>e z.symm)];exact gR (p:=(k,y)) e
 | p::r,hn=>by
   rw[List.cons_append]
   have hk:¬p.1=k:=fun z=>by rw[iJ z] at hn;cases hn
   rw[gR hk] at hn
   have ih:=CW k j y r hn
   by_cases e:p.1=j
   ·rw[iJ e,iJ e,if_neg (fun z=>hk (e.trans z))]
   ·rw[gR e,gR e,ih]
theorem jK (kvs:List (κ×V)) (k j:κ) (y:V):dG (putK kvs k y) j=if j=k then some y else dG kvs j:=by
 unfold putK
 by_cases a:(kvs.any fun kv=>decide (kv.1=k))=true
 ·rw[if_pos a,Fq]
  rw[tO] at a
  by_cases e:j=k
  ·obtain⟨x,hx⟩:=Option.isSome_iff_exists.mp a
   rw[if_pos e,e,hx,Option.map_some,if_pos rfl]
  ·rw[if_neg e]
   cases dG kvs j with
   | none=>rfl
   | some x=>rw[Option.map_some,if_neg e]
 ·rw[if_neg a]
  refine CW k j y kvs ?_
  rw[tO] at a
  cases q:dG kvs k with
  | none=>rfl
  | some x=>rw[q] at a;exact(a rfl).elim
theorem tQ (kvs:List (κ×V)) (k:κ) (v:V):(putK kvs k v).length<=kvs.length+1:=by
 unfold putK
 split
 ·rw[List.length_map];omega
 ·rw[List.length_append,List.length_cons,List.length_nil];omega
theorem rQ.pP {o:Option V}{u:Option Value} (r:rQ o u):o.isSome=u.isSome:=by
 cases o with
 | none=>cases u with
   | none=>rfl
   | some _=>exact(show False from r).elim
 | some _=>cases u with
   | none=>exact(show False from r).elim
   | some _=>rfl
theorem KV.val {kvs:List (κ×V)}{vs:List (κ×Value)} (r:KV kvs vs) (k:κ):rQ (dG kvs k) (valueAt vs k):=by
 unfold KV at r
 induction r with
 | nil=>exact True.intro
 | @cons p q ps qs h t ih=>
   obtain⟨h1,h2⟩:=h
   by_cases e:p.1=k
   ·have e':q.1=k:=h1.symm.trans e
    have b:valueAt (q::qs) k=some q.2:=by simp[valueAt,List.find?_cons,e']
    rw[iJ e,b];exact h2
   ·have e':¬q.1=k:=fun z=>e (h1.trans z)
    have b:valueAt (q::qs) k=valueAt qs k:=by simp[valueAt,List.find?_cons,e']
    rw[gR e,b];exact ih
theorem KV.any {kvs:List (κ×V)}{vs:List (κ×Value)} (r:KV kvs vs) (k:κ):(kvs.any fun kv=>decide (kv.1=k))=vs.any fun kv=>decide (kv.1=k):=by
 unfold KV at r
 induction r with
 | nil=>rfl
 | cons h t ih=>rw[List.any_cons,List.any_cons,ih,h.1]
theorem KV.repl {kvs:List (κ×V)}{vs:List (κ×Value)} (r:KV kvs vs) (k:κ) {y:V}{u:Value} (ry:RelV y u):
 KV (kvs.map fun kv=>if kv.1=k then(kv.1,y) else kv) (vs.map fun kv=>if kv.1=k then(kv.1,u) else kv):=by
 unfold KV at r ⊢
 induction r with
 | nil=>exact .nil
 | @cons p q ps qs h t ih=>
   rw[List.map_cons,List.map_cons]
   refine .cons ?_ ih
   obtain⟨h1,h2⟩:=h
   by_cases e:p.1=k
   ·rw[if_pos e,if_pos (h1.symm.trans e)];exact⟨h1,ry⟩
   ·rw[if_neg e,if_neg (fun z=>e (h1.trans z))];exact⟨h1,h2⟩
theorem KV.put {kvs:List (κ×V)}{vs:List (κ×Value)} (r:KV kvs vs) (k:κ) {y:V}{u:Value} (ry:RelV y u):KV (putK kvs k y) (stored vs k u):=by
 unfold putK stored
 rw[r.any k]
 by_cases e:(vs.any fun kv=>decide (kv.1=k))=true
 ·rw[if_pos e,if_pos e];exact r.repl k ry
 ·rw[if_neg e,if_neg e];exact Paired.snoc r ⟨rfl,ry⟩
theorem KV.length {kvs:List (κ×V)}{vs:List (κ×Value)} (r:KV kvs vs):kvs.length=vs.length:=Paired.length r
end
theorem CZ {P:Program}{w:World}{k:Key}{u:Value} (r:RelV (kV k) u):(gf P w).is k u=true:=by
 cases k with
 | inl i=>obtain⟨t,e⟩:=(show∃t,u=Value.int i t from r);subst e;exact Fg P w i t
 | inr x=>obtain⟨t,e⟩:=(show∃t,u=Value.str x t from r);subst e;exact Fi P w x t
theorem Dc {P:Program}{w:World}:∀{ks:List Key}{us:List Value},Vals (ks.map kV) us->ItemsAre (gf P w) ks us
 |[],_,r=>by rw[List.map_nil] at r;cases r;exact .nil
 | k::ks,_,r=>by
   rw[List.map_cons] at r
   cases r with
   | cons h t=>exact .cons (CZ h) (Dc t)
abbrev KT (H:Hp):List (List Key×V)->List (List Key×Addr×Value)->Prop:=Paired fun p q=>p.1=q.1/\H q.2.1=some (.tup (p.1.map kV))/\RelV p.2 q.2.2
theorem KT.val {H:Hp}{kvs:List (List Key×V)}{xs:List (List Key×Addr×Value)} (r:KT H kvs xs) (k:List Key):rQ (dG kvs k) ((atKey xs k).map (·.2)):=by
 induction r with
 | nil=>exact True.intro
 | @cons p q ps qs h t ih=>
   obtain⟨h1,_,h2⟩:=h
   by_cases e:p.1=k
   ·have e':q.1=k:=h1.symm.trans e
    have b:atKey (q::qs) k=some q.2:=by simp[atKey,List.find?_cons,e']
    rw[iJ e,b];exact h2
   ·have e':¬q.1=k:=fun z=>e (h1.trans z)
    have b:atKey (q::qs) k=atKey qs k:=by simp[atKey,List.find?_cons,e']
    rw[gR e,b];exact ih
theorem KT.repl {H:Hp}{kvs:List (List Key×V)}{xs:List (List Key×Addr×Value)} (r:KT H kvs xs) (k:List Key) {y:V}{u:Value} (ry:RelV y u):
 KT H (kvs.map fun kv=>if kv.1=k then(kv.1,y) else kv) (xs.map (putAt k u)):=by
 induction r with
 | nil=>exact .nil
 | @cons p q ps qs h t ih=>
   rw[List.map_cons,List.map_cons]
   refine .cons ?_ ih
   obtain⟨h1,h2,h3⟩:=h
   unfold putAt
   by_cases e:p.1=k
   ·rw[if_pos e,if_pos (h1.symm.trans e)];exact⟨h1,h2,ry⟩
   ·rw[if_neg e,if_neg (fun z=>e (h1.trans z))];exact⟨h1,h2,h3⟩
theorem KT.put {H:Hp}{kvs:List (List Key×V)}{xs:List (List Key×Addr×Value)} (r:KT H kvs xs) (k:List Key) {b:Addr}{y:V}{u:Value} (hb:H b=some (.tup (k.map kV))) (ry:RelV y u):
 KT H (putK kvs k y) (storedH xs k b u):=by
 have e:(kvs.any fun kv=>decide (kv.1=k))=(atKey xs k).isSome:=by
  rw[tO,(r.val k).pP,Option.isSome_map]
 unfold putK storedH
 rw[e]
 by_cases q:(atKey xs k).isSome=true
 ·rw[if_pos q,if_pos q];exact r.repl k ry
 ·rw[if_neg q,if_neg q];exact Paired.snoc r ⟨rfl,hb,ry⟩
theorem KT.keeps {H H':Hp}{kvs:List (List Key×V)}{xs:List (List Key×Addr×Value)} (r:KT H kvs xs) (ht:∀b ys,H b=some (.tup ys)->H' b=some (.tup ys)):KT H' kvs xs:=
 Paired.Xi r fun _ _ z=>⟨z.1,ht _ _ z.2.1,z.2.2⟩
section
variable {P:Program}{w:World}{H:Hp}{h:Heap}{a:Addr}
theorem VP {u:HO} (ok:HOk P w H h) (e:Rd H a u):dm P w H h a u:=e.ok ok
theorem Dd {kvs:List (Key×V)} (ok:HOk P w H h) (e:Rd H a (.dK kvs)):kvs.length<=sizeLine/\(a==sysModules)=false/\∃vs,KV kvs vs/\h.DictOf (gf P w) a vs:=
 show dm P w H h a (.dK kvs) from VP ok e
theorem JV {kvs:List (Key×V)} (ok:HOk P w H h) (e:H a=some (.dK kvs)):kvs.length<=sizeLine/\(a==sysModules)=false/\∃vs,KV kvs vs/\h.DictOf (gf P w) a vs:=Dd ok (.inl e)
theorem zR {ks:List Key} (ok:HOk P w H h) (e:H a=some (.tup (ks.map kV))):(tupleKind (gf P w)).is h ks a:=by
 obtain⟨_,its,r,o,h1,h2,n,h3⟩:=(show dm P w H h a (.tup (ks.map kV)) from ok a _ e)
 exact⟨o,its.toArray,n,h1,h2,h3,by simpa using Dc r⟩
theorem De {kvs:List (List Key×V)} (ok:HOk P w H h) (e:Rd H a (.dT kvs)):kvs.length<=sizeLine/\(a==sysModules)=false/\
 ∃xs,KT H kvs xs/\h.DictOfH (tupleKind (gf P w)) a xs:=by
 obtain⟨z,y,xs,r,o,es,ep,h1,h2,h3,h4,h5⟩:=(show dm P w H h a (.dT kvs) from VP ok e)
 refine⟨z,y,xs,r,o,es,ep,h1,h2,h3,h4,fun x hx=> ?_,h5⟩
 have all:∀{l:List (List Key×V)}{m:List (List Key×Addr×Value)},KT H l m->∀x∈m,(tupleKind (gf P w)).is h x.1 x.2.1:=by
  intro l m q
  induction q with
  | nil=>intro x hx;exact nomatch hx
  | @cons p q ps qs hq t ih=>
    intro x hx
    rcases List.mem_cons.mp hx with e | hx
    ·subst e
     exact zR ok (by rw[<-hq.1];exact hq.2.1)
    ·exact ih x hx
 exact all r x hx
theorem abW {kvs:List (List Key×V)} (ok:HOk P w H h) (e:H a=some (.dT kvs)):kvs.length<=sizeLine/\(a==sysModules)=false/\
 ∃xs,KT H kvs xs/\h.DictOfH (tupleKind (gf P w)) a xs:=De ok (.inl e)
end
def dH (H:Hp) (a:Addr) (y:V) (r:Option V):Prop:=
 (∃kvs k,Rd H a (.dK kvs)/\y=kV k/\r=dG kvs k)\/∃kvs k b,Rd H a (.dT kvs)/\y= .ref b/\H b=some (.tup (k.map kV))/\r=dG kvs k
def nW (H:Hp) (a:Addr) (y v:V) (H':Hp):Prop:=
 (∃kvs k,H a=some (.dK kvs)/\y=kV k/\kvs.length<sizeLine/\H'=upd H a (.dK (putK kvs k v)))\/
 ∃kvs k b,H a=some (.dT kvs)/\y= .ref b/\H b=some (.tup (k.map kV))/\kvs.length<sizeLine/\H'=upd H a (.dT (putK kvs k v))
theorem dH.k {H:Hp}{a:Addr}{kvs:List (Key×V)}{k:Key} (e:H a=some (.dK kvs)):dH H a (kV k) (dG kvs k):= .inl ⟨kvs,k, .inl e,rfl,rfl⟩
theorem nW.k {H:Hp}{a:Addr}{kvs:List (Key×V)}{k:Key}{v:V} (e:H a=some (.dK kvs)) (hl:kvs.length<sizeLine):nW H a (kV k) v (upd H a (.dK (putK kvs k v))):= .inl ⟨kvs,k,e,rfl,hl,rfl⟩
section
variable {X:Cx}{pins:List (Addr×Obj)}{σ:St}{H:Hp}{s:Shared}{a:Addr}{y v:V}{u r:Value}{o:Option V}{A:Around}{E:Value->Shared->Prop}
theorem Inv.big (I:Inv X pins σ H s):sysModules<s.heap.objs.size:=by
 have h:mainGlobals<s.heap.objs.size:=(I.mod.glob.keeps I.bk).lt
 exact Nat.lt_trans (by decide) h
theorem Lq {Q:Value->Shared->Prop} (hu:A.units+1<cLine) (I:Inv X pins σ H s) (g:dH H a y (some v)) (ry:RelV y u) (h:∀w' s',Inv X pins σ H s'->RelV v w'->Q w' s'):
 wpAny (model X.prog X.w) A (getItem (.ref a) u) Q E s:=by
 rcases g with⟨kvs,k,e,ey,l⟩ | ⟨kvs,k,b,e,ey,eb,l⟩
 ·subst ey
  obtain⟨z,hd,vs,rel,dd⟩:=Dd I.hok e
  obtain⟨w',hw,rw'⟩:=rQ.some_of (v:=v) (o:=valueAt vs k) (by rw[l];exact rel.val k)
  exact wpAny_getItem_of (CZ ry) dd.mapOf hw (h w' _ (I.tok _) rw')
 ·subst ey
  cases(show u=Value.ref b from ry)
  obtain⟨z,hd,xs,rel,dd⟩:=De I.hok e
  obtain⟨w',hw,rw'⟩:=rQ.some_of (v:=v) (o:=(atKey xs k).map (·.2)) (by rw[l];exact rel.val k)
  obtain⟨p,hp,hp2⟩:=Option.map_eq_some_iff.mp hw
  refine wpAny_getItem_heap (tupleKind_room_in1 hu) (zR I.hok eb) dd hp ?_
  rw[hp2]
  exact h w' _ (I.tok _) rw'
theorem afx {Q:Value->Shared->Prop} (hu:A.units+1<cLine) (I:Inv X pins σ H s) (g:dH H a y o) (ry:RelV y u) (h:∀s',Inv X pins σ H s'->Q (.bool o.isSome) s'):
 wpAny (model X.prog X.w) A (compareOp .In u (.ref a)) Q E s:=by
 rcases g with⟨kvs,k,e,ey,l⟩ | ⟨kvs,k,b,e,ey,eb,l⟩
 ·subst ey
  obtain⟨z,hd,vs,rel,dd⟩:=Dd I.hok e
  refine wpAny_in_of (CZ ry) hd dd.mapOf ?_
  rw[<-(rel.val k).pP,<-l]
  exact h _ (I.tok _)
 ·subst ey
  cases(show u=Value.ref b from ry)
  obtain⟨z,hd,xs,rel,dd⟩:=De I.hok e
  refine wpAny_in_heap (tupleKind_room_in1 hu) (zR I.hok eb) hd dd ?_
  have q:=(rel.val k).pP
  rw[Option.isSome_map] at q
  rw[<-q,<-l]
  exact h _ (I.tok _)
theorem Sx {Q:Value->Shared->Prop} (hu:A.units+1<cLine) (I:Inv X pins σ H s) (g:dH H a y o) (ry:RelV y u) (h:∀s',Inv X pins σ H s'->Q (.bool (!o.isSome)) s'):
 wpAny (model X.prog X.w) A (compareOp .NotIn u (.ref a)) Q E s:=by
 rcases g with⟨kvs,k,e,ey,l⟩ | ⟨kvs,k,b,e,ey,eb,l⟩
 ·subst ey
  obtain⟨z,hd,vs,rel,dd⟩:=Dd I.hok e
  refine wpAny_notIn_of (CZ ry) hd dd.mapOf ?_
  rw[<-(rel.val k).pP,<-l]
  exact h _ (I.tok _)
 ·subst ey
  cases(show u=Value.ref b from ry)
  obtain⟨z,hd,xs,rel,dd⟩:=De I.hok e
  refine wpAny_notIn_heap (tupleKind_room_in1 hu) (zR I.hok eb) hd dd ?_
  have q:=(rel.val k).pP
  rw[Option.isSome_map] at q
  rw[<-q,<-l]
  exact h _ (I.tok _)
theorem DK {h':Heap}{t':Nat}{ob:HO} (I:Inv X pins σ H s) (mu:Mut (H a)) (hs:Heap.SameBut a s.heap h') (he:∃q,h'.get? a=some q) (new:dm X.prog X.w (upd H a ob) h' a ob):
 Inv X pins σ (upd H a ob) {s with heap:=h',toks:=t'}:=
 I.write (x:=a) (e:=a) mu (.inl rfl) (fun b q hb z=>(hs.2 b hb).trans z) he new
theorem Ny {P:Program}{w:World}{H':Hp}{h':Heap}{kvs:List (Key×V)}{vs:List (Key×Value)} (z:kvs.length<=sizeLine) (hd:(a==sysModules)=false) (rel:KV kvs vs) (dd:h'.DictOf (gf P w) a vs):
 dm P w H' h' a (.dK kvs):=⟨z,hd,vs,rel,dd⟩
theorem Lr {H':Hp}{Q:Unit->Shared->Prop} (hu:A.units+1<cLine) (I:Inv X pins σ H s) (g:nW H a y v H') (ry:RelV y u) (rv:RelV v r) (h:∀s',Inv X pins σ H' s'->Q () s'):
 wpAny (model X.prog X.w) A (setItem (.ref a) u r) Q E s:=by
 rcases g with⟨kvs,k,e,ey,l,eH⟩ | ⟨kvs,k,b,e,ey,eb,l,eH⟩
 ·subst ey eH
  obtain⟨z,hd,vs,rel,dd⟩:=JV I.hok e
  have hz:vs.length<=sizeLine:=by rw[<-rel.length];exact z
  have hl:(putK kvs k v).length<=sizeLine:=by have:=tQ kvs k v;omega
  refine wpAny_setItem_pairs (hsz:=hz) (CZ ry) dd fun h' dd' hs=>h _ ?_
  have he:∃q,h'.get? a=some q:=let ⟨q,_,_,hq,_⟩:=dd';⟨q,hq⟩
  exact DK I (by rw[e];exact True.intro) hs he (Ny hl hd (rel.put k rv) dd')
 ·subst ey eH
  cases(show u=Value.ref b from ry)
  obtain⟨z,hd,xs,rel,dd⟩:=abW I.hok e
  have hz:xs.length<=sizeLine:=by rw[<-Paired.length rel];exact z
  have hl:(putK kvs k v).length<=sizeLine:=by have:=tQ kvs k v;omega
  refine wpAny_setItem_heap (hsz:=hz) (tupleKind_room_in1 hu) (zR I.hok eb) dd fun h' dd' hs=>h _ ?_
  obtain⟨q,es,ep,hq,h2,h3,h4,_,h5⟩:=dd'
  refine DK I (by rw[e];exact True.intro) hs ⟨q,hq⟩ ⟨hl,hd,_,(rel.put k eb rv).keeps fun c ys ec=> ?_,q,es,ep,hq,h2,h3,h4,h5⟩
  rw[ao (abp ec e (fun z=>nomatch z))]
  exact ec
end
section
variable {X:Cx}{pins:List (Addr×Obj)}{σ:St}{H:Hp}{s:Shared}{a:Addr}{kvs:List (Key×V)}{k:Key}{u:Value}{A:Around}{E:Value->Shared->Prop}
end
def Yj (i:Expr):Prop:=∀ov iv,subscripted i false ov iv=operate [ov,iv] (getItem ov iv)
theorem Sy {prog:Program}{w:World}{A:Around}{E:Value->Shared->Prop}{s:Shared}{env:Env}{value slice:Expr}{pos:Pos}{T id:String}{Q:Value->Shared->Prop}
 (hl:typeLookup (.type T) "__getitem__"=pure (some (.builtin id))) (hs:Yj slice)
 (h:wpAny (model prog w) A (eval value env) (fun o s₁=>wpAny (model prog w) A (eval slice env) (fun i s₂=>s₂.TypeIs o T/\wpAny (model prog w) A (getItem o i) Q E s₂) E s₁) E s):
 wpAny (model prog w) A (eval (.Subscript value slice pos) env) Q E s:=by
 refine Subscript_ (wpAny_mono h (fun o s₁ h₁=>wpAny_mono h₁ (fun i s₂ h₂=> ?_) fun _ _ x=>x) fun _ _ x=>x)
 obtain⟨hT,h₂⟩:=h₂
 unfold subscriptTail
 refine wpAny_bind ?_
 rw[getitemInPython_of_ne hT.not_modules]
 refine wpAny_bind (wpAny_specialOf hT hl ?_)
 have fin:wpAny (model prog w) A (subscripted slice false o i) (fun r s₃=>wpAny (model prog w) A (letTemporaryGo value o r>>=fun _=>pure r) Q E s₃) E s₂:=by
  rw[hs o i]
  exact wpAny_operating (wpAny_mono h₂ (fun r s₃ h₃=>wpAny_bind (wpAny_letTemporaryGo (wpAny_pure h₃))) fun _ _ x=>x)
 first
  | exact wpAny_pure (wpAny_bind fin)
  | exact wpAny_bind (wpAny_pure (wpAny_bind fin))
  | exact wpAny_bind fin
theorem Ft {X:Cx}{pins:List (Addr×Obj)}{σ:St}{H:Hp}{s:Shared}{a:Addr}{y:V}{o:Option V} (I:Inv X pins σ H s) (g:dH H a y o):s.TypeIs (.ref a) "dict":=by
 rcases g with⟨kvs,k,e,_,_⟩ | ⟨kvs,k,b,e,_,_,_⟩
 ·obtain⟨_,_,vs,_,dd⟩:=Dd I.hok e
  exact dd.typeIs
 ·obtain⟨_,_,xs,_,dd⟩:=De I.hok e
  exact dd.typeIs
def VR (td ty:TE):TE:=fun σ H Q=>td σ H fun x H1=>ty σ H1 fun y H2=>∃a v,x= .ref a/\dH H2 a y (some v)/\Q v H2
def abX (ty td:TE):TE:=fun σ H Q=>ty σ H fun y H1=>td σ H1 fun x H2=>∃a o,x= .ref a/\dH H2 a y o/\Q (.bl o.isSome) H2
def JW (ty td:TE):TE:=fun σ H Q=>ty σ H fun y H1=>td σ H1 fun x H2=>∃a o,x= .ref a/\dH H2 a y o/\Q (.bl (!o.isSome)) H2
def V0 (td ty tv:TE):TS:=fun D σ H=>tv σ H fun v H1=>td σ H1 fun x H2=>ty σ H2 fun y H3=>∃a H4,x= .ref a/\nW H3 a y v H4/\D.nx σ H4
section
variable {X:Cx}{o i e value:Expr}{pos pos' tpos:Pos}{td ty tv:TE}
theorem SM (hu:X.A.units+1<cLine) (ho:PE X o td) (hi:PE X i ty) (hs:Yj i):PE X (.Subscript o i pos) (VR td ty):=by
 intro pins s σ H Q I h
 refine Sy PySem.F.slot_dict_getitem.lookup hs (thn (ho pins s σ H _ I h) fun u s1 ⟨x,H1,I1,rx,q1⟩=>thn (hi pins s1 σ H1 _ I1 q1) fun iv s2 ⟨y,H2,I2,ry,a,v,ex,g,q2⟩=> ?_)
 subst ex
 obtain rfl:u=Value.ref a:=rx
 exact⟨Ft I2 g,Lq hu I2 g ry fun w' s3 I3 rw'=>⟨v,H2,I3,rw',q2⟩⟩
theorem Yk (hu:X.A.units+1<cLine) (hi:PE X i ty) (ho:PE X o td):PC X .In i o (abX ty td):=by
 intro pins s σ H Q I h
 refine thn (hi pins s σ H _ I h) fun iv s1 ⟨y,H1,I1,ry,q1⟩=>thn (ho pins s1 σ H1 _ I1 q1) fun u s2 ⟨x,H2,I2,rx,a,ov,ex,g,q2⟩=> ?_
 subst ex
 obtain rfl:u=Value.ref a:=rx
 exact afx hu I2 g ry fun s3 I3=>⟨.bl ov.isSome,H2,I3,rfl,q2⟩
theorem Ls (hu:X.A.units+1<cLine) (hi:PE X i ty) (ho:PE X o td):PC X .NotIn i o (JW ty td):=by
 intro pins s σ H Q I h
 refine thn (hi pins s σ H _ I h) fun iv s1 ⟨y,H1,I1,ry,q1⟩=>thn (ho pins s1 σ H1 _ I1 q1) fun u s2 ⟨x,H2,I2,rx,a,ov,ex,g,q2⟩=> ?_
 subst ex
 obtain rfl:u=Value.ref a:=rx
 exact Sx hu I2 g ry fun s3 I3=>⟨.bl (!ov.isSome),H2,I3,rfl,q2⟩
theorem SN (hu:X.A.units+1<cLine) (ho:PE X o td) (hi:PE X i ty) (hv:PE X value tv) (hs:swapsWith value (some (.Subscript o i pos')) pos.line X.env=pure false):
 PS X (.Assign [.Subscript o i pos'] value pos) (V0 td ty tv):=by
 intro pins s σ H D I h
 refine wpAny_Assign_Subscript (thn (hv pins s σ H _ I h) fun r s1 ⟨v,H1,I1,rv,q1⟩=>thn (ho pins s1 σ H1 _ I1 q1) fun u s2 ⟨x,H2,I2,rx,q2⟩=>thn (hi pins s2 σ H2 _ I2 q2) fun iv s3 ⟨y,H3,I3,ry,a,H4,ex,g,q3⟩=> ?_) hs
 subst ex
 obtain rfl:u=Value.ref a:=rx
 exact Lr hu I3 g ry rv fun s4 I4=>⟨σ,H4,I4,q3⟩
end
theorem Fv {P:Program}{w:World}{H:Hp} (h:Heap) (hb:sysModules<h.objs.size):dm P w H (h.push {cls:= .type "dict",data:= .dict #[]}) h.objs.size (.dK []):=
 ⟨Nat.zero_le _,beq_eq_false_iff_ne.mpr (Ne.symm (Nat.ne_of_lt hb)),[], .nil,Heap.DictOf.new h⟩
def Nz:TE:=fun _ H Q=>∀p,H p=none->Q (.ref p) (upd H p (.dK []))
section
variable {X:Cx}{pos:Pos}
theorem NB:PE X (.Dict [] [] pos) Nz:=fun pins s σ H Q I h=>
 wpAny_Dict_empty ⟨.ref s.heap.objs.size,_,I.laid (a:=s.heap.objs.size) (o:= .dK []) (t':=s.toks) (fun _ _ q=>Heap.get?_push_of_some _ q) (Nat.le_refl _) (Fv s.heap I.big),rfl,h _ (I.hok.fresh (Nat.le_refl _))⟩
end
def Ig:List (TE×TE)->St->Hp->(List (V×V)->Hp->Prop)->Prop
 |[],_,H,Q=>Q [] H
 | (tk,tv)::r,σ,H,Q=>tk σ H fun x H1=>tv σ H1 fun y H2=>Ig r σ H2 fun ps H3=>Q ((x,y)::ps) H3
abbrev VV:List (V×V)->List (Value×Value)->Prop:=Paired fun p q=>RelV p.1 q.1/\RelV p.2 q.2
def PPs (X:Cx) (pos:Pos) (keys:List (Option Expr)) (values:List Expr) (trs:List (TE×TE)):Prop:=
 ∀(pins:List (Addr×Obj)) (s:Shared) (σ:St) (H:Hp) (Q:List (V×V)->Hp->Prop),Inv X pins σ H s->Ig trs σ H Q->
  wpAny (model X.prog X.w) X.A (evalPairs (pairTrees keys values X.env pos)) (fun vs s'=>∃ps H',Inv X pins σ H' s'/\VV ps vs/\Q ps H') X.xe s
theorem SQ {X:Cx}{pos:Pos}:PPs X pos [] [] []:=fun pins s σ H Q I h=>pairTrees_nil_walk ⟨[],H,I, .nil,h⟩
theorem NK {X:Cx}{pos:Pos}{k v:Expr}{ks:List (Option Expr)}{vs:List Expr}{tk tv:TE}{trs:List (TE×TE)} (hk:PE X k tk) (hv:PE X v tv) (hr:PPs X pos ks vs trs):
 PPs X pos (some k::ks) (v::vs) ((tk,tv)::trs):=fun pins s σ H Q I h=>
 pairTrees_cons_walk (thn (hk pins s σ H _ I h) fun u s1 ⟨x,H1,I1,rx,q1⟩=>thn (hv pins s1 σ H1 _ I1 q1) fun w2 s2 ⟨y,H2,I2,ry,q2⟩=>
  thn (hr pins s2 σ H2 _ I2 q2) fun ws s3 ⟨ps,H3,I3,rel,q3⟩=>⟨(x,y)::ps,H3,I3, .cons ⟨rx,ry⟩ rel,q3⟩)
def vW (kvs more:List (Key×V)):List (Key×V):=more.foldl (fun acc kv=>putK acc kv.1 kv.2) kvs
theorem KV.merge:∀{more:List (Key×V)}{rs:List (Key×Value)}{kvs:List (Key×V)}{vs:List (Key×Value)},KV more rs->KV kvs vs->KV (vW kvs more) (merged vs rs):=by
 intro more rs kvs vs r
 unfold KV at r
 induction r generalizing kvs vs with
 | nil=>intro q;exact q
 | @cons p q ps qs h t ih=>
   intro r0
   have e:KV (putK kvs p.1 p.2) (stored vs q.1 q.2):=by
    have:=r0.put p.1 h.2
    rw[<-h.1];exact this
   exact ih e
theorem vM:∀(more kvs:List (Key×V)),(vW kvs more).length<=kvs.length+more.length
 |[],kvs=>by show kvs.length<=kvs.length+0;omega
 | p::r,kvs=>by
   have h1:=vM r (putK kvs p.1 p.2)
   have h2:=tQ kvs p.1 p.2
   show(vW (putK kvs p.1 p.2) r).length<=_
   rw[List.length_cons];omega
theorem zT {P:Program}{w:World}:∀{kvs:List (Key×V)}{ws:List (Value×Value)},VV (kvs.map fun kv=>(kV kv.1,kv.2)) ws->∃rs,Carries (gf P w) ws rs/\KV kvs rs
 |[],_,r=>by rw[List.map_nil] at r;cases r;exact⟨[],True.intro, .nil⟩
 | p::kvs,_,r=>by
   rw[List.map_cons] at r
   cases r with
   | @cons a b as bs h t=>
     obtain⟨rs,c,q⟩:=zT (P:=P) (w:=w) t
     obtain⟨b1,b2⟩:=b
     exact⟨(p.1,b2)::rs,⟨CZ h.1,rfl,c⟩, .cons ⟨rfl,h.2⟩ q⟩
def V1 (trs:List (TE×TE)):TE:=fun σ H Q=>∀p,H p=none->Ig trs σ (upd H p (.dK [])) fun ps H2=>H2 p=some (.dK [])/\∃kvs:List (Key×V),ps=kvs.map (fun kv=>(kV kv.1,kv.2))/\kvs.length<=15/\Q (.ref p) (upd H2 p (.dK (vW [] kvs)))
theorem S6 {X:Cx}{pos:Pos}{keys:List (Option Expr)}{values:List Expr}{trs:List (TE×TE)} (h:PPs X pos keys values trs) (hall:keys.all (·.isSome)=true) (hl:keys.length=values.length) (h0:keys≠[])
 (h15:keys.length<=15):PE X (.Dict keys values pos) (V1 trs):=by
 intro pins s σ H Q I q
 have hn:=I.hok.fresh (Nat.le_refl s.heap.objs.size)
 have I1:=I.laid (a:=s.heap.objs.size) (o:= .dK []) (h':=s.heap.push {cls:= .type "dict",data:= .dict #[]}) (t':=s.toks) (fun _ _ q=>Heap.get?_push_of_some _ q) (Nat.le_refl _) (Fv s.heap I.big)
 refine wpAny_Dict_walk (knd:=gf X.prog X.w) hall hl h0 h15 (thn (h pins _ σ _ _ I1 (q _ hn)) fun ws s2 ⟨ps,H2,I2,rel,e,kvs,ep,lk,q2⟩=> ?_)
 subst ep
 obtain⟨rs,c,rk⟩:=zT (P:=X.prog) (w:=X.w) rel
 obtain⟨z,hd,vs0,r0,dd⟩:=JV I2.hok e
 cases r0
 refine⟨rs,c,dd,fun h' dd' hs=>⟨.ref s.heap.objs.size,_, ?_,rfl,q2⟩⟩
 have hz:(vW [] kvs).length<=sizeLine:=by
  have h1:=vM kvs []
  rw[List.length_nil] at h1
  rw[sizeLine_eq];omega
 have he:∃q,h'.get? s.heap.objs.size=some q:=let ⟨q,_,_,hq,_⟩:=dd';⟨q,hq⟩
 exact DK I2 (by rw[e];exact True.intro) hs he (Ny hz hd (rk.merge .nil) dd')
structure M2 (X:Cx) (o:Expr) (m:Str) (apos:Pos) (e f:Expr) (cpos:Pos):Prop where
 base:attributeBase o m X.env (eval o X.env)=eval o X.env
 few:((backTo cpos (starEach [e,f] X.env)).all (fun x=> !x.1)&&(backToKw cpos (keywordEach [] X.env)).all (fun x=>x.1.isSome)
  &&decide (([e,f]:List Expr).length+([]:List Keyword).length+(if([]:List Keyword).isEmpty then 0 else 1)<30))=true
 line:(apos.endLine==cpos.line)=true
 trees:backTo cpos (starEach [e,f] X.env)=[(false,eval e X.env),(false,eval f X.env)]
def IsD (H:Hp) (a:Addr):Prop:=(∃kvs,Rd H a (.dK kvs))\/∃kvs,Rd H a (.dT kvs)
theorem Yl {X:Cx}{pins:List (Addr×Obj)}{σ:St}{H:Hp}{s:Shared}{a:Addr} (I:Inv X pins σ H s) (d:IsD H a):
 s.TypeIs (.ref a) "dict"/\(∀b,Value.ref a= .ref b->∃ob,s.heap.get? b=some ob/\ob.dict=none)/\(a==sysModules)=false:=by
 rcases d with⟨kvs,e⟩ | ⟨kvs,e⟩
 ·obtain⟨_,hd,vs,_,dd⟩:=Dd I.hok e
  refine⟨dd.typeIs,fun b q=> ?_,hd⟩
  cases q
  obtain⟨ob,_,_,h1,h2,_⟩:=dd
  exact⟨ob,h1,h2.2.1⟩
 ·obtain⟨_,hd,xs,_,dd⟩:=De I.hok e
  refine⟨dd.typeIs,fun b q=> ?_,hd⟩
  cases q
  obtain⟨ob,_,_,h1,h2,_⟩:=dd
  exact⟨ob,h1,h2.2.1⟩
section
variable {X:Cx}{pins:List (Addr×Obj)}{σ:St}{H:Hp}{s:Shared}{a:Addr}{y d:V}{u r:Value}{o:Option V}{A:Around}{E:Value->Shared->Prop}
end
section
variable {X:Cx}{o e f:Expr}{apos cpos:Pos}{td ty tx:TE}
end
section
variable {X:Cx}{pins:List (Addr×Obj)}{σ:St}{H:Hp}{s:Shared}{a:Addr}{kvs:List (Key×V)}{A:Around}{E:Value->Shared->Prop}
end
section
variable {X:Cx}{pins:List (Addr×Obj)}{σ:St}{H:Hp}{s:Shared}{a:Addr}{y:V}{u:Value}{A:Around}{E:Value->Shared->Prop}
end
end L2
namespace Att
open PySem PySem.W PySem.Calls PyProof.Rows
theorem zb {P:Params}{h:Heap}:∀(ns:List Int) (vs:List Value),WellAll P h vs (ns.map WData.int)->IntsAre vs ns:=by
 intro ns
 induction ns with
 | nil=>
   intro vs w
   rw[List.map_nil] at w
   cases w
   exact .nil
 | cons n ns ih=>
   intro vs w
   rw[List.map_cons] at w
   cases w with
   | cons a b=>
     cases a
     exact .cons _ _ (ih _ b)
theorem Lw {l:OpenLaw}{n:Nat} (hn:l.most=some n) {P:Params}{h:Heap}{args:List WData}{vals:List Value}
 (hpre:l.row.toRowW.claim.pre args=true) (hwl:WellAll P h vals args):
 ∃a vs ns,vals=[Value.ref a]/\args=[WData.list (ns.map WData.int)]/\h.get? a=some {cls:= .type "list",data:= .seq vs.toArray}/\IntsAre vs ns/\ns.length<=n:=by
 have hsh:WShape.hasAll [] args [.list .int]=true:=(pre_splitW hpre).1
 have hc:l.pre.holds [] {args:=args}=true:=(pre_splitW hpre).2
 obtain⟨d,r,rfl,h1,h2⟩:=hasAllW_cons hsh
 obtain rfl:=hasAllW_nil h2
 obtain⟨xs,rfl,h3⟩:=hasW_list h1
 obtain⟨ns,rfl⟩:=items_int h3
 have hlen:ns.length<=n:=by
  unfold OpenLaw.pre at hc
  have h4:(WTm.not (.lt (.lit (.int (n:Int))) (.len (.arg 0)))).holds [] {args:=[.list (ns.map .int)]}=true:=by
   have h4:=(holds_andW hc).1
   rw[hn] at h4
   exact h4
  have h5:=condW_of h4 (w_not (w_lt w_lit (w_len_list (w_arg rfl))))
  rw[List.length_map] at h5
  refine Nat.le_of_not_lt fun q=> ?_
  have q':(n:Int)<((ns.length:Nat):Int):=by omega
  first
   | (rw[decide_eq_true q'] at h5;exact absurd h5 (by decide))
   | (simp at h5;omega)
 cases hwl with
 | cons w1 w2=>
   cases w2
   cases w1 with
   | list ho hall=>exact⟨_,_,ns,rfl,rfl,ho,zb ns _ hall,hlen⟩
theorem Lx (l:OpenLaw) (args:List WData):l.row.toRowW.claim.post args (.bool true) args=true:=
 postW_of (r:=l.row.toRowW) (X:=(true==true))
  (show WShape.has [] (.bool true) .bool=true by first | rfl | decide | simp[WShape.has,WShape.arms,WShape.armsAll])
  (show(WTm.eq .res (.lit (.bool true))).value [] {args:=args,res:=some (.bool true),after:=args}=some (.bool (true==true)) from w_eq_bool (w_res rfl) w_lit) rfl
theorem Fw {l:OpenLaw}{n:Nat}{q:Program}{loose:List Str}{XP:(Str->Option Value)->Heap->Prop}{YP:World->Heap->Prop}{d:DefRec}
 (hn:l.most=some n) (hdf:d.params.defaults=[])
 (call:∀(w:World) (s₀ s₁:Shared) (mg mb:Str->Option Value) (fa:Addr) (o:Obj) (pm cd doc:Value) (a:Addr) (vs:List Value) (ns:List Int),
   Ground q loose [] XP w s₀ mg mb s₁.heap->YP w s₁.heap->
   s₁.heap.get? fa=some o->o.data= .func (docDef d.name d.params d.body d.scope pm cd doc)->s₁.heap.CodeRec cd d.name->mg d.name=some (.ref fa)->
   s₁.heap.get? a=some {cls:= .type "list",data:= .seq vs.toArray}->IntsAre vs ns->ns.length<=n->s₁.gens= #[]->
   codeAny (model l.prog w) callerA (.call (.ref fa) ⟨[.ref a],[]⟩) (fun r s'=>r= .ok (.ret (.bool true))/\OldK s₁.heap s'.heap/\s'.os=s₁.os/\AllBare s'.gens) s₁):
 WalkO q loose XP YP l.row.toRowW d [] (fun f vs=>PySem.call f vs):=by
 intro w s₀ s₁ mg mb G Y fa o pm cd doc dV kV ho hd hcd hD hmg hg args vals as hpre hlay hrd hwl hlo
 obtain rfl:dV= .none:=Dflts.none hD hdf
 obtain rfl:kV= .none:=Dflts.noKw hD
 obtain⟨a,vs,ns,rfl,rfl,hobj,hints,hlen⟩:=Lw hn hpre hwl
 refine enter_call (codeAny_mono (call w s₀ s₁ mg mb fa o pm cd doc a vs ns G Y ho (fd_plain hd) hcd hmg hobj hints hlen hg) fun r s' hq=> ?_)
 obtain⟨rfl,h2,h3,h4⟩:=hq
 exact⟨.inl ⟨.bool true, .bool true,[],rfl,fun _=>rfl, .bool true,Lx l _,fun _=>⟨List.Pairwise.nil,fun _ hm=>(nomatch hm)⟩⟩,h2,h3,h4⟩
section
variable {prog:Program}{w:World}{A:Around}{E:Value->Shared->Prop}{s:Shared}{K:Frag}
end
end Att
namespace L2
open PySem PySem.Spec PyProof.Rows
theorem Df:∀{vs:List Value}{ns:List Int},IntsAre vs ns->Vals (ns.map V.int) vs
 | _,_, .nil=> .nil
 | _,_, .cons n t h=> .cons ⟨t,rfl⟩ (Df h)
def Only (H:Hp):Prop:=∀b,H b=none\/∃o xs,H b=some (.frz o (.lst xs))
theorem NP {P:Program}{w:World}{K:PySem.W.Frag}{mg mb:Str->Option Value}{CX:CXT}{k:Nat}{fa a:Addr}{fd:FuncData}{x:Str}{sp:Sp}{s₁:Shared}{vs:List Value}{ns:List Int}
 (KX:K.In s₁.heap) (hns:s₁.heap.Ns mainGlobals mg) (hb:s₁.heap.Ns builtinsNs mb) (hbb:∀x:Str,x≠"__name__"->mb x=bootBuiltins x) (hlim:s₁.heap.NoLimit) (hg:s₁.gens= #[])
 (ha:s₁.heap.get? a=some {cls:= .type "list",data:= .seq vs.toArray}) (hi:IntsAre vs ns) (hl:ns.length<=sizeLine) (hr:iD k callerA)
 (F:∀base:Heap,K.In base->base.Ns mainGlobals mg->bI P w K mg base CX k fa fd [x] sp) (hbind:∀(s:Shared) (u:Value),BindsTo s fd ⟨[u],[]⟩ [(x,u)])
 (hsp:∀H:Hp,Only H->SqL K H a (ns.map V.int)->sp [.ref a] H (fun v _=>v= .bl true) fun _ _ _=>False)
 (hCX:∀H e s',CX [] H s₁ (fun _ _ _=>False) e s'->False):
 codeAny (model P w) callerA (.call (.ref fa) ⟨[.ref a],[]⟩) (fun r s'=>r= .ok (.ret (.bool true))/\OldK s₁.heap s'.heap/\s'.os=s₁.os/\AllBare s'.gens) s₁:=by
 have rv:=Df hi
 have lenV:=hi.length
 have core:∀H:Hp,Only H->SqL K H a (ns.map V.int)->HOk P w H s₁.heap->(∀b,H b≠none->b=a)->(H a≠none->K.lookup a=none)->
  codeAny (model P w) callerA (.call (.ref fa) ⟨[.ref a],[]⟩) (fun r s'=>r= .ok (.ret (.bool true))/\OldK s₁.heap s'.heap/\s'.os=s₁.os/\AllBare s'.gens) s₁:=by
  intro H hO hS hok hA hK
  have JX:∀{b:Addr}{o:Obj},s₁.heap.get? b=some o->H b=none->(Dt s₁.heap H).get? b=some o:=fun e n=>M4 e n
  have noA:∀{b:Addr}{o:Obj}{es:Array DictEntry}{ep:Nat},s₁.heap.get? b=some o->o.data= .dict es ep->H b=none:=fun{b o es ep} e d=>by
   cases q:H b with
   | none=>rfl
   | some u=>
     have e':b=a:=hA b (by rw[q];simp)
     subst e'
     rw[ha] at e;cases e
     have d':Data.seq vs.toArray _=Data.dict es ep:=d
     cases d'
  have nsK:∀{b:Addr}{m:Str->Option Value},s₁.heap.Ns b m->(Dt s₁.heap H).Ns b m:=fun{b m} ⟨o,es,ep,e,d,r⟩=>⟨o,es,ep,JX e (noA e d),d,r⟩
  have hKb:K.In (Dt s₁.heap H):=fun b o e=>JX (KX b o e) (by
   cases q:H b with
   | none=>rfl
   | some u=>
     have e':b=a:=hA b (by rw[q];simp)
     subst e'
     rw[hK (by rw[q];simp)] at e;cases e)
  have hM:Mod K mg (Dt s₁.heap H):=⟨hKb,nsK hns,⟨mb,nsK hb,hbb⟩,let ⟨mc,h1,h2⟩:=hlim;⟨mc,nsK h1,h2⟩⟩
  have e0:Ia P w K mg (Dt s₁.heap H) callerA [] s₁ H:=⟨rfl,hM,fun b o e=>RG e,Nat.le_of_eq (K6 _ _),trivial,fun b hb=>absurd (show b∈([]:List Addr) from hb) (by simp),hok, .of_eq hg⟩
  refine codeAny_mono ((F _ hKb (nsK hns)).run callerA [] s₁ H ⟨[.ref a],[]⟩ [.ref a] [.ref a] _ _ hr e0 (hbind s₁ (.ref a)) (.cons rfl .nil) (hsp H hO hS)) fun r s' h=> ?_
  cases r with
  | error e=>exact(hCX H e s' h).elim
  | ok fl=>
    cases fl with
    | next=>exact False.elim h
    | brk=>exact False.elim h
    | cont=>exact False.elim h
    | ret u=>
      obtain⟨v,H',os,bare,un,hok',r',q⟩:=h
      have q':v= .bl true:=q
      subst q'
      obtain rfl:u=Value.bool true:=r'
      refine⟨rfl,OldK.of_keep fun b o e=> ?_,os,bare⟩
      cases q:H b with
      | none=>exact un.keep b o e q (by intro z;exact absurd (show b∈([]:List Addr) from z) (by simp)) (by simp)
      | some u=>
        rcases hO b with z | ⟨ob,xs,z⟩
        ·rw[q] at z;cases z
        ·have z2:=un.frzs b ob _ z
         obtain⟨e1,_⟩:=hok b _ z
         obtain⟨e2,_⟩:=hok' b _ z2
         rw[e] at e1;cases e1
         exact e2
 cases hk:K.lookup a with
 | some o=>
   have e:=KX a o hk
   rw[ha] at e
   cases e
   refine core (fun _=>none) (fun _=> .inl rfl) (.inr ⟨_,vs.toArray,_,hk,rfl,rfl,rfl,by rw[List.size_toArray,lenV];exact hl,by simpa using rv⟩) (fun b u z=>by have z':(none:Option HO)=some u:=z;cases z') (fun b z=>absurd rfl z) fun z=>absurd rfl z
 | none=>
   refine core (fun b=>if b=a then some (.frz {cls:= .type "list",data:= .seq vs.toArray} (.lst (ns.map V.int))) else none) (fun b=> ?_) (.inl (.inr ⟨{cls:= .type "list",data:= .seq vs.toArray},if_pos rfl⟩)) (fun b u z=> ?_) (fun b z=> ?_) fun _=>hk
   ·by_cases hb:b=a
    ·exact .inr ⟨_,_,if_pos hb⟩
    ·exact .inl (if_neg hb)
   ·by_cases hb:b=a
    ·have z':=(if_pos hb).symm.trans z
     cases z'
     subst hb
     exact⟨ha,by rw[List.length_map];exact hl,vs,_,rv,ha⟩
    ·have z':=(if_neg hb).symm.trans z
     cases z'
   ·by_cases hb:b=a
    ·exact hb
    ·exact absurd (if_neg hb) z
end L2
namespace L2
open PySem PySem.Spec PyProof.Rows
theorem JZ {l:PySem.W.OpenLaw}{n k:Nat}{q:Program}{loose:List Str}{XP:(Str->Option Value)->Heap->Prop}{YP:World->Heap->Prop}{d:DefRec}{K:Params->PySem.W.Frag}{CX:World->CXT}{sp:World->Sp}{x:Str}
 (hn:l.most=some n) (hn2:n<=sizeLine) (hdf:d.params.defaults=[]) (hr:iD k callerA)
 (hY:∀(w:World) (h:Heap),YP w h->(K w.params).In h)
 (F:∀(w:World) (mg:Str->Option Value) (fa:Addr) (h:Heap),(K w.params).In h->h.Ns mainGlobals mg->mg d.name=some (.ref fa)->
   ∃fd:FuncData,(∀(s:Shared) (u:Value),BindsTo s fd ⟨[u],[]⟩ [(x,u)])/\
    ∀base:Heap,(K w.params).In base->base.Ns mainGlobals mg->bI l.prog w (K w.params) mg base (CX w) k fa fd [x] (sp w))
 (hsp:∀(w:World) (H:Hp) (a:Addr) (ns:List Int),ns.length<=n->Only H->SqL (K w.params) H a (ns.map V.int)->sp w [.ref a] H (fun v _=>v= .bl true) fun _ _ _=>False)
 (hCX:∀(w:World) (H:Hp) (s:Shared) (e:Value) (s':Shared),CX w [] H s (fun _ _ _=>False) e s'->False):
 PySem.W.WalkO q loose XP YP l.row.toRowW d [] (fun f vs=>PySem.call f vs):=by
 refine Att.Fw hn hdf fun w s₀ s₁ mg mb fa o pm cd doc a vs ns G Y ho hd hcd hmg hobj hints hlen hg=> ?_
 have KX:=hY w _ Y
 obtain⟨fd,hb,hF⟩:=F w mg fa _ KX G.T.g hmg
 exact NP KX G.T.g G.T.b G.T.builtins G.T.nolimit hg hobj hints (Nat.le_trans hlen hn2) hr hF hb (fun H hO hS=>hsp w H a ns hlen hO hS) fun H e s'=>hCX w H s₁ e s'
end L2
/- THE LAST THEOREM (shape;LID,My.* are yours):
   My.Adr:a structure of the addresses that your layer names (classes,functions);My.Txt K t:a structure (Prop) of the equations over K;
   My.Ym:{K}{implicit addresses ..} (e1:nsIn K mainGlobals "law"=some (some (.ref f))) (e2:K.lookup f=some ⟨oc,od, .func (fnOf "law" "law" params body scope dV kV doc pm an cdv ct),sl⟩) (e3:codeIn K cdv "law"=true) .. :∃t,My.Txt K t
theorem PySem.Challenge.cw_LID_holds : PySem.Challenge.rw_LID.Holds := by
 w_on;o_law;k_head;(case hw=>w_witness2)
 k_fill
 refine L2.JZ (l:=PySem.Challenge.Yn) (n:=63) (k:=40) (x:="script") (CX:=fun w=> ..) (sp:=fun _=>My.afy) rfl (by decide) rfl ⟨rfl,by decide,by decide⟩ (fun w h Y=>PySem.W.kIn_of Y) ?F ?S ?C
 case F=>
  intro w mg fa h KX G hmg
  have T:∃t,My.Txt (L2.KOf KX) t:=by
   dsimp only[L2.KOf] -- K must stand as «<heap const> w.params» for k_is
   refine' My.Ym ?e1 ?e2 ?e3 ..
   (case e1=>PySem.W.k_is) -- in the order:a name->its address->its object->its parts
   (case e2=>PySem.W.k_is)
   ..
  obtain⟨t,T⟩:=T
  have e0:=hmg.symm.trans (PySem.W.mg_of KX G T.law)
  cases e0 -- fa is the law's own address
  exact⟨_,fun s u=> .of_eq rfl,fun base kb nb=>My.Yo T kb nb⟩ -- if «.of_eq rfl» comes too early:refine' ⟨_, ?b,fun base kb nb=>My.Yo T kb nb⟩;exact fun s u=> .of_eq rfl
 case S=>exact fun w H a ns hl hO hS=> ..
 case C=>exact ..
(the tactic k_is has no namespace:write k_is) -/
namespace L2
open PySem PySem.Spec PyProof.Rows
def bK (s:Stmt):Arguments:=match s with
 | .FunctionDef _ a _ _ _ _ _ _ _ _=>a
 | _=>{posonlyargs:=[],args:=[],vararg:=none,kwonlyargs:=[],kw_defaults:=[],kwarg:=none,defaults:=[]}
def bx (s:Stmt):List Stmt:=match s with
 | .FunctionDef _ _ b _ _ _ _ _ _ _=>b
 | _=>[]
def aa (s:Stmt):Scope:=match s with
 | .FunctionDef _ _ _ _ _ _ sc _ _ _=>sc
 | _=>{kind:= .function,names:=[],isGenerator:=false,isCoroutine:=false}
abbrev CX0:CXT:=fun _ _ _ _ _ _=>False
abbrev E0:XK:=fun _ _ _=>False
theorem gA {X:Cx}:Passes CX0 X E0:=fun _ _ _ _ _ _ _ h=>h.elim
structure Fun (K:PySem.W.Frag) (x qual:Str) (st:Stmt) (f:Addr) (fd:FuncData):Prop where
 ex:∃(oc:Value) (od:Option Addr) (kV doc pm:Value) (an:Option Addr) (cdv ct:Value) (osl:Array (Option Value)),
  fd=PySem.W.fnOf x qual (bK st) (bx st) (aa st) .none kV doc pm an cdv ct/\K.lookup f=some ⟨oc,od, .func fd,osl⟩/\PySem.W.codeIn K cdv qual=true
 kp:PySem.W.keepIn K (.ref f)=true
section
variable {P:Program}{w:World}{K:PySem.W.Frag}{mg:Str->Option Value}{base:Heap}
theorem Fun.ok {x qual:Str}{st:Stmt}{f:Addr}{fd:FuncData}{N ps:List Str}{k:Nat}{sp:Sp} (F:Fun K x qual st f fd) (S:bM N ps (aa st)) (len:∀vs H Q E,sp vs H Q E->vs.length=ps.length)
 (hbody:∀(cdv:Value) (A:Around) (outer:List Env) (s:Shared) (H:Hp) (vs:List V) (Q:VK) (E:XK),iD k (A.deeper (envOfC qual (aa st) s.heap.objs.size f cdv))->sp vs H Q E->
   ∃t,PSs (iR CX0 P w K mg base N qual (aa st) f cdv A outer s H E).nox (bx st) t/\t {nx:=fun _ H'=>Q .non H',rt:=Q} (start N vs) H):bI P w K mg base CX0 (k+1) f fd ps sp:=by
 obtain⟨oc,od,kV,doc,pm,an,cdv,ct,osl,rfl,lk,hcd⟩:=F.ex
 refine VM lk hcd S len fun A outer s H vs Q E hr hsp=> ?_
 obtain⟨t,h,q⟩:=hbody cdv A outer s H vs Q E hr hsp
 exact⟨t,h.nox,q⟩
theorem iT {x qual:Str}{st:Stmt}{f:Addr}{oc:Value}{od an:Option Addr}{osl:Array (Option Value)}{kV doc pm cdv ct:Value} (l:K.lookup f=some ⟨oc,od, .func (PySem.W.fnOf x qual (bK st) (bx st) (aa st) .none kV doc pm an cdv ct),osl⟩)
 (c:PySem.W.codeIn K cdv qual=true) (k:PySem.W.keepIn K (.ref f)=true):Fun K x qual st f (PySem.W.fnOf x qual (bK st) (bx st) (aa st) .none kV doc pm an cdv ct):=⟨⟨oc,od,kV,doc,pm,an,cdv,ct,osl,rfl,l,c⟩,k⟩
end
theorem eF {A:Around}{k:Nat} (hr:iD k A):A.units+1<cLine:=Nat.lt_of_le_of_lt (Nat.add_le_add_left (by decide:1<=64) _) hr.units
theorem cC {n:Nat} (h:n<=1000):n<sizeLine:=Nat.lt_of_le_of_lt h (by decide)
section
variable {X:Cx}
end
theorem Yp {c A B:Prop} [Decidable c] (h1:c->A) (h2:¬c->B):if c then A else B:=by
 by_cases h:c
 ·rw[if_pos h]
  exact h1 h
 ·rw[if_neg h]
  exact h2 h
def aO (H H':Hp):Prop:=∀b o,H b=some o->H' b=some o
theorem aO.refl (H:Hp):aO H H:=fun _ _ h=>h
theorem aO.trans {H H1 H2:Hp} (a:aO H H1) (b:aO H1 H2):aO H H2:=fun c o h=>b c o (a c o h)
section
variable {κ:Type} [DecidableEq κ]
end
end L2
set_option maxRecDepth 100000
namespace L2
open PySem PySem.Spec PyProof.Rows
def ccl (sc:Scope) (env:Env):List (Str×Addr):=(sc.names.filterMap fun p=>if p.2== .free then(env.cells.lookup p.1).map fun c=>(p.1,c) else none).reverse
theorem tR {env:Env}:∀(l:List (Str×NameKind)) (acc:List (Str×Addr)),(∀p∈l,p.2= .free->∃c,env.cells.lookup p.1=some c)->
 (forIn l acc fun(x:Str×NameKind) r=>match x with | (name,kind)=>(if(kind==NameKind.free)=true then do let a <-cellOf env name;pure (ForInStep.yield ((name,a)::r)) else pure (ForInStep.yield r):Sem _))=
   pure ((l.filterMap fun p=>if p.2== .free then(env.cells.lookup p.1).map fun c=>(p.1,c) else none).reverse++acc)
 |[],acc,_=>rfl
 | (n,k)::r,acc,h=>by
   rw[List.forIn_cons]
   have hr:∀p∈r,p.2= .free->∃c,env.cells.lookup p.1=some c:=fun p hp=>h p (List.mem_cons_of_mem _ hp)
   by_cases hk:k= .free
   ·subst hk
    obtain⟨c,hc⟩:=h (n, .free) List.mem_cons_self rfl
    have e1:cellOf env n=pure c:=by unfold cellOf;rw[hc]
    simp only[beq_self_eq_true,if_true,e1,pure_bind]
    rw[tR r _ hr]
    simp[List.filterMap_cons,hc]
   ·have hb:(k==NameKind.free)=false:=by simpa using hk
    simp only[hb,Bool.false_eq_true,if_false,pure_bind]
    rw[tR r _ hr]
    simp[List.filterMap_cons,hk]
theorem Fx {sc:Scope}{env:Env} (h:∀p∈sc.names,p.2= .free->∃c,env.cells.lookup p.1=some c):closureFor sc env=pure (ccl sc env):=by
 unfold closureFor
 have q:=tR (env:=env) sc.names [] h
 rw[List.append_nil] at q
 unfold ccl
 rw[<-q,bind_pure]
theorem BP {f:Str->Option Addr}:∀(l:List (Str×NameKind)) (x:Str) (c:Addr),
 (l.filterMap fun p=>if p.2== .free then(f p.1).map fun c=>(p.1,c) else none).reverse.lookup x=some c->f x=some c:=by
 intro l x c h
 have hm:=PySem.mem_of_lookup h
 rw[List.mem_reverse,List.mem_filterMap] at hm
 obtain⟨p,_,e⟩:=hm
 split at e
 ·cases q:f p.1 with
  | none=>rw[q] at e;cases e
  | some d=>
    rw[q] at e
    simp only[Option.map_some,Option.some.injEq,Prod.mk.injEq] at e
    obtain⟨e1,e2⟩:=e
    rw[<-e1,q,e2]
 ·cases e
theorem mU {β:Type}:∀{l:List (Str×β)}{x:Str}{c:β},(x,c)∈l->∃d,l.lookup x=some d
 |[],_,_,h=>nomatch h
 | (n,d)::r,x,c,h=>by
   by_cases e:x=n
   ·subst e;exact⟨d,by simp[List.lookup_cons]⟩
   ·have hb:(x==n)=false:=by simpa using e
    rcases List.mem_cons.mp h with q | q
    ·cases q;exact absurd rfl e
    ·obtain⟨d',hd⟩:=mU q
     exact⟨d',by simp[List.lookup_cons,hb,hd]⟩
theorem qK {sc:Scope}{env:Env}{x:Str}{c:Addr} (h:(ccl sc env).lookup x=some c):env.cells.lookup x=some c:=BP (f:=fun n=>env.cells.lookup n) sc.names x c h
theorem J0 {sc:Scope}{env:Env}{x:Str}{c:Addr} (hx:(x,NameKind.free)∈sc.names) (hc:env.cells.lookup x=some c):(ccl sc env).lookup x=some c:=by
 have hm:(x,c)∈ccl sc env:=by
  unfold ccl
  rw[List.mem_reverse,List.mem_filterMap]
  exact⟨(x, .free),hx,by simp[hc]⟩
 obtain⟨d,hd⟩:=mU hm
 have:=qK hd
 rw[hc] at this
 rw[hd,this]
theorem oY {env:Env}:∀{names:List (Str×NameKind)}{x:Str}{k:NameKind},
 (names.map fun(n,k)=>if(k==NameKind.free&&env.scope.kind== .function&&env.kindOf n==some .cell) then(n,NameKind.cell) else(n,k)).lookup x=some k->
 names.lookup x=some k\/(k= .cell/\names.lookup x=some .free)
 |[],_,_,h=>by simp at h
 | (n,q)::r,x,k,h=>by
   have ih:=@oY env r x k
   rw[List.map_cons] at h
   cases hx:x==n with
   | true=>
     by_cases hc:(q==NameKind.free&&env.scope.kind== .function&&env.kindOf n==some .cell)=true
     ·simp only[hc,if_true,List.lookup_cons,hx,Option.some.injEq] at h
      have hq:q= .free:=by
       have:=(Bool.and_eq_true _ _▸(Bool.and_eq_true _ _▸hc).1).1
       simpa using this
      subst hq
      exact .inr ⟨h.symm,by simp[List.lookup_cons,hx]⟩
     ·simp only[hc,if_false,List.lookup_cons,hx,Option.some.injEq,Bool.false_eq_true] at h
      subst h
      exact .inl (by simp[List.lookup_cons,hx])
   | false=>
     have h':(r.map fun(n,k)=>if(k==NameKind.free&&env.scope.kind== .function&&env.kindOf n==some .cell) then(n,NameKind.cell) else(n,k)).lookup x=some k:=by
      by_cases hc:(q==NameKind.free&&env.scope.kind== .function&&env.kindOf n==some .cell)=true
      ·simpa only[hc,if_true,List.lookup_cons,hx] using h
      ·simpa only[hc,if_false,List.lookup_cons,hx,Bool.false_eq_true] using h
     rcases ih h' with z | ⟨z1,z2⟩
     ·exact .inl (by simp[List.lookup_cons,hx,z])
     ·exact .inr ⟨z1,by simp[List.lookup_cons,hx,z2]⟩
theorem qL {env:Env}:∀{names:List (Str×NameKind)}{x:Str},names.lookup x=some .free->
 (names.map fun(n,k)=>if(k==NameKind.free&&env.scope.kind== .function&&env.kindOf n==some .cell) then(n,NameKind.cell) else(n,k)).lookup x=some .cell\/
 (names.map fun(n,k)=>if(k==NameKind.free&&env.scope.kind== .function&&env.kindOf n==some .cell) then(n,NameKind.cell) else(n,k)).lookup x=some .free
 |[],_,h=>by simp at h
 | (n,q)::r,x,h=>by
   have ih:=@qL env r x
   rw[List.map_cons]
   cases hx:x==n with
   | true=>
     simp only[List.lookup_cons,hx,Option.some.injEq] at h
     subst h
     by_cases hc:(NameKind.free==NameKind.free&&env.scope.kind== .function&&env.kindOf n==some .cell)=true
     ·exact .inl (by simp only[hc,if_true,List.lookup_cons,hx])
     ·exact .inr (by simp only[hc,if_false,List.lookup_cons,hx,Bool.false_eq_true])
   | false=>
     simp only[List.lookup_cons,hx] at h
     by_cases hc:(q==NameKind.free&&env.scope.kind== .function&&env.kindOf n==some .cell)=true
     ·simpa only[hc,if_true,List.lookup_cons,hx] using ih h
     ·simpa only[hc,if_false,List.lookup_cons,hx,Bool.false_eq_true] using ih h
def iU (X:Cx) (N:List Str) (sc:Scope) (pins:List (Addr×Obj)) (C:Addr) (s₀:Shared) (H₀:Hp) (fp:List Addr):Cx:=
 {X with N:=N,s₀:=s₀,H₀:=H₀,env:=compEnvC sc (ccl sc X.env) C X.env,outer:=X.stack,ex:=fp,fn:=fun _=>false,pn:=X.pn++pins,xe:=fun _ _=>False}
structure yh (X:Cx) (n:Nat) (fr:List Nat) (N:List Str) (sc:Scope):Prop where
 kind:sc.kind= .function
 nocell:∀p∈sc.names,p.2≠ .cell
 own:∀p∈sc.names,p.2= .local->sc.names.lookup p.1=some .local
 out:∀p∈sc.names,p.2= .free->X.env.kindOf p.1=some .cell\/X.env.kindOf p.1=some .free
 len:N.length=n+fr.length
 free:∀i x,N[n+i]? =some x->(x,NameKind.free)∈sc.names/\sc.names.lookup x=some .free/\∃j,fr[i]? =some j/\X.N[j]? =some x
def CS0 (scX:Scope) (NX:List Str) (n:Nat) (fr:List Nat) (N:List Str) (sc:Scope):Prop:=
 sc.kind= .function/\(∀p∈sc.names,p.2≠ .cell)/\(∀p∈sc.names,p.2= .local->sc.names.lookup p.1=some .local)/\
 (∀p∈sc.names,p.2= .free->scX.names.lookup p.1=some .cell\/scX.names.lookup p.1=some .free)/\N.length=n+fr.length/\
 (∀x∈N.drop n,(x,NameKind.free)∈sc.names/\sc.names.lookup x=some .free)/\(N.drop n).map some=fr.map fun j=>NX[j]?
instance {scX:Scope}{NX:List Str}{n:Nat}{fr:List Nat}{N:List Str}{sc:Scope}:Decidable (CS0 scX NX n fr N sc):=by unfold CS0;exact inferInstance
theorem V2 {X:Cx}{scX:Scope}{NX:List Str}{n:Nat}{fr:List Nat}{N:List Str}{sc:Scope} (h1:X.env.scope=scX) (h2:X.N=NX) (h:CS0 scX NX n fr N sc):yh X n fr N sc:=by
 obtain⟨a,b,c,d,e,f,g⟩:=h
 refine⟨a,b,c,fun p hp z=> ?_,e,fun i x hx=> ?_⟩
 ·have q:=d p hp z
  rw[<-h1] at q
  exact q
 ·have hd:(N.drop n)[i]? =some x:=by rw[List.getElem?_drop];exact hx
  obtain⟨f1,f2⟩:=f x (List.mem_of_getElem? hd)
  refine⟨f1,f2, ?_⟩
  have q:((N.drop n).map some)[i]? =some (some x):=by rw[List.getElem?_map,hd];rfl
  rw[g,List.getElem?_map] at q
  cases z:fr[i]? with
  | none=>rw[z] at q;cases q
  | some j=>
    rw[z] at q
    refine⟨j,rfl, ?_⟩
    rw[h2]
    exact Option.some.inj q
def cst (n:Nat) (fr:List Nat) (σ:St):St:=List.replicate n none++fr.map fun j=>(σ[j]?).getD none
theorem Ih {X:Cx}{n:Nat}{fr:List Nat}{N:List Str}{sc:Scope} (S:yh X n fr N sc) (ok:X.Ok):closureFor sc X.env=pure (ccl sc X.env):=
 Fx fun p hp e=>ok.has p.1 (S.out p hp e)
section
variable {X:Cx}{n:Nat}{fr:List Nat}{N:List Str}{sc:Scope}{pins:List (Addr×Obj)}{σ:St}{H:Hp}{s:Shared}{fp:List Addr}{h₁:Heap}{tk:Nat}
theorem Ii (S:yh X n fr N sc) (I:Inv X pins σ H s) (hf:∀b∈fp,yf X pins H b) (hlt:∀b∈fp,b<s.heap.objs.size)
 (hn:h₁.Ns s.heap.objs.size (fun _=>none)) (hk:∀b o,s.heap.get? b=some o->h₁.get? b=some o):
 Inv (iU X N sc pins s.heap.objs.size s H fp) [] (cst n fr σ) H {s with heap:=h₁,toks:=tk}:=by
 have hsub:∀b∈frs X.stack,b∈X.env.locals::X.fs:=I.Du
 refine⟨⟨I.ok.mod, ?_,I.ok.glob,I.ok.blt,Nat.le_refl _,fun x y c h1 h2=> ?_,fun x hx=> ?_,fun x c z=>(by cases z),I.ok.hd,I.ok.frames, .inl rfl,fun b hb=>⟨?_,fun x c e=> ?_⟩,fun b o e=>I.bs b o e,Nat.le_trans I.ok.bsz I.sz,fun b o e hb=> ?_,fun b hb hz=> ?_,I.stack,I.Dv⟩,
  rfl,I.bare,Un.kept hk,⟨_,hn,fun i x v e1 e2 e3=> ?_⟩,fun x c e=> ?_,I.hok.fresh (Nat.le_refl _),fun x c e=> ?_,fun p hp=> ?_,I.hok.kept hk, ?_⟩
 ·exact S.kind
 ·exact I.ok.inj x y c (qK h1) (qK h2)
 ·have hx':(relabel sc X.env).names.lookup x=some .cell\/(relabel sc X.env).names.lookup x=some .free:=hx
  have fr':sc.names.lookup x=some .free:=by
   rcases hx' with z | z
   ·rcases oY z with q | ⟨_,q⟩
    ·exact absurd rfl (S.nocell _ (PySem.mem_of_lookup q))
    ·exact q
   ·rcases oY z with q | ⟨q,_⟩
    ·exact q
    ·cases q
  obtain⟨c,hc⟩:=I.ok.has x (S.out _ (PySem.mem_of_lookup fr') rfl)
  exact⟨c,J0 (PySem.mem_of_lookup fr') hc⟩
 ·exact Nat.ne_of_lt (hlt b hb)
 ·exact(hf b hb).2.2.2.2.1 x c (qK e)
 ·rcases(hf b hb).2.2.2.1 with z | z
  ·exact I.ok.noex b o e z
  ·exact absurd (Nat.lt_of_lt_of_le (Heap.lt_size e) (Nat.le_trans I.ok.bsz z)) (Nat.lt_irrefl _)
 ·rcases List.mem_cons.mp (hsub b hz) with z | z
  ·exact(hf b hb).2.1 z
  ·exact(hf b hb).2.2.1 z
 ·have e1':N[i]? =some x:=e1
  have hi:n<=i:=by
   apply Nat.le_of_not_lt
   intro hlt
   unfold cst at e2
   rw[List.getElem?_append_left (by simpa using hlt),List.getElem?_replicate] at e2
   split at e2<;>cases e2
  obtain⟨j,rfl⟩:∃j,i=n+j:=⟨i - n,by omega⟩
  obtain⟨hm,hl,q,hq,hX⟩:=S.free j x e1'
  have e2':(σ[q]?).getD none=some v:=by
   unfold cst at e2
   rw[List.getElem?_append_right (by simp)] at e2
   simp only[List.length_replicate,Nat.add_sub_cancel_left,List.getElem?_map,hq,Option.map_some,Option.some.injEq] at e2
   exact e2
  have hσ:σ[q]? =some (some v):=by
   cases z:σ[q]? with
   | none=>rw[z] at e2';cases e2'
   | some w=>rw[z] at e2';simp only[Option.getD_some] at e2';rw[e2']
  have ko:=S.out _ hm rfl
  have hv:Vis X.env.scope x:=by
   rcases ko with z | z
   ·exact .inr (.inl z)
   ·exact .inr (.inr z)
  obtain⟨m,_,hloc⟩:=I.loc
  obtain⟨u,r,l⟩:=hloc q x v hX hσ hv
  refine⟨u,r, .inr ⟨?_, ?_⟩⟩
  ·exact qL hl
  ·rcases l with⟨k,_⟩ | ⟨_,c,hc,hcell⟩
   ·rcases ko with z | z<;>(rw[k] at z;cases z)
   ·refine⟨c,J0 hm hc, ?_⟩
    obtain⟨o,ho,hd⟩:=hcell
    exact⟨o,hk c o ho,hd⟩
 ·obtain⟨v,o,ho,hd⟩:=I.cell x c (qK e)
  exact⟨v,o,hk c o ho,hd⟩
 ·exact I.lO x c (qK e)
 ·have hp':p∈X.pn++pins:=by
   have z:p∈(X.pn++pins)++[]:=hp
   rwa [List.append_nil] at z
  obtain⟨e,hn',ne,nf,d⟩:=I.pin p hp'
  refine⟨hk p.1 p.2 e,hn',Nat.ne_of_lt (Heap.lt_size e),fun hz=> ?_,d⟩
  rcases List.mem_cons.mp (hsub p.1 hz) with z | z
  ·exact ne z
  ·exact nf z
 ·show(cst n fr σ).length=N.length
  unfold cst
  rw[List.length_append,List.length_replicate,List.length_map,S.len]
theorem comp_back {C:Addr}{σ':St}{H':Hp}{s':Shared}{pins':List (Addr×Obj)} (I:Inv X pins σ H s) (hf:∀b∈fp,yf X pins H b) (J:Inv (iU X N sc pins C s H fp) pins' σ' H' s'):Inv X pins σ H' s':=
 I.call' (ch:=fp) J.os J.base J.hok J.bare fun b hb=>⟨(hf b hb).2.2.2.1,(hf b hb).2.1,(hf b hb).2.2.2.2.1,(hf b hb).2.2.2.2.2⟩
end
def NQ (X:Cx) (ifs:List Expr) (t:TT):Prop:=
 ∀(pins:List (Addr×Obj)) (s:Shared) (σ:St) (H:Hp) (Q:Bool->Hp->Prop),Inv X pins σ H s->t σ H Q->
  wpAny (model X.prog X.w) X.A (forIn ifs true fun c r=>if r=true then do let ok <-isTrue c X.env (eval c X.env);pure (ForInStep.yield ok) else pure (ForInStep.yield r)) (TP X pins σ Q) X.xe s
def V3:TT:=fun _ H Q=>Q true H
theorem NT {X:Cx}:NQ X [] V3:=fun _ _ _ H _ I h=>wpAny_pure ⟨H,I,h⟩
theorem NZ {X:Cx}{c:Expr}{t:TT} (hc:PT X c t):NQ X [c] t:=by
 intro pins s σ H Q I h
 rw[List.forIn_cons]
 refine wpAny_bind ?_
 rw[if_pos rfl]
 refine wpAny_bind (thn (hc pins s σ H Q I h) fun b s1 q=>wpAny_pure ?_)
 exact wpAny_pure q
def J1 (J:It) (g:TG) (tc:TT) (te:TE) (D:Addr) (σ:St) (H:Hp) (Q:VK):Prop:=
 ∃W:Nat->Nat->St->Hp->Prop,(∃m,W 0 m σ H)/\∀i m σ' H',W i m σ' H'->
  (J.stop i H'/\Q (.ref D) H')\/(J.go i H'/\∃N:St->Hp->Prop,(∀σ3 H3,N σ3 H3->∃m',m'<m/\W (i+1) m' σ3 H3)/\∀x H2,J.yld i H' x H2->g x σ' H2 fun σ3 H3=>tc σ3 H3 fun b H4=>
    if b=true then te σ3 H4 fun y H5=>∃ys,H5 D=some (.lst ys)/\ys.length<sizeLine/\N σ3 (upd H5 D (.lst (ys++[y])))
    else N σ3 H4)
def V4 (wi:TI) (n:Nat) (fr:List Nat) (g:TG) (tc:TT) (te:TE):TE:=fun σ H Q=>wi σ H fun J H1=>∀D,H1 D=none->J1 J g tc te D (cst n fr σ) (upd H1 D (.lst [])) Q
section
variable {X:Cx}{n:Nat}{fr:List Nat}{N:List Str}{sc:Scope}{elt tg iter:Expr}{ifs:List Expr}{pos:Pos}{wi:TI}{g:TG}{tc:TT}{te:TE}
theorem N6 {pins:List (Addr×Obj)}{σ:St}{H:Hp}{s:Shared}{fp:List Addr}{it:Addr}{tn:Nat->Heap->Prop}{J:It}{Q:VK}{E:Value->Shared->Prop}{RR:Value->Addr->Result->Shared->Prop}
 (hc:X.calm=true) (S:yh X n fr N sc)
 (hg:∀C s₀ H₀ fp,PG (iU X N sc pins C s₀ H₀ fp) tg g) (hi:∀C s₀ H₀ fp,NQ (iU X N sc pins C s₀ H₀ fp) ifs tc) (he:∀C s₀ H₀ fp,PE (iU X N sc pins C s₀ H₀ fp) elt te)
 (I:Inv X pins σ H s) (T:Turn X.prog X.w X.K tg J fp it tn) (st:tn 0 s.heap) (hf:∀b∈fp,yf X pins H b)
 (h:∀D,H D=none->J1 J g tc te D (cst n fr σ) (upd H D (.lst [])) Q)
 (hR:∀D C H' s',Inv X pins σ H' s'->yf X pins H' C->(∃m,s'.heap.Ns C m)->Q (.ref D) H'->RR (.ref D) C (.ok .next) s'):
 wpAny (model X.prog X.w) X.A (newList []) (fun acc s₃=>wpAny (model X.prog X.w) X.A (newFunctionEnv sc X.env.globals (ccl sc X.env) [] X.env.qual none .none (some X.env)) (fun cenv s₄=>
  codeAny (model X.prog X.w) X.A (.compStart (.ListComp elt [⟨tg,iter,ifs,0⟩] sc pos) 0 (.ref it) acc {cenv with scope:=relabel sc X.env}) (RR acc cenv.locals) s₄) E s₃) E s:=by
 have hfree:H s.heap.objs.size=none:=I.hok.fresh (Nat.le_refl _)
 have hltf:∀b∈fp,b<s.heap.objs.size:=fun b hb=>by
  obtain⟨o,e,_⟩:=T.obj 0 s.heap st b hb
  exact Heap.lt_size e
 obtain⟨W,⟨m0,w0⟩,turn⟩:=h s.heap.objs.size hfree
 refine wpAny_newObj_type (wpAny_newFunctionEnv S.nocell (by intro y hy;simp at hy) (fun h₁ hns₁ hsb₁=> ?_) S.kind)
 dsimp only at hns₁ hsb₁ ⊢
 have I3:Inv X pins σ (upd H s.heap.objs.size (.lst [])) {s with heap:=s.heap.push {cls:= .type "list",dict:=none,data:= .seq ([]:List Value).toArray}}:=
  I.laid (t':=s.toks) (fun b u e=>Heap.get?_push_of_some _ e) (Nat.le_refl _) ⟨Nat.zero_le _,[],0, .nil,Heap.get?_push_size _ rfl⟩
 have hf3:∀b∈fp,yf X pins (upd H s.heap.objs.size (.lst [])) b:=fun b hb=>⟨by rw[ao (Nat.ne_of_lt (hltf b hb))];exact(hf b hb).1,(hf b hb).2⟩
 generalize hs3:({s with heap:=s.heap.push {cls:= .type "list",dict:=none,data:= .seq ([]:List Value).toArray}}:Shared)=s3 at *
 have e3:s3.heap=s.heap.push {cls:= .type "list",dict:=none,data:= .seq ([]:List Value).toArray}:=by rw[<-hs3]
 have et:s3.toks=s.toks:=by rw[<-hs3]
 have abY:∀b∈fp,b<s3.heap.objs.size:=fun b hb=>by rw[e3,Heap.size_push];exact Nat.lt_succ_of_lt (hltf b hb)
 have hk3:∀b o,s3.heap.get? b=some o->h₁.get? b=some o:=fun b o e=>hsb₁.extBut b o (by rw[<-e3];exact Nat.ne_of_lt (Heap.lt_size e)) (by rw[<-e3];exact Heap.get?_push_of_some _ e)
 have afz:h₁.Ns s3.heap.objs.size (fun _=>none):=by rw[e3];exact hns₁
 have I4:=Ii (tk:=s.toks+([]:List (Str×Value)).length) S I3 hf3 abY afz hk3
 have hDk:∀b o,s.heap.get? b=some o->h₁.get? b=some o:=fun b o e=>hk3 b o (by rw[e3];exact Heap.get?_push_of_some _ e)
 have st4:tn 0 h₁:=T.keep 0 s.heap h₁ st fun b hb o e=>hDk b o e
 have hfX:∀{H':Hp},(∀b∈fp,H' b=none)->∀b∈fp,yf (iU X N sc pins s3.heap.objs.size s3 (upd H s.heap.objs.size (.lst [])) fp) [] H' b:=fun{H'} hn b hb=>by
  refine⟨hn b hb,Nat.ne_of_lt (abY b hb),fun z=> ?_, .inl hb,fun x c e=>(hf3 b hb).2.2.2.2.1 x c (qK e),fun p hp=> ?_⟩
  ·rcases List.mem_cons.mp (I3.Du b z) with q | q
   ·exact(hf3 b hb).2.1 q
   ·exact(hf3 b hb).2.2.1 q
  ·have hp':p∈(X.pn++pins)++[]:=hp
   rw[List.append_nil] at hp'
   exact(hf3 b hb).2.2.2.2.2 p hp'
 have loop:∀s₄:Shared,s₄={s3 with heap:=h₁,toks:=s.toks+([]:List (Str×Value)).length}->
  codeAny (model X.prog X.w) X.A (.compLoop (.ListComp elt [⟨tg,iter,ifs,0⟩] sc pos) 0 (.ref it) (.ref s.heap.objs.size) (compEnvC sc (ccl sc X.env) s3.heap.objs.size X.env)) (RR (.ref s.heap.objs.size) s3.heap.objs.size) s₄:=by
  rintro s₄ rfl
  refine codeAny_loop rfl (fun k s'=>∃i σ' H',Inv (iU X N sc pins s3.heap.objs.size s3 (upd H s.heap.objs.size (.lst [])) fp) [] σ' H' s'/\tn i s'.heap/\(∀b∈fp,H' b=none)/\W i k σ' H') ?_ m0
   ⟨0,_,_,I4,st4,fun b hb=>(hf3 b hb).1,w0⟩
  rintro k s5 ⟨i,σ5,H5,I5,st5,fr5,w5⟩
  show wpAny _ X.A ((compTurn (.ListComp elt [⟨tg,iter,ifs,0⟩] sc pos) 0 (.ref it) (.ref s.heap.objs.size) (compEnvC sc (ccl sc X.env) s3.heap.objs.size X.env)).onRaise (fun x=>do noteFrame x (compEnvC sc (ccl sc X.env) s3.heap.objs.size X.env);theTreesLotGoes x)) _ _ s5
  refine wpAny_noted ?_
  rw[compTurn_list]
  refine wpAny_bind (wpAny_standAt (wpAny_bind ?_))
  have nev:∀{α:Type}{t:Sem α}{Q₁:α->Shared->Prop}{E₁:Value->Shared->Prop}{s₁:Shared},wpAny (model X.prog X.w) X.A t Q₁ (fun _ _=>False) s₁->wpAny (model X.prog X.w) X.A t Q₁ E₁ s₁:=fun h=>wpAny_noRaise h
  rcases turn i k σ5 H5 w5 with⟨stop,qn⟩ | ⟨go,Nn,hN,step⟩
  ·refine nev (thn (T.done (iU X N sc pins s3.heap.objs.size s3 (upd H s.heap.objs.size (.lst [])) fp) rfl rfl rfl hc i [] s5 σ5 H5 (fun _ _=>False) I5 (hfX fr5) st5 stop) fun r s6 ⟨hr,I6⟩=> ?_)
   subst hr
   have B:Inv X pins σ H5 s6:=comp_back I3 hf3 I6
   refine wpAny_pure (hR _ _ H5 s6 B (I3.HJ (Nat.le_refl _) I6.free) ?_ qn)
   obtain⟨m,hm,_⟩:=I6.loc
   exact⟨m,hm⟩
  ·refine nev (thn (T.item (iU X N sc pins s3.heap.objs.size s3 (upd H s.heap.objs.size (.lst [])) fp) rfl rfl rfl hc i [] s5 σ5 H5 (fun _ _=>False) I5 (hfX fr5) st5 go) fun r s6 ⟨u,hr,h6⟩=> ?_)
   subst hr
   refine wpAny_bind (nev (thn h6 fun _ s7 ⟨x,H7,I7,r7,y7,st7,fr7⟩=> ?_))
   have I7':=I7.pinned (hfX fr7) (T.obj _ _ st7)
   refine wpAny_bind (nev (thn (hg _ _ _ _ _ s7 σ5 H7 x u _ I7' r7 (step x H7 y7)) fun _ s8 ⟨σ8,H8,I8,q8⟩=> ?_))
   refine wpAny_bind (nev (thn (hi _ _ _ _ _ s8 σ8 H8 _ I8 q8) fun b s9 ⟨H9,I9,q9⟩=> ?_))
   have fin:∀{s10:Shared}{H10:Hp}{m':Nat},m'<k->Inv (iU X N sc pins s3.heap.objs.size s3 (upd H s.heap.objs.size (.lst [])) fp) ([]++zM fp s7.heap) σ8 H10 s10->W (i+1) m' σ8 H10->
    ∃m,m<k/\∃i σ' H',Inv (iU X N sc pins s3.heap.objs.size s3 (upd H s.heap.objs.size (.lst [])) fp) [] σ' H' s10/\tn i s10.heap/\(∀b∈fp,H' b=none)/\W i m σ' H':=fun{s10 H10 m'} hm I10 w10=>by
    refine⟨m',hm,i+1,σ8,H10,I10.unpinned,T.keep _ _ _ st7 fun b hb o e=>(I10.pin (b,o) (List.mem_append_right _ (List.mem_append_right _ (qJ hb e)))).1,fun b hb=> ?_,w10⟩
    obtain⟨o,e,d⟩:=T.obj _ _ st7 b hb
    exact(I10.pin (b,o) (List.mem_append_right _ (List.mem_append_right _ (qJ hb e)))).2.1
   cases b with
   | false=>
     rw[if_neg Bool.false_ne_true] at q9
     obtain⟨m',hm,w9⟩:=hN _ _ q9
     exact wpAny_pure ⟨rfl,fin hm I9 w9⟩
   | true=>
     rw[if_pos rfl] at q9
     refine wpAny_bind (wpAny_bind (nev (thn (he _ _ _ _ _ s9 σ8 H9 _ I9 q9) fun v s10 ⟨y,H10,I10,r10,q10⟩=> ?_)))
     obtain⟨ys,hy,hz,n10⟩:=q10
     obtain⟨m',hm,w10⟩:=hN _ _ n10
     refine wpAny_bind (nev (thn (CV _ s10 σ8 H10 (.ref s.heap.objs.size) [y] (.ref s.heap.objs.size) [v] (fun z H'=>H'=upd H10 s.heap.objs.size (.lst (ys++[y]))) I10 rfl (.cons r10 .nil) ⟨_,ys,y,rfl,rfl,hy,hz,rfl⟩) fun z s11 ⟨_,H11,I11,_,e11⟩=> ?_))
     subst e11
     exact wpAny_pure (wpAny_pure ⟨rfl,fin hm I11 w10⟩)
 subst hs3
 exact codeAny_compStart_list (loop _ rfl) (T.self _ 0 _ _ _ st4 (loop _ rfl))
theorem S8 (hc:X.calm=true) (S:yh X n fr N sc) (hit:PI X tg iter wi)
 (hg:∀pins C s₀ H₀ fp,PG (iU X N sc pins C s₀ H₀ fp) tg g) (hi:∀pins C s₀ H₀ fp,NQ (iU X N sc pins C s₀ H₀ fp) ifs tc) (he:∀pins C s₀ H₀ fp,PE (iU X N sc pins C s₀ H₀ fp) elt te)
 (hs:∀x,foldedSetIterable iter X.env x=pure x:=by intro _;rfl):PE X (.ListComp elt [⟨tg,iter,ifs,0⟩] sc pos) (V4 wi n fr g tc te):=by
 intro pins s σ H Q I h
 rw[eval_ListComp]
 refine wpAny_comprehension_free (use:=none) rfl hs (Ih S I.ok) S.kind S.own ?_
 refine thn (hit pins s σ H _ I h) fun v s1 h1=>thn h1 fun itv s2 h2=> ?_
 obtain⟨it,fp,tn,J,H2,e,I2,T,st2,f2,q2⟩:=h2
 subst e
 refine N6 (RR:=fun acc C=>compPost (model X.prog X.w) X.A X.xe none (EP X pins σ Q) acc C) hc S (hg pins) (hi pins) (he pins) I2 T st2 f2 q2 fun D C H' s' I' fC hm q=> ?_
 obtain⟨m,hm⟩:=hm
 refine⟨m,hm,fun h' hs'=>⟨.ref D,H',I'.turned (t':=s'.toks) (fun b o hb e=>(hs'.2 b hb).trans e) fC.1 fC.2.1 fC.2.2.2.1 fC.2.2.2.2.1 fC.2.2.2.2.2,rfl,q⟩⟩
end
theorem Ly {K:PySem.W.Frag}{a:Addr}{xs:List V}{g:TG}{tc:TT}{te:TE}{σ:St}{H:Hp}{D:Addr}{Q:VK} (Pv:Nat->St->Hp->Prop) (h0:Pv 0 σ (upd H D (.lst []))) (hl:∀i σ H,i<=xs.length->Pv i σ H->SqL K H a xs)
 (hs:∀i x σ' H',xs[i]? =some x->Pv i σ' H'->g x σ' H' fun σ3 H3=>tc σ3 H3 fun b H4=>
   if b=true then te σ3 H4 fun y H5=>∃ys,H5 D=some (.lst ys)/\ys.length<sizeLine/\Pv (i+1) σ3 (upd H5 D (.lst (ys++[y]))) else Pv (i+1) σ3 H4) (hd:∀σ' H',Pv xs.length σ' H'->Q (.ref D) H'):
 J1 (Itl K a) g tc te D σ (upd H D (.lst [])) Q:=by
 refine⟨fun i m σ H=>m=xs.length - i/\i<=xs.length/\Pv i σ H,⟨xs.length,by simp,Nat.zero_le _,h0⟩, ?_⟩
 rintro i m σ H ⟨rfl,hi,p⟩
 have q:=hl i σ H hi p
 by_cases hlt:i<xs.length
 ·refine .inr ⟨⟨xs,xs[i],q,by simp[hlt]⟩,Pv (i+1),fun σ' H' p'=>⟨xs.length - (i+1),by omega,rfl,hlt,p'⟩,fun x H' y=> ?_⟩
  obtain⟨e,y⟩:=y
  subst e
  exact hs i x σ _ (y xs q) p
 ·have e:i=xs.length:=by omega
  subst e
  exact .inl ⟨⟨xs,q,Nat.le_refl _⟩,hd σ H p⟩
end L2
namespace L2
open PySem PySem.Spec PyProof.Rows
def aF (sc:Scope) (x:Str):Prop:=Vis sc x/\(x==("__debug__":Str))=false/\(x==("__classdict__":Str))=false
instance {sc:Scope}{x:Str}:Decidable (aF sc x):=by unfold aF Vis;exact inferInstance
instance {sc:Scope}{x:Str}:Decidable (Loc sc x):=by unfold Loc;exact inferInstance
theorem pvx {X:Cx} (i:Nat) {x:Str}{pos:Pos} (v:aF X.env.scope x) (hN:X.N[i]? =some x:=by rfl):PE X (.Name x pos) (Xj i):=Xk hN v.1 v.2.1 v.2.2
def BR (sc:Scope) (x:Str):Prop:=(sc.names.lookup x=some .local\/sc.names.lookup x=some .free)/\(x==("__debug__":Str))=false/\(x==("__classdict__":Str))=false
instance {sc:Scope}{x:Str}:Decidable (BR sc x):=by unfold BR;exact inferInstance
theorem BR.ok {sc:Scope}{env:Env}{x:Str} (h:BR sc x):aF (relabel sc env) x:=by
 obtain⟨h1,h2⟩:=h
 refine⟨?_,h2⟩
 rcases h1 with h1 | h1
 ·exact .inl (lookup_relabel_local h1)
 ·rcases qL (env:=env) h1 with z | z
  ·exact .inr (.inl z)
  ·exact .inr (.inr z)
theorem w6 {env:Env}:∀{names:List (Str×NameKind)}{x:Str},names.lookup x=some .globalImplicit->
 (names.map fun(n,k)=>if(k==NameKind.free&&env.scope.kind== .function&&env.kindOf n==some .cell) then(n,NameKind.cell) else(n,k)).lookup x=some .globalImplicit
 |[],_,h=>by simp at h
 | (n,q)::r,x,h=>by
   have ih:=@w6 env r x
   rw[List.map_cons]
   cases hx:x==n with
   | true=>
     simp only[List.lookup_cons,hx,Option.some.injEq] at h
     subst h
     simp[List.lookup_cons,hx]
   | false=>
     simp only[List.lookup_cons,hx] at h
     by_cases hc:(q==NameKind.free&&env.scope.kind== .function&&env.kindOf n==some .cell)=true
     ·simpa only[hc,if_true,List.lookup_cons,hx] using ih h
     ·simpa only[hc,if_false,List.lookup_cons,hx,Bool.false_eq_true] using ih h
theorem glC {X:Cx}{N:List Str}{sc:Scope}{pins:List (Addr×Obj)}{C:Addr}{s₀:Shared}{H₀:Hp}{fp:List Addr}{x:Str} (h:sc.names.lookup x=some .globalImplicit):Gl (iU X N sc pins C s₀ H₀ fp) x:=w6 h
theorem pgx {X:Cx}{i:Nat}{x:Str}{pos:Pos} (hN:X.N.Nodup) (hx:X.env.scope.names.lookup x=some .local) (hi:X.N[i]? =some x:=by rfl):PG X (.Name x pos) (Cz i):=JG hN hi (.inl hx) (.inr hx)
theorem Yq {sc:Scope}{env:Env}{x:Str} (h:sc.names.lookup x=some .local):(relabel sc env).names.lookup x=some .local:=lookup_relabel_local h
end L2
set_option maxRecDepth 100000
namespace L2
open PySem PySem.Spec PyProof.Rows
def V5 (_ j:Int):Prop:=0<j/\j.natAbs.log2<9000
theorem N7 {X:Cx}:OpR X (binaryOp .FloorDiv) (rI V5 fun i j=> .int (i / j)):=opI fun i j _ _ _ _ _ hc q=>by
 have h1:(0:Int)<j:=hc.1
 exact floordiv_int (by omega) (by rw[Int.fdiv_eq_ediv_of_nonneg i (by omega)];exact q) (.inl (PyProof.noPylong_of_log2 hc.2))
mutual
inductive vD (K:PySem.W.Frag) (H:Hp):V->PyData->Prop where
 | non:vD K H .non .none
 | bl (b:Bool):vD K H (.bl b) (.bool b)
 | int (i:Int):vD K H (.int i) (.int i)
 | str (x:Str):vD K H (.str x) (.str x)
 | lst {a:Addr}{xs:List V}{ds:List PyData} (h:SqL K H a xs) (r:tU K H xs ds):vD K H (.ref a) (.list ds)
 | tup {a:Addr}{xs:List V}{ds:List PyData} (h:SqT K H a xs) (r:tU K H xs ds):vD K H (.ref a) (.tuple ds)
inductive tU (K:PySem.W.Frag) (H:Hp):List V->List PyData->Prop where
 | nil:tU K H [] []
 | cons {x:V}{d:PyData}{xs:List V}{ds:List PyData} (h:vD K H x d) (r:tU K H xs ds):tU K H (x::xs) (d::ds)
end
theorem vX {K:PySem.W.Frag}{H:Hp}:∀ns:List Str,tU K H (ns.map V.str) (ns.map PyData.str)
 |[]=> .nil
 | n::r=> .cons (.str n) (vX r)
section
variable {X:Cx}{pins:List (Addr×Obj)}{σ:St}{H:Hp}{s:Shared}
mutual
theorem vD.reads (I:Inv X pins σ H s):∀{x:V}{d:PyData}{u:Value},vD X.K H x d->RelV x u->∃as,Reads s.heap u d as
 | _,_,_, .non,r=>by cases(show _=Value.none from r);exact⟨_, .none⟩
 | _,_,_, .bl b,r=>by cases(show _=Value.bool b from r);exact⟨_, .bool b⟩
 | _,_,_, .int i,r=>by obtain⟨t,rfl⟩:=r;exact⟨_, .int i t⟩
 | _,_,_, .str x,r=>by obtain⟨t,rfl⟩:=r;exact⟨_, .str x t⟩
 | _,_,_, .lst h q,r=>by
   cases(show _=Value.ref _ from r)
   obtain⟨its,rv,⟨o,n,e,c,_,d⟩,_⟩:=I.list h
   obtain⟨as,hr⟩:=tU.reads I q rv
   exact⟨_, .list e c d (by simpa using hr)⟩
 | _,_,_, .tup h q,r=>by
   cases(show _=Value.ref _ from r)
   obtain⟨its,rv,⟨o,e,c,n,d⟩,_⟩:=I.tuple h
   obtain⟨as,hr⟩:=tU.reads I q rv
   exact⟨_, .tuple e c d (by simpa using hr)⟩
theorem tU.reads (I:Inv X pins σ H s):∀{xs:List V}{ds:List PyData}{us:List Value},tU X.K H xs ds->Vals xs us->∃as,ReadsAll s.heap us ds as
 | _,_,_, .nil, .nil=>⟨_, .nil⟩
 | _,_,_, .cons h r, .cons q t=>by
   obtain⟨as,h1⟩:=vD.reads I h q
   obtain⟨bs,h2⟩:=tU.reads I r t
   exact⟨_, .cons h1 h2⟩
end
end
theorem N8 {X:Cx}:tL X (.builtin "isinstance") (fun xs H Q=>∃x T t b,xs=[x, .ty T]/\nU X.K H x t/\PySem.W.kitOne X.K t (.type T)=some b/\Q (.bl b) H):=by
 intro pins s σ H xs us Q I r h
 obtain⟨x,T,t,b,rfl,ty,e,q⟩:=h
 obtain⟨u,v,rfl,r1,r2⟩:=Vals.two r
 cases(show v=Value.type T from r2)
 exact Lh I r1 ty e fun tk=>⟨.bl b,H,I.tok tk,rfl,q⟩
theorem mV:bootBuiltins "len"=some (.builtin "len"):=by decide +kernel
theorem bD:bootBuiltins "isinstance"=some (.builtin "isinstance"):=by decide +kernel
theorem Oa:bootBuiltins "max"=some (.builtin "max"):=by decide +kernel
theorem Yr:bootBuiltins "min"=some (.builtin "min"):=by decide +kernel
theorem Ys:bootBuiltins "all"=some (.builtin "all"):=by decide +kernel
theorem Yt:bootBuiltins "int"=some (.type "int"):=by decide +kernel
theorem Ob:bootBuiltins "str"=some (.type "str"):=by decide +kernel
theorem S9:bootBuiltins "bool"=some (.type "bool"):=by decide +kernel
theorem xg:bootBuiltins "list"=some (.type "list"):=by decide +kernel
theorem Fy:bootBuiltins "tuple"=some (.type "tuple"):=by decide +kernel
theorem J2:bootBuiltins "dict"=some (.type "dict"):=by decide +kernel
theorem DN:bootBuiltins "enumerate"=some (.type "enumerate"):=by decide +kernel
theorem Yu:bootBuiltins "zip"=some (.type "zip"):=by decide +kernel
end L2
set_option maxRecDepth 100000
namespace L2
open PySem PySem.Spec PyProof.Rows
structure QE (X:Cx) (e:Expr) (t:TE):Prop where
 h:PE X e t
structure QT (X:Cx) (e:Expr) (t:TT):Prop where
 h:PT X e t
structure QW (X:Cx) (e:Expr) (t:TT):Prop where
 h:PW X e t
structure QA (X:Cx) (es:List Expr) (t:TA):Prop where
 h:PA X es t
structure QS (X:Cx) (s:Stmt) (t:TS):Prop where
 h:PS X s t
structure QSs (X:Cx) (s:List Stmt) (t:TS):Prop where
 h:PSs X s t
structure QG (X:Cx) (e:Expr) (t:TG):Prop where
 h:PG X e t
structure QGs (X:Cx) (es:List Expr) (t:TGs):Prop where
 h:PGs X es t
structure QI (X:Cx) (tg e:Expr) (t:TI):Prop where
 h:PI X tg e t
structure QO (X:Cx) (e:Option Expr) (t:TO):Prop where
 h:PO X e t
structure Yv (X:Cx) (es:List Expr) (t:TT):Prop where
 h:NQ X es t
structure QPs (X:Cx) (pos:Pos) (ks:List (Option Expr)) (vs:List Expr) (t:List (TE×TE)):Prop where
 h:PPs X pos ks vs t
structure QOp (X:Cx) (f:Value->Value->Sem Value) (r:R2):Prop where
 h:OpR X f r
structure QUn (X:Cx) (f:Value->Sem Value) (r:V->Hp->VK->Prop):Prop where
 h:UnR X f r
structure QIx (X:Cx) (r:R2):Prop where
 h:IxR X r
structure QSl (X:Cx) (r:V->Option Int->Option Int->Hp->VK->Prop):Prop where
 h:SlR X r
structure QMt (X:Cx) (id:String) (r:V->List V->Hp->VK->Prop):Prop where
 h:MtR X id r
structure vN (X:Cx) (f:Value) (r:List V->Hp->VK->Prop):Prop where
 h:tL X f r
section
variable {X:Cx}{a b c e:Expr}{es:List Expr}{ta tb te:TE}{tA tB':TT}{pos p:Pos}{x:Str}
theorem aj (i:Nat) (v:aF X.env.scope x) (hN:X.N[i]? =some x:=by rfl):QE X (.Name x pos) (Xj i):=⟨pvx i v hN⟩
theorem aJ {i j pos}:QE X (.Constant (.int i) j pos) (tC (.int i)):=⟨Xl⟩
theorem Fz {b j pos}:QE X (.Constant (.bool b) j pos) (tC (.bl b)):=⟨abq⟩
theorem tV {j pos}:QE X (.Constant .none j pos) (tC .non):=⟨Xm⟩
theorem aD {x j pos}:QE X (.Constant (.str x) j pos) (tC (.str x)):=⟨M5⟩
theorem lZ {v:V}{u:Value} (hg:Gl X x) (hm:X.mg x=some u) (r:RelV v u) (hd:(x==("__debug__":Str))=false):QE X (.Name x pos) (tC v):=⟨RJ hg hm r hd⟩
theorem oG {v:V}{u:Value} (hg:Gl X x) (hm:X.mg x=none) (hv:bootBuiltins x=some u) (r:RelV v u) (hn:x≠"__name__") (hd:(x==("__debug__":Str))=false):QE X (.Name x pos) (tC v):=⟨RK hg hm hv r hn hd⟩
theorem dF {op:Operator}{r:R2} (ho:QOp X (binaryOp op) r) (ha:QE X a ta) (hb:QE X b tb):QE X (.BinOp a op b pos) (tOp r ta tb):=⟨abE ho.h ha.h hb.h⟩
theorem abZ {op:UnaryOp}{r:V->Hp->VK->Prop} (ho:QUn X (unaryOp op) r) (ha:QE X a ta):QE X (.UnaryOp op a pos) (tUn r ta):=⟨abF ho.h ha.h⟩
theorem vY {op:CmpOp}{r:R2} (ho:QOp X (compareOp op) r) (ha:QE X a ta) (hb:QE X b tb) (hm:behindInMarks op b=false):QE X (.Compare a [op] [b] pos) (tOp r ta tb):=⟨R0 ho.h ha.h hb.h hm⟩
theorem fP {op:CmpOp}{r:R2} (ho:QOp X (compareOp op) r) (ha:QE X a ta) (hb:QE X b tb) (hm:behindInMarks op b=false):QT X (.Compare a [op] [b] pos) (VH (tOp r ta tb)):=⟨R6 ho.h ha.h hb.h hm⟩
theorem j0 (h:QE X e te) (he:∀whole,isTrue e X.env whole=(do let v <-whole;standAt e.pos;holding [v] (truthy v)):=by intro _;rfl):QT X e (tB te):=⟨Xn h.h he⟩
theorem zU (ha:QE X a ta) (he:∀whole,isTrue a X.env whole=(do let v <-whole;standAt a.pos;holding [v] (truthy v)):=by intro _;rfl):QT X a (fun σ H Q=>ta σ H fun x H1=>∃k,XS X.K x H1 k/\Q k H1):=⟨Nj ha.h he⟩
theorem zW (ha:QT X a tA):QT X (.UnaryOp .Not a pos) (abt tA):=⟨Xq ha.h⟩
theorem Oc (ha:QE X a ta):QE X (.UnaryOp .Not a pos) (Vx ta):=⟨Xv ha.h⟩
theorem DP (ha:QT X a tA):QW X (.BoolOp .And [a] pos) tA:=⟨RL ha.h⟩
theorem Od (ha:QT X a tA):QW X (.BoolOp .Or [a] pos) tA:=⟨Xo ha.h⟩
theorem DQ {rest:List Expr} (ha:QT X a tA) (hb:QW X (.BoolOp .And (b::rest) pos) tB'):QW X (.BoolOp .And (a::b::rest) pos) (abr tA tB'):=⟨Xp ha.h hb.h⟩
theorem V6 {rest:List Expr} (ha:QT X a tA) (hb:QW X (.BoolOp .Or (b::rest) pos) tB'):QW X (.BoolOp .Or (a::b::rest) pos) (tOr tA tB'):=⟨abu ha.h hb.h⟩
theorem Oe (h:QW X e tA):QT X e tA:=⟨h.h.pt⟩
theorem zX {op} (h:QE X a ta):QE X (.BoolOp op [a] pos) ta:=⟨Xr h.h⟩
theorem zY {rest:List Expr} (ha:QE X a ta) (hb:QE X (.BoolOp .And (b::rest) pos) tb):QE X (.BoolOp .And (a::b::rest) pos) (Vw ta tb):=⟨Xu ha.h hb.h⟩
theorem ab0 {rest:List Expr} (ha:QE X a ta) (hb:QE X (.BoolOp .Or (b::rest) pos) tb):QE X (.BoolOp .Or (a::b::rest) pos) (abv ta tb):=⟨abw ha.h hb.h⟩
theorem FJ (hc:QT X c tA) (ha:QE X a ta) (hb:QE X b tb):QE X (.IfExp c a b pos) (tIf tA ta tb):=⟨M7 hc.h ha.h hb.h⟩
theorem au:QA X [] R8:=⟨X6⟩
theorem jA {t:TA} (ha:QE X e te) (hr:QA X es t) (hs:starEach (e::es) X.env=(false,eval e X.env)::starEach es X.env:=by rfl):QA X (e::es) (oE te t):=⟨R9 ha.h hr.h hs⟩
theorem cB {x1}{t:TA} (h:QA X es t):QE X (.Tuple es x1 pos) (abO t):=⟨X7 h.h⟩
theorem gJ {t:TA} (h:QA X es t):QE X (.List es pos) (abP t):=⟨X8 h.h⟩
theorem cT {r:R2} (hr:QIx X r) (ha:QE X a ta) (hb:QE X b tb) (hs:JR b:=by intro _ _;rfl):QE X (.Subscript a b pos) (tOp r ta tb):=⟨abQ hr.h ha.h hb.h hs⟩
theorem xj:QO X none JP:=⟨Sq⟩
theorem qM (h:QE X e te):QO X (some e) (VN te):=⟨Ss h.h⟩
theorem pQ {r:V->Option Int->Option Int->Hp->VK->Prop}{lo hi:Option Expr}{tl th:TO}{p2:Pos} (hr:QSl X r) (he:QE X e te) (hl:QO X lo tl) (hu:QO X hi th):QE X (.Subscript e (.Slice lo hi none p2) pos) (tSl r te tl th):=⟨Nt hr.h he.h hl.h hu.h⟩
theorem gj (hu:X.A.units+1<cLine) (ho:QE X a ta) (hi:QE X b tb) (hs:Yj b:=by intro _ _;rfl):QE X (.Subscript a b pos) (VR ta tb):=⟨SM hu ho.h hi.h hs⟩
theorem Og:QPs X pos [] [] []:=⟨SQ⟩
theorem zE {k v:Expr}{ks:List (Option Expr)}{vs:List Expr}{tk tv:TE}{trs:List (TE×TE)} (hk:QE X k tk) (hv:QE X v tv) (hr:QPs X pos ks vs trs):QPs X pos (some k::ks) (v::vs) ((tk,tv)::trs):=⟨NK hk.h hv.h hr.h⟩
theorem J3 {keys:List (Option Expr)}{values:List Expr}{trs:List (TE×TE)} (h:QPs X pos keys values trs) (hall:keys.all (·.isSome)=true:=by rfl) (hl:keys.length=values.length:=by rfl) (h1:keys≠[]:=by intro z;cases z) (h2:keys.length<=15:=by decide):QE X (.Dict keys values pos) (V1 trs):=⟨S6 h.h hall hl h1 h2⟩
theorem gF {CX:CXT}{k:Nat}{f:Addr}{fd:FuncData}{ps:List Str}{sp:Sp}{dvs:List V}{ds:List Value}{E:XK}{t:TA} (F:bI X.prog X.w X.K X.mg X.base CX k f fd ps sp) (hr:iD k X.A) (hg:Gl X x) (hm:X.mg x=some (.ref f)) (hk:PySem.W.keepIn X.K (.ref f)=true) (hb:Binds X.K fd ps ds) (hd:Vals dvs ds) (hx:Passes CX X E)
 (ha:QA X (e::es) t) (hdb:(x==("__debug__":Str))=false) (he:starEach (e::es) X.env=(false,eval e X.env)::starEach es X.env:=by rfl) (hpl:(backTo pos (starEach es X.env)).any (·.1)=false:=by rfl):
 QE X (.Call (.Name x p) (e::es) [] pos) (VJ sp dvs E t):=⟨Sd F hr hg hm hk hb hd hx ha.h hdb he hpl⟩
theorem bF {id:String}{r:List V->Hp->VK->Prop}{t:TA} (hc:vN X (.builtin id) r) (hg:Gl X x) (hm:X.mg x=none) (hv:bootBuiltins x=some (.builtin id)) (ha:QA X (e::es) t) (hn:x≠"__name__") (hdb:(x==("__debug__":Str))=false)
 (he:starEach (e::es) X.env=(false,eval e X.env)::starEach es X.env:=by rfl) (hpl:(backTo pos (starEach es X.env)).any (·.1)=false:=by rfl):QE X (.Call (.Name x p) (e::es) [] pos) (tCB r t):=⟨Nr hc.h hg hm hv ha.h hn hdb he hpl⟩
theorem pR {T:String}{r:List V->Hp->VK->Prop}{t:TA} (hc:vN X (.type T) r) (hg:Gl X x) (hm:X.mg x=none) (hv:bootBuiltins x=some (.type T)) (ha:QA X (e::es) t) (hn:x≠"__name__") (hdb:(x==("__debug__":Str))=false)
 (he:starEach (e::es) X.env=(false,eval e X.env)::starEach es X.env:=by rfl) (hpl:(backTo pos (starEach es X.env)).any (·.1)=false:=by rfl):QE X (.Call (.Name x p) (e::es) [] pos) (tCB r t):=⟨Lj hc.h hg hm hv ha.h hn hdb he hpl⟩
theorem yj {o:Expr}{to:TE}{name:Str}{apos cpos:Pos}{T id:String}{r:V->List V->Hp->VK->Prop} (pa:PlainAttrs T) (slot:Slot T name id) (hty:typeOf (.builtin id)=pure (.type "method_descriptor")) (hm:QMt X id r) (ho:QE X o to)
 (hbase:attributeBase o name X.env (eval o X.env)=eval o X.env:=by rfl) (hline:(apos.endLine==cpos.line)=true:=by rfl):QE X (.Call (.Attribute o name apos) [] [] cpos) (abS X.K T r to):=⟨Yg pa slot hty hm.h ho.h hbase hline⟩
theorem oH {o:Expr}{to:TE}{name:Str}{apos cpos:Pos}{T id:String}{r:V->List V->Hp->VK->Prop}{t:TA} (pa:PlainAttrs T) (slot:Slot T name id) (hty:typeOf (.builtin id)=pure (.type "method_descriptor")) (hm:QMt X id r) (ho:QE X o to) (ha:QA X (e::es) t)
 (hbase:attributeBase o name X.env (eval o X.env)=eval o X.env:=by rfl)
 (hfew:((backTo cpos (starEach (e::es) X.env)).all (fun x=> !x.1)&&(backToKw cpos (keywordEach [] X.env)).all (fun x=>x.1.isSome)
   &&decide ((e::es).length+([]:List Keyword).length+(if([]:List Keyword).isEmpty then 0 else 1)<30))=true:=by rfl)
 (hline:(apos.endLine==cpos.line)=true:=by rfl) (hs:starEach (e::es) X.env=(false,eval e X.env)::starEach es X.env:=by rfl) (hplain:(backTo cpos (starEach es X.env)).any (·.1)=false:=by rfl):
 QE X (.Call (.Attribute o name apos) (e::es) [] cpos) (tBM X.K T r to t):=⟨abT pa slot hty hm.h ho.h ha.h hbase hfew hline hs hplain⟩
theorem J4 {n:Nat}{fr:List Nat}{N:List Str}{sc:Scope}{elt tg iter:Expr}{ifs:List Expr}{wi:TI}{g:TG}{tc:TT} (hc:X.calm=true) (S:yh X n fr N sc) (hit:QI X tg iter wi)
 (hg:∀pins C s₀ H₀ fp,QG (iU X N sc pins C s₀ H₀ fp) tg g) (hi:∀pins C s₀ H₀ fp,Yv (iU X N sc pins C s₀ H₀ fp) ifs tc) (he:∀pins C s₀ H₀ fp,QE (iU X N sc pins C s₀ H₀ fp) elt te)
 (hs:∀x,foldedSetIterable iter X.env x=pure x:=by intro _;rfl):QE X (.ListComp elt [⟨tg,iter,ifs,0⟩] sc pos) (V4 wi n fr g tc te):=
 ⟨S8 hc S hit.h (fun a b c d e=>(hg a b c d e).h) (fun a b c d e=>(hi a b c d e).h) (fun a b c d e'=>(he a b c d e').h) hs⟩
theorem Yw:Yv X [] V3:=⟨NT⟩
theorem Yx {t:TT} (h:QT X c t):Yv X [c] t:=⟨NZ h.h⟩
theorem Ka {tg l:Expr}{tl:TE} (hl:QE X l tl):QI X tg l (VF X.K tl):=⟨RX hl.h⟩
theorem Dg {tg:Expr}{t:TA} (hg:Gl X "range") (hm:X.mg "range"=none) (ha:QA X [a] t) (hs:starEach [a] X.env=[(false,eval a X.env)]:=by rfl):QI X tg (.Call (.Name "range" p) [a] [] pos) (VG t):=⟨K9 hg hm ha.h hs⟩
theorem qN {i:Nat} (hN:X.N.Nodup) (hi:X.N[i]? =some x) (hx:Loc X.env.scope x) (hf:X.fn x=true\/X.env.scope.names.lookup x=some .local:=by first | exact .inl rfl | exact .inr rfl | assumption):QG X (.Name x pos) (Cz i):=⟨JG hN hi hx hf⟩
theorem qgx {i:Nat} (hN:X.N.Nodup) (hx:X.env.scope.names.lookup x=some .local) (hi:X.N[i]? =some x:=by rfl):QG X (.Name x pos) (Cz i):=⟨pgx hN hx hi⟩
theorem DX:QGs X [] abB:=⟨RW⟩
theorem pU {t:TG}{u:TGs} (h1:QG X e t) (h2:QGs X es u) (hs:(assignEach (e::es) X.env).map (·.2)=assign e X.env::(assignEach es X.env).map (·.2):=by rfl):QGs X (e::es) (VB t u):=⟨M9 h1.h h2.h hs⟩
theorem Ij {k n:Nat}{t:TGs} (hc:X.calm=true) (h:QGs X es t) (hn:(assignEach es X.env).length=n:=by rfl) (hst:(assignEach es X.env).findIdx? (·.1)=none:=by rfl):QG X (.Tuple es k pos) (Xx X.K n t):=⟨Xy hc h.h hn hst⟩
theorem bQ {i:Nat}{pos':Pos} (hN:X.N.Nodup) (hi:X.N[i]? =some x) (hx:Loc X.env.scope x) (he:QE X e te) (hs:swapsWith e (some (.Name x pos')) pos.line X.env=pure false:=by rfl) (hf:X.fn x=true\/X.env.scope.names.lookup x=some .local:=by first | exact .inl rfl | exact .inr rfl | assumption):
 QS X (.Assign [.Name x pos'] e pos) (abC te (Cz i)):=⟨Xz hN hi hx he.h hs hf⟩
theorem kW {o i v:Expr}{td ty tv:TE}{pos':Pos} (hu:X.A.units+1<cLine) (ho:QE X o td) (hi:QE X i ty) (hv:QE X v tv) (hs:swapsWith v (some (.Subscript o i pos')) pos.line X.env=pure false:=by rfl):QS X (.Assign [.Subscript o i pos'] v pos) (V0 td ty tv):=⟨SN hu ho.h hi.h hv.h hs⟩
theorem eG (he:QE X e te) (hs:swapsWith e none pos.line X.env=pure false:=by rfl):QS X (.Expr e pos) (Vz te):=⟨RT he.h hs⟩
theorem cJ (he:QE X e te):QS X (.Return (some e) pos) (aby te):=⟨Xw he.h⟩
theorem Tc:QS X (.Pass pos) JF:=⟨RQ⟩
theorem FN:QS X (.Continue pos) Vy:=⟨Fl⟩
theorem eU {s1 s2:List Stmt}{t u:TS} (hc:QT X c tA) (ha:QSs X s1 t) (hb:QSs X s2 u):QS X (.If c s1 s2 pos) (abz tA t u):=⟨abA hc.h ha.h hb.h⟩
theorem zZ {body:List Stmt}{tb:TS} (hp:PassesOwn (model X.prog X.w) X.A X.env X.xe) (hc:QT X c tA) (hb:QSs X body tb):QS X (.While c body [] pos) (Nb tA tb):=⟨Nf hp hc.h hb.h⟩
theorem Aa {tg iter:Expr}{body:List Stmt}{wi:TI}{g:TG}{tb:TS} (hp:PassesOwn (model X.prog X.w) X.A X.env X.xe) (hc:X.calm=true) (hi:QI X tg iter wi) (hg:QG X tg g) (hb:QSs X body tb)
 (hs:∀x,foldedSetIterable iter X.env x=pure x:=by intro _;rfl):QS X (.For tg iter body [] pos) (abD wi g tb):=⟨XC hp hc hi.h hg.h hb.h hs⟩
theorem dD:QSs X [] JF:=⟨RM⟩
theorem aA {s:Stmt}{rest:List Stmt}{t u:TS} (h1:QS X s t) (h2:QSs X rest u):QSs X (s::rest) (abx t u):=⟨M8 h1.h h2.h⟩
theorem aB {s:Stmt}{t:TS} (h1:QS X s t):QSs X [s] t:=⟨RP h1.h⟩
theorem jB:QOp X (binaryOp .Add) (rI0 fun i j=> .int (i+j)):=⟨XF⟩
theorem DY:QOp X (binaryOp .Sub) (rI0 fun i j=> .int (i - j)):=⟨XH⟩
theorem qO:QOp X (binaryOp .Mult) (rI wZ fun i j=> .int (i * j)):=⟨XJ⟩
theorem oJ:QOp X (binaryOp .Mod) (rI (fun _ j=>0<j) fun i j=> .int (i % j)):=⟨XM⟩
theorem FP:QOp X (binaryOp .FloorDiv) (rI V5 fun i j=> .int (i / j)):=⟨N7⟩
theorem oK:QOp X (binaryOp .Add) abV:=⟨Yi⟩
theorem Td:QUn X (unaryOp .USub) (rU fun i=> .int (-i)):=⟨XN⟩
theorem iY:QOp X (compareOp .Eq) rEq:=⟨abJ⟩
theorem Oh:QOp X (compareOp .NotEq) rNe:=⟨abK⟩
theorem Oi:QOp X (compareOp .Lt) (rI0 fun i j=> .bl (decide (i<j))):=⟨abL⟩
theorem Ik:QOp X (compareOp .Gt) (rI0 fun i j=> .bl (decide (j<i))):=⟨abM⟩
theorem Te:QOp X (compareOp .Is) (fun x y H Q=>y= .non/\Q (.bl (decide (x= .non))) H):=⟨XQ⟩
theorem Oj:QOp X (compareOp .IsNot) (fun x y H Q=>y= .non/\Q (.bl (!decide (x= .non))) H):=⟨RZ⟩
theorem Ab:QOp X (compareOp .In) (rIn X.K false):=⟨Lk⟩
theorem iK:QIx X (Yb X.K):=⟨Sv⟩
theorem bZ:QIx X (Yc X.K):=⟨Yd⟩
theorem pW:QSl X (abR X.K):=⟨Sw⟩
theorem gK:QMt X "list.append" JS:=⟨CV⟩
theorem vZ:QMt X "list.extend" JT:=⟨Lp⟩
theorem vh:QMt X "list.pop" abU:=⟨Yh⟩
theorem fQ:vN X (.builtin "len") (fun xs H Q=>∃p ys,xs=[.ref p]/\(SqL X.K H p ys\/SqT X.K H p ys)/\Q (.int ys.length) H):=⟨Dz⟩
theorem v5:vN X (.builtin "isinstance") (fun xs H Q=>∃x T t b,xs=[x, .ty T]/\nU X.K H x t/\PySem.W.kitOne X.K t (.type T)=some b/\Q (.bl b) H):=⟨N8⟩
theorem v7:vN X (.type "list") (fun xs H Q=>∃p ys,xs=[.ref p]/\(SqL X.K H p ys\/SqT X.K H p ys)/\∀l,H l=none->Q (.ref l) (upd H l (.lst ys))):=⟨DG⟩
theorem cQ (b:Expr) {op:CmpOp} (h:op≠ .In:=by decide) (h2:op≠ .NotIn:=by decide):behindInMarks op b=false:=XR b h h2
theorem Lz {K:PySem.W.Frag} (e:X.K=K):QIx X (Yb K):=e▸iK
theorem FQ {K:PySem.W.Frag} (e:X.K=K):QIx X (Yc K):=e▸bZ
end
end L2
set_option maxRecDepth 100000
namespace L2
open PySem PySem.Spec PyProof.Rows
theorem LK {X:Cx} (hc:X.calm=true):tL X (.builtin "all") (fun xs H Q=>∃(p:Addr) (bs:List Bool),xs=[V.ref p]/\SqL X.K H p (bs.map V.bl)/\Q (.bl (bs.all id)) H):=by
 intro pins s σ H xs us Q I r h
 obtain⟨p,bs,rfl,hp,q⟩:=h
 obtain⟨u,rfl,ru⟩:=Vals.one r
 cases(show u=Value.ref p from ru)
 obtain⟨its,rv,pl,hz⟩:=I.list hp
 have hlt:p<s.heap.objs.size:=by obtain⟨o,n,e,_⟩:=pl;exact Heap.lt_size e
 have hlen:its.length=bs.length:=by rw[<-rv.length,List.length_map]
 refine call_all_walk (wpAny_pyIter_list pl.isList ?_)
 refine⟨s.heap.objs.size,_,_,its.toArray.size,(fun i v=>its.toArray[i]? =some v),_,(fun i=>bs.getD i false),rfl,Walks.list (A:=X.A.in1) (I.ok.hd hc) s.heap.objs.size p (Nat.ne_of_lt hlt) its.toArray,⟨⟨_,Heap.get?_push_size _ rfl,rfl,rfl⟩,pl.isList.push _⟩, ?_, ?_⟩
 ·intro i v s' Q' E' hv hq
  have hi:i<bs.length:=by
   rw[<-hlen]
   have:=(Array.getElem?_eq_some_iff.mp hv).1
   simpa using this
  obtain⟨u,hu,ru⟩:=rv.get (i:=i) (x:=V.bl bs[i]) (by rw[List.getElem?_map,List.getElem?_eq_getElem hi];rfl)
  have hv':its[i]? =some v:=by simpa using hv
  rw[hu] at hv'
  cases hv'
  cases(show v=Value.bool _ from ru)
  refine wpAny_truthy_bool ?_
  have e:bs.getD i false=bs[i]:=by rw[List.getD_eq_getElem?_getD,List.getElem?_eq_getElem hi];rfl
  have hq':Q' (bs.getD i false) s':=hq
  rw[e] at hq'
  exact hq'
 ·intro h' tk hk
  have e:(List.range its.toArray.size).all (fun i=>bs.getD i false)=bs.all id:=by
   rw[List.size_toArray,hlen]
   rw[Bool.eq_iff_iff,List.all_eq_true,List.all_eq_true]
   constructor
   ·intro h b hb
    obtain⟨i,hi,rfl⟩:=List.mem_iff_getElem.mp hb
    have:=h i (List.mem_range.mpr hi)
    rw[List.getD_eq_getElem?_getD,List.getElem?_eq_getElem hi] at this
    exact this
   ·intro h i hi
    have hi':=List.mem_range.mp hi
    rw[List.getD_eq_getElem?_getD,List.getElem?_eq_getElem hi']
    exact h _ (List.getElem_mem hi')
  rw[e]
  refine⟨.bl _,H,I.kept (t':=tk) fun b o eb=>hk b o ?_ (Heap.get?_push_of_some _ eb),rfl,q⟩
  intro z
  have:b=s.heap.objs.size:=by simpa using z
  exact absurd (Heap.lt_size eb) (by rw[this];exact Nat.lt_irrefl _)
section
variable {X:Cx}{a b c e:Expr}{ta tb tc te:TE}{pos:Pos}
theorem Tf (hc:X.calm=true):vN X (.builtin "all") (fun xs H Q=>∃(p:Addr) (bs:List Bool),xs=[V.ref p]/\SqL X.K H p (bs.map V.bl)/\Q (.bl (bs.all id)) H):=⟨LK hc⟩
end
end L2
set_option maxRecDepth 100000
namespace RB
open PySem L2 PySem.Spec PyProof.Rows
def But (S:List Addr) (H H':Hp):Prop:=∀b o,b∉S->H b=some o->H' b=some o
theorem But.refl (S:List Addr) (H:Hp):But S H H:=fun _ _ _ h=>h
theorem But.trans {S:List Addr}{H H1 H2:Hp} (a:But S H H1) (b:But S H1 H2):But S H H2:=fun c o n h=>b c o n (a c o n h)
theorem But.mono {S S':List Addr}{H H':Hp} (a:But S H H') (h:∀b∈S,b∈S'):But S' H H':=fun c o n q=>a c o (fun z=>n (h c z)) q
theorem But.new {S:List Addr}{H:Hp}{p:Addr} (o:HO) (h:H p=none):But S H (upd H p o):=fun b u _ q=>by rw[ao (aC q h)];exact q
theorem But.set {S:List Addr}{H:Hp}{p:Addr} (o:HO) (h:p∈S):But S H (upd H p o):=fun b u n q=>by rw[ao (show b≠p from fun e=>n (by rw[e];exact h))];exact q
theorem But.of_same {S:List Addr}{H H':Hp} (h:aO H H'):But S H H':=fun b o _ q=>h b o q
theorem aq {H:Hp}{p:Addr} (o:HO) (h:H p=none):aO H (upd H p o):=fun b u q=>by rw[ao (aC q h)];exact q
def jU (H H':Hp):Prop:=∀b xs,H b=some (.tup xs)->H' b=some (.tup xs)
theorem aO.tups {H H':Hp} (h:aO H H'):jU H H':=fun b xs q=>h b _ q
inductive Op where | plus | minus | times | most
 deriving DecidableEq
def Op.word:Op->Str
 | .plus=>"plus" | .minus=>"minus" | .times=>"times" | .most=>"most"
inductive R where
 | num (n:Int) | rd (x:Str) | bin (op:Op) (a b:R) | pick (a b c:R) | cho (a:R) (ns:List Str)
def R.depth:R->Nat
 | .num _=>1
 | .rd _=>1
 | .bin _ a b=>max a.depth b.depth+1
 | .pick a b c=>max a.depth (max b.depth c.depth)+1
 | .cho a _=>a.depth+1
def Ol (c:Nat):Prop:=97<=c/\c<=122
def FT (x:Str):Prop:=1<=x.length/\x.length<=8/\∀c∈x.cps.toList,Ol c
def R.Good:R->Prop
 | .num n=>n.natAbs<10 ^ 40
 | .rd x=>FT x
 | .bin _ a b=>a.Good/\b.Good
 | .pick a b c=>a.Good/\b.Good/\c.Good
 | .cho a ns=>a.Good/\1<=ns.length/\ns.length<=9/\∀x∈ns,FT x
inductive IsR (H:Hp):Addr->R->Prop where
 | num {a:Addr}{n:Int} (e:H a=some (.tup [.str "number", .int n])):IsR H a (.num n)
 | rd {a:Addr}{x:Str} (e:H a=some (.tup [.str "read", .str x])):IsR H a (.rd x)
 | bin {a b c:Addr}{op:Op}{r s:R} (e:H a=some (.tup [.str op.word, .ref b, .ref c])) (h1:IsR H b r) (h2:IsR H c s):IsR H a (.bin op r s)
 | pick {a b c d:Addr}{r s t:R} (e:H a=some (.tup [.str "pick", .ref b, .ref c, .ref d])) (h1:IsR H b r) (h2:IsR H c s) (h3:IsR H d t):IsR H a (.pick r s t)
 | cho {a b c:Addr}{r:R}{ns:List Str} (e:H a=some (.tup [.str "choose", .ref b, .ref c])) (h1:IsR H b r) (h2:H c=some (.tup (ns.map V.str))):IsR H a (.cho r ns)
theorem IsR.tups {H H':Hp} (t:jU H H') {a:Addr}{r:R} (h:IsR H a r):IsR H' a r:=by
 induction h with
 | num e=>exact .num (t _ _ e)
 | rd e=>exact .rd (t _ _ e)
 | bin e _ _ i1 i2=>exact .bin (t _ _ e) i1 i2
 | pick e _ _ _ i1 i2 i3=>exact .pick (t _ _ e) i1 i2 i3
 | cho e _ h2 i1=>exact .cho (t _ _ e) i1 (t _ _ h2)
theorem IsR.same {H H':Hp} (t:aO H H') {a:Addr}{r:R} (h:IsR H a r):IsR H' a r:=h.tups (aO.tups t)
def Kc (K:PySem.W.Frag):Sp:=fun vs H Q _=>∃(a:Addr) (ns:List Int),vs=[.ref a]/\SqL K H a (ns.map V.int)/\ns.length<=63/\∀H',Q (.bl true) H'
structure FnT (K:PySem.W.Frag) (mg:Str->Option Value) (x:Str) (st:Stmt) (ps:List Str) (f:Addr) (fd:FuncData):Prop where
 F:Fun K x x st f fd
 b:Binds K fd ps []
 m:mg x=some (.ref f)
structure Blt (mg:Str->Option Value):Prop where
 tW:mg "len"=none
 Kd:mg "range"=none
 V7:mg "str"=none
 ab1:mg "int"=none
 Ac:mg "list"=none
 Ke:mg "tuple"=none
 bN:mg "isinstance"=none
 Yy:mg "bool"=none
 Om:mg "dict"=none
 agw:mg "sum"=none
 ab2:mg "all"=none
 agx:mg "any"=none
 V8:mg "max"=none
 ab3:mg "min"=none
 ab4:mg "sorted"=none
 agy:mg "set"=none
 yO:mg "enumerate"=none
 ab5:mg "zip"=none
 Yz:mg "reversed"=none
 agz:mg "abs"=none
end RB
namespace RB
open PySem L2 PySem.Spec PyProof.Rows
theorem ab6 {xs:List Int}{i:Int} (h0:0<=i) (h1:i<((xs.map V.int).length:Int)):∃v j,atI (xs.map V.int) i=some (.int v)/\ixN (xs.map V.int).length i=some j/\j<xs.length/\∀u:Int,(xs.map V.int).set j (.int u)=(xs.set j u).map V.int:=by
 have hl:(xs.map V.int).length=xs.length:=List.length_map _
 obtain⟨j,rfl⟩:=Int.eq_ofNat_of_zero_le h0
 have hj:j<xs.length:=by omega
 refine⟨xs[j],j,jJ (by rw[List.getElem?_map,List.getElem?_eq_getElem hj];rfl), ?_,hj,fun u=> ?_⟩
 ·unfold ixN
  rw[if_pos h0,if_pos (by omega)]
  simp
 ·rw[List.map_set]
end RB
namespace RB
open PySem L2 PySem.Spec PyProof.Rows
theorem But.upd {S:List Addr}{H H':Hp}{p:Addr} (b:But S H H') (o:HO) (h:H p=none):But S H (upd H' p o):=fun c u n q=>by
 rw[ao (aC q h)];exact b c u n q
theorem ab7 {c A B:Prop} [Decidable c] (hc:c) (h:A):if decide c=true then A else B:=by rw[if_pos (decide_eq_true hc)];exact h
theorem ab8 {c A B:Prop} [Decidable c] (hc:¬c) (h:B):if decide c=true then A else B:=by rw[if_neg (by simpa using hc)];exact h
theorem ab9 {c A B:Prop} [Decidable c] (hc:¬c) (h:A):if(!decide c)=true then A else B:=by rw[if_pos (by simpa using hc)];exact h
end RB
namespace RB
open PySem L2 PySem.Spec PyProof.Rows
theorem never {P:Program}{w:World}{K:PySem.W.Frag}{mg:Str->Option Value}{base:Heap}{k:Nat}{f:Addr}{fd:FuncData}{ps:List Str}{sp:Sp} (no:∀vs H Q E,¬sp vs H Q E):bI P w K mg base CX0 k f fd ps sp:=
 ⟨fun vs H Q E h=>absurd h (no vs H Q E),fun A outer s H args us vs Q E _ _ _ _ h=>absurd h (no vs H Q E)⟩
end RB
namespace RB
open PySem L2 PySem.Spec PyProof.Rows
end RB
namespace RB
open PySem L2 PySem.Spec PyProof.Rows
end RB
namespace RB
open PySem L2 PySem.Spec PyProof.Rows
end RB
namespace RB
open PySem L2 PySem.Spec PyProof.Rows
theorem vm {H H':Hp}{p:Addr} (o:HO) (h:H p=none) (s:aO H H'):aO H (upd H' p o):=fun b u q=>by
 rw[ao (aC q h)];exact s b u q
end RB
namespace RB
open PySem L2 PySem.Spec PyProof.Rows
end RB
set_option maxRecDepth 100000
namespace RB
open PySem L2 PySem.Spec PyProof.Rows
inductive Th where
 | non | bl (b:Bool) | int (i:Int) | str (x:Str) | tup (xs:List Th) | oth (T:String)
mutual
inductive mj (K:PySem.W.Frag) (H:Hp):V->Th->Prop where
 | non:mj K H .non .non
 | bl (b:Bool):mj K H (.bl b) (.bl b)
 | int (i:Int):mj K H (.int i) (.int i)
 | str (x:Str):mj K H (.str x) (.str x)
 | tup {a:Addr}{vs:List V}{ts:List Th} (e:H a=some (.tup vs)) (h:jV K H vs ts):mj K H (.ref a) (.tup ts)
 | oth {a:Addr}{T:String} (h:nU K H (.ref a) (.type T)) (hT:T="list"\/T="dict") (keep:∀H',aO H H'->nU K H' (.ref a) (.type T)):mj K H (.ref a) (.oth T)
inductive jV (K:PySem.W.Frag) (H:Hp):List V->List Th->Prop where
 | nil:jV K H [] []
 | cons {v:V}{t:Th}{vs:List V}{ts:List Th} (h:mj K H v t) (r:jV K H vs ts):jV K H (v::vs) (t::ts)
end
mutual
theorem mj.same {K:PySem.W.Frag}{H H':Hp} (s:aO H H'):∀{v:V}{t:Th},mj K H v t->mj K H' v t
 | _,_, .non=> .non
 | _,_, .bl b=> .bl b
 | _,_, .int i=> .int i
 | _,_, .str x=> .str x
 | _,_, .tup e h=> .tup (s _ _ e) (jV.same s h)
 | _,_, .oth h hT k=> .oth (k _ s) hT fun H2 s2=>k _ (s.trans s2)
theorem jV.same {K:PySem.W.Frag}{H H':Hp} (s:aO H H'):∀{vs:List V}{ts:List Th},jV K H vs ts->jV K H' vs ts
 | _,_, .nil=> .nil
 | _,_, .cons h r=> .cons (mj.same s h) (jV.same s r)
end
theorem jV.length {K:PySem.W.Frag}{H:Hp}:∀{vs:List V}{ts:List Th},jV K H vs ts->vs.length=ts.length
 | _,_, .nil=>rfl
 | _,_, .cons _ r=>congrArg (· +1) (jV.length r)
theorem jV.get {K:PySem.W.Frag}{H:Hp}:∀{vs:List V}{ts:List Th}{i:Nat}{v:V},jV K H vs ts->vs[i]? =some v->∃t,ts[i]? =some t/\mj K H v t
 | _,_,_,_, .nil,e=>by simp at e
 | _,_,0,_, .cons h _,e=>by simp at e;subst e;exact⟨_,rfl,h⟩
 | _,_,i+1,v, .cons _ r,e=>by
   obtain⟨t,h1,h2⟩:=jV.get (i:=i) (v:=v) r (by simpa using e)
   exact⟨t,by simpa using h1,h2⟩
def FW:Th->String
 | .non=>"NoneType" | .bl _=>"bool" | .int _=>"int" | .str _=>"str" | .tup _=>"tuple" | .oth T=>T
theorem mj.ty {K:PySem.W.Frag}{H:Hp}{v:V}{t:Th} (h:mj K H v t):nU K H v (.type (FW t)):=by
 cases h with
 | non=>exact .non
 | bl b=>exact .bl b
 | int i=>exact .int i
 | str x=>exact .str x
 | tup e _=>exact .tup e
 | oth h _ _=>exact h
def tys:List String:=["NoneType","bool","int","str","tuple","list","dict"]
def Oo (t c:String):Bool:=t==c||(t=="bool"&&c=="int")
def Kinds (K:PySem.W.Frag):Prop:=∀t∈tys,∀c∈tys,PySem.W.kitOne K (.type t) (.type c)=some (Oo t c)
theorem Oq {K:PySem.W.Frag} (h:(tys.all fun t=>tys.all fun c=>PySem.W.kitOne K (.type t) (.type c)==some (Oo t c))=true):Kinds K:=fun t ht c hc=>by
 have h1:=List.all_eq_true.mp h t ht
 have h2:=List.all_eq_true.mp h1 c hc
 exact eq_of_beq h2
theorem YB {K:PySem.W.Frag}{H:Hp}{v:V}{t:Th} (h:mj K H v t):FW t∈tys:=by
 cases h with
 | oth _ hT _=>rcases hT with rfl | rfl<;>simp[FW,tys]
 | _=>simp[FW,tys]
theorem mj.isi {K:PySem.W.Frag}{H:Hp}{v:V}{t:Th} (h:mj K H v t) (k:Kinds K) {c:String} (hc:c∈tys):PySem.W.kitOne K (.type (FW t)) (.type c)=some (Oo (FW t) c):=k _ (YB h) _ hc
def YC:Th->Bool
 | .int _=>true
 | _=>false
def Ea (K:PySem.W.Frag):Sp:=fun vs H Q _=>∃v t,vs=[v]/\mj K H v t/\Q (.bl (YC t)) H
theorem acd {b:Bool}{A B:Prop} (h:b=true) (hA:A):if b=true then A else B:=by rw[if_pos h];exact hA
theorem ace {b:Bool}{A B:Prop} (h:b=false) (hB:B):if b=true then A else B:=by rw[if_neg (by rw[h];exact Bool.false_ne_true)];exact hB
structure Wr (p:Prop):Prop where
 h:p
end RB
set_option maxRecDepth 100000
namespace RB
open PySem L2 PySem.Spec PyProof.Rows
def R.dW:R->Th
 | .num n=> .tup [.str "number", .int n]
 | .rd x=> .tup [.str "read", .str x]
 | .bin op a b=> .tup [.str op.word,a.dW,b.dW]
 | .pick a b c=> .tup [.str "pick",a.dW,b.dW,c.dW]
 | .cho a ns=> .tup [.str "choose",a.dW, .tup (ns.map Th.str)]
def R.BV:R->Prop
 | .num _=>True
 | .rd x=>x.length<=8/\∀c∈x.cps.toList,c<128
 | .bin _ a b=>a.BV/\b.BV
 | .pick a b c=>a.BV/\b.BV/\c.BV
 | .cho a ns=>a.BV/\1<=ns.length/\ns.length<=9/\∀x∈ns,FT x
theorem Ad {K:PySem.W.Frag}{H:Hp}:∀ns:List Str,jV K H (ns.map V.str) (ns.map Th.str)
 |[]=> .nil
 | x::r=> .cons (.str x) (Ad r)
theorem IsR.acf {K:PySem.W.Frag}{H:Hp}{a:Addr}{r:R} (h:IsR H a r):mj K H (.ref a) r.dW:=by
 induction h with
 | num e=>exact .tup e (.cons (.str _) (.cons (.int _) .nil))
 | rd e=>exact .tup e (.cons (.str _) (.cons (.str _) .nil))
 | bin e _ _ i1 i2=>exact .tup e (.cons (.str _) (.cons i1 (.cons i2 .nil)))
 | pick e _ _ _ i1 i2 i3=>exact .tup e (.cons (.str _) (.cons i1 (.cons i2 (.cons i3 .nil))))
 | cho e _ h2 i1=>exact .tup e (.cons (.str _) (.cons i1 (.cons (.tup h2 (Ad _)) .nil)))
end RB
set_option maxRecDepth 100000
namespace L2
open PySem PySem.Spec PyProof.Rows
theorem Fun.okQ {P:Program}{w:World}{K:PySem.W.Frag}{mg:Str->Option Value}{base:Heap}{x qual:Str}{st:Stmt}{f:Addr}{fd:FuncData}{N ps:List Str}{k:Nat}{sp:Sp} (F:Fun K x qual st f fd) (S:bM N ps (aa st)) (len:∀vs H Q E,sp vs H Q E->vs.length=ps.length)
 (hbody:∀(cdv:Value) (A:Around) (outer:List Env) (s:Shared) (H:Hp) (vs:List V) (Q:VK) (E:XK),iD k (A.deeper (envOfC qual (aa st) s.heap.objs.size f cdv))->sp vs H Q E->
   ∃t,QSs (iR CX0 P w K mg base N qual (aa st) f cdv A outer s H E).nox (bx st) t/\t {nx:=fun _ H'=>Q .non H',rt:=Q} (start N vs) H):bI P w K mg base CX0 (k+1) f fd ps sp:=
 F.ok S len fun cdv A outer s H vs Q E hr hsp=>let ⟨t,a,b⟩:=hbody cdv A outer s H vs Q E hr hsp;⟨t,a.h,b⟩
end L2
namespace RB
open PySem L2 PySem.Spec PyProof.Rows
theorem YD (value:Const) (k:Nat) (p:Pos) (es:List Expr) (env:Env):starEach (.Constant value k p::es) env=(false,eval (.Constant value k p) env)::starEach es env:=rfl
theorem cR {X:Cx}{value:Const}{k:Nat}{p:Pos}{es:List Expr}{te:TE}{t:TA} (ha:QE X (.Constant value k p) te) (hr:QA X es t):QA X (.Constant value k p::es) (oE te t):=jA ha hr (YD value k p _ _)
theorem YF (x:Str) (p:Pos) (es:List Expr) (env:Env):starEach (.Name x p::es) env=(false,eval (.Name x p) env)::starEach es env:=rfl
theorem aX {X:Cx}{x:Str}{p:Pos}{es:List Expr}{te:TE}{t:TA} (ha:QE X (.Name x p) te) (hr:QA X es t):QA X (.Name x p::es) (oE te t):=jA ha hr (YF x p _ _)
theorem YG (a:Expr) (op:Operator) (b:Expr) (p:Pos) (es:List Expr) (env:Env):starEach (.BinOp a op b p::es) env=(false,eval (.BinOp a op b p) env)::starEach es env:=rfl
theorem Tg {X:Cx}{a:Expr}{op:Operator}{b:Expr}{p:Pos}{es:List Expr}{te:TE}{t:TA} (ha:QE X (.BinOp a op b p) te) (hr:QA X es t):QA X (.BinOp a op b p::es) (oE te t):=jA ha hr (YG a op b p _ _)
theorem YH (op:UnaryOp) (a:Expr) (p:Pos) (es:List Expr) (env:Env):starEach (.UnaryOp op a p::es) env=(false,eval (.UnaryOp op a p) env)::starEach es env:=rfl
theorem afA {X:Cx}{op:UnaryOp}{a:Expr}{p:Pos}{es:List Expr}{te:TE}{t:TA} (ha:QE X (.UnaryOp op a p) te) (hr:QA X es t):QA X (.UnaryOp op a p::es) (oE te t):=jA ha hr (YH op a p _ _)
theorem YJ (xs:List Expr) (k:Nat) (p:Pos) (es:List Expr) (env:Env):starEach (.Tuple xs k p::es) env=(false,eval (.Tuple xs k p) env)::starEach es env:=rfl
theorem j6 {X:Cx}{xs:List Expr}{k:Nat}{p:Pos}{es:List Expr}{te:TE}{t:TA} (ha:QE X (.Tuple xs k p) te) (hr:QA X es t):QA X (.Tuple xs k p::es) (oE te t):=jA ha hr (YJ xs k p _ _)
theorem YK (xs:List Expr) (p:Pos) (es:List Expr) (env:Env):starEach (.List xs p::es) env=(false,eval (.List xs p) env)::starEach es env:=rfl
theorem Ot {X:Cx}{xs:List Expr}{p:Pos}{es:List Expr}{te:TE}{t:TA} (ha:QE X (.List xs p) te) (hr:QA X es t):QA X (.List xs p::es) (oE te t):=jA ha hr (YK xs p _ _)
theorem YL (ks:List (Option Expr)) (xs:List Expr) (p:Pos) (es:List Expr) (env:Env):starEach (.Dict ks xs p::es) env=(false,eval (.Dict ks xs p) env)::starEach es env:=rfl
theorem YM {X:Cx}{ks:List (Option Expr)}{xs:List Expr}{p:Pos}{es:List Expr}{te:TE}{t:TA} (ha:QE X (.Dict ks xs p) te) (hr:QA X es t):QA X (.Dict ks xs p::es) (oE te t):=jA ha hr (YL ks xs p _ _)
theorem YQ (a b:Expr) (p:Pos) (es:List Expr) (env:Env):starEach (.Subscript a b p::es) env=(false,eval (.Subscript a b p) env)::starEach es env:=rfl
theorem oZ {X:Cx}{a b:Expr}{p:Pos}{es:List Expr}{te:TE}{t:TA} (ha:QE X (.Subscript a b p) te) (hr:QA X es t):QA X (.Subscript a b p::es) (oE te t):=jA ha hr (YQ a b p _ _)
theorem YS (f:Expr) (xs:List Expr) (ks:List Keyword) (p:Pos) (es:List Expr) (env:Env):starEach (.Call f xs ks p::es) env=(false,eval (.Call f xs ks p) env)::starEach es env:=rfl
theorem tX {X:Cx}{f:Expr}{xs:List Expr}{ks:List Keyword}{p:Pos}{es:List Expr}{te:TE}{t:TA} (ha:QE X (.Call f xs ks p) te) (hr:QA X es t):QA X (.Call f xs ks p::es) (oE te t):=jA ha hr (YS f xs ks p _ _)
theorem YT (a b c:Expr) (p:Pos) (es:List Expr) (env:Env):starEach (.IfExp a b c p::es) env=(false,eval (.IfExp a b c p) env)::starEach es env:=rfl
theorem afB {X:Cx}{a b c:Expr}{p:Pos}{es:List Expr}{te:TE}{t:TA} (ha:QE X (.IfExp a b c p) te) (hr:QA X es t):QA X (.IfExp a b c p::es) (oE te t):=jA ha hr (YT a b c p _ _)
theorem YW (e:Expr) (gs:List Comprehension) (sc:Scope) (p:Pos) (es:List Expr) (env:Env):starEach (.ListComp e gs sc p::es) env=(false,eval (.ListComp e gs sc p) env)::starEach es env:=rfl
theorem afC {X:Cx}{e:Expr}{gs:List Comprehension}{sc:Scope}{p:Pos}{es:List Expr}{te:TE}{t:TA} (ha:QE X (.ListComp e gs sc p) te) (hr:QA X es t):QA X (.ListComp e gs sc p::es) (oE te t):=jA ha hr (YW e gs sc p _ _)
theorem YX (e:Expr) (x:Str) (p:Pos) (es:List Expr) (env:Env):starEach (.Attribute e x p::es) env=(false,eval (.Attribute e x p) env)::starEach es env:=rfl
theorem Il {X:Cx}{e:Expr}{x:Str}{p:Pos}{es:List Expr}{te:TE}{t:TA} (ha:QE X (.Attribute e x p) te) (hr:QA X es t):QA X (.Attribute e x p::es) (oE te t):=jA ha hr (YX e x p _ _)
end RB
set_option maxRecDepth 100000
namespace L2
open PySem PySem.Spec PyProof.Rows
section
variable {X:Cx}{pins:List (Addr×Obj)}{σ:L2.St}{H:Hp}{s:Shared}
end
section
variable {X:Cx}{o e value:Expr}{es:List Expr}{f m:Str}{pos pos' apos:Pos}{ta tv:TE}{t:TA}{C fa:Addr}{CX:CXT}{k:Nat}{fd:FuncData}{ps:List Str}{sp:Sp}{dvs:List V}{ds:List Value}{E:XK}
theorem bz (he:QE X e ta) (hb:attributeBase e f X.env (eval e X.env)=eval e X.env:=by rfl):QE X (.Attribute e f pos) (X3 X.K ta f):=⟨X4 he.h hb⟩
theorem jl (ha:QE X o ta) (hv:QE X value tv) (hs:swapsWith value (some (.Attribute o f pos')) pos.line X.env=pure false:=by rfl):QS X (.Assign [.Attribute o f pos'] value pos) (abN X.K ta tv f):=⟨X5 ha.h hv.h hs⟩
theorem mq {pl:Sem Bool} (he:QE X o ta) (c:Cls X.K C) (hm:Meth X.K C m fa) (F:bI X.prog X.w X.K X.mg X.base CX k fa fd ps sp) (hr:iD k X.A) (hb:Binds X.K fd ps ds) (hd:Vals dvs ds) (hx:Passes CX X E) (ha:QA X (e::es) t)
 (hst:starEach (e::es) X.env=(false,eval e X.env)::starEach es X.env:=by rfl) (hpl:(backTo pos (starEach es X.env)).any (·.1)=false:=by rfl)
 (ht:eval (.Call (.Attribute o m apos) (e::es) [] pos) X.env=(do
   let ov <-eval o X.env
   standAt apos.atName
   let (f,first) <-holding [ov] (getMethod ov m pl)
   callWith pos f first (backTo pos (starEach (e::es) X.env)) (backToKw pos (keywordEach [] X.env))):=by rfl):
 QE X (.Call (.Attribute o m apos) (e::es) [] pos) (JN C m sp dvs E ta t):=⟨Sg he.h c hm F hr hb hd hx ha.h hst hpl ht⟩
theorem Ae {pl:Sem Bool} (he:QE X o ta) (c:Cls X.K C) (hm:Meth X.K C m fa) (F:bI X.prog X.w X.K X.mg X.base CX k fa fd ps sp) (hr:iD k X.A) (hb:Binds X.K fd ps ds) (hd:Vals dvs ds) (hx:Passes CX X E)
 (ht:eval (.Call (.Attribute o m apos) [] [] pos) X.env=(do
   let ov <-eval o X.env
   standAt apos.atName
   let (f,first) <-holding [ov] (getMethod ov m pl)
   callWith pos f first (backTo pos (starEach [] X.env)) (backToKw pos (keywordEach [] X.env))):=by rfl):
 QE X (.Call (.Attribute o m apos) [] [] pos) (JN C m sp dvs E ta R8):=⟨Np he.h c hm F hr hb hd hx ht⟩
theorem xm {x:Str}{p:Pos} (M:Mk X.K C fa) (F:bI X.prog X.w X.K X.mg X.base CX k fa fd ps sp) (hr:iD (k+1) X.A) (hg:Gl X x) (hm:X.mg x=some (.ref C)) (hb:Binds X.K fd ps ds) (hd:Vals dvs ds) (hx:Passes CX X E)
 (ha:QA X (e::es) t) (hdb:(x==("__debug__":Str))=false:=by decide) (he:starEach (e::es) X.env=(false,eval e X.env)::starEach es X.env:=by rfl) (hpl:(backTo pos (starEach es X.env)).any (·.1)=false:=by rfl):
 QE X (.Call (.Name x p) (e::es) [] pos) (VL C sp dvs E t):=⟨Sh M F hr hg hm hb hd hx ha.h hdb he hpl⟩
end
end L2
set_option maxRecDepth 100000
namespace L2
open PySem PySem.Spec PyProof.Rows
theorem dm.some {P:Program}{w:World}{H:Hp}{h:Heap}{a:Addr}{o:HO} (x:dm P w H h a o):∃u,h.get? a=Option.some u:=by
 cases o with
 | lst xs=>obtain⟨_,_,_,_,e⟩:=x;exact⟨_,e⟩
 | tup xs=>obtain⟨_,_,_,_,e,_⟩:=x;exact⟨_,e⟩
 | dK kvs=>obtain⟨_,_,_,_,o,_,_,e,_⟩:=x;exact⟨_,e⟩
 | dT kvs=>obtain⟨_,_,_,_,o,_,_,e,_⟩:=x;exact⟨_,e⟩
 | set S n=>obtain⟨o,_,_,_,e,_⟩:=x;exact⟨_,e⟩
 | ins C dx fs=>obtain⟨_,_,_,e,_⟩:=x;exact⟨_,e⟩
 | own y=>exact x
 | xd fs=>obtain⟨_,⟨_,_,_,e,_⟩,_⟩:=x;exact⟨_,e⟩
 | rng lo hi=>obtain⟨_,_,_,e⟩:=x;exact⟨_,e⟩
 | frz ob u=>obtain⟨e,_⟩:=x;exact⟨_,e⟩
 | tbl ps=>exact⟨_,show h.get? a=Option.some _ from x⟩
 | met f y=>exact⟨_,show h.get? a=Option.some _ from x⟩
 | ext φ=>obtain⟨_,e,_⟩:=x;exact e
def Holds (F:List Addr) (H':Hp) (h h1 B:Heap):Prop:=∀b o,h1.get? b=some o->b∉F->((∃o0,h.get? b=some o0)\/(H' b).isSome=true)->B.get? b=some o
theorem acg {F:List Addr}{H H':Hp}{h h1 h2 B:Heap} (u:Un F [] H H' h h1) (hF:∀b∈F,∃o,h.get? b=some o/\H b=none/\∀vs,o.data≠ .fields vs) (st:B.StaysIn h2) (up:h1.UpToSlots h2) (kc:Holds F H' h h1 B):Un F [] H H' h h2 where
 keep:=fun b o q n hb hx=>st b o (kc b o (u.keep b o q n hb hx) hb (.inl ⟨o,q⟩))
 slot:=fun b o q n hb hx=>by
  obtain⟨sl,e⟩:=u.slot b o q n hb hx
  obtain⟨o',q',_,d⟩:=hF b hb
  rw[q] at q';cases q'
  obtain⟨sl2,e2⟩:=up b _ e d
  exact⟨sl2,e2⟩
 free:=u.free
 there:=fun b o q hx=>by
  by_cases hb:b∈F
  ·obtain⟨o',q',n,d⟩:=hF b hb
   rw[q] at q';cases q'
   obtain⟨sl,e⟩:=u.slot b o q n hb hx
   obtain⟨sl2,e2⟩:=up b _ e d
   exact⟨_,e2⟩
  ·obtain⟨o',e⟩:=u.there b o q hx
   exact⟨o',st b o' (kc b o' e hb (.inl ⟨o,q⟩))⟩
 tups:=u.tups
 frzs:=u.frzs
 tbls:=u.tbls
theorem YZ {P:Program}{w:World}{F:List Addr}{H':Hp}{h h1 h2 B:Heap} (ok:HOk P w H' h1) (hF:∀b∈F,H' b=none) (st:B.StaysIn h2) (kc:Holds F H' h h1 B):HOk P w H' h2:=fun b o q=>
 (ok b o q).stay (fun c v hc r=>by
   have hs:(H' c).isSome=true:=by
    rcases hc with rfl | hc
    ·rw[q];rfl
    ·rw[hc];rfl
   exact st c v (kc c v r (fun hm=>by rw[hF c hm] at hs;cases hs) (.inr hs))) (fun _ z=>z) fun _ _ z=>z
section
variable {X:Cx}{pins:List (Addr×Obj)}{σ:St}{H H':Hp}{s s':Shared}{a:Addr}{cls:Value}
theorem Inv.frm (I:Inv X pins σ H s):∀b∈frs X.stack,∃o,s.heap.get? b=some o/\H b=none/\∀vs,o.data≠ .fields vs:=fun b hb=>by
 obtain⟨_,o,ho,hd⟩:=I.stack.mem hb
 exact⟨o,ho,I.Dv b hb,hd⟩
theorem Inv.landed (I:Inv X pins σ H s) (os:s'.os=s.os) (bare:AllBare s'.gens) (un:Un (frs X.stack) [] H H' s.heap s'.heap) (hok:HOk X.prog X.w H' s'.heap) {B h2:Heap} (kc:Holds (frs X.stack) H' s.heap s'.heap B) (st:B.StaysIn h2) (up:s'.heap.UpToSlots h2):
 Inv X pins σ H' {s' with heap:=h2}:=by
 have hF:=I.frm
 refine I.call' (ch:=[]) (s':={s' with heap:=h2}) os (acg un hF st up kc) (YZ hok (fun b hb=> ?_) st kc) bare fun b z=>absurd z (by simp)
 obtain⟨o,q,n,_⟩:=hF b hb
 exact un.free b o q n (by simp)
theorem FZ {F:List Addr}{B h1 h2:Heap}{h:Heap} (u:Un F [] H H' h h1) (hok:HOk X.prog X.w H' h1) (st:B.StaysIn h2) (kc:Holds F H' h h1 B):Holds F H' h h2 B:=fun b o q nb hb=>by
 obtain⟨o1,q1⟩:∃o1,h1.get? b=some o1:=by
  rcases hb with⟨o0,z⟩ | z
  ·exact u.there b o0 z (by simp)
  ·obtain⟨v,hv⟩:=Option.isSome_iff_exists.mp z
   exact(hok b v hv).some
 have e1:=kc b o1 q1 nb hb
 have e2:=st b o1 e1
 rw[q] at e2;cases e2
 exact e1
end
section
variable {P:Program}{w:World}{K:PySem.W.Frag}{mg:Str->Option Value}{base:Heap}{N:List Str}{qual:Str}{scope:Scope}{f:Addr}{cd:Value}{A:Around}{outer:List Env}{s₀:Shared}{H₀:Hp}{E:XK}
theorem Dh {X:Cx}{pins:List (Addr×Obj)}{σ:St}{H H':Hp}{s:Shared}{h2 B:Heap} (hX:X.ex=[]) (hst:X.stack=X.env::X.outer) (hf:X.env.frame=some X.env.locals) (I:Inv X pins σ H s) (kc:Holds (frs X.stack) H' s.heap h2 B) (fr:H' X.env.locals=none):Holds (frs X.outer) H' X.s₀.heap h2 B:=fun b o q nb hb=>by
 have nL:b≠X.env.locals:=by
  rcases hb with⟨o0,z⟩ | z
  ·exact Nat.ne_of_lt (Nat.lt_of_lt_of_le (Heap.lt_size z) I.ok.above)
  ·intro e;rw[e,fr] at z;cases z
 refine kc b o q ?_ ?_
 ·intro hm
  rw[hst] at hm
  unfold frs at hm
  rw[List.filterMap_cons,hf] at hm
  rcases List.mem_cons.mp hm with e | e
  ·exact nL e
  ·exact nb e
 ·rcases hb with⟨o0,z⟩ | z
  ·exact .inl (I.base.there b o0 z (by rw[hX];simp))
  ·exact .inr z
end
end L2
set_option maxRecDepth 100000
namespace L2
open PySem PySem.Spec PyProof.Rows
section
variable {X:Cx}{pins:List (Addr×Obj)}{σ:St}{H H':Hp}{s s':Shared}{a:Addr}{cls:Value}
abbrev Cx.tryd (X:Cx) (pn:List (Addr×Obj)) (E:Value->Shared->Prop):Cx:={X with pn:=X.pn++pn,xe:=E}
abbrev Cx.held (X:Cx) (e:Value):Cx:={X with A:=X.A.mark (some e),calm:=false,xe:=fun _ _=>False}
theorem Cx.Ok.tryd (ok:X.Ok) (pn:List (Addr×Obj)) (E:Value->Shared->Prop):(X.tryd pn E).Ok:=
 ⟨ok.mod,ok.kind,ok.glob,ok.blt,ok.above,ok.inj,ok.has,ok.cab,ok.hd,ok.frames,ok.stk,ok.exf,ok.bs,ok.bsz,ok.noex,ok.exfs,ok.funs,ok.frf⟩
theorem Cx.Ok.untryd {pn:List (Addr×Obj)}{E:Value->Shared->Prop} (ok:(X.tryd pn E).Ok):X.Ok:=
 ⟨ok.mod,ok.kind,ok.glob,ok.blt,ok.above,ok.inj,ok.has,ok.cab,ok.hd,ok.frames,ok.stk,ok.exf,ok.bs,ok.bsz,ok.noex,ok.exfs,ok.funs,ok.frf⟩
theorem Cx.Ok.held (ok:X.Ok) (e:Value):(X.held e).Ok:=
 ⟨ok.mod,ok.kind,ok.glob,ok.blt,ok.above,ok.inj,ok.has,ok.cab,fun z=>Bool.noConfusion (show false=true from z),ok.frames,ok.stk,ok.exf,ok.bs,ok.bsz,ok.noex,ok.exfs,ok.funs,ok.frf⟩
theorem Inv.tryd (I:Inv X pins σ H s) (E:Value->Shared->Prop):Inv (X.tryd pins E) [] σ H s:=
 ⟨I.ok.tryd pins E,I.os,I.bare,I.base,I.loc,I.cell,I.free,I.lO,fun p hp=>I.pin p (by simpa using hp),I.hok,I.len⟩
theorem Inv.untryd {pn:List (Addr×Obj)}{E:Value->Shared->Prop} (I:Inv (X.tryd pn E) pins σ H s):Inv X pn σ H s:=
 ⟨I.ok.untryd,I.os,I.bare,I.base,I.loc,I.cell,I.free,I.lO,fun p hp=>I.pin p (List.mem_append_left _ hp),I.hok,I.len⟩
theorem Inv.held (I:Inv X pins σ H s) (e:Value):Inv (X.held e) pins σ H s:=⟨I.ok.held e,I.os,I.bare,I.base,I.loc,I.cell,I.free,I.lO,I.pin,I.hok,I.len⟩
theorem Inv.unheld {e:Value} (ok:X.Ok) (I:Inv (X.held e) pins σ H s):Inv X pins σ H s:=⟨ok,I.os,I.bare,I.base,I.loc,I.cell,I.free,I.lO,I.pin,I.hok,I.len⟩
theorem Inv.track {o:HO} (I:Inv X pins σ H s) (hn:H a=none) (h0:X.s₀.heap.get? a=none) (hL:a≠X.env.locals) (hC:∀x c,X.env.cells.lookup x=some c->c≠a) (hp:∀p∈X.pn++pins,p.1≠a)
 (new:dm X.prog X.w (upd H a o) s.heap a o):Inv X pins σ (upd H a o) s:=by
 refine⟨I.ok,I.os,I.bare,⟨fun b u q n hb hx=>I.base.keep b u q n hb hx,fun b u q n hb hx=>I.base.slot b u q n hb hx,fun b u q n hx=> ?_,I.base.there,fun b xs q=> ?_,fun b u v q=> ?_,fun b ps q=> ?_⟩,I.loc,I.cell, ?_,fun x c e=> ?_,fun p q=> ?_,fun b u q=> ?_,I.len⟩
 ·rw[ao (fun z=>by rw[z,h0] at q;cases q)];exact I.base.free b u q n hx
 ·have e:=I.base.tups b xs q
  rw[ao (aC e hn)];exact e
 ·have e:=I.base.frzs b u v q
  rw[ao (aC e hn)];exact e
 ·obtain⟨m,e⟩:=I.base.tbls b ps q
  exact⟨m,by rw[ao (aC e hn)];exact e⟩
 ·rw[ao (Ne.symm hL)];exact I.free
 ·rw[ao (hC x c e)];exact I.lO x c e
 ·obtain⟨e,n,r⟩:=I.pin p q
  exact⟨e,by rw[ao (hp p q)];exact n,r⟩
 ·by_cases hb:b=a
  ·subst hb;rw[ak] at q;cases q;exact new
  ·rw[ao hb] at q
   exact(I.hok b u q).stay (fun c v _ r=>r) (fun c r=>by rw[ao (aC r hn)];exact r) fun c xs r=>by rw[ao (aC r hn)];exact r
theorem Inv.gone {i:Nat}{n:Str}{h':Heap}{v:Option Value}{m:Str->Option Value}{t':Nat} (I:Inv X pins σ H s) (hN:X.N.Nodup) (hi:X.N[i]? =some n) (hl:X.env.scope.names.lookup n=some .local) (hn:s.heap.Ns X.env.locals m)
 (hm:∀(j:Nat) (x:Str) (v:V),X.N[j]? =some x->σ[j]? =some (some v)->Vis X.env.scope x->∃u,RelV v u/\Look X.env s.heap m x u)
 (hn':h'.Ns X.env.locals (fun x=>if x=n then v else m x)) (hs:Heap.SameBut X.env.locals s.heap h'):Inv X pins (σ.set i none) H {s with heap:=h',toks:=t'}:=by
 obtain⟨oL,_,_,hoL,_⟩:=id hn
 have cne:=I.cne
 have lt:∀b o,X.s₀.heap.get? b=some o->b≠X.env.locals:=fun b o e=>Nat.ne_of_lt (Nat.lt_of_lt_of_le (Heap.lt_size e) I.ok.above)
 refine⟨I.ok,I.os,I.bare,⟨fun b o e n hb hx=>(hs.2 b (lt b o e)).trans (I.base.keep b o e n hb hx),fun b o e n hb hx=> ?_,I.base.free,fun b o e hx=> ?_,I.base.tups,I.base.frzs,I.base.tbls⟩,⟨_,hn',fun j y v' e1 e2 e3=> ?_⟩,fun y c e=> ?_,I.free,I.lO,fun p hp=> ?_,fun b ob e=> ?_,by simpa using I.len⟩
 ·obtain⟨sl,e1⟩:=I.base.slot b o e n hb hx
  exact⟨sl,(hs.2 b (lt b o e)).trans e1⟩
 ·obtain⟨o',e1⟩:=I.base.there b o e hx
  exact⟨o',(hs.2 b (lt b o e)).trans e1⟩
 ·by_cases hj:j=i
  ·subst hj
   have hiσ:j<σ.length:=by rw[I.len];exact(List.getElem?_eq_some_iff.mp hi).1
   rw[List.getElem?_set_self hiσ] at e2
   cases e2
  ·rw[List.getElem?_set_ne (Ne.symm hj)] at e2
   obtain⟨u',r',q⟩:=hm j y v' e1 e2 e3
   refine⟨u',r', ?_⟩
   rcases q with⟨k,e⟩ | ⟨k,c,e,z⟩
   ·refine .inl ⟨k, ?_⟩
    have:y≠n:=fun e=>hj (zK hN e1 (e▸hi))
    simp[this,e]
   ·exact .inr ⟨k,c,e,z.sameBut hs (cne y c e)⟩
 ·obtain⟨w',z⟩:=I.cell y c e
  exact⟨w',z.sameBut hs (cne y c e)⟩
 ·obtain⟨e,n,ne,nf,d⟩:=I.pin p hp
  exact⟨(hs.2 p.1 ne).trans e,n,ne,nf,d⟩
 ·refine(I.hok b ob e).stay (fun c w' hc q=>(hs.2 c ?_).trans q) (fun _ q=>q) fun _ _ q=>q
  have fr:=I.free
  rintro rfl
  rcases hc with rfl | hc
  ·rw[fr] at e;cases e
  ·rw[fr] at hc;cases hc
def Kf (CX:CXT) (X:Cx) (E:St->XK):Prop:=∀(pins:List (Addr×Obj)) (σ:St) (H:Hp) (s:Shared) (e:Value) (s':Shared),Inv X pins σ H s->CX X.stack H s (E σ) e s'->X.xe e s'
end
section
variable {X:Cx}{x n:Str}{i:Nat}{C:Addr}{np hpos pos:Pos}{body suite:List Stmt}{b₀:Stmt}{tb:(St->XK)->TS}{th:TS}
end
end L2
set_option maxRecDepth 100000
namespace L2
open PySem PySem.Spec PyProof.Rows PySem.W
section
variable {prog:Program}{w:World}{A:Around}{E:Value->Shared->Prop}{h:Heap}{g:Array GenState}{d:Drawn}{t:Nat}{os:OsState}{K:PySem.W.Frag}{a C:Addr}{o:Obj}
structure ExK (K:PySem.W.Frag) (C:Addr):Prop where
 ga:PySem.W.findIn K (.ref C) "__getattribute__"=some (some (.builtin "BaseException.__getattribute__"))
 gh:PySem.W.findIn K (.ref C) "__getattr__"=some none
 cl:PySem.W.findIn K (.ref C) "__class__"=some (some (.builtin "object.__class__"))
 be:PySem.W.mroIn K C (.type "BaseException")=some true
 ob:PySem.W.mroIn K C (.type "object")=some true
 cs:(PySem.W.clsIn K C).isSome=true
theorem Ti {R:Result->Shared->Prop} (X:K.In h) (k:ExK K C) (hx:h.get? a=some o) (hc:o.cls= .ref C) (hq:R (.ok (.ret (.ref C))) ⟨h,g,d,t,os⟩):
 codeAny (model prog w) A (.call (.builtin "getset_descriptor.__get__") ⟨[.builtin "object.__class__", .ref a, .ref C],[]⟩) R ⟨h,g,d,t,os⟩:=by
 have hT5:(⟨h,g,d,t,os⟩:Shared).TypeIs (.builtin "object.__class__") "getset_descriptor":=PySem.F.typeOf_object_class
 have LO:Looks (model prog w) h (isSubtype (.ref C) (.type (".".intercalate ("object.__class__".cutAt '.').dropLast))) true:=by
  rw[PySem.F.owner_object_class];exact looks_mroIn X k.ob
 refine codeAny_call_builtin PySem.F.slot_gs_get.plain PySem.F.entry_gs_get (PySem.F.slot_gs_get.check _ _ _ _ _ _ _ _ hT5 (PySem.F.args_gs_get _ _ _) ?_)
 repeat (any_goals (first | assumption | (with_reducible refine wpAny_loadPart_at hx ?_;rw[hc]) | with_reducible refine LO.at ?_ | wp_step))
 refine⟨Code.quiet_builtin _ (by decide +kernel),codeAny_builtin PySem.F.entry_object_class ?_⟩
 repeat (any_goals (first | assumption | (with_reducible refine wpAny_loadPart_at hx ?_;rw[hc]) | wp_step))
theorem LQ {tk:Tok}{Q:Fin->Shared->Prop} (X:K.In h) (k:ExK K C) (hx:h.get? a=some o) (hc:o.cls= .ref C) (hq:Q (.done (.ret (.ref C))) ⟨h,g,d,t,os⟩):
 wpAny (model prog w) A (Builtin.«object.__getattribute__» ⟨[.ref a, .str "__class__" tk],[]⟩) Q E ⟨h,g,d,t,os⟩:=by
 have hT5:(⟨h,g,d,t,os⟩:Shared).TypeIs (.builtin "object.__class__") "getset_descriptor":=PySem.F.typeOf_object_class
 have f5:=PySem.F.typeOf_object_class
 have f6:=PySem.F.slot_gs_get.lookup
 have f7:=PySem.F.slot_gs_set.lookup
 have LC:=looks_findIn (M:=model prog w) X k.cl
 repeat (any_goals (first | assumption | (with_reducible refine wpAny_loadPart_at hx ?_;rw[hc]) | with_reducible refine LC.at ?_ | wp_step))
 refine Ti X k hx hc ?_
 repeat (any_goals (first | assumption | wp_step))
theorem Di {M:Model}{v:Value}{Q:Unit->Shared->Prop} (X:K.In h) (k:ExK K C) (hx:h.get? a=some o) (hc:o.cls= .ref C) (q:Q () ⟨h,g,d,t,os⟩):wpAny M A (checkBuiltinCall "BaseException.__getattribute__" ⟨[.ref a,v],[]⟩) Q E ⟨h,g,d,t,os⟩:=by
 have bk:builtinKind "BaseException.__getattribute__"=some .slot:=by decide +kernel
 have bs:splitId "BaseException.__getattribute__"=some ("BaseException","__getattribute__"):=by decide +kernel
 have LB:=looks_mroIn (M:=M) X k.be
 have ar:=PySem.F.args_bexc_ga (.ref a) v
 simp only[checkBuiltinCall,bk,bs]
 refine wpAny_bind ?_
 unfold isInstance
 repeat (first | (with_reducible refine wpAny_loadPart_at hx ?_;rw[hc]) | with_reducible refine LB.at ?_ | wp_step)
 exact q
theorem Ou {tk:Tok}{R:Result->Shared->Prop} (X:K.In h) (k:ExK K C) (hx:h.get? a=some o) (hc:o.cls= .ref C) (hq:R (.ok (.ret (.ref C))) ⟨h,g,d,t,os⟩):
 codeAny (model prog w) A (.call (.builtin "BaseException.__getattribute__") ⟨[.ref a, .str "__class__" tk],[]⟩) R ⟨h,g,d,t,os⟩:=
 codeAny_call_builtin (by decide +kernel) PySem.F.entry_bexc_ga (Di X k hx hc (LQ X k hx hc hq))
theorem Y0 {tk:Tok}{Q:Value->Shared->Prop} (X:K.In h) (k:ExK K C) (hx:h.get? a=some o) (hc:o.cls= .ref C) (hq:Q (.ref C) ⟨h,g,d,t,os⟩):
 wpAny (model prog w) A (getAttrBy (.ref a) (.str "__class__" tk) false) Q E ⟨h,g,d,t,os⟩:=by
 have hx2:(Value.builtin "BaseException.__getattribute__"==Value.builtin "object.__getattribute__")=false:=by decide +kernel
 have hx1:(onTheHeap (Value.ref C)&&Value.builtin "BaseException.__getattribute__"==Value.builtin "object.__getattribute__")=false:=by rw[hx2];rfl
 have LG:=looks_findIn (M:=model prog w) X k.ga
 have LH:=looks_findIn (M:=model prog w) X k.gh
 have hp:plainId "BaseException.__getattribute__"=true:=by decide +kernel
 have f3:bindSpecial (.builtin "BaseException.__getattribute__") (.ref a)=pure (.builtin "BaseException.__getattribute__",[.ref a]):=by
  have hop:withoutEnding? "BaseException.__getattribute__" "#opaque"=none:=by decide +kernel
  have hdat:withoutEnding? "BaseException.__getattribute__" "#data"=none:=by decide +kernel
  have hk:builtinKind "BaseException.__getattribute__"=some .slot:=by decide +kernel
  simp only[bindSpecial,typeOf,builtinType,hop,hdat,hk];rfl
 repeat (any_goals (first | assumption | (with_reducible refine wpAny_loadPart_at hx ?_;rw[hc]) | with_reducible refine LG.at ?_ | with_reducible refine LH.at ?_ | wp_step))
 refine Ou X k hx hc ?_
 repeat (any_goals (first | assumption | wp_step))
theorem LR {Q:Option Value->Shared->Prop} (X:K.In h) (k:ExK K C) (hx:h.get? a=some o) (hc:o.cls= .ref C) (hq:Q (some (.ref C)) ⟨h,g,d,t+1,os⟩):wpAny (model prog w) A (getAttr? (.ref a) "__class__") Q E ⟨h,g,d,t,os⟩:=by
 unfold getAttr? getAttrBy?
 repeat (any_goals (first | assumption | with_reducible apply Y0 X k hx hc | wp_step))
theorem Ov (k:ExK K C):KitX K (.ref a) (.ref C) (fun h=>∃o,h.get? a=some o/\o.cls= .ref C) where
 ty:=fun M h _ p=>by
  obtain⟨o,h1,h2⟩:=p
  rw[<-h2]
  exact(Looks.ld h1).andThen .now
 it:=fun _ _ X _=>by
  obtain⟨cdD,hcD⟩:=Option.isSome_iff_exists.mp k.cs
  unfold clsIn at hcD
  split at hcD
  ·rename_i ho
   intro A' Q' E' s' k q
   unfold isType loadHead
   exact wpAny_bind (wpAny_loadPart (k _ _ (X _ _ ho)) (wpAny_pure q))
  ·cases hcD
 ne:=fun h tp dd its n sl X htp=>by
  obtain⟨cdD,hcD⟩:=Option.isSome_iff_exists.mp k.cs
  refine Bool.eq_false_iff.mpr fun q=> ?_
  have e:C=tp:=Value.ref.inj (beq_iff_eq.mp q)
  subst e
  unfold clsIn at hcD
  split at hcD
  ·rename_i ho
   have z:=(X _ _ ho).symm.trans htp
   cases z
  ·cases hcD
 ca:=fun{_ _ _ _ _ s} X p q=>by
  obtain⟨h,g,d,t,os⟩:=s
  obtain⟨o,h1,h2⟩:=p
  exact LR X k h1 h2 q
end
end L2
set_option maxRecDepth 100000
namespace L2
open PySem PySem.Spec PyProof.Rows
section
variable {X:Cx}{pins:List (Addr×Obj)}{σ:St}{H H':Hp}{s s':Shared}
inductive ClV:V->Value->Prop where
 | ty (T:String):ClV (.ty T) (.type T)
 | own (D:Addr):ClV (.ref D) (.ref D)
theorem ClV.rel {v:V}{c u:Value} (h:ClV v c) (r:RelV v u):u=c:=by
 cases h with
 | ty T=>exact r
 | own D=>exact r
theorem BW:bootBuiltins "ValueError"=some (.type "ValueError"):=by decide +kernel
def tFr (ta:TE):TE:=fun σ H Q=>ta σ H fun x H1=>∃y,x= .str y/\y.length<=1000/\(∀c∈y.cps.toList,c<16 ^ 8)/\∀z:Str,z.length<=100000->Q (.str z) H1
end
section
variable {P:Program}{w:World}{K:PySem.W.Frag}{mg:Str->Option Value}{base:Heap}{N:List Str}{qual:Str}{scope:Scope}{f:Addr}{cd:Value}{A:Around}{outer:List Env}{s₀:Shared}{H₀:Hp}{E:XK}
end
section
variable {X:Cx}{CX:CXT}{k:Nat}{f:Addr}{fd:FuncData}{ps:List Str}{sp:Sp}{dvs:List V}{ds:List Value}{E:St->XK}{x:Str}{p pos:Pos}{e:Expr}{es:List Expr}{t:TA}
def Y4 (sp:Sp) (dvs:List V) (E:St->XK) (t:TA):TE:=fun σ H Q=>t σ H fun vs H1=>sp (vs++dvs) H1 Q (E σ)
theorem Tj {pins:List (Addr×Obj)}{σ:St}{H:Hp}{s:Shared}{Q:VK}{us:List Value}{vs:List V} (F:bI X.prog X.w X.K X.mg X.base CX k f fd ps sp) (hr:iD k X.A) (hb:Binds X.K fd ps ds) (hd:Vals dvs ds) (hx:Kf CX X E)
 (I:Inv X pins σ H s) (r:Vals vs us) (h:sp (vs++dvs) H Q (E σ)):wpAny (model X.prog X.w) X.A (call (.ref f) us) (EP X pins σ Q) X.xe s:=by
 have r2:Vals (vs++dvs) (us++ds):=r.append hd
 have hl:(us++ds).length=ps.length:=by rw[<-r2.length];exact F.len _ _ _ _ h
 refine wpAny_call (codeAny_mono (F.run X.A X.stack s H ⟨us,[]⟩ (us++ds) (vs++dvs) Q (E σ) hr I.env0 (hb s us I.kIn hl) r2 h) fun r s' hq=> ?_)
 cases r with
 | error e=>exact hx pins σ H s e s' I hq
 | ok fl=>
   cases fl with
   | ret u=>exact I.after hq
   | next=>exact False.elim hq
   | brk=>exact False.elim hq
   | cont=>exact False.elim hq
theorem Ga (F:bI X.prog X.w X.K X.mg X.base CX k f fd ps sp) (hr:iD k X.A) (hg:Gl X x) (hm:X.mg x=some (.ref f)) (hk:PySem.W.keepIn X.K (.ref f)=true) (hb:Binds X.K fd ps ds) (hd:Vals dvs ds) (hx:Kf CX X E)
 (ha:QA X (e::es) t) (hdb:(x==("__debug__":Str))=false) (he:starEach (e::es) X.env=(false,eval e X.env)::starEach es X.env:=by rfl) (hpl:(backTo pos (starEach es X.env)).any (·.1)=false:=by rfl):
 QE X (.Call (.Name x p) (e::es) [] pos) (Y4 sp dvs E t):=⟨by
 intro pins s σ H Q I h
 refine wpAny_Call_Name_kw (qI I hg hm ?_ hdb)
 refine PySem.W.callWith_K (h₀:=X.base) I.ok.mod.kin hk (thn (ha.h pos pins s σ H _ I h) fun us s1 ⟨vs,H1,I1,r,q⟩=>⟨I1.kIn, ?_⟩) he hpl
 exact Tj F hr hb hd hx I1 r q⟩
end
end L2
namespace RB
open PySem L2 PySem.Spec PyProof.Rows
end RB
set_option maxRecDepth 100000
namespace L2
open PySem PySem.Spec PyProof.Rows
section
variable {X:Cx}{x:Str}{C:Addr}{np hpos pos:Pos}{body suite:List Stmt}{b₀:Stmt}{tb:(St->XK)->TS}{th:TS}
end
end L2
set_option maxRecDepth 100000
namespace L2
open PySem PySem.Spec PyProof.Rows
section
variable {X:Cx}{pins:List (Addr×Obj)}{σ:List (Option V)}{H:Hp}{s:Shared}{h':Heap}
theorem Inv.zF {t':Nat}{ch:List Addr} (I:Inv X pins σ H s) (hf:∀b∈ch,yf X pins H b) (k:∀b o,b∉ch->s.heap.get? b=some o->h'.get? b=some o):Inv X pins σ H {s with heap:=h',toks:=t'}:=by
 have nit:∀b u,H b=some u->b∉ch:=fun b u e z=>by rw[(hf b z).1] at e;cases e
 refine I.step (g':=s.gens) (d':=s.drawn) (ch:=ch) (fun b hb=> ?_) (fun b o _ _ hc e _=>k b o hc e) (fun b o _ _ hc e _=>⟨o.slots,k b o hc e⟩) (fun _ _ _ _ n=>n)
  (fun b o hc e=>⟨o,k b o hc e⟩) (fun _ _ e=>e) (fun _ _ _ e=>e) (fun b ps e=>⟨#[],by rw[e];simp⟩) (fun m hm=> ?_) (fun b u e=> ?_) I.bare
 ·obtain⟨_,f1,_,f3,f4,f5⟩:=hf b hb
  exact⟨f3,f1,f4,f5⟩
 ·obtain⟨o,es,ep,ho,r⟩:=hm
  exact⟨o,es,ep,k _ o (fun z=>(hf _ z).2.1 rfl) ho,r⟩
 ·refine(I.hok b u e).stay (fun c v hc q=>k c v ?_ q) (fun _ q=>q) fun _ _ q=>q
  rcases hc with z | z
  ·rw[z];exact nit b u e
  ·exact nit c _ z
end
end L2
set_option maxRecDepth 100000
namespace RB
open PySem L2 PySem.Spec PyProof.Rows
section
variable {prog:Program}{w:World}{A:Around}{R:Result->Shared->Prop}{I:Addr}{fp wr:List Addr}{G:Array GenState->Array GenState->Prop}{n:Nat}{P:Nat->Value->Prop}{St:Nat->Shared->Prop}
end
end RB
set_option maxRecDepth 100000
namespace RB
open PySem L2 PySem.Spec PyProof.Rows
section
variable {prog:Program}{w:World}{A:Around}{E:Value->Shared->Prop}{s:Shared}
end
end RB
set_option maxRecDepth 100000
namespace L2
open PySem PySem.Spec PyProof.Rows RB
section
variable {X:Cx}
end
end L2
set_option maxRecDepth 100000
namespace RB
open PySem L2 PySem.Spec PyProof.Rows
structure eV (K:PySem.W.Frag) (C:Addr) (x qual:Str) (st:Stmt) (ps:List Str) (f:Addr) (fd:FuncData):Prop where
 F:Fun K x qual st f fd
 b:Binds K fd ps []
 m:Meth K C x f
end RB
set_option maxRecDepth 100000
namespace RB
open PySem L2 PySem.Spec PyProof.Rows
end RB
set_option maxRecDepth 100000
namespace RB
open PySem L2 PySem.Spec PyProof.Rows
end RB
set_option maxRecDepth 100000
namespace RB
open PySem L2 PySem.Spec PyProof.Rows
end RB
set_option maxRecDepth 100000
namespace RB
open PySem L2 PySem.Spec PyProof.Rows
theorem kY {X:Cx}{pos:Pos}:QE X (.Dict [] [] pos) Nz:=⟨NB⟩
end RB
set_option maxRecDepth 100000
namespace RB
open PySem L2 PySem.Spec PyProof.Rows
end RB
set_option maxRecDepth 100000
namespace RB
open PySem L2 PySem.Spec PyProof.Rows
end RB
set_option maxRecDepth 100000
namespace RB
open PySem L2 PySem.Spec PyProof.Rows
theorem Im {d:PyData} (h:SeqAt.shaped d=true):d.canLay0=true:=by
 have h':(d.canLay0&&decide (d.depth<=64))=true:=h
 rw[Bool.and_eq_true] at h'
 exact h'.1
end RB
set_option maxRecDepth 100000
namespace RB
open PySem L2 PySem.Spec PyProof.Rows
end RB
set_option maxRecDepth 100000
namespace RB
open PySem L2 PySem.Spec PyProof.Rows
end RB
set_option maxRecDepth 100000
namespace RB
open PySem L2 PySem.Spec PyProof.Rows
end RB
set_option maxRecDepth 100000
namespace RB
open PySem L2 PySem.Spec PyProof.Rows
end RB
set_option maxRecDepth 100000
namespace RB
open PySem L2 PySem.Spec PyProof.Rows PySem.NumText
end RB
set_option maxRecDepth 100000
namespace RB
open PySem L2 PySem.Spec PyProof.Rows PySem.NumText
end RB
set_option maxRecDepth 100000
namespace L2
open PySem PySem.Spec PyProof.Rows
section
variable {prog:Program}{w:World}{A:Around}{E:Value->Shared->Prop}
end
section
variable {X:Cx}{pos:Pos}
theorem Kg (hc:X.calm=true):vN X (.builtin "max") (fun xs H Q=>∃i j,xs=[.int i, .int j]/\Q (.int (if j>i then j else i)) H):=⟨Lb hc⟩
theorem Tn (hc:X.calm=true):vN X (.builtin "min") (fun xs H Q=>∃i j,xs=[.int i, .int j]/\Q (.int (if j<i then j else i)) H):=⟨Ld hc⟩
end
end L2
namespace RB
open PySem L2 PySem.Spec PyProof.Rows
end RB
set_option maxRecDepth 100000
namespace L2
open PySem PySem.Spec PyProof.Rows
end L2
namespace RB
open PySem L2 PySem.Spec PyProof.Rows
end RB
set_option maxRecDepth 100000
namespace RB
open PySem L2 PySem.Spec PyProof.Rows
theorem Tp {α:Type}{l m:List α}{y:α} (h:l=m++[y]):atI l (-1)=some y:=by
 subst h
 unfold atI ixN
 have hl:(m++[y]).length=m.length+1:=by simp
 rw[hl,if_neg (by omega),if_pos (by omega)]
 show(m++[y])[((m.length+1:Nat)+(-1:Int)).toNat]? =some y
 rw[show(((m.length+1:Nat):Int)+(-1)).toNat=m.length by omega]
 simp
end RB
set_option maxRecDepth 100000
namespace RB
open PySem L2 PySem.Spec PyProof.Rows
end RB
set_option maxRecDepth 100000
namespace RB
open PySem L2 PySem.Spec PyProof.Rows
abbrev Rdp:=Str×Int
def rdV (p:Rdp):List V:=[.str p.1, .int p.2]
inductive jn (H:Hp):List Addr->List Rdp->Prop where
 | nil:jn H [] []
 | cons {a:Addr}{p:Rdp}{as:List Addr}{ps:List Rdp} (h:H a=some (.tup (rdV p))) (t:jn H as ps):jn H (a::as) (p::ps)
theorem jn.tups {H H':Hp} (t:jU H H') {as:List Addr}{ps:List Rdp} (h:jn H as ps):jn H' as ps:=by
 induction h with
 | nil=>exact .nil
 | cons h _ ih=>exact .cons (t _ _ h) ih
theorem jn.same {H H':Hp} (s:aO H H') {as:List Addr}{ps:List Rdp} (h:jn H as ps):jn H' as ps:=h.tups (aO.tups s)
theorem jn.length {H:Hp}{as:List Addr}{ps:List Rdp} (h:jn H as ps):as.length=ps.length:=by
 induction h with
 | nil=>rfl
 | cons _ _ ih=>simp[ih]
theorem jn.get {H:Hp}{as:List Addr}{ps:List Rdp} (h:jn H as ps):∀(i:Nat) (a:Addr),as[i]? =some a->∃p,ps[i]? =some p/\H a=some (.tup (rdV p)):=by
 induction h with
 | nil=>intro i a e;simp at e
 | @cons b p as ps h t ih=>
   intro i a e
   cases i with
   | zero=>have:b=a:=by simpa using e
           subst this;exact⟨_,rfl,h⟩
   | succ i=>exact ih i a (by simpa using e)
theorem Y5 {vs:List V}{k:Nat}:tM vs none (some (k:Int))=vs.take k:=by
 unfold tM
 rw[HT.zB,show HT.sIx vs.length 0 none=0 from rfl,List.drop_zero,Nat.sub_zero]
 by_cases h:k<=vs.length
 ·rw[show min k vs.length=k by omega]
 ·rw[show min k vs.length=vs.length by omega,List.take_length,List.take_of_length_le (by omega)]
theorem pX {vs:List V}{k:Nat}:tM vs (some (k:Int)) none=vs.drop k:=by
 unfold tM
 rw[HT.zB]
 show(vs.drop (min k vs.length)).take (vs.length - min k vs.length)=_
 rw[List.take_of_length_le (by rw[List.length_drop];omega)]
 by_cases h:k<=vs.length
 ·rw[show min k vs.length=k by omega]
 ·rw[show min k vs.length=vs.length by omega,List.drop_length,List.drop_of_length_le (by omega)]
end RB
namespace RB
open PySem L2 PySem.Spec PyProof.Rows
end RB
set_option maxRecDepth 100000
namespace L2
open PySem PySem.Spec PyProof.Rows
end L2
namespace RB
open PySem L2 PySem.Spec PyProof.Rows
end RB
set_option maxRecDepth 100000
namespace L2
open PySem PySem.Spec PyProof.Rows
theorem Tq {X:Cx}{es:List Expr}{pos:Pos}{K:PySem.W.Frag}{k n:Nat}{t:TGs} (eK:X.K=K) (hc:X.calm=true) (h:QGs X es t) (hn:(assignEach es X.env).length=n:=by rfl) (hst:(assignEach es X.env).findIdx? (·.1)=none:=by rfl):QG X (.Tuple es k pos) (Xx K n t):=eK▸Ij hc h hn hst
end L2
namespace RB
open PySem L2 PySem.Spec PyProof.Rows
theorem SqL.same {K:PySem.W.Frag}{H H':Hp}{a:Addr}{xs:List V} (s:aO H H') (h:SqL K H a xs):SqL K H' a xs:=by
 rcases h with(e | ⟨o,e⟩) | h
 ·exact .inl (.inl (s _ _ e))
 ·exact .inl (.inr ⟨o,s _ _ e⟩)
 ·exact .inr h
theorem iM {S:List Addr}{H0 H H':Hp} (s:aO H0 H) (hS:∀p∈S,H0 p=none) (b:But S H H'):aO H0 H':=fun a o e=>b a o (fun z=>by rw[hS a z] at e;cases e) (s a o e)
end RB
set_option maxRecDepth 100000
namespace RB
open PySem L2 PySem.Spec PyProof.Rows
abbrev Kn:=Str->Option Int
def Kn.put (kn:Kn) (x:Str) (v:Int):Kn:=fun y=>if y=x then some v else kn y
def Kn.puts:Kn->List Rdp->Kn
 | kn,[]=>kn
 | kn,p::ps=>(kn.put p.1 p.2).puts ps
def Kn.Le (kn kn':Kn):Prop:=∀x v,kn x=some v->kn' x=some v
theorem Kn.Le.refl (kn:Kn):Kn.Le kn kn:=fun _ _ h=>h
theorem Kn.Le.trans {a b c:Kn} (h:Kn.Le a b) (g:Kn.Le b c):Kn.Le a c:=fun x v z=>g x v (h x v z)
theorem Kn.tY {kn:Kn}{x:Str}{v:Int} (h:kn x=none):Kn.Le kn (kn.put x v):=fun y u z=>by
 unfold Kn.put
 rw[if_neg (fun e=>by rw[e,h] at z;cases z)];exact z
def Op.ap:Op->Int->Int->Int
 | .plus,u,v=>u+v
 | .minus,u,v=>u - v
 | .times,u,v=>u * v
 | .most,u,v=>if v>u then v else u
def pY (ns:List Str) (u:Int):Option Str:=ns[(u % (ns.length:Int)).toNat]?
def look (kn:Kn) (x:Str):Str ⊕ Int:=match kn x with
 | some v=> .inr v
 | none=> .inl x
def ev (kn:Kn):R->Str ⊕ Int
 | .num n=> .inr n
 | .rd x=>look kn x
 | .bin op a b=>match ev kn a with
   | .inl x=> .inl x
   | .inr u=>match ev kn b with
     | .inl x=> .inl x
     | .inr v=> .inr (op.ap u v)
 | .pick a b c=>match ev kn a with
   | .inl x=> .inl x
   | .inr u=>if u>0 then ev kn b else ev kn c
 | .cho a ns=>match ev kn a with
   | .inl x=> .inl x
   | .inr u=>match pY ns u with
     | none=> .inr 0
     | some x=>look kn x
theorem Kh {kn kn':Kn} (h:Kn.Le kn kn') {x:Str}{v:Int} (e:look kn x= .inr v):look kn' x= .inr v:=by
 unfold look at e ⊢
 cases z:kn x with
 | none=>rw[z] at e;cases e
 | some u=>rw[z] at e;rw[h x u z];exact e
theorem pZ {kn:Kn}{x y:Str} (e:look kn x= .inl y):y=x/\kn x=none:=by
 unfold look at e
 cases z:kn x with
 | none=>rw[z] at e;cases e;exact⟨rfl,rfl⟩
 | some u=>rw[z] at e;cases e
theorem mz {kn:Kn}:∀{r:R}{x:Str},ev kn r= .inl x->kn x=none
 | .num n,x,h=>by cases h
 | .rd y,x,h=>by obtain⟨rfl,h⟩:=pZ h;exact h
 | .bin op a b,x,h=>by
   simp only[ev] at h
   cases ea:ev kn a with
   | inl y=>rw[ea] at h;cases h;exact mz ea
   | inr u=>
     rw[ea] at h
     cases eb:ev kn b with
     | inl y=>rw[eb] at h;cases h;exact mz eb
     | inr v=>rw[eb] at h;cases h
 | .pick a b c,x,h=>by
   simp only[ev] at h
   cases ea:ev kn a with
   | inl y=>rw[ea] at h;cases h;exact mz ea
   | inr u=>
     rw[ea] at h
     simp only at h
     split at h
     ·exact mz h
     ·exact mz h
 | .cho a ns,x,h=>by
   simp only[ev] at h
   cases ea:ev kn a with
   | inl y=>rw[ea] at h;cases h;exact mz ea
   | inr u=>
     rw[ea] at h
     simp only at h
     cases ep:pY ns u with
     | none=>rw[ep] at h;cases h
     | some y=>rw[ep] at h;obtain⟨rfl,h⟩:=pZ h;exact h
theorem kZ {kn kn':Kn} (hk:Kn.Le kn kn'):∀{r:R}{v:Int},ev kn r= .inr v->ev kn' r= .inr v
 | .num n,v,h=>h
 | .rd y,v,h=>Kh hk h
 | .bin op a b,v,h=>by
   simp only[ev] at h ⊢
   cases ea:ev kn a with
   | inl y=>rw[ea] at h;cases h
   | inr u=>
     rw[ea] at h;rw[kZ hk ea]
     cases eb:ev kn b with
     | inl y=>rw[eb] at h;cases h
     | inr w=>rw[eb] at h;rw[kZ hk eb];exact h
 | .pick a b c,v,h=>by
   simp only[ev] at h ⊢
   cases ea:ev kn a with
   | inl y=>rw[ea] at h;cases h
   | inr u=>
     rw[ea] at h;rw[kZ hk ea]
     simp only at h ⊢
     split at h
     ·rw[if_pos (by assumption)];exact kZ hk h
     ·rw[if_neg (by assumption)];exact kZ hk h
 | .cho a ns,v,h=>by
   simp only[ev] at h ⊢
   cases ea:ev kn a with
   | inl y=>rw[ea] at h;cases h
   | inr u=>
     rw[ea] at h;rw[kZ hk ea]
     simp only at h ⊢
     cases ep:pY ns u with
     | none=>rw[ep] at h;exact h
     | some y=>rw[ep] at h;exact Kh hk h
inductive Stp where
 | r (r:R) | branch (s t:R) | among (ns:List Str) | join (op:Op)
structure Cf where
 todo:List Stp
 found:List Int
 rds:List Rdp
def rR (ps:List Rdp) (x:Str) (v:Int):List Rdp:=
 if(ps.any fun p=>decide (p.1=x))=true then ps.map (fun p=>if p.1=x then(p.1,v) else p) else ps++[(x,v)]
inductive St1 (kn:Kn):Cf->Cf->Prop where
 | num {t f d n}:St1 kn ⟨t++[.r (.num n)],f,d⟩ ⟨t,f++[n],d⟩
 | rd {t f d x v} (h:kn x=some v):St1 kn ⟨t++[.r (.rd x)],f,d⟩ ⟨t,f++[v],rR d x v⟩
 | bin {t f d op a b}:St1 kn ⟨t++[.r (.bin op a b)],f,d⟩ ⟨t++[.join op, .r b, .r a],f,d⟩
 | pick {t f d a b c}:St1 kn ⟨t++[.r (.pick a b c)],f,d⟩ ⟨t++[.branch b c, .r a],f,d⟩
 | cho {t f d a ns}:St1 kn ⟨t++[.r (.cho a ns)],f,d⟩ ⟨t++[.among ns, .r a],f,d⟩
 | branch {t f d b c v}:St1 kn ⟨t++[.branch b c],f++[v],d⟩ ⟨t++[.r (if v>0 then b else c)],f,d⟩
 | among {t f d ns v x} (h:pY ns v=some x):St1 kn ⟨t++[.among ns],f++[v],d⟩ ⟨t++[.r (.rd x)],f,d⟩
 | join {t f d op u v} (h:op= .times->wZ u v):St1 kn ⟨t++[.join op],f++[u,v],d⟩ ⟨t,f++[op.ap u v],d⟩
inductive StN (kn:Kn):Nat->Cf->Cf->Prop where
 | zero {c}:StN kn 0 c c
 | succ {n c c1 c2} (h:St1 kn c c1) (t:StN kn n c1 c2):StN kn (n+1) c c2
theorem StN.add {kn:Kn}{n m:Nat}{a b c:Cf} (h:StN kn n a b) (g:StN kn m b c):StN kn (n+m) a c:=by
 induction h with
 | zero=>rw[Nat.zero_add];exact g
 | succ h _ ih=>rw[Nat.succ_add];exact .succ h (ih g)
theorem St1.le {kn kn':Kn} (hk:Kn.Le kn kn') {a b:Cf} (h:St1 kn a b):St1 kn' a b:=by
 cases h with
 | num=>exact .num
 | rd h=>exact .rd (hk _ _ h)
 | bin=>exact .bin
 | pick=>exact .pick
 | cho=>exact .cho
 | branch=>exact .branch
 | among h=>exact .among h
 | join h=>exact .join h
theorem StN.le {kn kn':Kn} (hk:Kn.Le kn kn') {n:Nat}{a b:Cf} (h:StN kn n a b):StN kn' n a b:=by
 induction h with
 | zero=>exact .zero
 | succ h _ ih=>exact .succ (h.le hk) ih
theorem iQ {α:Type}{s t:List α}{x y:α} (h:s++[x]=t++[y]):s=t/\x=y:=by
 have:=List.append_inj' h rfl
 exact⟨this.1,by simpa using this.2⟩
theorem Ma {α:Type}{s t:List α}{x y u v:α} (h:s++[x,y]=t++[u,v]):s=t/\x=u/\y=v:=by
 have:=List.append_inj' h rfl
 exact⟨this.1,by simpa using this.2⟩
def St1.Inv (kn:Kn) (f:List Int) (d:List Rdp) (t:List Stp) (c':Cf):Stp->Prop
 | .r (.num n)=>c'=⟨t,f++[n],d⟩
 | .r (.rd x)=>∃v,kn x=some v/\c'=⟨t,f++[v],rR d x v⟩
 | .r (.bin op a b)=>c'=⟨t++[.join op, .r b, .r a],f,d⟩
 | .r (.pick a b c)=>c'=⟨t++[.branch b c, .r a],f,d⟩
 | .r (.cho a ns)=>c'=⟨t++[.among ns, .r a],f,d⟩
 | .branch b c=>∃g v,f=g++[v]/\c'=⟨t++[.r (if v>0 then b else c)],g,d⟩
 | .among ns=>∃g v x,f=g++[v]/\pY ns v=some x/\c'=⟨t++[.r (.rd x)],g,d⟩
 | .join op=>∃g u v,f=g++[u,v]/\(op= .times->wZ u v)/\c'=⟨t,g++[op.ap u v],d⟩
theorem St1.inv {kn:Kn}{c c':Cf} (h:St1 kn c c'):∀t s,c.todo=t++[s]->St1.Inv kn c.found c.rds t c' s:=by
 cases h with
 | num=>intro t s e;obtain⟨rfl,rfl⟩:=iQ e;exact rfl
 | rd h=>intro t s e;obtain⟨rfl,rfl⟩:=iQ e;exact⟨_,h,rfl⟩
 | bin=>intro t s e;obtain⟨rfl,rfl⟩:=iQ e;exact rfl
 | pick=>intro t s e;obtain⟨rfl,rfl⟩:=iQ e;exact rfl
 | cho=>intro t s e;obtain⟨rfl,rfl⟩:=iQ e;exact rfl
 | branch=>intro t s e;obtain⟨rfl,rfl⟩:=iQ e;exact⟨_,_,rfl,rfl⟩
 | among h=>intro t s e;obtain⟨rfl,rfl⟩:=iQ e;exact⟨_,_,_,rfl,h,rfl⟩
 | join h=>intro t s e;obtain⟨rfl,rfl⟩:=iQ e;exact⟨_,_,_,rfl,h,rfl⟩
theorem St1.det {kn:Kn}{a b c:Cf} (h:St1 kn a b) (g:St1 kn a c):b=c:=by
 cases h with
 | num=>exact(g.inv _ _ rfl).symm
 | rd h=>
   obtain⟨v,e,z⟩:=g.inv _ _ rfl
   rw[h] at e;cases e;exact z.symm
 | bin=>exact(g.inv _ _ rfl).symm
 | pick=>exact(g.inv _ _ rfl).symm
 | cho=>exact(g.inv _ _ rfl).symm
 | branch=>
   obtain⟨f,v,e,z⟩:=g.inv _ _ rfl
   obtain⟨rfl,rfl⟩:=iQ e
   exact z.symm
 | among h=>
   obtain⟨f,v,x,e,hx,z⟩:=g.inv _ _ rfl
   obtain⟨rfl,rfl⟩:=iQ e
   rw[h] at hx;cases hx;exact z.symm
 | join h=>
   obtain⟨f,u,v,e,_,z⟩:=g.inv _ _ rfl
   obtain⟨rfl,rfl,rfl⟩:=Ma e
   exact z.symm
def Halt (kn:Kn) (c:Cf):Prop:=c.todo=[]\/∃t x,c.todo=t++[.r (.rd x)]/\kn x=none
theorem Halt.no {kn:Kn}{c c':Cf} (h:Halt kn c) (g:St1 kn c c'):False:=by
 rcases h with h | ⟨t,x,h,hx⟩
 ·cases g<;>simp at h
 ·obtain⟨v,e,_⟩:=g.inv _ _ h
  rw[hx] at e;cases e
theorem StN.rest {kn:Kn}{n m:Nat}{a b c:Cf} (h:StN kn n a b) (g:StN kn m a c) (hc:Halt kn c):∃k,StN kn k b c:=by
 induction h generalizing m with
 | zero=>exact⟨m,g⟩
 | succ h _ ih=>
   cases g with
   | zero=>exact(hc.no h).elim
   | succ h' g'=>rw[<-h.det h'] at g';exact ih g'
theorem Mf {ns:List Str} (h:1<=ns.length) (u:Int):∃x,pY ns u=some x:=by
 unfold pY
 have h1:(u % (ns.length:Int)).toNat<ns.length:=by
  have:=Int.emod_nonneg u (show(ns.length:Int)≠0 by omega)
  have:=Int.emod_lt_of_pos u (show(0:Int)<ns.length by omega)
  omega
 exact⟨_,List.getElem?_eq_getElem h1⟩
end RB
namespace RB
open PySem L2 PySem.Spec PyProof.Rows
def Reach (kn:Kn) (r:R) (c:Cf):Prop:=∃n,StN kn n ⟨[.r r],[],[]⟩ c
theorem Reach.le {kn kn':Kn} (h:Kn.Le kn kn') {r:R}{c:Cf} (g:Reach kn r c):Reach kn' r c:=by
 obtain⟨n,g⟩:=g
 exact⟨n,g.le h⟩
def kn0:Kn:=fun _=>none
end RB
set_option maxRecDepth 100000
namespace L2
open PySem PySem.Spec PyProof.Rows
section
variable {X:Cx}{i o:Expr}{ty td:TE}{pos:Pos}
theorem Af (hu:X.A.units+1<cLine) (hi:QE X i ty) (ho:QE X o td) (h1:behindInMarks .In o=false:=by rfl):QT X (.Compare i [.In] [o] pos) (tB (abX ty td)):=⟨M6 (Yk hu hi.h ho.h) h1⟩
theorem yl (hu:X.A.units+1<cLine) (hi:QE X i ty) (ho:QE X o td) (h1:behindInMarks .NotIn o=false:=by rfl):QT X (.Compare i [.NotIn] [o] pos) (tB (JW ty td)):=⟨M6 (Ls hu hi.h ho.h) h1⟩
end
end L2
namespace RB
open PySem L2 PySem.Spec PyProof.Rows
inductive zc (H:Hp):V->Stp->Prop where
 | r {a:Addr}{r:R} (h:IsR H a r):zc H (.ref a) (.r r)
 | branch {a b c:Addr}{s t:R} (e:H a=some (.tup [.str "branch", .ref b, .ref c])) (h1:IsR H b s) (h2:IsR H c t):zc H (.ref a) (.branch s t)
 | among {a b:Addr}{ns:List Str} (e:H a=some (.tup [.str "among", .ref b])) (h:H b=some (.tup (ns.map V.str))):zc H (.ref a) (.among ns)
 | join {a:Addr}{op:Op} (e:H a=some (.tup [.str "join", .str op.word])):zc H (.ref a) (.join op)
theorem zc.tups {H H':Hp} (t:jU H H') {v:V}{s:Stp} (h:zc H v s):zc H' v s:=by
 cases h with
 | r h=>exact .r (h.tups t)
 | branch e h1 h2=>exact .branch (t _ _ e) (h1.tups t) (h2.tups t)
 | among e h=>exact .among (t _ _ e) (t _ _ h)
 | join e=>exact .join (t _ _ e)
inductive jW (H:Hp):List V->List Stp->Prop where
 | nil:jW H [] []
 | cons {v:V}{s:Stp}{vs:List V}{ss:List Stp} (h:zc H v s) (t:jW H vs ss):jW H (v::vs) (s::ss)
theorem jW.tups {H H':Hp} (t:jU H H') {vs:List V}{ss:List Stp} (h:jW H vs ss):jW H' vs ss:=by
 induction h with
 | nil=>exact .nil
 | cons h _ ih=>exact .cons (h.tups t) ih
theorem jW.app {H:Hp}:∀{vs ws:List V}{ss ts:List Stp},jW H vs ss->jW H ws ts->jW H (vs++ws) (ss++ts)
 | _,_,_,_, .nil,h=>h
 | _,_,_,_, .cons h' t,h=> .cons h' (t.app h)
theorem jW.snoc {H:Hp}{s:Stp}:∀{ss:List Stp}{vs:List V},jW H vs (ss++[s])->∃us v,vs=us++[v]/\jW H us ss/\zc H v s
 |[],_,h=>by
  cases h with
  | cons h t=>cases t;exact⟨[],_,rfl, .nil,h⟩
 | s0::ss,_,h=>by
   cases h with
   | cons h t=>
     obtain⟨us,v,rfl,h1,h2⟩:=jW.snoc (ss:=ss) t
     exact⟨_::us,v,rfl, .cons h h1,h2⟩
theorem jW.length {H:Hp}{vs:List V}{ss:List Stp} (h:jW H vs ss):vs.length=ss.length:=by
 induction h with
 | nil=>rfl
 | cons _ _ ih=>simp[ih]
def wR:R->Nat
 | .num _=>1
 | .rd _=>1
 | .bin _ a b=>wR a+wR b+2
 | .pick a b c=>wR a+wR b+wR c+2
 | .cho a _=>wR a+3
def wS:Stp->Nat
 | .r r=>wR r
 | .branch s t=>wR s+wR t+1
 | .among _=>2
 | .join _=>1
def wT (t:List Stp):Nat:=(t.map wS).sum
def Cf.w (c:Cf):Nat:=c.rds.length+c.found.length+2 * wT c.todo
theorem jL (s t:List Stp):wT (s++t)=wT s+wT t:=by unfold wT;rw[List.map_append,List.sum_append]
theorem Y6:∀r:R,1<=wR r
 | .num _=>Nat.le_refl _
 | .rd _=>Nat.le_refl _
 | .bin _ a b=>by show 1<=wR a+wR b+2;omega
 | .pick a b c=>by show 1<=wR a+wR b+wR c+2;omega
 | .cho a _=>by show 1<=wR a+3;omega
theorem Y7 (s:Stp):1<=wS s:=by
 cases s with
 | r r=>exact Y6 r
 | branch s t=>show 1<=wR s+wR t+1;omega
 | among ns=>exact(by decide:1<=2)
 | join op=>exact Nat.le_refl _
theorem Io:∀t:List Stp,t.length<=wT t
 |[]=>Nat.le_refl _
 | s::t=>by
   have:=Io t
   have:=Y7 s
   show t.length+1<=wS s+wT t
   omega
theorem Ow (d:List Rdp) (x:Str) (v:Int):(rR d x v).length<=d.length+1:=by
 unfold rR
 split
 ·rw[List.length_map];omega
 ·rw[List.length_append];exact Nat.le_refl _
theorem St1.w {kn:Kn}{a b:Cf} (h:St1 kn a b):b.w<=a.w:=by
 cases h with
 | @num t f d n=>
   show d.length+(f++[n]).length+2 * wT t<=d.length+f.length+2 * wT (t++[.r (.num n)])
   rw[jL,List.length_append];show _<=_+2 *(_+1);simp;omega
 | @rd t f d x v h=>
   have:=Ow d x v
   show(rR d x v).length+(f++[v]).length+2 * wT t<=d.length+f.length+2 * wT (t++[.r (.rd x)])
   rw[jL,List.length_append];show _<=_+2 *(_+1);simp;omega
 | @bin t f d op a b=>
   show d.length+f.length+2 * wT (t++[.join op, .r b, .r a])<=d.length+f.length+2 * wT (t++[.r (.bin op a b)])
   rw[jL,jL];show _+2 *(_+(1+(wR b+(wR a+0))))<=_+2 *(_+(wR a+wR b+2+0));omega
 | @pick t f d a b c=>
   show d.length+f.length+2 * wT (t++[.branch b c, .r a])<=d.length+f.length+2 * wT (t++[.r (.pick a b c)])
   rw[jL,jL];show _+2 *(_+(wR b+wR c+1+(wR a+0)))<=_+2 *(_+(wR a+wR b+wR c+2+0));omega
 | @cho t f d a ns=>
   show d.length+f.length+2 * wT (t++[.among ns, .r a])<=d.length+f.length+2 * wT (t++[.r (.cho a ns)])
   rw[jL,jL];show _+2 *(_+(2+(wR a+0)))<=_+2 *(_+(wR a+3+0));omega
 | @branch t f d b c v=>
   show d.length+f.length+2 * wT (t++[.r (if v>0 then b else c)])<=d.length+(f++[v]).length+2 * wT (t++[.branch b c])
   rw[jL,jL,List.length_append]
   have:wR (if v>0 then b else c)<=wR b+wR c:=by split<;>omega
   show _+2 *(_+(wR (if v>0 then b else c)+0))<=_+2 *(_+(wR b+wR c+1+0));omega
 | @among t f d ns v x h=>
   show d.length+f.length+2 * wT (t++[.r (.rd x)])<=d.length+(f++[v]).length+2 * wT (t++[.among ns])
   rw[jL,jL,List.length_append];show _+2 *(_+1)<=_+2 *(_+2);omega
 | @join t f d op u v h=>
   show d.length+(f++[op.ap u v]).length+2 * wT t<=d.length+(f++[u,v]).length+2 * wT (t++[.join op])
   rw[jL,List.length_append,List.length_append];show _+(_+1)+_<=_+(_+2)+2 *(_+1);omega
def rdK (d:List Rdp):List (Key×V):=d.map fun p=>(.inr p.1, .int p.2)
theorem Tr (d:List Rdp) (x:Str) (v:Int):putK (rdK d) (.inr x) (.int v)=rdK (rR d x v):=by
 unfold putK rR rdK
 rw[List.any_map]
 have e:((fun kv:Key×V=>decide (kv.1=(.inr x:Key)))∘fun p:Rdp=>((.inr p.1:Key),V.int p.2))=fun p:Rdp=>decide (p.1=x):=by
  funext p
  show decide ((Sum.inr p.1:Key)=Sum.inr x)=_
  by_cases h:p.1=x
  ·rw[decide_eq_true h,decide_eq_true (by rw[h])]
  ·rw[decide_eq_false h,decide_eq_false (fun z=>h (Sum.inr.inj z))]
 rw[e]
 by_cases hc:(d.any fun p=>decide (p.1=x))=true
 ·rw[if_pos hc,if_pos hc,List.map_map,List.map_map]
  apply List.map_congr_left
  intro p _
  show(if(Sum.inr p.1:Key)=Sum.inr x then((Sum.inr p.1:Key),V.int v) else((Sum.inr p.1:Key),V.int p.2))=_
  by_cases h:p.1=x
  ·rw[if_pos (by rw[h])]
   show _=((Sum.inr (if p.1=x then(p.1,v) else p).1:Key),V.int (if p.1=x then(p.1,v) else p).2)
   rw[if_pos h]
  ·rw[if_neg (fun z=>h (Sum.inr.inj z))]
   show _=((Sum.inr (if p.1=x then(p.1,v) else p).1:Key),V.int (if p.1=x then(p.1,v) else p).2)
   rw[if_neg h]
 ·rw[if_neg hc,if_neg hc,List.map_append];rfl
def rkF (a1 a2 a3:Addr):List (Str×V):=[("todo", .ref a1),("found", .ref a2),("reads", .ref a3)]
structure RcAt (H:Hp) (a C dx a1 a2 a3:Addr) (c:Cf):Prop where
 e:H a=some (.ins C dx (rkF a1 a2 a3))
 e1:∃ws,H a1=some (.lst ws)/\jW H ws c.todo
 e2:H a2=some (.lst (c.found.map V.int))
 e3:H a3=some (.dK (rdK c.rds))
 ne:a1≠a2
 hw:c.w<=10000
structure RkC (K:PySem.W.Frag) (C:Addr):Prop where
 cl:Cls K C
 nT:gQ K C "todo"
 nF:gQ K C "found"
 nR:gQ K C "reads"
def Ox (H:Hp) (d:Addr) (kn:Kn):Prop:=∃kvs,H d=some (.dK kvs)/\∀x,dG kvs (.inr x)=(kn x).map V.int
theorem Eb (a1 a2 a3:Addr):List.lookup ("todo":Str) (rkF a1 a2 a3)=some (.ref a1):=rfl
theorem Ag (a1 a2 a3:Addr):List.lookup ("found":Str) (rkF a1 a2 a3)=some (.ref a2):=rfl
theorem Ah (a1 a2 a3:Addr):List.lookup ("reads":Str) (rkF a1 a2 a3)=some (.ref a3):=rfl
theorem V9 (a1 a2 a3:Addr):List.lookup ("go_on":Str) (rkF a1 a2 a3)=none:=rfl
theorem xq (a1 a2 a3:Addr):List.lookup ("lacking":Str) (rkF a1 a2 a3)=none:=rfl
def Kl:Sp:=fun vs H Q _=>∃(op:Op) (u v:Int),vs=[.str op.word, .int u, .int v]/\(op= .times->wZ u v)/\Q (.int (op.ap u v)) H
def Gb (C:Addr):Sp:=fun vs H Q _=>∃(a dx b:Addr) (r:R),vs=[.ref a, .ref b]/\H a=some (.ins C dx [])/\IsR H b r/\wR r<=4000/\
 ∀a1 a2 a3 H',But [a] H H'->H a1=none->H a2=none->H a3=none->RcAt H' a C dx a1 a2 a3 ⟨[.r r],[],[]⟩->Q .non H'
def ach (C:Addr):Sp:=fun vs H Q _=>∃(a dx a1 a2 a3:Addr) (v:V) (s:Stp) (t:List Stp) (f:List Int) (d:List Rdp) (kn:Kn) (c:Cf),vs=[.ref a,v]/\RcAt H a C dx a1 a2 a3 ⟨t,f,d⟩/\zc H v s/\(∀x,s≠ .r (.rd x))/\
 St1 kn ⟨t++[s],f,d⟩ c/\c.w<=10000/\∀H',But [a1,a2,a3] H H'->RcAt H' a C dx a1 a2 a3 c->Q .non H'
def Oz (C:Addr):Sp:=fun vs H Q _=>∃(a dx a1 a2 a3 d:Addr) (kn:Kn) (n:Nat) (c c':Cf),vs=[.ref a, .ref d]/\RcAt H a C dx a1 a2 a3 c/\Ox H d kn/\d≠a3/\StN kn n c c'/\Halt kn c'/\
 ∀H',But [a1,a2,a3] H H'->RcAt H' a C dx a1 a2 a3 c'->(c'.todo=[]->Q .non H')/\∀t x,c'.todo=t++[.r (.rd x)]->Q (.str x) H'
theorem RcAt.lists {H:Hp}{a C dx a1 a2 a3:Addr}{c:Cf} (h:RcAt H a C dx a1 a2 a3 c) {H':Hp} (b:But [a1,a2,a3] H H'):jU H H':=fun p xs q=>b p _ (fun z=>by
 obtain⟨ws,e1,_⟩:=h.e1
 have:p=a1\/p=a2\/p=a3:=by simpa using z
 rcases this with rfl | rfl | rfl
 ·rw[e1] at q;cases q
 ·rw[h.e2] at q;cases q
 ·rw[h.e3] at q;cases q) q
end RB
namespace RB
open PySem L2 PySem.Spec PyProof.Rows
theorem fH {H:Hp}{p q:Addr}{o:HO} (h:upd H p o q=none):q≠p/\H q=none:=by
 by_cases e:q=p
 ·subst e;rw[ak] at h;cases h
 ·rw[ao e] at h;exact⟨e,h⟩
theorem RcAt.ins {H:Hp}{a C dx a1 a2 a3:Addr}{c:Cf} (h:RcAt H a C dx a1 a2 a3 c):a∉[a1,a2,a3]:=fun z=>by
 obtain⟨ws,e1,_⟩:=h.e1
 have z:a=a1\/a=a2\/a=a3:=by simpa using z
 have e:=h.e
 rcases z with z | z | z
 ·rw[z,e1] at e;cases e
 ·rw[z,h.e2] at e;cases e
 ·rw[z,h.e3] at e;cases e
theorem RcAt.n13 {H:Hp}{a C dx a1 a2 a3:Addr}{c:Cf} (h:RcAt H a C dx a1 a2 a3 c):a1≠a3:=fun z=>by
 obtain⟨ws,e1,_⟩:=h.e1
 have e:=h.e3
 rw[<-z,e1] at e;cases e
theorem RcAt.n23 {H:Hp}{a C dx a1 a2 a3:Addr}{c:Cf} (h:RcAt H a C dx a1 a2 a3 c):a2≠a3:=fun z=>by
 have e:=h.e3
 rw[<-z,h.e2] at e;cases e
theorem RcAt.next {H H':Hp}{a C dx a1 a2 a3:Addr}{c c':Cf}{ws:List V} (h:RcAt H a C dx a1 a2 a3 c) (b:But [a1,a2,a3] H H') (g1:H' a1=some (.lst ws)) (s:jW H' ws c'.todo) (g2:H' a2=some (.lst (c'.found.map V.int))) (g3:H' a3=some (.dK (rdK c'.rds))) (hw:c'.w<=10000):RcAt H' a C dx a1 a2 a3 c':=
 ⟨b _ _ h.ins h.e,⟨ws,g1,s⟩,g2,g3,h.ne,hw⟩
theorem zc.hd {H:Hp}{v:V}{s:Stp} (h:zc H v s) (hno:∀x,s≠ .r (.rd x)):∃p k xs,v= .ref p/\H p=some (.tup (.str k::xs))/\k≠"read":=by
 cases h with
 | r h=>
   cases h with
   | num e=>exact⟨_,_,_,rfl,e,by decide +kernel⟩
   | rd e=>exact absurd rfl (hno _)
   | @bin _ _ _ op _ _ e _ _=>exact⟨_,_,_,rfl,e,by cases op<;>decide +kernel⟩
   | pick e _ _ _=>exact⟨_,_,_,rfl,e,by decide +kernel⟩
   | cho e _ _=>exact⟨_,_,_,rfl,e,by decide +kernel⟩
 | branch e _ _=>exact⟨_,_,_,rfl,e,by decide +kernel⟩
 | among e _=>exact⟨_,_,_,rfl,e,by decide +kernel⟩
 | join e=>exact⟨_,_,_,rfl,e,by decide +kernel⟩
theorem StN.halt {kn:Kn}{n:Nat}{c c':Cf} (h:StN kn n c c') (hc:Halt kn c):c=c':=by
 cases h with
 | zero=>rfl
 | succ h _=>exact(hc.no h).elim
theorem Y8 {H:Hp}{a:Addr}{o:HO} (h:H a=some o):upd H a o=H:=by
 funext b
 by_cases e:b=a
 ·subst e;rw[ak,h]
 ·rw[ao e]
end RB
namespace RB
open PySem L2 PySem.Spec PyProof.Rows
end RB
namespace RB
open PySem L2 PySem.Spec PyProof.Rows
theorem same_none {H H':Hp}{p:Addr} (s:aO H H') (h:H' p=none):H p=none:=by
 cases z:H p with
 | none=>rfl
 | some o=>rw[s _ _ z] at h;cases h
end RB
set_option maxRecDepth 100000
namespace L2
open PySem PySem.Spec PyProof.Rows
theorem Tt {k:Key}{v:Value} (h:zJ k v=true):RelV (kV k) v:=by
 rcases fK h with⟨i,t,rfl,rfl⟩ | ⟨x,t,rfl,rfl⟩
 ·exact⟨t,rfl⟩
 ·exact⟨t,rfl⟩
theorem Gd {κ:Type}:∀{kvs:List (κ×V)}{vs:List (κ×Value)},KV kvs vs->kvs.length=vs.length/\∀(i:Nat) (k:κ) (x:Value),vs[i]? =some (k,x)->∃y,kvs[i]? =some (k,y)
 | _,_, .nil=>⟨rfl,fun i k x h=>by simp at h⟩
 | _,_, .cons (a:=p) (b:=q) h t=>by
   obtain⟨h1,h2⟩:=Gd t
   refine⟨by simp[h1],fun i k x e=> ?_⟩
   cases i with
   | zero=>cases e;exact⟨p.2,by rw[List.getElem?_cons_zero];cases p;simp only at h ⊢;rw[h.1]⟩
   | succ i=>exact h2 i k x (by simpa using e)
section
variable {X:Cx}
end
end L2
set_option maxRecDepth 100000
namespace RB
open PySem L2 PySem.Spec PyProof.Rows
def R.In (ns:List Str):R->Prop
 | .num _=>True
 | .rd x=>x∈ns
 | .bin _ a b=>a.In ns/\b.In ns
 | .pick a b c=>a.In ns/\b.In ns/\c.In ns
 | .cho a ms=>a.In ns/\∀x∈ms,x∈ns
end RB
namespace RB
open PySem L2 PySem.Spec PyProof.Rows
theorem Ge {S:List Addr}{H H':Hp}{q:Addr} (b:But S H H') (h:H' q=none) (hS:q∉S):H q=none:=by
 cases z:H q with
 | none=>rfl
 | some o=>rw[b _ _ hS z] at h;cases h
end RB
set_option maxRecDepth 100000
namespace L2
open PySem PySem.Spec PyProof.Rows
section
variable {X:Cx}{e st:Expr}{te ts:TE}{pos p2:Pos}
end
end L2
set_option maxRecDepth 100000
namespace RB
open PySem L2 PySem.Spec PyProof.Rows
def Chn (r:R):Kn->List Rdp->Prop
 | _,[]=>True
 | kn,p::us=>ev kn r= .inl p.1/\Chn r (kn.put p.1 p.2) us
theorem Chn.le {r:R}:∀{us:List Rdp}{kn:Kn},Chn r kn us->Kn.Le kn (kn.puts us)
 |[],kn,_=>Kn.Le.refl _
 | p::us,kn,h=>(Kn.tY (mz h.1)).trans (Chn.le (us:=us) h.2)
theorem Chn.up {a r:R}:∀{us:List Rdp}{kn:Kn},(∀kn' x,Kn.Le kn kn'->ev kn' a= .inl x->ev kn' r= .inl x)->Chn a kn us->Chn r kn us
 |[],_,_,_=>trivial
 | p::us,kn,h,g=>⟨h kn p.1 (Kn.Le.refl _) g.1,Chn.up (us:=us) (fun kn' x l e=>h kn' x ((Kn.tY (mz g.1)).trans l) e) g.2⟩
theorem Kn.fU (kn:Kn) (us vs:List Rdp):kn.puts (us++vs)=(kn.puts us).puts vs:=by
 induction us generalizing kn with
 | nil=>rfl
 | cons u us ih=>exact ih _
theorem Chn.app {r:R}:∀{us vs:List Rdp}{kn:Kn},Chn r kn us->Chn r (kn.puts us) vs->Chn r kn (us++vs)
 |[],_,_,_,h=>h
 | p::us,vs,kn,g,h=>⟨g.1,Chn.app (us:=us) g.2 h⟩
end RB
set_option maxRecDepth 100000
namespace L2
open PySem PySem.Spec PyProof.Rows
section
variable {X:Cx}{tg:Expr}
end
section
variable {X:Cx}
theorem Ip:tL X (.type "dict") (fun xs H Q=>∃a kvs,xs=[.ref a]/\Rd H a (.dK kvs)/\∀p,H p=none->Q (.ref p) (upd H p (.dK kvs))):=by
 intro pins s σ H xs us Q I r h
 obtain⟨a,kvs,rfl,ha,q⟩:=h
 obtain⟨u,rfl,rx⟩:=vals1 r
 cases rx
 obtain⟨hz,lo,vs,hkv,hd⟩:=(show dm X.prog X.w H s.heap a (.dK kvs) from ha.ok I.hok)
 have hl:=(Gd hkv).1
 refine kt_call_dict lo hd (Nat.le_trans (Nat.le_of_eq hl.symm) hz) fun h' hd' hs'=> ?_
 have keep:∀b u,s.heap.get? b=some u->h'.get? b=some u:=fun b u e=>by
  have hb:b≠s.heap.objs.size:=Nat.ne_of_lt (Heap.lt_size e)
  rw[hs'.2 b hb];exact Heap.get?_push_of_some _ e
 refine⟨.ref s.heap.objs.size,_,I.laid (t':=s.toks) keep (Nat.le_refl _) (show dm X.prog X.w _ h' _ (.dK kvs) from⟨hz, ?_,vs,hkv,hd'⟩),rfl,q _ (I.hok.fresh (Nat.le_refl _))⟩
 exact beq_eq_false_iff_ne.mpr (Nat.ne_of_gt I.big)
theorem Gf:vN X (.type "dict") (fun xs H Q=>∃a kvs,xs=[.ref a]/\Rd H a (.dK kvs)/\∀p,H p=none->Q (.ref p) (upd H p (.dK kvs))):=⟨Ip⟩
end
theorem OD {κ:Type} [DecidableEq κ]:∀{vs:List (κ×Value)}{i:Nat}{k:κ}{u:Value},(vs.map (·.1)).Nodup->vs[i]? =some (k,u)->valueAt vs k=some u
 |[],i,k,u,_,h=>by simp at h
 | p::vs,i,k,u,hn,h=>by
   rw[List.map_cons,List.nodup_cons] at hn
   unfold valueAt
   cases i with
   | zero=>
     have:p=(k,u):=by simpa using h
     subst this
     simp
   | succ i=>
     have h':vs[i]? =some (k,u):=by simpa using h
     have hk:k∈vs.map (·.1):=List.mem_map.mpr ⟨(k,u),List.mem_of_getElem? h',rfl⟩
     have hne:¬p.1=k:=fun z=>hn.1 (z▸hk)
     have ih:=OD hn.2 h'
     unfold valueAt at ih
     simp[hne] at ih ⊢
     exact ih
def ym:V->Bool
 | .byt _=>false
 | .flt _=>false
 | _=>true
theorem Ai {A:Around}{s:Shared}{x:V}{u v:Value} (hx:ym x=true) (r:RelV x u) (r':RelV x v):SeqAt.EqAt A s u v true:=by
 cases x with
 | int i=>obtain⟨t,rfl⟩:=r;obtain⟨t',rfl⟩:=r';have:=SeqAt.EqAt.int_int (A:=A) (s:=s) i t i t';simpa using this
 | str i=>obtain⟨t,rfl⟩:=r;obtain⟨t',rfl⟩:=r';have:=SeqAt.EqAt.str_str (A:=A) (s:=s) i t i t';simpa using this
 | non=>cases r;cases r';exact SeqAt.EqAt.same _
 | bl b=>cases r;cases r';exact SeqAt.EqAt.same _
 | ref a=>cases r;cases r';exact SeqAt.EqAt.same _
 | ty a=>cases r;cases r';exact SeqAt.EqAt.same _
 | byt a=>exact absurd (show false=true from hx) Bool.false_ne_true
 | flt a=>exact absurd (show false=true from hx) Bool.false_ne_true
theorem Ir {κ:Type}:∀{kvs:List (κ×V)}{vs:List (κ×Value)},KV kvs vs->∀(i:Nat) (k:κ) (x:Value),vs[i]? =some (k,x)->∃y,kvs[i]? =some (k,y)/\RelV y x
 | _,_, .nil=>fun i k x h=>by simp at h
 | _,_, .cons (a:=p) (b:=q) h t=>fun i k x e=>by
   cases i with
   | zero=>cases e;exact⟨p.2,by rw[List.getElem?_cons_zero];cases p;simp only at h ⊢;rw[h.1],h.2⟩
   | succ i=>exact Ir t i k x (by simpa using e)
theorem OJ {κ:Type}:∀{kvs:List (κ×V)}{vs:List (κ×Value)},KV kvs vs->∀(i:Nat) (k:κ) (y:V),kvs[i]? =some (k,y)->∃x,vs[i]? =some (k,x)/\RelV y x
 | _,_, .nil=>fun i k x h=>by simp at h
 | _,_, .cons (a:=p) (b:=q) h t=>fun i k x e=>by
   cases i with
   | zero=>cases e;exact⟨q.2,by rw[List.getElem?_cons_zero];cases q;simp only at h ⊢;rw[h.1],h.2⟩
   | succ i=>exact OJ t i k x (by simpa using e)
theorem Km {κ:Type} [DecidableEq κ] {A:Around}{s:Shared}{kb:List (κ×Value)}:∀{ka:List (κ×Value)},(∀k u,(k,u)∈ka->∃y,valueAt kb k=some y/\SeqAt.EqAt A s u y true)->PySem.W.KeqHits A s kb ka true
 |[],_=> .nil
 | (k,u)::r,h=>by
   obtain⟨y,h1,h2⟩:=h k u (by simp)
   exact PySem.W.KeqHits.hit (e:=true) (b:=true) h1 h2 (Km fun k u m=>h k u (by simp[m]))
def xr (P:Program) (w:World) (A:Around) (s:Shared) (y x:Value):Prop:=∀(E:Value->Shared->Prop) (Q:Bool->Shared->Prop),Q true s->wpAny (model P w) A (eqBool y x) Q E s
theorem xr.of {P:Program}{w:World}{A:Around}{s:Shared}{y x:Value} (h:SeqAt.EqAt A s y x true):xr P w A s y x:=fun E Q q=>h P w E Q q
theorem Iu {A:Around}{s:Shared}{P:Program}{w:World}{a b:Addr}{kvs:List (Key×V)}{va vb:List (Key×Value)} (la:(a==sysModules)=false) (lb:(b==sysModules)=false) (ka:KV kvs va) (kb:KV kvs vb) (da:s.heap.DictOf (gf P w) a va) (db:s.heap.DictOf (gf P w) b vb) (hpl:∀p∈kvs,ym p.2=true) (hu:A.units<cLine):xr P w A s (.ref a) (.ref b):=fun E Q q=>by
 by_cases hab:a=b
 ·subst hab;exact SeqAt.EqAt.same (.ref a) P w E Q q
 have hn:(vb.map (·.1)).Nodup:=let ⟨_,_,_,_,_,_,_,_,hn⟩:=db;hn
 have hl:va.length=vb.length:=by rw[<-(Gd ka).1,<-(Gd kb).1]
 unfold eqBool
 refine wpAny_holding (wpAny_ite_split (fun z=>absurd (by have:=eq_of_beq z;injection this) hab) fun _=>wpAny_bind ?_)
 refine PySem.W.keq_eq (r:=true) la lb da db hu (fun _=>Km fun k u m=> ?_) (wpAny_truthy_bool ?_)
 ·obtain⟨i,hi⟩:=List.getElem?_of_mem m
  obtain⟨y,hy,ry⟩:=Ir ka i k u hi
  obtain⟨x,hx,rx⟩:=OJ kb i k y hy
  exact⟨x,OD hn hx,Ai (hpl (k,y) (List.mem_of_getElem? hy)) ry rx⟩
 ·rw[hl];simpa using q
def EqV (H:Hp) (x y:V):Prop:=(x=y/\ym x=true)\/∃a b kvs,x= .ref a/\y= .ref b/\Rd H a (.dK kvs)/\Rd H b (.dK kvs)/\∀p∈kvs,ym p.2=true
section
variable {X:Cx}
theorem Iv {ts:List Str}:∀{us:List Value},Vals (ts.map V.str) us->StrsAre us ts:=by
 induction ts with
 | nil=>intro us r;cases r;exact .nil
 | cons n ns ih=>
   intro us r
   rw[List.map_cons] at r
   cases r with
   | cons r1 r2=>
     obtain⟨t,e⟩:=r1
     subst e
     exact .cons n t (ih r2)
end
end L2
namespace RB
open PySem L2 PySem.Spec PyProof.Rows
end RB
namespace L2
open PySem PySem.Spec PyProof.Rows
section
variable {X:Cx}{o e:Expr}{td ty:TE}{apos cpos:Pos}
end
end L2
set_option maxRecDepth 100000
namespace RB
open PySem L2 PySem.Spec PyProof.Rows
end RB
set_option maxRecDepth 100000
namespace RB
open PySem L2 PySem.Spec PyProof.Rows
theorem Dj {κ:Type} [DecidableEq κ] (kvs:List (κ×V)) (k:κ) (v:V):(putK kvs k v).map (·.1)=if(kvs.any fun kv=>decide (kv.1=k))=true then kvs.map (·.1) else kvs.map (·.1)++[k]:=by
 unfold putK
 split
 ·rw[List.map_map]
  apply List.map_congr_left
  intro p _
  show(if p.1=k then(p.1,v) else p).1=p.1
  split<;>rfl
 ·rw[List.map_append];rfl
end RB
set_option maxRecDepth 100000
namespace RB
open PySem L2 PySem.Spec PyProof.Rows
structure mC (kvs:List (Key×V)) (ks:List Str):Prop where
 k:kvs.map (·.1)=ks.map Sum.inr
 nd:ks.Nodup
theorem mC.len {kvs:List (Key×V)}{ks:List Str} (h:mC kvs ks):kvs.length=ks.length:=by
 have:=congrArg List.length h.k
 rwa [List.length_map,List.length_map] at this
theorem Ec {kvs:List (Key×V)}{ks:List Str} (h:mC kvs ks) (x:Str):(kvs.any fun kv=>decide (kv.1=(.inr x:Key)))=decide (x∈ks):=by
 have e:(kvs.any fun kv=>decide (kv.1=(.inr x:Key)))=(kvs.map (·.1)).any (fun k=>decide (k=(.inr x:Key))):=by rw[List.any_map];rfl
 rw[e,h.k,List.any_map]
 clear e h
 induction ks with
 | nil=>rfl
 | cons y ks ih=>
   rw[List.any_cons,ih]
   by_cases hy:x=y
   ·subst hy;simp
   ·have:¬(y=x):=fun z=>hy z.symm
    simp[hy,this]
theorem mC.none {kvs:List (Key×V)}{ks:List Str} (h:mC kvs ks) {x:Str}:dG kvs (.inr x)=none ↔ x∉ks:=by
 have e:=Ec h x
 rw[tO] at e
 constructor
 ·intro z m
  rw[z] at e
  simp[m] at e
 ·intro m
  cases z:dG kvs (.inr x) with
  | none=>rfl
  | some v=>rw[z] at e;simp[m] at e
theorem mC.v8 {kvs:List (Key×V)}{ks:List Str} (h:mC kvs ks) {x:Str} (hx:x∉ks) (v:V):mC (putK kvs (.inr x) v) (ks++[x]):=by
 refine⟨?_, ?_⟩
 ·rw[Dj,Ec h x,decide_eq_false hx,if_neg (by decide),h.k,List.map_append];rfl
 ·rw[List.nodup_append]
  exact⟨h.nd,by simp,fun a ha b hb=>by
   have:b=x:=by simpa using hb
   rw[this];exact fun z=>hx (z▸ha)⟩
theorem mC.O1 {kvs:List (Key×V)}{ks:List Str} (h:mC kvs ks) {x:Str} (hx:x∈ks) (v:V):mC (putK kvs (.inr x) v) ks:=by
 refine⟨?_,h.nd⟩
 rw[Dj,Ec h x,decide_eq_true hx,if_pos rfl,h.k]
theorem R.In.mono {ns ms:List Str} (h:∀x∈ns,x∈ms):∀{r:R},r.In ns->r.In ms
 | .num _,_=>trivial
 | .rd _,i=>h _ i
 | .bin _ _ _,i=>⟨i.1.mono h,i.2.mono h⟩
 | .pick _ _ _,i=>⟨i.1.mono h,i.2.1.mono h,i.2.2.mono h⟩
 | .cho _ _,i=>⟨i.1.mono h,fun x hx=>h x (i.2 x hx)⟩
abbrev Rn:=Str->Option R
def Rn.put (rc:Rn) (x:Str) (r:R):Rn:=fun y=>if y=x then some r else rc y
end RB
namespace RB
open PySem L2 PySem.Spec PyProof.Rows
end RB
namespace RB
open PySem L2 PySem.Spec PyProof.Rows
section
variable {H:Hp}{kg kc:List (Key×V)}{n:Nat}{gv:Kn}{rc:Rn}
theorem mW {x y:Str} (h:¬x=y):¬(Sum.inr x:Key)=Sum.inr y:=fun z=>h (Sum.inr.inj z)
end
end RB
set_option maxRecDepth 100000
namespace RB
open PySem L2 PySem.Spec PyProof.Rows
structure lg (r:R) (kn:Kn) (us:List Rdp) (v:Int):Prop where
 c:Chn r kn us
 e:ev (kn.puts us) r= .inr v
theorem Tu {n:Int}{kn:Kn}:lg (.num n) kn [] n:=⟨trivial,rfl⟩
theorem Tv {kn:Kn}{x:Str}{v:Int} (h:kn x=some v):lg (.rd x) kn [] v:=⟨trivial,by show look kn x=_;unfold look;rw[h]⟩
theorem Tw {kn:Kn}{x:Str}{v:Int} (h:kn x=none):lg (.rd x) kn [(x,v)] v:=by
 refine⟨⟨by show look kn x=_;unfold look;rw[h],trivial⟩, ?_⟩
 show look (kn.put x v) x=_
 unfold look Kn.put
 rw[if_pos rfl]
theorem Tz {op:Op}{a b:R}{kn:Kn}{us vs:List Rdp}{u v:Int} (ha:lg a kn us u) (hb:lg b (kn.puts us) vs v):lg (.bin op a b) kn (us++vs) (op.ap u v):=by
 have ua:∀kn' x,ev kn' a= .inl x->ev kn' (.bin op a b)= .inl x:=fun kn' x e=>by simp only[ev];rw[e]
 have ub:∀kn' x,Kn.Le (kn.puts us) kn'->ev kn' b= .inl x->ev kn' (.bin op a b)= .inl x:=fun kn' x l e=>by simp only[ev];rw[kZ l ha.e];simp only;rw[e]
 exact⟨(ha.c.up fun kn' x _ e=>ua kn' x e).app (hb.c.up ub),by rw[Kn.fU];simp only[ev];rw[kZ hb.c.le ha.e];simp only;rw[hb.e]⟩
theorem O2 {a b c:R}{kn:Kn}{us vs:List Rdp}{u v:Int} (ha:lg a kn us u) (hb:lg (if u>0 then b else c) (kn.puts us) vs v):lg (.pick a b c) kn (us++vs) v:=by
 have ua:∀kn' x,ev kn' a= .inl x->ev kn' (.pick a b c)= .inl x:=fun kn' x e=>by simp only[ev];rw[e]
 have e:∀kn':Kn,Kn.Le (kn.puts us) kn'->ev kn' (.pick a b c)=ev kn' (if u>0 then b else c):=fun kn' l=>by
  simp only[ev];rw[kZ l ha.e];simp only;split<;>rfl
 exact⟨(ha.c.up fun kn' x _ e=>ua kn' x e).app (hb.c.up fun kn' x l z=>by rw[e kn' l];exact z),by rw[Kn.fU,e _ hb.c.le];exact hb.e⟩
theorem TF {a:R}{ns:List Str}{x:Str}{kn:Kn}{us vs:List Rdp}{u v:Int} (ha:lg a kn us u) (hx:pY ns u=some x) (hb:lg (.rd x) (kn.puts us) vs v):lg (.cho a ns) kn (us++vs) v:=by
 have ua:∀kn' x,ev kn' a= .inl x->ev kn' (.cho a ns)= .inl x:=fun kn' x e=>by simp only[ev];rw[e]
 have e:∀kn':Kn,Kn.Le (kn.puts us) kn'->ev kn' (.cho a ns)=ev kn' (.rd x):=fun kn' l=>by
  simp only[ev];rw[kZ l ha.e];simp only;rw[hx]
 exact⟨(ha.c.up fun kn' x _ e=>ua kn' x e).app (hb.c.up fun kn' x l z=>by rw[e kn' l];exact z),by rw[Kn.fU,e _ hb.c.le];exact hb.e⟩
theorem xu {x:Str}{u:Int}:∀{ps:List Rdp}{kn:Kn},kn.puts ps x=some u->(x,u)∈ps\/kn x=some u
 |[],kn,h=> .inr h
 | p::ps,kn,h=>by
   rcases xu (ps:=ps) h with z | z
   ·exact .inl (List.mem_cons_of_mem _ z)
   ·unfold Kn.put at z
    by_cases e:x=p.1
    ·rw[if_pos e] at z
     left
     have:p=(x,u):=by rw[e];exact Prod.ext rfl (Option.some.inj z)
     rw[this];simp
    ·rw[if_neg e] at z;exact .inr z
theorem Aj {x:Str}:∀{ps:List Rdp}{kn:Kn},kn.puts ps x=none->x∉ps.map (·.1)/\kn x=none
 |[],kn,h=>⟨by simp,h⟩
 | p::ps,kn,h=>by
   obtain⟨z1,z2⟩:=Aj (ps:=ps) h
   unfold Kn.put at z2
   by_cases e:x=p.1
   ·rw[if_pos e] at z2;cases z2
   ·rw[if_neg e] at z2
    exact⟨by rw[List.map_cons,List.mem_cons];exact fun w=>w.elim e z1,z2⟩
structure Rows (kn:Kn) (ps:List Rdp):Prop where
 s:∀p∈ps,kn p.1=some p.2
 nd:(ps.map (·.1)).Nodup
theorem Rows.le {kn kn':Kn}{ps:List Rdp} (h:Rows kn ps) (l:Kn.Le kn kn'):Rows kn' ps:=⟨fun p hp=>l _ _ (h.s p hp),h.nd⟩
theorem mR:∀{ws ns:List Str},ws.Nodup->(∀x∈ws,x∈ns)->ws.length<=ns.length
 |[],_,_,_=>Nat.zero_le _
 | w::ws,ns,nd,h=>by
   rw[List.nodup_cons] at nd
   have hw:=h w (by simp)
   have ih:=mR (ws:=ws) (ns:=ns.erase w) nd.2 fun x hx=>by
    have hne:x≠w:=fun e=>nd.1 (by rw[<-e];exact hx)
    exact(List.mem_erase_of_ne hne).mpr (h x (by simp[hx]))
   rw[List.length_erase_of_mem hw] at ih
   have:=List.length_pos_of_mem hw
   simp only[List.length_cons]
   omega
theorem Rows.look {kn:Kn}{ps:List Rdp}{x:Str}{v:Int} (h:Rows kn ps) (hx:kn x=some v):if(x,v)∈ps then lg (.rd x) (kn0.puts ps) [] v else lg (.rd x) (kn0.puts ps) [(x,v)] v/\Rows kn (ps++[(x,v)]):=by
 by_cases hm:(x,v)∈ps
 ·rw[if_pos hm]
  cases e:kn0.puts ps x with
  | none=>exact absurd (List.mem_map.mpr ⟨_,hm,rfl⟩) (Aj e).1
  | some u=>
    rcases xu e with z | z
    ·have:=h.s _ z
     rw[hx] at this
     cases this
     exact Tv e
    ·cases z
 ·rw[if_neg hm]
  have hn:kn0.puts ps x=none:=by
   cases e:kn0.puts ps x with
   | none=>rfl
   | some u=>
     rcases xu e with z | z
     ·have:=h.s _ z
      rw[hx] at this
      cases this
      exact absurd z hm
     ·cases z
  refine⟨Tw hn,fun p hp=> ?_, ?_⟩
  ·rcases List.mem_append.mp hp with z | z
   ·exact h.s p z
   ·have:p=(x,v):=by simpa using z
    rw[this];exact hx
  ·rw[List.map_append,List.nodup_append]
   exact⟨h.nd,by simp,fun a ha b hb=>by
    have:b=x:=by simpa using hb
    rw[this];exact fun z=>(Aj hn).1 (z▸ha)⟩
abbrev Rm:=Str->Option (R×List Rdp×Int)
def Rm.put (rm:Rm) (x:Str) (q:R×List Rdp×Int):Rm:=fun y=>if y=x then some q else rm y
def zf (X:List Addr) (H:Hp) (b:Addr) (q:R×List Rdp×Int):Prop:=∃br l as,H b=some (.tup [.ref br, .ref l, .int q.2.2])/\IsR H br q.1/\H l=some (.lst (as.map V.ref))/\jn H as q.2.1/\l∉X
section
variable {X:List Addr}{H H':Hp}{st wd rd:Addr}{n:Nat}{gv:Kn}{rc:Rn}{kn:Kn}{rm:Rm}
theorem zf.but {S:List Addr}{b:Addr}{q:R×List Rdp×Int} (h:zf X H b q) (bt:But S H H') (tp:jU H H') (hs:∀y∈S,y∈X\/∀xs,H y≠some (.lst xs)):zf X H' b q:=by
 obtain⟨br,l,as,e,r,el,rs,hx⟩:=h
 exact⟨br,l,as,tp _ _ e,r.tups tp,bt _ _ (fun z=>(hs l z).elim hx fun w=>w _ el) el,rs.tups tp,hx⟩
end
end RB
namespace RB
open PySem L2 PySem.Spec PyProof.Rows
end RB
set_option maxRecDepth 100000
namespace RB
open PySem L2 PySem.Spec PyProof.Rows
section
variable {H:Hp}{s l h:Addr}{du wr:V}
end
section
variable {H H':Hp}{s l h:Addr}{kn:Kn}{ps:List Rdp}
end
end RB
namespace RB
open PySem L2 PySem.Spec PyProof.Rows
end RB
namespace RB
open PySem L2 PySem.Spec PyProof.Rows
end RB
set_option maxRecDepth 100000
namespace RB
open PySem L2 PySem.Spec PyProof.Rows
theorem yP {ns:List Str}:∀{r:R}{kn:Kn}{x:Str},r.In ns->ev kn r= .inl x->x∈ns
 | .num n,kn,x,i,h=>by cases h
 | .rd y,kn,x,i,h=>by obtain⟨rfl,_⟩:=pZ h;exact i
 | .bin op a b,kn,x,i,h=>by
   simp only[ev] at h
   cases ea:ev kn a with
   | inl y=>rw[ea] at h;cases h;exact yP i.1 ea
   | inr u=>
     rw[ea] at h
     cases eb:ev kn b with
     | inl y=>rw[eb] at h;cases h;exact yP i.2 eb
     | inr v=>rw[eb] at h;cases h
 | .pick a b c,kn,x,i,h=>by
   simp only[ev] at h
   cases ea:ev kn a with
   | inl y=>rw[ea] at h;cases h;exact yP i.1 ea
   | inr u=>
     rw[ea] at h
     simp only at h
     split at h
     ·exact yP i.2.1 h
     ·exact yP i.2.2 h
 | .cho a ms,kn,x,i,h=>by
   simp only[ev] at h
   cases ea:ev kn a with
   | inl y=>rw[ea] at h;cases h;exact yP i.1 ea
   | inr u=>
     rw[ea] at h
     simp only at h
     cases ep:pY ms u with
     | none=>rw[ep] at h;cases h
     | some y=>
       rw[ep] at h
       obtain⟨rfl,_⟩:=pZ h
       exact i.2 _ (List.mem_of_getElem? ep)
end RB
set_option maxRecDepth 100000
namespace RB
open PySem L2 PySem.Spec PyProof.Rows
section
variable {X:List Addr}{H:Hp}{h g c st wd rd:Addr}{n:Nat}{gv:Kn}{rc:Rn}{kn:Kn}{rm:Rm}
theorem Ko {d:Addr}{kvs:List (Key×V)}{o:HO} (e:H d=some (.dK kvs)):jU H (upd H d o):=fun y xs z=>(ao (fun w=>by rw[w,e] at z;cases z)).trans z
theorem Ed {kw:List (Key×V)} (v4:∀y,dG kw (.inr y)=(kn y).map V.int) (x:Str) (v:Int):∀y,dG (putK kw (.inr x) (.int v)) (.inr y)=((kn.put x v) y).map V.int:=fun y=>by
 rw[jK]
 unfold Kn.put
 by_cases z:y=x
 ·rw[if_pos (by rw[z]),if_pos z];rfl
 ·rw[if_neg (mW z),if_neg z];exact v4 y
end
end RB
namespace RB
open PySem L2 PySem.Spec PyProof.Rows
end RB
namespace RB
open PySem L2 PySem.Spec PyProof.Rows
theorem O3 {r:R}{ns:List Str} (hi:r.In ns):∀{ps:List Rdp}{kn:Kn},Chn r kn ps->∀p∈ps,p.1∈ns
 |[],_,_,p,hp=>by cases hp
 | q::ps,kn,c,p,hp=>by
   rcases List.mem_cons.mp hp with z | z
   ·rw[z];exact yP hi c.1
   ·exact O3 hi (ps:=ps) c.2 p z
theorem zf.same {X:List Addr}{H H':Hp}{b:Addr}{q:R×List Rdp×Int} (r:zf X H b q) (s:aO H H'):zf X H' b q:=r.but (S:=[]) (But.of_same s) (aO.tups s) (by simp)
end RB
namespace RB
open PySem L2 PySem.Spec PyProof.Rows
end RB
set_option maxRecDepth 100000
namespace RB
open PySem L2 PySem.Spec PyProof.Rows
end RB
namespace RB
open PySem L2 PySem.Spec PyProof.Rows
theorem vo {r:R}:∀{ps:List Rdp}{kn:Kn},Chn r kn ps->(∀p∈ps,kn p.1=none)/\(ps.map (·.1)).Nodup
 |[],_,_=>⟨by simp,by simp⟩
 | q::ps,kn,c=>by
   obtain⟨h1,h2⟩:=vo (ps:=ps) c.2
   have h0:=mz c.1
   have h3:∀p∈ps,p.1≠q.1/\kn p.1=none:=fun p hp=>by
    have:=h1 p hp
    unfold Kn.put at this
    by_cases z:p.1=q.1
    ·rw[if_pos z] at this;cases this
    ·rw[if_neg z] at this;exact⟨z,this⟩
   refine⟨fun p hp=> ?_, ?_⟩
   ·rcases List.mem_cons.mp hp with z | z
    ·rw[z];exact h0
    ·exact(h3 p z).2
   ·rw[List.map_cons,List.nodup_cons]
    refine⟨fun hm=> ?_,h2⟩
    obtain⟨p,hp,e⟩:=List.mem_map.mp hm
    exact(h3 p hp).1 e
end RB
set_option maxRecDepth 100000
namespace RB
open PySem L2 PySem.Spec PyProof.Rows
end RB
set_option maxRecDepth 100000
namespace RB
open PySem L2 PySem.Spec PyProof.Rows
theorem O4 {kvs:List (Key×V)}{ks:List Str} (h:mC kvs ks) {k:Key}{v:V} (m:(k,v)∈kvs):dG kvs k=some v:=by
 obtain⟨i,hi⟩:=List.getElem?_of_mem m
 have nd:(kvs.map (·.1)).Nodup:=by
  rw[h.k]
  exact List.Pairwise.map _ (fun a b (e:a≠b) (z:(Sum.inr a:Key)=Sum.inr b)=>e (Sum.inr.inj z)) h.nd
 clear h
 induction kvs generalizing i with
 | nil=>cases m
 | cons q r ih=>
   rw[List.map_cons,List.nodup_cons] at nd
   rcases List.mem_cons.mp m with z | z
   ·rw[<-z];exact iJ rfl
   ·have hne:¬q.1=k:=fun w=>nd.1 (by rw[w];exact List.mem_map.mpr ⟨_,z,rfl⟩)
    rw[gR hne]
    obtain⟨j,hj⟩:=List.getElem?_of_mem z
    exact ih z j hj nd.2
end RB
set_option maxRecDepth 100000
namespace L2
open PySem PySem.Spec PyProof.Rows
section
variable {prog:Program}{w:World}{A:Around}{E:Value->Shared->Prop}{s:Shared}
theorem Ef {j t:Addr}{k:Nat}{vs:Array Value}{v:Value}{Q:Value->Shared->Prop} (hj:IsTupIter s.heap j t k) (ht:IsTup s.heap t vs) (hv:vs[k]? =some v)
 (q:∀g,IsTupIter g j t (k+1)->Heap.SameBut j s.heap g->Q v {s with heap:=g}):wpAny (model prog w) A (Builtin.SmallTypes.nextOf (.ref j)) Q E s:=by
 have ty:=hj.typeIs
 obtain⟨oj,ej,cj,dj⟩:=hj
 obtain⟨ot,et,_,nt,dt⟩:=ht
 unfold Builtin.SmallTypes.nextOf
 refine wpAny_bind (wpAny_callSpecial?_slot (name:=Str.ofString "__next__") ty slot_tupleiter_next (wpAny_call_entry slot_tupleiter_next ty entry_tupleiter_next ?_ (args_tupleiter_next _)))
 show wpAny _ _ (field (.ref j) 0>>=_) _ _ s
 refine wpAny_bind (wpAny_field ej dj (x:= .ref t) rfl ?_)
 show wpAny _ _ (if(Value.ref t==Value.none)=true then _ else _) _ _ _
 rw[if_neg (by intro z;cases z)]
 show wpAny _ _ (field (.ref j) 1>>=_) _ _ s
 refine wpAny_bind (wpAny_field ej dj (x:= .int k 0) rfl ?_)
 show wpAny _ _ (seqItems? (.ref t)>>=_) _ _ _
 refine wpAny_bind (wpAny_seqItems et dt ?_)
 simp only[hv,Int.toNat_natCast]
 refine wpAny_bind (wpAny_setField ej dj (by simp) (wpAny_pure ⟨v,rfl,wpAny_pure (q _ ?_ (Heap.SameBut.update ..))⟩))
 refine⟨_,Heap.get?_update_self _ ej (Obj.isFreed_of_fields (Obj.data_mapFields dj _)),(Obj.cls_mapFields ..).trans cj, ?_⟩
 rw[Obj.data_mapFields dj];simp[rawInt]
theorem Kp {j t:Addr}{k:Nat}{vs:Array Value}{Q:Value->Shared->Prop} (hA:A.handled=none) (hj:IsTupIter s.heap j t k) (ht:IsTup s.heap t vs) (hv:vs[k]? =none)
 (q:∀g b,Heap.ExtBut j s.heap g->(∃ob,g.get? b=some ob/\ob.cls= .type "StopIteration")->E (.ref b) {s with heap:=g}):wpAny (model prog w) A (Builtin.SmallTypes.nextOf (.ref j)) Q E s:=by
 have ty:=hj.typeIs
 obtain⟨oj,ej,cj,dj⟩:=hj
 obtain⟨ot,et,_,nt,dt⟩:=ht
 unfold Builtin.SmallTypes.nextOf
 refine wpAny_bind (wpAny_callSpecial?_slot (name:=Str.ofString "__next__") ty slot_tupleiter_next (wpAny_call_entry slot_tupleiter_next ty entry_tupleiter_next ?_ (args_tupleiter_next _)))
 show wpAny _ _ (field (.ref j) 0>>=_) _ _ s
 refine wpAny_bind (wpAny_field ej dj (x:= .ref t) rfl ?_)
 show wpAny _ _ (if(Value.ref t==Value.none)=true then _ else _) _ _ _
 rw[if_neg (by intro z;cases z)]
 show wpAny _ _ (field (.ref j) 1>>=_) _ _ s
 refine wpAny_bind (wpAny_field ej dj (x:= .int k 0) rfl ?_)
 show wpAny _ _ (seqItems? (.ref t)>>=_) _ _ _
 refine wpAny_bind (wpAny_seqItems et dt ?_)
 simp only[hv,Int.toNat_natCast]
 refine wpAny_bind (wpAny_rule (wpAny_bind (wpAny_setField ej dj (by simp) ?_)))
 show wpAny _ _ (newExc (.type "StopIteration") []>>=_) _ _ _
 refine wpAny_bind ?_
 simp only[newTuple,newExc]
 refine wpAny_bind (wpAny_newObj_type ?_ (by size_fits))
 refine wpAny_bind (m:=firstArgMember _ _) (wpAny_of_eq (a:=Value.none) (by first | rfl | (unfold firstArgMember;rfl)) ?_)
 refine wpAny_newObj_type ?_ (by size_fits)
 simp only[raiseNew]
 refine wpAny_bind (wpAny_handled ?_)
 first | rw[hA] | rw[show A.in1.handled=none from hA]
 exact wpAny_bind (wpAny_pure (wpAny_throw (q _ _ (((Heap.SameBut.update ..).extBut.push _).push _) ⟨_,Heap.get?_push_size _ rfl,rfl⟩)))
theorem O5 {z TI TO i j a b:Addr}{k:Nat}{xs ys:Array Value}{x y p q:Value}{Q:Value->Shared->Prop} (D:ZipApart z TI TO i j a b)
 (ez:IsZip s.heap z TI TO .none) (eI:IsPair s.heap TI (.ref i) (.ref j)) (eO:IsPair s.heap TO p q) (ei:IsTupIter s.heap i a k) (ej:IsTupIter s.heap j b k) (ea:IsTup s.heap a xs) (eb:IsTup s.heap b ys)
 (hx:xs[k]? =some x) (hy:ys[k]? =some y)
 (r:∀g,IsZip g z TI TO (rawInt s.heap.objs.size)->IsPair g TO x y->IsTupIter g i a (k+1)->IsTupIter g j b (k+1)->IsPair g s.heap.objs.size x y->g.objs.size=s.heap.objs.size+1->
   (∀c o,c∉[z,TO,i,j]->s.heap.get? c=some o->g.get? c=some o)->Q (.ref s.heap.objs.size) {s with heap:=g}):
 wpAny (model prog w) A (Builtin.«zip.__next__» ⟨[.ref z],[]⟩) (fun f s'=>∃v,f= .done (.ret v)/\Q v s') E s:=by
 show wpAny _ _ (field (.ref z) 2>>=_) _ _ s
 refine wpAny_bind (wpAny_field ez rfl (x:= .bool false) rfl ?_)
 show wpAny _ _ (field (.ref z) 3>>=_) _ _ s
 refine wpAny_bind (wpAny_field ez rfl (x:= .ref TI) rfl (wpAny_bind (wpAny_seqItems eI rfl ?_)))
 show wpAny _ _ (Builtin.SmallTypes.ownedTupleIsFree (.ref z)>>=_) _ _ s
 refine wpAny_bind ?_
 unfold Builtin.SmallTypes.ownedTupleIsFree;refine wpAny_bind (wpAny_field ez rfl (x:= .none) rfl (wpAny_pure ?_))
 simp only[if_true]
 refine wpAny_bind (wpAny_rule (wpAny_bind (wpAny_field ez rfl (x:= .ref TO) rfl (wpAny_bind (wpAny_setField_rec ez (by simp) fun g1 z1 b1=> ?_)))))
 have z1':IsZip g1 z TI TO .ellipsis:=z1
 refine wpAny_bind ?_
 simp only[List.forIn_cons,List.forIn_nil,List.zipIdx_cons,List.zipIdx_nil]
 refine wpAny_bind (wpAny_bind (wpAny_onRaise ?_))
 show wpAny _ _ (Builtin.SmallTypes.nextOf (.ref i)>>=_) _ _ _
 refine wpAny_bind (Ef (ei.extBut b1.extBut D.i1z) (ea.extBut b1.extBut D.l1z) hx fun g2 i2 b2=>wpAny_pure ?_)
 have o2:IsPair g2 TO p q:=b2.extBut _ _ D.TOi1 (b1.extBut _ _ D.TOz eO)
 refine wpAny_bind (wpAny_seqItems o2 rfl (wpAny_bind (wpAny_updateSeq_pair o2 fun g3 o3 b3=> ?_)))
 have o3':IsPair g3 TO x q:=o3
 refine wpAny_bind (wpAny_letGo (wpAny_pure (wpAny_bind (wpAny_bind (wpAny_onRaise ?_)))))
 show wpAny _ _ (Builtin.SmallTypes.nextOf (.ref j)>>=_) _ _ _
 refine wpAny_bind (Ef (((ej.extBut b1.extBut D.i2z).extBut b2.extBut D.i12.symm).extBut b3.extBut D.TOi2.symm) (((eb.extBut b1.extBut D.l2z).extBut b2.extBut D.l2i1).extBut b3.extBut D.l2TO) hy fun g4 j4 b4=>wpAny_pure ?_)
 have o4:IsPair g4 TO x q:=b4.extBut _ _ D.TOi2 o3'
 refine wpAny_bind (wpAny_seqItems o4 rfl (wpAny_bind (wpAny_updateSeq_pair o4 fun g5 o5 b5=> ?_)))
 have o5':IsPair g5 TO x y:=o5
 refine wpAny_bind (wpAny_letGo (wpAny_pure (wpAny_pure (wpAny_bind (wpAny_seqItems o5' rfl (wpAny_bind (wpAny_newTuple ?_)))))))
 have sz:g5.objs.size=s.heap.objs.size:=by rw[b5.1,b4.1,b3.1,b2.1,b1.1]
 have z5:IsZip g5 z TI TO .ellipsis:=b5.extBut _ _ D.TOz.symm (b4.extBut _ _ D.i2z.symm (b3.extBut _ _ D.TOz.symm (b2.extBut _ _ D.i1z.symm z1')))
 have k5:∀c o,c∉[z,TO,i,j]->s.heap.get? c=some o->g5.get? c=some o:=fun c o hc e=>by
  simp only[List.mem_cons,List.not_mem_nil,or_false,not_or] at hc
  exact b5.extBut _ _ hc.2.1 (b4.extBut _ _ hc.2.2.2 (b3.extBut _ _ hc.2.1 (b2.extBut _ _ hc.2.2.1 (b1.extBut _ _ hc.1 e))))
 have i5:IsTupIter g5 i a (k+1):=((i2.extBut b3.extBut D.TOi1.symm).extBut b4.extBut D.i12).extBut b5.extBut D.TOi1.symm
 have j5:IsTupIter g5 j b (k+1):=j4.extBut b5.extBut D.TOi2.symm
 have lz:g5.objs.size≠z:=Nat.ne_of_gt (Heap.lt_size z5)
 show wpAny _ _ (Builtin.SmallTypes.ownedTupleHandOut (.ref z) (.ref g5.objs.size)>>=_) _ _ _
 refine wpAny_bind ?_
 unfold Builtin.SmallTypes.ownedTupleHandOut;refine wpAny_bind (wpAny_setField_rec (Heap.get?_push_of_some _ z5) (by simp) fun g7 z7 b7=> ?_)
 have z7':IsZip g7 z TI TO (rawInt g5.objs.size):=z7
 refine wpAny_setField_rec z7' (by simp) fun g8 z8 b8=> ?_
 have z8':IsZip g8 z TI TO (rawInt g5.objs.size):=z8
 have up:∀c o,c≠z->g5.get? c=some o->g8.get? c=some o:=fun c o hc e=>b8.extBut _ _ hc (b7.extBut _ _ hc (Heap.get?_push_of_some _ e))
 have t8:IsPair g8 g5.objs.size x y:=b8.extBut _ _ lz (b7.extBut _ _ lz (Heap.get?_push_size _ rfl))
 have s8:g8.objs.size=g5.objs.size+1:=by rw[b8.1,b7.1,Heap.size_push]
 rw[sz] at z8' t8 s8
 refine wpAny_pure ⟨_,rfl, ?_⟩
 show Q (.ref g5.objs.size) _
 rw[sz]
 obtain⟨oi,qi,ri⟩:=i5
 obtain⟨oj,qj,rj⟩:=j5
 exact r g8 z8' (up _ _ D.TOz o5') ⟨oi,up _ _ D.i1z qi,ri⟩ ⟨oj,up _ _ D.i2z qj,rj⟩ t8 s8 fun c o hc e=>up c o (fun h=>hc (by simp[h])) (k5 c o hc e)
theorem O6 {z TI TO i j a b:Addr}{k:Nat}{xs ys:Array Value}{p q:Value}{Q:Fin->Shared->Prop} (hA:A.handled=none) (D:ZipApart z TI TO i j a b)
 (ez:IsZip s.heap z TI TO .none) (eI:IsPair s.heap TI (.ref i) (.ref j)) (eO:IsPair s.heap TO p q) (ei:IsTupIter s.heap i a k) (ej:IsTupIter s.heap j b k) (ea:IsTup s.heap a xs) (eb:IsTup s.heap b ys)
 (hend:xs[k]? =none\/ys[k]? =none)
 (r:∀g u,(∀c o,c∉[z,TO,i,j]->s.heap.get? c=some o->g.get? c=some o)->(∃o,g.get? u=some o/\o.cls= .type "StopIteration")->E (.ref u) {s with heap:=g}):
 wpAny (model prog w) A (Builtin.«zip.__next__» ⟨[.ref z],[]⟩) Q E s:=by
 show wpAny _ _ (field (.ref z) 2>>=_) _ _ s
 refine wpAny_bind (wpAny_field ez rfl (x:= .bool false) rfl ?_)
 show wpAny _ _ (field (.ref z) 3>>=_) _ _ s
 refine wpAny_bind (wpAny_field ez rfl (x:= .ref TI) rfl (wpAny_bind (wpAny_seqItems eI rfl ?_)))
 show wpAny _ _ (Builtin.SmallTypes.ownedTupleIsFree (.ref z)>>=_) _ _ s
 refine wpAny_bind ?_
 unfold Builtin.SmallTypes.ownedTupleIsFree;refine wpAny_bind (wpAny_field ez rfl (x:= .none) rfl (wpAny_pure ?_))
 simp only[if_true]
 refine wpAny_bind (wpAny_rule (wpAny_bind (wpAny_field ez rfl (x:= .ref TO) rfl (wpAny_bind (wpAny_setField_rec ez (by simp) fun g1 z1 b1=> ?_)))))
 have z1':IsZip g1 z TI TO .ellipsis:=z1
 refine wpAny_bind ?_
 simp only[List.forIn_cons,List.forIn_nil,List.zipIdx_cons,List.zipIdx_nil]
 refine wpAny_bind (wpAny_bind (wpAny_onRaise ?_))
 show wpAny _ _ (Builtin.SmallTypes.nextOf (.ref i)>>=_) _ _ _
 have nz:∀{g:Heap}{u o},IsZip g z TI TO .ellipsis->g.get? u=some o->o.cls= .type "StopIteration"->u≠z:=fun hz hu hc h=>by subst h;rw[hz] at hu;cases hu;simp at hc
 cases hx:xs[k]? with
 | none=>
   refine wpAny_bind (Kp hA (ei.extBut b1.extBut D.i1z) (ea.extBut b1.extBut D.l1z) hx fun g2 u b2 ⟨ou,hou,hcu⟩=> ?_)
   have z2:IsZip g2 z TI TO .ellipsis:=b2 _ _ D.i1z.symm z1'
   refine wpAny_setField_rec z2 (by simp) fun g3 _ b3=>r g3 u (fun c o hc e=> ?_) ⟨ou,b3.extBut _ _ (nz z2 hou hcu) hou,hcu⟩
   simp only[List.mem_cons,List.not_mem_nil,or_false,not_or] at hc
   exact b3.extBut _ _ hc.1 (b2 _ _ hc.2.2.1 (b1.extBut _ _ hc.1 e))
 | some x=>
   have hy:ys[k]? =none:=by rcases hend with h | h;exact absurd (hx.symm.trans h) (by simp);exact h
   refine wpAny_bind (Ef (ei.extBut b1.extBut D.i1z) (ea.extBut b1.extBut D.l1z) hx fun g2 i2 b2=>wpAny_pure ?_)
   have o2:IsPair g2 TO p q:=b2.extBut _ _ D.TOi1 (b1.extBut _ _ D.TOz eO)
   refine wpAny_bind (wpAny_seqItems o2 rfl (wpAny_bind (wpAny_updateSeq_pair o2 fun g3 o3 b3=> ?_)))
   refine wpAny_bind (wpAny_letGo (wpAny_pure (wpAny_bind (wpAny_bind (wpAny_onRaise ?_)))))
   show wpAny _ _ (Builtin.SmallTypes.nextOf (.ref j)>>=_) _ _ _
   refine wpAny_bind (Kp hA (((ej.extBut b1.extBut D.i2z).extBut b2.extBut D.i12.symm).extBut b3.extBut D.TOi2.symm) (((eb.extBut b1.extBut D.l2z).extBut b2.extBut D.l2i1).extBut b3.extBut D.l2TO) hy fun g4 u b4 ⟨ou,hou,hcu⟩=> ?_)
   have z4:IsZip g4 z TI TO .ellipsis:=b4 _ _ D.i2z.symm (b3.extBut _ _ D.TOz.symm (b2.extBut _ _ D.i1z.symm z1'))
   refine wpAny_setField_rec z4 (by simp) fun g5 _ b5=>r g5 u (fun c o hc e=> ?_) ⟨ou,b5.extBut _ _ (nz z4 hou hcu) hou,hcu⟩
   simp only[List.mem_cons,List.not_mem_nil,or_false,not_or] at hc
   exact b5.extBut _ _ hc.1 (b4 _ _ hc.2.2.2 (b3.extBut _ _ hc.2.1 (b2.extBut _ _ hc.2.2.1 (b1.extBut _ _ hc.1 e))))
end
end L2
set_option maxRecDepth 100000
namespace L2
open PySem PySem.Spec PyProof.Rows
abbrev tzA (g:Heap) (a:Addr):Heap:=g.push {cls:= .type "tuple_iterator",data:= .fields #[.ref a, .int 0 0]}
abbrev tzB (g:Heap) (a b:Addr):Heap:=(tzA g a).push {cls:= .type "tuple_iterator",data:= .fields #[.ref b, .int 0 0]}
abbrev tzC (g:Heap) (a b:Addr):Heap:=(tzB g a b).push {cls:= .type "tuple",data:= .seq #[.ref g.objs.size, .ref (tzA g a).objs.size]}
abbrev tzD (g:Heap) (a b:Addr):Heap:=(tzC g a b).push {cls:= .type "tuple",data:= .seq #[.none, .none]}
abbrev tzE (g:Heap) (a b:Addr):Heap:=(tzD g a b).push {cls:= .type "zip",data:= .fields #[.none, .bool false, .bool false, .ref (tzB g a b).objs.size, .ref (tzC g a b).objs.size]}
theorem O7 (a b:Addr) (xs ys:Array Value):
 Meets (Builtin.«zip.__new__» ⟨[.type "zip", .ref a, .ref b],[]⟩) (fun _ R s=>IsTup s.heap a xs/\IsTup s.heap b ys/\
  R (.ok (.ret (.ref (tzD s.heap a b).objs.size))) {s with heap:=tzE s.heap a b}):=
 .of_wp fun prog w A R s h=>by
   obtain⟨hp,g,d,tk,os⟩:=s;obtain⟨ha,hb,h⟩:=h
   have hsub:=sub_zip
   have h1:IsTup (Shared.heap ⟨hp,g,d,tk,os⟩) a xs:=ha
   have h2:IsTup (Shared.heap ⟨hp.push {cls:= .type "tuple_iterator",data:= .fields #[.ref a, .int 0 0]},g,d,tk,os⟩) b ys:=hb.push _
   wp_walk using iter_tuple h1,iter_tuple h2
   exact⟨_,rfl,h⟩
section
variable {prog:Program}{w:World}{A:Around}{E:Value->Shared->Prop}{s:Shared}
theorem TJ {a b:Addr}{xs ys:Array Value}{Q:Value->Shared->Prop} (ha:IsTup s.heap a xs) (hb:IsTup s.heap b ys)
 (q:∀g n,n=s.heap.objs.size->IsZip g (n+4) (n+2) (n+3) .none->IsPair g (n+2) (.ref n) (.ref (n+1))->
   IsPair g (n+3) .none .none->IsTupIter g n a 0->IsTupIter g (n+1) b 0->
   (∀c o,s.heap.get? c=some o->g.get? c=some o)->Q (.ref (n+4)) {s with heap:=g}):
 wpAny (model prog w) A (call (.type "zip") [.ref a, .ref b]) Q E s:=by
 refine callType_new F.called_zip (by decide) (F.typeCall_zip_2 _ _) (F.newCall_zip_2 _ _) (fun obj=>F.args_object_init_3 obj _ _) F.entry_zip_new
  (O7 a b xs ys) ⟨ha,hb, ?_⟩
 have n1:(tzA s.heap a).objs.size=s.heap.objs.size+1:=Heap.size_push ..
 have n2:(tzB s.heap a b).objs.size=s.heap.objs.size+2:=by rw[Heap.size_push,n1]
 have n3:(tzC s.heap a b).objs.size=s.heap.objs.size+3:=by rw[Heap.size_push,n2]
 have n4:(tzD s.heap a b).objs.size=s.heap.objs.size+4:=by rw[Heap.size_push,n3]
 have e5:(tzE s.heap a b).get? (tzD s.heap a b).objs.size=some _:=Heap.get?_push_size _ rfl
 have e4:(tzE s.heap a b).get? (tzC s.heap a b).objs.size=some _:=Heap.get?_push_of_some _ (Heap.get?_push_size _ rfl)
 have e3:(tzE s.heap a b).get? (tzB s.heap a b).objs.size=some _:=Heap.get?_push_of_some _ (Heap.get?_push_of_some _ (Heap.get?_push_size _ rfl))
 have e2:(tzE s.heap a b).get? (tzA s.heap a).objs.size=some _:=Heap.get?_push_of_some _ (Heap.get?_push_of_some _ (Heap.get?_push_of_some _ (Heap.get?_push_size _ rfl)))
 have e1:(tzE s.heap a b).get? s.heap.objs.size=some _:=Heap.get?_push_of_some _ (Heap.get?_push_of_some _ (Heap.get?_push_of_some _ (Heap.get?_push_of_some _ (Heap.get?_push_size _ rfl))))
 show _/\_
 rw[n2,n3,n4] at e5
 rw[n3] at e4
 rw[n1,n2] at e3
 rw[n1] at e2
 rw[n4]
 exact⟨⟨_,e5,rfl⟩,q _ _ rfl e5 e3 e4 ⟨_,e1,rfl,rfl⟩ ⟨_,e2,rfl,rfl⟩ fun c o x=>
  Heap.get?_push_of_some _ (Heap.get?_push_of_some _ (Heap.get?_push_of_some _ (Heap.get?_push_of_some _ (Heap.get?_push_of_some _ x))))⟩
theorem TQ {z TI TO i j a b:Addr}{k:Nat}{xs ys:Array Value}{x y p q:Value}{Q:Option Value->Shared->Prop} (D:ZipApart z TI TO i j a b)
 (ez:IsZip s.heap z TI TO .none) (eI:IsPair s.heap TI (.ref i) (.ref j)) (eO:IsPair s.heap TO p q) (ei:IsTupIter s.heap i a k) (ej:IsTupIter s.heap j b k) (ea:IsTup s.heap a xs) (eb:IsTup s.heap b ys)
 (hx:xs[k]? =some x) (hy:ys[k]? =some y)
 (r:∀g,IsZip g z TI TO (rawInt s.heap.objs.size)->IsPair g TO x y->IsTupIter g i a (k+1)->IsTupIter g j b (k+1)->IsPair g s.heap.objs.size x y->g.objs.size=s.heap.objs.size+1->
   (∀c o,c∉[z,TO,i,j]->s.heap.get? c=some o->g.get? c=some o)->Q (some (.ref s.heap.objs.size)) {s with heap:=g}):
 wpAny (model prog w) A (pyNext (.ref z)) Q E s:=by
 have ty:s.TypeIs (.ref z) "zip":=⟨_,ez,rfl⟩
 unfold pyNext
 exact wpAny_bind (wpAny_attempt (wpAny_callSpecial?_slot (name:=Str.ofString "__next__") ty F.slot_zip_next (wpAny_call_entry F.slot_zip_next ty F.entry_zip_next
  (O5 D ez eI eO ei ej ea eb hx hy fun g a1 a2 a3 a4 a5 a6 a7=>wpAny_pure (r g a1 a2 a3 a4 a5 a6 a7)) (F.args_zip_next_1 _))))
theorem Y9 {z TI TO i j a b:Addr}{k:Nat}{xs ys:Array Value}{p q:Value}{Q:Option Value->Shared->Prop} (hA:A.handled=none) (D:ZipApart z TI TO i j a b)
 (ez:IsZip s.heap z TI TO .none) (eI:IsPair s.heap TI (.ref i) (.ref j)) (eO:IsPair s.heap TO p q) (ei:IsTupIter s.heap i a k) (ej:IsTupIter s.heap j b k) (ea:IsTup s.heap a xs) (eb:IsTup s.heap b ys)
 (hend:xs[k]? =none\/ys[k]? =none)
 (r:∀g,(∀c o,c∉[z,TO,i,j]->s.heap.get? c=some o->g.get? c=some o)->Q none {s with heap:=g}):
 wpAny (model prog w) A (pyNext (.ref z)) Q E s:=by
 have ty:s.TypeIs (.ref z) "zip":=⟨_,ez,rfl⟩
 unfold pyNext
 refine wpAny_bind (wpAny_attempt (wpAny_callSpecial?_slot (name:=Str.ofString "__next__") ty F.slot_zip_next (wpAny_call_entry F.slot_zip_next ty F.entry_zip_next
  (O6 hA D ez eI eO ei ej ea eb hend fun g u hk ⟨o,ho,hc⟩=> ?_) (F.args_zip_next_1 _))))
 exact wpAny_bind (wpAny_isInstance (T:="StopIteration") (b:=true) ⟨o,ho,hc⟩ isSubtype_stop (wpAny_pure (r _ hk)))
end
def Za (K:PySem.W.Frag) (l1 l2:Addr):It:=
 ⟨fun i H=>∃xs ys x y,SqT K H l1 xs/\SqT K H l2 ys/\xs[i]? =some x/\ys[i]? =some y,
  fun i H v H'=>∃T x y,v= .ref T/\H T=none/\H'=upd H T (.tup [x,y])/\(∀xs,SqT K H l1 xs->xs[i]? =some x)/\∀ys,SqT K H l2 ys->ys[i]? =some y,
  fun i H=>∃xs ys,SqT K H l1 xs/\SqT K H l2 ys/\min xs.length ys.length=i⟩
theorem TV {P:Program}{w:World}{K:PySem.W.Frag}{elts:List Expr}{k:Nat}{pos:Pos} (z TI TO i1 i2 l1 l2:Addr) (D:ZipApart z TI TO i1 i2 l1 l2):
 Turn P w K (.Tuple elts k pos) (Za K l1 l2) [z,TI,TO,i1,i2] z (fun i h=>IsZip h z TI TO .none/\IsPair h TI (.ref i1) (.ref i2)/\(∃a b,IsPair h TO a b)/\IsTupIter h i1 l1 i/\IsTupIter h i2 l2 i) where
 mem:=by simp
 obj:=fun i h st b hb=>by
  obtain⟨h1,h2,⟨a,c,h3⟩,⟨o4,e4,_,d4⟩,⟨o5,e5,_,d5⟩⟩:=st
  have hb':b=z\/b=TI\/b=TO\/b=i1\/b=i2:=by simpa using hb
  rcases hb' with rfl | rfl | rfl | rfl | rfl
  ·exact⟨_,h1,fun v e=>by cases e⟩
  ·exact⟨_,h2,fun v e=>by cases e⟩
  ·exact⟨_,h3,fun v e=>by cases e⟩
  ·exact⟨o4,e4,fun v e=>by rw[d4] at e;cases e⟩
  ·exact⟨o5,e5,fun v e=>by rw[d5] at e;cases e⟩
 keep:=fun i h h' st kp=>by
  obtain⟨h1,h2,⟨a,c,h3⟩,⟨o4,e4,r4⟩,⟨o5,e5,r5⟩⟩:=st
  exact⟨kp z (by simp) _ h1,kp TI (by simp) _ h2,⟨a,c,kp TO (by simp) _ h3⟩,⟨o4,kp i1 (by simp) _ e4,r4⟩,⟨o5,kp i2 (by simp) _ e5,r5⟩⟩
 item:=by
  intro X hP hw hK hc i pins s σ H E I hf st hg
  subst hP hw hK
  obtain⟨xs,ys,x,y,hq1,hq2,hx,hy⟩:=hg
  obtain⟨aci,rv1,p1,hz1⟩:=I.tuple hq1
  obtain⟨its2,rv2,p2,hz2⟩:=I.tuple hq2
  obtain⟨u1,hu1,ru1⟩:=rv1.get hx
  obtain⟨u2,hu2,ru2⟩:=rv2.get hy
  obtain⟨s1,s2,⟨a3,b3,s3⟩,s4,s5⟩:=st
  refine TQ D s1 s2 s3 s4 s5 p1 p2 (x:=u1) (y:=u2) (by simpa using hu1) (by simpa using hu2) fun g t1 t3 t4 t5 isT sz kp=> ?_
  have sub:∀c∈[z,TO,i1,i2],c∈[z,TI,TO,i1,i2]:=fun c hc=>by
   have:c=z\/c=TO\/c=i1\/c=i2:=by simpa using hc
   rcases this with rfl | rfl | rfl | rfl<;>simp
  have tI:IsPair g TI (.ref i1) (.ref i2):=kp TI _ (by simp[D.TIz,D.TITO,D.TIi1,D.TIi2]) s2
  refine⟨.ref s.heap.objs.size,rfl,wpAny_letOwnedTupleGo_zip t1 fun h3 t1' b3'=> ?_⟩
  have kp3:∀c o,c∉[z,TO,i1,i2]->s.heap.get? c=some o->h3.get? c=some o:=fun c o hc e=>b3'.extBut _ _ (fun h=>hc (by simp[h])) (kp c o hc e)
  have J:Inv X pins σ H {s with heap:=h3,toks:=s.toks}:=I.zF (ch:=[z,TO,i1,i2]) (fun b hb=>hf b (sub b hb)) kp3
  have hT0:H s.heap.objs.size=none:=I.hok.fresh (Nat.le_refl _)
  have nT:s.heap.objs.size∉[z,TI,TO,i1,i2]:=fun hm=>by
   obtain⟨o,e⟩:∃o,s.heap.get? s.heap.objs.size=some o:=by
    have:s.heap.objs.size=z\/s.heap.objs.size=TI\/s.heap.objs.size=TO\/s.heap.objs.size=i1\/s.heap.objs.size=i2:=by simpa using hm
    obtain⟨o4,e4,_⟩:=s4
    obtain⟨o5,e5,_⟩:=s5
    rcases this with h | h | h | h | h
    ·exact⟨_,h▸s1⟩
    ·exact⟨_,h▸s2⟩
    ·exact⟨_,h▸s3⟩
    ·exact⟨_,h▸e4⟩
    ·exact⟨_,h▸e5⟩
   exact absurd (Heap.lt_size e) (Nat.lt_irrefl _)
  have Zb:IsTup h3 s.heap.objs.size #[u1,u2]:=⟨_,b3'.extBut _ _ (fun h=>nT (by simp[h])) isT,rfl,_,rfl⟩
  have fp:=I.HJ (H':=H) (Nat.le_refl _) hT0
  refine⟨.ref s.heap.objs.size,upd H s.heap.objs.size (.tup [x,y]),J.track hT0 ?_ fp.2.1 fp.2.2.2.2.1 fp.2.2.2.2.2 ?_,rfl,⟨_,x,y,rfl,hT0,rfl,fun zs hs=>by rw[I.Cy hs hq1];exact hx,fun zs hs=>by rw[I.Cy hs hq2];exact hy⟩,
   ⟨t1',b3'.extBut _ _ D.TIz tI,⟨_,_,b3'.extBut _ _ D.TOz t3⟩,t4.extBut b3'.extBut D.i1z,t5.extBut b3'.extBut D.i2z⟩,fun b hb=> ?_⟩
  ·cases e:X.s₀.heap.get? s.heap.objs.size with
   | none=>rfl
   | some o=>exact absurd (Heap.lt_size e) (Nat.not_lt.mpr I.sz)
  ·exact⟨by show 2<=sizeLine;rw[sizeLine_eq];decide,[u1,u2], .cons ru1 (.cons ru2 .nil),Zb⟩
  ·have nb:b≠s.heap.objs.size:=fun e=>nT (by rw[<-e];exact hb)
   rw[ao nb];exact(hf b hb).1
 done:=by
  intro X hP hw hK hc i pins s σ H E I hf st hg
  subst hP hw hK
  obtain⟨xs,ys,hq1,hq2,hi⟩:=hg
  obtain⟨aci,rv1,p1,hz1⟩:=I.tuple hq1
  obtain⟨its2,rv2,p2,hz2⟩:=I.tuple hq2
  obtain⟨s1,s2,⟨a3,b3,s3⟩,s4,s5⟩:=st
  have e1:=rv1.length
  have e2:=rv2.length
  refine Y9 (I.ok.hd hc) D s1 s2 s3 s4 s5 p1 p2 ?_ fun g kp=>⟨rfl,I.zF (t':=s.toks) (ch:=[z,TO,i1,i2]) (fun b hb=>hf b ?_) kp⟩
  ·rcases Nat.le_total xs.length ys.length with h | h
   ·exact .inl (by simp;omega)
   ·exact .inr (by simp;omega)
  ·have:b=z\/b=TO\/b=i1\/b=i2:=by simpa using hb
   rcases this with rfl | rfl | rfl | rfl<;>simp
 self:=fun _ _ _ _ _ st h=>wpAny_pyIter_zip st.1 h
def Wa (K:PySem.W.Frag) (ta:TA):TI:=fun σ H R=>ta σ H fun vs H1=>∃l1 l2,vs=[.ref l1, .ref l2]/\(∃xs,SqT K H1 l1 xs)/\(∃ys,SqT K H1 l2 ys)/\R (Za K l1 l2) H1
theorem TX {X:Cx}{elts:List Expr}{k:Nat}{tp:Pos}{a b:Expr}{ta:TA}{p pos:Pos} (hg:Gl X "zip") (hm:X.mg "zip"=none) (ha:PA X [a,b] ta) (hs:starEach [a,b] X.env=[(false,eval a X.env),(false,eval b X.env)]:=by rfl) (hs2:starEach [b] X.env=[(false,eval b X.env)]:=by rfl):
 PI X (.Tuple elts k tp) (.Call (.Name "zip" p) [a,b] [] pos) (Wa X.K ta):=by
 intro pins s σ H R I h
 refine Call_ (vV I hg hm Yu (PyProof.Rows.callWith_type1 (thn (ha pos pins s σ H _ I h) fun us s1 ⟨vs,H1,I1,r1,q1⟩=> ?_) (by rw[hs,hs2]) (by rw[hs2];rfl)))
 obtain⟨l1,l2,rfl,⟨xs,hq1⟩,⟨ys,hq2⟩,q⟩:=q1
 obtain⟨u,v,rfl,ru,rv⟩:=vals2 r1
 cases ru
 cases rv
 obtain⟨aci,_,p1,_⟩:=I1.tuple hq1
 obtain⟨its2,_,p2,_⟩:=I1.tuple hq2
 have D:=PySem.W.ktu_apart s1.heap.objs.size l1 l2 p1.lt p2.lt
 refine TJ p1 p2 fun h5 n en hz hTI hTO hi1 hi2 kp=> ?_
 subst en
 refine wpAny_pyIter_zip hz ?_
 have I2:Inv X pins σ H1 {s1 with heap:=h5}:=I1.kept (t':=s1.toks) kp
 refine⟨s1.heap.objs.size+4,[s1.heap.objs.size+4,s1.heap.objs.size+2,s1.heap.objs.size+3,s1.heap.objs.size,s1.heap.objs.size+1],_,_,H1,rfl,I2,TV _ _ _ _ _ l1 l2 D,⟨hz,hTI,⟨_,_,hTO⟩,hi1,hi2⟩,fun b hb=> ?_,q⟩
 have hle:s1.heap.objs.size<=b:=by
  have:b=s1.heap.objs.size+4\/b=s1.heap.objs.size+2\/b=s1.heap.objs.size+3\/b=s1.heap.objs.size\/b=s1.heap.objs.size+1:=by simpa using hb
  rcases this with rfl | rfl | rfl | rfl | rfl<;>first | exact Nat.le_refl _ | exact Nat.le_add_right _ _
 exact I1.HJ hle (I1.hok.fresh hle)
theorem TY {X:Cx}{elts:List Expr}{k:Nat}{tp:Pos}{a b:Expr}{ta:TA}{p pos:Pos} (hg:Gl X "zip") (hm:X.mg "zip"=none) (ha:QA X [a,b] ta) (hs:starEach [a,b] X.env=[(false,eval a X.env),(false,eval b X.env)]:=by rfl) (hs2:starEach [b] X.env=[(false,eval b X.env)]:=by rfl):
 QI X (.Tuple elts k tp) (.Call (.Name "zip" p) [a,b] [] pos) (Wa X.K ta):=⟨TX hg hm ha.h hs hs2⟩
theorem Mg {K:PySem.W.Frag}{a b:Addr}{xs ys:List V}{g:TG}{tc:TT}{te:TE}{σ:St}{H:Hp}{D:Addr}{Q:VK} (Pv:Nat->St->Hp->Prop) (hxy:xs.length=ys.length) (h0:Pv 0 σ (upd H D (.lst [])))
 (hl:∀i σ H,i<=xs.length->Pv i σ H->SqT K H a xs/\SqT K H b ys)
 (hs:∀i x y T σ' H',xs[i]? =some x->ys[i]? =some y->Pv i σ' H'->H' T=none->g (.ref T) σ' (upd H' T (.tup [x,y])) fun σ3 H3=>tc σ3 H3 fun b H4=>
   if b=true then te σ3 H4 fun y H5=>∃ys,H5 D=some (.lst ys)/\ys.length<sizeLine/\Pv (i+1) σ3 (upd H5 D (.lst (ys++[y]))) else Pv (i+1) σ3 H4) (hd:∀σ' H',Pv xs.length σ' H'->Q (.ref D) H'):
 J1 (Za K a b) g tc te D σ (upd H D (.lst [])) Q:=by
 refine⟨fun i m σ H=>m=xs.length - i/\i<=xs.length/\Pv i σ H,⟨xs.length,by simp,Nat.zero_le _,h0⟩, ?_⟩
 rintro i m σ H ⟨rfl,hi,p⟩
 have q:=hl i σ H hi p
 by_cases hlt:i<xs.length
 ·refine .inr ⟨⟨xs,ys,xs[i],ys[i]'(hxy▸hlt),q.1,q.2,by simp[hlt],by simp[hxy▸hlt]⟩,Pv (i+1),fun σ' H' p'=>⟨xs.length - (i+1),by omega,rfl,hlt,p'⟩,fun v H' y=> ?_⟩
  obtain⟨T,x,y',rfl,hT,rfl,y1,y2⟩:=y
  exact hs i x y' T σ _ (y1 xs q.1) (y2 ys q.2) p hT
 ·have e:i=xs.length:=by omega
  subst e
  exact .inl ⟨⟨xs,ys,q.1,q.2,by omega⟩,hd σ H p⟩
end L2
set_option maxRecDepth 100000
namespace RB
open PySem PySem.Spec PyProof.Rows L2
mutual
def cU:Th->Th->Bool
 | .tup xs, .tup ys=>iV xs ys
 | .int i, .int j=>decide (i=j)
 | .str x, .str y=>decide (x=y)
 | _,_=>false
def iV:List Th->List Th->Bool
 |[],[]=>true
 | x::xs,y::ys=>cU x y&&iV xs ys
 | _,_=>false
end
def DpT:Nat->Th->Prop
 | 0, .tup _=>False
 | d+1, .tup ts=>ts.length<=1000/\∀t∈ts,DpT d t
 | _,_=>True
theorem Ak:∀{xs ys:List Th},xs.length≠ys.length->iV xs ys=false
 |[],[],h=>absurd rfl h
 |[],_::_,_=>by simp[iV]
 | _::_,[],_=>by simp[iV]
 | x::xs,y::ys,h=>by
   have:iV xs ys=false:=Ak (by simpa using h)
   simp[iV,this]
theorem Al:∀{xs ys:List Th},xs.length=ys.length->iV xs ys=((List.zipWith cU xs ys).all id)
 |[],[],_=>by simp[iV]
 | x::xs,y::ys,h=>by
   have:iV xs ys=((List.zipWith cU xs ys).all id):=Al (by simpa using h)
   simp[iV,this]
def Eg (K:PySem.W.Frag) (d:Nat):Sp:=fun vs H Q _=>∃v t v' t',vs=[v,v']/\mj K H v t/\mj K H v' t'/\DpT d t/\∀H',aO H H'->Q (.bl (cU t t')) H'
theorem jV.at {K:PySem.W.Frag}{H:Hp}{vs:List V}{ts:List Th}{i:Nat}{v:V} (h:jV K H vs ts) (e:vs[i]? =some v):∃(hi:i<ts.length),mj K H v ts[i]:=by
 obtain⟨t,et,r⟩:=h.get e
 obtain⟨hi,rfl⟩:=List.getElem?_eq_some_iff.mp et
 exact⟨hi,r⟩
theorem Mh {α β γ:Type} (f:α->β->γ) {xs:List α}{ys:List β}{i:Nat} (h1:i<xs.length) (h2:i<ys.length):(List.zipWith f xs ys).take i++[f xs[i] ys[i]]=(List.zipWith f xs ys).take (i+1):=by
 rw[List.take_add_one,List.getElem?_eq_getElem (by simp;omega),List.getElem_zipWith];rfl
end RB
set_option maxRecDepth 100000
namespace RB
open PySem L2 PySem.Spec PyProof.Rows
theorem DpT.mono:∀{d e:Nat}{t:Th},d<=e->DpT d t->DpT e t
 | 0,0,_,_,h=>h
 | 0,e+1,t,_,h=>by cases t<;>first | trivial | exact h.elim
 | d+1,0,_,hl,_=>absurd hl (by omega)
 | d+1,e+1,t,hl,h=>by
   cases t with
   | tup ts=>exact⟨h.1,fun t ht=>DpT.mono (by omega) (h.2 t ht)⟩
   | _=>trivial
theorem vp {d:Nat}{x:Str}:DpT d (.str x):=by cases d<;>trivial
theorem T3 {d:Nat}{i:Int}:DpT d (.int i):=by cases d<;>trivial
theorem R.dpT:∀(r:R),r.BV->DpT (r.depth+1) r.dW
 | .num n,_=>⟨by simp,fun t ht=>by
   have:t= .str "number"\/t= .int n:=by simpa using ht
   rcases this with rfl | rfl<;>first | exact vp | exact T3⟩
 | .rd x,_=>⟨by simp,fun t ht=>by
   have:t= .str "read"\/t= .str x:=by simpa using ht
   rcases this with rfl | rfl<;>exact vp⟩
 | .bin op a b,h=>⟨by simp,fun t ht=>by
   have:t= .str op.word\/t=a.dW\/t=b.dW:=by simpa using ht
   have hd:(R.bin op a b).depth=max a.depth b.depth+1:=rfl
   rcases this with rfl | rfl | rfl
   ·exact vp
   ·exact(R.dpT a h.1).mono (by omega)
   ·exact(R.dpT b h.2).mono (by omega)⟩
 | .pick a b c,h=>⟨by simp,fun t ht=>by
   have:t= .str "pick"\/t=a.dW\/t=b.dW\/t=c.dW:=by simpa using ht
   have hd:(R.pick a b c).depth=max a.depth (max b.depth c.depth)+1:=rfl
   rcases this with rfl | rfl | rfl | rfl
   ·exact vp
   ·exact(R.dpT a h.1).mono (by omega)
   ·exact(R.dpT b h.2.1).mono (by omega)
   ·exact(R.dpT c h.2.2).mono (by omega)⟩
 | .cho a ns,h=>⟨by simp,fun t ht=>by
   have:t= .str "choose"\/t=a.dW\/t= .tup (ns.map Th.str):=by simpa using ht
   have hd:(R.cho a ns).depth=a.depth+1:=rfl
   rcases this with rfl | rfl | rfl
   ·exact vp
   ·exact(R.dpT a h.1).mono (by omega)
   ·refine⟨by have:=h.2;simp at *;omega,fun t ht=> ?_⟩
    obtain⟨x,_,rfl⟩:=List.mem_map.mp ht
    exact vp⟩
end RB
set_option maxRecDepth 100000
namespace RB
open PySem L2 PySem.Spec PyProof.Rows
mutual
theorem Gg:∀{t u:Th},cU t u=true->t=u
 | .tup xs, .tup ys,h=>by rw[cU] at h;rw[Dk h]
 | .int i, .int j,h=>by rw[cU] at h;rw[of_decide_eq_true h]
 | .str x, .str y,h=>by rw[cU] at h;rw[of_decide_eq_true h]
 | .tup _, .non,h=>by simp[cU] at h
 | .tup _, .bl _,h=>by simp[cU] at h
 | .tup _, .int _,h=>by simp[cU] at h
 | .tup _, .str _,h=>by simp[cU] at h
 | .tup _, .oth _,h=>by simp[cU] at h
 | .int _, .non,h=>by simp[cU] at h
 | .int _, .bl _,h=>by simp[cU] at h
 | .int _, .tup _,h=>by simp[cU] at h
 | .int _, .str _,h=>by simp[cU] at h
 | .int _, .oth _,h=>by simp[cU] at h
 | .str _, .non,h=>by simp[cU] at h
 | .str _, .bl _,h=>by simp[cU] at h
 | .str _, .tup _,h=>by simp[cU] at h
 | .str _, .int _,h=>by simp[cU] at h
 | .str _, .oth _,h=>by simp[cU] at h
 | .non,u,h=>by simp[cU] at h
 | .bl _,u,h=>by simp[cU] at h
 | .oth _,u,h=>by simp[cU] at h
theorem Dk:∀{ts us:List Th},iV ts us=true->ts=us
 |[],[],_=>rfl
 | x::xs,y::ys,h=>by
   rw[iV,Bool.and_eq_true] at h
   rw[Gg h.1,Dk h.2]
 |[],_::_,h=>by simp[iV] at h
 | _::_,[],h=>by simp[iV] at h
end
inductive PlT:Th->Prop where
 | int (i:Int):PlT (.int i)
 | str (x:Str):PlT (.str x)
 | tup {ts:List Th} (h:∀t∈ts,PlT t):PlT (.tup ts)
theorem yQ:∀{ts:List Th},(∀t∈ts,cU t t=true)->iV ts ts=true
 |[],_=>by simp[iV]
 | x::xs,h=>by
   rw[iV,h x (by simp),yQ fun t ht=>h t (by simp[ht])];rfl
theorem PlT.refl {t:Th} (h:PlT t):cU t t=true:=by
 induction h with
 | int i=>simp[cU]
 | str x=>simp[cU]
 | tup h ih=>rw[cU];exact yQ ih
theorem R.plT:∀(r:R),PlT r.dW
 | .num n=> .tup fun t ht=>by
   have:t= .str "number"\/t= .int n:=by simpa using ht
   rcases this with rfl | rfl<;>constructor
 | .rd x=> .tup fun t ht=>by
   have:t= .str "read"\/t= .str x:=by simpa using ht
   rcases this with rfl | rfl<;>constructor
 | .bin op a b=> .tup fun t ht=>by
   have:t= .str op.word\/t=a.dW\/t=b.dW:=by simpa using ht
   rcases this with rfl | rfl | rfl
   ·constructor
   ·exact R.plT a
   ·exact R.plT b
 | .pick a b c=> .tup fun t ht=>by
   have:t= .str "pick"\/t=a.dW\/t=b.dW\/t=c.dW:=by simpa using ht
   rcases this with rfl | rfl | rfl | rfl
   ·constructor
   ·exact R.plT a
   ·exact R.plT b
   ·exact R.plT c
 | .cho a ns=> .tup fun t ht=>by
   have:t= .str "choose"\/t=a.dW\/t= .tup (ns.map Th.str):=by simpa using ht
   rcases this with rfl | rfl | rfl
   ·constructor
   ·exact R.plT a
   ·refine .tup fun t ht=> ?_
    obtain⟨x,_,rfl⟩:=List.mem_map.mp ht
    constructor
theorem Iw:∀{o o':Op},o.word=o'.word->o=o':=by
 intro o o' h;cases o<;>cases o'<;>first | rfl | exact absurd h (by decide)
theorem Dl (o:Op):o.word≠"choose":=by cases o<;>decide
theorem R.v9:∀{r s:R},r.dW=s.dW->r=s
 | .num n, .num m,h=>by simp[R.dW] at h;rw[h]
 | .rd x, .rd y,h=>by simp[R.dW] at h;rw[h]
 | .bin o a b, .bin o' a' b',h=>by
   simp only[R.dW,Th.tup.injEq,List.cons.injEq,Th.str.injEq,and_true] at h
   rw[Iw h.1,R.v9 h.2.1,R.v9 h.2.2]
 | .pick a b c, .pick a' b' c',h=>by
   simp only[R.dW,Th.tup.injEq,List.cons.injEq,and_true,true_and] at h
   rw[R.v9 h.1,R.v9 h.2.1,R.v9 h.2.2]
 | .cho a ns, .cho a' ms,h=>by
   simp only[R.dW,Th.tup.injEq,List.cons.injEq,and_true,true_and] at h
   rw[R.v9 h.1,(List.map_inj_right (fun x y e=>by cases e;rfl)).mp h.2]
 | .num n, .rd y,h=>by simp[R.dW] at h
 | .num n, .bin _ _ _,h=>by simp[R.dW] at h
 | .num n, .pick _ _ _,h=>by simp[R.dW] at h
 | .num n, .cho _ _,h=>by simp[R.dW] at h
 | .rd n, .num y,h=>by simp[R.dW] at h
 | .rd n, .bin _ _ _,h=>by simp[R.dW] at h
 | .rd n, .pick _ _ _,h=>by simp[R.dW] at h
 | .rd n, .cho _ _,h=>by simp[R.dW] at h
 | .bin _ _ _, .num y,h=>by simp[R.dW] at h
 | .bin _ _ _, .rd y,h=>by simp[R.dW] at h
 | .bin _ _ _, .pick _ _ _,h=>by simp[R.dW] at h
 | .bin o _ _, .cho _ _,h=>by
   simp only[R.dW,Th.tup.injEq,List.cons.injEq,Th.str.injEq,and_true] at h
   exact absurd h.1 (Dl o)
 | .pick _ _ _, .num y,h=>by simp[R.dW] at h
 | .pick _ _ _, .rd y,h=>by simp[R.dW] at h
 | .pick _ _ _, .bin _ _ _,h=>by simp[R.dW] at h
 | .pick _ _ _, .cho _ _,h=>by simp[R.dW] at h
 | .cho _ _, .num y,h=>by simp[R.dW] at h
 | .cho _ _, .rd y,h=>by simp[R.dW] at h
 | .cho _ _, .bin o _ _,h=>by
   simp only[R.dW,Th.tup.injEq,List.cons.injEq,Th.str.injEq,and_true] at h
   exact absurd h.1.symm (Dl o)
 | .cho _ _, .pick _ _ _,h=>by simp[R.dW] at h
theorem T4 {r s:R} (e:r=s):cU r.dW s.dW=true:=by rw[e];exact s.plT.refl
theorem T5 {r s:R} (e:r≠s):cU r.dW s.dW=false:=by
 cases h:cU r.dW s.dW with
 | false=>rfl
 | true=>exact absurd (R.v9 (Gg h)) e
end RB
set_option maxRecDepth 100000
namespace L2
open PySem PySem.Spec PyProof.Rows
def Ite (K:PySem.W.Frag) (l:Addr):It:=
 ⟨fun i H=>∃xs x,SqL K H l xs/\xs[i]? =some x,
  fun i H v H'=>∃T x,v= .ref T/\H T=none/\H'=upd H T (.tup [.int (i:Int),x])/\∀xs,SqL K H l xs->xs[i]? =some x,
  fun i H=>∃xs,SqL K H l xs/\xs.length=i⟩
theorem Mi {P:Program}{w:World}{K:PySem.W.Frag}{elts:List Expr}{k:Nat}{pos:Pos} (e it l:Addr) (n1:e≠it) (n2:l≠e) (n3:l≠it):
 Turn P w K (.Tuple elts k pos) (Ite K l) [e,it] e (fun i h=>(∃old,IsEnum h e it i old)/\h.IsListIter it l i) where
 mem:=by simp
 obj:=fun i h st b hb=>by
  obtain⟨⟨old,h1⟩,⟨o4,e4,_,d4⟩⟩:=st
  have hb':b=e\/b=it:=by simpa using hb
  rcases hb' with rfl | rfl
  ·exact⟨_,h1,fun v e=>by cases e⟩
  ·exact⟨o4,e4,fun v e=>by rw[d4] at e;cases e⟩
 keep:=fun i h h' st kp=>by
  obtain⟨⟨old,h1⟩,h4⟩:=st
  exact⟨⟨old,kp e (by simp) _ h1⟩,h4.at fun o z=>kp it (by simp) o z⟩
 item:=by
  intro X hP hw hK hc i pins s σ H E I hf st hg
  subst hP hw hK
  obtain⟨xs,x,hq,hx⟩:=hg
  obtain⟨its,rv,p1,hz1⟩:=I.list hq
  obtain⟨u,hu,ru⟩:=rv.get hx
  obtain⟨⟨old,s1⟩,s4⟩:=st
  have W:=WalksT.enumerate (prog:=X.prog) (w:=X.w) (A:=X.A) (I.ok.hd hc) e it l n1 n2 n3 its.toArray
  have b1:i<its.length:=(List.getElem?_eq_some_iff.mp hu).1
  refine W.item i s _ _ (by simpa using b1) ⟨⟨old,s1⟩,s4,p1.isList⟩ fun T vals h2 tk pv hT isT mid kp=> ?_
  obtain⟨tt,a,ha,rfl⟩:=pv
  have ea:a=u:=by have:its[i]? =some a:=by simpa using ha
                  rw[hu] at this;exact(Option.some.inj this).symm
  subst ea
  refine⟨.ref T,rfl,W.go elts k pos i T _ _ _ mid fun h3 st3 kp3=> ?_⟩
  obtain⟨t1,t4,_⟩:=st3
  have J:Inv X pins σ H {s with heap:=h3,toks:=tk}:=I.zF (ch:=[e,it]) (fun b hb=>hf b hb) fun b o hb z=>kp3 b o hb (kp b o hb z)
  have hT0:H T=none:=I.hok.fresh hT
  have nT:T∉[e,it]:=fun hm=>by
   obtain⟨o,z⟩:∃o,s.heap.get? T=some o:=by
    have:T=e\/T=it:=by simpa using hm
    obtain⟨o4,e4,_⟩:=s4
    rcases this with rfl | rfl
    ·exact⟨_,s1⟩
    ·exact⟨_,e4⟩
   exact absurd (Heap.lt_size z) (Nat.not_lt.mpr hT)
  have Zb:IsTup h3 T #[.int i tt,a]:=by
   obtain⟨o,z,r⟩:=isT
   exact⟨o,kp3 T o nT z,r⟩
  have fp:=I.HJ (H':=H) hT hT0
  refine⟨.ref T,upd H T (.tup [.int (i:Int),x]),J.track hT0 ?_ fp.2.1 fp.2.2.2.2.1 fp.2.2.2.2.2 ?_,rfl,⟨T,x,rfl,hT0,rfl,fun zs hs=>by rw[I.Fj hs hq];exact hx⟩,⟨t1,t4⟩,fun b hb=> ?_⟩
  ·cases z:X.s₀.heap.get? T with
   | none=>rfl
   | some o=>exact absurd (Heap.lt_size z) (Nat.not_lt.mpr (Nat.le_trans I.sz hT))
  ·exact⟨by show 2<=sizeLine;rw[sizeLine_eq];decide,[.int i tt,a], .cons ⟨tt,rfl⟩ (.cons ru .nil),Zb⟩
  ·have nb:b≠T:=fun z=>nT (by rw[<-z];exact hb)
   rw[ao nb];exact(hf b hb).1
 done:=by
  intro X hP hw hK hc i pins s σ H E I hf st hg
  subst hP hw hK
  obtain⟨xs,hq,hi⟩:=hg
  obtain⟨its,rv,p1,hz1⟩:=I.list hq
  obtain⟨s1,s4⟩:=st
  have W:=WalksT.enumerate (prog:=X.prog) (w:=X.w) (A:=X.A) (I.ok.hd hc) e it l n1 n2 n3 its.toArray
  have en:its.toArray.size=i:=by rw[List.size_toArray,<-rv.length];exact hi
  subst en
  exact W.done s _ _ ⟨s1,s4,p1.isList⟩ fun h2 tk kp=>⟨rfl,I.zF (ch:=[e,it]) (fun b hb=>hf b hb) kp⟩
 self:=fun A i s Q E st h=>by
  obtain⟨⟨old,h1⟩,h4⟩:=st
  exact wpAny_pyIter_enum h1 h
def Wb (K:PySem.W.Frag) (ta:TA):TI:=fun σ H R=>ta σ H fun vs H1=>∃l,vs=[.ref l]/\(∃xs,SqL K H1 l xs)/\R (Ite K l) H1
theorem T7 {X:Cx}{elts:List Expr}{k:Nat}{tp:Pos}{a:Expr}{ta:TA}{p pos:Pos} (hg:Gl X "enumerate") (hm:X.mg "enumerate"=none) (ha:PA X [a] ta) (hs:starEach [a] X.env=[(false,eval a X.env)]:=by rfl):
 PI X (.Tuple elts k tp) (.Call (.Name "enumerate" p) [a] [] pos) (Wb X.K ta):=by
 intro pins s σ H R I h
 refine Call_ (vV I hg hm DN (PyProof.Rows.callWith_type1 (thn (ha pos pins s σ H _ I h) fun us s1 ⟨vs,H1,I1,r1,q1⟩=> ?_) (by rw[hs];rfl) (by rfl)))
 obtain⟨l,rfl,⟨xs,hq⟩,q⟩:=q1
 obtain⟨u,rfl,ru⟩:=vals1 r1
 cases ru
 obtain⟨its,_,p1,_⟩:=I1.list hq
 have lt1:l<s1.heap.objs.size:=by obtain⟨o,e,_⟩:=p1.isList;exact Heap.lt_size e
 refine call_enumerate_list p1.isList fun h5 he hi _ kp=> ?_
 refine wpAny_pyIter_enum he ?_
 have I2:Inv X pins σ H1 {s1 with heap:=h5}:=I1.kept (t':=s1.toks) kp
 refine⟨s1.heap.objs.size+1,[s1.heap.objs.size+1,s1.heap.objs.size],_,_,H1,rfl,I2,Mi _ _ l (Nat.succ_ne_self _) (Nat.ne_of_lt (Nat.lt_succ_of_lt lt1)) (Nat.ne_of_lt lt1),⟨⟨_,he⟩,hi⟩,fun b hb=> ?_,q⟩
 have hle:s1.heap.objs.size<=b:=by
  have:b=s1.heap.objs.size+1\/b=s1.heap.objs.size:=by simpa using hb
  rcases this with rfl | rfl<;>first | exact Nat.le_refl _ | exact Nat.le_add_right _ _
 exact I1.HJ hle (I1.hok.fresh hle)
theorem Kq {X:Cx}{elts:List Expr}{k:Nat}{tp:Pos}{a:Expr}{ta:TA}{p pos:Pos} (hg:Gl X "enumerate") (hm:X.mg "enumerate"=none) (ha:QA X [a] ta) (hs:starEach [a] X.env=[(false,eval a X.env)]:=by rfl):
 QI X (.Tuple elts k tp) (.Call (.Name "enumerate" p) [a] [] pos) (Wb X.K ta):=⟨T7 hg hm ha.h hs⟩
theorem Gh {K:PySem.W.Frag}{a:Addr}{xs:List V}{g:TG}{tb:TS}{D:Ends}{σ:St}{H:Hp} (Pv:Nat->St->Hp->Prop) (h0:Pv 0 σ H) (hl:∀i σ H,i<=xs.length->Pv i σ H->SqL K H a xs)
 (hs:∀i x T σ H,xs[i]? =some x->H T=none->Pv i σ H->g (.ref T) σ (upd H T (.tup [.int (i:Int),x])) fun σ2 H2=>tb {D with nx:=Pv (i+1),ct:=Pv (i+1),bk:=D.nx} σ2 H2) (hd:∀σ H,Pv xs.length σ H->D.nx σ H):
 ∃W:Nat->Nat->St->Hp->Prop,(∃m,W 0 m σ H)/\∀i m σ H,W i m σ H->
  ((Ite K a).stop i H/\D.nx σ H)\/((Ite K a).go i H/\∃N:St->Hp->Prop,(∀σ' H',N σ' H'->∃m',m'<m/\W (i+1) m' σ' H')/\∀x H',(Ite K a).yld i H x H'->g x σ H' fun σ2 H2=>tb {D with nx:=N,ct:=N,bk:=D.nx} σ2 H2):=by
 refine⟨fun i m σ H=>m=xs.length - i/\i<=xs.length/\Pv i σ H,⟨xs.length,by simp,Nat.zero_le _,h0⟩, ?_⟩
 rintro i m σ H ⟨rfl,hi,p⟩
 have q1:=hl i σ H hi p
 by_cases hlt:i<xs.length
 ·refine .inr ⟨⟨xs,xs[i],q1,List.getElem?_eq_getElem hlt⟩,Pv (i+1),fun σ' H' z=>⟨_,by omega,rfl,hlt,z⟩, ?_⟩
  rintro x H' ⟨T,u,rfl,hT,rfl,e1⟩
  exact hs i u T σ H (e1 xs q1) hT p
 ·have e:i=xs.length:=by omega
  subst e
  exact .inl ⟨⟨xs,q1,rfl⟩,hd σ H p⟩
end L2
set_option maxRecDepth 100000
namespace RB
open PySem L2 PySem.Spec PyProof.Rows
theorem jC:∀{r:R},r.Good->r.BV
 | .num _,_=>trivial
 | .rd x,h=>⟨h.2.1,fun c hc=>by have:=h.2.2 c hc;unfold Ol at this;omega⟩
 | .bin _ a b,h=>⟨jC h.1,jC h.2⟩
 | .pick a b c,h=>⟨jC h.1,jC h.2.1,jC h.2.2⟩
 | .cho a ns,h=>⟨jC h.1,h.2⟩
end RB
set_option maxRecDepth 100000
namespace RB
open PySem L2 PySem.Spec PyProof.Rows
end RB
set_option maxRecDepth 100000
namespace RB
open PySem L2 PySem.Spec PyProof.Rows
end RB
set_option maxRecDepth 100000
namespace RB
open PySem L2 PySem.Spec PyProof.Rows
end RB
set_option maxRecDepth 100000
namespace L2
open PySem PySem.Spec PyProof.Rows RB
section
variable {prog:Program}{w:World}{A:Around}{E:Value->Shared->Prop}{s:Shared}
end
end L2
namespace RB
open PySem L2 PySem.Spec PyProof.Rows
end RB
set_option maxRecDepth 100000
namespace L2
open PySem PySem.Spec PyProof.Rows RB
theorem Iz {P:Program}{w:World} (a b:Addr) (x1 x2 y1 y2:Value) (n m:Nat) (d1 d2:Option Addr) (t1 t2:Array (Option Value)):
 MeetsIn P w (Builtin.«tuple.__eq__» ⟨[.ref a, .ref b],[]⟩)
  (fun A R s=>s.heap.get? a=some {cls:= .type "tuple",dict:=d1,data:= .seq #[x1,x2] n,slots:=t1}/\s.heap.get? b=some {cls:= .type "tuple",dict:=d2,data:= .seq #[y1,y2] m,slots:=t2}/\
    xr P w A.in1 s x1 y1/\xr P w A.in1 s x2 y2/\R (.ok (.ret (.bool true))) s):=by
 intro A R s z
 obtain⟨hp,g,d,tk,os⟩:=s
 obtain⟨z1,z2,e1,e2,z⟩:=z
 have f2:=AutoSeq1.sub_tuple_tuple
 wp_walk using AutoSeq1.wpAny_loadPart' z1,AutoSeq1.wpAny_loadPart' z2,wpAny_forIn_list _ (fun rest c s'=>c.1=none/\s'=⟨hp,g,d,tk,os⟩/\(rest=[(x1,y1),(x2,y2)]\/rest=[(x2,y2)]\/rest=[])) _
 case turn=>
  rintro⟨y,x⟩ rest c s' ⟨hc,rfl,h⟩
  rcases h with h | h | h
  ·cases h
   refine wpAny_bind (e1 _ _ ?_)
   wp_walk
   exact⟨rfl,rfl, .inr (.inl rfl)⟩
  ·cases h
   refine wpAny_bind (e2 _ _ ?_)
   wp_walk
   exact⟨rfl,rfl, .inr (.inr rfl)⟩
  ·cases h
 case fin=>
  rintro⟨c1,c2⟩ s' ⟨hc,rfl,_⟩
  simp only at hc
  subst hc
  wp_walk
  first | exact z | exact⟨_,rfl,z⟩
 case h=>exact⟨rfl,rfl, .inl rfl⟩
theorem IK {P:Program}{w:World}{A:Around}{s:Shared}{a b:Addr}{x1 x2 y1 y2:Value} (ha:IsTup s.heap a #[x1,x2]) (hb:IsTup s.heap b #[y1,y2]) (h1:xr P w A.in1 s x1 y1) (h2:xr P w A.in1 s x2 y2) (hu:A.units<cLine):xr P w A s (.ref a) (.ref b):=fun E Q q=>by
 by_cases hab:a=b
 ·subst hab;exact SeqAt.EqAt.same (.ref a) P w E Q q
 obtain⟨⟨c1,d1,dt1,t1⟩,hp,hc1,n,hd1⟩:=ha
 obtain⟨⟨c2,d2,dt2,t2⟩,hq,hc2,m,hd2⟩:=hb
 simp only at hc1 hd1 hc2 hd2
 subst hc1 hd1 hc2 hd2
 have hT:s.TypeIs (.ref a) "tuple":=⟨_,hp,rfl⟩
 unfold eqBool
 refine wpAny_holding (wpAny_ite_split (fun z=>absurd (by have:=eq_of_beq z;injection this) hab) fun _=>wpAny_bind ?_)
 refine wpAny_richCompare_same_room (op:= .Eq) hT ⟨_,hq,rfl⟩ F.slot_tuple_eq (call_meetsIn F.slot_tuple_eq hT F.entry_tuple_eq (F.args_tuple_eq_2 _ _) (Iz a b x1 x2 y1 y2 n m d1 d2 t1 t2) ⟨hp,hq,h1,h2, ?_⟩) hu
 exact⟨(fun x=>nomatch x),wpAny_truthy_bool q⟩
theorem Eh {X:Cx}{pins:List (Addr×Obj)}{s:Shared}{σ:St}{H:Hp}{A:Around}{x y:V}{z z':Value} (I:Inv X pins σ H s) (rz:RelV x z) (rz':RelV y z') (h:EqV H x y) (hu:A.units<cLine):xr X.prog X.w A s z z':=by
 rcases h with⟨e,pv⟩ | ⟨p,q',kvs,e3,e4,hp,hq,hpl⟩
 ·rw[<-e] at rz'
  exact xr.of (Ai pv rz rz')
 ·rw[e3] at rz
  rw[e4] at rz'
  cases rz
  cases rz'
  obtain⟨_,lo,va,ka,da⟩:=(show dm X.prog X.w H s.heap p (.dK kvs) from hp.ok I.hok)
  obtain⟨_,lo',vb,kb,db⟩:=(show dm X.prog X.w H s.heap q' (.dK kvs) from hq.ok I.hok)
  exact Iu lo lo' ka kb da db hpl hu
def afD (H:Hp) (x y:V):Prop:=EqV H x y\/∃a b x1 x2 y1 y2,x= .ref a/\y= .ref b/\H a=some (.tup [x1,x2])/\H b=some (.tup [y1,y2])/\EqV H x1 y1/\EqV H x2 y2
end L2
set_option maxRecDepth 100000
namespace RB
open PySem L2 PySem.Spec PyProof.Rows
section
variable {p h hg hc h2 g2 c2 rcd r2 wd w2 hd:Addr}{o:Obj}{n:Nat}{gv:Kn}{rc:Rn}{kg kc kr kw:List (Key×V)}{rm:Rm}{H H':Hp}
end
end RB
set_option maxRecDepth 100000
namespace RB
open PySem L2 PySem.Spec PyProof.Rows
theorem O8 {kn:Kn}{d:List Rdp} (h:Rows kn d) {x:Str}{v:Int} (hx:kn x=some v) (m:(x,v)∈d):rR d x v=d:=by
 unfold rR
 rw[if_pos (List.any_eq_true.mpr ⟨(x,v),m,by simp⟩)]
 have:∀p∈d,(if p.1=x then(p.1,v) else p)=p:=fun p hp=>by
  by_cases z:p.1=x
  ·rw[if_pos z]
   have:=h.s p hp
   rw[z,hx] at this
   rw[Option.some.inj this]
  ·rw[if_neg z]
 rw[List.map_congr_left this]
 exact List.map_id _
theorem O9 {kn:Kn}{d:List Rdp} (h:Rows kn d) {x:Str}{v:Int} (hx:kn x=some v) (m:(x,v)∉d):rR d x v=d++[(x,v)]:=by
 unfold rR
 rw[if_neg]
 intro z
 obtain⟨p,hp,e⟩:=List.any_eq_true.mp z
 have e:=of_decide_eq_true e
 have:=h.s p hp
 rw[e,hx] at this
 exact m (by rw[<-e,Option.some.inj this];exact hp)
def tZ (kn:Kn) (r:R) (t:List Stp) (f:List Int) (d:List Rdp):Prop:=match ev kn r with
 | .inr v=>∃n us,StN kn n ⟨t++[.r r],f,d⟩ ⟨t,f++[v],d++us⟩/\lg r (kn0.puts d) us v/\Rows kn (d++us)
 | .inl x=>∃n t' f' us,StN kn n ⟨t++[.r r],f,d⟩ ⟨t'++[.r (.rd x)],f',d++us⟩/\kn x=none/\Chn r (kn0.puts d) us/\ev (kn0.puts (d++us)) r= .inl x/\Rows kn (d++us)
theorem Mj {kn:Kn}{d:List Rdp} (h:Rows kn d) {x:Str} (hx:kn x=none):kn0.puts d x=none:=by
 cases e:kn0.puts d x with
 | none=>rfl
 | some u=>
   rcases xu e with z | z
   ·have:=h.s _ z
    rw[hx] at this;cases this
   ·cases z
theorem Gi {kn:Kn}{x:Str}{t:List Stp}{f:List Int}{d:List Rdp} (hd:Rows kn d):tZ kn (.rd x) t f d:=by
 unfold tZ
 show match look kn x with
  | .inr v=>_
  | .inl y=>_
 unfold look
 cases e:kn x with
 | none=>
   refine⟨0,t,f,[], ?_,e,trivial, ?_,by rw[List.append_nil];exact hd⟩
   ·rw[List.append_nil];exact .zero
   ·rw[List.append_nil]
    show look _ x=_
    unfold look
    rw[Mj hd e]
 | some v=>
   have hl:=hd.look e
   by_cases m:(x,v)∈d
   ·rw[if_pos m] at hl
    refine⟨1,[], .succ (.rd e) ?_,hl,by rw[List.append_nil];exact hd⟩
    rw[O8 hd e m,List.append_nil];exact .zero
   ·rw[if_neg m] at hl
    refine⟨1,[(x,v)], .succ (.rd e) ?_,hl.1,hl.2⟩
    rw[O9 hd e m];exact .zero
def vO (kn:Kn) (r:R) (x:Str):Prop:=∃ps,Chn r kn0 ps/\ev (kn0.puts ps) r= .inl x/\Rows kn ps
def Goes (kn:Kn) (r:R) (c:Cf):Prop:=match ev kn r with
 | .inr v=>c.todo=[]/\c.found=[v]/\lg r kn0 c.rds v/\Rows kn c.rds
 | .inl x=>(∃t,c.todo=t++[.r (.rd x)])/\kn x=none/\vO kn r x
theorem Pa {kn:Kn}:Rows kn []:=⟨by simp,by simp⟩
theorem Ml:∀r:R,1<=r.depth
 | .num _=>Nat.le_refl _
 | .rd _=>Nat.le_refl _
 | .bin _ a b=>by show 1<=max a.depth b.depth+1;omega
 | .pick a b c=>by show 1<=max a.depth (max b.depth c.depth)+1;omega
 | .cho a _=>by show 1<=a.depth+1;omega
theorem Am:∀(r:R) (d:Nat),r.depth<=d->wR r+2<=3 ^ d
 | r,0,h=>absurd (Ml r) (by omega)
 | .num _,d+1,_=>by
   have:1<=3 ^ d:=Nat.one_le_pow _ _ (by decide)
   show 1+2<=3 ^(d+1)
   rw[Nat.pow_succ];omega
 | .rd _,d+1,_=>by
   have:1<=3 ^ d:=Nat.one_le_pow _ _ (by decide)
   show 1+2<=3 ^(d+1)
   rw[Nat.pow_succ];omega
 | .bin _ a b,d+1,h=>by
   have h:max a.depth b.depth+1<=d+1:=h
   have h1:=Am a d (by omega)
   have h2:=Am b d (by omega)
   show wR a+wR b+2+2<=3 ^(d+1)
   rw[Nat.pow_succ];omega
 | .pick a b c,d+1,h=>by
   have h:max a.depth (max b.depth c.depth)+1<=d+1:=h
   have h1:=Am a d (by omega)
   have h2:=Am b d (by omega)
   have h3:=Am c d (by omega)
   show wR a+wR b+wR c+2+2<=3 ^(d+1)
   rw[Nat.pow_succ];omega
 | .cho a _,d+1,h=>by
   have h:a.depth+1<=d+1:=h
   have h1:=Am a d (by omega)
   show wR a+3+2<=3 ^(d+1)
   rw[Nat.pow_succ];omega
end RB
set_option maxRecDepth 100000
namespace L2
open PySem PySem.Spec PyProof.Rows
theorem T8 {X:Cx}{e:Expr}{f:Str}{pos:Pos}{ta:TE}{K:PySem.W.Frag} (eK:X.K=K) (he:QE X e ta) (hb:attributeBase e f X.env (eval e X.env)=eval e X.env:=by rfl):QE X (.Attribute e f pos) (X3 K ta f):=eK▸bz he hb
end L2
namespace RB
open PySem L2 PySem.Spec PyProof.Rows
structure NrC (K:PySem.W.Frag) (C:Addr):Prop where
 cl:Cls K C
 nB:gQ K C "by_name"
def nrF (rcd:Addr):List (Str×V):=[("by_name", .ref rcd)]
def An (C:Addr):Sp:=fun vs H Q _=>∃(a dx rcd:Addr),vs=[.ref a, .ref rcd]/\H a=some (.ins C dx [])/\∀H',But [a] H H'->H' a=some (.ins C dx (nrF rcd))->Q .non H'
def Dm (rm:Rm) (y:Str) (r:R) (kn:Kn):Prop:=∀r' ps v,rm y=some (r',ps,v)->r'≠r\/∃p∈ps,∃u,kn p.1=some u/\u≠p.2
theorem Dm.le {rm:Rm}{y:Str}{r:R}{kn kn':Kn} (h:Dm rm y r kn) (l:Kn.Le kn kn'):Dm rm y r kn':=fun r' ps v e=>(h r' ps v e).imp id fun⟨p,hp,u,hu,hn⟩=>⟨p,hp,u,l _ _ hu,hn⟩
def Gj (H:Hp) (fl:Addr) (kr:List (Key×V)) (rm:Rm) (y:Str) (r:R) (kn:Kn) (k:Nat):Prop:=
 (∃rb ps v,H fl=some (.lst [.ref rb])/\dG kr (.inr y)=some (.ref rb)/\rm y=some (r,ps,v)/\k<=ps.length/\∀(j:Nat) p,j<k->ps[j]? =some p->kn p.1=some p.2)\/(H fl=some (.lst [])/\Dm rm y r kn)
theorem Gj.le {H:Hp}{fl:Addr}{kr:List (Key×V)}{rm:Rm}{y:Str}{r:R}{kn kn':Kn}{k:Nat} (h:Gj H fl kr rm y r kn k) (l:Kn.Le kn kn'):Gj H fl kr rm y r kn' k:=
 h.imp (fun⟨rb,ps,v,a,b,c,d,e⟩=>⟨rb,ps,v,a,b,c,d,fun j p hj hp=>l _ _ (e j p hj hp)⟩) fun⟨a,b⟩=>⟨a,b.le l⟩
theorem Gj.at {H H':Hp}{fl:Addr}{kr:List (Key×V)}{rm:Rm}{y:Str}{r:R}{kn:Kn}{k:Nat} (h:Gj H fl kr rm y r kn k) (f:∀o,H fl=some o->H' fl=some o):Gj H' fl kr rm y r kn k:=
 h.imp (fun⟨rb,ps,v,a,b⟩=>⟨rb,ps,v,f _ a,b⟩) fun⟨a,b⟩=>⟨f _ a,b⟩
def Wc:Sp:=fun vs H Q _=>(∃v w,vs=[v,w])/\Q .non H
structure SeD where
 s:Addr
 dx:Addr
 b:Addr
 fl:Addr
 rk:Addr
 dxr:Addr
 a1:Addr
 a2:Addr
 a3:Addr
 k:Nat
def SeD.ft (A:SeD):List Addr:=[A.s,A.fl,A.rk,A.a1,A.a2,A.a3]
def seF (b fl:Addr) (k:Nat) (rk:Addr):List (Str×V):=[("recipe", .ref b),("fitting", .ref fl),("place", .int k),("reckoning", .ref rk)]
structure SeC (K:PySem.W.Frag) (C:Addr):Prop where
 cl:Cls K C
 nR:gQ K C "recipe"
 nF:gQ K C "fitting"
 nP:gQ K C "place"
 nK:gQ K C "reckoning"
theorem vq (b fl:Addr) (k:Nat) (rk:Addr):List.lookup ("recipe":Str) (seF b fl k rk)=some (.ref b):=rfl
theorem qP (b fl:Addr) (k:Nat) (rk:Addr):List.lookup ("fitting":Str) (seF b fl k rk)=some (.ref fl):=rfl
theorem vz (b fl:Addr) (k:Nat) (rk:Addr):List.lookup ("place":Str) (seF b fl k rk)=some (.int k):=rfl
theorem mD (b fl:Addr) (k:Nat) (rk:Addr):List.lookup ("reckoning":Str) (seF b fl k rk)=some (.ref rk):=rfl
theorem fu (b fl:Addr) (k:Nat) (rk:Addr):List.lookup ("lacking":Str) (seF b fl k rk)=none/\List.lookup ("fit_on":Str) (seF b fl k rk)=none/\List.lookup ("was_reckoned":Str) (seF b fl k rk)=none/\List.lookup ("new_record":Str) (seF b fl k rk)=none:=⟨rfl,rfl,rfl,rfl⟩
structure qQ (CS CR:Addr) (kr:List (Key×V)) (rm:Rm) (y:Str) (r:R) (kn:Kn) (A:SeD) (H:Hp):Prop where
 e:H A.s=some (.ins CS A.dx (seF A.b A.fl A.k A.rk))
 hr:IsR H A.b r
 c:∃c,RcAt H A.rk CR A.dxr A.a1 A.a2 A.a3 c/\Reach kn r c
 f:Gj H A.fl kr rm y r kn A.k
 n1:A.s≠A.rk
 n2:A.fl≠A.a1
 n3:A.fl≠A.a2
theorem RcAt.move {S:List Addr}{H H':Hp}{a C dx a1 a2 a3:Addr}{c:Cf} (h:RcAt H a C dx a1 a2 a3 c) (b:But S H H') (t:jU H H') (hs:∀z∈[a,a1,a2,a3],z∉S):RcAt H' a C dx a1 a2 a3 c:=by
 obtain⟨e,⟨ws,e1,hw⟩,e2,e3,ne,w⟩:=h
 exact⟨b _ _ (hs _ (by simp)) e,⟨ws,b _ _ (hs _ (by simp)) e1,hw.tups t⟩,b _ _ (hs _ (by simp)) e2,b _ _ (hs _ (by simp)) e3,ne,w⟩
section
variable {CS CR:Addr}{kr:List (Key×V)}{rm:Rm}{y:Str}{r:R}{kn kn':Kn}{A:SeD}{H H':Hp}
theorem qQ.move {S:List Addr} (h:qQ CS CR kr rm y r kn A H) (b:But S H H') (t:jU H H') (hs:∀z∈A.ft,z∉S):qQ CS CR kr rm y r kn A H':=by
 obtain⟨c,h1,h2⟩:=h.c
 exact⟨b _ _ (hs _ (by simp[SeD.ft])) h.e,h.hr.tups t,⟨c,h1.move b t fun z hz=>hs z (by
  have:z=A.rk\/z=A.a1\/z=A.a2\/z=A.a3:=by simpa using hz
  unfold SeD.ft
  rcases this with rfl | rfl | rfl | rfl<;>simp),h2⟩,h.f.at fun o e=>b _ _ (hs _ (by simp[SeD.ft])) e,h.n1,h.n2,h.n3⟩
theorem qQ.le (h:qQ CS CR kr rm y r kn A H) (l:Kn.Le kn kn'):qQ CS CR kr rm y r kn' A H:=by
 obtain⟨c,h1,h2⟩:=h.c
 exact⟨h.e,h.hr,⟨c,h1,h2.le l⟩,h.f.le l,h.n1,h.n2,h.n3⟩
def Pb (H:Hp) (CR:Addr) (kr:List (Key×V)) (rm:Rm) (y:Str) (r:R) (kn:Kn) (A:SeD):Prop:=
 (∃rb ps v,H A.fl=some (.lst [.ref rb])/\dG kr (.inr y)=some (.ref rb)/\rm y=some (r,ps,v)/\∀p∈ps,kn p.1=some p.2)\/
 (H A.fl=some (.lst [])/\Dm rm y r kn/\∃c v,RcAt H A.rk CR A.dxr A.a1 A.a2 A.a3 c/\c.found=[v]/\lg r kn0 c.rds v/\Rows kn c.rds)
end
def Gk (CS CR:Addr):Sp:=fun vs H Q _=>∃(a dx b fl:Addr) (r:R),vs=[.ref a, .ref b, .ref fl]/\H a=some (.ins CS dx [])/\IsR H b r/\wR r<=4000/\
 ∀(A:SeD) H',But [a] H H'->A.s=a->A.b=b->A.fl=fl->A.k=0->H' a=some (.ins CS A.dx (seF b fl 0 A.rk))->RcAt H' A.rk CR A.dxr A.a1 A.a2 A.a3 ⟨[.r r],[],[]⟩->(∀z∈[A.rk,A.a1,A.a2,A.a3],H z=none)->Q .non H'
def Wd (CS:Addr):Sp:=fun vs H Q _=>∃(s dx b fl rk rb br l:Addr) (k:Nat) (as:List Addr) (ps:List Rdp) (v w u:Int) (x:Str),vs=[.ref s, .int w]/\H s=some (.ins CS dx (seF b fl k rk))/\H fl=some (.lst [.ref rb])/\H rb=some (.tup [.ref br, .ref l, .int v])/\H l=some (.lst (as.map V.ref))/\jn H as ps/\ps[k]? =some (x,u)/\
 ∀fl' H',But [s] H H'->H fl'=none->H' s=some (.ins CS dx (seF b fl' (k+1) rk))->H' fl'=some (.lst (if u=w then [.ref rb] else []))->Q .non H'
theorem Gm {r:R}:∀{ps:List Rdp}{kn:Kn}{k:Nat}{x:Str}{u:Int},Chn r kn ps->ps[k]? =some (x,u)->Chn r kn (ps.take k)/\ev (kn.puts (ps.take k)) r= .inl x
 |[],_,_,_,_,_,h=>by simp at h
 | p::ps,kn,0,x,u,c,h=>by cases h;exact⟨trivial,c.1⟩
 | p::ps,kn,k+1,x,u,c,h=>by
   obtain⟨h1,h2⟩:=Gm (ps:=ps) (k:=k) c.2 (by simpa using h)
   exact⟨⟨c.1,h1⟩,h2⟩
theorem IV {r:R}{ps:List Rdp}{kn:Kn}{k:Nat}{x:Str}{u:Int} (c:Chn r kn0 ps) (h:ps[k]? =some (x,u)) (he:∀(j:Nat) p,j<k->ps[j]? =some p->kn p.1=some p.2):vO kn r x:=by
 obtain⟨h1,h2⟩:=Gm c h
 refine⟨ps.take k,h1,h2,fun p hp=> ?_, ?_⟩
 ·obtain⟨j,hj⟩:=List.getElem?_of_mem hp
  rw[List.getElem?_take] at hj
  split at hj
  ·exact he j p (by assumption) hj
  ·cases hj
 ·rw[List.map_take]
  exact((vo c).2).sublist (List.take_sublist _ _)
theorem Gn {H:Hp}:∀{as:List Addr}{ps:List Rdp},as.length=ps.length->(∀(j:Nat) (b:Addr) (p:Rdp),as[j]? =some b->ps[j]? =some p->H b=some (.tup (rdV p)))->jn H as ps
 |[],[],_,_=> .nil
 | a::as,p::ps,hl,h=> .cons (h 0 a p rfl rfl) (Gn (by simpa using hl) fun j b q h1 h2=>h (j+1) b q (by simpa using h1) (by simpa using h2))
 |[],_::_,hl,_=>by simp at hl
 | _::_,[],hl,_=>by simp at hl
def Rcd (rm:Rm) (y:Str) (r:R) (kn:Kn) (ps:List Rdp) (v:Int) (made:Bool):Prop:=
 lg r kn0 ps v/\Rows kn ps/\if made=true then Dm rm y r kn else rm y=some (r,ps,v)
end RB
set_option maxRecDepth 100000
namespace RB
open PySem L2 PySem.Spec PyProof.Rows
theorem Kr {kn kn':Kn}{x y:Str} (e:look kn x= .inl y) (h:kn' y=none):look kn' x= .inl y:=by
 obtain⟨rfl,_⟩:=pZ e
 unfold look
 rw[h]
theorem Ao {kn kn':Kn} (hk:Kn.Le kn kn'):∀{r:R}{x:Str},ev kn r= .inl x->kn' x=none->ev kn' r= .inl x
 | .num n,x,h,_=>by cases h
 | .rd y,x,h,hx=>Kr h hx
 | .bin op a b,x,h,hx=>by
   simp only[ev] at h ⊢
   cases ea:ev kn a with
   | inl y=>rw[ea] at h;cases h;rw[Ao hk ea hx]
   | inr u=>
     rw[ea] at h
     rw[kZ hk ea]
     simp only at h ⊢
     cases eb:ev kn b with
     | inl y=>rw[eb] at h;cases h;rw[Ao hk eb hx]
     | inr v=>rw[eb] at h;cases h
 | .pick a b c,x,h,hx=>by
   simp only[ev] at h ⊢
   cases ea:ev kn a with
   | inl y=>rw[ea] at h;cases h;rw[Ao hk ea hx]
   | inr u=>
     rw[ea] at h
     rw[kZ hk ea]
     simp only at h ⊢
     by_cases hu:u>0
     ·rw[if_pos hu] at h ⊢;exact Ao hk h hx
     ·rw[if_neg hu] at h ⊢;exact Ao hk h hx
 | .cho a ns,x,h,hx=>by
   simp only[ev] at h ⊢
   cases ea:ev kn a with
   | inl y=>rw[ea] at h;cases h;rw[Ao hk ea hx]
   | inr u=>
     rw[ea] at h
     rw[kZ hk ea]
     simp only at h ⊢
     cases ep:pY ns u with
     | none=>rw[ep] at h;cases h
     | some y=>rw[ep] at h;exact Kr h hx
theorem Ei:∀{ps:List Rdp}{k kn:Kn},Kn.Le k kn->(∀p∈ps,kn p.1=some p.2)->Kn.Le (k.puts ps) kn
 |[],k,kn,h,_=>h
 | p::ps,k,kn,h,hp=>by
   refine Ei (ps:=ps) (k:=k.put p.1 p.2) (fun x v e=> ?_) fun q hq=>hp q (by simp[hq])
   unfold Kn.put at e
   by_cases z:x=p.1
   ·rw[if_pos z] at e;cases e;rw[z];exact hp p (by simp)
   ·rw[if_neg z] at e;exact h x v e
theorem Pg {kn:Kn}:Kn.Le kn0 kn:=fun x v e=>by cases e
theorem vO.ev {kn:Kn}{r:R}{x:Str} (h:vO kn r x) (hx:kn x=none):ev kn r= .inl x:=let ⟨ps,_,b,c⟩:=h;Ao (Ei Pg c.s) b hx
theorem Zc {kn:Kn}{r:R}{ps:List Rdp}{v:Int} (g:lg r kn0 ps v) (c:Rows kn ps):RB.ev kn r= .inr v:=kZ (Ei Pg c.s) g.2
abbrev Ms:Type:=List Str×Kn×List Str
def mv (gv:Kn) (rc:Rn):Ms->Option Ms
 | ([],_,_)=>none
 | (x::p,kn,od)=>match kn x with
   | some _=>some (p,kn,od)
   | none=>match gv x with
     | some v=>some (x::p,kn.put x v,od)
     | none=>match rc x with
       | none=>none
       | some r=>match ev kn r with
         | .inl y=>some (y::x::p,kn,od)
         | .inr v=>some (x::p,kn.put x v,od++[x])
def itM (gv:Kn) (rc:Rn):Nat->Ms->Option Ms
 | 0,s=>some s
 | k+1,s=>match mv gv rc s with
   | none=>none
   | some t=>itM gv rc k t
def Mvs (gv:Kn) (rc:Rn) (s t:Ms):Prop:=∃k,itM gv rc k s=some t
section
variable {gv:Kn}{rc:Rn}
theorem Zd {kn:Kn}{od:List Str}:mv gv rc ([],kn,od)=none:=rfl
theorem IW {x:Str}{p od:List Str}{kn:Kn}{v:Int} (h2:kn x=none) (h:gv x=some v):mv gv rc (x::p,kn,od)=some (x::p,kn.put x v,od):=by unfold mv;simp only[h,h2]
theorem yo {x:Str}{p od:List Str}{kn:Kn} (h2:kn x≠none):mv gv rc (x::p,kn,od)=some (p,kn,od):=by
 unfold mv
 cases e:kn x with
 | none=>exact absurd e h2
 | some v=>simp only[e]
theorem oM {x y:Str}{p od:List Str}{kn:Kn}{r:R} (h:gv x=none) (h2:kn x=none) (h3:rc x=some r) (h4:ev kn r= .inl y):mv gv rc (x::p,kn,od)=some (y::x::p,kn,od):=by unfold mv;simp only[h,h2,h3,h4]
theorem Aq {x:Str}{p od:List Str}{kn:Kn}{r:R}{v:Int} (h:gv x=none) (h2:kn x=none) (h3:rc x=some r) (h4:ev kn r= .inr v):mv gv rc (x::p,kn,od)=some (x::p,kn.put x v,od++[x]):=by unfold mv;simp only[h,h2,h3,h4]
theorem Mvs.refl (s:Ms):Mvs gv rc s s:=⟨0,rfl⟩
theorem Gp:∀{k:Nat}{s t u:Ms},itM gv rc k s=some t->mv gv rc t=some u->itM gv rc (k+1) s=some u
 | 0,s,t,u,h,h2=>by cases h;show(match mv gv rc s with | none=>none | some t=>itM gv rc 0 t)=some u;rw[h2];rfl
 | k+1,s,t,u,h,h2=>by
   unfold itM at h ⊢
   cases e:mv gv rc s with
   | none=>rw[e] at h;cases h
   | some w=>rw[e] at h;exact Gp (k:=k) h h2
theorem Mvs.snoc {s t u:Ms} (h:Mvs gv rc s t) (h2:mv gv rc t=some u):Mvs gv rc s u:=let ⟨k,e⟩:=h;⟨k+1,Gp e h2⟩
theorem Ks:∀{k:Nat}{l:Nat}{s t u:Ms},itM gv rc k s=some t->itM gv rc l t=some u->itM gv rc (k+l) s=some u
 | 0,l,s,t,u,h,h2=>by cases h;rw[Nat.zero_add];exact h2
 | k+1,l,s,t,u,h,h2=>by
   rw[Nat.add_right_comm]
   unfold itM at h ⊢
   cases e:mv gv rc s with
   | none=>rw[e] at h;cases h
   | some w=>rw[e] at h;exact Ks (k:=k) h h2
theorem Mvs.trans {s t u:Ms} (h:Mvs gv rc s t) (h2:Mvs gv rc t u):Mvs gv rc s u:=let ⟨k,e⟩:=h;let ⟨l,e2⟩:=h2;⟨k+l,Ks e e2⟩
end
end RB
set_option maxRecDepth 100000
namespace RB
open PySem L2 PySem.Spec PyProof.Rows
def R.Fn (kn:Kn):R->Prop
 | .num _=>True
 | .rd _=>True
 | .bin op a b=>a.Fn kn/\b.Fn kn/\(op= .times->∀u v,ev kn a= .inr u->ev kn b= .inr v->wZ u v)
 | .pick a b c=>a.Fn kn/\b.Fn kn/\c.Fn kn
 | .cho a ns=>a.Fn kn/\1<=ns.length
theorem Ar {kn:Kn}:∀(r:R),r.Fn kn->∀t f d,Rows kn d->tZ kn r t f d
 | .num n,_,t,f,d,hd=>⟨1,[], .succ .num (by rw[List.append_nil];exact .zero),Tu,by rw[List.append_nil];exact hd⟩
 | .rd x,_,t,f,d,hd=>Gi hd
 | .bin op a b,h,t,f,d,hd=>by
   have ua:∀kn' x,ev kn' a= .inl x->ev kn' (.bin op a b)= .inl x:=fun kn' x e=>by simp only[ev];rw[e]
   have ha:=Ar (kn:=kn) a h.1 (t++[.join op, .r b]) f d hd
   unfold tZ at ha ⊢
   rw[List.append_assoc] at ha
   simp only[ev]
   cases ea:ev kn a with
   | inl x=>
     rw[ea] at ha
     obtain⟨n,t',f',us,s,hx,c,e,hr⟩:=ha
     exact⟨n+1,t',f',us, .succ .bin s,hx,c.up fun kn' x _ e=>ua kn' x e,ua _ _ e,hr⟩
   | inr u=>
     rw[ea] at ha
     obtain⟨n,us,s,g,hr⟩:=ha
     have hb:=Ar (kn:=kn) b h.2.1 (t++[.join op]) (f++[u]) (d++us) hr
     unfold tZ at hb
     rw[List.append_assoc] at hb
     have ub:∀kn' x,Kn.Le ((kn0.puts d).puts us) kn'->ev kn' b= .inl x->ev kn' (.bin op a b)= .inl x:=fun kn' x l e=>by simp only[ev];rw[kZ l g.e];simp only;rw[e]
     cases eb:ev kn b with
     | inl x=>
       rw[eb] at hb
       obtain⟨m,t',f',vs,s2,hx,c,e,hr2⟩:=hb
       rw[Kn.fU] at c
       rw[List.append_assoc] at s2 e hr2
       refine⟨n+m+1,t',f',us++vs, .succ .bin (s.add s2),hx,(g.c.up fun kn' x _ e=>ua kn' x e).app (c.up ub), ?_,hr2⟩
       refine ub _ _ ?_ e
       rw[Kn.fU,Kn.fU]
       exact c.le
     | inr v=>
       rw[eb] at hb
       obtain⟨m,vs,s2,g2,hr2⟩:=hb
       rw[Kn.fU] at g2
       rw[List.append_assoc] at s2 hr2
       refine⟨n+(m+1)+1,us++vs, .succ .bin (s.add (s2.add (.succ ?_ .zero))),Tz g g2,hr2⟩
       rw[List.append_assoc]
       exact .join fun z=>h.2.2 z u v ea eb
 | .pick a b c,h,t,f,d,hd=>by
   have ua:∀kn' x,ev kn' a= .inl x->ev kn' (.pick a b c)= .inl x:=fun kn' x e=>by simp only[ev];rw[e]
   have ha:=Ar (kn:=kn) a h.1 (t++[.branch b c]) f d hd
   unfold tZ at ha ⊢
   rw[List.append_assoc] at ha
   simp only[ev]
   cases ea:ev kn a with
   | inl x=>
     rw[ea] at ha
     obtain⟨n,t',f',us,s,hx,c,e,hr⟩:=ha
     exact⟨n+1,t',f',us, .succ .pick s,hx,c.up fun kn' x _ e=>ua kn' x e,ua _ _ e,hr⟩
   | inr u=>
     rw[ea] at ha
     obtain⟨n,us,s,g,hr⟩:=ha
     have hb:tZ kn (if u>0 then b else c) t f (d++us):=by
      split
      ·exact Ar b h.2.1 t f _ hr
      ·exact Ar c h.2.2 t f _ hr
     unfold tZ at hb
     simp only
     have e:(if u>0 then ev kn b else ev kn c)=ev kn (if u>0 then b else c):=by split<;>rfl
     rw[e]
     have up:∀kn':Kn,Kn.Le ((kn0.puts d).puts us) kn'->ev kn' (.pick a b c)=ev kn' (if u>0 then b else c):=fun kn' l=>by
      simp only[ev];rw[kZ l g.e];simp only;split<;>rfl
     cases eb:ev kn (if u>0 then b else c) with
     | inl x=>
       rw[eb] at hb
       obtain⟨m,t',f',vs,s2,hx,c2,e2,hr2⟩:=hb
       rw[Kn.fU] at c2
       rw[List.append_assoc] at s2 e2 hr2
       refine⟨n+(m+1)+1,t',f',us++vs, .succ .pick (s.add (.succ .branch s2)),hx,(g.c.up fun kn' x _ e=>ua kn' x e).app (c2.up fun kn' x l z=>by rw[up kn' l];exact z), ?_,hr2⟩
       rw[<-e2]
       have hl:=c2.le
       have:=up (kn0.puts (d++(us++vs))) (by rw[Kn.fU,Kn.fU];exact hl)
       simp only[ev] at this
       exact this
     | inr v=>
       rw[eb] at hb
       obtain⟨m,vs,s2,g2,hr2⟩:=hb
       rw[Kn.fU] at g2
       rw[List.append_assoc] at s2 hr2
       exact⟨n+(m+1)+1,us++vs, .succ .pick (s.add (.succ .branch s2)),O2 g g2,hr2⟩
 | .cho a ns,h,t,f,d,hd=>by
   have ua:∀kn' x,ev kn' a= .inl x->ev kn' (.cho a ns)= .inl x:=fun kn' x e=>by simp only[ev];rw[e]
   have ha:=Ar (kn:=kn) a h.1 (t++[.among ns]) f d hd
   unfold tZ at ha ⊢
   rw[List.append_assoc] at ha
   simp only[ev]
   cases ea:ev kn a with
   | inl x=>
     rw[ea] at ha
     obtain⟨n,t',f',us,s,hx,c,e,hr⟩:=ha
     exact⟨n+1,t',f',us, .succ .cho s,hx,c.up fun kn' x _ e=>ua kn' x e,ua _ _ e,hr⟩
   | inr u=>
     rw[ea] at ha
     obtain⟨n,us,s,g,hr⟩:=ha
     obtain⟨y,ey⟩:=Mf h.2 u
     simp only
     rw[ey]
     have hb:=Gi (kn:=kn) (x:=y) (t:=t) (f:=f) hr
     unfold tZ at hb
     simp only[ev] at hb
     simp only
     have up:∀kn':Kn,Kn.Le ((kn0.puts d).puts us) kn'->ev kn' (.cho a ns)=ev kn' (.rd y):=fun kn' l=>by
      simp only[ev];rw[kZ l g.e];simp only;rw[ey]
     cases eb:look kn y with
     | inl x=>
       rw[eb] at hb
       obtain⟨m,t',f',vs,s2,hx,c2,e2,hr2⟩:=hb
       rw[Kn.fU] at c2
       rw[List.append_assoc] at s2 e2 hr2
       refine⟨n+(m+1)+1,t',f',us++vs, .succ .cho (s.add (.succ (.among ey) s2)),hx,(g.c.up fun kn' x _ e=>ua kn' x e).app (c2.up fun kn' x l z=>by rw[up kn' l];exact z), ?_,hr2⟩
       have hl:=c2.le
       have:=up (kn0.puts (d++(us++vs))) (by rw[Kn.fU,Kn.fU];exact hl)
       exact this.trans e2
     | inr v=>
       rw[eb] at hb
       obtain⟨m,vs,s2,g2,hr2⟩:=hb
       rw[Kn.fU] at g2
       rw[List.append_assoc] at s2 hr2
       exact⟨n+(m+1)+1,us++vs, .succ .cho (s.add (.succ (.among ey) s2)),TF g ey g2,hr2⟩
theorem Reach.acj {kn:Kn}{r:R} (hr:r.Fn kn) {c:Cf} (g:Reach kn r c):∃n c',StN kn n c c'/\Halt kn c'/\Reach kn r c'/\Goes kn r c':=by
 have h:=Ar (kn:=kn) r hr [] [] [] Pa
 unfold tZ at h
 unfold Goes
 obtain⟨m,g⟩:=g
 cases e:ev kn r with
 | inr v=>
   rw[e] at h
   obtain⟨n,us,s,gg,hr⟩:=h
   obtain⟨k,t⟩:=g.rest s (.inl rfl)
   exact⟨k,_,t, .inl rfl,⟨n,s⟩,rfl,rfl,gg,hr⟩
 | inl x=>
   rw[e] at h
   obtain⟨n,t',f',us,s,hx,c1,e1,hr⟩:=h
   have hh:Halt kn ⟨t'++[.r (.rd x)],f',[]++us⟩:= .inr ⟨t',x,rfl,hx⟩
   obtain⟨k,t⟩:=g.rest s hh
   exact⟨k,_,t,hh,⟨n,s⟩,⟨t',rfl⟩,hx,us,c1,e1,hr⟩
def R.nms:R->List Str
 | .num _=>[]
 | .rd x=>[x]
 | .bin _ a b=>a.nms++b.nms
 | .pick a b c=>a.nms++(b.nms++c.nms)
 | .cho a ns=>a.nms++ns
theorem R.uc:∀r:R,r.In r.nms
 | .num _=>trivial
 | .rd x=>List.mem_singleton.mpr rfl
 | .bin _ a b=>⟨a.uc.mono fun x hx=>List.mem_append_left _ hx,b.uc.mono fun x hx=>List.mem_append_right _ hx⟩
 | .pick a b c=>⟨a.uc.mono fun x hx=>List.mem_append_left _ hx,b.uc.mono fun x hx=>List.mem_append_right _ (List.mem_append_left _ hx),c.uc.mono fun x hx=>List.mem_append_right _ (List.mem_append_right _ hx)⟩
 | .cho a ns=>⟨a.uc.mono fun x hx=>List.mem_append_left _ hx,fun x hx=>List.mem_append_right _ hx⟩
theorem Gq {r:R}{ps:List Rdp}{kn:Kn}{ns:List Str} (c:Chn r kn ps) (hi:r.In ns):ps.length<=ns.length:=by
 have h:=mR (ws:=ps.map (·.1)) (ns:=ns) (vo c).2 fun x hx=>by
  obtain⟨p,hp,rfl⟩:=List.mem_map.mp hx
  exact O3 hi c p hp
 rwa [List.length_map] at h
end RB
set_option maxRecDepth 100000
namespace RB
open PySem L2 PySem.Spec PyProof.Rows
structure SrD where
 so:Addr
 dx:Addr
 g:Addr
 c:Addr
 o:Addr
 dxo:Addr
 rcd:Addr
 kd:Addr
 sd:Addr
 rd:Addr
def srF (g c o kd sd rd:Addr):List (Str×V):=[("given", .ref g),("recipes", .ref c),("old", .ref o),("known", .ref kd),("settled", .ref sd),("reckoned", .ref rd)]
structure SrC (K:PySem.W.Frag) (C:Addr):Prop where
 cl:Cls K C
 nG:gQ K C "given"
 nR:gQ K C "recipes"
 nO:gQ K C "old"
 nK:gQ K C "known"
 nS:gQ K C "settled"
 nM:gQ K C "reckoned"
theorem xx (g c o kd sd rd:Addr):List.lookup ("given":Str) (srF g c o kd sd rd)=some (.ref g):=rfl
theorem qR (g c o kd sd rd:Addr):List.lookup ("recipes":Str) (srF g c o kd sd rd)=some (.ref c):=rfl
theorem Ej (g c o kd sd rd:Addr):List.lookup ("old":Str) (srF g c o kd sd rd)=some (.ref o):=rfl
theorem xF (g c o kd sd rd:Addr):List.lookup ("known":Str) (srF g c o kd sd rd)=some (.ref kd):=rfl
theorem qT (g c o kd sd rd:Addr):List.lookup ("settled":Str) (srF g c o kd sd rd)=some (.ref sd):=rfl
theorem oN (g c o kd sd rd:Addr):List.lookup ("reckoned":Str) (srF g c o kd sd rd)=some (.ref rd):=rfl
theorem gU (g c o kd sd rd:Addr):List.lookup ("begin":Str) (srF g c o kd sd rd)=none/\List.lookup ("end":Str) (srF g c o kd sd rd)=none/\List.lookup ("made":Str) (srF g c o kd sd rd)=none/\List.lookup ("kept":Str) (srF g c o kd sd rd)=none/\List.lookup ("settle":Str) (srF g c o kd sd rd)=none:=⟨rfl,rfl,rfl,rfl,rfl⟩
theorem yp (rcd:Addr):List.lookup ("records_for":Str) (nrF rcd)=none/\List.lookup ("put_made":Str) (nrF rcd)=none:=⟨rfl,rfl⟩
def Mu (H:Hp) (z:Addr):Prop:=∃o,H z=some o/\∀xs,o≠ .tup xs
def ack:Option HO->Option HO->Option HO
 | some (.tup xs),_=>some (.tup xs)
 | _,d=>d
def grow (Hf H H1:Hp):Hp:=fun a=>if H a=none then H1 a else ack (H1 a) (Hf a)
theorem T9 {Hf H H1:Hp} (s0:aO Hf H) (s1:aO H H1):aO Hf (grow Hf H H1):=fun a o e=>by
 have h0:=s0 _ _ e
 have h1:=s1 _ _ h0
 unfold grow
 rw[if_neg (by rw[h0];simp),h1]
 cases o<;>first | exact e | rfl
theorem Ua {Hf H H1:Hp} (s0:aO Hf H) (s1:aO H H1):aO (grow Hf H H1) H1:=fun a o e=>by
 unfold grow at e
 split at e
 ·exact e
 ·cases h1:H1 a with
  | none=>
    rw[h1] at e
    have e:Hf a=some o:=e
    have:=s1 _ _ (s0 _ _ e)
    rw[h1] at this;cases this
  | some u=>
    rw[h1] at e
    cases u with
    | tup xs=>exact e
    | _=>
      have e:Hf a=some o:=e
      have:=s1 _ _ (s0 _ _ e)
      rw[h1] at this;exact this
theorem Mm {Hf H H1:Hp}:jU H1 (grow Hf H H1):=fun a xs e=>by
 unfold grow
 split
 ·exact e
 ·rw[e];rfl
theorem Ph {Hf H H1:Hp}{a:Addr} (h:H a=none):grow Hf H H1 a=H1 a:=by unfold grow;rw[if_pos h]
theorem zG {Hf H H1:Hp} (s1:aO H H1) {z:Addr} (m:Mu H z) (hz:Hf z=none):grow Hf H H1 z=none:=by
 obtain⟨o,e,n⟩:=m
 have h1:=s1 _ _ e
 unfold grow
 rw[if_neg (by rw[e];simp),h1]
 cases o with
 | tup xs=>exact absurd rfl (n xs)
 | _=>exact hz
theorem Rcd.le {rm:Rm}{y:Str}{r:R}{kn kn':Kn}{ps:List Rdp}{v:Int}{m:Bool} (h:Rcd rm y r kn ps v m) (l:Kn.Le kn kn'):Rcd rm y r kn' ps v m:=by
 obtain⟨h1,h2,h3⟩:=h
 refine⟨h1,h2.le l, ?_⟩
 cases m with
 | true=>rw[if_pos rfl] at h3 ⊢;exact h3.le l
 | false=>exact h3
inductive Rch (gv:Kn) (rc:Rn) (kn:Kn) (x:Str):Str->Prop where
 | refl:Rch gv rc kn x x
 | step {y z:Str}{r:R} (h:Rch gv rc kn x y) (hg:gv y=none) (hr:rc y=some r) (hs:vO kn r z):Rch gv rc kn x z
theorem vO.le {kn kn':Kn}{r:R}{x:Str} (h:vO kn r x) (l:Kn.Le kn kn'):vO kn' r x:=let ⟨ps,a,b,c⟩:=h;⟨ps,a,b,c.le l⟩
theorem Rch.le {gv:Kn}{rc:Rn}{kn kn':Kn}{x y:Str} (h:Rch gv rc kn x y) (l:Kn.Le kn kn'):Rch gv rc kn' x y:=by
 induction h with
 | refl=>exact .refl
 | step _ hg hr hs ih=>exact .step ih hg hr (hs.le l)
def Gr (CSe:Addr):Sp:=fun vs H Q _=>∃(a dx h g c o:Addr),vs=[.ref a, .ref h, .ref o]/\H a=some (.ins CSe dx [])/\H h=some (.tup [.ref g, .ref c])/\
 ∀kd sd rd H',But [a] H H'->H' a=some (.ins CSe dx (srF g c o kd sd rd))->H kd=none->H sd=none->H rd=none->kd≠sd->kd≠rd->sd≠rd->H' kd=some (.dK [])->H' sd=some (.dK [])->H' rd=some (.dK [])->Q .non H'
end RB
set_option maxRecDepth 100000
namespace RB
open PySem L2 PySem.Spec PyProof.Rows
structure RcG (r:R):Prop where
 g:r.BV
 d:r.depth<=8
 w:wR r<=4000
 l:r.nms.length<=900
structure yq (H:Hp) (kg kc:List (Key×V)) (gs cs:List Str) (gv:Kn) (rc:Rn):Prop where
 k1:mC kg gs
 k2:mC kc cs
 n:gs.length+cs.length<=60
 g:∀x,dG kg (.inr x)=(gv x).map V.int
 r:∀x r,rc x=some r->∃b,dG kc (.inr x)=some (.ref b)/\IsR H b r
 rn:∀x,rc x=none->dG kc (.inr x)=none
 ok:∀x r,rc x=some r->RcG r
theorem yq.tups {H H':Hp}{kg kc:List (Key×V)}{gs cs:List Str}{gv:Kn}{rc:Rn} (h:yq H kg kc gs cs gv rc) (t:jU H H'):yq H' kg kc gs cs gv rc:=
 ⟨h.k1,h.k2,h.n,h.g,fun x r e=>let ⟨b,h1,h2⟩:=h.r x r e;⟨b,h1,h2.tups t⟩,h.rn,h.ok⟩
theorem yq.gm {H:Hp}{kg kc:List (Key×V)}{gs cs:List Str}{gv:Kn}{rc:Rn} (h:yq H kg kc gs cs gv rc) {x:Str} (hx:gv x≠none):x∈gs:=Decidable.byContradiction fun w=>by
 have:=h.k1.none.mpr w
 rw[h.g] at this
 cases e:gv x with
 | none=>exact hx e
 | some v=>rw[e] at this;cases this
theorem yq.cm {H:Hp}{kg kc:List (Key×V)}{gs cs:List Str}{gv:Kn}{rc:Rn} (h:yq H kg kc gs cs gv rc) {x:Str} (hx:rc x≠none):x∈cs:=Decidable.byContradiction fun w=>by
 have:=h.k2.none.mpr w
 cases e:rc x with
 | none=>exact hx e
 | some r=>
   obtain⟨b,hb,_⟩:=h.r x r e
   rw[hb] at this;cases this
def Ek (H:Hp) (h g c:Addr) (gs cs:List Str) (gv:Kn) (rc:Rn):Prop:=∃kg kc,H h=some (.tup [.ref g, .ref c])/\H g=some (.dK kg)/\H c=some (.dK kc)/\yq H kg kc gs cs gv rc
structure rT (H:Hp) (kr:List (Key×V)) (rm:Rm):Prop where
 k:∃rs,mC kr rs
 v:∀x q,rm x=some q->∃b,dG kr (.inr x)=some (.ref b)/\zf [] H b q
 w:∀x,rm x=none->dG kr (.inr x)=none
theorem rT.map {H H':Hp}{kr:List (Key×V)}{rm:Rm} (h:rT H kr rm) (f:∀b q,zf [] H b q->zf [] H' b q):rT H' kr rm:=⟨h.k,fun x q e=>let ⟨b,h1,h2⟩:=h.v x q e;⟨b,h1,f b q h2⟩,h.w⟩
theorem rT.same {H H':Hp}{kr:List (Key×V)}{rm:Rm} (h:rT H kr rm) (s:aO H H'):rT H' kr rm:=h.map fun _ _ z=>z.same s
theorem rT.put {H:Hp}{kr:List (Key×V)}{rm:Rm} (h:rT H kr rm) {x:Str}{q:R×List Rdp×Int}{b:Addr} (ra:zf [] H b q):rT H (putK kr (.inr x) (.ref b)) (rm.put x q):=by
 obtain⟨rs,k⟩:=h.k
 refine⟨?_,fun y u e=> ?_,fun y e=> ?_⟩
 ·by_cases z:x∈rs
  ·exact⟨_,k.O1 z _⟩
  ·exact⟨_,k.v8 z _⟩
 ·rw[jK]
  unfold Rm.put at e
  by_cases z:y=x
  ·rw[if_pos z] at e;cases e
   exact⟨b,by rw[if_pos (by rw[z])],ra⟩
  ·rw[if_neg z] at e
   obtain⟨b',hb,ra'⟩:=h.v y u e
   exact⟨b',by rw[if_neg (mW z)];exact hb,ra'⟩
 ·rw[jK]
  unfold Rm.put at e
  by_cases z:y=x
  ·rw[if_pos z] at e;cases e
  ·rw[if_neg z] at e
   rw[if_neg (mW z)];exact h.w y e
structure RecM (H0 H:Hp) (kr:List (Key×V)) (rm:Rm):Prop where
 s:rT H kr rm
 f:∀x q b,rm x=some q->dG kr (.inr x)=some (.ref b)->∃br l v,H b=some (.tup [br, .ref l,v])/\H0 l=none
 d:∀x y q q' b b' br br' l l' v v',x≠y->rm x=some q->rm y=some q'->dG kr (.inr x)=some (.ref b)->dG kr (.inr y)=some (.ref b')->H b=some (.tup [br, .ref l,v])->H b'=some (.tup [br', .ref l',v'])->l≠l'
theorem RecM.nil {H0 H:Hp}:RecM H0 H [] (fun _=>none):=⟨⟨⟨[],⟨rfl,by simp⟩⟩,fun x q e=>(nomatch e),fun x _=>pO⟩,fun x q b e=>(nomatch e),fun x y q q' b b' br br' l l' v v' _ e=>(nomatch e)⟩
theorem RecM.same {H0 H H':Hp}{kr:List (Key×V)}{rm:Rm} (h:RecM H0 H kr rm) (s:aO H H'):RecM H0 H' kr rm:=by
 have key:∀{x q b br l v},rm x=some q->dG kr (.inr x)=some (.ref b)->H' b=some (.tup [br, .ref l,v])->H b=some (.tup [br, .ref l,v]):=fun{x q b br l v} e1 e2 e3=>by
  obtain⟨br',l',v',a,_⟩:=h.f x q b e1 e2
  have:=s _ _ a
  rw[e3] at this
  cases this;exact a
 exact⟨h.s.same s,fun x q b e1 e2=>let ⟨br,l,v,a,c⟩:=h.f x q b e1 e2;⟨br,l,v,s _ _ a,c⟩,fun x y q q' b b' br br' l l' v v' n e1 e2 e3 e4 e5 e6=>h.d x y q q' b b' br br' l l' v v' n e1 e2 e3 e4 (key e1 e3 e5) (key e2 e4 e6)⟩
theorem RecM.put {H0 H:Hp}{kr:List (Key×V)}{rm:Rm} (h:RecM H0 H kr rm) {x:Str}{q:R×List Rdp×Int}{b br l:Addr}{v:V} (ra:zf [] H b q) (eb:H b=some (.tup [.ref br, .ref l,v])) (hl:H0 l=none) (hx:rm x=none) (hnew:∀y u b' br' l' v',rm y=some u->dG kr (.inr y)=some (.ref b')->H b'=some (.tup [br', .ref l',v'])->l'≠l):RecM H0 H (putK kr (.inr x) (.ref b)) (rm.put x q):=by
 refine⟨h.s.put ra,fun y u b' e1 e2=> ?_,fun y z u u' b' b'' br' br'' l' l'' v' v'' n e1 e2 e3 e4 e5 e6=> ?_⟩
 ·rw[jK] at e2
  unfold Rm.put at e1
  by_cases z:y=x
  ·rw[if_pos (by rw[z])] at e2;cases e2
   exact⟨_,_,_,eb,hl⟩
  ·rw[if_neg (mW z)] at e2
   rw[if_neg z] at e1
   exact h.f y u b' e1 e2
 ·rw[jK] at e3 e4
  unfold Rm.put at e1 e2
  by_cases z1:y=x
  ·rw[if_pos (by rw[z1])] at e3;cases e3
   rw[eb] at e5;cases e5
   have z2:¬z=x:=fun w=>n (z1.trans w.symm)
   rw[if_neg (mW z2)] at e4
   rw[if_neg z2] at e2
   exact Ne.symm (hnew z u' b'' br'' l'' v'' e2 e4 e6)
  ·rw[if_neg (mW z1)] at e3
   rw[if_neg z1] at e1
   by_cases z2:z=x
   ·rw[if_pos (by rw[z2])] at e4;cases e4
    rw[eb] at e6;cases e6
    exact hnew y u b' br' l' v' e1 e3 e5
   ·rw[if_neg (mW z2)] at e4
    rw[if_neg z2] at e2
    exact h.d y z u u' b' b'' br' br'' l' l'' v' v'' n e1 e2 e3 e4 e5 e6
def RmF (gv:Kn) (rc:Rn) (rm:Rm):Prop:=∀x r ps v,rm x=some (r,ps,v)->gv x=none->rc x=some r->lg r kn0 ps v
def Ku (C:Addr):Sp:=fun vs H Q _=>∃(o dx rcd b:Addr) (kr:List (Key×V)) (rm:Rm) (y:Str) (r:R),vs=[.ref o, .str y, .ref b]/\H o=some (.ins C dx (nrF rcd))/\H rcd=some (.dK kr)/\rT H kr rm/\IsR H b r/\r.BV/\r.depth<=8/\
 ∀fl H',aO H H'->H fl=none->(∀kn,Gj H' fl kr rm y r kn 0)->Q (.ref fl) H'
def Dn (CS CR:Addr):Sp:=fun vs H Q _=>∃(A:SeD) (d:Addr) (kr:List (Key×V)) (rm:Rm) (y:Str) (r:R) (kn:Kn),vs=[.ref A.s, .ref d]/\qQ CS CR kr rm y r kn A H/\rT H kr rm/\(∀ps v,rm y=some (r,ps,v)->lg r kn0 ps v)/\RcG r/\Ox H d kn/\d≠A.a3/\r.Fn kn/\
 ∀(A':SeD) H',But A.ft H H'->A'.s=A.s->A'.b=A.b->A'.rk=A.rk->A'.a1=A.a1->A'.a2=A.a2->A'.a3=A.a3->(A'.fl=A.fl\/H A'.fl=none)->qQ CS CR kr rm y r kn A' H'->
  (Pb H' CR kr rm y r kn A'->Q .non H')/\∀x,kn x=none->vO kn r x->Q (.str x) H'
def Kv (CS CR:Addr):Sp:=fun vs H Q _=>∃(A:SeD) (kr:List (Key×V)) (rm:Rm) (y:Str) (r:R) (kn:Kn),vs=[.ref A.s]/\H A.s=some (.ins CS A.dx (seF A.b A.fl A.k A.rk))/\rT H kr rm/\(∀ps v,rm y=some (r,ps,v)->lg r kn0 ps v)/\RcG r/\Pb H CR kr rm y r kn A/\
 ∀(rb l:Addr) (as:List Addr) (ps:List Rdp) (v:Int) (made:Bool) (H':Hp),aO H H'->H' rb=some (.tup [.ref A.b, .ref l, .int v])->H l=none->H' l=some (.lst (as.map V.ref))->jn H' as ps->Rcd rm y r kn ps v made->(∃xs,H' A.fl=some (.lst xs)/\decide (xs.length=0)=made)->Q (.ref rb) H'
structure StG (gv:Kn) (rc:Rn) (kn:Kn) (rm:Rm):Prop where
 a:∀x v,kn x=some v->gv x=some v\/(gv x=none/\∃r ps,rc x=some r/\rm x=some (r,ps,v))
 b:∀x r ps v,rm x=some (r,ps,v)->rc x=some r/\gv x=none/\kn x=some v/\lg r kn0 ps v/\Rows kn ps
theorem StG.afE {gv:Kn}{rc:Rn}{kn:Kn}{rm:Rm} (h:StG gv rc kn rm) {x:Str}{v:Int} (hk:kn x=none) (hg:gv x=some v):StG gv rc (kn.put x v) rm:=by
 have le:=Kn.tY (v:=v) hk
 refine⟨fun y u e=> ?_,fun y r ps u e=> ?_⟩
 ·unfold Kn.put at e
  by_cases z:y=x
  ·rw[if_pos z] at e;cases e;rw[z];exact .inl hg
  ·rw[if_neg z] at e;exact h.a y u e
 ·obtain⟨a,b,c,d,f⟩:=h.b y r ps u e
  exact⟨a,b,le _ _ c,d,f.le le⟩
theorem StG.rR {gv:Kn}{rc:Rn}{kn:Kn}{rm:Rm} (h:StG gv rc kn rm) {x:Str}{r:R}{ps:List Rdp}{v:Int} (hk:kn x=none) (hg:gv x=none) (hr:rc x=some r) (got:lg r kn0 ps v) (row:Rows kn ps):StG gv rc (kn.put x v) (rm.put x (r,ps,v)):=by
 have le:=Kn.tY (v:=v) hk
 refine⟨fun y u e=> ?_,fun y r' ps' u e=> ?_⟩
 ·unfold Kn.put at e
  unfold Rm.put
  by_cases z:y=x
  ·rw[if_pos z] at e;cases e
   rw[z];exact .inr ⟨hg,r,ps,hr,if_pos rfl⟩
  ·rw[if_neg z] at e
   rcases h.a y u e with w | ⟨w,r1,p1,w1,w2⟩
   ·exact .inl w
   ·exact .inr ⟨w,r1,p1,w1,by rw[if_neg z];exact w2⟩
 ·unfold Rm.put at e
  by_cases z:y=x
  ·rw[if_pos z] at e;cases e
   rw[z]
   exact⟨hr,hg,by unfold Kn.put;rw[if_pos rfl],got,row.le le⟩
  ·rw[if_neg z] at e
   obtain⟨a,b,c,d,f⟩:=h.b y r' ps' u e
   exact⟨a,b,le _ _ c,d,f.le le⟩
structure BX (CSe CN:Addr) (D:SrD) (gs cs:List Str) (gv:Kn) (rc:Rn) (kg kc kr:List (Key×V)) (rm:Rm) (Hf:Hp):Prop where
 e:Hf D.so=some (.ins CSe D.dx (srF D.g D.c D.o D.kd D.sd D.rd))
 eg:Hf D.g=some (.dK kg)
 ec:Hf D.c=some (.dK kc)
 bd:yq Hf kg kc gs cs gv rc
 eo:Hf D.o=some (.ins CN D.dxo (nrF D.rcd))
 er:Hf D.rcd=some (.dK kr)
 rD:rT Hf kr rm
 rf:RmF gv rc rm
 ne:D.kd≠D.sd/\D.kd≠D.rd/\D.sd≠D.rd
theorem BX.same {CSe CN:Addr}{D:SrD}{gs cs:List Str}{gv:Kn}{rc:Rn}{kg kc kr:List (Key×V)}{rm:Rm}{Hf H:Hp} (h:BX CSe CN D gs cs gv rc kg kc kr rm Hf) (s:aO Hf H):BX CSe CN D gs cs gv rc kg kc kr rm H:=
 ⟨s _ _ h.e,s _ _ h.eg,s _ _ h.ec,h.bd.tups (aO.tups s),s _ _ h.eo,s _ _ h.er,h.rD.same s,h.rf,h.ne⟩
structure ji (H0:Hp) (D:SrD) (gv:Kn) (rc:Rn) (rm:Rm) (kn:Kn) (rmN:Rm) (rkn:Str->Bool) (od:List Str) (Hf H:Hp):Prop where
 sm:aO Hf H
 fk:Hf D.kd=none
 fs:Hf D.sd=none
 fr:Hf D.rd=none
 ek:∃kw ws,H D.kd=some (.dK kw)/\mC kw ws/\∀x,dG kw (.inr x)=(kn x).map V.int
 es:∃ks,H D.sd=some (.dK ks)/\RecM H0 Hf ks rmN/\mC ks od
 er:∃kk rs,H D.rd=some (.dK kk)/\mC kk rs/\(∀x,dG kk (.inr x)=if rkn x=true then some (.bl true) else none)/\∀x,rkn x=true->rmN x≠none
 ok:StG gv rc kn rmN
 md:∀x r ps v,rmN x=some (r,ps,v)->Rcd rm x r kn ps v (rkn x)
 h0:aO H0 Hf
theorem StG.We {H:Hp}{kg kc:List (Key×V)}{gs cs:List Str}{gv:Kn}{rc:Rn}{kn:Kn}{rm:Rm} (h:StG gv rc kn rm) (b:yq H kg kc gs cs gv rc) {x:Str} (hx:kn x≠none):x∈gs++cs:=by
 cases e:kn x with
 | none=>exact absurd e hx
 | some v=>
   rcases h.a x v e with w | ⟨_,r,_,w,_⟩
   ·exact List.mem_append_left _ (b.gm (by rw[w];simp))
   ·exact List.mem_append_right _ (b.cm (by rw[w];simp))
theorem ji.kl {H0 H9:Hp}{kg kc:List (Key×V)}{gs cs:List Str}{D:SrD}{gv:Kn}{rc:Rn}{rm:Rm}{kn:Kn}{rmN:Rm}{rkn:Str->Bool}{od:List Str}{Hf H:Hp} (h:ji H0 D gv rc rm kn rmN rkn od Hf H) (b:yq H9 kg kc gs cs gv rc) {kw:List (Key×V)}{ws:List Str} (k:mC kw ws) (hk:∀x,dG kw (.inr x)=(kn x).map V.int):kw.length<=60:=by
 rw[k.len]
 have:=mR (ws:=ws) (ns:=gs++cs) k.nd fun x hx=>h.ok.We b fun e=>k.none.mp (by rw[hk,e];rfl) hx
 rw[List.length_append] at this
 have:=b.n
 omega
theorem ji.sl {H0 H9:Hp}{kg kc:List (Key×V)}{gs cs:List Str}{D:SrD}{gv:Kn}{rc:Rn}{rm:Rm}{kn:Kn}{rmN:Rm}{rkn:Str->Bool}{od:List Str}{Hf H:Hp} (h:ji H0 D gv rc rm kn rmN rkn od Hf H) (b:yq H9 kg kc gs cs gv rc) {kw:List (Key×V)}{ws:List Str} (k:mC kw ws) (hk:∀x,rmN x=none->dG kw (.inr x)=none):kw.length<=60:=by
 rw[k.len]
 have:=mR (ws:=ws) (ns:=gs++cs) k.nd fun x hx=>h.ok.We b fun e=>by
  cases z:rmN x with
  | none=>exact k.none.mp (hk x z) hx
  | some q=>
    obtain⟨r,ps,v⟩:=q
    have:=(h.ok.b x r ps v z).2.2.1
    rw[e] at this;cases this
 rw[List.length_append] at this
 have:=b.n
 omega
def Kw (CSe CN CS CR:Addr):Sp:=fun vs H Q _=>∃(H0:Hp) (D:SrD) (gs cs:List Str) (gv:Kn) (rc:Rn) (kg kc kr:List (Key×V)) (rm:Rm) (kn:Kn) (rmN:Rm) (rkn:Str->Bool) (od:List Str) (Hf:Hp) (A:SeD) (y:Str) (r:R),vs=[.ref D.so, .str y, .ref A.s]/\BX CSe CN D gs cs gv rc kg kc kr rm Hf/\ji H0 D gv rc rm kn rmN rkn od Hf H/\
 H A.s=some (.ins CS A.dx (seF A.b A.fl A.k A.rk))/\IsR H A.b r/\Pb H CR kr rm y r kn A/\kn y=none/\gv y=none/\rc y=some r/\(∀z∈A.ft,z∉[D.kd,D.sd,D.rd])/\
 ∀(v:Int) (ps:List Rdp) (made:Bool) (Hf' H':Hp),But [D.kd,D.sd,D.rd] H H'->aO Hf Hf'->(∀z,Mu H z->Hf z=none->Hf' z=none)->ji H0 D gv rc rm (kn.put y v) (rmN.put y (r,ps,v)) (fun x=>if x=y then made else rkn x) (od++[y]) Hf' H'->ev kn r= .inr v->Q .non H'
def Ja (kn:Kn) (ns:List Str):Nat:=(ns.filter fun x=>(kn x).isNone).length
theorem Av {p p':Str->Bool}:∀{l:List Str},(∀j∈l,p' j=true->p j=true)->∀{i:Str},i∈l->p i=true->p' i=false->(l.filter p').length+1<=(l.filter p).length
 |[],_,i,hi,_,_=>by cases hi
 | a::l,h,i,hi,h1,h2=>by
   have hle:∀l:List Str,(∀j∈l,p' j=true->p j=true)->(l.filter p').length<=(l.filter p).length:=by
    intro l
    induction l with
    | nil=>intro _;exact Nat.le_refl _
    | cons b l ih=>
      intro h
      have ih:=ih fun j hj=>h j (by simp[hj])
      rw[List.filter_cons,List.filter_cons]
      by_cases hb:p' b=true
      ·rw[if_pos hb,if_pos (h b (by simp) hb)];simp;exact ih
      ·rw[if_neg hb]
       split
       ·simp;omega
       ·exact ih
   rcases List.mem_cons.mp hi with z | z
   ·subst z
    rw[List.filter_cons,List.filter_cons,if_neg (by rw[h2];decide),if_pos h1]
    have:=hle l fun j hj=>h j (by simp[hj])
    simp;exact this
   ·have ih:=Av (l:=l) (fun j hj=>h j (by simp[hj])) z h1 h2
    rw[List.filter_cons,List.filter_cons]
    by_cases hb:p' a=true
    ·rw[if_pos hb,if_pos (h a (by simp) hb)];simp;exact ih
    ·rw[if_neg hb]
     split
     ·simp;omega
     ·exact ih
theorem Aw {kn:Kn}{ns:List Str}{x:Str}{v:Int} (hi:x∈ns) (h:kn x=none):Ja (kn.put x v) ns+1<=Ja kn ns:=by
 refine Av (fun j _ hj=> ?_) hi (by simp only[h];rfl) ?_
 ·unfold Kn.put at hj
  by_cases z:j=x
  ·rw[if_pos z] at hj;cases hj
  ·rw[if_neg z] at hj;exact hj
 ·unfold Kn.put;rw[if_pos rfl];rfl
end RB
set_option maxRecDepth 100000
namespace RB
open PySem L2 PySem.Spec PyProof.Rows
theorem Gs {S:List Addr}{H H':Hp} (b:But S H H') (m:∀z∈S,Mu H z):jU H H':=fun p xs e=>b p _ (fun w=>by
 obtain⟨o,h1,h2⟩:=m p w
 rw[e] at h1;cases h1;exact h2 _ rfl) e
theorem Mu.but {S:List Addr}{H H':Hp}{z:Addr} (m:Mu H z) (b:But S H H') (hz:z∉S):Mu H' z:=let ⟨o,h1,h2⟩:=m;⟨o,b _ _ hz h1,h2⟩
theorem Mu.some {H:Hp}{z:Addr} (m:Mu H z):H z≠none:=let ⟨o,h1,_⟩:=m;by rw[h1];simp
section
variable {CS CR:Addr}{D:SrD}{pth bgd:Addr}{n:Nat}{gv:Kn}{rc:Rn}{kr:List (Key×V)}{rm:Rm}{kn kn':Kn}{bg:Str->Option SeD}{Hf Hf' H H':Hp}
theorem qQ.mu {y:Str}{r:R}{A:SeD} (h:qQ CS CR kr rm y r kn A H):∀z∈A.ft,Mu H z:=fun z hz=>by
 obtain⟨c,rc',_⟩:=h.c
 have hz:z=A.s\/z=A.fl\/z=A.rk\/z=A.a1\/z=A.a2\/z=A.a3:=by simpa [SeD.ft] using hz
 rcases hz with rfl | rfl | rfl | rfl | rfl | rfl
 ·exact⟨_,h.e,by simp⟩
 ·rcases h.f with⟨rb,ps,v,w1,_⟩ | ⟨w1,_⟩
  ·exact⟨_,w1,by simp⟩
  ·exact⟨_,w1,by simp⟩
 ·exact⟨_,rc'.e,by simp⟩
 ·obtain⟨ws,w1,_⟩:=rc'.e1
  exact⟨_,w1,by simp⟩
 ·exact⟨_,rc'.e2,by simp⟩
 ·exact⟨_,rc'.e3,by simp⟩
def jj (bg:Str->Option SeD) (y:Str) (A:SeD):Str->Option SeD:=fun x=>if x=y then some A else bg x
end
end RB
set_option maxRecDepth 100000
namespace RB
open PySem L2 PySem.Spec PyProof.Rows
theorem ji.but {H0:Hp}{D:SrD}{gv:Kn}{rc:Rn}{rm:Rm}{kn:Kn}{rmN:Rm}{rkn:Str->Bool}{od:List Str}{Hf H H':Hp}{S:List Addr} (h:ji H0 D gv rc rm kn rmN rkn od Hf H) (b:But S H H') (hf:∀z∈S,Hf z=none) (hk:D.kd∉S) (hs:D.sd∉S) (hr:D.rd∉S):ji H0 D gv rc rm kn rmN rkn od Hf H':=by
 obtain⟨sm,fk,fs,fr,⟨kw,ws,e1,r1⟩,⟨ks,e2,r2⟩,⟨kk,rs,e3,r3⟩,ok,md,h0⟩:=h
 exact⟨fun z o e=>b z o (fun w=>by rw[hf z w] at e;cases e) (sm z o e),fk,fs,fr,⟨kw,ws,b _ _ hk e1,r1⟩,⟨ks,b _ _ hs e2,r2⟩,⟨kk,rs,b _ _ hr e3,r3⟩,ok,md,h0⟩
theorem ji.same {H0:Hp}{D:SrD}{gv:Kn}{rc:Rn}{rm:Rm}{kn:Kn}{rmN:Rm}{rkn:Str->Bool}{od:List Str}{Hf H H':Hp} (h:ji H0 D gv rc rm kn rmN rkn od Hf H) (s:aO H H'):ji H0 D gv rc rm kn rmN rkn od Hf H':=h.but (S:=[]) (But.of_same s) (by simp) (by simp) (by simp) (by simp)
structure BgG (CS CR:Addr) (D:SrD) (pth bgd:Addr) (gv:Kn) (rc:Rn) (kr:List (Key×V)) (rm:Rm) (kn:Kn) (bg:Str->Option SeD) (Hf H:Hp):Prop where
 e:∃kb ks,H bgd=some (.dK kb)/\mC kb ks/\∀y,dG kb (.inr y)=(bg y).map fun A=>V.ref A.s
 nm:∀y,bg y≠none->rc y≠none
 ok:∀y A,bg y=some A->kn y=none->∃r,rc y=some r/\gv y=none/\qQ CS CR kr rm y r kn A H
 al:∀y A,bg y=some A->∀z∈A.ft,Mu H z/\Hf z=none/\z∉[pth,bgd,D.kd,D.sd,D.rd]
 dj:∀y y' A A',y≠y'->bg y=some A->bg y'=some A'->∀z∈A.ft,z∉A'.ft
section
variable {CS CR:Addr}{D:SrD}{pth bgd:Addr}{gv:Kn}{rc:Rn}{kr:List (Key×V)}{rm:Rm}{kn kn':Kn}{bg:Str->Option SeD}{Hf Hf' H H':Hp}
theorem BgG.but {S:List Addr} (h:BgG CS CR D pth bgd gv rc kr rm kn bg Hf H) (b:But S H H') (t:jU H H') (hb:bgd∉S) (hS:∀y A,bg y=some A->∀z∈A.ft,z∉S):BgG CS CR D pth bgd gv rc kr rm kn bg Hf H':=by
 obtain⟨⟨kb,ks,e1,e2,e3⟩,nm,ok,al,dj⟩:=h
 exact⟨⟨kb,ks,b _ _ hb e1,e2,e3⟩,nm,fun y A h1 h2=>let ⟨r,a1,a2,a3⟩:=ok y A h1 h2;⟨r,a1,a2,a3.move b t (hS y A h1)⟩,fun y A h1 z hz=>⟨(al y A h1 z hz).1.but b (hS y A h1 z hz),(al y A h1 z hz).2⟩,dj⟩
theorem BgG.same (h:BgG CS CR D pth bgd gv rc kr rm kn bg Hf H) (s:aO H H'):BgG CS CR D pth bgd gv rc kr rm kn bg Hf H':=h.but (S:=[]) (But.of_same s) (aO.tups s) (by simp) (by simp)
theorem BgG.off {S:List Addr} (h:BgG CS CR D pth bgd gv rc kr rm kn bg Hf H) (b:But S H H') (m:∀z∈S,Mu H z) (hS:∀z∈S,z∈[pth,D.kd,D.sd,D.rd]) (hb:bgd∉S):BgG CS CR D pth bgd gv rc kr rm kn bg Hf H':=
 h.but b (Gs b m) hb fun y A h1 z hz w=>(h.al y A h1 z hz).2.2 (by
   have:=hS z w
   simp only[List.mem_cons,List.not_mem_nil,or_false] at this ⊢
   rcases this with q | q | q | q
   ·exact .inl q
   ·exact .inr (.inr (.inl q))
   ·exact .inr (.inr (.inr (.inl q)))
   ·exact .inr (.inr (.inr (.inr q))))
theorem BgG.le (h:BgG CS CR D pth bgd gv rc kr rm kn bg Hf H) (l:Kn.Le kn kn'):BgG CS CR D pth bgd gv rc kr rm kn' bg Hf H:=
 ⟨h.e,h.nm,fun y A h1 h2=>by
   have h0:kn y=none:=by
    cases z:kn y with
    | none=>rfl
    | some v=>rw[l y v z] at h2;cases h2
   obtain⟨r,a1,a2,a3⟩:=h.ok y A h1 h0
   exact⟨r,a1,a2,a3.le l⟩,h.al,h.dj⟩
theorem BgG.hf (h:BgG CS CR D pth bgd gv rc kr rm kn bg Hf H) (f:∀z,Mu H z->Hf z=none->Hf' z=none):BgG CS CR D pth bgd gv rc kr rm kn bg Hf' H:=
 ⟨h.e,h.nm,h.ok,fun y A h1 z hz=>let ⟨a,b,c⟩:=h.al y A h1 z hz;⟨a,f z a b,c⟩,h.dj⟩
theorem BgG.new {H1:Hp}{y:Str}{r:R}{A:SeD}{kb:List (Key×V)} (h:BgG CS CR D pth bgd gv rc kr rm kn bg Hf H) (s:aO H H1) (hA:∀z∈A.ft,H z=none) (so:qQ CS CR kr rm y r kn A H1) (hr:rc y=some r) (hg:gv y=none) (hb:bg y=none)
 (ebd:H bgd=some (.dK kb)) (sf:aO Hf H) (al:∀z∈[pth,bgd,D.kd,D.sd,D.rd],H z≠none):BgG CS CR D pth bgd gv rc kr rm kn (jj bg y A) Hf (upd H1 bgd (.dK (putK kb (.inr y) (.ref A.s)))):=by
 have h1:=h.same s
 have eb1:=s _ _ ebd
 have b1:But [bgd] H1 (upd H1 bgd (.dK (putK kb (.inr y) (.ref A.s)))):=But.set _ (by simp)
 have t1:jU H1 (upd H1 bgd (.dK (putK kb (.inr y) (.ref A.s)))):=Ko eb1
 have nA:∀z∈A.ft,z∉[pth,bgd,D.kd,D.sd,D.rd]:=fun z hz w=>al z w (hA z hz)
 have nb:∀z∈A.ft,z∉[bgd]:=fun z hz w=>nA z hz (by simp at w ⊢;exact .inr (.inl w))
 obtain⟨⟨kb',ks,e1,e2,e3⟩,nm,ok,al1,dj⟩:=h1
 rw[eb1] at e1;cases e1
 have hyk:y∉ks:=e2.none.mp (by rw[e3,hb];rfl)
 refine⟨⟨_,_,ak,e2.v8 hyk _,fun x=> ?_⟩,fun x hx=> ?_,fun x B h1 h2=> ?_,fun x B h1 z hz=> ?_,fun x x' B B' hne h1 h2 z hz=> ?_⟩
 ·rw[jK]
  unfold jj
  by_cases z:x=y
  ·rw[if_pos (by rw[z]),if_pos z];rfl
  ·rw[if_neg (mW z),if_neg z];exact e3 x
 ·unfold jj at hx
  by_cases z:x=y
  ·rw[z,hr];simp
  ·rw[if_neg z] at hx;exact nm x hx
 ·unfold jj at h1
  by_cases z:x=y
  ·rw[if_pos z] at h1;cases h1
   rw[z];exact⟨r,hr,hg,so.move b1 t1 nb⟩
  ·rw[if_neg z] at h1
   obtain⟨r',a1,a2,a3⟩:=ok x B h1 h2
   exact⟨r',a1,a2,a3.move b1 t1 fun w hw q=>(al1 x B h1 w hw).2.2 (by simp at q ⊢;exact .inr (.inl q))⟩
 ·unfold jj at h1
  by_cases w:x=y
  ·rw[if_pos w] at h1;cases h1
   refine⟨(so.mu z hz).but b1 (nb z hz), ?_,nA z hz⟩
   cases q:Hf z with
   | none=>rfl
   | some o=>have:=sf _ _ q;rw[hA z hz] at this;cases this
  ·rw[if_neg w] at h1
   obtain⟨a1,a2,a3⟩:=al1 x B h1 z hz
   exact⟨a1.but b1 (fun q=>a3 (by simp at q ⊢;exact .inr (.inl q))),a2,a3⟩
 ·unfold jj at h1 h2
  by_cases w:x=y
  ·rw[if_pos w] at h1;cases h1
   rw[if_neg (fun q=>hne (w.trans q.symm))] at h2
   exact fun q=>((h.al x' B' h2 z q).1.some) (hA z hz)
  ·rw[if_neg w] at h1
   by_cases w':x'=y
   ·rw[if_pos w'] at h2;cases h2
    exact fun q=>((h.al x B h1 z hz).1.some) (hA z q)
   ·rw[if_neg w'] at h2
    exact dj x x' B B' hne h1 h2 z hz
theorem BgG.set {y:Str}{r:R}{A A':SeD} (h:BgG CS CR D pth bgd gv rc kr rm kn bg Hf H) (hy:bg y=some A) (b:But A.ft H H') (so:qQ CS CR kr rm y r kn A' H') (hr:rc y=some r) (hg:gv y=none)
 (es:A'.s=A.s) (erk:A'.rk=A.rk) (e1:A'.a1=A.a1) (e2:A'.a2=A.a2) (e3:A'.a3=A.a3) (efl:A'.fl=A.fl\/H A'.fl=none) (sf:aO Hf H) (al:∀z∈[pth,bgd,D.kd,D.sd,D.rd],H z≠none):BgG CS CR D pth bgd gv rc kr rm kn (jj bg y A') Hf H':=by
 have hin:∀z∈A'.ft,z∈A.ft\/H z=none:=fun z hz=>by
  have hz:z=A'.s\/z=A'.fl\/z=A'.rk\/z=A'.a1\/z=A'.a2\/z=A'.a3:=by simpa [SeD.ft] using hz
  rcases hz with w | w | w | w | w | w
  ·exact .inl (by rw[w,es];simp[SeD.ft])
  ·rcases efl with q | q
   ·exact .inl (by rw[w,q];simp[SeD.ft])
   ·exact .inr (by rw[w];exact q)
  ·exact .inl (by rw[w,erk];simp[SeD.ft])
  ·exact .inl (by rw[w,e1];simp[SeD.ft])
  ·exact .inl (by rw[w,e2];simp[SeD.ft])
  ·exact .inl (by rw[w,e3];simp[SeD.ft])
 have mA:∀z∈A.ft,Mu H z:=fun z hz=>(h.al y A hy z hz).1
 have t:=Gs b mA
 have nbg:bgd∉A.ft:=fun z=>(h.al y A hy _ z).2.2 (by simp)
 obtain⟨⟨kb,ks,f1,f2,f3⟩,nm,ok,al1,dj⟩:=h
 refine⟨⟨kb,ks,b _ _ nbg f1,f2,fun x=> ?_⟩,fun x hx=> ?_,fun x B h1 h2=> ?_,fun x B h1 z hz=> ?_,fun x x' B B' hne h1 h2 z hz=> ?_⟩
 ·rw[f3]
  unfold jj
  by_cases z:x=y
  ·rw[if_pos z,z,hy];show some (V.ref A.s)=some (V.ref A'.s);rw[es]
  ·rw[if_neg z]
 ·unfold jj at hx
  by_cases z:x=y
  ·rw[z];exact nm y (by rw[hy];simp)
  ·rw[if_neg z] at hx;exact nm x hx
 ·unfold jj at h1
  by_cases z:x=y
  ·rw[if_pos z] at h1;cases h1
   rw[z];exact⟨r,hr,hg,so⟩
  ·rw[if_neg z] at h1
   obtain⟨r',a1,a2,a3⟩:=ok x B h1 h2
   exact⟨r',a1,a2,a3.move b t fun w hw=>dj x y B A z h1 hy w hw⟩
 ·unfold jj at h1
  by_cases w:x=y
  ·rw[if_pos w] at h1;cases h1
   refine⟨so.mu z hz, ?_, ?_⟩
   ·rcases hin z hz with q | q
    ·exact(al1 y A hy z q).2.1
    ·cases q':Hf z with
     | none=>rfl
     | some o=>have:=sf _ _ q';rw[q] at this;cases this
   ·rcases hin z hz with q | q
    ·exact(al1 y A hy z q).2.2
    ·exact fun w'=>al z w' q
  ·rw[if_neg w] at h1
   obtain⟨a1,a2,a3⟩:=al1 x B h1 z hz
   exact⟨a1.but b (dj x y B A w h1 hy z hz),a2,a3⟩
 ·unfold jj at h1 h2
  by_cases w:x=y
  ·rw[if_pos w] at h1;cases h1
   rw[if_neg (fun q=>hne (w.trans q.symm))] at h2
   rcases hin z hz with q | q
   ·exact dj y x' A B' (fun e=>hne (w.trans e)) hy h2 z q
   ·exact fun w'=>((al1 x' B' h2 z w').1.some) q
  ·rw[if_neg w] at h1
   by_cases w':x'=y
   ·rw[if_pos w'] at h2;cases h2
    intro q
    rcases hin z q with q' | q'
    ·exact dj x y B A w h1 hy z hz q'
    ·exact((al1 x B h1 z hz).1.some) q'
   ·rw[if_neg w'] at h2
    exact dj x x' B B' hne h1 h2 z hz
end
end RB
set_option maxRecDepth 100000
namespace RB
open PySem L2 PySem.Spec PyProof.Rows
section
variable {CSe CN CS CR:Addr}{D:SrD}{pth bgd:Addr}{n:Nat}{gv:Kn}{rc:Rn}{kg kc kr:List (Key×V)}{rm:Rm}{knI:Kn}{odI od:List Str}{HfI HI:Hp}{x:Str}{k0:Nat}{is js:List Nat}{i:Nat}{kn:Kn}{rmN:Rm}{rkn:Str->Bool}{bg:Str->Option SeD}{Hf H H':Hp}
end
end RB
set_option maxRecDepth 100000
namespace RB
open PySem L2 PySem.Spec PyProof.Rows
def yR (ns:List Str) (kn:Kn) (is:List Str):Nat:=match is.getLast? with
 | none=>0
 | some i=>if(kn i).isNone=true then 200 * Ja kn ns+70 - is.length else 200 * Ja kn ns+100
theorem lq {ns:List Str}{kn:Kn}{js:List Str}{i:Str} (h:kn i=none):yR ns kn (js++[i])=200 * Ja kn ns+70 - (js.length+1):=by
 unfold yR
 rw[List.getLast?_concat]
 simp only[h]
 rw[List.length_append];rfl
theorem vA {ns:List Str}{kn:Kn}{js:List Str}{i:Str} (h:kn i≠none):yR ns kn (js++[i])=200 * Ja kn ns+100:=by
 unfold yR
 rw[List.getLast?_concat]
 simp only
 rw[if_neg]
 intro z
 exact h (Option.isNone_iff_eq_none.mp z)
theorem Gu {ns:List Str}{kn:Kn}{js:List Str} (h:∀j∈js,kn j=none):yR ns kn js<=200 * Ja kn ns+70 - js.length:=by
 rcases List.eq_nil_or_concat js with z | ⟨ks,j,z⟩
 ·subst z;exact Nat.zero_le _
 ·rw[List.concat_eq_append] at z
  subst z
  rw[lq (h j (by simp)),List.length_append]
  exact Nat.le_refl _
structure LpG (H0:Hp) (CSe CN CS CR:Addr) (D:SrD) (pth bgd:Addr) (gs cs:List Str) (gv:Kn) (rc:Rn) (kg kc kr:List (Key×V)) (rm:Rm) (knI:Kn) (odI:List Str) (HfI HI:Hp) (x:Str) (is:List Str) (kn:Kn) (rmN:Rm) (rkn:Str->Bool) (od:List Str) (bg:Str->Option SeD) (Hf H:Hp):Prop where
 b:But [D.kd,D.sd,D.rd] HI H
 sf:aO HfI Hf
 fm:∀z,Mu HI z->HfI z=none->Hf z=none
 sh:BX CSe CN D gs cs gv rc kg kc kr rm Hf
 so:ji H0 D gv rc rm kn rmN rkn od Hf H
 ep:H pth=some (.lst (is.map V.str))
 fp:Hf pth=none
 fb:Hf bgd=none
 ip:HI pth=none
 ib:HI bgd=none
 np:pth∉[D.kd,D.sd,D.rd]
 nb:bgd∉[D.kd,D.sd,D.rd]
 nn:pth≠bgd
 nd:is.Nodup
 un:∀i∈is.dropLast,kn i=none/\rc i≠none
 rch:∀i∈is,Rch gv rc kn x i
 le:Kn.Le knI kn
 new:∀y,kn y≠none->knI y≠none\/Rch gv rc kn x y
 bgi:BgG CS CR D pth bgd gv rc kr rm kn bg Hf H
 hd:is.head?=some x\/(is=[]/\kn x≠none)
 fr:∀y A,bg y=some A->∀z∈A.ft,HI z=none
 mv:Mvs gv rc ([x],knI,odI) (is.reverse,kn,od)
section
variable {H0:Hp}{CSe CN CS CR:Addr}{D:SrD}{pth bgd:Addr}{gs cs:List Str}{gv:Kn}{rc:Rn}{kg kc kr:List (Key×V)}{rm:Rm}{knI:Kn}{odI od:List Str}{HfI HI:Hp}{x:Str}{is js:List Str}{i:Str}{kn:Kn}{rmN:Rm}{rkn:Str->Bool}{bg:Str->Option SeD}{Hf H H':Hp}
theorem LpG.len (h:LpG H0 CSe CN CS CR D pth bgd gs cs gv rc kg kc kr rm knI odI HfI HI x is kn rmN rkn od bg Hf H):is.length<=61:=by
 have h1:=mR (ws:=is.dropLast) (ns:=cs) (h.nd.sublist (List.dropLast_sublist _)) fun y hy=>h.sh.bd.cm (h.un y hy).2
 have h2:=h.sh.bd.n
 rw[List.length_dropLast] at h1
 omega
theorem LpG.al (h:LpG H0 CSe CN CS CR D pth bgd gs cs gv rc kg kc kr rm knI odI HfI HI x is kn rmN rkn od bg Hf H):∀z∈[pth,bgd,D.kd,D.sd,D.rd],Mu H z:=fun z hz=>by
 obtain⟨kb,ks,e1,_⟩:=h.bgi.e
 obtain⟨kw,ws,e2,_⟩:=h.so.ek
 obtain⟨ks',e3,_⟩:=h.so.es
 obtain⟨kk,rs,e4,_⟩:=h.so.er
 have hz:z=pth\/z=bgd\/z=D.kd\/z=D.sd\/z=D.rd:=by simpa using hz
 rcases hz with rfl | rfl | rfl | rfl | rfl
 ·exact⟨_,h.ep,by simp⟩
 ·exact⟨_,e1,by simp⟩
 ·exact⟨_,e2,by simp⟩
 ·exact⟨_,e3,by simp⟩
 ·exact⟨_,e4,by simp⟩
theorem LpG.path {is':List Str} (h:LpG H0 CSe CN CS CR D pth bgd gs cs gv rc kg kc kr rm knI odI HfI HI x is kn rmN rkn od bg Hf H) (nd:is'.Nodup) (un:∀i∈is'.dropLast,kn i=none/\rc i≠none) (rch:∀i∈is',Rch gv rc kn x i) (hd:is'.head?=some x\/(is'=[]/\kn x≠none)) (hm:RB.mv gv rc (is.reverse,kn,od)=some (is'.reverse,kn,od)):
 LpG H0 CSe CN CS CR D pth bgd gs cs gv rc kg kc kr rm knI odI HfI HI x is' kn rmN rkn od bg Hf (upd H pth (.lst (is'.map V.str))):=by
 have hb:But [pth] H (upd H pth (.lst (is'.map V.str))):=But.set _ (by simp)
 have np:=h.np
 simp only[List.mem_cons,List.not_mem_nil,or_false,not_or] at np
 refine⟨h.b.upd _ h.ip,h.sf,h.fm,h.sh,h.so.but hb (fun z hz=> ?_) (fun z=>np.1 (List.mem_singleton.mp z).symm) (fun z=> ?_) (fun z=> ?_),ak,h.fp,h.fb,h.ip,h.ib,h.np,h.nb,h.nn,nd,un,rch,h.le,h.new,h.bgi.off hb (fun z hz=> ?_) (fun z hz=> ?_) (fun z=> ?_),hd,h.fr,h.mv.snoc hm⟩
 ·have:z=pth:=by simpa using hz
  rw[this];exact h.fp
 ·exact np.2.1 (by have:D.sd=pth:=by simpa using z
                   exact this.symm)
 ·exact np.2.2 (by have:D.rd=pth:=by simpa using z
                   exact this.symm)
 ·have:z=pth:=by simpa using hz
  rw[this];exact h.al pth (by simp)
 ·have:z=pth:=by simpa using hz
  rw[this];simp
 ·exact h.nn (by have:bgd=pth:=by simpa using z
                 exact this.symm)
theorem LpG.pop (h:LpG H0 CSe CN CS CR D pth bgd gs cs gv rc kg kc kr rm knI odI HfI HI x (js++[i]) kn rmN rkn od bg Hf H) (hk:kn i≠none):LpG H0 CSe CN CS CR D pth bgd gs cs gv rc kg kc kr rm knI odI HfI HI x js kn rmN rkn od bg Hf (upd H pth (.lst (js.map V.str))):=by
 have un:=h.un
 rw[List.dropLast_concat] at un
 refine h.path (h.nd.sublist (List.sublist_append_left _ _)) (fun j hj=>un j ((List.dropLast_sublist _).subset hj)) (fun j hj=>h.rch j (by simp[hj])) ?_ (by rw[List.reverse_append];exact yo hk)
 rcases h.hd with z | ⟨z,_⟩
 ·cases js with
  | nil=>
    right
    have:i=x:=by simpa using z
    exact⟨rfl,by rw[<-this];exact hk⟩
  | cons a js=>left;simpa using z
 ·simp at z
theorem LpG.push {j:Str}{r:R} (h:LpG H0 CSe CN CS CR D pth bgd gs cs gv rc kg kc kr rm knI odI HfI HI x (js++[i]) kn rmN rkn od bg Hf H) (hk:kn i=none) (hji:j∉js++[i]) (hg:gv i=none) (hr:rc i=some r) (hs:vO kn r j) (hz:kn j=none):LpG H0 CSe CN CS CR D pth bgd gs cs gv rc kg kc kr rm knI odI HfI HI x (js++[i]++[j]) kn rmN rkn od bg Hf (upd H pth (.lst ((js++[i]++[j]).map V.str))):=by
 have un:=h.un
 rw[List.dropLast_concat] at un
 refine h.path ?_ (fun k hk'=> ?_) (fun k hk'=> ?_) ?_ (by rw[List.reverse_append (as:=js++[i]),List.reverse_append];exact oM hg hk hr (hs.ev hz))
 ·rw[List.nodup_append]
  exact⟨h.nd,by simp,fun a ha b hb=>by
   have:b=j:=by simpa using hb
   rw[this];exact fun z=>hji (z▸ha)⟩
 ·rw[List.dropLast_concat] at hk'
  rcases List.mem_append.mp hk' with z | z
  ·exact un k z
  ·have:k=i:=by simpa using z
   rw[this];exact⟨hk,by rw[hr];simp⟩
 ·rcases List.mem_append.mp hk' with z | z
  ·exact h.rch k z
  ·have:k=j:=by simpa using z
   rw[this];exact .step (h.rch i (by simp)) hg hr hs
 ·left
  rcases h.hd with z | ⟨z,_⟩
  ·cases js with
   | nil=>simpa using z
   | cons a js=>simpa using z
  ·simp at z
theorem LpG.know {kn':Kn}{Gv:Rm}{rkn':Str->Bool}{od':List Str}{Hf':Hp} (h:LpG H0 CSe CN CS CR D pth bgd gs cs gv rc kg kc kr rm knI odI HfI HI x (js++[i]) kn rmN rkn od bg Hf H) (b:But [D.kd,D.sd,D.rd] H H') (sf:aO Hf Hf') (fm:∀z,Mu H z->Hf z=none->Hf' z=none) (so:ji H0 D gv rc rm kn' Gv rkn' od' Hf' H') (le:Kn.Le kn kn') (hn:∀y,kn' y≠none->kn y≠none\/y=i) (hun:∀y,y≠i->kn y=none->kn' y=none) (hm:Mvs gv rc ((js++[i]).reverse,kn,od) ((js++[i]).reverse,kn',od')):LpG H0 CSe CN CS CR D pth bgd gs cs gv rc kg kc kr rm knI odI HfI HI x (js++[i]) kn' Gv rkn' od' bg Hf' H':=by
 have hal:=h.al
 have hmu:∀z∈[D.kd,D.sd,D.rd],Mu H z:=fun z hz=>hal z (by simp at hz ⊢;rcases hz with q | q | q<;>simp[q])
 have un:=h.un
 rw[List.dropLast_concat] at un
 have nd:=h.nd
 rw[List.nodup_append] at nd
 refine⟨h.b.trans b,h.sf.trans sf,fun z m hz=> ?_,h.sh.same sf,so,b _ _ h.np h.ep,fm _ (hal _ (by simp)) h.fp,fm _ (hal _ (by simp)) h.fb,h.ip,h.ib,h.np,h.nb,h.nn,h.nd,fun j hj=> ?_,fun j hj=>(h.rch j hj).le le,h.le.trans le,fun y hy=> ?_,((h.bgi.hf fm).off b hmu (fun z hz=>by simp at hz ⊢;rcases hz with q | q | q<;>simp[q]) h.nb).le le, ?_,h.fr,h.mv.trans hm⟩
 ·have hz':=h.fm z m hz
  by_cases hS:z∈[D.kd,D.sd,D.rd]
  ·exact fm z (hmu z hS) hz'
  ·exact fm z (m.but h.b hS) hz'
 ·rw[List.dropLast_concat] at hj
  exact⟨hun _ (fun z=>nd.2.2 j hj i (by simp) z) (un j hj).1,(un j hj).2⟩
 ·rcases hn y hy with z | z
  ·exact(h.new y z).imp id fun w=>w.le le
  ·right;rw[z];exact(h.rch i (by simp)).le le
 ·exact h.hd.imp id fun⟨a,_⟩=>by simp at a
theorem LpG.bgs {S:List Addr}{bg':Str->Option SeD} (h:LpG H0 CSe CN CS CR D pth bgd gs cs gv rc kg kc kr rm knI odI HfI HI x is kn rmN rkn od bg Hf H) (b:But S H H') (hS:∀z∈S,HI z=none/\Hf z=none/\z∉[pth,D.kd,D.sd,D.rd]) (hb:BgG CS CR D pth bgd gv rc kr rm kn bg' Hf H') (hf:∀y A,bg' y=some A->∀z∈A.ft,HI z=none):LpG H0 CSe CN CS CR D pth bgd gs cs gv rc kg kc kr rm knI odI HfI HI x is kn rmN rkn od bg' Hf H':=by
 refine⟨fun c o hc e=>b c o (fun w=>by rw[(hS c w).1] at e;cases e) (h.b c o hc e),h.sf,h.fm,h.sh,h.so.but b (fun z hz=>(hS z hz).2.1) (fun z=>(hS _ z).2.2 (by simp)) (fun z=>(hS _ z).2.2 (by simp)) (fun z=>(hS _ z).2.2 (by simp)),b _ _ (fun z=>(hS _ z).2.2 (by simp)) h.ep,h.fp,h.fb,h.ip,h.ib,h.np,h.nb,h.nn,h.nd,h.un,h.rch,h.le,h.new,hb,h.hd,hf,h.mv⟩
theorem LpG.free (h:LpG H0 CSe CN CS CR D pth bgd gs cs gv rc kg kc kr rm knI odI HfI HI x is kn rmN rkn od bg Hf H) {z:Addr} (hz:H z=none):HI z=none/\Hf z=none:=by
 refine⟨Ge h.b hz fun w=>(h.al z (by simp at w ⊢;rcases w with q | q | q<;>simp[q])).some hz, ?_⟩
 cases q:Hf z with
 | none=>rfl
 | some o=>have:=h.so.sm _ _ q;rw[hz] at this;cases this
theorem LpG.begun {H1:Hp}{y:Str}{r:R}{A:SeD}{kb:List (Key×V)} (h:LpG H0 CSe CN CS CR D pth bgd gs cs gv rc kg kc kr rm knI odI HfI HI x is kn rmN rkn od bg Hf H) (s:aO H H1) (hA:∀z∈A.ft,H z=none) (so:qQ CS CR kr rm y r kn A H1) (hr:rc y=some r) (hg:gv y=none) (hb:bg y=none) (ebd:H bgd=some (.dK kb)):
 LpG H0 CSe CN CS CR D pth bgd gs cs gv rc kg kc kr rm knI odI HfI HI x is kn rmN rkn od (jj bg y A) Hf (upd H1 bgd (.dK (putK kb (.inr y) (.ref A.s)))):=by
 have nb:=h.nb
 refine h.bgs (S:=[bgd]) ((But.of_same s).trans (But.set _ (by simp))) (fun z hz=> ?_) (h.bgi.new s hA so hr hg hb ebd h.so.sm fun z hz=>(h.al z hz).some) (fun x B hB z hz=> ?_)
 ·have:z=bgd:=by simpa using hz
  rw[this]
  exact⟨h.ib,h.fb,fun w=>by
   rcases List.mem_cons.mp w with q | q
   ·exact h.nn q.symm
   ·exact nb q⟩
 ·unfold jj at hB
  by_cases w:x=y
  ·rw[if_pos w] at hB;cases hB
   exact(h.free (hA z hz)).1
  ·rw[if_neg w] at hB;exact h.fr x B hB z hz
theorem LpG.gone {y:Str}{r:R}{A A':SeD} (h:LpG H0 CSe CN CS CR D pth bgd gs cs gv rc kg kc kr rm knI odI HfI HI x is kn rmN rkn od bg Hf H) (hy:bg y=some A) (b:But A.ft H H') (so:qQ CS CR kr rm y r kn A' H') (hr:rc y=some r) (hg:gv y=none)
 (es:A'.s=A.s) (erk:A'.rk=A.rk) (e1:A'.a1=A.a1) (e2:A'.a2=A.a2) (e3:A'.a3=A.a3) (efl:A'.fl=A.fl\/H A'.fl=none):LpG H0 CSe CN CS CR D pth bgd gs cs gv rc kg kc kr rm knI odI HfI HI x is kn rmN rkn od (jj bg y A') Hf H':=by
 refine h.bgs (S:=A.ft) b (fun z hz=> ?_) (h.bgi.set hy b so hr hg es erk e1 e2 e3 efl h.so.sm fun z hz=>(h.al z hz).some) (fun x B hB z hz=> ?_)
 ·obtain⟨a1,a2,a3⟩:=h.bgi.al y A hy z hz
  exact⟨h.fr y A hy z hz,a2,fun w=>a3 (by
   simp only[List.mem_cons,List.not_mem_nil,or_false] at w ⊢
   rcases w with q | q | q | q
   ·exact .inl q
   ·exact .inr (.inr (.inl q))
   ·exact .inr (.inr (.inr (.inl q)))
   ·exact .inr (.inr (.inr (.inr q))))⟩
 ·unfold jj at hB
  by_cases w:x=y
  ·rw[if_pos w] at hB;cases hB
   have hz:z=A'.s\/z=A'.fl\/z=A'.rk\/z=A'.a1\/z=A'.a2\/z=A'.a3:=by simpa [SeD.ft] using hz
   rcases hz with q | q | q | q | q | q
   ·rw[q,es];exact h.fr y A hy _ (by simp[SeD.ft])
   ·rcases efl with w | w
    ·rw[q,w];exact h.fr y A hy _ (by simp[SeD.ft])
    ·rw[q];exact(h.free w).1
   ·rw[q,erk];exact h.fr y A hy _ (by simp[SeD.ft])
   ·rw[q,e1];exact h.fr y A hy _ (by simp[SeD.ft])
   ·rw[q,e2];exact h.fr y A hy _ (by simp[SeD.ft])
   ·rw[q,e3];exact h.fr y A hy _ (by simp[SeD.ft])
  ·rw[if_neg w] at hB;exact h.fr x B hB z hz
theorem ji.giv {y:Str}{v:Int}{kw:List (Key×V)}{ws:List Str} (h:ji H0 D gv rc rm kn rmN rkn od Hf H) (ek:H D.kd=some (.dK kw)) (kk:mC kw ws) (hk:∀x,dG kw (.inr x)=(kn x).map V.int) (hg:gv y=some v) (ne:D.kd≠D.sd/\D.kd≠D.rd/\D.sd≠D.rd):ji H0 D gv rc rm (kn.put y v) rmN rkn od Hf (upd H D.kd (.dK (putK kw (.inr y) (.int v))))/\Kn.Le kn (kn.put y v):=by
 have hn:kn y=none\/kn y=some v:=by
  cases z:kn y with
  | none=>exact .inl rfl
  | some u=>
    rcases h.ok.a y u z with w | ⟨w,_⟩
    ·rw[hg] at w;cases w;exact .inr rfl
    ·rw[hg] at w;cases w
 obtain⟨sm,fk,fs,fr,_,⟨ks,e2,r2⟩,⟨kk',rs,e3,r3⟩,ok,md,h0⟩:=h
 have hs:aO Hf (upd H D.kd (.dK (putK kw (.inr y) (.int v)))):=fun z o e=>(ao (fun w=>by rw[w,fk] at e;cases e)).trans (sm z o e)
 rcases hn with z | z
 ·have le:=Kn.tY (v:=v) z
  have hyw:y∉ws:=kk.none.mp (by rw[hk,z];rfl)
  exact⟨⟨hs,fk,fs,fr,⟨_,_,ak,kk.v8 hyw _,Ed hk y v⟩,⟨ks,(ao (Ne.symm ne.1)).trans e2,r2⟩,⟨kk',rs,(ao (Ne.symm ne.2.1)).trans e3,r3⟩,ok.afE z hg,fun x r ps u e=>(md x r ps u e).le le,h0⟩,le⟩
 ·have hyw:y∈ws:=Decidable.byContradiction fun w=>by
   have:=kk.none.mpr w
   rw[hk,z] at this;cases this
  have eq:kn.put y v=kn:=by
   funext x
   unfold Kn.put
   by_cases w:x=y
   ·rw[if_pos w,w,z]
   ·rw[if_neg w]
  rw[eq]
  refine⟨⟨hs,fk,fs,fr,⟨_,_,ak,kk.O1 hyw _,fun x=> ?_⟩,⟨ks,(ao (Ne.symm ne.1)).trans e2,r2⟩,⟨kk',rs,(ao (Ne.symm ne.2.1)).trans e3,r3⟩,ok,md,h0⟩,Kn.Le.refl _⟩
  have:=Ed hk y v x
  rw[eq] at this;exact this
end
end RB
set_option maxRecDepth 100000
namespace L2
open PySem PySem.Spec PyProof.Rows RB
section
variable {X:Cx}{A:Around}{E:Value->Shared->Prop}{pins:List (Addr×Obj)}{σ:St}{H:Hp}{s:Shared}{a b:Addr}{kvs more:List (Key×V)}
end
section
variable {X:Cx}{o e:Expr}{td ty:TE}{apos cpos:Pos}
end
end L2
namespace RB
open PySem L2 PySem.Spec PyProof.Rows
end RB
set_option maxRecDepth 100000
namespace L2
open PySem PySem.Spec PyProof.Rows RB
section
variable {X:Cx}{e lo hi st:Expr}{te tl th ts:TE}{pos p2:Pos}
end
end L2
set_option maxRecDepth 100000
namespace L2
open PySem PySem.Spec PyProof.Rows
end L2
set_option maxRecDepth 100000
namespace L2
open PySem PySem.Spec PyProof.Rows RB
theorem Gw {P:Program}{w:World} (d:Addr) (od:Obj) (hl:(d==sysModules)=false) (hc:od.cls= .type "dict"):
 MeetsIn P w (Builtin.«dict.items» ⟨[.ref d],[]⟩)
  (fun A R s=>s.heap.get? d=some od/\R (.ok (.ret (.ref s.heap.objs.size))) ⟨s.heap.push {cls:= .type "dict_items",data:= .fields #[.ref d]},s.gens,s.drawn,s.toks,s.os⟩):=by
 intro A R s z
 obtain⟨hp,g,dr,tk,os⟩:=s
 obtain⟨z1,z⟩:=z
 obtain⟨c,dd,da,sl⟩:=od
 simp only at hc
 subst hc
 wp_walk
 exact z
theorem Inv.more {X:Cx}{pins:List (Addr×Obj)}{σ:St}{H H':Hp}{s:Shared}{h':Heap}{t':Nat} (I:Inv X pins σ H s) (k:∀b u,s.heap.get? b=some u->h'.get? b=some u) (sm:aO H H')
 (new:∀a o,H' a=some o->H a=some o\/(s.heap.objs.size<=a/\dm X.prog X.w H' h' a o)):Inv X pins σ H' {s with heap:=h',toks:=t'}:=by
 refine I.un ⟨fun b u q _ _ _=>k b u q,fun b u q _ _ _=>⟨u.slots,k b u q⟩,fun b u q n _=> ?_,fun b u q _=>⟨u,k b u q⟩,fun b xs q=>sm _ _ q,fun b u xs q=>sm _ _ q,fun b ps q=>⟨#[],by rw[sm _ _ q];simp⟩⟩ fun a o e=> ?_
 ·cases e:H' b with
  | none=>rfl
  | some o=>
    rcases new b o e with z | ⟨z,_⟩
    ·rw[n] at z;cases z
    ·exact absurd (Nat.lt_of_lt_of_le (Heap.lt_size q) z) (Nat.lt_irrefl _)
 ·rcases new a o e with z | ⟨_,z⟩
  ·exact(I.hok a o z).stay (fun c v _ q=>k c v q) (fun c q=>sm _ _ q) fun c xs q=>sm _ _ q
  ·exact z
def mkH:List Addr->List (Key×V)->Hp->Hp
 | a::as,kv::kvs,H=>upd (mkH as kvs H) a (.tup [kV kv.1,kv.2])
 | _,_,H=>H
theorem Ky:∀{as:List Addr}{kvs:List (Key×V)}{H:Hp}{b:Addr},b∉as->mkH as kvs H b=H b
 |[],_,_,_,_=>by cases ‹List (Key×V)›<;>rfl
 | a::as,[],_,_,_=>rfl
 | a::as,kv::kvs,H,b,h=>by
   show upd (mkH as kvs H) a _ b=_
   rw[ao (fun z=>h (by simp[z]))]
   exact Ky fun z=>h (by simp[z])
theorem Pj:∀{as:List Addr}{kvs:List (Key×V)}{H:Hp}{j:Nat}{a:Addr}{kv:Key×V},as.Nodup->as[j]? =some a->kvs[j]? =some kv->mkH as kvs H a=some (.tup [kV kv.1,kv.2])
 |[],_,_,_,_,_,_,h,_=>by simp at h
 | a::as,[],_,_,_,_,_,_,h=>by simp at h
 | a::as,kv::kvs,H,0,b,kv',_,h1,h2=>by
   cases h1;cases h2
   exact ak
 | a::as,kv::kvs,H,j+1,b,kv',nd,h1,h2=>by
   rw[List.nodup_cons] at nd
   have hb:b∈as:=List.mem_of_getElem? (by simpa using h1)
   show upd (mkH as kvs H) a _ b=_
   rw[ao (fun z:b=a=>nd.1 (by rw[<-z];exact hb))]
   exact Pj nd.2 (by simpa using h1) (by simpa using h2)
theorem Kz:∀{as:List Addr}{kvs:List (Key×V)}{H:Hp}{b:Addr}{o:HO},as.Nodup->mkH as kvs H b=some o->(b∉as/\H b=some o)\/(∃(j:Nat) (kv:Key×V),as[j]? =some b/\kvs[j]? =some kv/\o= .tup [kV kv.1,kv.2])\/(H b=some o)
 |[],kvs,H,b,o,_,h=> .inl ⟨by simp,by cases kvs<;>exact h⟩
 | a::as,[],H,b,o,_,h=> .inr (.inr h)
 | a::as,kv::kvs,H,b,o,nd,h=>by
   rw[List.nodup_cons] at nd
   have h:upd (mkH as kvs H) a _ b=some o:=h
   by_cases z:b=a
   ·subst z
    rw[ak] at h;cases h
    exact .inr (.inl ⟨0,kv,rfl,rfl,rfl⟩)
   ·rw[ao z] at h
    rcases Kz nd.2 h with⟨h1,h2⟩ | ⟨j,kv',h1,h2,h3⟩ | h1
    ·exact .inl ⟨by simp[z,h1],h2⟩
    ·exact .inr (.inl ⟨j+1,kv',by simpa using h1,by simpa using h2,h3⟩)
    ·exact .inr (.inr h1)
def acn (to:TE):TE:=fun σ H Q=>to σ H fun x H1=>∃a kvs,x= .ref a/\H1 a=some (.dK kvs)/\∀(l:Addr) (as:List Addr) (H':Hp),aO H1 H'->H1 l=none->H' l=some (.lst (as.map V.ref))->as.length=kvs.length->(∀(j:Nat) (b:Addr) (kv:Key×V),as[j]? =some b->kvs[j]? =some kv->H' b=some (.tup [kV kv.1,kv.2]))->Q (.ref l) H'
theorem Ze {X:Cx}{o:Expr}{to:TE}{p apos cpos pos:Pos} (hc:X.calm=true) (ho:PE X o to) (hg:Gl X "list") (hm:X.mg "list"=none) (hv:bootBuiltins "list"=some (.type "list"))
 (hbase:attributeBase o "items" X.env (eval o X.env)=eval o X.env:=by rfl) (hline:(apos.endLine==cpos.line)=true:=by rfl)
 (he:starEach [.Call (.Attribute o "items" apos) [] [] cpos] X.env=(false,eval (.Call (.Attribute o "items" apos) [] [] cpos) X.env)::starEach [] X.env:=by rfl) (hpl:(backTo pos (starEach [] X.env)).any (·.1)=false:=by rfl):
 PE X (.Call (.Name "list" p) [.Call (.Attribute o "items" apos) [] [] cpos] [] pos) (acn to):=by
 intro pins s σ H Q I h
 refine wpAny_Call_Name_kw (vV I hg hm hv ?_ (by decide) (by decide))
 refine PyProof.Rows.callWith_type1 ?_ he hpl
 rw[he]
 show wpAny _ _ (spliced ((false,eval (.Call (.Attribute o "items" apos) [] [] cpos) X.env)::backTo pos (starEach [] X.env))) _ _ s
 refine Calls.spliced_cons ?_
 refine wpAny_Call_method0_late hbase hline (thn (ho pins s σ H _ I h) fun v s1 ⟨x,H1,I1,r1,a,kvs,ex,ha,q⟩=> ?_)
 subst ex
 obtain rfl:v=Value.ref a:=r1
 obtain⟨t1,t2,hlo⟩:=Yl I1 (.inl ⟨kvs, .inl ha⟩)
 refine⟨"dict","dict.items",PySem.F.plainAttrs_dict,PySem.F.slot_dict_items,PySem.F.type_dict_items,t1,t2,Calls.callWith_builtin rfl (PySem.evalArgs_none ?_)⟩
 obtain⟨hz,_,vs,hkv,hd⟩:=JV I1.hok ha
 obtain⟨ep,hat⟩:=hd.dictAt
 obtain⟨od,hod,hocls⟩:=id t1
 refine call_meetsIn PySem.F.slot_dict_items t1 PySem.F.entry_dict_items (PySem.F.args_dict_items_1 _) (Gw a od hlo hocls) ⟨hod, ?_⟩
 show wpAny (model X.prog X.w) X.A (spliced []) _ X.xe _
 refine Calls.spliced_nil ?_
 have hk1:∀b u,s1.heap.get? b=some u->(s1.heap.push {cls:= .type "dict_items",data:= .fields #[.ref a]}).get? b=some u:=fun b u e=>Heap.get?_push_of_some _ e
 have hsz:(s1.heap.push {cls:= .type "dict_items",data:= .fields #[.ref a]}).objs.size=s1.heap.objs.size+1:=by simp[Heap.push]
 obtain⟨_,_,vs',hkv',hd'⟩:=JV (I1.hok.kept hk1) ha
 obtain⟨ep',hat'⟩:=hd'.dictAt
 obtain⟨hvl,hvk⟩:=Gd hkv'
 have hview:(s1.heap.push {cls:= .type "dict_items",data:= .fields #[.ref a]}).IsItemsView s1.heap.objs.size a:=⟨_,Heap.get?_push_size _ rfl,rfl,rfl⟩
 refine PySem.W.kdx_call (I1.ok.hd hc) hview hat' (by rw[<-hvl];exact hz) fun h' tk acc c as kp e hlen hG hacc=> ?_
 have hal:as.length=kvs.length:=hlen.trans hvl.symm
 have hnd:as.Nodup:=hG.rise.imp fun z=>Nat.ne_of_lt z
 have hlow:∀b∈as,s1.heap.objs.size+1<b:=fun b hb=>by rw[<-hsz];exact hG.above b hb
 have hfresh:∀{b:Addr}{o:HO},H1 b=some o->@LT.lt Nat _ b s1.heap.objs.size:=fun{b o} e=>I1.hok.lt e
 have hl:(s1.heap.push {cls:= .type "dict_items",data:= .fields #[.ref a]}).objs.size∉as:=fun z=>by have:=hlow _ z;rw[hsz] at this;exact absurd this (Nat.lt_irrefl _)
 have sm:aO H1 (upd (mkH as kvs H1) (s1.heap.push {cls:= .type "dict_items",data:= .fields #[.ref a]}).objs.size (.lst (as.map V.ref))):=fun b o eb=>by
  have h1:@LT.lt Nat _ b s1.heap.objs.size:=hfresh eb
  have n1:b∉as:=fun z=>absurd (Nat.lt_trans h1 (Nat.lt_of_succ_lt (hlow b z))) (Nat.lt_irrefl _)
  rw[ao (by rw[hsz];exact Nat.ne_of_lt (Nat.lt_succ_of_lt h1)),Ky n1];exact eb
 have hpairs:∀(j:Nat) (b:Addr) (kv:Key×V),as[j]? =some b->kvs[j]? =some kv->mkH as kvs H1 b=some (.tup [kV kv.1,kv.2]):=fun j b kv h1 h2=>Pj hnd h1 h2
 have hne:∀{b:Addr},b∈as->b≠(s1.heap.push {cls:= .type "dict_items",data:= .fields #[.ref a]}).objs.size:=fun hb z=>hl (z▸hb)
 refine⟨.ref _,_,I1.more (t':=tk) (fun b u eb=>kp b u (hk1 b u eb)) sm (fun b o eb=> ?_),rfl,q _ as _ sm (I1.hok.fresh (by rw[hsz];omega)) ak hal fun j b kv h1 h2=> ?_⟩
 ·by_cases z:b=(s1.heap.push {cls:= .type "dict_items",data:= .fields #[.ref a]}).objs.size
  ·subst z
   rw[ak] at eb;cases eb
   refine .inr ⟨by rw[hsz];omega,by rw[List.length_map,hal];exact hz,acc.toList,c, ?_,by simpa using e⟩
   rw[hacc]
   clear e hacc q sm hpairs hG hlow hnd hal hlen hl hne
   induction as with
   | nil=>exact .nil
   | cons x as ih=>exact .cons rfl ih
  ·rw[ao z] at eb
   rcases Kz hnd eb with⟨_,h2⟩ | ⟨j,kv,h1,h2,h3⟩ | h1
   ·exact .inl h2
   ·subst h3
    have hbm:=List.mem_of_getElem? h1
    have:=hlow b hbm
    obtain⟨key,k,x,e1,e2,e3⟩:=hG.pairs j b h1
    obtain⟨y,ey,ry⟩:=Ir hkv' j k x e1
    rw[h2] at ey
    cases ey
    exact .inr ⟨by omega,by show 2<=sizeLine;decide,[key,x], .cons (Tt e2) (.cons ry .nil),⟨_,e3,rfl,_,rfl⟩⟩
   ·exact .inl h1
 ·rw[ao (hne (List.mem_of_getElem? h1))]
  exact hpairs j b kv h1 h2
theorem Zf {X:Cx}{o:Expr}{to:TE}{p apos cpos pos:Pos} (hc:X.calm=true) (ho:QE X o to) (hg:Gl X "list") (hm:X.mg "list"=none)
 (hbase:attributeBase o "items" X.env (eval o X.env)=eval o X.env:=by rfl) (hline:(apos.endLine==cpos.line)=true:=by rfl)
 (he:starEach [.Call (.Attribute o "items" apos) [] [] cpos] X.env=(false,eval (.Call (.Attribute o "items" apos) [] [] cpos) X.env)::starEach [] X.env:=by rfl) (hpl:(backTo pos (starEach [] X.env)).any (·.1)=false:=by rfl):
 QE X (.Call (.Name "list" p) [.Call (.Attribute o "items" apos) [] [] cpos] [] pos) (acn to):=⟨Ze hc ho.h hg hm xg hbase hline he hpl⟩
end L2
set_option maxRecDepth 100000
namespace L2
open PySem PySem.Spec PyProof.Rows RB
section
variable {X:Cx}{tg:Expr}
end
end L2
namespace RB
open PySem L2 PySem.Spec PyProof.Rows
end RB
set_option maxRecDepth 100000
namespace RB
open PySem L2 PySem.Spec PyProof.Rows
section
variable {n:Nat}{gv:Kn}{rc:Rn}{kn1 kn2:Kn}{rm1 rm2:Rm}{ws:List Str}
end
end RB
set_option maxRecDepth 100000
namespace L2
open PySem PySem.Spec PyProof.Rows RB
theorem Pk {X:Cx}{pins:List (Addr×Obj)}{s:Shared}{σ:St}{H:Hp}{A:Around}{x y:V}{z z':Value}{d:PyData} (I:Inv X pins σ H s) (rz:RelV x z) (rz':RelV y z') (h1:vD X.K H x d) (h2:vD X.K H y d) (sh:SeqAt.shaped d=true) (hu:A.in1.units+64<cLine):SeqAt.EqAt A.in1 s z z' true:=by
 obtain⟨as,r1⟩:=h1.reads I rz
 obtain⟨bs,r2⟩:=h2.reads I rz'
 have:=PySem.W.keq_at r1 r2 sh sh hu
 rw[PySem.SeqAt.eqv_refl d (Im sh)] at this
 exact this
def BZ (K:PySem.W.Frag) (H:Hp) (x y:V):Prop:=afD H x y\/∃d,vD K H x d/\vD K H y d/\SeqAt.shaped d=true
theorem El {X:Cx}{pins:List (Addr×Obj)}{s:Shared}{σ:St}{H:Hp}{A:Around}{x y:V}{z z':Value} (I:Inv X pins σ H s) (rz:RelV x z) (rz':RelV y z') (h:BZ X.K H x y) (hu:A.units+66<cLine):xr X.prog X.w A.in1 s z z':=by
 have k1:A.in1.units=A.units+1:=rfl
 have k2:A.in1.in1.units=A.units+2:=rfl
 rcases h with(h | ⟨a',b',x1,x2,y1,y2,e3,e4,ha',hb',h1,h2⟩) | ⟨d,h1,h2,sh⟩
 ·exact Eh I rz rz' h (by omega)
 ·rw[e3] at rz
  rw[e4] at rz'
  cases rz
  cases rz'
  obtain⟨us,ru,tu,_⟩:=I.tuple (SqT.of ha')
  obtain⟨ws,rw',tw,_⟩:=I.tuple (SqT.of hb')
  obtain⟨u1,u2,rfl,r1,r2⟩:=vals2 ru
  obtain⟨w1,w2,rfl,r3,r4⟩:=vals2 rw'
  exact IK tu tw (Eh I r1 r3 h1 (by omega)) (Eh I r2 r4 h2 (by omega)) (by omega)
 ·exact xr.of (Pk I rz rz' h1 h2 sh (by omega))
end L2
set_option maxRecDepth 100000
namespace L2
open PySem PySem.Spec PyProof.Rows RB
theorem iD.u66 {k:Nat}{A:Around} (r:iD k A):A.units+66<cLine:=by have:=r.un;omega
section
variable {X:Cx}
end
end L2
namespace RB
open PySem L2 PySem.Spec PyProof.Rows
section
variable {H H':Hp}{kp kq:List (Key×V)}{gv:Kn}{rc:Rn}{rm:Rm}{kn:Kn}{ks qs:List Str}
end
end RB
set_option maxRecDepth 100000
namespace RB
open PySem L2 PySem.Spec PyProof.Rows
namespace SJ
end SJ
section
variable {prog:Program}{w:World}{A:Around}{E:Value->Shared->Prop}{s:Shared}
end
end RB
namespace L2
open PySem PySem.Spec PyProof.Rows RB
section
variable {prog:Program}{w:World}{A:Around}{E:Value->Shared->Prop}{s:Shared}{κ:PyProof.Rows.KeyKind}
end
section
variable {X:Cx}{pins:List (Addr×Obj)}{σ:St}{H:Hp}{s:Shared}
end
section
variable {X:Cx}
end
end L2
set_option maxRecDepth 100000
namespace L2
open PySem PySem.Spec PyProof.Rows RB
end L2
namespace RB
open PySem L2 PySem.Spec PyProof.Rows
section
variable {n:Nat}{gv gv':Kn}{rc:Rn}{kn kn':Kn}{rm rm' rm1 rm2:Rm}
end
end RB
set_option maxRecDepth 100000
namespace L2
open PySem PySem.Spec PyProof.Rows RB
end L2
namespace RB
open PySem L2 PySem.Spec PyProof.Rows
end RB
set_option maxRecDepth 100000
namespace RB
open PySem L2 PySem.Spec PyProof.Rows
end RB
set_option maxRecDepth 100000
namespace RB
open PySem L2 PySem.Spec PyProof.Rows
end RB
set_option maxRecDepth 100000
namespace RB
open PySem L2 PySem.Spec PyProof.Rows
section
variable {gv:Kn}{rc:Rn}{kn kn':Kn}{od od' p:List Str}{x y:Str}{r:R}
end
section
variable {Hf:Hp}{h g c rcd st wd ml:Addr}{n:Nat}{gv:Kn}{rc:Rn}{kr:List (Key×V)}{rm:Rm}{kn:Kn}{od:List Str}{H H':Hp}
end
section
variable {kn:Kn}{a b c:R}{op:Op}{y x:Str}{u v:Int}{ns:List Str}
theorem ud (h:kn x=some v):ev kn (.rd x)= .inr v:=by unfold ev look;rw[h]
theorem yS (h:kn x=none):ev kn (.rd x)= .inl x:=by unfold ev look;rw[h]
theorem Wf (h:ev kn a= .inl y):ev kn (.bin op a b)= .inl y:=by simp only[ev,h]
theorem Wg (h:ev kn a= .inr u) (h2:ev kn b= .inl y):ev kn (.bin op a b)= .inl y:=by simp only[ev,h,h2]
theorem Ub (h:ev kn a= .inr u) (h2:ev kn b= .inr v):ev kn (.bin op a b)= .inr (op.ap u v):=by simp only[ev,h,h2]
theorem aco (h:ev kn a= .inl y):ev kn (.pick a b c)= .inl y:=by simp only[ev,h]
theorem Pn (h:ev kn a= .inr u):ev kn (.pick a b c)=if u>0 then ev kn b else ev kn c:=by simp only[ev,h]
theorem acp (h:ev kn a= .inr u) (h2:pY ns u=some x):ev kn (.cho a ns)=ev kn (.rd x):=by simp only[ev,h,h2]
end
end RB
namespace L2
open PySem PySem.Spec PyProof.Rows RB
end L2
set_option maxRecDepth 100000
namespace RB
open PySem L2 PySem.Spec PyProof.Rows
theorem Uc {ns:List Str} (nd:ns.Nodup) {j m:Nat}{y:Str} (h:ns[j]? =some y) (hm:m<=j):y∉ns.take m:=fun z=>by
 obtain⟨i,hi⟩:=List.getElem?_of_mem z
 rw[List.getElem?_take] at hi
 split at hi
 ·have:=(List.getElem?_inj (List.getElem?_eq_some_iff.mp hi).1 nd).mp (hi.trans h.symm)
  omega
 ·cases hi
theorem KC {gv:Kn}{rc:Rn}{I:Ms->Prop} (hs:∀s t,I s->mv gv rc s=some t->I t):∀{k:Nat}{s t:Ms},I s->itM gv rc k s=some t->I t
 | 0,s,t,h,e=>by cases e;exact h
 | k+1,s,t,h,e=>by
   unfold itM at e
   cases z:mv gv rc s with
   | none=>rw[z] at e;cases e
   | some u=>rw[z] at e;exact KC hs (hs s u h z) e
theorem Mvs.inv {gv:Kn}{rc:Rn}{I:Ms->Prop} (hs:∀s t,I s->mv gv rc s=some t->I t) {s t:Ms} (m:Mvs gv rc s t) (h:I s):I t:=let ⟨_,e⟩:=m;KC hs h e
end RB
set_option maxRecDepth 100000
namespace RB
open PySem L2 PySem.Spec PyProof.Rows
section
variable {H0 Hf Hf':Hp}{h g c st:Addr}{A:S1}{gs cs:List Str}{gv:Kn}{rc:Rn}{ops:List Str}{ls:List Addr}{kn:Kn}{rm:Rm}{od:List Str}{H H':Hp}
end
section
variable {H0 Hf:Hp}{h g c st:Addr}{A:S1}{gs cs:List Str}{gv:Kn}{rc:Rn}{ops:List Str}{ls:List Addr}{kn:Kn}{rm:Rm}{od:List Str}{H:Hp}
end
end RB
set_option maxRecDepth 100000
namespace RB
open PySem L2 PySem.Spec PyProof.Rows
section
variable {gv gv':Kn}{rc:Rn}{kn kn':Kn}{rm rm' rm1 rm2:Rm}
end
end RB
set_option maxRecDepth 100000
namespace L2
open PySem PySem.Spec PyProof.Rows RB PySem.W
section
variable {prog:Program}{w:World}{A:Around}{E:Value->Shared->Prop}{s:Shared}
end
end L2
set_option maxRecDepth 100000
namespace L2
open PySem PySem.Spec PyProof.Rows RB
end L2
namespace RB
open PySem L2 PySem.Spec PyProof.Rows
end RB
set_option maxRecDepth 100000
namespace L2
open PySem PySem.Spec PyProof.Rows RB
theorem Ax {y:Str}:∀{vs:List Value}{ns:List Str},StrsAre vs ns->∀{j:Nat}{v:Value},vs[j]? =some v->isStrOf y v=decide (ns[j]? =some y)
 | _,_, .nil,j,v,h=>by simp at h
 | _,_, .cons z t r,0,v,h=>by
   cases h
   show(z==y)=decide (some z=some y)
   by_cases h:z=y<;>simp[h]
 | _,_, .cons z t r,j+1,v,h=>by
   have:=Ax (y:=y) r (j:=j) (v:=v) (by simpa using h)
   simpa using this
def Pq (K:PySem.W.Frag):V->List V->Hp->VK->Prop:=fun x vs H Q=>∃(l:Addr) (ns:List Str) (y:Str) (j:Nat),x= .ref l/\vs=[.str y]/\SqL K H l (ns.map V.str)/\ns[j]? =some y/\(∀i,i<j->ns[i]? ≠some y)/\Q (.int (j:Int)) H
theorem Pr {X:Cx}:MtR X "list.index" (Pq X.K):=by
 intro pins s σ H x vs v us Q I rx rv h
 obtain⟨l,ns,y,j,rfl,rfl,hS,hj,hno,q⟩:=h
 cases rx
 obtain⟨u,rfl,ru⟩:=rv.one
 obtain⟨t,rfl⟩:∃t,u= .str y t:=ru
 obtain⟨its,r,pl,hz⟩:=I.list hS
 have hA:=Iv r
 have hl:=r.length
 rw[List.length_map] at hl hz
 obtain⟨⟨cls,dd,data,sl⟩,ho,hc,n,hd⟩:=pl.isList
 simp only at hc hd
 subst hc hd
 have hjl:j<ns.length:=(List.getElem?_eq_some_iff.mp hj).1
 have hn:=zO
 have hat:∀(i:Nat) (hi:i<its.toArray.size),isStrOf y its.toArray[i]=decide (ns[i]? =some y):=fun i hi=>by
  have hi':i<its.length:=by simpa using hi
  refine Ax hA ?_
  rw[List.getElem?_eq_getElem hi']
  simp
 refine call_meets PySem.F.slot_list_index ⟨_,ho,rfl⟩ PySem.F.entry_list_index (PySem.F.args_list_index_2 _ _) (SeqAt.list_indexAt l its.toArray n dd sl (.str y t) (isStrOf y) j (by simp;omega) (by
  have:its.length<=sizeLine:=by omega
  omega) ?_ ?_) ⟨ho,fun z hz=>(eq_isStrOf y t hA z (by simpa using hz)).at _ _, ?_⟩
 ·rw[hat];exact decide_eq_true hj
 ·intro i hi hlt
  rw[hat];exact decide_eq_false (hno i hlt)
 ·exact⟨.int (j:Int),H,I.tok _,⟨_,rfl⟩,q⟩
theorem Mp {X:Cx}:QMt X "list.index" (Pq X.K):=⟨Pr⟩
end L2
set_option maxRecDepth 100000
namespace L2
open PySem PySem.Spec PyProof.Rows
def Hd (c:Value) (d:Option Addr) (o:Obj):Prop:=o.cls=c/\o.dict=d
theorem Hd.map {c:Value}{d:Option Addr}{o:Obj} (h:Hd c d o) (f:Array Value->Array Value):Hd c d (o.mapFields f):=by
 obtain⟨oc,od,dt,sl⟩:=o
 obtain⟨h1,h2⟩:=h
 cases dt<;>exact⟨h1,h2⟩
def TrD (h base:Heap) (e:Addr) (c:Value) (d:Option Addr) (fl:Value):Prop:=∃oe vs T oT ts,h.get? e=some oe/\Hd c d oe/\oe.data= .fields vs/\vs[1]? =some (Value.ref T)/\base.get? T=none/\T≠e/\h.get? T=some oT/\oT.data= .fields ts/\ts[3]? =some fl
structure vG (base:Heap) (l:List Env) (e:Addr) (c:Value) (d:Option Addr) (fl:Value) (h:Heap):Prop where
 stays:base.StaysIn h
 new:base.get? e=none
 frames:h.FunFrames base l
 tr:TrD h base e c d fl
theorem vG.there {base h:Heap}{l:List Env}{e:Addr}{c fl:Value}{d:Option Addr} (x:vG base l e c d fl h):∃o vs,h.get? e=some o/\Hd c d o/\o.data= .fields vs:=by
 obtain⟨oe,vs,_,_,_,h1,h2,h3,_⟩:=x.tr
 exact⟨oe,vs,h1,h2,h3⟩
theorem vG.out {base h:Heap}{env:Env}{l:List Env}{e:Addr}{c fl:Value}{d:Option Addr} (x:vG base (env::l) e c d fl h):vG base l e c d fl h:=⟨x.stays,x.new,x.frames.2.2,x.tr⟩
section
variable {M:Model}{A:Around}{E:Value->Shared->Prop}{s:Shared}{base:Heap}{env:Env}{outer:List Env}{L e:Addr}{Q:Unit->Shared->Prop}{c:Value}{d:Option Addr}
theorem Wh {oe:Obj}{vs:Array Value}{head:Value}{more:Bool} (fr:A.frames=some (env::outer)) (ff:s.heap.FunFrames base (env::outer)) (fl:env.frame=some L) (he:s.heap.get? e=some oe) (st:base.StaysIn s.heap) (en:base.get? e=none)
 (hd:oe.data= .fields vs) (sz:1<vs.size) (hh:Hd c d oe) (k:∀h',vG base (env::outer) e c d (rawInt L) h'->s.heap.UpToSlots h'->Q () {s with heap:=h'}):
 wpAny M A (do let a <-frameOf env;let pl <-entryPlaceOf L more;let b <-EntryCells.newEntry head a .none (rawInt L) .none pl;setField (.ref e) 1 b) Q E s:=by
 have nf:e∉(env::outer).filterMap (·.frame):=fun hm=>by
  obtain⟨_,o,q,nq⟩:=ff.mem hm
  rw[he] at q
  cases q
  exact nq vs hd
 refine wpAny_bind (wpAny_frameOf_fun fr ff fl fun h1 so=> ?_)
 refine wpAny_bind (wpAny_entryPlaceOf fun pl hpl=> ?_)
 unfold EntryCells.newEntry newFields
 refine wpAny_bind (wpAny_newObj_type ?_ (hpl.sizeOk5 _ _ _ _ _))
 have e1:h1.get? e=some oe:=by rw[so.2.1 e nf];exact he
 have st1:base.StaysIn h1:=fun b o q=>by
  rw[so.2.1 b fun hm=>by rw[(ff.mem hm).1] at q;cases q]
  exact st b o q
 generalize hnew:({cls:= .type "traceback",dict:=none,data:= .fields ([head, .ref L, .none,rawInt L, .none]++(if pl.isEmpty then List.replicate 6 Value.none else pl)).toArray}:Obj)=nt
 have hnd:∃ts,nt.data= .fields ts/\ts[3]? =some (rawInt L):=by
  subst hnew
  exact⟨_,rfl,by first | (simp;done) | (rcases hpl with rfl | ⟨_,_,_,_,_,_,_,rfl⟩<;>simp)⟩
 have nfree:nt.isFreed=false:=by subst hnew;rfl
 have e2:=Heap.get?_push_of_some (h:=h1) nt e1
 refine wpAny_setField e2 hd sz ?_
 have nT:h1.objs.size≠e:=Nat.ne_of_gt (Heap.lt_size e1)
 have d3:=Obj.data_mapFields hd (·.setIfInBounds 1 (Value.ref h1.objs.size))
 have keep:∀b o,b≠e->h1.get? b=some o->((h1.push nt).update e (Obj.mapFields (·.setIfInBounds 1 (Value.ref h1.objs.size)))).get? b=some o:=fun b o nb q=>by
  rw[Heap.get?_update_other _ _ (Ne.symm nb)];exact Heap.get?_push_of_some nt q
 have nrec:∀b o,s.heap.get? b=some o->(∀ws,o.data≠ .fields ws)->b≠e:=fun b o q nq z=>by
  rw[z,he] at q;cases q;exact nq vs hd
 obtain⟨ts,t1,t2⟩:=hnd
 refine k _ ⟨fun b o q=>keep b o (fun z=>by rw[z,en] at q;cases q) (st1 b o q),en,ff.of_keeps fun b o q nq=> ?_,_,_,h1.objs.size,nt,ts,Heap.get?_update_self _ e2 (Obj.isFreed_of_fields d3),hh.map _,d3,by simp[sz],st1.fresh,nT, ?_,t1,t2⟩ fun b o q nq=> ?_
 ·obtain⟨sl,z⟩:=so.2.2 b o q
  exact⟨_,keep b _ (nrec b o q nq) z,rfl⟩
 ·rw[Heap.get?_update_other _ _ (Ne.symm nT)]
  exact Heap.get?_push_size h1 nfree
 ·obtain⟨sl,z⟩:=so.2.2 b o q
  exact⟨sl,keep b _ (nrec b o q nq) z⟩
theorem Mq {oe:Obj}{vs:Array Value} (fr:A.frames=some (env::outer)) (ff:s.heap.FunFrames base (env::outer)) (fl:env.frame=some L) (he:s.heap.get? e=some oe) (st:base.StaysIn s.heap) (en:base.get? e=none)
 (hd:oe.data= .fields vs) (h1:vs[1]? =some .none) (hh:Hd c d oe) (k:∀h',vG base (env::outer) e c d (rawInt L) h'->s.heap.UpToSlots h'->Q () {s with heap:=h'}):wpAny M A (noteFrame (.ref e) env) Q E s:=by
 unfold noteFrame
 simp only[fl]
 refine wpAny_bind (wpAny_field he hd h1 ?_)
 rw[if_neg (by decide)]
 exact Wh fr ff fl he st en hd (Array.getElem?_eq_some_iff.mp h1).1 hh k
theorem Gx (fr:A.frames=some (env::outer)) (fl:env.frame=some L) (x:vG base (env::outer) e c d .none s.heap) (k:∀h',vG base (env::outer) e c d (rawInt L) h'->s.heap.UpToSlots h'->Q () {s with heap:=h'}):wpAny M A (noteFrame (.ref e) env) Q E s:=by
 obtain⟨oe,vs,T,oT,ts,he,hh,hd,h1,bT,nT,hT,dT,h3⟩:=x.tr
 unfold noteFrame
 simp only[fl]
 refine wpAny_bind (wpAny_field he hd h1 ?_)
 rw[if_pos (show(Value.ref T !=Value.none)=true from by simp)]
 refine wpAny_bind (wpAny_field hT dT h3 ?_)
 rw[if_neg (show¬((Value.none==rawInt L)=true) from by simp[rawInt])]
 refine wpAny_bind (wpAny_setField hT dT (Array.getElem?_eq_some_iff.mp h3).1 ?_)
 have oth:∀b,b≠T->(s.heap.update T (Obj.mapFields (·.setIfInBounds 3 Value.none))).get? b=s.heap.get? b:=fun b nb=>Heap.get?_update_other _ _ (Ne.symm nb)
 have nrec:∀b o,s.heap.get? b=some o->(∀ws,o.data≠ .fields ws)->b≠T:=fun b o q nq z=>by
  rw[z,hT] at q;cases q;exact nq ts dT
 refine Wh fr (x.frames.of_keeps fun b o q nq=>⟨o,by rw[oth b (nrec b o q nq)];exact q,rfl⟩) fl (by rw[oth e (Ne.symm nT)];exact he) (fun b o q=>by
  rw[oth b fun z=>by rw[z,bT] at q;cases q]
  exact x.stays b o q) x.new hd (Array.getElem?_eq_some_iff.mp h1).1 hh fun h' f u=>k h' f fun b o q nq=>u b o (by rw[oth b (nrec b o q nq)];exact q) nq
theorem KD {fl:Value}{l:List Env} (x:vG base l e c d fl s.heap) (k:∀h',vG base l e c d .none h'->s.heap.UpToSlots h'->Q () {s with heap:=h'}):wpAny M A (setFlight (.ref e) none) Q E s:=by
 obtain⟨oe,vs,T,oT,ts,he,hh,hd,h1,bT,nT,hT,dT,h3⟩:=x.tr
 have sz:3<ts.size:=(Array.getElem?_eq_some_iff.mp h3).1
 have oth:∀b,b≠T->(s.heap.update T (Obj.mapFields (·.setIfInBounds 3 ((none:Option Addr).elim Value.none fun f=>rawInt f)))).get? b=s.heap.get? b:=fun b nb=>Heap.get?_update_other _ _ (Ne.symm nb)
 have nrec:∀b o,s.heap.get? b=some o->(∀ws,o.data≠ .fields ws)->b≠T:=fun b o q nq z=>by
  rw[z,hT] at q;cases q;exact nq ts dT
 unfold setFlight
 refine wpAny_bind (wpAny_field he hd h1 ?_)
 rw[if_pos (show(Value.ref T !=Value.none)=true from by simp)]
 refine wpAny_setField hT dT sz (k _ ⟨fun b o q=> ?_,x.new,x.frames.of_keeps fun b o q nq=>⟨o,by rw[oth b (nrec b o q nq)];exact q,rfl⟩,oe,vs,T,_,_,by rw[oth e (Ne.symm nT)];exact he,hh,hd,h1,bT,nT,Heap.get?_update_self _ hT (Obj.isFreed_of_fields (Obj.data_mapFields dT _)),Obj.data_mapFields dT _,by simp[sz]⟩ fun b o q nq=>⟨o.slots, ?_⟩)
 ·rw[oth b fun z=>by rw[z,bT] at q;cases q]
  exact x.stays b o q
 ·rw[oth b (nrec b o q nq)];exact q
theorem Jb {oe:Obj}{vs:Array Value} (fr:A.frames=some (env::outer)) (ff:s.heap.FunFrames base (env::outer)) (fl:env.frame=some L) (he:s.heap.get? e=some oe) (st:base.StaysIn s.heap) (en:base.get? e=none)
 (hd:oe.data= .fields vs) (h1:vs[1]? =some .none) (hh:Hd c d oe) (k:∀h',vG base outer e c d .none h'->s.heap.UpToSlots h'->Q () {s with heap:=h'}):wpAny M A (leaving env (.ref e)) Q E s:=by
 unfold leaving
 refine wpAny_bind (Mq fr ff fl he st en hd h1 hh fun h' f u=> ?_)
 exact KD (s:={s with heap:=h'}) f fun h2 f2 u2=>k h2 f2.out (u.trans u2)
theorem Mr (fr:A.frames=some (env::outer)) (fl:env.frame=some L) (x:vG base (env::outer) e c d .none s.heap) (k:∀h',vG base outer e c d .none h'->s.heap.UpToSlots h'->Q () {s with heap:=h'}):wpAny M A (leaving env (.ref e)) Q E s:=by
 unfold leaving
 refine wpAny_bind (Gx fr fl x fun h' f u=> ?_)
 exact KD (s:={s with heap:=h'}) f fun h2 f2 u2=>k h2 f2.out (u.trans u2)
end
end L2
set_option maxRecDepth 100000
namespace L2
open PySem PySem.Spec PyProof.Rows
section
variable {prog:Program}{w:World}{A:Around}{E:Value->Shared->Prop}{h:Heap}{g:Array GenState}{d:Drawn}{t:Nat}{os:OsState}
variable {nm q:Str}{C N:Addr}{bs bm bmB:List Value}{hdct:Bool}{sn:List Str}{sub:List Value}{ab:Bool}{col:Option Bool}{dd:Option Addr}{k0 k1 k2 k3 k5:Option Value}{B newId initId:String}
theorem zg (F:ExcBaseFacts B newId initId bmB) (T:OwnTail h bmB bm) {mN:Str->Option Value}{rest:List Value}{fI:Addr}{oI:Obj}{Q:Fin->Shared->Prop}
 (hC:h.get? C=some (excClassObj nm q C N bs bm hdct sn sub ab col dd k0 k1 k2 k3 k5 newId)) (hn:h.Ns N mN) (hi:mN "__init__"=some (.ref fI)) (hfI:h.get? fI=some oI) (hfc:oI.cls= .type "function")
 (hq:∀h' e,Heap.MadeExcOf h h' e (.ref C) rest->wpAny (model prog w) A (call (.ref fI) (.ref e::rest)) (fun r s'=>r= .none/\Q (.done (.ret (.ref e))) s') E ⟨h',g,d,t,os⟩) (hrest:rest.length<=sizeLine):
 wpAny (model prog w) A (Builtin.«type.__call__» ⟨.ref C::rest,[]⟩) Q E ⟨h,g,d,t,os⟩:=by
 repeat (first | with_reducible refine wpAny_loadPart_at hC ?_ | with_reducible refine wpAny_madeBy_exc hC ?_ | wp_step)
 refine codeAny_call_builtin_code (Code.quiet_builtin _ F.quiet) (wpAny_check_new_subT F T hC ?_)
 refine codeAny_exc_new_subT F T hC ?_ hrest
 show wpAny _ _ _ _ _ _
 have hC₁:=Heap.get?_push_of_some {cls:= .ref C,data:= .fields #[.ref h.objs.size, .none, .none, .none, .bool false, .none]}
  (Heap.get?_push_of_some {cls:= .type "tuple",data:= .seq rest.toArray} hC)
 have hfI₁:=Heap.get?_push_of_some {cls:= .ref C,data:= .fields #[.ref h.objs.size, .none, .none, .none, .bool false, .none]}
  (Heap.get?_push_of_some {cls:= .type "tuple",data:= .seq rest.toArray} hfI)
 have hn₁:((h.push {cls:= .type "tuple",data:= .seq rest.toArray}).push {cls:= .ref C,data:= .fields #[.ref h.objs.size, .none, .none, .none, .bool false, .none]}).Ns N mN:=
  let ⟨o,es,ep,e,r⟩:=hn;⟨o,es,ep,Heap.get?_push_of_some _ (Heap.get?_push_of_some _ e),r⟩
 have hget:((h.push {cls:= .type "tuple",data:= .seq rest.toArray}).push
  {cls:= .ref C,data:= .fields #[.ref h.objs.size, .none, .none, .none, .bool false, .none]}).get? (h.objs.size+1)=some
  {cls:= .ref C,data:= .fields #[.ref h.objs.size, .none, .none, .none, .bool false, .none]}:=by heap_get
 have hcC:(Value.ref C::bm).contains (.ref C)=true:=by simp
 have T₁:=T.keeps (h':=(h.push {cls:= .type "tuple",data:= .seq rest.toArray}).push {cls:= .ref C,data:= .fields #[.ref h.objs.size, .none, .none, .none, .bool false, .none]})
  fun b o e=>Heap.get?_push_of_some _ (Heap.get?_push_of_some _ e)
 unfold isInstance
 repeat (first | with_reducible refine wpAny_loadPart_at hget ?_ | (with_reducible refine wpAny_isSubtype_exc hC₁ ?_;rw[hcC]) | wp_step)
 show wpAny _ _ (typeLookup (.ref C) _) _ _ _
 refine wpAny_typeLookup_tail hC₁ hn₁ T₁ F.mroIs F.init.lookup ?_
 rw[hi]
 refine wpAny_holding (wpAny_bind ?_)
 unfold bindSpecial
 refine wpAny_bind (wpAny_typeOf (T:="function") ⟨_,hfI₁,hfc⟩ ?_)
 rw[if_pos (by decide)]
 refine wpAny_pure (wpAny_bind (wpAny_mono (hq _ (h.objs.size+1) ⟨fun b o hb=>Heap.get?_push_of_some _ (Heap.get?_push_of_some _ hb),Heap.get?_none_of_le (Nat.le_succ _),h.objs.size,hget,Heap.get?_none_of_le (Nat.le_refl _), ?_⟩) (fun r s' hr=> ?_) fun _ _ x=>x))
 ·exact Heap.get?_push_of_some _ (Heap.get?_push_at rfl rfl)
 ·obtain⟨rfl,hQ⟩:=hr
  wp_walk
  exact hQ
theorem Ay (F:ExcBaseFacts B newId initId bmB) (T:OwnTail h bmB bm) {mN:Str->Option Value}{rest:List Value}{fI:Addr}{oI:Obj}{Q:Value->Shared->Prop}
 (hC:h.get? C=some (excClassObj nm q C N bs bm hdct sn sub ab col dd k0 k1 k2 k3 k5 newId)) (hn:h.Ns N mN) (hi:mN "__init__"=some (.ref fI)) (hfI:h.get? fI=some oI) (hfc:oI.cls= .type "function")
 (hq:∀h' e,Heap.MadeExcOf h h' e (.ref C) rest->wpAny (model prog w) (A.under (.builtin "type.__call__" ⟨.ref C::rest,[]⟩)) (call (.ref fI) (.ref e::rest)) (fun r s'=>r= .none/\Q (.ref e) s') E ⟨h',g,d,t,os⟩) (hrest:rest.length<=sizeLine):
 wpAny (model prog w) A (call (.ref C) rest) Q E ⟨h,g,d,t,os⟩:=by
 have f1:=tc_lookup
 have f2:=tc_bind (.ref C)
 have hT:(⟨h,g,d,t,os⟩:Shared).TypeIs (.ref C) "type":=⟨_,hC,rfl⟩
 refine wpAny_call (codeAny_of_tree ?_)
 show wpAny _ _ (callAny (.ref C) _) _ _ _
 repeat (any_goals (first | assumption | with_reducible refine wpAny_loadPart_at hC ?_ | wp_step))
 refine⟨rfl, ?_⟩
 refine codeAny_call_builtin_at (Code.quiet_builtin _ (by decide +kernel)) entry_typeCall (wpAny_check_type_call_sub hC (zg (hrest:=hrest) F T hC hn hi hfI hfc fun h' e hm=> ?_))
 exact hq h' e hm
theorem wg {M:Model}{s:Shared}{env:Env}{x:Sem Value}{Q:Flow->Shared->Prop} (hbase:bm.contains (.type "BaseException")=true) (hh:A.handled=none)
 (hx:wpAny M A x (fun v s₁=>∃e od t sl,v= .ref e/\s₁.heap.get? C=some (excClassObj nm q C N bs bm hdct sn sub ab col dd k0 k1 k2 k3 k5 newId)/\
   s₁.heap.get? e=some {cls:= .ref C,dict:=od,data:= .fields #[.ref t, .none, .none, .none, .bool false, .none],slots:=sl}/\E (.ref e) s₁) E s):
 wpAny M A (raiseStmt env (some x) none) Q E s:=by
 have hcB:(Value.ref C::bm).contains (.type "BaseException")=true:=by rw[List.contains_cons,hbase,Bool.or_true]
 unfold raiseStmt
 refine wpAny_bind (wpAny_mono hx (fun v s₁ h₁=> ?_) fun _ _ x=>x)
 obtain⟨e,od,t,sl,rfl,hC,he,hE⟩:=h₁
 obtain⟨hp,g,d,tk,os⟩:=s₁
 repeat (first | with_reducible refine wpAny_loadPart_at he ?_ | with_reducible refine wpAny_loadPart_at hC ?_ | (with_reducible refine wpAny_isSubtype_exc hC ?_;rw[hcB]) | wp_step)
 exact wpAny_raiseNew_none hh hE
end
end L2
set_option maxRecDepth 100000
namespace L2
open PySem PySem.Spec PyProof.Rows PySem.W
def lF (C:Addr) (od:Option Addr) (t:Addr) (sl:Array (Option Value)):Obj:={cls:= .ref C,dict:=od,data:= .fields #[.ref t, .none, .none, .none, .bool false, .none],slots:=sl}
section
variable {prog:Program}{w:World}{A:Around}{E:Value->Shared->Prop}{h:Heap}{g:Array GenState}{d:Drawn}{t:Nat}{os:OsState}{K:PySem.W.Frag}
variable {nm q:Str}{C N x:Addr}{bs bm:List Value}{hdct:Bool}{sn:List Str}{sub:List Value}{ab:Bool}{col:Option Bool}{dd:Option Addr}{k0 k1 k2 k3 k5:Option Value}
theorem Mt {e t0:Addr}{od:Option Addr}{sl:Array (Option Value)}{v:Value}{Q:Value->Shared->Prop} (T:OwnTail h [.type "ValueError", .type "Exception", .type "BaseException", .type "object"] bm)
 (hC:h.get? C=some (excClassObj nm q C N bs bm hdct sn sub ab col dd k0 k1 k2 k3 k5 "ValueError.__new__")) (he:h.get? e=some (lF C od t0 sl))
 (hq:∀h' t1,(∀b o,b≠e->h.get? b=some o->h'.get? b=some o)->h'.get? e=some (lF C od t1 sl)->Q .none ⟨h',g,d,t,os⟩):
 wpAny (model prog w) A (call (.builtin "ValueError.__init__") [.ref e,v]) Q E ⟨h,g,d,t,os⟩:=by
 have F:=PySem.F.excBase_ValueError
 refine wpAny_call (codeAny_call_builtin F.init.plain F.initEntry (wpAny_check_init_subT F T hC he rfl ?_))
 unfold lF at he
 wp_walk
 refine hq _ h.objs.size (fun b o nb hb=> ?_) ?_
 ·rw[Heap.get?_update_other _ _ (Ne.symm nb)]
  exact Heap.get?_push_of_some _ hb
 ·rw[Heap.get?_update_self _ (Heap.get?_push_of_some _ he) rfl]
  rfl
theorem Gy {self:Value}{what:Str}{bmB:List Value} (T:OwnTail h bmB bm) (hp:refuseLoop self what bmB=pure ()):refuseLoop self what bm=pure ():=by
 induction T with
 | base=>exact hp
 | own _ _ _ _ ih=>rw[refuseLoop_ref];exact ih
theorem Mv {M:Model}{o:Obj}{nameV v:Value}{Q:Unit->Shared->Prop} (T:OwnTail h [.type "ValueError", .type "Exception", .type "BaseException", .type "object"] bm)
 (hC:h.get? C=some (excClassObj nm q C N bs bm true sn sub ab col dd k0 k1 k2 k3 k5 "ValueError.__new__")) (hx:h.get? x=some o) (hc:o.cls= .ref C) (hq:Q () ⟨h,g,d,t,os⟩):
 wpAny M A (checkBuiltinCall "object.__setattr__" ⟨[.ref x,nameV,v],[]⟩) Q E ⟨h,g,d,t,os⟩:=by
 have SF:=PySem.F.store_ValueError
 have hcB:(Value.ref C::bm).contains (.type "object")=true:=by rw[List.contains_cons,T.hasType SF.hasOwner,Bool.or_true]
 have ha:=SF.args (.ref x) nameV v
 simp only[checkBuiltinCall,SF.kind,SF.split]
 refine wpAny_bind ?_
 ·unfold isInstance
  repeat (first | (with_reducible refine wpAny_loadPart_at hx ?_;rw[hc]) | (with_reducible refine wpAny_isSubtype_exc hC ?_;rw[hcB]) | wp_step)
  exact hq
theorem Em {e t0:Addr}{tk:Tok}{sl:Array (Option Value)}{name:Str}{v:Value}{Q:Fin->Shared->Prop} (X:K.In h) (T:OwnTail h [.type "ValueError", .type "Exception", .type "BaseException", .type "object"] bm)
 (hC:h.get? C=some (excClassObj nm q C N bs bm true sn sub ab col dd k0 k1 k2 k3 k5 "ValueError.__new__")) (na:findIn K (.ref C) name=some none) (hx:h.get? e=some (lF C none t0 sl))
 (hq:∀h' dx tk,h.get? dx=none->dx≠e->(∀b o,b≠e->h.get? b=some o->h'.get? b=some o)->h'.get? e=some (lF C (some dx) t0 sl)->h'.Ns1 dx (fun y=>if y=name then some v else none)->Q (.done (.ret .none)) ⟨h',g,d,tk,os⟩):
 wpAny (model prog w) A (Builtin.«object.__setattr__» ⟨[.ref e, .str name tk,v],[]⟩) Q E ⟨h,g,d,t,os⟩:=by
 have hpass:refuseLoop (.ref e) "__setattr__" bm=pure ():=Gy T (PySem.F.store_ValueError.passes _)
 have LN:=looks_findIn (M:=model prog w) X na
 obtain⟨o,ho⟩:∃o,o=lF C none t0 sl:=⟨_,rfl⟩
 rw[<-ho] at hx
 have hc:o.cls= .ref C:=by rw[ho];rfl
 have hdn:o.dict=none:=by rw[ho];rfl
 have hnc:∀c,o.data≠ .cls c:=fun c z=>by rw[ho] at z;cases z
 unfold Builtin.«object.__setattr__»
 repeat (first | rw[refuse_eq] | (rw[refuseLoop_ref,hpass]) | (with_reducible refine wpAny_loadPart_at hx ?_;rw[hc]) | with_reducible refine wpAny_mroOf_exc hC ?_ | with_reducible refine LN.at ?_ | wp_step)
 rw[hdn,if_neg (by simp[typeHasDict])]
 split
 ·rename_i hcd
  cases hcd
 split
 ·rename_i c hcd
  exact absurd hcd (hnc c)
 have hx₁:(h.push {cls:= .type "dict",data:= .dict #[]}).get? e=some o:=Heap.get?_push_of_some _ hx
 have hxs:e≠h.objs.size:=Nat.ne_of_lt (Heap.lt_size hx)
 refine wpAny_bind (wpAny_alloc' ?_)
 refine wpAny_bind (wpAny_update' hx₁ ?_)
 refine wpAny_pure ?_
 have hgd:((h.push {cls:= .type "dict",data:= .dict #[]}).update e fun o=>{cls:=o.cls,dict:=some h.objs.size,data:=o.data,slots:=o.slots}).get? h.objs.size
  =some {cls:= .type "dict",data:= .dict #[]}:=
  (Heap.get?_update_ne _ _ _ _ hxs.symm).trans (Heap.get?_push_at rfl rfl)
 have hnd:((h.push {cls:= .type "dict",data:= .dict #[]}).update e fun o=>{cls:=o.cls,dict:=some h.objs.size,data:=o.data,slots:=o.slots}).Ns h.objs.size (fun _=>none):=
  ⟨_, #[],_,hgd,rfl,fun e he=>absurd he (by simp),fun _=>rfl⟩
 show wpAny _ _ (Builtin.ObjectAttr.storeInDict h.objs.size (.str name tk) name v) _ _ _
 unfold Builtin.ObjectAttr.storeInDict Builtin.ObjectAttr.newKeyGuard
 refine wpAny_bind (wpAny_pure (wpAny_bind (wpAny_nsSet1 (Heap.Ns1.of_empty hnd) fun h' hn' hs=> ?_)))
 obtain⟨oD,esD,epD,hoD,hdD,hcD⟩:=hn'.count (Within.cons name v Within.nil)
 refine wpAny_bind (wpAny_lookBehind hoD (by rw[hdD];exact pastItsLine_dict (Nat.le_trans hcD (by rw[List.length_cons,List.length_nil,sizeLine_eq];omega))) ?_)
 wp_walk
 refine hq h' h.objs.size _ (Heap.get?_none_of_le (Nat.le_refl _)) hxs.symm (fun b ob nb hb=> ?_) ?_ hn'
 ·exact(hs.2 b (Nat.ne_of_lt (Heap.lt_size hb))).trans ((Heap.get?_update_ne _ _ _ _ nb).trans (Heap.get?_push_of_some _ hb))
 ·have:=(hs.2 e hxs).trans (Heap.get?_update_self (fun o=>{cls:=o.cls,dict:=some h.objs.size,data:=o.data,slots:=o.slots}) hx₁ (by rw[ho];rfl))
  rw[this,ho];rfl
theorem Pu {e t0:Addr}{sl:Array (Option Value)}{name:Str}{v:Value}{Q:Unit->Shared->Prop} (X:K.In h) (T:OwnTail h [.type "ValueError", .type "Exception", .type "BaseException", .type "object"] bm)
 (hC:h.get? C=some (excClassObj nm q C N bs bm true sn sub ab col dd k0 k1 k2 k3 k5 "ValueError.__new__")) (sa:findIn K (.ref C) "__setattr__"=some (some (.builtin "object.__setattr__"))) (na:findIn K (.ref C) name=some none)
 (he:h.get? e=some (lF C none t0 sl))
 (hq:∀h' dx tk,h.get? dx=none->dx≠e->(∀b o,b≠e->h.get? b=some o->h'.get? b=some o)->h'.get? e=some (lF C (some dx) t0 sl)->h'.Ns1 dx (fun y=>if y=name then some v else none)->Q () ⟨h',g,d,tk,os⟩):
 wpAny (model prog w) A (setAttr (.ref e) name v) Q E ⟨h,g,d,t,os⟩:=by
 have SF:=PySem.F.store_ValueError
 refine set_plain (s:=⟨h,g,d,t,os⟩) (ox:=lF C none t0 sl) (od:=none) X ⟨he,rfl,rfl,trivial⟩ sa ?_
 exact codeAny_call_builtin SF.slot.plain SF.entry (Mv T hC he rfl (Em X T hC na he fun h' dx tk a1 a2 a3 a4 a5=>hq h' dx tk a1 a2 a3 a4 a5))
structure ExN (K:PySem.W.Frag) (C:Addr) (f:Str):Prop where
 na:PySem.W.findIn K (.ref C) f=some none
 hd:PySem.W.hasDictIn K C=true
theorem Jc {a dx:Addr}{o:Obj}{m:Str->Option Value}{f:Str}{v:Value}{tk:Tok}{Q:Fin->Shared->Prop} (X:K.In h) (n:ExN K C f) (hx:h.get? a=some o) (hc:o.cls= .ref C) (hd:o.dict=some dx) {vs:Array Value} (hdt:o.data= .fields vs) (hns:h.Ns dx m) (hm:m f=some v) (hq:Q (.done (.ret v)) ⟨h,g,d,t,os⟩):
 wpAny (model prog w) A (Builtin.«object.__getattribute__» ⟨[.ref a, .str f tk],[]⟩) Q E ⟨h,g,d,t,os⟩:=by
 have LN:=looks_findIn (M:=model prog w) X n.na
 obtain⟨oc,od,odt,osl⟩:=o
 simp only at hc hd hdt
 subst hc hd hdt
 obtain⟨cd,hcd,hhd⟩:=any_some n.hd
 have LD:=looks_clsIn (M:=model prog w) X hcd
 repeat (any_goals (first | assumption | with_reducible refine wpAny_loadPart_at hx ?_ | with_reducible refine LN.at ?_ | (with_reducible refine LD.at ?_;rw[hhd]) | (with_reducible refine wpAny_nsGet hns ?_;rw[hm]) | wp_step))
theorem Mw {a dx:Addr}{o:Obj}{m:Str->Option Value}{f:Str}{v:Value}{tk:Tok}{R:Result->Shared->Prop} (X:K.In h) (k:ExK K C) (n:ExN K C f) (hx:h.get? a=some o) (hc:o.cls= .ref C) (hd:o.dict=some dx) {vs:Array Value} (hdt:o.data= .fields vs) (hns:h.Ns dx m) (hm:m f=some v) (hq:R (.ok (.ret v)) ⟨h,g,d,t,os⟩):
 codeAny (model prog w) A (.call (.builtin "BaseException.__getattribute__") ⟨[.ref a, .str f tk],[]⟩) R ⟨h,g,d,t,os⟩:=
 codeAny_call_builtin (by decide +kernel) PySem.F.entry_bexc_ga (Di X k hx hc (Jc X n hx hc hd hdt hns hm hq))
theorem Px {a dx:Addr}{o:Obj}{m:Str->Option Value}{f:Str}{v:Value}{expr:Bool}{Q:Value->Shared->Prop} (X:K.In h) (k:ExK K C) (n:ExN K C f) (hx:h.get? a=some o) (hc:o.cls= .ref C) (hd:o.dict=some dx) {vs:Array Value} (hdt:o.data= .fields vs) (hns:h.Ns dx m) (hm:m f=some v) (hv:handedIn v=true) (hq:Q v ⟨h,g,d,t+1,os⟩):
 wpAny (model prog w) A (getAttr (.ref a) f expr) Q E ⟨h,g,d,t,os⟩:=by
 have hx2:(Value.builtin "BaseException.__getattribute__"==Value.builtin "object.__getattribute__")=false:=by decide +kernel
 have hx1:(onTheHeap (Value.ref C)&&Value.builtin "BaseException.__getattribute__"==Value.builtin "object.__getattribute__")=false:=by rw[hx2];rfl
 have LG:=looks_findIn (M:=model prog w) X k.ga
 have LH:=looks_findIn (M:=model prog w) X k.gh
 have hp:plainId "BaseException.__getattribute__"=true:=by decide +kernel
 have hen:(expr&&onTheHeap (Value.builtin "BaseException.__getattribute__"))=false:=Bool.and_false _
 have f3:bindSpecial (.builtin "BaseException.__getattribute__") (.ref a)=pure (.builtin "BaseException.__getattribute__",[.ref a]):=by
  have hop:withoutEnding? "BaseException.__getattribute__" "#opaque"=none:=by decide +kernel
  have hdat:withoutEnding? "BaseException.__getattribute__" "#data"=none:=by decide +kernel
  have hk:builtinKind "BaseException.__getattribute__"=some .slot:=by decide +kernel
  simp only[bindSpecial,typeOf,builtinType,hop,hdat,hk];rfl
 unfold getAttr
 repeat (any_goals (first | assumption | (with_reducible refine wpAny_loadPart_at hx ?_;rw[hc]) | with_reducible refine LG.at ?_ | with_reducible refine LH.at ?_ | wp_step))
 refine Mw X k n hx hc hd hdt hns hm ?_
 repeat (any_goals (first | assumption | wp_step))
 show wpAny _ _ (handedOut v) _ _ _
 rw[handedOut_of hv]
 exact wpAny_pure hq
end
end L2
set_option maxRecDepth 100000
namespace L2
open PySem PySem.Spec PyProof.Rows
def rW (C:Addr) (od:Option Addr) (e:Addr):HO:= .ext fun h=>∃t sl,h.get? e=some (lF C od t sl)
theorem En {P:Program}{w:World}{H:Hp}{h:Heap}{C e t:Addr}{od:Option Addr}{sl:Array (Option Value)} (he:h.get? e=some (lF C od t sl)):dm P w H h e (rW C od e):=
 ⟨⟨t,sl,he⟩,⟨_,he⟩,fun _ _ ⟨t,sl,q⟩ k=>⟨t,sl,k _ q⟩⟩
structure ExI (K:PySem.W.Frag) (C fI:Addr):Prop where
 obj:∃nm q N bs bm sn sub ab col dd k0 k1 k2 k3 k5,K.lookup C=some (excClassObj nm q C N bs bm true sn sub ab col dd k0 k1 k2 k3 k5 "ValueError.__new__")/\PySem.W.nsOkIn K N=true/\PySem.W.nsIn K N "__init__"=some (some (.ref fI))/\
  PySem.W.tailIn K [.type "ValueError", .type "Exception", .type "BaseException", .type "object"] bm=true
 sa:PySem.W.findIn K (.ref C) "__setattr__"=some (some (.builtin "object.__setattr__"))
structure ExU (K:PySem.W.Frag) (M:Addr):Prop where
 sp:PySem.W.specialIn K (.ref M) "__getattribute__"=some (some (.builtin "type.__getattribute__"))
 rd:PySem.W.readsIn K M (.type "type")=true
 fc:PySem.W.findCls K (.ref M) (.type "type") "__init__"=some (.val (.builtin "ValueError.__init__"))
section
variable {X:Cx}{pins:List (Addr×Obj)}{σ:St}{H:Hp}{s:Shared}
theorem ExI.at {C fI:Addr} (cl:ExI X.K C fI) (I:Inv X pins σ H s):∃nm q N bs bm sn sub ab col dd k0 k1 k2 k3 k5,s.heap.get? C=some (excClassObj nm q C N bs bm true sn sub ab col dd k0 k1 k2 k3 k5 "ValueError.__new__")/\OwnTail s.heap [.type "ValueError", .type "Exception", .type "BaseException", .type "object"] bm:=by
 obtain⟨nm,q,N,bs,bm,sn,sub,ab,col,dd,k0,k1,k2,k3,k5,lk,_,_,tk⟩:=cl.obj
 exact⟨nm,q,N,bs,bm,sn,sub,ab,col,dd,k0,k1,k2,k3,k5,I.kIn _ _ lk,PySem.W.tail_of_in I.kIn tk⟩
def acq (K:PySem.W.Frag) (t1 t2:TE):TE:=fun σ H Q=>t1 σ H fun x H1=>t2 σ H1 fun v H2=>∃e C fI od,x= .ref e/\H2 e=some (rW C od e)/\ExI K C fI/\Q .non H2
theorem Zg {M:Addr}{x:Str}{np apos cpos:Pos}{e₁ e₂:Expr}{t1 t2:TE} (cu:ExU X.K M) (hg:Gl X x) (hm:X.mg x=some (.ref M)) (h1:PE X e₁ t1) (h2:PE X e₂ t2) (hdb:(x==("__debug__":Str))=false) (m:M2 X (.Name x np) "__init__" apos e₁ e₂ cpos):
 PE X (.Call (.Attribute (.Name x np) "__init__" apos) [e₁,e₂] [] cpos) (acq X.K t1 t2):=by
 intro pins s σ H Q I h
 have hform:methodCallForm ([e₁,e₂].length+([]:List Keyword).length) (backTo cpos (starEach [e₁,e₂] X.env)) (backToKw cpos (keywordEach [] X.env))=true:=m.few
 have hpos:methodCallPos true (.Name x np) X.env apos cpos=pure cpos:=by unfold methodCallPos;simp[m.line]
 rw[arm_eval_Call,m.base]
 refine wpAny_bind (qI I hg hm ?_ hdb)
 refine wpAny_bind (wpAny_standAt ?_)
 unfold methodCall
 rw[hform]
 refine wpAny_bind (wpAny_holding ?_)
 show wpAny _ _ (PySem.getMethod (.ref M) _ _) _ _ _
 refine PySem.W.method_cls I.kIn cu.sp (PySem.W.cls_value I.kIn cu.rd cu.fc (by decide +kernel) ?_)
 refine wpAny_bind (wpAny_of_eq hpos ?_)
 rw[m.trees]
 refine Calls.callWith_builtin rfl (Calls.evalArgs_plain (Calls.spliced_cons (thn (h1 pins _ σ H _ (I.tok _) h) fun u s1 ⟨y,H1,I1,ry,q1⟩=>Calls.spliced_cons (thn (h2 pins s1 σ H1 _ I1 q1) fun v s2 ⟨z,H2,I2,rz,e,C,fI,od,ey,ee,cl,q⟩=>Calls.spliced_nil ?_))))
 subst ey
 obtain rfl:u=Value.ref e:=ry
 obtain⟨nm,q',N,bs,bm,sn,sub,ab,col,dd,k0,k1,k2,k3,k5,hC,T⟩:=cl.at I2
 obtain⟨⟨t0,sl,he⟩,_⟩:=(show dm X.prog X.w H2 s2.heap e (rW C od e) from I2.hok e _ ee)
 obtain⟨hp,g,d,tk,os⟩:=s2
 refine Mt T hC he fun h' t1 kp he'=> ?_
 have I3:Inv X pins σ (upd H2 e (rW C od e)) ⟨h',g,d,tk,os⟩:=Inv.write (s:=⟨hp,g,d,tk,os⟩) (x:=e) (e:=e) (t':=tk) I2 (by rw[ee];exact True.intro) (.inl rfl) kp ⟨_,he'⟩ (En he')
 have e3:upd H2 e (rW C od e)=H2:=by
  funext z
  by_cases w:z=e
  ·rw[w,ak,ee]
  ·rw[ao w]
 rw[e3] at I3
 exact⟨.non,H2,I3,rfl,q⟩
def Wi (K:PySem.W.Frag) (ta tv:TE) (f:Str):TS:=fun D σ H=>tv σ H fun y H1=>ta σ H1 fun x H2=>∃e C fI,x= .ref e/\H2 e=some (rW C none e)/\ExI K C fI/\PySem.W.findIn K (.ref C) f=some none/\
 ∀dx,H2 dx=none->dx≠e->D.nx σ (upd (upd H2 dx (.xd [(f,y)])) e (rW C (some dx) e))
theorem p6 {H:Hp}{a b:Addr}{u v:HO} (h:a≠b):upd (upd H a u) b v=upd (upd H b v) a u:=by
 funext z
 by_cases w:z=a
 ·subst w;rw[ao h,ak,ak]
 ·by_cases w2:z=b
  ·subst w2;rw[ak,ao w,ak]
  ·rw[ao w2,ao w,ao w,ao w2]
theorem Inv.Py {a:Addr}{o:HO}{h':Heap}{g':Array GenState}{d':Drawn}{t' t:Nat}{g:Array GenState}{d:Drawn}{h:Heap}{os:OsState}{H':Hp} (hex:X.ex=[]) (I:Inv X pins σ H ⟨h,g,d,t,os⟩) (J:Inv X pins σ H' ⟨h',g',d',t',os⟩) (hn:h.get? a=none) (hH:H' a=none)
 (new:dm X.prog X.w (upd H' a o) h' a o):Inv X pins σ (upd H' a o) ⟨h',g',d',t',os⟩:=by
 refine J.track hH ?_ ?_ ?_ ?_ new
 ·cases z:X.s₀.heap.get? a with
  | none=>rfl
  | some u=>
    obtain⟨o',e'⟩:=I.base.there a u z (by rw[hex];simp)
    have e':h.get? a=some o':=e'
    rw[hn] at e';cases e'
 ·rintro rfl
  obtain⟨m,⟨oL,_,_,hoL,_⟩,_⟩:=I.loc
  have hoL:h.get? _=some oL:=hoL
  rw[hn] at hoL;cases hoL
 ·rintro y c ec rfl
  obtain⟨v,u,ho,_⟩:=I.cell y _ ec
  have ho:h.get? _=some u:=ho
  rw[hn] at ho;cases ho
 ·rintro p hp rfl
  have:=(I.pin p hp).1
  have this:h.get? p.1=some p.2:=this
  rw[hn] at this;cases this
theorem Ud {o value:Expr}{f:Str}{pos pos':Pos}{ta tv:TE} (hex:X.ex=[]) (ha:PE X o ta) (hv:PE X value tv) (hs:swapsWith value (some (.Attribute o f pos')) pos.line X.env=pure false):PS X (.Assign [.Attribute o f pos'] value pos) (Wi X.K ta tv f):=by
 intro pins s σ H D I h
 refine plainObj_wpAny_Assign_Attribute (thn (hv pins s σ H _ I h) fun u s1 ⟨y,H1,I1,ry,q⟩=>thn (ha pins s1 σ H1 _ I1 q) fun ov s2 ⟨x,H2,I2,rx,e,C,fI,ex,ee,cl,nf,q2⟩=> ?_) hs
 subst ex
 obtain rfl:ov=Value.ref e:=rx
 obtain⟨nm,q',N,bs,bm,sn,sub,ab,col,dd,k0,k1,k2,k3,k5,hC,T⟩:=cl.at I2
 obtain⟨⟨t0,sl,he⟩,_⟩:=(show dm X.prog X.w H2 s2.heap e (rW C none e) from I2.hok e _ ee)
 have hKI:=I2.kIn
 obtain⟨hp,g,d,tk,os⟩:=s2
 refine Pu hKI T hC cl.sa nf he fun h' dx tk' dn ne kp he' hns=> ?_
 have hH:H2 dx=none:=by
  cases z:H2 dx with
  | none=>rfl
  | some v=>
    obtain⟨o,ho⟩:=(I2.hok dx v z).some
    rw[dn] at ho;cases ho
 have I3:Inv X pins σ (upd H2 e (rW C (some dx) e)) ⟨h',g,d,tk',os⟩:=Inv.write (s:=⟨hp,g,d,tk,os⟩) (x:=e) (e:=e) (t':=tk') I2 (by rw[ee];exact True.intro) (.inl rfl) kp ⟨_,he'⟩ (En he')
 have I4:=Inv.Py (o:= .xd [(f,y)]) hex I2 I3 dn (by rw[ao ne];exact hH) ⟨_,hns,fun z=>by
  by_cases w:z=f
  ·rw[w,if_pos rfl]
   show rQ (List.lookup f [(f,y)]) _
   rw[List.lookup_cons,beq_self_eq_true];exact ry
  ·rw[if_neg w]
   show rQ (List.lookup z [(f,y)]) _
   rw[List.lookup_cons,beq_eq_false_iff_ne.mpr w];exact True.intro⟩
 rw[p6 (Ne.symm ne)] at I4
 exact⟨σ,_,I4,q2 dx hH ne⟩
end
end L2
set_option maxRecDepth 100000
namespace L2
open PySem PySem.Spec PyProof.Rows
structure Pz (P:Program) (w:World) (outer:List Env) (H:Hp) (s:Shared) (a:Addr) (cls:Value) (d:Option Addr) (H':Hp) (s':Shared):Prop where
 os:s'.os=s.os
 bare:AllBare s'.gens
 un:Un (frs outer) [] H H' s.heap s'.heap
 hok:HOk P w H' s'.heap
 free:H' a=none
 fly:∃B:Heap,vG B outer a cls d .none s'.heap/\Holds (frs outer) H' s.heap s'.heap B
def CXd (P:Program) (w:World):CXT:=fun outer H s E e s'=>∃a cls d H',e= .ref a/\Pz P w outer H s a cls d H' s'/\E cls d H'
section
variable {X:Cx}{pins:List (Addr×Obj)}{σ:St}{H H':Hp}{s s':Shared}{a:Addr}{cls:Value}{d:Option Addr}
theorem Pz.land (F:Pz X.prog X.w X.stack H s a cls d H' s') (I:Inv X pins σ H s) {B h2:Heap} (kc:Holds (frs X.stack) H' s.heap s'.heap B) (st:B.StaysIn h2) (up:s'.heap.UpToSlots h2):Inv X pins σ H' {s' with heap:=h2}:=
 I.landed F.os F.bare F.un F.hok kc st up
end
section
variable {P:Program}{w:World}{K:PySem.W.Frag}{mg:Str->Option Value}{base:Heap}{N:List Str}{qual:Str}{scope:Scope}{f:Addr}{cd:Value}{A:Around}{outer:List Env}{s₀:Shared}{H₀:Hp}{E:XK}
theorem KH:Passes (CXd P w) (iR (CXd P w) P w K mg base N qual scope f cd A outer s₀ H₀ E) E:=by
 intro pins σ H s e s' I h
 obtain⟨a,cls,d,H',rfl,F,hE⟩:=h
 obtain⟨B,fl,kc⟩:=F.fly
 refine Mr (L:=(iR (CXd P w) P w K mg base N qual scope f cd A outer s₀ H₀ E).env.locals) I.ok.frames rfl fl fun h2 fl2 up=> ?_
 have J:=F.land I kc fl2.stays up
 exact⟨a,cls,d,H',rfl,⟨J.os,J.bare,J.base,J.hok,F.free,B,fl2,Dh rfl rfl rfl I (FZ (X:=(iR (CXd P w) P w K mg base N qual scope f cd A outer s₀ H₀ E)) F.un F.hok fl2.stays kc) J.free⟩,hE⟩
end
section
variable {prog:Program}{w:World}{A:Around}{E:Value->Shared->Prop}{s:Shared}{env:Env}
variable {nm q:Str}{C N:Addr}{bs bm bmB:List Value}{hdct:Bool}{sn:List Str}{sub:List Value}{ab:Bool}{col:Option Bool}{dd:Option Addr}{k0 k1 k2 k3 k5:Option Value}{B newId initId:String}
theorem yr (F:ExcBaseFacts B newId initId bmB) {mN:Str->Option Value}{x:Str}{np cpos pos:Pos}{args:List Expr}{fI:Addr}{oI:Obj}{Q:Flow->Shared->Prop}
 (hbase:bm.contains (.type "BaseException")=true) (hh:A.handled=none) (hplain:(backTo cpos (starEach args env)).any (·.1)=false) (hi:mN "__init__"=some (.ref fI)) (hfc:oI.cls= .type "function")
 (h:wpAny (model prog w) A (eval (.Name x np) env) (fun f s₁=>f= .ref C/\wpAny (model prog w) A (evalArgs (.ref C) true (backTo cpos (starEach args env)) [])
   (fun a s₂=>a.kw=[]/\a.pos.length<=sizeLine/\s₂.heap.get? C=some (excClassObj nm q C N bs bm hdct sn sub ab col dd k0 k1 k2 k3 k5 newId)/\s₂.heap.Ns N mN/\OwnTail s₂.heap bmB bm/\s₂.heap.get? fI=some oI/\
     ∀h' e,Heap.MadeExcOf s₂.heap h' e (.ref C) a.pos->wpAny (model prog w) (A.under (.builtin "type.__call__" ⟨.ref C::a.pos,[]⟩)) (call (.ref fI) (.ref e::a.pos)) (fun r s'=>r= .none/\s'.heap.get? C=some (excClassObj nm q C N bs bm hdct sn sub ab col dd k0 k1 k2 k3 k5 newId)/\
      ∃od t sl,s'.heap.get? e=some (lF C od t sl)/\E (.ref e) s') E {s₂ with heap:=h'}) E s₁) E s):
 wpAny (model prog w) A (exec (.Raise (some (.Call (.Name x np) args [] cpos)) none pos) env) Q E s:=by
 rw[arm_exec_Raise]
 first
  | refine wpAny_bind (wpAny_standAt (wg (C:=C) (nm:=nm) (q:=q) (N:=N) (bs:=bs) (bm:=bm) (hdct:=hdct) (sn:=sn) (sub:=sub) (ab:=ab) (col:=col) (dd:=dd) (k0:=k0) (k1:=k1) (k2:=k2) (k3:=k3) (k5:=k5) (newId:=newId) hbase hh (wpAny_bind (wpAny_mono (wpAny_Call_ofName (wpAny_mono h (fun f s₁ h₁=> ?_) fun _ _ x=>x)) (fun v s₃ h₃=>wpAny_bind (wpAny_standAt (wpAny_pure h₃))) fun _ _ x=>x))))
  | (simp only[evalOpt,Option.map];refine wpAny_bind (wpAny_standAt (wg (C:=C) (nm:=nm) (q:=q) (N:=N) (bs:=bs) (bm:=bm) (hdct:=hdct) (sn:=sn) (sub:=sub) (ab:=ab) (col:=col) (dd:=dd) (k0:=k0) (k1:=k1) (k2:=k2) (k3:=k3) (k5:=k5) (newId:=newId) hbase hh (wpAny_bind (wpAny_mono (wpAny_Call_ofName (wpAny_mono h (fun f s₁ h₁=> ?_) fun _ _ x=>x)) (fun v s₃ h₃=>wpAny_bind (wpAny_standAt (wpAny_pure h₃))) fun _ _ x=>x)))))
  | (refine wpAny_bind (wpAny_standAt (wg (C:=C) (nm:=nm) (q:=q) (N:=N) (bs:=bs) (bm:=bm) (hdct:=hdct) (sn:=sn) (sub:=sub) (ab:=ab) (col:=col) (dd:=dd) (k0:=k0) (k1:=k1) (k2:=k2) (k3:=k3) (k5:=k5) (newId:=newId) hbase hh ?_));refine wpAny_bind (wpAny_mono (wpAny_Call_ofName (wpAny_mono h (fun f s₁ h₁=> ?_) fun _ _ x=>x)) (fun v s₃ h₃=>wpAny_bind (wpAny_standAt (wpAny_pure h₃))) fun _ _ x=>x))
 obtain⟨rfl,h₁⟩:=h₁
 unfold callWith
 refine wpAny_bind (wpAny_holding (wpAny_mono h₁ (fun a s₂ h₂=>wpAny_bind (wpAny_standAt ?_)) fun _ _ x=>x))
 obtain⟨apos,akw⟩:=a
 obtain⟨hkw,hlen,hC,hn,T,hfI,h₂⟩:=h₂
 obtain rfl:akw=[]:=hkw
 obtain⟨hp,g,d,tk,os⟩:=s₂
 simp only[hplain]
 refine wpAny_bind (wpAny_keeperOf_exc hC ?_)
 refine wpAny_bind (Ay (hrest:=hlen) F T hC hn hi hfI hfc fun h' e hm=>wpAny_mono (h₂ h' e hm) (fun r s' hr=> ?_) fun _ _ x=>x)
 obtain⟨rfl,hC',od,t,sl,he,hE⟩:=hr
 refine⟨rfl,wpAny_bind (wpAny_holding (wpAny_point (wpAny_pure ?_)))⟩
 exact⟨e,od,t,sl,rfl,hC',he,hE⟩
end
end L2
set_option maxRecDepth 100000
namespace L2
open PySem PySem.Spec PyProof.Rows
theorem Jd {K:PySem.W.Frag}{h:Heap}{N:Addr}{mg:Str->Option Value}{n:Str}{v:Value} (X:K.In h) (G:h.Ns N mg) (e:PySem.W.nsIn K N n=some (some v)):mg n=some v:=by
 obtain⟨o,es,ep,ho,hd,_,hf⟩:=G
 unfold PySem.W.nsIn at e
 split at e
 ·rename_i c d es' n' sl q
  have:=X _ _ q
  rw[ho] at this
  cases this
  cases hd
  split at e
  ·rename_i e0 he
   cases e
   rw[<-hf]
   unfold nsFind findBy
   rw[<-Array.find?_toList,he]
   rfl
  ·split at e<;>cases e
 ·cases e
section
variable {P:Program}{w:World}{K:PySem.W.Frag}{mg:Str->Option Value}{base:Heap}{N:List Str}{qual:Str}{scope:Scope}{f:Addr}{cd:Value}{A:Around}{outer:List Env}{s₀:Shared}{H₀:Hp}{E:XK}
def KJ (C:Addr) (sp:Sp) (E:XK) (t:TA):TS:=fun _ σ H=>t σ H fun vs H1=>vs.length<=sizeLine/\∀e,H1 e=none->
 sp (.ref e::vs) (upd H1 e (rW C none e)) (fun v H2=>v= .non/\∃dx H3,H2=upd H3 e (rW C (some dx) e)/\H3 e=none/\E (.ref C) (some dx) H3) (fun _ _ _=>False)
theorem Mx {k:Nat}{x:Str}{np cpos pos:Pos}{e₀:Expr}{es:List Expr}{t:TA}{C fI:Addr}{fd:FuncData}{ps:List Str}{sp:Sp} (cl:ExI K C fI) (F:bI P w K mg base CX0 k fI fd ps sp) (hr:iD (k+1) (iR (CXd P w) P w K mg base N qual scope f cd A outer s₀ H₀ E).A) (hfn:PySem.W.isFn K (.ref fI)=true) (hb:Binds K fd ps [])
 (hg:Gl (iR (CXd P w) P w K mg base N qual scope f cd A outer s₀ H₀ E) x) (hm:mg x=some (.ref C))
 (ha:PA (iR (CXd P w) P w K mg base N qual scope f cd A outer s₀ H₀ E) (e₀::es) t) (hdb:(x==("__debug__":Str))=false:=by decide)
 (he:starEach (e₀::es) (iR (CXd P w) P w K mg base N qual scope f cd A outer s₀ H₀ E).env=(false,eval e₀ (iR (CXd P w) P w K mg base N qual scope f cd A outer s₀ H₀ E).env)::starEach es (iR (CXd P w) P w K mg base N qual scope f cd A outer s₀ H₀ E).env:=by rfl)
 (hpl:(backTo cpos (starEach es (iR (CXd P w) P w K mg base N qual scope f cd A outer s₀ H₀ E).env)).any (·.1)=false:=by rfl):
 PS (iR (CXd P w) P w K mg base N qual scope f cd A outer s₀ H₀ E) (.Raise (some (.Call (.Name x np) (e₀::es) [] cpos)) none pos) (KJ C sp E t):=by
 intro pins s σ H D I h
 obtain⟨nm,q,N',bs,bm,sn,sub,ab,col,dd,k0,k1,k2,k3,k5,lk,nk,ik,tk⟩:=cl.obj
 have XB:K.In base:=I.mod.kin
 have hN:base.Ns N' (base.nsMap N'):= .of_isNs (PySem.W.isNs_of_in XB nk)
 have T:OwnTail base [.type "ValueError", .type "Exception", .type "BaseException", .type "object"] bm:=PySem.W.tail_of_in XB tk
 obtain⟨oI,hoI,hfc⟩:∃oI,base.get? fI=some oI/\oI.cls= .type "function":=by
  obtain⟨o,ho,hc⟩:=Option.map_eq_some_iff.mp (show(K.lookup fI).map (·.cls)=some (.type "function") from beq_iff_eq.mp hfn)
  exact⟨o,XB _ _ ho,hc⟩
 have hi:base.nsMap N' "__init__"=some (.ref fI):=Jd XB hN ik
 refine yr (nm:=nm) (q:=q) (N:=N') (bs:=bs) (bm:=bm) (hdct:=true) (sn:=sn) (sub:=sub) (ab:=ab) (col:=col) (dd:=dd) (k0:=k0) (k1:=k1) (k2:=k2) (k3:=k3) (k5:=k5) (oI:=oI) PySem.F.excBase_ValueError (mN:=base.nsMap N') (T.hasType PySem.F.excBase_ValueError.hasBase) (I.ok.hd rfl)
  (by rw[he];show(false||(backTo cpos (starEach es _)).any (·.1))=false;rw[hpl];rfl) hi hfc (qI I hg hm ⟨rfl, ?_⟩ hdb)
 have ha':=ha cpos pins s σ H _ I h
 rw[he] at ha' ⊢
 refine Calls.evalArgs_plain (thn ha' fun us s2 ⟨vs,H1,I1,r,hz,hE⟩=>⟨rfl,by rw[<-r.length];exact hz,I1.bk _ _ (XB _ _ lk),hN.keeps I1.bk,T.keeps I1.bk,I1.bk _ _ hoI,fun h' e hx=> ?_⟩)
 have fre:H1 e=none:=by
  cases z:H1 e with
  | none=>rfl
  | some v=>
    obtain⟨o,ho⟩:=(I1.hok e v z).some
    rw[hx.new] at ho;cases ho
 obtain⟨t0,het,_⟩:=hx.there
 obtain⟨hp,g,d,tk',os⟩:=s2
 have I2:Inv (iR (CXd P w) P w K mg base N qual scope f cd A outer s₀ H₀ E) pins σ H1 ⟨h',g,d,tk',os⟩:=Inv.un (s:=⟨hp,g,d,tk',os⟩) (t':=tk') I1 (Un.kept hx.keeps) (I1.hok.kept hx.keeps)
 have I3:=Inv.Py (o:=rW C none e) rfl I1 I2 hx.new fre (En het)
 have hq:=hE e fre
 have r2:Vals (V.ref e::vs) (Value.ref e::us):= .cons rfl r
 have hl:(Value.ref e::us++[]).length=ps.length:=by
  have e':=r2.length
  rw[F.len _ _ _ _ hq] at e'
  rw[List.append_nil];exact e'.symm
 have hbt:=hb _ (Value.ref e::us) I3.kIn hl
 rw[List.append_nil] at hbt
 refine wpAny_call (codeAny_mono (F.run _ (iR (CXd P w) P w K mg base N qual scope f cd A outer s₀ H₀ E).stack _ _ ⟨Value.ref e::us,[]⟩ (Value.ref e::us) _ _ _ (hr.make C us []) (I3.env0.make C us []) hbt r2 hq) fun rr s' hq'=> ?_)
 cases rr with
 | error e=>exact hq'.elim
 | ok fl=>
   cases fl with
   | next=>exact hq'.elim
   | brk=>exact hq'.elim
   | cont=>exact hq'.elim
   | ret u=>
     obtain⟨v,H2,os',bare',un',hok',rv,ev,dx,H3,eH,e3,q3⟩:=id hq'
     obtain⟨_,_,I4,_⟩:=I3.after hq'
     subst ev
     subst eH
     obtain rfl:u=Value.none:=rv
     obtain⟨⟨t1,sl1,he1⟩,_⟩:=(show dm P w _ s'.heap e (rW C (some dx) e) from hok' e _ ak)
     refine⟨rfl,I4.bk _ _ (XB _ _ lk),some dx,t1,sl1,he1, ?_⟩
     have hne:∀{b o},hp.get? b=some o->b≠e:=fun q z=>by rw[z] at q;have:=hx.new;rw[show(⟨hp,g,d,tk',os⟩:Shared).heap.get? e=hp.get? e from rfl] at this;rw[this] at q;cases q
     have un:Un (frs (iR (CXd P w) P w K mg base N qual scope f cd A outer s₀ H₀ E).stack) [] H1 H3 hp s'.heap:=
      {keep:=fun b o q n hb hx'=>un'.keep b o (hx.keeps b o q) (by rw[ao (hne q)];exact n) hb hx'
       slot:=fun b o q n hb hx'=>un'.slot b o (hx.keeps b o q) (by rw[ao (hne q)];exact n) hb hx'
       free:=fun b o q n hx'=>by
        have:=un'.free b o (hx.keeps b o q) (by rw[ao (hne q)];exact n) hx'
        rwa [ao (hne q)] at this
       there:=fun b o q hx'=>un'.there b o (hx.keeps b o q) hx'
       tups:=fun b xs q=>by
        have nb:b≠e:=fun z=>by rw[z,fre] at q;cases q
        have:=un'.tups b xs (by rw[ao nb];exact q)
        rwa [ao nb] at this
       frzs:=fun b o u q=>by
        have nb:b≠e:=fun z=>by rw[z,fre] at q;cases q
        have:=un'.frzs b o u (by rw[ao nb];exact q)
        rwa [ao nb] at this
       tbls:=fun b ps q=>by
        have nb:b≠e:=fun z=>by rw[z,fre] at q;cases q
        obtain⟨m,this⟩:=un'.tbls b ps (by rw[ao nb];exact q)
        exact⟨m,by rwa [ao nb] at this⟩}
     have hok:HOk P w H3 s'.heap:=fun b u q=>by
      have nb:b≠e:=fun z=>by rw[z,e3] at q;cases q
      refine(hok' b u (by rw[ao nb];exact q)).stay (fun c v _ r=>r) (fun c r=> ?_) fun c xs r=> ?_
      ·by_cases z:c=e
       ·rw[z,ak] at r;cases r
       ·rwa [ao z] at r
      ·by_cases z:c=e
       ·rw[z,ak] at r;cases r
       ·rwa [ao z] at r
     have hin:∀env∈(iR (CXd P w) P w K mg base N qual scope f cd A outer s₀ H₀ E).stack,∀b,env.frame=some b->b∈e::frs (iR (CXd P w) P w K mg base N qual scope f cd A outer s₀ H₀ E).stack:=fun env hen b hb=>List.mem_cons_of_mem _ (List.mem_filterMap.mpr ⟨env,hen,hb⟩)
     refine Jb (base:=PySem.W.hideAll s'.heap (e::frs (iR (CXd P w) P w K mg base N qual scope f cd A outer s₀ H₀ E).stack)) (L:=(iR (CXd P w) P w K mg base N qual scope f cd A outer s₀ H₀ E).env.locals) (c:= .ref C) (d:=some dx) I4.ok.frames
      (PySem.W.funFrames_hide I4.stack hin) rfl he1 (fun b o z=>PySem.W.of_hideAll _ z) (PySem.W.hideAll_none _ (List.mem_cons_self ..)) rfl rfl ⟨rfl,rfl⟩ fun h2 fl up=> ?_
     have kc:Holds (frs (iR (CXd P w) P w K mg base N qual scope f cd A outer s₀ H₀ E).stack) H3 hp s'.heap (PySem.W.hideAll s'.heap (e::frs (iR (CXd P w) P w K mg base N qual scope f cd A outer s₀ H₀ E).stack)):=fun b o q nb hb=>by
      refine PySem.W.hideAll_get _ q fun z=> ?_
      rcases List.mem_cons.mp z with z | z
      ·rcases hb with⟨o0,z0⟩ | z0
       ·exact hne z0 z
       ·rw[z,e3] at z0;cases z0
      ·exact nb z
     have J:=I1.landed (s':=s') os' bare' un hok kc fl.stays up
     exact⟨e, .ref C,some dx,H3,rfl,⟨J.os,J.bare,J.base,J.hok,e3,_,fl,Dh rfl rfl rfl I1 (FZ (X:=iR (CXd P w) P w K mg base N qual scope f cd A outer s₀ H₀ E) un hok fl.stays kc) J.free⟩,q3⟩
end
end L2
set_option maxRecDepth 100000
namespace L2
open PySem PySem.Spec PyProof.Rows
def vH (cls:Value) (d:Option Addr) (p:Addr):HO:= .ext fun h=>∃o vs,h.get? p=some o/\o.cls=cls/\o.dict=d/\o.data= .fields vs
def Wj (K:PySem.W.Frag) (C:Addr) (i:Nat) (tb:(St->XK)->TS) (th:TS):TS:=fun D σ H=>
 tb (fun σ1 cls d H1=>PySem.W.exmOne K cls (.ref C)=some true/\∀p,H1 p=none->th {nx:=fun σ2 H2=>D.nx (σ2.set i none) H2,rt:=D.rt,bk:=fun σ2 H2=>D.bk (σ2.set i none) H2,ct:=fun σ2 H2=>D.ct (σ2.set i none) H2} (σ1.set i (some (.ref p))) (upd H1 p (vH cls d p))) D σ H
section
variable {X:Cx}{x n:Str}{i:Nat}{C:Addr}{np hpos pos:Pos}{body suite:List Stmt}{b₀:Stmt}{tb:(St->XK)->TS}{th:TS}
theorem Ue (hex:X.ex=[]) (hst:X.stack=X.env::X.outer) (hfr:X.env.frame=some X.env.locals) (hN:X.N.Nodup) (hi:X.N[i]? =some n) (hl:X.env.scope.names.lookup n=some .local) (hg:Gl X x) (hm:X.mg x=some (.ref C))
 (hb:∀pn xe (E:St->XK),Kf (CXd X.prog X.w) (X.tryd pn xe) E->PSs (X.tryd pn xe) body (tb E)) (hs:∀e,PSs (X.held e) (b₀::suite) th) (hdb:(x==("__debug__":Str))=false:=by decide):
 PS X (.Try body [.ExceptHandler (some (.Name x np)) (some n) (b₀::suite) hpos] [] [] pos) (Wj X.K C i tb th):=by
 intro pins s σ H D I h
 rw[arm_exec_Try]
 refine wpAny_bind (wpAny_standAt (wpAny_tryStmt_except ?_))
 refine wpAny_mono (hb pins (fun e s₁=>wpAny (model X.prog X.w) X.A (noteFrame e X.env) (fun _ s₂=>wpAny (model X.prog X.w) X.A (setFlight e none) (fun _ s₃=>wpAny (model X.prog X.w) X.A (handleBy e X.env [.ExceptHandler (some (.Name x np)) (some n) (b₀::suite) hpos]) (SP X pins D) X.xe s₃) X.xe s₂) X.xe s₁)
  _ ?_ [] s σ H D (I.tryd _) h) (fun f s1 q=> ?_) fun _ _ z=>z
 ·intro agA σ1 H1 s1 e s' I1 hx
  obtain⟨a,cls,d,H',rfl,F,hm1,hth⟩:=hx
  obtain⟨B,fl,kc⟩:=F.fly
  have hcls:(X.env.scope.kind== .class||(X.env.scope.kind== .module&&X.env.locals !=X.env.globals))=false:=by rw[I.ok.kind];rfl
  have hframes:X.A.frames=some (X.env::X.outer):=by rw[<-hst];exact I.ok.frames
  have fl':vG B (X.env::X.outer) a cls d .none s'.heap:=by rw[<-hst];exact fl
  refine Gx hframes hfr fl' fun h4 acr up4=> ?_
  refine KD (s:={s' with heap:=h4}) acr fun h5 fl5 up5=> ?_
  have J5:=(Pz.land (X:=X.tryd pins _) F I1 kc fl5.stays (up4.trans up5)).untryd
  obtain⟨oe,vs,heo,hec,_⟩:=fl5.there
  refine wpAny_handleBy_cons (codeAny_handlers_test (qI (J5.held (.ref a)) hg hm ?_ hdb)) (by intro q;cases q)
  have LT:PySem.W.Looks (model X.prog X.w) h5 (typeOf (.ref a)) cls:=by
   obtain⟨hec,_⟩:=hec
   subst hec
   exact(PySem.W.Looks.ld heo).andThen .now
  refine(PySem.W.exm_one J5.kIn LT hm1).here ?_
  refine codeAny_handlers_suite_as ?_
  refine KD (s:={s' with heap:=h5}) fl5 fun h6 fl6 up6=> ?_
  have J6:=(Pz.land (X:=X.tryd pins _) F I1 kc fl6.stays ((up4.trans up5).trans up6)).untryd
  obtain⟨oe6,vs6,Zh,⟨afF,afG⟩,hd6⟩:=fl6.there
  have news:s1.heap.get? a=none:=by
   cases z:s1.heap.get? a with
   | none=>rfl
   | some o=>
     exfalso
     obtain⟨o',e'⟩:=F.un.there a o z (by simp)
     by_cases hma:a∈frs X.stack
     ·obtain⟨of,q1,q2,q3⟩:=I1.frm a hma
      obtain⟨sl,e1⟩:=F.un.slot a of q1 q2 hma (by simp)
      obtain⟨sl2,e2⟩:=((up4.trans up5).trans up6) a _ e1 q3
      rw[Zh] at e2;cases e2
      exact q3 _ hd6
     ·have:=kc a o' e' hma (.inl ⟨o,z⟩)
      rw[fl.new] at this;cases this
  have Zi:=I1.base.there
  have T6:Inv X pins σ1 (upd H' a (vH cls d a)) {s' with heap:=h6}:=by
   refine J6.track F.free ?_ ?_ ?_ ?_ ?_
   ·cases z:X.s₀.heap.get? a with
    | none=>rfl
    | some o=>
      obtain⟨o',e'⟩:=Zi a o z (by show a∉X.ex;rw[hex];simp)
      rw[news] at e';cases e'
   ·rintro rfl
    have:=I1.lt
    obtain⟨m,⟨oL,_,_,hoL,_⟩,_⟩:=I1.loc
    rw[news] at hoL;cases hoL
   ·rintro y c ec rfl
    obtain⟨v,o,ho,_⟩:=I1.cell y _ ec
    rw[news] at ho;cases ho
   ·rintro p hp rfl
    have:=(I1.pin p (List.mem_append_left _ hp)).1
    rw[news] at this;cases this
   ·exact⟨⟨oe6,vs6,Zh,afF,afG,hd6⟩,⟨oe6,Zh⟩,fun h1 h2 ⟨o,vs,q,c⟩ k=>⟨o,vs,k o q,c⟩⟩
  refine zL (X:=X.held (.ref a)) (v:= .ref a) (T6.held (.ref a)) hN hi (.inl hl) rfl (fun s7 J7=> ?_) (.inr hl)
  refine wpAny_mono (hs (.ref a) pins s7 _ _ _ J7 (hth a F.free)) (fun f s8 q=> ?_) fun _ _ z=>False.elim z
  have fin:∀{σ2:St}{H2:Hp}{Q:Unit->Shared->Prop},Inv (X.held (.ref a)) pins σ2 H2 s8->(∀s9,Inv X pins (σ2.set i none) H2 s9->Q () s9)->wpAny (model X.prog X.w) X.A (do bindName X.env n .none;unbindBehindTheSuite X.env n hpos) Q X.xe s8:=by
   intro σ2 H2 Q J8 k
   obtain⟨m,hn,hlk⟩:=J8.loc
   refine wpAny_nameGoes_keeps hl hn hcls fun h9 v hn9 hs9=> ?_
   exact k _ ((J8.unheld I.ok).gone hN hi hl hn hlk hn9 hs9)
  cases f with
  | next=>obtain⟨σ2,H2,J8,q⟩:=q;exact fin J8 fun s9 J9=>⟨_,H2,J9,q⟩
  | brk=>obtain⟨σ2,H2,J8,q⟩:=q;exact fin J8 fun s9 J9=>⟨_,H2,J9,q⟩
  | cont=>obtain⟨σ2,H2,J8,q⟩:=q;exact fin J8 fun s9 J9=>⟨_,H2,J9,q⟩
  | ret u=>obtain⟨v,σ2,H2,J8,r,q⟩:=q;exact fin J8 fun s9 J9=>⟨v,_,H2,J9,r,q⟩
 ·cases f with
  | next=>obtain⟨σ',H',J,q⟩:=q;exact wpAny_execs_nil ⟨σ',H',J.untryd,q⟩
  | brk=>obtain⟨σ',H',J,q⟩:=q;exact⟨σ',H',J.untryd,q⟩
  | cont=>obtain⟨σ',H',J,q⟩:=q;exact⟨σ',H',J.untryd,q⟩
  | ret u=>obtain⟨v,σ',H',J,r,q⟩:=q;exact⟨v,σ',H',J.untryd,r,q⟩
theorem Ug (hex:X.ex=[]) (hst:X.stack=X.env::X.outer) (hfr:X.env.frame=some X.env.locals) (hN:X.N.Nodup) (hi:X.N[i]? =some n) (hl:X.env.scope.names.lookup n=some .local) (hg:Gl X x) (hm:X.mg x=some (.ref C))
 (hb:∀pn xe (E:St->XK),Kf (CXd X.prog X.w) (X.tryd pn xe) E->QSs (X.tryd pn xe) body (tb E)) (hs:∀e,QSs (X.held e) (b₀::suite) th) (hdb:(x==("__debug__":Str))=false):
 QS X (.Try body [.ExceptHandler (some (.Name x np)) (some n) (b₀::suite) hpos] [] [] pos) (Wj X.K C i tb th):=⟨Ue hex hst hfr hN hi hl hg hm (fun pn xe E h=>(hb pn xe E h).h) (fun e=>(hs e).h) hdb⟩
end
section
variable {X:Cx}
theorem Je:tL X (.builtin "isinstance") (fun xs H Q=>∃p C d cv c b,xs=[.ref p,cv]/\H p=some (vH (.ref C) d p)/\ExK X.K C/\ClV cv c/\PySem.W.kitOne X.K (.ref C) c=some b/\Q (.bl b) H):=by
 intro pins s σ H xs us Q I r h
 obtain⟨p,C,d,cv,c,b,rfl,hp,k,cl,e,q⟩:=h
 obtain⟨u,v,rfl,r1,r2⟩:=Vals.two r
 cases(show u=Value.ref p from r1)
 cases cl.rel r2
 obtain⟨⟨o,vs,h1,h2,_⟩,_⟩:=(show dm X.prog X.w H s.heap p (vH (.ref C) d p) from I.hok p _ hp)
 exact PySem.W.kia_one (Ov k) I.kIn ⟨o,h1,h2⟩ e (fun z=>nomatch z) fun tk=>⟨.bl b,H,I.tok tk,rfl,q⟩
theorem jo:vN X (.builtin "isinstance") (fun xs H Q=>∃p C d cv c b,xs=[.ref p,cv]/\H p=some (vH (.ref C) d p)/\ExK X.K C/\ClV cv c/\PySem.W.kitOne X.K (.ref C) c=some b/\Q (.bl b) H):=⟨Je⟩
def acs (K:PySem.W.Frag) (ta:TE) (f:Str):TE:=fun σ H Q=>ta σ H fun x H1=>∃p C dx fs v,x= .ref p/\H1 p=some (vH (.ref C) (some dx) p)/\H1 dx=some (.xd fs)/\ExK K C/\ExN K C f/\fs.lookup f=some v/\(∀u,RelV v u->PySem.W.handedIn u=true)/\Q v H1
theorem Zj {e:Expr}{f:Str}{pos:Pos}{ta:TE} (he:PE X e ta) (hb:attributeBase e f X.env (eval e X.env)=eval e X.env):PE X (.Attribute e f pos) (acs X.K ta f):=by
 intro pins s σ H Q I h
 refine JM hb (thn (he pins s σ H _ I h) fun u s1 ⟨x,H1,I1,rx,p,C,dx,fs,v,ex,ep,ed,k,n,l,hv,q⟩=> ?_)
 subst ex
 obtain rfl:u=Value.ref p:=rx
 obtain⟨⟨o,vs,h1,h2,h3,h4⟩,_⟩:=(show dm X.prog X.w H1 s1.heap p (vH (.ref C) (some dx) p) from I1.hok p _ ep)
 obtain⟨mA,hns,hr⟩:=(show dm X.prog X.w H1 s1.heap dx (.xd fs) from I1.hok dx _ ed)
 have hrf:=hr f
 rw[l] at hrf
 cases hm:mA f with
 | none=>rw[hm] at hrf;cases hrf
 | some u=>
   rw[hm] at hrf
   have hKI:=I1.kIn
   have I2:=I1.tok (s1.toks+1)
   obtain⟨hp,g,d,tk,os⟩:=s1
   exact Px hKI k n h1 h2 h3 h4 hns.ns hm (hv u hrf) ⟨v,H1,I2,hrf,q⟩
theorem Jf {e:Expr}{f:Str}{pos:Pos}{ta:TE} (he:QE X e ta) (hb:attributeBase e f X.env (eval e X.env)=eval e X.env:=by rfl):QE X (.Attribute e f pos) (acs X.K ta f):=⟨Zj he.h hb⟩
theorem PB {M:Addr}{x:Str}{np apos cpos:Pos}{e₁ e₂:Expr}{t1 t2:TE} (cu:ExU X.K M) (hg:Gl X x) (hm:X.mg x=some (.ref M)) (h1:QE X e₁ t1) (h2:QE X e₂ t2) (hdb:(x==("__debug__":Str))=false) (m:M2 X (.Name x np) "__init__" apos e₁ e₂ cpos):
 QE X (.Call (.Attribute (.Name x np) "__init__" apos) [e₁,e₂] [] cpos) (acq X.K t1 t2):=⟨Zg cu hg hm h1.h h2.h hdb m⟩
theorem KN {o value:Expr}{f:Str}{pos pos':Pos}{ta tv:TE} (hex:X.ex=[]) (ha:QE X o ta) (hv:QE X value tv) (hs:swapsWith value (some (.Attribute o f pos')) pos.line X.env=pure false):QS X (.Assign [.Attribute o f pos'] value pos) (Wi X.K ta tv f):=⟨Ud hex ha.h hv.h hs⟩
end
section
variable {P:Program}{w:World}{K:PySem.W.Frag}{mg:Str->Option Value}{base:Heap}{N:List Str}{qual:Str}{scope:Scope}{f:Addr}{cd:Value}{A:Around}{outer:List Env}{s₀:Shared}{H₀:Hp}{E:XK}
theorem Dp {k:Nat}{x:Str}{np cpos pos:Pos}{e₀:Expr}{es:List Expr}{t:TA}{C fI:Addr}{fd:FuncData}{ps:List Str}{sp:Sp} (cl:ExI K C fI) (F:bI P w K mg base CX0 k fI fd ps sp) (hr:iD (k+1) (iR (CXd P w) P w K mg base N qual scope f cd A outer s₀ H₀ E).A) (hfn:PySem.W.isFn K (.ref fI)=true) (hb:Binds K fd ps [])
 (hg:Gl (iR (CXd P w) P w K mg base N qual scope f cd A outer s₀ H₀ E) x) (hm:mg x=some (.ref C))
 (ha:QA (iR (CXd P w) P w K mg base N qual scope f cd A outer s₀ H₀ E) (e₀::es) t) (hdb:(x==("__debug__":Str))=false)
 (he:starEach (e₀::es) (iR (CXd P w) P w K mg base N qual scope f cd A outer s₀ H₀ E).env=(false,eval e₀ (iR (CXd P w) P w K mg base N qual scope f cd A outer s₀ H₀ E).env)::starEach es (iR (CXd P w) P w K mg base N qual scope f cd A outer s₀ H₀ E).env:=by rfl)
 (hpl:(backTo cpos (starEach es (iR (CXd P w) P w K mg base N qual scope f cd A outer s₀ H₀ E).env)).any (·.1)=false:=by rfl):
 QS (iR (CXd P w) P w K mg base N qual scope f cd A outer s₀ H₀ E) (.Raise (some (.Call (.Name x np) (e₀::es) [] cpos)) none pos) (KJ C sp E t):=⟨Mx cl F hr hfn hb hg hm ha.h hdb he hpl⟩
end
theorem Fun.okD {P:Program}{w:World}{K:PySem.W.Frag}{mg:Str->Option Value}{base:Heap}{x qual:Str}{st:Stmt}{f:Addr}{fd:FuncData}{N ps:List Str}{k:Nat}{sp:Sp} (F:Fun K x qual st f fd) (S:bM N ps (aa st)) (len:∀vs H Q E,sp vs H Q E->vs.length=ps.length)
 (hbody:∀(cdv:Value) (A:Around) (outer:List Env) (s:Shared) (H:Hp) (vs:List V) (Q:VK) (E:XK),iD k (A.deeper (envOfC qual (aa st) s.heap.objs.size f cdv))->sp vs H Q E->
   ∃t,QSs (iR (CXd P w) P w K mg base N qual (aa st) f cdv A outer s H E) (bx st) t/\t {nx:=fun _ H'=>Q .non H',rt:=Q} (start N vs) H):bI P w K mg base (CXd P w) (k+1) f fd ps sp:=by
 obtain⟨oc,od,kV,doc,pm,an,cdv,ct,osl,rfl,lk,hcd⟩:=F.ex
 refine VM lk hcd S len fun A outer s H vs Q E hr hsp=> ?_
 obtain⟨t,h,q⟩:=hbody cdv A outer s H vs Q E hr hsp
 exact⟨t,h.h,q⟩
end L2
set_option maxRecDepth 100000
namespace L2
open PySem PySem.Spec PyProof.Rows
section
variable {X:Cx}
theorem PJ {e:Expr}{y:Str}{k:Nat}{p p2 pos:Pos}{ta:TE} (ha:PE X e ta) (hy:y.length<=1000):PE X (.JoinedStr [.Constant (.str y) k p2, .FormattedValue e 114 none p] pos) (tFr ta):=by
 intro pins s σ H Q I h
 refine wpAny_JoinedStr ?_
 show wpAny _ _ (eval (.Constant (.str y) k p2) X.env) _ _ _
 refine thn (M5 (X:=X) pins s σ H (fun v H2=>v= .str y/\H2=H) I ⟨rfl,rfl⟩) fun u2 s2 ⟨v2,H2,I2,r2,e2,e3⟩=> ?_
 subst e2 e3
 obtain⟨t2,rfl⟩:=r2
 have e1:(Str.empty++y).length=y.length:=by rw[PySem.strLen_append];show 0+_=_;omega
 refine⟨y,t2,rfl,by rw[e1,sizeLine_eq];omega, ?_⟩
 show wpAny _ _ (eval (.FormattedValue e 114 none p) X.env) _ _ _
 refine wpAny_FormattedValue_repr (thn (ha pins s2 σ H2 _ I2 h) fun u s1 ⟨v,H1,I1,r,q⟩=> ?_)
 obtain⟨z,rfl,hz,hc,q⟩:=q
 obtain⟨t,rfl⟩:=r
 have hl:=PySem.StrLaws.reprText_len z hc
 have hz1:(PySem.reprText z).length<=sizeLine:=by rw[sizeLine_eq];omega
 refine wpAny_pyReprObj_str ?_ hz1
 have hlen:(Str.empty++y++PySem.reprText z).length<=11012:=by rw[PySem.strLen_append,e1];omega
 have fin:∀tk tk',∃y' t',(Value.str (PySem.reprText z) tk)= .str y' t'/\(Str.empty++y++y').length<=sizeLine/\Joins (model X.prog X.w) X.A X.xe [] (Str.empty++y++y') (fun out s₁=>out.length<=sizeLine/\EP X pins σ Q (.str out s₁.toks) {s₁ with toks:=s₁.toks+1}) {s1 with toks:=tk'}:=fun tk tk'=>by
  refine⟨_,_,rfl,by rw[sizeLine_eq];omega,by rw[sizeLine_eq];omega, ?_⟩
  exact⟨.str _,H1,I1.tok _,⟨_,rfl⟩,q _ (by omega)⟩
 exact wpAny_formatField_str (fin _ _) (fin _ _) hz1
theorem PK {e:Expr}{y:Str}{k:Nat}{p p2 pos:Pos}{ta:TE} (ha:QE X e ta) (hy:y.length<=1000):QE X (.JoinedStr [.Constant (.str y) k p2, .FormattedValue e 114 none p] pos) (tFr ta):=⟨PJ ha.h hy⟩
end
end L2
set_option maxRecDepth 100000
namespace RB
open PySem L2 PySem.Spec PyProof.Rows
inductive Er where
 | no (x:Str)
 | ring (zs:List Str)
def dY (p:List Str) (z:Str):List Str:=p.reverse.drop (p.reverse.idxOf z)++[z]
def gP (gv:Kn) (rc:Rn):Ms->Option Er
 | ([],_,_)=>none
 | (y::p,kn,_)=>match kn y with
   | some _=>none
   | none=>match gv y with
     | some _=>none
     | none=>match rc y with
       | none=>some (.no y)
       | some r=>match ev kn r with
         | .inr _=>none
         | .inl z=>if z∈y::p then some (.ring (dY (y::p) z)) else none
def Mz (y:Str):Prop:=y.length<=1000/\∀c∈y.cps.toList,c<16 ^ 8
def Wk (gv:Kn) (rc:Rn):Ms->Prop
 | (p,kn,_)=>∀y,p.head?=some y->kn y=none->gv y=none->(∀r,rc y=some r->r.Fn kn)/\(rc y=none->Mz y)
def fB (gv:Kn) (rc:Rn) (s t:Ms):Prop:=∃k,itM gv rc k s=some t/\∀j,j<k->∀u,itM gv rc j s=some u->gP gv rc u=none
theorem fB.mvs {gv:Kn}{rc:Rn}{s t:Ms} (h:fB gv rc s t):Mvs gv rc s t:=let ⟨k,e,_⟩:=h;⟨k,e⟩
theorem fB.refl {gv:Kn}{rc:Rn} (s:Ms):fB gv rc s s:=⟨0,rfl,fun j h=>absurd h (by omega)⟩
theorem ue {gv:Kn}{rc:Rn}:∀(k j:Nat) {s t:Ms},itM gv rc k s=some t->itM gv rc (k+j) s=itM gv rc j t
 | 0,j,s,t,h=>by cases h;rw[Nat.zero_add]
 | k+1,j,s,t,h=>by
   rw[Nat.succ_add]
   have h:(match mv gv rc s with | none=>none | some t=>itM gv rc k t)=some t:=h
   show(match mv gv rc s with | none=>none | some t=>itM gv rc (k+j) t)=itM gv rc j t
   cases z:mv gv rc s with
   | none=>rw[z] at h;cases h
   | some u=>rw[z] at h;exact ue k j h
theorem Uh {gv:Kn}{rc:Rn}{s t:Ms} (h:mv gv rc s=some t):itM gv rc 1 s=some t:=by unfold itM;rw[h];rfl
theorem fB.snoc {gv:Kn}{rc:Rn}{s t u:Ms} (h:fB gv rc s t) (he:gP gv rc t=none) (hm:mv gv rc t=some u):fB gv rc s u:=by
 obtain⟨k,e,n⟩:=h
 refine⟨k+1,by rw[ue k 1 e];exact Uh hm,fun j hj w hw=> ?_⟩
 by_cases z:j<k
 ·exact n j z w hw
 ·have:j=k:=by omega
  rw[this,e] at hw;cases hw;exact he
theorem fB.trans {gv:Kn}{rc:Rn}{s t u:Ms} (h:fB gv rc s t) (g:fB gv rc t u):fB gv rc s u:=by
 obtain⟨k,e,n⟩:=h
 obtain⟨k2,e2,n2⟩:=g
 refine⟨k+k2,by rw[ue k k2 e];exact e2,fun j hj w hw=> ?_⟩
 by_cases z:j<k
 ·exact n j z w hw
 ·obtain⟨d,rfl⟩:∃d,j=k+d:=⟨j - k,by omega⟩
  rw[ue k d e] at hw
  exact n2 d (by omega) w hw
theorem fB.errs {gv:Kn}{rc:Rn}{s t t':Ms}{e:Er} (h:fB gv rc s t) (he:gP gv rc t=some e) (h':fB gv rc s t') (hend:gP gv rc t'≠none\/t'.1=[]):t=t':=by
 obtain⟨k,e1,n1⟩:=h
 obtain⟨k',e2,n2⟩:=h'
 rcases Nat.lt_trichotomy k k' with z | z | z
 ·have:=n2 k z t e1;rw[he] at this;cases this
 ·subst z;rw[e1] at e2;exact Option.some.inj e2
 ·rcases hend with w | w
  ·exact absurd (n1 k' z t' e2) w
  ·obtain⟨d,rfl⟩:∃d,k=k'+(d+1):=⟨k - k' - 1,by omega⟩
   rw[ue k' (d+1) e2] at e1
   obtain⟨p,c⟩:=t'
   obtain⟨kn,od⟩:=c
   have w:p=[]:=w
   subst w
   unfold itM at e1
   rw[Zd] at e1;cases e1
def lu (gv:Kn) (rc:Rn):List Str->Kn×List Str->Kn×List Str->Prop
 |[],a,b=>a=b
 | x::ws,a,b=>∃c,fB gv rc ([x],a) ([],c)/\lu gv rc ws c b
theorem lu.snoc {gv:Kn}{rc:Rn}:∀{ws:List Str}{x:Str}{a b c:Kn×List Str},lu gv rc ws a b->fB gv rc ([x],b) ([],c)->lu gv rc (ws++[x]) a c
 |[],x,a,b,c,h,g=>by cases h;exact⟨c,g,rfl⟩
 | y::ws,x,a,b,c,⟨d,h,h2⟩,g=>⟨d,h,lu.snoc h2 g⟩
theorem PL {gv:Kn}{rc:Rn}{y:Str}{p:List Str}{kn:Kn}{od:List Str} (h1:kn y=none) (h2:gv y=none) (h3:rc y=none):gP gv rc (y::p,kn,od)=some (.no y):=by
 unfold gP;simp only[h1,h2,h3]
theorem Az {gv:Kn}{rc:Rn}{y z:Str}{r:R}{p:List Str}{kn:Kn}{od:List Str} (h1:kn y=none) (h2:gv y=none) (h3:rc y=some r) (h4:ev kn r= .inl z) (h5:z∈y::p):gP gv rc (y::p,kn,od)=some (.ring (dY (y::p) z)):=by
 unfold gP;simp only[h1,h2,h3,h4,if_pos h5]
theorem vB {gv:Kn}{rc:Rn}{y:Str}{v:Int}{p:List Str}{kn:Kn}{od:List Str} (h1:kn y=some v):gP gv rc (y::p,kn,od)=none:=by
 unfold gP;simp only[h1]
theorem yt {gv:Kn}{rc:Rn}{y:Str}{v:Int}{p:List Str}{kn:Kn}{od:List Str} (h1:gv y=some v):gP gv rc (y::p,kn,od)=none:=by
 unfold gP
 cases z:kn y with
 | some _=>simp only[z]
 | none=>simp only[z,h1]
theorem Eo {gv:Kn}{rc:Rn}{y:Str}{r:R}{v:Int}{p:List Str}{kn:Kn}{od:List Str} (h2:gv y=none) (h3:rc y=some r) (h4:ev kn r= .inr v):gP gv rc (y::p,kn,od)=none:=by
 unfold gP
 cases z:kn y with
 | some _=>simp only[z]
 | none=>simp only[z,h2,h3,h4]
theorem mX {gv:Kn}{rc:Rn}{y z:Str}{r:R}{p:List Str}{kn:Kn}{od:List Str} (h2:gv y=none) (h3:rc y=some r) (h4:ev kn r= .inl z) (h5:z∉y::p):gP gv rc (y::p,kn,od)=none:=by
 unfold gP
 cases w:kn y with
 | some _=>simp only[w]
 | none=>simp only[w,h2,h3,h4,if_neg h5]
def Ca (CNo CRi:Addr) (e:Er) (cls:Value) (d:Option Addr) (H:Hp):Prop:=match e with
 | .no y=>cls= .ref CNo/\∃dx,d=some dx/\H dx=some (.xd [("name", .str y)])
 | .ring zs=>cls= .ref CRi/\∃dx l,d=some dx/\H dx=some (.xd [("ring", .ref l)])/\H l=some (.lst (zs.map V.str))
theorem Ca.same {CNo CRi:Addr}{e:Er}{cls:Value}{d:Option Addr}{H H':Hp} (h:Ca CNo CRi e cls d H) (s:aO H H'):Ca CNo CRi e cls d H':=by
 cases e with
 | no y=>obtain⟨h1,dx,h2,h3⟩:=h;exact⟨h1,dx,h2,s _ _ h3⟩
 | ring zs=>obtain⟨h1,dx,l,h2,h3,h4⟩:=h;exact⟨h1,dx,l,h2,s _ _ h3,s _ _ h4⟩
theorem yu {ns:List Str}{z:Str} (h:z∈ns):ns[ns.idxOf z]? =some z/\∀k,k<ns.idxOf z->ns[k]? ≠some z:=by
 have hl:=List.idxOf_lt_length_iff.mpr h
 refine⟨by rw[List.getElem?_eq_getElem hl];exact congrArg some (List.getElem_idxOf hl),fun k hk e=> ?_⟩
 obtain⟨hkl,e⟩:=List.getElem?_eq_some_iff.mp e
 have:=List.not_of_lt_findIdx (p:=(· ==z)) (xs:=ns) (i:=k) hk
 rw[e] at this
 simp at this
def Wl (C:Addr):Sp:=fun vs H Q _=>∃(e:Addr) (y:Str),vs=[.ref e, .str y]/\H e=some (rW C none e)/\Mz y/\∀dx,H dx=none->dx≠e->Q .non (upd (upd H dx (.xd [("name", .str y)])) e (rW C (some dx) e))
def Wm (C:Addr):Sp:=fun vs H Q _=>∃(e l:Addr) (xs:List V),vs=[.ref e, .ref l]/\H e=some (rW C none e)/\H l=some (.lst xs)/\xs.length<=1000/\
 ∀l' dx,H l'=none->upd H l' (.lst xs) dx=none->dx≠e->Q .non (upd (upd (upd H l' (.lst xs)) dx (.xd [("ring", .ref l')])) e (rW C (some dx) e))
def Gz (CSe CN CS CR CNo CRi:Addr):Sp:=fun vs H Q E=>∃(D:SrD) (gs cs:List Str) (gv:Kn) (rc:Rn) (kg kc kr:List (Key×V)) (rm:Rm) (y:Str),vs=[.ref D.so, .str y]/\BX CSe CN D gs cs gv rc kg kc kr rm H/\
 (∀r,rc y=some r->∀(A:SeD) H',aO H H'->(∀z∈A.ft,H z=none)->(∀kn,qQ CS CR kr rm y r kn A H')->Q (.ref A.s) H')/\
 (rc y=none->Mz y/\∀cls d H',aO H H'->Ca CNo CRi (.no y) cls d H'->E cls d H')
def Dq (CSe CN CNo CRi:Addr):Sp:=fun vs H Q E=>∃(H0:Hp) (D:SrD) (gs cs:List Str) (gv:Kn) (rc:Rn) (kg kc kr:List (Key×V)) (rm:Rm) (kn:Kn) (rmN:Rm) (rkn:Str->Bool) (od:List Str) (Hf:Hp) (x:Str),vs=[.ref D.so, .str x]/\BX CSe CN D gs cs gv rc kg kc kr rm Hf/\ji H0 D gv rc rm kn rmN rkn od Hf H/\(∀t,fB gv rc ([x],kn,od) t->Wk gv rc t)/\
 (∀(kn':Kn) (Gv:Rm) (rkn':Str->Bool) (od':List Str) (Hf' H':Hp),But [D.kd,D.sd,D.rd] H H'->aO Hf Hf'->(∀z,Mu H z->Hf z=none->Hf' z=none)->ji H0 D gv rc rm kn' Gv rkn' od' Hf' H'->fB gv rc ([x],kn,od) ([],kn',od')->Kn.Le kn kn'->kn' x≠none->(∀y,kn' y≠none->kn y≠none\/Rch gv rc kn' x y)->Q .non H')/\
 (∀t e cls d H',fB gv rc ([x],kn,od) t->gP gv rc t=some e->But [D.kd,D.sd,D.rd] H H'->Ca CNo CRi e cls d H'->E cls d H')
def mY (gv:Kn) (rc:Rn) (ws:List Str) (a:Kn×List Str) (e:Er):Prop:=∃(i:Nat) (x:Str) (b:Kn×List Str) (t:Ms),ws[i]? =some x/\lu gv rc (ws.take i) a b/\fB gv rc ([x],b) t/\gP gv rc t=some e
def Ba (gv:Kn) (rc:Rn) (ws:List Str) (a:Kn×List Str):Prop:=∀(i:Nat) (x:Str) (b:Kn×List Str) (t:Ms),ws[i]? =some x->lu gv rc (ws.take i) a b->fB gv rc ([x],b) t->Wk gv rc t
def uf (CSe CN CNo CRi:Addr):Sp:=fun vs H Q E=>∃(h g c o dxo rcd wl:Addr) (gs cs:List Str) (gv:Kn) (rc:Rn) (kg kc kr:List (Key×V)) (rm:Rm) (ws:List Str),vs=[.ref h, .ref o, .ref wl]/\H h=some (.tup [.ref g, .ref c])/\H g=some (.dK kg)/\H c=some (.dK kc)/\yq H kg kc gs cs gv rc/\H o=some (.ins CN dxo (nrF rcd))/\H rcd=some (.dK kr)/\rT H kr rm/\RmF gv rc rm/\H wl=some (.lst (ws.map V.str))/\Ba gv rc ws (kn0,[])/\
 (∀(D:SrD) (kn:Kn) (rmN:Rm) (rkn:Str->Bool) (od:List Str) (Hf H':Hp),aO H H'->aO H Hf->BX CSe CN D gs cs gv rc kg kc kr rm Hf->ji H D gv rc rm kn rmN rkn od Hf H'->lu gv rc ws (kn0,[]) (kn,od)->H D.kd=none->H D.sd=none->H D.rd=none->(∀x∈ws,kn x≠none)->(∀y,kn y≠none->∃x∈ws,Rch gv rc kn x y)->Q (.ref D.so) H')/\
 (∀e cls d H',mY gv rc ws (kn0,[]) e->aO H H'->Ca CNo CRi e cls d H'->E cls d H')
end RB
set_option maxRecDepth 100000
namespace RB
open PySem L2 PySem.Spec PyProof.Rows
def GC (CNo CRi:Addr):Sp:=fun vs H Q E=>∃(h g c:Addr) (gs cs:List Str) (gv:Kn) (rc:Rn) (x:Str),vs=[.ref h, .str x]/\Ek H h g c gs cs gv rc/\Ba gv rc [x] (kn0,[])/\
 (∀(v:Int) (kn:Kn) (rmN:Rm) (od:List Str) (H':Hp),aO H H'->StG gv rc kn rmN->lu gv rc [x] (kn0,[]) (kn,od)->kn x=some v->Q (.int v) H')/\
 (∀e cls d H',mY gv rc [x] (kn0,[]) e->aO H H'->Ca CNo CRi e cls d H'->E cls d H')
def GD (CNo CRi:Addr):Sp:=fun vs H Q E=>∃(h g c:Addr) (gs cs:List Str) (gv:Kn) (rc:Rn) (x:Str),vs=[.ref h, .str x]/\Ek H h g c gs cs gv rc/\Ba gv rc [x] (kn0,[])/\
 (∀(l:Addr) (as:List Addr) (ps:List Rdp) (kn:Kn) (rmN:Rm) (od:List Str) (H':Hp),aO H H'->H l=none->StG gv rc kn rmN->lu gv rc [x] (kn0,[]) (kn,od)->H' l=some (.lst (as.map V.ref))->jn H' as ps->((∃r v,rmN x=some (r,ps,v))\/(rmN x=none/\ps=[]))->Q (.ref l) H')/\
 (∀e cls d H',mY gv rc [x] (kn0,[]) e->aO H H'->Ca CNo CRi e cls d H'->E cls d H')
end RB
set_option maxRecDepth 100000
namespace RB
open PySem L2 PySem.Spec PyProof.Rows
def ug (rest:Int) (mixed:Bool) (turn:Int):List (Key×V):=[(.inr "rest", .int rest),(.inr "mixed", .bl mixed),(.inr "turn", .int turn)]
def mF (H:Hp) (p:Addr) (c:Nat):Prop:=∃(rest:Int) (mixed:Bool) (turn:Int),H p=some (.dK (ug rest mixed turn))/\0<=turn/\turn<=(c:Int)
theorem mF.keep {S:List Addr}{H H':Hp}{p:Addr}{c:Nat} (h:mF H p c) (b:But S H H') (hp:p∉S):mF H' p c:=by
 obtain⟨r,m,k,e,h⟩:=h
 exact⟨r,m,k,b _ _ hp e,h⟩
theorem mF.same {H H':Hp}{p:Addr}{c:Nat} (h:mF H p c) (b:aO H H'):mF H' p c:=h.keep (S:=[]) (But.of_same b) (by simp)
theorem mF.tups {H H':Hp}{p:Addr}{c:Nat} (h:mF H p c) (b:But [p] H H'):jU H H':=fun q xs e=>b q _ (fun z=>by
 obtain⟨r,m,k,e',_⟩:=h
 have:q=p:=by simpa using z
 rw[this,e'] at e;cases e) e
theorem mF.off {H:Hp}{p z:Addr}{c:Nat}{o:HO} (h:mF H p c) (e:H z=some o) (ho:∀k,o≠ .dK k):z∉[p]:=fun w=>by
 obtain⟨r,m,k,e',_⟩:=h
 have:z=p:=by simpa using w
 rw[this,e'] at e;cases e;exact ho _ rfl
theorem Bb {H:Hp}{p:Addr}{a c:Int}{b:Bool} (e:H p=some (.dK (ug a b c))):dH H p (.str "rest") (some (.int a)):=dH.k (k:= .inr "rest") e
theorem MF {H:Hp}{p:Addr}{a c:Int}{b:Bool} (e:H p=some (.dK (ug a b c))):dH H p (.str "mixed") (some (.bl b)):=dH.k (k:= .inr "mixed") e
theorem GF {H:Hp}{p:Addr}{a c:Int}{b:Bool} (e:H p=some (.dK (ug a b c))):dH H p (.str "turn") (some (.int c)):=dH.k (k:= .inr "turn") e
theorem xG {H:Hp}{p:Addr}{a c:Int}{b:Bool} (e:H p=some (.dK (ug a b c))) (x:Int):nW H p (.str "rest") (.int x) (upd H p (.dK (ug x b c))):=nW.k (k:= .inr "rest") e (cC (by show 3<=1000;decide))
theorem Ep {H:Hp}{p:Addr}{a c:Int}{b:Bool} (e:H p=some (.dK (ug a b c))) (x:Int):nW H p (.str "turn") (.int x) (upd H p (.dK (ug a b x))):=nW.k (k:= .inr "turn") e (cC (by show 3<=1000;decide))
def KQ (K:PySem.W.Frag):Sp:=fun vs H Q _=>∃(a:Addr) (ns:List Int) (k:Int),vs=[.ref a, .int k]/\SqL K H a (ns.map V.int)/\0<=k/\k<=1000/\∀n,Q (.int n) H
def Wn (K:PySem.W.Frag):Sp:=fun vs H Q _=>∃(a:Addr) (ns:List Int) (k:Int),vs=[.ref a, .int k]/\SqL K H a (ns.map V.int)/\0<=k/\k<=1000/\∀p H',aO H H'->H p=none->mF H' p 1000->Q (.ref p) H'
def PN:Sp:=fun vs H Q _=>∃(p:Addr) (c:Nat) (many:Int),vs=[.ref p, .int many]/\mF H p c/\c<=100000/\0<many/\many.natAbs.log2<9000/\∀n H',0<=n->n<many->But [p] H H'->mF H' p (c+1)->Q (.int n) H'
end RB
set_option maxRecDepth 100000
namespace RB
open PySem L2 PySem.Spec PyProof.Rows
def ErT (e:Er) (t:Addr) (H:Hp):Prop:=match e with
 | .no y=>H t=some (.tup [.str "none", .str y])
 | .ring zs=>∃l,H t=some (.tup [.str "ring", .ref l])/\H l=some (.lst (zs.map V.str))
theorem ErT.same {e:Er}{t:Addr}{H H':Hp} (h:ErT e t H) (s:aO H H'):ErT e t H':=by
 cases e with
 | no y=>exact s _ _ h
 | ring zs=>obtain⟨l,h1,h2⟩:=h;exact⟨l,s _ _ h1,s _ _ h2⟩
structure RfK (K:PySem.W.Frag) (CM CNo CRi CRd CRc CDd CTx CRw:Addr):Prop where
 kN:ExK K CNo
 kR:ExK K CRi
 nN:ExN K CNo "name"
 nR:ExN K CRi "ring"
 eN:PySem.W.exmOne K (.ref CNo) (.ref CM)=some true
 eR:PySem.W.exmOne K (.ref CRi) (.ref CM)=some true
 N1:PySem.W.kitOne K (.ref CNo) (.ref CRd)=some false
 N2:PySem.W.kitOne K (.ref CNo) (.ref CRc)=some false
 N3:PySem.W.kitOne K (.ref CNo) (.ref CDd)=some false
 N4:PySem.W.kitOne K (.ref CNo) (.ref CTx)=some false
 N5:PySem.W.kitOne K (.ref CNo) (.ref CRw)=some false
 NV:PySem.W.kitOne K (.ref CNo) (.type "ValueError")=some true
 NN:PySem.W.kitOne K (.ref CNo) (.ref CNo)=some true
 NR:PySem.W.kitOne K (.ref CNo) (.ref CRi)=some false
 R1:PySem.W.kitOne K (.ref CRi) (.ref CRd)=some false
 R2:PySem.W.kitOne K (.ref CRi) (.ref CRc)=some false
 R3:PySem.W.kitOne K (.ref CRi) (.ref CDd)=some false
 R4:PySem.W.kitOne K (.ref CRi) (.ref CTx)=some false
 R5:PySem.W.kitOne K (.ref CRi) (.ref CRw)=some false
 RV:PySem.W.kitOne K (.ref CRi) (.type "ValueError")=some true
 RN:PySem.W.kitOne K (.ref CRi) (.ref CNo)=some false
 RR:PySem.W.kitOne K (.ref CRi) (.ref CRi)=some true
def Wo (CNo CRi:Addr):Sp:=fun vs H Q _=>∃(p:Addr) (cls:Value) (d:Option Addr) (e:Er),vs=[.ref p]/\H p=some (vH cls d p)/\Ca CNo CRi e cls d H/\∀t H',aO H H'->H t=none->ErT e t H'->Q (.ref t) H'
theorem Jg {y:Str}:∀u,RelV (.str y) u->PySem.W.handedIn u=true:=fun u ⟨t,e⟩=>by subst e;rfl
theorem Jh {a:Addr}:∀u,RelV (.ref a) u->PySem.W.handedIn u=true:=fun u e=>by
 obtain rfl:u=Value.ref a:=e
 rfl
end RB
set_option maxRecDepth 100000
namespace RB
open PySem L2 PySem.Spec PyProof.Rows
theorem mY.cons {gv:Kn}{rc:Rn}{x:Str}{ws:List Str}{a:Kn×List Str}{e:Er} (h:mY gv rc (x::ws) a e):(∃t,fB gv rc ([x],a) t/\gP gv rc t=some e)\/∃c,fB gv rc ([x],a) ([],c)/\mY gv rc ws c e:=by
 obtain⟨i,y,b,t,hi,hr,hm,he⟩:=h
 cases i with
 | zero=>
   have:x=y:=by simpa using hi
   subst this
   have hr:a=b:=hr
   subst hr
   exact .inl ⟨t,hm,he⟩
 | succ i=>
   obtain⟨c,h1,h2⟩:=(show∃c,fB gv rc ([x],a) ([],c)/\lu gv rc (ws.take i) c b from hr)
   exact .inr ⟨c,h1,i,y,b,t,by simpa using hi,h2,hm,he⟩
theorem PX {NS:List Str}{gv:Kn}{rc:Rn} (hin:∀x r,rc x=some r->r.In NS) {s t:Ms} (h:∀y∈s.1,y∈NS) (e:mv gv rc s=some t):∀y∈t.1,y∈NS:=by
 obtain⟨p,kn,od⟩:=s
 cases p with
 | nil=>cases e
 | cons y p=>
   unfold mv at e
   cases hk:kn y with
   | some v=>
     simp only[hk] at e
     cases e
     exact fun z hz=>h z (by simp[hz])
   | none=>
     simp only[hk] at e
     cases hg:gv y with
     | some v=>
       simp only[hg] at e
       cases e
       exact h
     | none=>
       simp only[hg] at e
       cases hr:rc y with
       | none=>simp only[hr] at e;cases e
       | some r=>
         simp only[hr] at e
         cases he:ev kn r with
         | inr v=>
           simp only[he] at e
           cases e
           exact h
         | inl z=>
           simp only[he] at e
           cases e
           intro w hw
           rcases List.mem_cons.mp hw with q | q
           ·rw[q];exact yP (hin y r hr) he
           ·exact h w q
theorem P0 {NS:List Str}{gv:Kn}{rc:Rn}{ws:List Str}{a:Kn×List Str} (hin:∀x r,rc x=some r->r.In NS) (hfn:∀x r kn,rc x=some r->r.Fn kn) (hok:∀y∈NS,Mz y) (hw:∀x∈ws,x∈NS):Ba gv rc ws a:=fun i x b t hi _ hm=>by
 have:∀y∈t.1,y∈NS:=hm.mvs.inv (I:=fun s=>∀y∈s.1,y∈NS) (fun _ _ h e=>PX hin h e) (fun y hy=>by
  have:y=x:=by simpa using hy
  rw[this];exact hw x (List.mem_of_getElem? hi))
 obtain⟨p,kn,od⟩:=t
 intro y hy hk hg
 refine⟨fun r hr=>hfn y r kn hr,fun _=>hok y (this y ?_)⟩
 cases p with
 | nil=>cases hy
 | cons z p=>cases hy;simp
end RB
set_option maxRecDepth 100000
namespace RB
open PySem L2 PySem.Spec PyProof.Rows
end RB
set_option maxRecDepth 100000
namespace RB
open PySem L2 PySem.Spec PyProof.Rows
def Rcs (H:Hp) (c:Addr) (ks:List Str) (rc:Rn):Prop:=∃kc,H c=some (.dK kc)/\mC kc ks/\(∀x r,rc x=some r->∃b,dG kc (.inr x)=some (.ref b)/\IsR H b r)/\∀x,rc x=none->dG kc (.inr x)=none
theorem Rcs.keep {S:List Addr}{H H':Hp}{c:Addr}{ks:List Str}{rc:Rn} (h:Rcs H c ks rc) (b:But S H H') (hc:c∉S) (t:jU H H'):Rcs H' c ks rc:=by
 obtain⟨kc,e,k,r,n⟩:=h
 exact⟨kc,b _ _ hc e,k,fun x r' e'=>let ⟨b,h1,h2⟩:=r x r' e';⟨b,h1,h2.tups t⟩,n⟩
theorem Rcs.same {H H':Hp}{c:Addr}{ks:List Str}{rc:Rn} (h:Rcs H c ks rc) (s:aO H H'):Rcs H' c ks rc:=h.keep (S:=[]) (But.of_same s) (by simp) (aO.tups s)
theorem Rcs.put {H:Hp}{c:Addr}{ks:List Str}{rc:Rn} (h:Rcs H c ks rc) (hl:ks.length<=100) {x:Str}{r:R}{b:Addr} (hx:x∉ks) (hR:IsR H b r):∃H',nW H c (.str x) (.ref b) H'/\But [c] H H'/\jU H H'/\Rcs H' c (ks++[x]) (rc.put x r):=by
 obtain⟨kc,e,k,rr,n⟩:=h
 have t:jU H (upd H c (.dK (putK kc (.inr x) (.ref b)))):=Ko e
 refine⟨_,nW.k (k:= .inr x) e (cC (by rw[k.len];omega)),But.set _ (by simp),t,_,ak,k.v8 hx _,fun y r' e'=> ?_,fun y e'=> ?_⟩
 ·rw[jK]
  unfold Rn.put at e'
  by_cases z:y=x
  ·rw[if_pos z] at e';cases e'
   exact⟨b,by rw[if_pos (by rw[z])],hR.tups t⟩
  ·rw[if_neg z] at e'
   obtain⟨b',h1,h2⟩:=rr y r' e'
   exact⟨b',by rw[if_neg (mW z)];exact h1,h2.tups t⟩
 ·rw[jK]
  unfold Rn.put at e'
  by_cases z:y=x
  ·rw[if_pos z] at e';cases e'
  ·rw[if_neg z] at e'
   rw[if_neg (mW z)];exact n y e'
theorem Rcs.off {H:Hp}{c z:Addr}{ks:List Str}{rc:Rn}{o:HO} (h:Rcs H c ks rc) (e:H z=some o) (ho:∀k,o≠ .dK k):z∉[c]:=fun w=>by
 obtain⟨kc,e',_⟩:=h
 have:z=c:=by simpa using w
 rw[this,e'] at e;cases e;exact ho _ rfl
theorem Qa {r:R} (h:r.depth<=5):wR r<=4000:=by
 have:=Am r 5 h
 have e:(3:Nat)^ 5=243:=by decide
 omega
theorem GJ:∀{zs:List Str},(∀y∈zs,PyData.strOk y=true)->PyData.canLayAll0 (zs.map .str)=true
 |[],_=>rfl
 | z::zs,h=>by
   show(PyData.canLay0 (.str z)&&PyData.canLayAll0 (zs.map .str))=true
   rw[Bool.and_eq_true]
   exact⟨h z (by simp),GJ fun y hy=>h y (by simp[hy])⟩
theorem GK:∀(zs:List Str),PyData.depthAll (zs.map .str)<=4
 |[]=>by simp[PyData.depthAll]
 | z::zs=>by
   have:=GK zs
   simp only[List.map_cons,PyData.depthAll,PyData.depth]
   omega
end RB
set_option maxRecDepth 100000
namespace RB
open PySem L2 PySem.Spec PyProof.Rows
theorem Ui {vs:List V}{a b:Nat}{m:Int} (hm:m=(a:Int)+(b:Int)) (h:a+b<=vs.length):tM vs (some (a:Int)) (some m)=(vs.drop a).take b:=by
 subst hm
 unfold tM
 rw[show((a:Int)+(b:Int))=((a+b:Nat):Int) by omega,HT.zB,HT.zB]
 rw[show min a vs.length=a by omega,show min (a+b) vs.length=a+b by omega,show a+b - a=b by omega]
theorem GP {ws:List Str} (h:∀y∈ws,PyData.strOk y=true):SeqAt.shaped (.list (ws.map .str))=true:=by
 have h5:(PyData.list (ws.map .str)).canLay0=true:=GJ h
 have h4:(PyData.list (ws.map .str)).depth<=64:=by
  have:=GK ws
  simp only[PyData.depth];omega
 show(_&&decide _)=true
 rw[h5,decide_eq_true h4];rfl
theorem acu {K:PySem.W.Frag}{H:Hp}{a b:Addr}{ws:List Str} (ha:H a=some (.lst (ws.map V.str))) (hb:H b=some (.lst (ws.map V.str))) (h:∀y∈ws,PyData.strOk y=true):BZ K H (.ref a) (.ref b):=
 .inr ⟨.list (ws.map .str), .lst (SqL.of ha) (vX _), .lst (SqL.of hb) (vX _),GP h⟩
theorem Rcs.copy {H:Hp}{c c2:Addr}{ks:List Str}{rc:Rn}{kc:List (Key×V)} (h:Rcs H c ks rc) (e:H c=some (.dK kc)) (e2:H c2=some (.dK kc)):Rcs H c2 ks rc:=by
 obtain⟨kc',e',k,r,n⟩:=h
 rw[e] at e';cases e'
 exact⟨kc,e2,k,r,n⟩
theorem Rcs.plain {H:Hp}{c:Addr}{ks:List Str}{rc:Rn}{kc:List (Key×V)} (h:Rcs H c ks rc) (e:H c=some (.dK kc)):∀p∈kc,ym p.2=true:=fun p hp=>by
 obtain⟨kc',e',k,r,n⟩:=h
 rw[e] at e';cases e'
 obtain⟨k1,v⟩:=p
 have hv:=O4 k hp
 have hk:k1∈kc.map (·.1):=List.mem_map.mpr ⟨_,hp,rfl⟩
 rw[k.k] at hk
 obtain⟨x,_,rfl⟩:=List.mem_map.mp hk
 cases hr:rc x with
 | none=>rw[n x hr] at hv;cases hv
 | some r'=>
   obtain⟨b,hb,_⟩:=r x r' hr
   rw[hb] at hv;cases hv;rfl
end RB
set_option maxRecDepth 100000
namespace L2
open PySem PySem.Spec PyProof.Rows RB
theorem Cd {P:Program}{w:World} (a b:Addr) (x1 x2 y1 y2:Value) (n m:Nat) (d1 d2:Option Addr) (t1 t2:Array (Option Value)):
 MeetsIn P w (Builtin.«tuple.__ne__» ⟨[.ref a, .ref b],[]⟩)
  (fun A R s=>s.heap.get? a=some {cls:= .type "tuple",dict:=d1,data:= .seq #[x1,x2] n,slots:=t1}/\s.heap.get? b=some {cls:= .type "tuple",dict:=d2,data:= .seq #[y1,y2] m,slots:=t2}/\
    xr P w A.in1 s x1 y1/\xr P w A.in1 s x2 y2/\R (.ok (.ret (.bool false))) s):=by
 intro A R s z
 obtain⟨hp,g,d,tk,os⟩:=s
 obtain⟨z1,z2,e1,e2,z⟩:=z
 have f2:=AutoSeq1.sub_tuple_tuple
 wp_walk using AutoSeq1.wpAny_loadPart' z1,AutoSeq1.wpAny_loadPart' z2,wpAny_forIn_list _ (fun rest c s'=>c.1=none/\s'=⟨hp,g,d,tk,os⟩/\(rest=[(x1,y1),(x2,y2)]\/rest=[(x2,y2)]\/rest=[])) _
 case turn=>
  rintro⟨y,x⟩ rest c s' ⟨hc,rfl,h⟩
  rcases h with h | h | h
  ·cases h
   refine wpAny_bind (e1 _ _ ?_)
   wp_walk
   exact⟨rfl,rfl, .inr (.inl rfl)⟩
  ·cases h
   refine wpAny_bind (e2 _ _ ?_)
   wp_walk
   exact⟨rfl,rfl, .inr (.inr rfl)⟩
  ·cases h
 case fin=>
  rintro⟨c1,c2⟩ s' ⟨hc,rfl,_⟩
  simp only at hc
  subst hc
  wp_walk
  first | exact z | exact⟨_,rfl,z⟩
 case h=>exact⟨rfl,rfl, .inl rfl⟩
def acv (K:PySem.W.Frag):R2:=fun x y H Q=>∃a b x1 x2 y1 y2,x= .ref a/\y= .ref b/\H a=some (.tup [x1,x2])/\H b=some (.tup [y1,y2])/\BZ K H x1 y1/\BZ K H x2 y2/\Q (.bl false) H
theorem Qc {X:Cx} (hu:X.A.units+66<cLine):QOp X (compareOp .NotEq) (acv X.K):=⟨fun pins s σ H x y v u Q I rx ry h=>by
 obtain⟨a,b,x1,x2,y1,y2,rfl,rfl,ha,hb,q1,q2,q⟩:=h
 cases rx
 cases ry
 obtain⟨us,ru,ta,_⟩:=I.tuple (SqT.of ha)
 obtain⟨ws,rw',tb,_⟩:=I.tuple (SqT.of hb)
 obtain⟨u1,u2,rfl,k1,k2⟩:=vals2 ru
 obtain⟨v1,v2,rfl,k4,k5⟩:=vals2 rw'
 obtain⟨⟨c1,d1',dt1,t1⟩,hp,hc1,n,hd1⟩:=ta
 obtain⟨⟨c2,d2',dt2,t2⟩,hq,hc2,m,hd2⟩:=tb
 simp only at hc1 hd1 hc2 hd2
 subst hc1 hd1 hc2 hd2
 have hT:s.TypeIs (.ref a) "tuple":=⟨_,hp,rfl⟩
 refine wpAny_richCompare_same_room (op:= .NotEq) hT ⟨_,hq,rfl⟩ F.slot_tuple_ne (call_meetsIn F.slot_tuple_ne hT F.entry_tuple_ne (F.args_tuple_ne_2 _ _) (Cd a b _ _ _ _ n m d1' d2' t1 t2) ⟨hp,hq,El I k1 k4 q1 hu,El I k2 k5 q2 hu, ?_⟩) (by omega)
 exact⟨(fun x=>nomatch x),⟨.bl false,H,I,rfl,q⟩⟩⟩
end L2
namespace RB
open PySem L2 PySem.Spec PyProof.Rows
def jD (k:Nat) (z:Str):R:=match k with
 | 0=> .rd z
 | 1=> .bin .plus (.rd z) (.rd "one")
 | 2=> .bin .minus (.num 3) (.rd z)
 | 3=> .pick (.rd z) (.rd "one") (.rd "one")
 | 4=> .pick (.num 1) (.rd z) (.rd "nix")
 | 5=> .pick (.num 0) (.rd "nix") (.bin .times (.num 0) (.rd z))
 | 6=> .cho (.num 3) ["nix","no","never",z]
 | _=> .bin .most (.rd z) (.rd "one")
def w8 (k:Nat) (u o:Int):Int:=match k with
 | 0=>u
 | 1=>u+o
 | 2=>3 - u
 | 3=>o
 | 4=>u
 | 5=>0 * u
 | 6=>u
 | _=>Op.ap .most u o
theorem vP {kn:Kn} (n:Int):ev kn (.num n)= .inr n:=rfl
theorem uh {k:Nat}{z:Str}{kn:Kn} (h:kn z=none):ev kn (jD k z)= .inl z:=by
 unfold jD
 split
 ·exact yS h
 ·exact Wf (yS h)
 ·exact Wg (vP 3) (yS h)
 ·exact aco (yS h)
 ·rw[Pn (vP 1)];exact yS h
 ·rw[Pn (vP 0)];exact Wg (vP 0) (yS h)
 ·rw[acp (vP 3) (x:=z) (by rfl)];exact yS h
 ·exact Wf (yS h)
theorem Zk {k:Nat}{z:Str}{kn:Kn}{u o:Int} (h:kn z=some u) (ho:kn "one"=some o):ev kn (jD k z)= .inr (w8 k u o):=by
 unfold jD w8
 split
 ·exact ud h
 ·exact Ub (ud h) (ud ho)
 ·exact Ub (vP 3) (ud h)
 ·rw[Pn (ud h)];split<;>exact ud ho
 ·rw[Pn (vP 1)];exact ud h
 ·rw[Pn (vP 0)];exact Ub (vP 0) (ud h)
 ·rw[acp (vP 3) (x:=z) (by rfl)];exact ud h
 ·exact Ub (ud h) (ud ho)
theorem acw {k:Nat}{z:Str} (kn:Kn):(jD k z).Fn kn:=by
 unfold jD
 split
 ·exact trivial
 ·exact⟨trivial,trivial,fun e=>by cases e⟩
 ·exact⟨trivial,trivial,fun e=>by cases e⟩
 ·exact⟨trivial,trivial,trivial⟩
 ·exact⟨trivial,trivial,trivial⟩
 ·exact⟨trivial,trivial,trivial,trivial,fun _ u v e _=> .inl (by
   have:u=0:=by cases e;rfl
   subst this;exact⟨by decide,by decide⟩)⟩
 ·exact⟨trivial,by show 1<=4;decide⟩
 ·exact⟨trivial,trivial,fun e=>by cases e⟩
def Ch0 (gv:Kn) (rc:Rn):Str->List Str->Prop
 | _,[]=>True
 | y,z::zs=>gv y=none/\(∃r,rc y=some r/\ev kn0 r= .inl z)/\Ch0 gv rc z zs
theorem Bc {gv:Kn}{rc:Rn}:∀(zs:List Str) (e y:Str) (p:List Str),Ch0 gv rc y (zs++[e])->(zs.reverse++y::p).Nodup->e∈zs.reverse++y::p->∃t,fB gv rc (y::p,kn0,[]) t/\gP gv rc t=some (.ring (dY (zs.reverse++y::p) e))
 |[],e,y,p,⟨hg,⟨r,hr,he⟩,_⟩,_,hm=>⟨_,fB.refl _,Az rfl hg hr he hm⟩
 | z::zs,e,y,p,⟨hg,⟨r,hr,he⟩,hc⟩,nd,hm=>by
   have el:(z::zs).reverse++y::p=zs.reverse++z::y::p:=by simp
   rw[el] at nd hm ⊢
   have hzp:z∉y::p:=(List.nodup_cons.mp (List.nodup_append.mp nd).2.1).1
   obtain⟨t,m,et⟩:=Bc zs e z (y::p) hc nd hm
   exact⟨t,((fB.refl _).snoc (mX hg hr he hzp) (oM hg rfl hr he)).trans m,et⟩
theorem Qd {gv:Kn}{rc:Rn}:∀(zs:List Str) (e y:Str) (p:List Str),Ch0 gv rc y (zs++[e])->(zs.reverse++y::p).Nodup->e∉zs.reverse++y::p->gv e=none->rc e=none->∃t,fB gv rc (y::p,kn0,[]) t/\gP gv rc t=some (.no e)
 |[],e,y,p,⟨hg,⟨r,hr,he⟩,_⟩,_,hm,ge,re=>⟨_,(fB.refl _).snoc (mX hg hr he hm) (oM hg rfl hr he),PL rfl ge re⟩
 | z::zs,e,y,p,⟨hg,⟨r,hr,he⟩,hc⟩,nd,hm,ge,re=>by
   have el:(z::zs).reverse++y::p=zs.reverse++z::y::p:=by simp
   rw[el] at nd hm
   have hzp:z∉y::p:=(List.nodup_cons.mp (List.nodup_append.mp nd).2.1).1
   obtain⟨t,m,et⟩:=Qd zs e z (y::p) hc nd hm ge re
   exact⟨t,((fB.refl _).snoc (mX hg hr he hzp) (oM hg rfl hr he)).trans m,et⟩
theorem mY.one {gv:Kn}{rc:Rn}{x:Str}{due e:Er} (h:∃t,fB gv rc ([x],kn0,[]) t/\gP gv rc t=some due) (he:mY gv rc [x] (kn0,[]) e):e=due:=by
 obtain⟨t,m,et⟩:=h
 rcases he.cons with⟨t',m',et'⟩ | ⟨c,m',_⟩
 ·have:=m.errs et m' (.inl (by rw[et'];simp))
  subst this
  rw[et] at et';exact(Option.some.inj et').symm
 ·have:=m.errs et m' (.inr rfl)
  subst this
  cases et
theorem lu.one {gv:Kn}{rc:Rn}{x:Str}{due:Er}{b:Kn×List Str} (h:∃t,fB gv rc ([x],kn0,[]) t/\gP gv rc t=some due) (hn:lu gv rc [x] (kn0,[]) b):False:=by
 obtain⟨t,m,et⟩:=h
 obtain⟨c,m',_⟩:=hn
 have:=m.errs et m' (.inr rfl)
 subst this
 cases et
theorem mY.none {gv:Kn}{rc:Rn}{x:Str}{c:Kn×List Str}{e:Er} (h:fB gv rc ([x],kn0,[]) ([],c)) (he:mY gv rc [x] (kn0,[]) e):False:=by
 rcases he.cons with⟨t',m',et'⟩ | ⟨c',m',⟨i,y,b,t,hi,_⟩⟩
 ·have:=m'.errs et' h (.inr rfl)
  subst this
  cases et'
 ·simp at hi
end RB
set_option maxRecDepth 100000
namespace RB
open PySem L2 PySem.Spec PyProof.Rows
theorem Es {α:Type}{l:List α} (h:l.Nodup):l.reverse.Nodup:=List.pairwise_reverse.mpr (h.imp fun hab=>Ne.symm hab)
def o6 (o:Int):Kn:=fun x=>if x="one" then some o else none
def wj (row:List Str) (last:Str) (i:Nat):Str:=((row++[last])[i+1]?).getD ""
structure H12 (row:List Str) (last:Str) (rc:Rn):Prop where
 nd:row.Nodup
 one:("one":Str)∉row
 nix:("nix":Str)∉row
 r:∀i x,row[i]? =some x->∃k,rc x=some (jD k (wj row last i))
 n:∀x,x∉row->rc x=none
section
variable {row:List Str}{last:Str}{rc:Rn}{o:Int}
theorem Bd (h:H12 row last rc) {x:Str} (hx:x∈row):o6 o x=none:=by
 unfold o6
 rw[if_neg fun z=>h.one (by rw[<-z];exact hx)]
theorem GQ {i:Nat} (h:i+1<row.length):row[i+1]? =some (wj row last i):=by
 unfold wj
 rw[List.getElem?_append_left h,List.getElem?_eq_getElem h];rfl
theorem Et {i:Nat} (h:i+1=row.length):wj row last i=last:=by
 unfold wj
 rw[h,List.getElem?_append_right (Nat.le_refl _)];simp
theorem H12.step (h:H12 row last rc) {i:Nat}{x:Str} (hx:row[i]? =some x):o6 o x=none/\∃r,rc x=some r/\ev kn0 r= .inl (wj row last i):=by
 obtain⟨k,hk⟩:=h.r i x hx
 exact⟨Bd h (List.mem_of_getElem? hx),_,hk,uh rfl⟩
theorem H12.seg (h:H12 row last rc):∀(d a:Nat) (x y:Str),row[a]? =some x->row[a+d+1]? =some y->Ch0 (o6 o) rc x (((row.take (a+d+1)).drop (a+1))++[y])
 | 0,a,x,y,hx,hy=>by
   have ha:a+1<row.length:=(List.getElem?_eq_some_iff.mp hy).1
   rw[show((row.take (a+0+1)).drop (a+1))=[] from List.drop_eq_nil_of_le (by rw[List.length_take];omega)]
   obtain⟨g,r,hr,he⟩:=h.step (o:=o) hx
   have:wj row last a=y:=by
    have:=GQ (last:=last) ha
    rw[hy] at this;exact(Option.some.inj this).symm
   rw[this] at he
   exact⟨g,⟨r,hr,he⟩,trivial⟩
 | d+1,a,x,y,hx,hy=>by
   have hl:a+(d+1)+1<row.length:=(List.getElem?_eq_some_iff.mp hy).1
   have ha:a+1<row.length:=by omega
   obtain⟨g,r,hr,he⟩:=h.step (o:=o) hx
   have hz:=GQ (last:=last) ha
   generalize wj row last a=z at *
   have ih:=H12.seg h d (a+1) z y hz (by rw[show a+1+d+1=a+(d+1)+1 by omega];exact hy)
   have e1:(row.take (a+(d+1)+1)).drop (a+1)=z::(row.take (a+1+d+1)).drop (a+1+1):=by
    rw[show a+(d+1)+1=a+1+d+1 by omega]
    have hl2:a+1<(row.take (a+1+d+1)).length:=by rw[List.length_take];omega
    rw[List.drop_eq_getElem_cons hl2]
    congr 1
    rw[List.getElem_take]
    obtain⟨_,e⟩:=List.getElem?_eq_some_iff.mp hz
    exact e
   rw[e1]
   exact⟨g,⟨r,hr,he⟩,ih⟩
theorem H12.tail (h:H12 row last rc) {a:Nat}{x:Str} (hx:row[a]? =some x):Ch0 (o6 o) rc x (row.drop (a+1)++[last]):=by
 have ha:a<row.length:=(List.getElem?_eq_some_iff.mp hx).1
 obtain⟨d,hd⟩:∃d,row.length=a+d+1:=⟨row.length - a - 1,by omega⟩
 induction d generalizing a x with
 | zero=>
   rw[List.drop_eq_nil_of_le (by omega)]
   obtain⟨g,r,hr,he⟩:=h.step (o:=o) hx
   rw[Et (by omega)] at he
   exact⟨g,⟨r,hr,he⟩,trivial⟩
 | succ d ih=>
   have ha1:a+1<row.length:=by omega
   obtain⟨g,r,hr,he⟩:=h.step (o:=o) hx
   have hz:=GQ (last:=last) ha1
   have:=ih hz ha1 (by omega)
   rw[List.drop_eq_getElem_cons ha1]
   obtain⟨_,e⟩:=List.getElem?_eq_some_iff.mp hz
   rw[e]
   exact⟨g,⟨r,hr,he⟩,this⟩
theorem Ch0.app {gv:Kn}:∀{zs:List Str}{y e:Str}{ws:List Str},Ch0 gv rc y (zs++[e])->Ch0 gv rc e ws->Ch0 gv rc y (zs++e::ws)
 |[],y,e,ws,⟨a,b,_⟩,g=>⟨a,b,g⟩
 | z::zs,y,e,ws,⟨a,b,c⟩,g=>⟨a,b,Ch0.app c g⟩
theorem jq {zs:List Str}{y:Str}:zs.reverse++[y]=(y::zs).reverse:=by simp
theorem Be {L:List Str}{e:Str}:dY L.reverse e=L.drop (L.idxOf e)++[e]:=by
 unfold dY
 rw[List.reverse_reverse]
theorem drop_cons {a:Nat}{x:Str} (hx:row[a]? =some x):x::row.drop (a+1)=row.drop a:=by
 obtain⟨ha,e⟩:=List.getElem?_eq_some_iff.mp hx
 rw[List.drop_eq_getElem_cons ha,e]
def Bf (row:List Str) (b j:Nat) (x:Str):List Str:=if j<=b then row.drop b++[(row[b]?).getD ""] else((row.drop b++row.drop b).drop (j - b)).take (row.length - b)++[x]
theorem Ji (h:H12 row last rc) {b j:Nat}{x:Str} (hx:row[j]? =some x) (hb:row[b]? =some last):∃t,fB (o6 o) rc ([x],kn0,[]) t/\gP (o6 o) rc t=some (.ring (Bf row b j x)):=by
 have hj:j<row.length:=(List.getElem?_eq_some_iff.mp hx).1
 have hbl:b<row.length:=(List.getElem?_eq_some_iff.mp hb).1
 unfold Bf
 by_cases hjb:j<=b
 ·rw[if_pos hjb,hb]
  have hnd:(row.drop j).Nodup:=h.nd.sublist (List.drop_sublist _ _)
  have hmem:last∈row.drop j:=by
   refine List.mem_of_getElem? (i:=b - j) ?_
   rw[List.getElem?_drop,show j+(b - j)=b by omega];exact hb
  have:=Bc (row.drop (j+1)) last x [] (h.tail (o:=o) hx) (by rw[jq,drop_cons hx];exact Es hnd) (by rw[jq,drop_cons hx];exact List.mem_reverse.mpr hmem)
  rw[jq,drop_cons hx,Be] at this
  have hix:(row.drop j).idxOf last=b - j:=by
   have h1:=(yu hmem).1
   have h2:(row.drop j)[b - j]? =some last:=by rw[List.getElem?_drop,show j+(b - j)=b by omega];exact hb
   exact(List.getElem?_inj (List.getElem?_eq_some_iff.mp h1).1 hnd).mp (h1.trans h2.symm)
  rw[hix,List.drop_drop,show j+(b - j)=b by omega] at this
  exact this
 ·rw[if_neg hjb]
  have hbj:b<j:=by omega
  obtain⟨d,hd⟩:∃d,j=b+d+1:=⟨j - b - 1,by omega⟩
  have c1:=h.tail (o:=o) hx
  have c2:=h.seg (o:=o) d b last x hb (by rw[<-hd];exact hx)
  rw[<-hd] at c2
  have c3:=Ch0.app c1 c2
  have hcons:last::(row.take j).drop (b+1)=(row.take j).drop b:=by
   have h1:(row.take j)[b]? =some last:=by rw[List.getElem?_take,if_pos hbj];exact hb
   exact drop_cons h1
  have el:row.drop (j+1)++last::((row.take j).drop (b+1)++[x])=(row.drop (j+1)++(row.take j).drop b)++[x]:=by
   rw[<-hcons];simp
  rw[el] at c3
  have hL:x::(row.drop (j+1)++(row.take j).drop b)=row.drop j++(row.take j).drop b:=by rw[<-drop_cons hx];rfl
  have hnd:(row.drop j++(row.take j).drop b).Nodup:=by
   have h0:=h.nd
   rw[<-List.take_append_drop j row,List.nodup_append] at h0
   rw[List.nodup_append]
   exact⟨h0.2.1,h0.1.sublist (List.drop_sublist _ _),fun a ha c hc e=>h0.2.2 c (List.mem_of_mem_drop hc) a ha e.symm⟩
  have:=Bc (row.drop (j+1)++(row.take j).drop b) x x [] c3 (by rw[jq,hL];exact Es hnd) (by rw[jq,hL];refine List.mem_reverse.mpr (List.mem_append_left _ ?_);rw[<-drop_cons hx];simp)
  rw[jq,hL,Be] at this
  have hix:(row.drop j++(row.take j).drop b).idxOf x=0:=by rw[<-hL];simp
  rw[hix,List.drop_zero] at this
  have e2:((row.drop b++row.drop b).drop (j - b)).take (row.length - b)=row.drop j++(row.take j).drop b:=by
   rw[List.drop_append_of_le_length (by rw[List.length_drop];omega),List.drop_drop,show b+(j - b)=j by omega]
   rw[List.take_append,List.take_of_length_le (by rw[List.length_drop];omega),List.length_drop]
   congr 1
   rw[List.drop_take]
   congr 1
   omega
  rw[e2]
  exact this
theorem Qe (h:H12 row "nix" rc) {j:Nat}{x:Str} (hx:row[j]? =some x):∃t,fB (o6 o) rc ([x],kn0,[]) t/\gP (o6 o) rc t=some (.no "nix"):=by
 have hnd:(row.drop j).Nodup:=h.nd.sublist (List.drop_sublist _ _)
 exact Qd (row.drop (j+1)) "nix" x [] (h.tail (o:=o) hx) (by rw[jq,drop_cons hx];exact Es hnd) (by rw[jq,drop_cons hx];exact fun z=>h.nix (List.mem_of_mem_drop (List.mem_reverse.mp z))) rfl (h.n _ h.nix)
end
end RB
set_option maxRecDepth 100000
namespace RB
open PySem L2 PySem.Spec PyProof.Rows
def C8 (gv:Kn) (rc:Rn):Str->List Str->Prop
 | _,[]=>True
 | y,z::zs=>gv y=none/\(∃k,rc y=some (jD k z))/\C8 gv rc z zs
def D8 (gv:Kn) (rc:Rn):List Str->Str->Prop
 |[],_=>True
 | y::p,z=>(gv y=none/\∃k,rc y=some (jD k z))/\D8 gv rc p y
theorem KR {gv:Kn}{rc:Rn}:∀(zs:List Str) (e y:Str) (p:List Str),C8 gv rc y (zs++[e])->D8 gv rc p y->D8 gv rc (zs.reverse++y::p) e
 |[],e,y,p,⟨a,b,_⟩,d=>⟨⟨a,b⟩,d⟩
 | z::zs,e,y,p,⟨a,b,c⟩,d=>by
   have el:(z::zs).reverse++y::p=zs.reverse++z::y::p:=by simp
   rw[el]
   exact KR zs e z (y::p) c ⟨⟨a,b⟩,d⟩
theorem Wq {gv:Kn}{rc:Rn}:∀(zs:List Str) (e y:Str) (p:List Str),C8 gv rc y (zs++[e])->(zs.reverse++y::p).Nodup->e∉zs.reverse++y::p->fB gv rc (y::p,kn0,[]) (e::(zs.reverse++y::p),kn0,[])
 |[],e,y,p,⟨hg,⟨k,hr⟩,_⟩,_,hm=>(fB.refl _).snoc (mX hg hr (uh rfl) hm) (oM hg rfl hr (uh rfl))
 | z::zs,e,y,p,⟨hg,⟨k,hr⟩,hc⟩,nd,hm=>by
   have el:(z::zs).reverse++y::p=zs.reverse++z::y::p:=by simp
   rw[el] at nd hm ⊢
   have hzp:z∉y::p:=(List.nodup_cons.mp (List.nodup_append.mp nd).2.1).1
   exact((fB.refl _).snoc (mX hg hr (uh rfl) hzp) (oM hg rfl hr (uh rfl))).trans (Wq zs e z (y::p) hc nd hm)
theorem Qf {gv:Kn}{rc:Rn}{o:Int}:∀(p:List Str) (z:Str) (u:Int) (kn:Kn) (od:List Str),D8 gv rc p z->kn z=some u->kn "one"=some o->∃c,fB gv rc (p,kn,od) ([],c)
 |[],z,u,kn,od,_,_,_=>⟨_,fB.refl _⟩
 | y::p,z,u,kn,od,⟨⟨hg,k,hr⟩,hd⟩,hz,ho=>by
   cases hk:kn y with
   | some v=>
     obtain⟨c,m⟩:=Qf p y v kn od hd hk ho
     exact⟨c,((fB.refl _).snoc (vB hk) (yo (by rw[hk];simp))).trans m⟩
   | none=>
     have he:=Zk (k:=k) hz ho
     have hkx:(kn.put y (w8 k u o)) y=some (w8 k u o):=by unfold Kn.put;rw[if_pos rfl]
     obtain⟨c,m⟩:=Qf p y (w8 k u o) (kn.put y (w8 k u o)) (od++[y]) hd hkx (by
      have hne:("one":Str)≠y:=fun e=>by rw[<-e,ho] at hk;cases hk
      unfold Kn.put
      rw[if_neg hne];exact ho)
     exact⟨c,(((fB.refl _).snoc (Eo hg hr he) (Aq hg hk hr he)).snoc (vB hkx) (yo (by rw[hkx];simp))).trans m⟩
section
variable {row:List Str}{last:Str}{rc:Rn}{o:Int}
theorem H12.acy (h:H12 row last rc) {a:Nat}{x:Str} (hx:row[a]? =some x):C8 (o6 o) rc x (row.drop (a+1)++[last]):=by
 have ha:a<row.length:=(List.getElem?_eq_some_iff.mp hx).1
 obtain⟨d,hd⟩:∃d,row.length=a+d+1:=⟨row.length - a - 1,by omega⟩
 induction d generalizing a x with
 | zero=>
   rw[List.drop_eq_nil_of_le (by omega)]
   obtain⟨k,hk⟩:=h.r a x hx
   rw[Et (by omega)] at hk
   exact⟨Bd h (List.mem_of_getElem? hx),⟨k,hk⟩,trivial⟩
 | succ d ih=>
   have ha1:a+1<row.length:=by omega
   obtain⟨k,hk⟩:=h.r a x hx
   have hz:=GQ (last:=last) ha1
   have:=ih hz ha1 (by omega)
   rw[List.drop_eq_getElem_cons ha1]
   obtain⟨_,e⟩:=List.getElem?_eq_some_iff.mp hz
   rw[e]
   exact⟨Bd h (List.mem_of_getElem? hx),⟨k,hk⟩,this⟩
theorem Zm (h:H12 row "one" rc) {j:Nat}{x:Str} (hx:row[j]? =some x):∃c,fB (o6 o) rc ([x],kn0,[]) ([],c):=by
 have hnd:(row.drop j).Nodup:=h.nd.sublist (List.drop_sublist _ _)
 have c:=h.acy (o:=o) hx
 have m1:=Wq (row.drop (j+1)) "one" x [] c (by rw[jq,drop_cons hx];exact Es hnd) (by rw[jq,drop_cons hx];exact fun z=>h.one (List.mem_of_mem_drop (List.mem_reverse.mp z)))
 have d:=KR (row.drop (j+1)) "one" x [] c trivial
 have hg:o6 o "one"=some o:=by unfold o6;rw[if_pos rfl]
 have hkx:(kn0.put "one" o) "one"=some o:=by unfold Kn.put;rw[if_pos rfl]
 obtain⟨e,m2⟩:=Qf _ _ o (kn0.put "one" o) [] d hkx hkx
 exact⟨e,(m1.trans (((fB.refl _).snoc (yt hg) (IW rfl hg)).snoc (vB hkx) (yo (by rw[hkx];simp)))).trans m2⟩
end
def az:List Str:=["a","b","ring","name","c","d","e","zz","zzz","y","yy","x"]
def p7:List Str:=["a","b","ring","name","c","d","e","zz","zzz","y","yy","x","nix","one","no","never"]
theorem Uj:∀y∈p7,Mz y:=by
 unfold Mz
 decide +kernel
theorem Bg:az.Nodup:=by decide +kernel
theorem Bh:∀y∈az,y∈p7:=by decide +kernel
theorem acz {k:Nat}{z:Str} (h:z∈p7):(jD k z).In p7:=by
 have h1:("one":Str)∈p7:=by decide +kernel
 have h2:("nix":Str)∈p7:=by decide +kernel
 have h3:("no":Str)∈p7:=by decide +kernel
 have h4:("never":Str)∈p7:=by decide +kernel
 unfold jD
 split
 ·exact h
 ·exact⟨h,h1⟩
 ·exact⟨trivial,h⟩
 ·exact⟨h,h1,h1⟩
 ·exact⟨trivial,h,h2⟩
 ·exact⟨trivial,h2,trivial,h⟩
 ·refine⟨trivial,fun x hx=> ?_⟩
  simp only[List.mem_cons,List.not_mem_nil,or_false] at hx
  rcases hx with rfl | rfl | rfl | rfl<;>assumption
 ·exact⟨h,h1⟩
theorem KY {row:List Str}{last:Str}{i:Nat}{x:Str} (hr:∀y∈row,y∈p7) (hl:last∈p7) (hx:row[i]? =some x):wj row last i∈p7:=by
 have hi:i<row.length:=(List.getElem?_eq_some_iff.mp hx).1
 by_cases h:i+1<row.length
 ·exact hr _ (List.mem_of_getElem? (GQ (last:=last) h))
 ·rw[Et (by omega)];exact hl
theorem Zn {row:List Str}{last:Str}{rc:Rn}{o:Int} (h:H12 row last rc) (hr:∀y∈row,y∈p7) (hl:last∈p7) {x:Str} (hx:x∈row):Ba (o6 o) rc [x] (kn0,[]):=by
 have all:∀y r,rc y=some r->∃k i z,row[i]? =some y/\r=jD k z/\z∈p7:=fun y r e=>by
  by_cases hy:y∈row
  ·obtain⟨i,hi⟩:=List.getElem?_of_mem hy
   obtain⟨k,hk⟩:=h.r i y hi
   rw[e] at hk
   exact⟨k,i,_,hi,Option.some.inj hk,KY hr hl hi⟩
  ·rw[h.n y hy] at e;cases e
 exact P0 (fun y r e=>by
  obtain⟨k,i,z,_,rfl,hz⟩:=all y r e
  exact acz hz) (fun y r kn e=>by
  obtain⟨k,i,z,_,rfl,_⟩:=all y r e
  exact acw kn) Uj (fun y hy=>by rw[show y=x by simpa using hy];exact hr x hx)
theorem Bj {S:List Addr}{H0 H:Hp}{l:Addr} (b:But S H0 H) (hl:H0 l=none) (o:HO):But S H0 (upd H l o):=fun a u ha e=>by
 rw[ao (fun z=>by rw[z,hl] at e;cases e)];exact b a u ha e
def Qg:Sp:=fun vs H Q _=>∃(h g c:Addr) (gs cs:List Str) (gv:Kn) (rc:Rn) (x:Str) (a:Int),vs=[.int a, .ref h, .str x]/\Ek H h g c gs cs gv rc/\Ba gv rc [x] (kn0,[])/\
 (∀(t:Addr) (v:V) (H':Hp) (b:Kn×List Str),lu gv rc [x] (kn0,[]) b->aO H H'->H t=none->H' t=some (.tup [.str "told",v])->Q (.ref t) H')/\
 (∀e t H',mY gv rc [x] (kn0,[]) e->aO H H'->H t=none->ErT e t H'->Q (.ref t) H')
def Qh:Sp:=fun vs H Q _=>∃(p:Addr) (t:Nat) (z:Str),vs=[.ref p, .str z]/\mF H p t/\t<=2000/\
 ∀(a:Addr) (k:Nat) (H':Hp),But [p] H H'->mF H' p (t+1)->IsR H' a (jD k z)->Q (.ref a) H'
end RB
set_option maxRecDepth 100000
namespace L2
open PySem PySem.Spec PyProof.Rows RB
def afH (t:TS):TS:=fun D σ H=>∃N:St->Hp->Prop,(∀σ' H',N σ' H'->D.nx σ' H')/\t {D with nx:=N} σ H
theorem jM {X:Cx}{st:Stmt}{t:TS} (h:QS X st t):QS X st (afH t):=⟨by
 intro pins s σ H D I ⟨N,hN,q⟩
 refine thn (h.h pins s σ H _ I q) fun f s' q=> ?_
 cases f with
 | next=>obtain⟨σ',H',J,q⟩:=q;exact⟨σ',H',J,hN σ' H' q⟩
 | brk=>exact q
 | cont=>exact q
 | ret u=>exact q⟩
end L2
set_option maxRecDepth 100000
namespace L2
open PySem PySem.Spec PyProof.Rows RB
def GR (P:Program) (w:World) (A:Around) (s:Shared) (y x:Value) (b:Bool):Prop:=∀(E:Value->Shared->Prop) (Q:Bool->Shared->Prop),Q b s->wpAny (model P w) A (eqBool y x) Q E s
theorem GX {P:Program}{w:World} (a b:Addr) (x1 x2 y1 y2:Value) (b1 b2:Bool) (n m:Nat) (d1 d2:Option Addr) (t1 t2:Array (Option Value)):
 MeetsIn P w (Builtin.«tuple.__eq__» ⟨[.ref a, .ref b],[]⟩)
  (fun A R s=>s.heap.get? a=some {cls:= .type "tuple",dict:=d1,data:= .seq #[x1,x2] n,slots:=t1}/\s.heap.get? b=some {cls:= .type "tuple",dict:=d2,data:= .seq #[y1,y2] m,slots:=t2}/\
    GR P w A.in1 s x1 y1 b1/\GR P w A.in1 s x2 y2 b2/\R (.ok (.ret (.bool (b1&&b2)))) s):=by
 intro A R s z
 obtain⟨hp,g,d,tk,os⟩:=s
 obtain⟨z1,z2,e1,e2,z⟩:=z
 have f2:=AutoSeq1.sub_tuple_tuple
 wp_walk using AutoSeq1.wpAny_loadPart' z1,AutoSeq1.wpAny_loadPart' z2,wpAny_forIn_list _ (fun rest c s'=>s'=⟨hp,g,d,tk,os⟩/\(c.1=none/\(rest=[(x1,y1),(x2,y2)]\/(rest=[(x2,y2)]/\b1=true)\/(rest=[]/\b1=true/\b2=true))\/False)) _
 case turn=>
  rintro⟨y,x⟩ rest c s' ⟨rfl,⟨hc,h⟩ | hf⟩
  ·rcases h with h | ⟨h,hb⟩ | ⟨h,_⟩
   ·cases h
    refine wpAny_bind (e1 _ _ ?_)
    cases b1 with
    | true=>
      wp_walk
      exact⟨rfl, .inl ⟨rfl, .inr (.inl ⟨rfl,rfl⟩)⟩⟩
    | false=>
      wp_walk
      exact z
   ·cases h
    refine wpAny_bind (e2 _ _ ?_)
    cases b2 with
    | true=>
      wp_walk
      exact⟨rfl, .inl ⟨rfl, .inr (.inr ⟨rfl,hb,rfl⟩)⟩⟩
    | false=>
      wp_walk
      rw[hb] at z
      exact z
   ·cases h
  ·cases hf
 case fin=>
  rintro⟨c1,c2⟩ s' ⟨rfl,⟨hc,h⟩ | hf⟩
  ·simp only at hc
   subst hc
   obtain⟨hb1,hb2⟩:b1=true/\b2=true:=by
    rcases h with h | ⟨h,_⟩ | ⟨_,h⟩
    ·cases h
    ·cases h
    ·exact h
   rw[hb1,hb2] at z
   wp_walk
   exact z
  ·cases hf
 case h=>exact⟨rfl, .inl ⟨rfl, .inl rfl⟩⟩
theorem GZ {P:Program}{w:World}{A:Around}{s:Shared}{E:Value->Shared->Prop}{Q:Value->Shared->Prop}{a b:Addr}{x1 x2 y1 y2:Value}{b1 b2:Bool} (ha:IsTup s.heap a #[x1,x2]) (hb:IsTup s.heap b #[y1,y2]) (h1:GR P w A.in1 s x1 y1 b1) (h2:GR P w A.in1 s x2 y2 b2) (hu:A.units<cLine) (q:Q (.bool (b1&&b2)) s):wpAny (model P w) A (compareOp .Eq (.ref a) (.ref b)) Q E s:=by
 obtain⟨⟨c1,d1,dt1,t1⟩,hp,hc1,n,hd1⟩:=ha
 obtain⟨⟨c2,d2,dt2,t2⟩,hq,hc2,m,hd2⟩:=hb
 simp only at hc1 hd1 hc2 hd2
 subst hc1 hd1 hc2 hd2
 have hT:s.TypeIs (.ref a) "tuple":=⟨_,hp,rfl⟩
 refine wpAny_richCompare_same_room (op:= .Eq) hT ⟨_,hq,rfl⟩ F.slot_tuple_eq (call_meetsIn F.slot_tuple_eq hT F.entry_tuple_eq (F.args_tuple_eq_2 _ _) (GX a b x1 x2 y1 y2 b1 b2 n m d1 d2 t1 t2) ⟨hp,hq,h1,h2, ?_⟩) hu
 exact⟨(fun x=>nomatch x),q⟩
end L2
set_option maxRecDepth 100000
namespace L2
open PySem PySem.Spec PyProof.Rows RB
theorem Hg {P:Program}{w:World} (a b:Addr) (x1 x2 y1 y2:Value) (n m:Nat) (d1 d2:Option Addr) (t1 t2:Array (Option Value)):
 MeetsIn P w (Builtin.«tuple.__eq__» ⟨[.ref a, .ref b],[]⟩)
  (fun A R s=>s.heap.get? a=some {cls:= .type "tuple",dict:=d1,data:= .seq #[x1,x2] n,slots:=t1}/\s.heap.get? b=some {cls:= .type "tuple",dict:=d2,data:= .seq #[y1,y2] m,slots:=t2}/\
    GR P w A.in1 s x1 y1 false/\R (.ok (.ret (.bool false))) s):=by
 intro A R s z
 obtain⟨hp,g,d,tk,os⟩:=s
 obtain⟨z1,z2,e1,z⟩:=z
 have f2:=AutoSeq1.sub_tuple_tuple
 wp_walk using AutoSeq1.wpAny_loadPart' z1,AutoSeq1.wpAny_loadPart' z2,wpAny_forIn_list _ (fun rest c s'=>s'=⟨hp,g,d,tk,os⟩/\c.1=none/\rest=[(x1,y1),(x2,y2)]) _
 case turn=>
  rintro⟨y,x⟩ rest c s' ⟨rfl,hc,h⟩
  cases h
  refine wpAny_bind (e1 _ _ ?_)
  wp_walk
  exact z
 case fin=>
  rintro⟨c1,c2⟩ s' ⟨rfl,hc,h⟩
  cases h
 case h=>exact⟨rfl,rfl,rfl⟩
theorem iD.u81 {k:Nat}{A:Around} (r:iD k A):A.units+80<cLine:=by have:=r.un;omega
def afI (K:PySem.W.Frag):R2:=fun x y H Q=>∃a b x1 x2 y1 y2,x= .ref a/\y= .ref b/\H a=some (.tup [x1,x2])/\H b=some (.tup [y1,y2])/\
 ((∃p q:Str,x1= .str p/\y1= .str q/\SeqAt.shaped (.str p)=true/\SeqAt.shaped (.str q)=true/\PyData.eqv (.str p) (.str q)=false/\Q (.bl false) H)\/(BZ K H x1 y1/\BZ K H x2 y2/\Q (.bl true) H))
theorem Uk {X:Cx} (hu:X.A.units+80<cLine):QOp X (compareOp .Eq) (afI X.K):=⟨fun pins s σ H x y v u Q I rx ry h=>by
 obtain⟨a,b,x1,x2,y1,y2,rfl,rfl,ha,hb,h⟩:=h
 cases rx
 cases ry
 obtain⟨us,ru,ta,_⟩:=I.tuple (SqT.of ha)
 obtain⟨ws,rw',tb,_⟩:=I.tuple (SqT.of hb)
 obtain⟨u1,u2,rfl,k1,k2⟩:=vals2 ru
 obtain⟨v1,v2,rfl,k4,k5⟩:=vals2 rw'
 rcases h with⟨p,q',rfl,rfl,s1,s2,ev,q⟩ | ⟨q1,q2,q⟩
 ·obtain⟨as,z1⟩:=(vD.str (K:=X.K) (H:=H) p).reads I k1
  obtain⟨bs,z2⟩:=(vD.str (K:=X.K) (H:=H) q').reads I k4
  have e1:=PySem.W.keq_at (A:=X.A) z1 z2 s1 s2 (by simp only[Around.in1_units];omega)
  rw[ev] at e1
  obtain⟨⟨c1,d1,dt1,t1⟩,hp,hc1,n,hd1⟩:=ta
  obtain⟨⟨c2,d2,dt2,t2⟩,hq,hc2,m,hd2⟩:=tb
  simp only at hc1 hd1 hc2 hd2
  subst hc1 hd1 hc2 hd2
  have hT:s.TypeIs (.ref a) "tuple":=⟨_,hp,rfl⟩
  refine wpAny_richCompare_same_room (op:= .Eq) hT ⟨_,hq,rfl⟩ F.slot_tuple_eq (call_meetsIn F.slot_tuple_eq hT F.entry_tuple_eq (F.args_tuple_eq_2 _ _) (Hg a b _ _ _ _ n m d1 d2 t1 t2) ⟨hp,hq,fun E Q q=>e1 X.prog X.w E Q q, ?_⟩) (by omega)
  exact⟨(fun x=>nomatch x),⟨.bl false,H,I,rfl,q⟩⟩
 ·refine GZ (b1:=true) (b2:=true) ta tb (fun E Q q=>El I k1 k4 q1 (by omega) E Q q) (fun E Q q=>El I k2 k5 q2 (by omega) E Q q) (by omega) ⟨.bl true,H,I,rfl,q⟩⟩
end L2
namespace RB
open PySem L2 PySem.Spec PyProof.Rows
def P12 (row:List Str) (last:Str) (rc:Rn) (j:Nat):Prop:=(∀i x,i<j->row[i]? =some x->∃k,rc x=some (jD k (wj row last i)))/\∀x,x∉row.take j->rc x=none
theorem P12.zero {row:List Str}{last:Str}:P12 row last (fun _=>none) 0:=⟨fun _ _ h=>absurd h (Nat.not_lt_zero _),fun _ _=>rfl⟩
theorem P12.step {row:List Str}{last:Str}{rc:Rn}{j:Nat}{x:Str}{k:Nat} (nd:row.Nodup) (h:P12 row last rc j) (hx:row[j]? =some x):P12 row last (rc.put x (jD k (wj row last j))) (j+1):=by
 refine⟨fun i y hi hy=> ?_,fun y hy=> ?_⟩
 ·by_cases e:i=j
  ·subst e
   rw[hx] at hy;cases hy
   exact⟨k,by unfold Rn.put;rw[if_pos rfl]⟩
  ·obtain⟨k',hk⟩:=h.1 i y (by omega) hy
   have hne:y≠x:=fun z=>e ((List.getElem?_inj (List.getElem?_eq_some_iff.mp hy).1 nd).mp (hy.trans (by rw[z];exact hx.symm)))
   exact⟨k',by unfold Rn.put;rw[if_neg hne];exact hk⟩
 ·rw[List.take_add_one,hx] at hy
  have h1:y∉row.take j:=fun z=>hy (List.mem_append_left _ z)
  have h2:y≠x:=fun z=>hy (List.mem_append_right _ (by rw[z];simp))
  unfold Rn.put
  rw[if_neg h2];exact h.2 y h1
theorem P12.full {n:Nat}{last:Str}{rc:Rn} (h:P12 (az.take n) last rc (az.take n).length):H12 (az.take n) last rc where
 nd:=Bg.sublist (List.take_sublist _ _)
 one:=fun z=>absurd (List.mem_of_mem_take z) (by decide +kernel)
 nix:=fun z=>absurd (List.mem_of_mem_take z) (by decide +kernel)
 r:=fun i x hx=>h.1 i x (List.getElem?_eq_some_iff.mp hx).1 hx
 n:=fun x hx=>h.2 x (by rw[List.take_length];exact hx)
end RB
set_option maxRecDepth 100000
namespace RB
open PySem L2 PySem.Spec PyProof.Rows
theorem xH:∀y∈p7,FT y:=by
 unfold FT Ol
 decide +kernel
theorem Ul {k:Nat}{z:Str} (h:z∈p7):(jD k z).Good:=by
 have h0:=xH z h
 have h1:=xH "one" (by decide +kernel)
 have h2:=xH "nix" (by decide +kernel)
 have h3:=xH "no" (by decide +kernel)
 have h4:=xH "never" (by decide +kernel)
 have n3:R.Good (.num 3):=by show(3:Int).natAbs<10 ^ 40;decide
 have n1:R.Good (.num 1):=by show(1:Int).natAbs<10 ^ 40;decide
 have n0:R.Good (.num 0):=by show(0:Int).natAbs<10 ^ 40;decide
 unfold jD
 split
 ·exact h0
 ·exact⟨h0,h1⟩
 ·exact⟨n3,h0⟩
 ·exact⟨h0,h1,h1⟩
 ·exact⟨n1,h0,h2⟩
 ·exact⟨n0,h2,n0,h0⟩
 ·refine⟨n3,Nat.le_of_ble_eq_true rfl,Nat.le_of_ble_eq_true rfl,fun x hx=> ?_⟩
  simp only[List.mem_cons,List.not_mem_nil,or_false] at hx
  rcases hx with rfl | rfl | rfl | rfl<;>assumption
 ·exact⟨h0,h1⟩
theorem Zo {k:Nat}{z:Str} (h:z∈p7):RcG (jD k z) where
 g:=jC (Ul h)
 d:=by unfold jD;split<;>exact Nat.le_of_ble_eq_true rfl
 w:=Qa (by unfold jD;split<;>exact Nat.le_of_ble_eq_true rfl)
 l:=by unfold jD;split<;>exact Nat.le_of_ble_eq_true rfl
theorem Um {H:Hp}{n:Nat}{o:Int}{la:Str}{rc:Rn}{h g c:Addr} (hl:la∈p7) (h12:H12 (az.take n) la rc) (eh:H h=some (.tup [.ref g, .ref c])) (eg:H g=some (.dK [(.inr "one", .int o)])) (hc:Rcs H c (az.take n) rc):Ek H h g c ["one"] (az.take n) (o6 o) rc:=by
 obtain⟨kc,ec,k,r,rn⟩:=hc
 refine⟨_,kc,eh,eg,ec,⟨rfl,by decide +kernel⟩,k, ?_,fun x=> ?_,r,rn,fun x r' e=> ?_⟩
 ·rw[List.length_take]
  show 1+min n 12<=60
  omega
 ·unfold o6
  by_cases h1:x="one"
  ·rw[if_pos h1,h1];rfl
  ·rw[if_neg h1,gR (fun z=>h1 (Sum.inr.inj z).symm)]
   rfl
 ·by_cases hy:x∈az.take n
  ·obtain⟨i,hi⟩:=List.getElem?_of_mem hy
   obtain⟨k',hk⟩:=h12.r i x hi
   rw[e] at hk;cases hk
   exact Zo (KY (fun y hy=>Bh y (List.mem_of_mem_take hy)) hl hi)
  ·rw[h12.n x hy] at e;cases e
def um (n b j:Nat) (x:Str):Er:=if b<n then .ring (Bf (az.take n) b j x) else .no "nix"
def acA (n b j:Nat) (x:Str) (t:Addr) (H:Hp):Prop:=(b<=n/\ErT (um n b j x) t H)\/(b=n+1/\∃v,H t=some (.tup [.str "told",v]))
section
variable {n b j:Nat}{o:Int}{la x:Str}{rc:Rn}
theorem Qi (hn:n<=12) (hla:(az.take n++(["nix","one"]:List Str))[b]? =some la) (hb:b<n):(az.take n)[b]? =some la:=by
 rw[List.getElem?_append_left (by rw[List.length_take];show b<min n 12;omega)] at hla;exact hla
theorem afJ (hn:n<=12) (hla:(az.take n++(["nix","one"]:List Str))[b]? =some la) (hb:b=n):la="nix":=by
 rw[List.getElem?_append_right (by rw[List.length_take];show min n 12<=b;omega),List.length_take,hb,show n - min n az.length=0 by show n - min n 12=0;omega] at hla
 exact(Option.some.inj hla).symm
theorem acB (hn:n<=12) (hla:(az.take n++(["nix","one"]:List Str))[b]? =some la) (hb:b=n+1):la="one":=by
 rw[List.getElem?_append_right (by rw[List.length_take];show min n 12<=b;omega),List.length_take,hb,show n+1 - min n az.length=1 by show n+1 - min n 12=1;omega] at hla
 exact(Option.some.inj hla).symm
theorem Ws (hn:n<=12) (hla:(az.take n++(["nix","one"]:List Str))[b]? =some la):la∈p7:=by
 rcases List.mem_append.mp (List.mem_of_getElem? hla) with z | z
 ·exact Bh _ (List.mem_of_mem_take z)
 ·have:∀y∈(["nix","one"]:List Str),y∈p7:=by decide +kernel
  exact this _ z
theorem Wt (hn:n<=12) (hla:(az.take n++(["nix","one"]:List Str))[b]? =some la) (h:H12 (az.take n) la rc) (hb:b<=n) (hx:(az.take n)[j]? =some x):∃t,fB (o6 o) rc ([x],kn0,[]) t/\gP (o6 o) rc t=some (um n b j x):=by
 unfold um
 by_cases hbn:b<n
 ·rw[if_pos hbn];exact Ji h hx (Qi hn hla hbn)
 ·rw[if_neg hbn]
  have:=afJ hn hla (by omega)
  subst this
  exact Qe h hx
theorem Uo (hn:n<=12) (hla:(az.take n++(["nix","one"]:List Str))[b]? =some la) (h:H12 (az.take n) la rc) (hx:(az.take n)[j]? =some x):Ba (o6 o) rc [x] (kn0,[]):=
 Zn h (fun y hy=>Bh y (List.mem_of_mem_take hy)) (Ws hn hla) (List.mem_of_getElem? hx)
theorem Zq (hn:n<=12) (hb:b<n+2) (hla:(az.take n++(["nix","one"]:List Str))[b]? =some la) (h:H12 (az.take n) la rc) (hx:(az.take n)[j]? =some x) {c:Kn×List Str} (ru:lu (o6 o) rc [x] (kn0,[]) c):b=n+1:=by
 by_cases hbn:b<=n
 ·exact(lu.one (Wt (o:=o) hn hla h hbn hx) ru).elim
 ·omega
theorem Zr (hn:n<=12) (hb:b<n+2) (hla:(az.take n++(["nix","one"]:List Str))[b]? =some la) (h:H12 (az.take n) la rc) (hx:(az.take n)[j]? =some x) {e:Er} (ru:mY (o6 o) rc [x] (kn0,[]) e):b<=n/\e=um n b j x:=by
 by_cases hbn:b<=n
 ·exact⟨hbn,mY.one (Wt (o:=o) hn hla h hbn hx) ru⟩
 ·have:=acB hn hla (by omega)
  subst this
  obtain⟨c,m⟩:=Zm (o:=o) h hx
  exact(mY.none m ru).elim
theorem Qj (hn:n<=12) (hb:b<n) (hx:(az.take n)[j]? =some x):∀y∈Bf (az.take n) b j x,PyData.strOk y=true:=fun y hy=>by
 have key:∀y∈az,PyData.strOk y=true:=by decide +kernel
 have r:∀y∈az.take n,y∈az:=fun y h=>List.mem_of_mem_take h
 have hbl:b<(az.take n).length:=by rw[List.length_take];show b<min n 12;omega
 unfold Bf at hy
 by_cases hj:j<=b
 ·rw[if_pos hj] at hy
  rcases List.mem_append.mp hy with z | z
  ·exact key y (r y (List.mem_of_mem_drop z))
  ·rw[List.getElem?_eq_getElem hbl] at z
   rw[show y=(az.take n)[b] by simpa using z]
   exact key _ (r _ (List.getElem_mem hbl))
 ·rw[if_neg hj] at hy
  rcases List.mem_append.mp hy with z | z
  ·rcases List.mem_append.mp (List.mem_of_mem_drop (List.mem_of_mem_take z)) with z | z<;>exact key y (r y (List.mem_of_mem_drop z))
  ·rw[show y=x by simpa using z]
   exact key _ (r _ (List.mem_of_getElem? hx))
theorem er5 {K:PySem.W.Frag}{H:Hp}{t d:Addr} (hn:n<=12) (hx:(az.take n)[j]? =some x) (h1:ErT (um n b j x) t H) (h2:ErT (um n b j x) d H):∃x1 x2 y1 y2,H t=some (.tup [x1,x2])/\H d=some (.tup [y1,y2])/\BZ K H x1 y1/\BZ K H x2 y2:=by
 unfold um at h1 h2
 by_cases hb:b<n
 ·rw[if_pos hb] at h1 h2
  obtain⟨l,e1,e2⟩:=h1
  obtain⟨l',e3,e4⟩:=h2
  exact⟨_,_,_,_,e1,e3, .inr ⟨.str "ring", .str _, .str _,by decide +kernel⟩,acu e2 e4 (Qj hn hb hx)⟩
 ·rw[if_neg hb] at h1 h2
  exact⟨_,_,_,_,h1,h2, .inr ⟨.str "none", .str _, .str _,by decide +kernel⟩, .inr ⟨.str "nix", .str _, .str _,by decide +kernel⟩⟩
end
end RB
set_option maxHeartbeats 4000000
namespace K12
open PySem L2 PySem.Spec PyProof.Rows RB
local macro_rules | `(tactic| walk_at "ne") => `(tactic| first | assumption | exact Ne.symm (by assumption) | exact aC (by assumption) (by assumption) | exact Ne.symm (aC (by assumption) (by assumption)))
local macro_rules | `(tactic| walk_at "heap") => `(tactic| first | assumption | exact ak | (refine (ao (by walk_at "ne")).trans ?_; walk_at "heap"))
local macro_rules | `(tactic| walk_at "side") => `(tactic| first | with_reducible rfl | rfl | assumption | exact SqL.of (by walk_at "heap") | exact SqT.of (by walk_at "heap") | exact Or.inl (SqL.of (by walk_at "heap")) | exact Or.inr (SqT.of (by walk_at "heap")) | exact nU.str _ | exact nU.int _ | exact nU.bl _ | exact nU.tup (by walk_at "heap") | exact Or.inl ⟨rfl, _, SqL.of (by walk_at "heap")⟩ | exact Or.inl ⟨_, SqL.of (by walk_at "heap"), rfl⟩ | exact acC _ | exact Or.inl (by assumption) | exact Or.inr (by assumption) | walk_at "heap" | omega | (show _ ≤ sizeLine; decide) | (show _ < sizeLine; decide) | exact Or.inr ⟨by decide, by decide⟩ | exact Or.inl ⟨by decide, by decide⟩ | exact Or.inl ⟨by omega, by omega⟩ | exact Or.inr ⟨by omega, by omega⟩ | exact ⟨by omega, by decide⟩ | exact ⟨by omega, by assumption⟩ | exact ⟨by decide, by decide, by decide⟩ | exact ⟨_, SqT.of (by walk_at "heap")⟩ | exact ⟨_, SqL.of (by walk_at "heap")⟩ | (intro z; exact absurd (show (1 : Nat) = 0 from z.1) (by decide)) | (show Nat.log2 _ < 9000; decide +kernel) | ((rw [sizeLine_eq]); (try simp only [len_app]); omega) | exact Nat.le_of_lt (cC (by (simp only [List.length_cons, List.length_nil]); omega)) | decide +kernel)
local macro_rules | `(tactic| walk_at "v") => `(tactic| first
 | ((apply Exists.intro); (repeat apply Exists.intro); (refine And.intro ?_ ?_); walk_at "side")
 | ((refine And.intro ?_ ?_); walk_at "side"))
local macro_rules | `(tactic| walk_at "vs") => `(tactic| repeat walk_at "v")
def top (i:Nat):Stmt:=PySem.Challenge.pw_madeagain_k12_rings_and_names_refused.main.body.getD i (.Pass ⟨0,0,0,0⟩)
def uo (i j:Nat):Stmt:=match top i with
 | .ClassDef _ _ _ b _ _ _ _ _ _ _=>b.getD j (.Pass ⟨0,0,0,0⟩)
 | _=> .Pass ⟨0,0,0,0⟩
section
local macro_rules | `(tactic| walk_at "side") => `(tactic| first | exact Eb _ _ _ | exact Ag _ _ _ | exact Ah _ _ _ | exact V9 _ _ _ | exact xq _ _ _ | exact Nat.le_of_ble_eq_true rfl)
variable {P:Program}{w:World}{K:PySem.W.Frag}{mg:Str->Option Value}{base:Heap}{C:Addr}
abbrev iZ:Stmt:=top 11
theorem MJ:bM ["kind","r","s"] ["kind","r","s"] (aa iZ):=⟨rfl,rfl,rfl,by decide +kernel,rfl,by decide +kernel,by decide +kernel⟩
theorem mZ:aF (aa iZ) "kind":=by decide +kernel
theorem oO:aF (aa iZ) "r":=by decide +kernel
theorem oR:aF (aa iZ) "s":=by decide +kernel
theorem Ce:(aa iZ).names.lookup ("max":Str)=some NameKind.globalImplicit:=by decide +kernel
theorem Cg:("max":Str)≠"__name__":=by decide +kernel
theorem Ci:(("max":Str)==("__debug__":Str))=false:=by decide +kernel
theorem MK {f:Addr}{fd:FuncData} (lA:FnT K mg "joined" iZ ["kind","r","s"] f fd) (T:Blt mg):bI P w K mg base CX0 1 f fd ["kind","r","s"] Kl:=by
 refine lA.F.okQ MJ (fun vs H Q E h=> ?_) (fun cdv A outer s H vs Q E hr h=> ?_)
 ·obtain⟨op,u,v,rfl,_⟩:=h
  rfl
 obtain⟨op,u,v,rfl,hm,q⟩:=h
 refine⟨_,(aA (eU (fP iY (aj 0 mZ) aD (cQ _)) (aB (cJ (dF jB (aj 1 oO) (aj 2 oR)))) dD)
  (aA (eU (fP iY (aj 0 mZ) aD (cQ _)) (aB (cJ (dF DY (aj 1 oO) (aj 2 oR)))) dD)
  (aA (eU (fP iY (aj 0 mZ) aD (cQ _)) (aB (cJ (dF qO (aj 1 oO) (aj 2 oR)))) dD)
  (aB (cJ (bF (Kg rfl) Ce T.V8 Oa (aX (aj 1 oO) (aX (aj 2 oR) au)) Cg Ci)))))), ?_⟩
 cases op with
 | plus=>walk_at "vs";exact q
 | minus=>walk_at "vs";exact q
 | times=>
   have hm:=hm rfl
   walk_at "vs";exact q
 | most=>walk_at "vs";exact q
abbrev bO:Stmt:=uo 12 0
theorem rY:bM ["self","r"] ["self","r"] (aa bO):=⟨rfl,rfl,rfl,by decide +kernel,rfl,by decide +kernel,by decide +kernel⟩
theorem fV:aF (aa bO) "self":=by decide +kernel
theorem p8:aF (aa bO) "r":=by decide +kernel
theorem rZ {f:Addr}{fd:FuncData} (dB:eV K C "__init__" "Reckoning.__init__" bO ["self","r"] f fd) (rc:RkC K C):bI P w K mg base CX0 1 f fd ["self","r"] (Gb C):=by
 refine dB.F.okQ rY (fun vs H Q E h=> ?_) (fun cdv A outer s H vs Q E hr h=> ?_)
 ·obtain⟨a,dx,b,r,rfl,_⟩:=h
  rfl
 obtain⟨a,dx,b,r,rfl,e,hR,hw,q⟩:=h
 have jE:=rc.cl
 have nT:=rc.nT
 have nF:=rc.nF
 have nR:=rc.nR
 refine⟨_,(aA (jl (aj 0 fV) (gJ (aX (aj 1 p8) au)))
  (aA (jl (aj 0 fV) (gJ au))
  (aB (jl (aj 0 fV) kY)))), ?_⟩
 walk_at "vs"
 intro a1 h1
 have e1:upd H a1 (.lst [V.ref b]) a=some (.ins C dx []):=(ao (aC e h1)).trans e
 walk_at "vs"
 intro a2 h2
 obtain⟨n2a,h2⟩:=fH h2
 obtain⟨n21,h2⟩:=fH h2
 have e2:upd (upd (upd H a1 (.lst [V.ref b])) a (.ins C dx (aP "todo" (.ref a1) []))) a2 (.lst []) a=some (.ins C dx (aP "todo" (.ref a1) [])):=(ao (Ne.symm n2a)).trans ak
 walk_at "vs"
 intro a3 h3
 obtain⟨n3a,h3⟩:=fH h3
 obtain⟨n32,h3⟩:=fH h3
 obtain⟨_,h3⟩:=fH h3
 obtain⟨n31,h3⟩:=fH h3
 have e3:upd (upd (upd (upd (upd H a1 (.lst [V.ref b])) a (.ins C dx (aP "todo" (.ref a1) []))) a2 (.lst [])) a (.ins C dx (aP "found" (.ref a2) (aP "todo" (.ref a1) [])))) a3 (.dK []) a=some (.ins C dx (aP "found" (.ref a2) (aP "todo" (.ref a1) []))):=(ao (Ne.symm n3a)).trans ak
 walk_at "vs"
 have n1a:a1≠a:=fun z=>by rw[z,e] at h1;cases h1
 refine q a1 a2 a3 _ (fun p o hp z=> ?_) h1 h2 h3 ⟨ak,⟨[.ref b], ?_, .cons (.r ?_) .nil⟩, ?_, ?_,Ne.symm n21, ?_⟩
 ·have hp:p≠a:=by simpa using hp
  rw[ao hp,ao (aC z h3),ao hp,ao (aC z h2),ao hp,ao (aC z h1)];exact z
 ·rw[ao n1a,ao (Ne.symm n31),ao n1a,ao (Ne.symm n21),ao n1a];exact ak
 ·refine hR.tups fun p xs z=> ?_
  have hp:p≠a:=fun y=>by rw[y,e] at z;cases z
  rw[ao hp,ao (aC z h3),ao hp,ao (aC z h2),ao hp,ao (aC z h1)];exact z
 ·rw[ao n2a,ao (Ne.symm n32),ao n2a];exact ak
 ·rw[ao n3a];exact ak
 ·show 0+0+2 *(wR r+0)<=10000;omega
abbrev aG:Stmt:=uo 12 2
theorem fW:bM ["self","step","kind","names","s","r"] ["self","step"] (aa aG):=⟨rfl,rfl,rfl,by decide +kernel,rfl,by decide +kernel,by decide +kernel⟩
theorem qb:Loc (aa aG) "kind":=by decide +kernel
theorem aH:aF (aa aG) "step":=by decide +kernel
theorem bR:aF (aa aG) "kind":=by decide +kernel
theorem aQ:aF (aa aG) "self":=by decide +kernel
theorem o7:Loc (aa aG) "names":=by decide +kernel
theorem jr:aF (aa aG) "names":=by decide +kernel
theorem qU:(aa aG).names.lookup ("len":Str)=some NameKind.globalImplicit:=by decide +kernel
theorem qW:("len":Str)≠"__name__":=by decide +kernel
theorem qX:(("len":Str)==("__debug__":Str))=false:=by decide +kernel
theorem uq:Loc (aa aG) "s":=by decide +kernel
theorem ur:Loc (aa aG) "r":=by decide +kernel
theorem nY:(aa aG).names.lookup ("joined":Str)=some NameKind.globalImplicit:=by decide +kernel
theorem uv:aF (aa aG) "s":=by decide +kernel
theorem uw:aF (aa aG) "r":=by decide +kernel
theorem nZ:(("joined":Str)==("__debug__":Str))=false:=by decide +kernel
theorem wk {f g:Addr}{fd gd:FuncData} (dI:eV K C "go_on" "Reckoning.go_on" aG ["self","step"] f fd) (lA:FnT K mg "joined" iZ ["kind","r","s"] g gd) (Qk:bI P w K mg base CX0 1 g gd ["kind","r","s"] Kl)
 (T:Blt mg) (rc:RkC K C):bI P w K mg base CX0 2 f fd ["self","step"] (ach C):=by
 refine dI.F.okQ fW (fun vs H Q E h=> ?_) (fun cdv A outer s H vs Q E hr h=> ?_)
 ·obtain⟨a,dx,a1,a2,a3,v,s,t,f,d,kn,c,rfl,_⟩:=h
  rfl
 obtain⟨a,dx,a1,a2,a3,v,st,t,fo,d,kn,c,rfl,rca,hst,hno,h1,hw,q⟩:=h
 have jE:=rc.cl
 have nT:=rc.nT
 have nF:=rc.nF
 have nR:=rc.nR
 have n13:=rca.n13
 have n23:=rca.n23
 obtain⟨e,⟨ws,e1,hws⟩,e2,e3,ne,hw0⟩:=id rca
 have e2:H a2=some (.lst (fo.map V.int)):=e2
 have e3:H a3=some (.dK (rdK d)):=e3
 refine⟨_,(aA (bQ (i:=2) fW.nd rfl qb (cT bZ (aj 1 aH) aJ))
  (aB (eU (fP iY (aj 2 bR) aD (cQ _)) (aB (eG (oH PySem.F.plainAttrs_list PySem.F.slot_list_append PySem.F.type_list_append gK (bz (aj 0 aQ)) (oZ (cT bZ (aj 1 aH) aJ) au)))) (aB (eU (fP iY (aj 2 bR) aD (cQ _)) (aB (eG (oH PySem.F.plainAttrs_list PySem.F.slot_list_extend PySem.F.type_list_extend vZ (bz (aj 0 aQ)) (Ot (gJ (j6 (cB (cR aD (oZ (cT bZ (aj 1 aH) aJ) (oZ (cT bZ (aj 1 aH) aJ) au)))) (oZ (cT bZ (aj 1 aH) aJ) au))) au)))) (aB (eU (fP iY (aj 2 bR) aD (cQ _)) (aB (eG (oH PySem.F.plainAttrs_list PySem.F.slot_list_extend PySem.F.type_list_extend vZ (bz (aj 0 aQ)) (Ot (gJ (j6 (cB (cR aD (oZ (cT bZ (aj 1 aH) aJ) au))) (oZ (cT bZ (aj 1 aH) aJ) au))) au)))) (aB (eU (fP iY (aj 2 bR) aD (cQ _)) (aB (eG (oH PySem.F.plainAttrs_list PySem.F.slot_list_append PySem.F.type_list_append gK (bz (aj 0 aQ)) (afB (FJ (fP Ik (yj PySem.F.plainAttrs_list PySem.F.slot_list_pop PySem.F.type_list_pop vh (bz (aj 0 aQ))) aJ (cQ _)) (cT bZ (aj 1 aH) aJ) (cT bZ (aj 1 aH) aJ)) au)))) (aB (eU (fP iY (aj 2 bR) aD (cQ _)) (aA (bQ (i:=3) fW.nd rfl o7 (cT bZ (aj 1 aH) aJ))
  (aB (eG (oH PySem.F.plainAttrs_list PySem.F.slot_list_append PySem.F.type_list_append gK (bz (aj 0 aQ)) (j6 (cB (cR aD (oZ (cT bZ (aj 3 jr) (dF oJ (yj PySem.F.plainAttrs_list PySem.F.slot_list_pop PySem.F.type_list_pop vh (bz (aj 0 aQ))) (bF fQ qU T.tW mV (aX (aj 3 jr) au) qW qX))) au))) au))))) (aB (eU (fP iY (aj 2 bR) aD (cQ _)) (aA (bQ (i:=4) fW.nd rfl uq (yj PySem.F.plainAttrs_list PySem.F.slot_list_pop PySem.F.type_list_pop vh (bz (aj 0 aQ))))
  (aA (bQ (i:=5) fW.nd rfl ur (yj PySem.F.plainAttrs_list PySem.F.slot_list_pop PySem.F.type_list_pop vh (bz (aj 0 aQ))))
  (aB (eG (oH PySem.F.plainAttrs_list PySem.F.slot_list_append PySem.F.type_list_append gK (bz (aj 0 aQ)) (tX (gF (Qk.mono (by omega)) hr nY lA.m lA.F.kp lA.b .nil gA (oZ (cT bZ (aj 1 aH) aJ) (aX (aj 5 uw) (aX (aj 4 uv) au))) nZ) au)))))) (aB (eG (oH PySem.F.plainAttrs_list PySem.F.slot_list_extend PySem.F.type_list_extend vZ (bz (aj 0 aQ)) (Ot (gJ (j6 (cB (cR aD (aX (aj 2 bR) au))) (oZ (cT bZ (aj 1 aH) aJ) (oZ (cT bZ (aj 1 aH) aJ) au)))) au))))))))))))))))), ?_⟩
 have hi:=h1.inv _ _ rfl
 have hlw:ws.length=t.length:=hws.length
 have hlt:=Io t
 have hw1:d.length+fo.length+2 * wT t<=10000:=hw0
 cases hst with
 | @r b r hr'=>
   cases hr' with
   | @num _ n eb=>
     have hi:c=⟨t,fo++[n],d⟩:=hi
     have hz:(fo.map V.int).length<sizeLine:=by rw[List.length_map,sizeLine_eq];omega
     subst hi
     walk_at "vs"
     have b:But [a1,a2,a3] H (upd H a2 (.lst (fo.map V.int++[V.int n]))):=But.set _ (by simp)
     exact q _ b (rca.next b ((ao ne).trans e1) (hws.tups (rca.lists b)) (by rw[ak,List.map_append];rfl) ((ao (Ne.symm n23)).trans e3) hw)
   | rd eb=>exact absurd rfl (hno _)
   | @bin _ x y op ra rb eb hx hy=>
     have hi:c=⟨t++[.join op, .r rb, .r ra],fo,d⟩:=hi
     subst hi
     have hz:∀p:Addr,ws.length+[V.ref p,V.ref y,V.ref x].length<=sizeLine:=fun p=>by rw[sizeLine_eq];show ws.length+3<=_;omega
     have agJ:atI [V.str op.word,V.ref x,V.ref y] 0=some (.str op.word):=jJ (j:=0) rfl
     have agK:atI [V.str op.word,V.ref x,V.ref y] 1=some (.ref x):=jJ (j:=1) rfl
     have agL:atI [V.str op.word,V.ref x,V.ref y] 2=some (.ref y):=jJ (j:=2) rfl
     have fin:∀p1 p2,H p1=none->upd H p1 (.tup [V.str "join",V.str op.word]) p2=none->Q .non (upd (upd (upd H p1 (.tup [V.str "join",V.str op.word])) p2 (.lst [V.ref p1,V.ref y,V.ref x])) a1 (.lst (ws++[V.ref p1,V.ref y,V.ref x]))):=fun p1 p2 h1 h2=>by
      have b:But [a1,a2,a3] H (upd (upd (upd H p1 (.tup [V.str "join",V.str op.word])) p2 (.lst [V.ref p1,V.ref y,V.ref x])) a1 (.lst (ws++[V.ref p1,V.ref y,V.ref x]))):=(But.new _ h1).trans ((But.new _ h2).trans (But.set _ (by simp)))
      have tp:=rca.lists b
      have n1:p1≠a1:=fun z=>by rw[z,e1] at h1;cases h1
      have n2:p1≠p2:=fun z=>by rw[<-z,ak] at h2;cases h2
      have h2':=(fH h2).2
      refine q _ b (rca.next b ak ((hws.tups tp).app (.cons (.join ?_) (.cons (.r (hy.tups tp)) (.cons (.r (hx.tups tp)) .nil)))) ?_ ?_ hw)
      ·rw[ao n1,ao n2];exact ak
      ·rw[ao (Ne.symm ne),ao (aC e2 h2'),ao (aC e2 h1)];exact e2
      ·rw[ao (Ne.symm n13),ao (aC e3 h2'),ao (aC e3 h1)];exact e3
     have ex1:∀p1,H p1=none->upd H p1 (.tup [V.str "join",V.str op.word]) a1=some (.lst ws):=fun p1 h1=>(ao (aC e1 h1)).trans e1
     have ex2:∀p1 p2,H p1=none->upd H p1 (.tup [V.str "join",V.str op.word]) p2=none->upd (upd H p1 (.tup [V.str "join",V.str op.word])) p2 (.lst [V.ref p1,V.ref y,V.ref x]) a1=some (.lst ws):=fun p1 p2 h1 h2=>(ao (aC (ex1 p1 h1) h2)).trans (ex1 p1 h1)
     have ez:∀p1,H p1=none->upd H p1 (.tup [V.str "join",V.str op.word]) b=some (.tup [V.str op.word,V.ref x,V.ref y]):=fun p1 h1=>(ao (aC eb h1)).trans eb
     cases op with
     | plus=>
       walk_at "vs"
       intro p1 h1
       have ez1:=ez p1 h1
       walk_at "vs"
       intro p2 h2
       have ex:=ex2 p1 p2 h1 h2
       have hz1:=hz p1
       walk_at "vs"
       exact fin p1 p2 h1 h2
     | minus=>
       walk_at "vs"
       intro p1 h1
       have ez1:=ez p1 h1
       walk_at "vs"
       intro p2 h2
       have ex:=ex2 p1 p2 h1 h2
       have hz1:=hz p1
       walk_at "vs"
       exact fin p1 p2 h1 h2
     | times=>
       walk_at "vs"
       intro p1 h1
       have ez1:=ez p1 h1
       walk_at "vs"
       intro p2 h2
       have ex:=ex2 p1 p2 h1 h2
       have hz1:=hz p1
       walk_at "vs"
       exact fin p1 p2 h1 h2
     | most=>
       walk_at "vs"
       intro p1 h1
       have ez1:=ez p1 h1
       walk_at "vs"
       intro p2 h2
       have ex:=ex2 p1 p2 h1 h2
       have hz1:=hz p1
       walk_at "vs"
       exact fin p1 p2 h1 h2
   | @pick _ x y z ra rb rc eb hx hy hz0=>
     have hi:c=⟨t++[.branch rb rc, .r ra],fo,d⟩:=hi
     subst hi
     have hz:∀p:Addr,ws.length+[V.ref p,V.ref x].length<=sizeLine:=fun p=>by rw[sizeLine_eq];show ws.length+2<=_;omega
     walk_at "vs"
     intro p1 h1
     have ez1:upd H p1 (.tup [V.str "branch",V.ref y,V.ref z]) b=some (.tup [V.str "pick",V.ref x,V.ref y,V.ref z]):=(ao (aC eb h1)).trans eb
     walk_at "vs"
     intro p2 h2
     have ex:upd (upd H p1 (.tup [V.str "branch",V.ref y,V.ref z])) p2 (.lst [V.ref p1,V.ref x]) a1=some (.lst ws):=(ao (aC e1 (fH h2).2)).trans ((ao (aC e1 h1)).trans e1)
     have hz1:=hz p1
     walk_at "vs"
     have b:But [a1,a2,a3] H (upd (upd (upd H p1 (.tup [V.str "branch",V.ref y,V.ref z])) p2 (.lst [V.ref p1,V.ref x])) a1 (.lst (ws++[V.ref p1,V.ref x]))):=(But.new _ h1).trans ((But.new _ h2).trans (But.set _ (by simp)))
     have tp:=rca.lists b
     have n1:p1≠a1:=fun z=>by rw[z,e1] at h1;cases h1
     have n2:p1≠p2:=fun z=>by rw[<-z,ak] at h2;cases h2
     have h2':=(fH h2).2
     refine q _ b (rca.next b ak ((hws.tups tp).app (.cons (.branch (by rw[ao n1,ao n2];exact ak) (hy.tups tp) (hz0.tups tp)) (.cons (.r (hx.tups tp)) .nil))) ?_ ?_ hw)
     ·rw[ao (Ne.symm ne),ao (aC e2 h2'),ao (aC e2 h1)];exact e2
     ·rw[ao (Ne.symm n13),ao (aC e3 h2'),ao (aC e3 h1)];exact e3
   | @cho _ x y ra ns eb hx hy=>
     have hi:c=⟨t++[.among ns, .r ra],fo,d⟩:=hi
     subst hi
     have hz:∀p:Addr,ws.length+[V.ref p,V.ref x].length<=sizeLine:=fun p=>by rw[sizeLine_eq];show ws.length+2<=_;omega
     walk_at "vs"
     intro p1 h1
     have ez1:upd H p1 (.tup [V.str "among",V.ref y]) b=some (.tup [V.str "choose",V.ref x,V.ref y]):=(ao (aC eb h1)).trans eb
     walk_at "vs"
     intro p2 h2
     have ex:upd (upd H p1 (.tup [V.str "among",V.ref y])) p2 (.lst [V.ref p1,V.ref x]) a1=some (.lst ws):=(ao (aC e1 (fH h2).2)).trans ((ao (aC e1 h1)).trans e1)
     have hz1:=hz p1
     walk_at "vs"
     have b:But [a1,a2,a3] H (upd (upd (upd H p1 (.tup [V.str "among",V.ref y])) p2 (.lst [V.ref p1,V.ref x])) a1 (.lst (ws++[V.ref p1,V.ref x]))):=(But.new _ h1).trans ((But.new _ h2).trans (But.set _ (by simp)))
     have tp:=rca.lists b
     have n1:p1≠a1:=fun z=>by rw[z,e1] at h1;cases h1
     have n2:p1≠p2:=fun z=>by rw[<-z,ak] at h2;cases h2
     have h2':=(fH h2).2
     refine q _ b (rca.next b ak ((hws.tups tp).app (.cons (.among (by rw[ao n1,ao n2];exact ak) (tp _ _ hy)) (.cons (.r (hx.tups tp)) .nil))) ?_ ?_ hw)
     ·rw[ao (Ne.symm ne),ao (aC e2 h2'),ao (aC e2 h1)];exact e2
     ·rw[ao (Ne.symm n13),ao (aC e3 h2'),ao (aC e3 h1)];exact e3
 | @branch b x y ra rb eb hx hy=>
   obtain⟨g,v,hf,hi⟩:=hi
   have hf:fo=g++[v]:=hf
   subst hf
   subst hi
   have hl:((g++[v]).map V.int)[((g++[v]).map V.int).length - 1]? =some (.int v):=by rw[List.map_append,List.length_append];exact List.getElem?_concat_length
   have hd:((g++[v]).map V.int).dropLast=g.map V.int:=by rw[List.map_append];exact List.dropLast_concat
   have hz:ws.length<sizeLine:=by rw[sizeLine_eq];omega
   walk_at "vs"
   rw[hd]
   have nb:b≠a2:=fun z=>by rw[z,e2] at eb;cases eb
   have eb1:upd H a2 (.lst (g.map V.int)) b=some (.tup [V.str "branch",V.ref x,V.ref y]):=(ao nb).trans eb
   have e11:upd H a2 (.lst (g.map V.int)) a1=some (.lst ws):=(ao ne).trans e1
   have fin:∀(z:Addr) (rz:R),IsR H z rz->rz=(if v>0 then ra else rb)->Q .non (upd (upd H a2 (.lst (g.map V.int))) a1 (.lst (ws++[V.ref z]))):=fun z rz hz1 hz2=>by
    subst hz2
    have b:But [a1,a2,a3] H (upd (upd H a2 (.lst (g.map V.int))) a1 (.lst (ws++[V.ref z]))):=(But.set _ (by simp)).trans (But.set _ (by simp))
    have tp:=rca.lists b
    exact q _ b (rca.next b ak ((hws.tups tp).app (.cons (.r (hz1.tups tp)) .nil)) ((ao (Ne.symm ne)).trans ak) ((ao (Ne.symm n13)).trans ((ao (Ne.symm n23)).trans e3)) hw)
   by_cases hv:0<v
   ·refine ab7 hv ?_
    walk_at "vs"
    exact fin x ra hx (if_pos hv).symm
   ·refine ab8 hv ?_
    walk_at "vs"
    exact fin y rb hy (if_neg hv).symm
 | @among b x ns eb hx=>
   obtain⟨g,v,y,hf,hy,hi⟩:=hi
   have hf:fo=g++[v]:=hf
   subst hf
   subst hi
   have hl:((g++[v]).map V.int)[((g++[v]).map V.int).length - 1]? =some (.int v):=by rw[List.map_append,List.length_append];exact List.getElem?_concat_length
   have hd:((g++[v]).map V.int).dropLast=g.map V.int:=by rw[List.map_append];exact List.dropLast_concat
   have hz:ws.length<sizeLine:=by rw[sizeLine_eq];omega
   have hln:(ns.map V.str).length=ns.length:=List.length_map _
   have hpos:0<((ns.map V.str).length:Int):=by
    rw[hln]
    cases ns with
    | nil=>simp[pY] at hy
    | cons n ns=>simp only[List.length_cons];omega
   have hat:atI (ns.map V.str) (v % ((ns.map V.str).length:Int))=some (.str y):=by
    rw[hln] at hpos ⊢
    have z0:=Int.emod_nonneg v (show(ns.length:Int)≠0 by omega)
    obtain⟨k,hk⟩:=Int.eq_ofNat_of_zero_le z0
    unfold pY at hy
    rw[hk] at hy ⊢
    exact jJ (by rw[List.getElem?_map,show ns[k]? =some y from hy];rfl)
   have nx:x≠a2:=fun z=>by rw[z,e2] at hx;cases hx
   have ex1:upd H a2 (.lst (((g++[v]).map V.int).dropLast)) x=some (.tup (ns.map V.str)):=(ao nx).trans hx
   have e11:upd H a2 (.lst (((g++[v]).map V.int).dropLast)) a1=some (.lst ws):=(ao ne).trans e1
   walk_at "vs"
   intro p1 h1
   have e12:upd (upd H a2 (.lst (((g++[v]).map V.int).dropLast))) p1 (.tup [V.str "read",V.str y]) a1=some (.lst ws):=(ao (aC e11 h1)).trans e11
   walk_at "vs"
   have n1:p1≠a1:=fun z=>by rw[z,e11] at h1;cases h1
   obtain⟨n2,h1'⟩:=fH h1
   have b:But [a1,a2,a3] H (upd (upd (upd H a2 (.lst (((g++[v]).map V.int).dropLast))) p1 (.tup [V.str "read",V.str y])) a1 (.lst (ws++[V.ref p1]))):=(But.set _ (by simp)).trans ((But.new _ h1).trans (But.set _ (by simp)))
   have tp:=rca.lists b
   refine q _ b (rca.next b ak ((hws.tups tp).app (.cons (.r (.rd ((ao n1).trans ak))) .nil)) ?_ ?_ hw)
   ·rw[ao (Ne.symm ne),ao (Ne.symm n2),ak,hd]
   ·rw[ao (Ne.symm n13),ao (aC e3 h1'),ao (Ne.symm n23)];exact e3
 | @join b op eb=>
   obtain⟨g,u,v,hf,hm,hi⟩:=hi
   have hf:fo=g++[u,v]:=hf
   subst hf
   subst hi
   have hl:((g++[u,v]).map V.int)[((g++[u,v]).map V.int).length - 1]? =some (.int v):=by simp
   have hd:((g++[u,v]).map V.int).dropLast=(g++[u]).map V.int:=by simp
   have hl2:((g++[u]).map V.int)[((g++[u]).map V.int).length - 1]? =some (.int u):=by simp
   have hd2:((g++[u]).map V.int).dropLast=g.map V.int:=by simp
   have hz:(g.map V.int).length<sizeLine:=by
    rw[List.length_map,sizeLine_eq]
    have:(g++[u,v]).length=g.length+2:=by rw[List.length_append];rfl
    omega
   have nb:b≠a2:=fun z=>by rw[z,e2] at eb;cases eb
   have na2:a≠a2:=fun z=>rca.ins (by simp[z])
   have hl3:(((g++[u,v]).map V.int).dropLast)[(((g++[u,v]).map V.int).dropLast).length - 1]? =some (.int u):=by rw[hd];exact hl2
   have hd3:(((g++[u,v]).map V.int).dropLast).dropLast=g.map V.int:=by rw[hd];exact hd2
   have hz3:((((g++[u,v]).map V.int).dropLast).dropLast).length<sizeLine:=by rw[hd3];exact hz
   walk_at "vs"
   have b:But [a1,a2,a3] H (upd H a2 (.lst (g.map V.int++[V.int (op.ap u v)]))):=But.set _ (by simp)
   have q1:=q _ b (rca.next b ((ao ne).trans e1) (hws.tups (rca.lists b)) (by rw[ak,List.map_append];rfl) ((ao (Ne.symm n23)).trans e3) hw)
   have eq:upd (upd (upd H a2 (.lst (((g++[u,v]).map V.int).dropLast))) a2 (.lst ((((g++[u,v]).map V.int).dropLast).dropLast))) a2 (.lst ((((g++[u,v]).map V.int).dropLast).dropLast++[V.int (op.ap u v)]))=upd H a2 (.lst (g.map V.int++[V.int (op.ap u v)])):=by rw[kO,kO,hd3]
   show Q .non (upd (upd (upd H a2 (.lst (((g++[u,v]).map V.int).dropLast))) a2 (.lst ((((g++[u,v]).map V.int).dropLast).dropLast))) a2 (.lst ((((g++[u,v]).map V.int).dropLast).dropLast++[V.int (op.ap u v)])))
   rw[eq]
   exact q1
end
section
local macro_rules | `(tactic| walk_at "side") => `(tactic| first | exact Eb _ _ _ | exact Ag _ _ _ | exact Ah _ _ _ | exact V9 _ _ _ | exact xq _ _ _ | exact Nat.le_of_ble_eq_true rfl)
variable {P:Program}{w:World}{K:PySem.W.Frag}{mg:Str->Option Value}{base:Heap}{C:Addr}
abbrev bA:Stmt:=uo 12 1
theorem lB:bM ["self","known","step"] ["self","known"] (aa bA):=⟨rfl,rfl,rfl,by decide +kernel,rfl,by decide +kernel,by decide +kernel⟩
theorem cD:aF (aa bA) "self":=by decide +kernel
theorem n6:Loc (aa bA) "step":=by decide +kernel
theorem bw:aF (aa bA) "step":=by decide +kernel
theorem fX:aF (aa bA) "known":=by decide +kernel
theorem ux {f g:Addr}{fd gd:FuncData} (cV:eV K C "lacking" "Reckoning.lacking" bA ["self","known"] f fd) (dI:eV K C "go_on" "Reckoning.go_on" aG ["self","step"] g gd) (xJ:bI P w K mg base CX0 2 g gd ["self","step"] (ach C))
 (T:Blt mg) (rc:RkC K C):bI P w K mg base CX0 3 f fd ["self","known"] (Oz C):=by
 refine cV.F.okQ lB (fun vs H Q E h=> ?_) (fun cdv A outer s H vs Q E hr h=> ?_)
 ·obtain⟨a,dx,a1,a2,a3,d,kn,n,c,c',rfl,_⟩:=h
  rfl
 obtain⟨a,dx,a1,a2,a3,dd,kn,n0,c0,c',rfl,Zt,⟨kvs,ed,hkn⟩,nd3,hn0,hhalt,q⟩:=h
 have jE:=rc.cl
 have nT:=rc.nT
 have nF:=rc.nF
 have nR:=rc.nR
 have hdS:dd∉[a1,a2,a3]:=fun z=>by
  obtain⟨ws,e1,_⟩:=Zt.e1
  have z:dd=a1\/dd=a2\/dd=a3:=by simpa using z
  rcases z with z | z | z
  ·rw[z,e1] at ed;cases ed
  ·rw[z,Zt.e2] at ed;cases ed
  ·exact nd3 z
 refine⟨_,(aA (zZ PassesOwn.never (zU (bz (aj 0 cD))) (aA (bQ (i:=2) lB.nd rfl n6 (yj PySem.F.plainAttrs_list PySem.F.slot_list_pop PySem.F.type_list_pop vh (bz (aj 0 cD))))
  (aB (eU (fP Oh (cT bZ (aj 2 bw) aJ) aD (cQ _)) (aB (eG (mq (aj 0 cD) jE dI.m (xJ.mono (by omega)) hr dI.b .nil gA (aX (aj 2 bw) au)))) (aB (eU (Af (eF hr) (cT bZ (aj 2 bw) aJ) (aj 1 fX)) (aA (kW (eF hr) (bz (aj 0 cD)) (cT bZ (aj 2 bw) aJ) (gj (eF hr) (aj 1 fX) (cT bZ (aj 2 bw) aJ)))
  (aB (eG (oH PySem.F.plainAttrs_list PySem.F.slot_list_append PySem.F.type_list_append gK (bz (aj 0 cD)) (oZ (gj (eF hr) (aj 1 fX) (cT bZ (aj 2 bw) aJ)) au))))) (aA (eG (oH PySem.F.plainAttrs_list PySem.F.slot_list_append PySem.F.type_list_append gK (bz (aj 0 cD)) (aX (aj 2 bw) au)))
  (aB (cJ (cT bZ (aj 2 bw) aJ))))))))))
  (aB (cJ tV))), ?_⟩
 refine⟨fun n σ H'=>∃c t,σ=[some (.ref a),some (.ref dd),t]/\But [a1,a2,a3] H H'/\RcAt H' a C dx a1 a2 a3 c/\StN kn n c c',
  ⟨n0,c0,none,rfl,But.refl _ _,Zt,hn0⟩, ?_⟩
 rintro n σ H1 ⟨c,t0,rfl,b1,rca,hst⟩
 have n13:=rca.n13
 have n23:=rca.n23
 have na:a∉[a1,a2,a3]:=rca.ins
 have na1:a≠a1:=fun z=>na (by simp[z])
 have na2:a≠a2:=fun z=>na (by simp[z])
 have na3:a≠a3:=fun z=>na (by simp[z])
 obtain⟨e,⟨ws,e1,hws⟩,e2,e3,ne,hw0⟩:=id rca
 have ed1:=b1 _ _ hdS ed
 rcases List.eq_nil_or_concat c.todo with hnil | ⟨t,st,hs⟩
 ·rw[hnil] at hws
  cases hws
  have ec:=hst.halt (.inl hnil)
  subst ec
  walk_at "vs"
  exact(q H1 b1 rca).1 hnil
 ·rw[List.concat_eq_append] at hs
  rw[hs] at hws
  obtain⟨us,v,rfl,hus,hv⟩:=hws.snoc
  have hlu:=hus.length
  have hlt:=Io t
  have hw1:c.rds.length+c.found.length+2 * wT (t++[st])<=10000:=by have:=hw0;unfold Cf.w at this;rw[hs] at this;exact this
  rw[jL] at hw1
  have hl:(us++[v])[(us++[v]).length - 1]? =some v:=by simp
  have hd:(us++[v]).dropLast=us:=List.dropLast_concat
  have hne:(us++[v]).isEmpty=false:=by simp
  have hz:us.length<sizeLine:=by rw[sizeLine_eq];omega
  refine⟨_,rfl,a,C,dx,_, .ref a1,rfl,e,jE,nT,Eb _ _ _,true, .inl ⟨us++[v],SqL.of e1,by simp⟩, ?_⟩
  refine(if_pos (rfl:true=true)).mpr ?_
  cases hst with
  | zero=>
    rcases hhalt with h | ⟨t',x,h,hx⟩
    ·rw[hs] at h;simp at h
    ·rw[hs] at h
     obtain⟨rfl,rfl⟩:=iQ h
     refine⟨fun _ _=>False,fun _ _ z=>z.elim, ?_⟩
     cases hv with
     | @r p _ hr'=>
     cases hr' with
     | rd ep=>
     have np:p≠a1:=fun z=>by rw[z,e1] at ep;cases ep
     have nda:dd≠a1:=fun z=>hdS (by simp[z])
     have g1:dH (upd H1 a1 (.lst (us++[V.ref p]).dropLast)) dd (.str x) none:=by
      have:=dH.k (H:=upd H1 a1 (.lst (us++[V.ref p]).dropLast)) (k:= .inr x) ((ao nda).trans ed1)
      rw[hkn,hx] at this
      exact this
     have hzd:((us++[V.ref p]).dropLast).length<sizeLine:=by rw[hd];exact hz
     walk_at "vs"
     have hq:=(q H1 b1 rca).2 _ x hs
     have eq:upd (upd H1 a1 (.lst (us++[V.ref p]).dropLast)) a1 (.lst ((us++[V.ref p]).dropLast++[V.ref p]))=H1:=by rw[kO,hd,Y8 e1]
     show Q (.str x) (upd (upd H1 a1 (.lst (us++[V.ref p]).dropLast)) a1 (.lst ((us++[V.ref p]).dropLast++[V.ref p])))
     rw[eq]
     exact hq
  | @succ n _ c1 _ h1 ht=>
    have hi:=h1.inv _ _ hs
    refine⟨fun σ' H'=>Wr (∃c t,σ'=[some (.ref a),some (.ref dd),t]/\But [a1,a2,a3] H H'/\RcAt H' a C dx a1 a2 a3 c/\StN kn n c c'), ?_, ?_⟩
    ·rintro σ' H' ⟨h⟩
     exact⟨n,by omega,h⟩
    by_cases hrd:∃x,st= .r (.rd x)
    ·obtain⟨x,rfl⟩:=hrd
     obtain⟨val,hx,rfl⟩:=hi
     cases hv with
     | @r p _ hr'=>
     cases hr' with
     | rd ep=>
     have np:p≠a1:=fun z=>by rw[z,e1] at ep;cases ep
     have np3:p≠a3:=fun z=>by rw[z,e3] at ep;cases ep
     have nda:dd≠a1:=fun z=>hdS (by simp[z])
     have afK:dd≠a3:=fun z=>hdS (by simp[z])
     have ne2:a2≠a1:=Ne.symm ne
     have afL:a3≠a1:=Ne.symm n13
     have afM:a3≠a2:=Ne.symm n23
     have hv0:dG kvs (.inr x)=some (.int val):=by rw[hkn,hx];rfl
     have ed2:upd H1 a1 (.lst (us++[V.ref p]).dropLast) dd=some (.dK kvs):=(ao nda).trans ed1
     have e32:upd H1 a1 (.lst (us++[V.ref p]).dropLast) a3=some (.dK (rdK c.rds)):=(ao afL).trans e3
     have g1:dH (upd H1 a1 (.lst (us++[V.ref p]).dropLast)) dd (.str x) (some (.int val)):=by
      have:=dH.k (k:= .inr x) ed2
      rw[hv0] at this
      exact this
     have hlr:(rdK c.rds).length<sizeLine:=by rw[show(rdK c.rds).length=c.rds.length from List.length_map _,sizeLine_eq];omega
     have pt:nW (upd H1 a1 (.lst (us++[V.ref p]).dropLast)) a3 (.str x) (.int val) (upd (upd H1 a1 (.lst (us++[V.ref p]).dropLast)) a3 (.dK (rdK (rR c.rds x val)))):=by
      have:=nW.k (k:= .inr x) (v:= .int val) e32 hlr
      rw[Tr] at this
      exact this
     have ed3:upd (upd H1 a1 (.lst (us++[V.ref p]).dropLast)) a3 (.dK (rdK (rR c.rds x val))) dd=some (.dK kvs):=(ao afK).trans ed2
     have g2:dH (upd (upd H1 a1 (.lst (us++[V.ref p]).dropLast)) a3 (.dK (rdK (rR c.rds x val)))) dd (.str x) (some (.int val)):=by
      have:=dH.k (k:= .inr x) ed3
      rw[hv0] at this
      exact this
     have hzf:(c.found.map V.int).length<sizeLine:=by rw[List.length_map,sizeLine_eq];omega
     walk_at "vs"
     have b2:But [a1,a2,a3] H1 (upd (upd (upd H1 a1 (.lst (us++[V.ref p]).dropLast)) a3 (.dK (rdK (rR c.rds x val)))) a2 (.lst (c.found.map V.int++[V.int val]))):=(But.set _ (by simp)).trans ((But.set _ (by simp)).trans (But.set _ (by simp)))
     have tp:=rca.lists b2
     refine⟨⟨⟨t,c.found++[val],rR c.rds x val⟩,_,rfl,b1.trans b2,rca.next b2 (ws:=us) ?_ (hus.tups tp) ?_ ?_ (Nat.le_trans h1.w hw0),ht⟩⟩
     ·rw[ao ne,ao n13,ak,hd]
     ·rw[ak,List.map_append];rfl
     ·rw[ao afM,ak]
    ·have hno:∀x,st≠ .r (.rd x):=fun x z=>hrd ⟨x,z⟩
     obtain⟨p,k,xs,rfl,ep,hk⟩:=hv.hd hno
     have np:p≠a1:=fun z=>by rw[z,e1] at ep;cases ep
     have at0:atI (V.str k::xs) 0=some (.str k):=jJ (j:=0) rfl
     walk_at "vs"
     refine ab9 (fun z=>hk (V.str.inj z)) ?_
     have b2:But [a1,a2,a3] H1 (upd H1 a1 (.lst (us++[V.ref p]).dropLast)):=But.set _ (by simp)
     have tp:=rca.lists b2
     have rc2:RcAt (upd H1 a1 (.lst (us++[V.ref p]).dropLast)) a C dx a1 a2 a3 ⟨t,c.found,c.rds⟩:=rca.next b2 (ws:=us) (by rw[ak,hd]) (hus.tups tp) ((ao (Ne.symm ne)).trans e2) ((ao (Ne.symm n13)).trans e3) (by show c.rds.length+c.found.length+2 * wT t<=10000;omega)
     have h1':St1 kn ⟨t++[st],c.found,c.rds⟩ c1:=by rw[<-hs];exact h1
     have hv2:=hv.tups tp
     have hwc:=Nat.le_trans h1.w hw0
     walk_at "vs"
     intro H3 b3 rc3
     exact⟨⟨c1,_,rfl,b1.trans (b2.trans b3),rc3,ht⟩⟩
end
section
variable {P:Program}{w:World}{K:PySem.W.Frag}{mg:Str->Option Value}{base:Heap}
abbrev bH:Stmt:=top 14
theorem wu:bM ["thing"] ["thing"] (aa bH):=⟨rfl,rfl,rfl,by decide +kernel,rfl,by decide +kernel,by decide +kernel⟩
theorem iu:(aa bH).names.lookup ("isinstance":Str)=some NameKind.globalImplicit:=by decide +kernel
theorem qd:(aa bH).names.lookup ("bool":Str)=some NameKind.globalImplicit:=by decide +kernel
theorem qg:("bool":Str)≠"__name__":=by decide +kernel
theorem ql:(("bool":Str)==("__debug__":Str))=false:=by decide +kernel
theorem jt:aF (aa bH) "thing":=by decide +kernel
theorem iw:("isinstance":Str)≠"__name__":=by decide +kernel
theorem iy:(("isinstance":Str)==("__debug__":Str))=false:=by decide +kernel
theorem qY:(aa bH).names.lookup ("int":Str)=some NameKind.globalImplicit:=by decide +kernel
theorem qZ:("int":Str)≠"__name__":=by decide +kernel
theorem rA:(("int":Str)==("__debug__":Str))=false:=by decide +kernel
theorem wz {f:Addr}{fd:FuncData} (aV:FnT K mg "is_whole_number" bH ["thing"] f fd) (T:Blt mg) (kd:Kinds K):bI P w K mg base CX0 1 f fd ["thing"] (Ea K):=by
 refine aV.F.okQ wu (fun vs H Q E h=> ?_) (fun cdv A outer s H vs Q E hr h=> ?_)
 ·obtain⟨v,t,rfl,_⟩:=h
  rfl
 obtain⟨v,t,rfl,ht,q⟩:=h
 refine⟨_,(aB (cJ (zY (bF v5 iu T.bN bD (aX (aj 0 jt) (aX (oG (v:= .ty "int") qY T.ab1 Yt rfl qZ rA) au)) iw iy) (zX (Oc (bF v5 iu T.bN bD (aX (aj 0 jt) (aX (oG (v:= .ty "bool") qd T.Yy S9 rfl qg ql) au)) iw iy)))))), ?_⟩
 have h1:=ht.ty
 have h2:=ht.isi kd (c:="int") (by simp[tys])
 have h3:=ht.isi kd (c:="bool") (by simp[tys])
 walk_at "vs"
 cases ht with
 | bl b=>walk_at "vs";exact q
 | int i=>walk_at "vs";exact q
 | non=>exact q
 | str x=>exact q
 | tup e h=>exact q
 | oth h hT k=>rcases hT with rfl | rfl<;>exact q
abbrev cZ:Stmt:=top 15
theorem Jj:bM ["told","thing"] ["told","thing"] (aa cZ):=⟨rfl,rfl,rfl,by decide +kernel,rfl,by decide +kernel,by decide +kernel⟩
theorem gn:(aa cZ).names.lookup ("isinstance":Str)=some NameKind.globalImplicit:=by decide +kernel
theorem qm:(aa cZ).names.lookup ("tuple":Str)=some NameKind.globalImplicit:=by decide +kernel
theorem qp:("tuple":Str)≠"__name__":=by decide +kernel
theorem qt:(("tuple":Str)==("__debug__":Str))=false:=by decide +kernel
theorem fD:aF (aa cZ) "told":=by decide +kernel
theorem gq:("isinstance":Str)≠"__name__":=by decide +kernel
theorem gw:(("isinstance":Str)==("__debug__":Str))=false:=by decide +kernel
theorem uy:(aa cZ).names.lookup ("len":Str)=some NameKind.globalImplicit:=by decide +kernel
theorem uz:("len":Str)≠"__name__":=by decide +kernel
theorem uA:(("len":Str)==("__debug__":Str))=false:=by decide +kernel
theorem dZ:aF (aa cZ) "thing":=by decide +kernel
theorem Bk:(aa cZ).names.lookup ("all":Str)=some NameKind.globalImplicit:=by decide +kernel
theorem Bl:(aa cZ).names.lookup ("zip":Str)=some NameKind.globalImplicit:=by decide +kernel
theorem wA:(("is_same":Str)==("__debug__":Str))=false:=by decide +kernel
theorem Bm:("all":Str)≠"__name__":=by decide +kernel
theorem Bo:(("all":Str)==("__debug__":Str))=false:=by decide +kernel
theorem jb:(aa cZ).names.lookup ("is_whole_number":Str)=some NameKind.globalImplicit:=by decide +kernel
theorem jc:(("is_whole_number":Str)==("__debug__":Str))=false:=by decide +kernel
theorem uB:(aa cZ).names.lookup ("str":Str)=some NameKind.globalImplicit:=by decide +kernel
theorem uC:("str":Str)≠"__name__":=by decide +kernel
theorem uD:(("str":Str)==("__debug__":Str))=false:=by decide +kernel
theorem xK {d:Nat}{f g0:Addr}{fd gd0:FuncData} (d7:FnT K mg "is_same" cZ ["told","thing"] f fd) (yw:bI P w K mg base CX0 (d+1) f fd ["told","thing"] (fun vs H Q E=>0<d/\Eg K (d - 1) vs H Q E))
 (aV:FnT K mg "is_whole_number" bH ["thing"] g0 gd0) (eX:bI P w K mg base CX0 1 g0 gd0 ["thing"] (Ea K)) (T:Blt mg) (kd:Kinds K):
 bI P w K mg base CX0 (d+2) f fd ["told","thing"] (Eg K d):=by
 refine d7.F.okQ Jj (fun vs H Q E h=> ?_) (fun cdv A outer s H vs Q E hr h=> ?_)
 ·obtain⟨v,t,v',t',rfl,_⟩:=h
  rfl
 obtain⟨v,t,v',t',rfl,ht,hu,hd,q⟩:=h
 refine⟨_,(aA (eU (j0 (bF v5 gn T.bN bD (aX (aj 0 fD) (aX (oG (v:= .ty "tuple") qm T.Ke Fy rfl qp qt) au)) gq gw)) (aA (eU (Oe (V6 (zW (j0 (bF v5 gn T.bN bD (aX (aj 1 dZ) (aX (oG (v:= .ty "tuple") qm T.Ke Fy rfl qp qt) au)) gq gw))) (Od (fP Oh (bF fQ uy T.tW mV (aX (aj 0 fD) au) uz uA) (bF fQ uy T.tW mV (aX (aj 1 dZ) au) uz uA) (cQ _))))) (aB (cJ Fz)) dD)
  (aB (cJ (bF (Tf rfl) Bk T.ab2 Ys (afC (J4 rfl (n:=2) (fr:=[]) (N:=["part","other"]) (V2 (scX:=aa cZ) (NX:=["told","thing"]) rfl rfl (by decide +kernel)) (TY Bl T.ab5 (aX (aj 0 fD) (aX (aj 1 dZ) au))) (fun _ _ _ _ _=>(Tq (K:=K) (n:=2) rfl rfl (pU (qgx (i:=0) (show List.Nodup (α:=Str) ["part","other"] by decide) (Yq (by decide +kernel))) (pU (qgx (i:=1) (show List.Nodup (α:=Str) ["part","other"] by decide) (Yq (by decide +kernel))) DX)))) (fun _ _ _ _ _=>Yw) (fun _ _ _ _ _=>(gF (yw.mono (by omega)) hr (glC (by decide +kernel)) d7.m d7.F.kp d7.b .nil gA (aX (aj 0 (BR.ok (by decide +kernel))) (aX (aj 1 (BR.ok (by decide +kernel))) au)) wA))) au) Bm Bo)))) dD)
  (aA (eU (j0 (gF (eX.mono (by omega)) hr jb aV.m aV.F.kp aV.b .nil gA (aX (aj 0 fD) au) jc)) (aB (cJ (zY (gF (eX.mono (by omega)) hr jb aV.m aV.F.kp aV.b .nil gA (aX (aj 1 dZ) au) jc) (zX (vY iY (aj 0 fD) (aj 1 dZ) (cQ _)))))) dD)
  (aB (cJ (zY (bF v5 gn T.bN bD (aX (aj 0 fD) (aX (oG (v:= .ty "str") uB T.V7 Ob rfl uC uD) au)) gq gw) (zY (bF v5 gn T.bN bD (aX (aj 1 dZ) (aX (oG (v:= .ty "str") uB T.V7 Ob rfl uC uD) au)) gq gw) (zX (vY iY (aj 0 fD) (aj 1 dZ) (cQ _))))))))), ?_⟩
 have h1:=ht.ty
 have h2:=ht.isi kd (c:="tuple") (by simp[tys])
 have h3:=ht.isi kd (c:="str") (by simp[tys])
 have g1:=hu.ty
 have g2:=hu.isi kd (c:="tuple") (by simp[tys])
 have g3:=hu.isi kd (c:="str") (by simp[tys])
 walk_at "vs"
 have ht2:=ht
 cases ht2 with
 | @tup a vs ts ea ha=>
   have ct:Oo (FW (.tup ts)) "tuple"=true:=rfl
   rw[ct]
   walk_at "vs"
   have hu2:=hu
   cases hu2 with
   | @tup b us rs eb hb=>
     have cu:Oo (FW (.tup rs)) "tuple"=true:=rfl
     rw[cu]
     walk_at "vs"
     have l1:=ha.length
     have l2:=hb.length
     by_cases hl:vs.length=us.length
     ·refine ace (by rw[hl];simp) ?_
      walk_at "vs"
      intro D hD
      have hd0:0<d:=by
       cases d with
       | zero=>exact absurd hd (by simp[DpT])
       | succ d=>omega
      obtain⟨d,rfl⟩:∃e,d=e+1:=⟨d - 1,by omega⟩
      obtain⟨hd1,hd2⟩:ts.length<=1000/\∀t∈ts,DpT d t:=hd
      have nDa:a≠D:=fun z=>by rw[z,hD] at ea;cases ea
      have nDb:b≠D:=fun z=>by rw[z,hD] at eb;cases eb
      refine Mg (fun i σ' H'=>(∃t1 t2,σ'=[t1,t2])/\H' D=some (.lst (((List.zipWith cU ts rs).take i).map V.bl))/\aO H H') hl ?_ ?_ ?_ ?_
      ·exact⟨⟨none,none,rfl⟩,ak,aq _ hD⟩
      ·intro i σ' H' hi hP
       exact⟨SqT.of (hP.2.2 _ _ ea),SqT.of (hP.2.2 _ _ eb)⟩
      ·intro i x y T0 σ' H' hx hy hP hT
       obtain⟨⟨t1,t2,rfl⟩,eD,kp⟩:=hP
       obtain⟨hi1,tx⟩:=ha.at hx
       obtain⟨hi2,ty⟩:=hb.at hy
       have S0:=kp.trans (aq (.tup [x,y]) hT)
       have tx0:=tx.same S0
       have ty0:=ty.same S0
       have dx:=hd2 _ (List.getElem_mem hi1)
       have eT:upd H' T0 (.tup [x,y]) T0=some (.tup [x,y]):=ak
       have eD0:=(aq (.tup [x,y]) hT) _ _ eD
       generalize upd H' T0 (.tup [x,y])=H0 at *
       walk_at "vs"
       intro H5 S5
       have eD5:=S5 _ _ eD0
       refine⟨_,eD5, ?_,⟨_,_,rfl⟩, ?_, ?_⟩
       ·rw[List.length_map,List.length_take];exact cC (by omega)
       ·rw[ak,<-Mh cU hi1 hi2,List.map_append];rfl
       ·exact vm _ hD (S0.trans S5)
      ·intro σ' H' hP
       obtain⟨_,eD,kp⟩:=hP
       rw[List.take_of_length_le (by simp;omega)] at eD
       have eq:cU (.tup ts) (.tup rs)=((List.zipWith cU ts rs).all id):=by rw[cU];exact Al (by omega)
       rw[eq] at q
       walk_at "vs"
       exact q _ kp
     ·refine acd (by simp;omega) ?_
      rw[show cU (.tup ts) (.tup rs)=false from by rw[cU];exact Ak (by omega)] at q
      walk_at "vs"
      exact q _ (aO.refl _)
   | non=>walk_at "vs";exact q _ (aO.refl _)
   | bl b=>walk_at "vs";exact q _ (aO.refl _)
   | int i=>walk_at "vs";exact q _ (aO.refl _)
   | str x=>walk_at "vs";exact q _ (aO.refl _)
   | oth h hT k=>rcases hT with rfl | rfl<;>walk_at "vs"<;>exact q _ (aO.refl _)
 | non=>walk_at "vs";exact q _ (aO.refl _)
 | bl b=>walk_at "vs";exact q _ (aO.refl _)
 | int i=>
   walk_at "vs"
   have hu2:=hu
   cases hu2 with
   | int j=>
     have ej:cU (.int i) (.int j)=decide (V.int i=V.int j):=by simp[cU]
     rw[ej] at q
     walk_at "vs";exact q _ (aO.refl _)
   | non=>walk_at "vs";exact q _ (aO.refl _)
   | bl b=>walk_at "vs";exact q _ (aO.refl _)
   | str x=>walk_at "vs";exact q _ (aO.refl _)
   | tup e h=>walk_at "vs";exact q _ (aO.refl _)
   | oth h hT k=>rcases hT with rfl | rfl<;>walk_at "vs"<;>exact q _ (aO.refl _)
 | str x=>
   walk_at "vs"
   have hu2:=hu
   cases hu2 with
   | str y=>
     have ej:cU (.str x) (.str y)=decide (V.str x=V.str y):=by simp[cU]
     rw[ej] at q
     walk_at "vs";exact q _ (aO.refl _)
   | non=>walk_at "vs";exact q _ (aO.refl _)
   | bl b=>walk_at "vs";exact q _ (aO.refl _)
   | int j=>walk_at "vs";exact q _ (aO.refl _)
   | tup e h=>walk_at "vs";exact q _ (aO.refl _)
   | oth h hT k=>rcases hT with rfl | rfl<;>walk_at "vs"<;>exact q _ (aO.refl _)
 | oth h hT k=>rcases hT with rfl | rfl<;>walk_at "vs"<;>exact q _ (aO.refl _)
theorem Bp {f g0:Addr}{fd gd0:FuncData} (d7:FnT K mg "is_same" cZ ["told","thing"] f fd)
 (aV:FnT K mg "is_whole_number" bH ["thing"] g0 gd0) (eX:bI P w K mg base CX0 1 g0 gd0 ["thing"] (Ea K)) (T:Blt mg) (kd:Kinds K):
 ∀d,bI P w K mg base CX0 (d+2) f fd ["told","thing"] (Eg K d)
 | 0=>xK d7 (never fun vs H Q E h=>absurd h.1 (by omega)) aV eX T kd
 | d+1=>xK d7 ((Bp d7 aV eX T kd d).imp fun vs H Q E h=>h.2) aV eX T kd
end
section
local macro_rules | `(tactic| walk_at "side") => `(tactic| first | exact vq _ _ _ _ | exact qP _ _ _ _ | exact vz _ _ _ _ | exact mD _ _ _ _ | exact (fu _ _ _ _).1 | exact (fu _ _ _ _).2.1 | exact (fu _ _ _ _).2.2.1 | exact (fu _ _ _ _).2.2.2 | exact Nat.le_of_ble_eq_true rfl)
variable {P:Program}{w:World}{K:PySem.W.Frag}{mg:Str->Option Value}{base:Heap}{CN CS CR:Addr}
abbrev aY:Stmt:=uo 17 0
theorem o8:bM ["self","records"] ["self","records"] (aa aY):=⟨rfl,rfl,rfl,by decide +kernel,rfl,by decide +kernel,by decide +kernel⟩
theorem lC:aF (aa aY) "self":=by decide +kernel
theorem jN:aF (aa aY) "records":=by decide +kernel
theorem o9 {f:Addr}{fd:FuncData} (bh:eV K CN "__init__" "NamedRecords.__init__" aY ["self","records"] f fd) (nc:NrC K CN):bI P w K mg base CX0 1 f fd ["self","records"] (An CN):=by
 refine bh.F.okQ o8 (fun vs H Q E h=> ?_) (fun cdv A outer s H vs Q E hr h=> ?_)
 ·obtain⟨a,dx,rcd,rfl,_⟩:=h
  rfl
 obtain⟨a,dx,rcd,rfl,e,q⟩:=h
 have ju:=nc.cl
 have nB:=nc.nB
 refine⟨_,(aB (jl (aj 0 lC) (aj 1 jN))), ?_⟩
 walk_at "vs"
 exact q _ (But.set _ (by simp)) ak
abbrev bU:Stmt:=uo 17 2
theorem pq:bM ["self","record"] ["self","record"] (aa bU):=⟨rfl,rfl,rfl,by decide +kernel,rfl,by decide +kernel,by decide +kernel⟩
theorem pA {f:Addr}{fd:FuncData} (bV:eV K CN "put_made" "NamedRecords.put_made" bU ["self","record"] f fd):bI P w K mg base CX0 1 f fd ["self","record"] Wc:=by
 refine bV.F.okQ pq (fun vs H Q E h=> ?_) (fun cdv A outer s H vs Q E hr h=> ?_)
 ·obtain⟨⟨v,w,rfl⟩,_⟩:=h
  rfl
 obtain⟨⟨v,w,rfl⟩,q⟩:=h
 refine⟨_,(aB Tc), ?_⟩
 exact q
abbrev aK:Stmt:=uo 17 1
theorem mG:bM ["self","name","r"] ["self","name","r"] (aa aK):=⟨rfl,rfl,rfl,by decide +kernel,rfl,by decide +kernel,by decide +kernel⟩
theorem jw:(aa aK).names.lookup ("is_same":Str)=some NameKind.globalImplicit:=by decide +kernel
theorem dJ:aF (aa aK) "self":=by decide +kernel
theorem dM:aF (aa aK) "name":=by decide +kernel
theorem lD:aF (aa aK) "r":=by decide +kernel
theorem jx:(("is_same":Str)==("__debug__":Str))=false:=by decide +kernel
theorem mH {f g0:Addr}{fd gd0:FuncData} (bJ:eV K CN "records_for" "NamedRecords.records_for" aK ["self","name","r"] f fd)
 (d7:FnT K mg "is_same" cZ ["told","thing"] g0 gd0) (yw:bI P w K mg base CX0 12 g0 gd0 ["told","thing"] (Eg K 10)) (T:Blt mg) (nc:NrC K CN):bI P w K mg base CX0 13 f fd ["self","name","r"] (Ku CN):=by
 refine bJ.F.okQ mG (fun vs H Q E h=> ?_) (fun cdv A outer s H vs Q E hr h=> ?_)
 ·obtain⟨o,dx,rcd,b,kr,rm,y,r,rfl,_⟩:=h
  rfl
 obtain⟨o,dx,rcd,b,kr,rm,y,r,rfl,eo,er,rD,hR,hg,hdp,q⟩:=h
 have ju:=nc.cl
 have nB:=nc.nB
 have lkB:List.lookup ("by_name":Str) (nrF rcd)=some (.ref rcd):=rfl
 refine⟨_,(aA (eU (Oe (DQ (Af (eF hr) (aj 1 dM) (bz (aj 0 dJ))) (DP (j0 (gF (yw.mono (by omega)) hr jw d7.m d7.F.kp d7.b .nil gA (aX (aj 2 lD) (oZ (cT bZ (gj (eF hr) (bz (aj 0 dJ)) (aj 1 dM)) aJ) au)) jx))))) (aB (cJ (gJ (oZ (gj (eF hr) (bz (aj 0 dJ)) (aj 1 dM)) au)))) dD)
  (aB (cJ (gJ au)))), ?_⟩
 have dr:dH H rcd (.str y) (dG kr (.inr y)):=dH.k (k:= .inr y) er
 cases erm:rm y with
 | none=>
   rw[rD.w y erm] at dr
   walk_at "vs"
   intro fl hfl
   exact q fl _ (aq _ hfl) hfl fun kn=> .inr ⟨ak,fun r' ps v e=>by rw[erm] at e;cases e⟩
 | some qq=>
   obtain⟨r',ps,v'⟩:=qq
   obtain⟨bb,hbb,br,l,as,e1,R1,el,hRs,_⟩:=rD.v y _ erm
   rw[hbb] at dr
   have e1:H bb=some (.tup [.ref br, .ref l, .int v']):=e1
   have R1:IsR H br r':=R1
   have hat:atI [V.ref br, .ref l, .int v'] 0=some (.ref br):=rfl
   have t1:mj K H (.ref b) r.dW:=hR.acf
   have t2:mj K H (.ref br) r'.dW:=R1.acf
   have dp:DpT 10 r.dW:=(r.dpT hg).mono (by omega)
   walk_at "vs"
   intro H1 s1
   have dr1:dH H1 rcd (.str y) (some (.ref bb)):=by rw[<-hbb];exact dH.k (k:= .inr y) (s1 _ _ er)
   have eo1:=s1 _ _ eo
   by_cases hrr:r=r'
   ·rw[T4 hrr]
    subst hrr
    walk_at "vs"
    intro fl hfl
    exact q fl _ (s1.trans (aq _ hfl)) (same_none s1 hfl) fun kn=> .inl ⟨bb,ps,v',ak,hbb,erm,Nat.zero_le _,fun j p hj=>by omega⟩
   ·rw[T5 hrr]
    walk_at "vs"
    intro fl hfl
    exact q fl _ (s1.trans (aq _ hfl)) (same_none s1 hfl) fun kn=> .inr ⟨ak,fun r2 ps2 v2 e=>by
     rw[erm] at e;cases e;exact .inl (Ne.symm hrr)⟩
abbrev bB:Stmt:=uo 18 0
theorem uE:bM ["self","r","records"] ["self","r","records"] (aa bB):=⟨rfl,rfl,rfl,by decide +kernel,rfl,by decide +kernel,by decide +kernel⟩
theorem dX:aF (aa bB) "self":=by decide +kernel
theorem jO:aF (aa bB) "r":=by decide +kernel
theorem lG:aF (aa bB) "records":=by decide +kernel
theorem j7:(aa bB).names.lookup ("Reckoning":Str)=some NameKind.globalImplicit:=by decide +kernel
theorem j8:(("Reckoning":Str)==("__debug__":Str))=false:=by decide +kernel
theorem uF {f g0:Addr}{fd gd0:FuncData} (dU:eV K CS "__init__" "Settling.__init__" bB ["self","r","records"] f fd)
 (dB:eV K CR "__init__" "Reckoning.__init__" bO ["self","r"] g0 gd0) (uG:bI P w K mg base CX0 1 g0 gd0 ["self","r"] (Gb CR))
 (uH:Mk K CR g0) (uI:mg "Reckoning"=some (.ref CR)) (sc:SeC K CS):bI P w K mg base CX0 3 f fd ["self","r","records"] (Gk CS CR):=by
 refine dU.F.okQ uE (fun vs H Q E h=> ?_) (fun cdv A outer s H vs Q E hr h=> ?_)
 ·obtain⟨a,dx,b,fl,r,rfl,_⟩:=h
  rfl
 obtain⟨a,dx,b,fl,r,rfl,e,hR,hw,q⟩:=h
 have gW:=sc.cl
 have nR:=sc.nR
 have nF:=sc.nF
 have nP:=sc.nP
 have nK:=sc.nK
 refine⟨_,(aA (jl (aj 0 dX) (aj 1 jO))
  (aA (jl (aj 0 dX) (aj 2 lG))
  (aA (jl (aj 0 dX) aJ)
  (aB (jl (aj 0 dX) (xm uH (uG.mono (by omega)) hr j7 uI dB.b .nil gA (aX (aj 1 jO) au) j8)))))), ?_⟩
 walk_at "vs"
 have F3:upd (upd (upd H a (.ins CS dx (aP "recipe" (.ref b) []))) a (.ins CS dx (aP "fitting" (.ref fl) (aP "recipe" (.ref b) [])))) a (.ins CS dx (aP "place" (.int 0) (aP "fitting" (.ref fl) (aP "recipe" (.ref b) []))))=upd H a (.ins CS dx (aP "place" (.int 0) (aP "fitting" (.ref fl) (aP "recipe" (.ref b) [])))):=by rw[kO,kO]
 rw[F3]
 have b1:But [a] H (upd H a (.ins CS dx (aP "place" (.int 0) (aP "fitting" (.ref fl) (aP "recipe" (.ref b) []))))):=But.set _ (by simp)
 have t1:jU H (upd H a (.ins CS dx (aP "place" (.int 0) (aP "fitting" (.ref fl) (aP "recipe" (.ref b) []))))):=fun p xs z=>(ao (fun y=>by rw[y,e] at z;cases z)).trans z
 have e1:upd H a (.ins CS dx (aP "place" (.int 0) (aP "fitting" (.ref fl) (aP "recipe" (.ref b) [])))) a=some (.ins CS dx (aP "place" (.int 0) (aP "fitting" (.ref fl) (aP "recipe" (.ref b) [])))):=ak
 have n1:∀{z},upd H a (.ins CS dx (aP "place" (.int 0) (aP "fitting" (.ref fl) (aP "recipe" (.ref b) [])))) z=none->H z=none:=fun z=>(fH z).2
 generalize upd H a (.ins CS dx (aP "place" (.int 0) (aP "fitting" (.ref fl) (aP "recipe" (.ref b) []))))=H1 at *
 intro rk dxr hrk hdxr hne
 have afN:(upd H1 dxr (.own rk)) rk=none:=(ao (Ne.symm hne)).trans hrk
 have S1:=(aq (.own rk) hdxr).trans (aq (.ins CR dxr []) afN)
 refine⟨rk,dxr,b,r,rfl,ak,(hR.tups t1).same S1,hw,fun a1 a2 a3 H2 b2 h1 h2 h3 rc2=>⟨rfl, ?_⟩⟩
 have h1:=same_none S1 h1
 have h2:=same_none S1 h2
 have h3:=same_none S1 h3
 have S2:aO H1 H2:=iM S1 (fun p hp=>by
  have:p=rk:=by simpa using hp
  rw[this];exact hrk) b2
 have e2:=S2 _ _ e1
 have nak:a≠rk:=fun z=>by rw[<-z,e1] at hrk;cases hrk
 have na1:a≠a1:=fun z=>by rw[<-z,e1] at h1;cases h1
 have na2:a≠a2:=fun z=>by rw[<-z,e1] at h2;cases h2
 have na3:a≠a3:=fun z=>by rw[<-z,e1] at h3;cases h3
 walk_at "vs"
 have t3:jU H2 (upd H2 a (.ins CS dx (aP "reckoning" (.ref rk) (aP "place" (.int 0) (aP "fitting" (.ref fl) (aP "recipe" (.ref b) [])))))):=fun p xs z=>(ao (fun y=>by rw[y,e2] at z;cases z)).trans z
 refine q ⟨a,dx,b,fl,rk,dxr,a1,a2,a3,0⟩ _ ((b1.trans (But.of_same S2)).trans (But.set _ (by simp))) rfl rfl rfl rfl ak (rc2.move (S:=[a]) (But.set _ (by simp)) t3 ?_) ?_
 ·intro z hz w
  have w:z=a:=by simpa using w
  have hz:z=rk\/z=a1\/z=a2\/z=a3:=by simpa using hz
  rcases hz with y | y | y | y
  ·exact nak (w.symm.trans y)
  ·exact na1 (w.symm.trans y)
  ·exact na2 (w.symm.trans y)
  ·exact na3 (w.symm.trans y)
 ·intro z hz
  have hz:z=rk\/z=a1\/z=a2\/z=a3:=by simpa using hz
  rcases hz with rfl | rfl | rfl | rfl
  ·exact n1 hrk
  ·exact n1 h1
  ·exact n1 h2
  ·exact n1 h3
end
section
local macro_rules | `(tactic| walk_at "side") => `(tactic| first | exact vq _ _ _ _ | exact qP _ _ _ _ | exact vz _ _ _ _ | exact mD _ _ _ _ | exact (fu _ _ _ _).1 | exact (fu _ _ _ _).2.1 | exact (fu _ _ _ _).2.2.1 | exact (fu _ _ _ _).2.2.2 | exact xq _ _ _ | exact Nat.le_of_ble_eq_true rfl)
variable {P:Program}{w:World}{K:PySem.W.Frag}{mg:Str->Option Value}{base:Heap}{CN CS CR:Addr}
abbrev aZ:Stmt:=uo 18 3
theorem pB:bM ["self"] ["self"] (aa aZ):=⟨rfl,rfl,rfl,by decide +kernel,rfl,by decide +kernel,by decide +kernel⟩
theorem lH:(aa aZ).names.lookup ("len":Str)=some NameKind.globalImplicit:=by decide +kernel
theorem lE:aF (aa aZ) "self":=by decide +kernel
theorem lJ:("len":Str)≠"__name__":=by decide +kernel
theorem lK:(("len":Str)==("__debug__":Str))=false:=by decide +kernel
def Ql (CS:Addr):Sp:=fun vs H Q _=>∃(s dx b fl rk:Addr) (k:Nat) (xs:List V),vs=[.ref s]/\H s=some (.ins CS dx (seF b fl k rk))/\H fl=some (.lst xs)/\Q (.bl (decide (xs.length=0))) H
theorem pC {f:Addr}{fd:FuncData} (aR:eV K CS "was_reckoned" "Settling.was_reckoned" aZ ["self"] f fd) (T:Blt mg) (sc:SeC K CS):bI P w K mg base CX0 1 f fd ["self"] (Ql CS):=by
 refine aR.F.okQ pB (fun vs H Q E h=> ?_) (fun cdv A outer s H vs Q E hr h=> ?_)
 ·obtain⟨a,dx,b,fl,rk,k,xs,rfl,_⟩:=h
  rfl
 obtain⟨a,dx,b,fl,rk,k,xs,rfl,e,ef,q⟩:=h
 have gW:=sc.cl
 have nF:=sc.nF
 refine⟨_,(aB (cJ (vY iY (bF fQ lH T.tW mV (Il (bz (aj 0 lE)) au) lJ lK) aJ (cQ _)))), ?_⟩
 walk_at "vs"
 have:decide (V.int (xs.length:Int)=V.int 0)=decide (xs.length=0):=by
  by_cases z:xs.length=0
  ·rw[decide_eq_true z,z];rfl
  ·rw[decide_eq_false z]
   exact decide_eq_false fun w=>z (by have:=V.int.inj w;omega)
 rw[this]
 exact q
abbrev cO:Stmt:=uo 18 2
theorem wB:bM ["self","worth"] ["self","worth"] (aa cO):=⟨rfl,rfl,rfl,by decide +kernel,rfl,by decide +kernel,by decide +kernel⟩
theorem eY:aF (aa cO) "self":=by decide +kernel
theorem wC {f:Addr}{fd:FuncData} (dN:eV K CS "fit_on" "Settling.fit_on" cO ["self","worth"] f fd) (sc:SeC K CS):bI P w K mg base CX0 1 f fd ["self","worth"] (Wd CS):=by
 refine dN.F.okQ wB (fun vs H Q E h=> ?_) (fun cdv A outer s H vs Q E hr h=> ?_)
 ·obtain⟨a,dx,b,fl,rk,rb,br,l,k,as,ps,v,w',u,x,rfl,_⟩:=h
  rfl
 obtain⟨a,dx,b,fl,rk,rb,br,l,k,as,ps,v,w',u,x,rfl,e,ef,erb,el,hRs,hk,q⟩:=h
 have gW:=sc.cl
 have nF:=sc.nF
 have nP:=sc.nP
 refine⟨_,(aA (jl (aj 0 eY) (J4 rfl (n:=1) (fr:=[1,0]) (N:=["record","worth","self"]) (V2 (scX:=aa cO) (NX:=["self","worth"]) rfl rfl (by decide +kernel)) (Ka (bz (aj 0 eY))) (fun _ _ _ _ _=>(qgx (i:=0) (show List.Nodup (α:=Str) ["record","worth","self"] by decide) (Yq (by decide +kernel)))) (fun _ _ _ _ _=>(Yx (fP iY (cT (FQ (K:=K) rfl) (cT (Lz (K:=K) rfl) (cT (FQ (K:=K) rfl) (aj 0 (BR.ok (by decide +kernel))) aJ) (T8 (K:=K) rfl (aj 2 (BR.ok (by decide +kernel))))) aJ) (aj 1 (BR.ok (by decide +kernel))) (cQ _)))) (fun _ _ _ _ _=>(aj 0 (BR.ok (by decide +kernel))))))
  (aB (jl (aj 0 eY) (dF jB (bz (aj 0 eY)) aJ)))), ?_⟩
 have hkl:k<ps.length:=(List.getElem?_eq_some_iff.mp hk).1
 have hka:k<as.length:=by rw[hRs.length];exact hkl
 have hae:as[k]? =some as[k]:=List.getElem?_eq_getElem hka
 obtain⟨p,hp,ep⟩:=hRs.get k _ hae
 rw[hk] at hp
 cases hp
 have ep:H as[k]=some (.tup [.str x, .int u]):=ep
 have a1:atI [V.ref br, .ref l, .int v] 1=some (.ref l):=rfl
 have a2:atI (as.map V.ref) (k:Int)=some (.ref as[k]):=jJ (by rw[List.getElem?_map,hae];rfl)
 have a3:atI [V.str x, .int u] 1=some (.int u):=rfl
 walk_at "vs"
 intro D hD
 have sD:=aq (.lst []) hD
 refine Ly (xs:=[.ref rb]) (fun i σ' H'=>(∃t,σ'=[t,some (.int w'),some (.ref a)])/\aO H H'/\H' D=some (.lst (if i=0 then [] else if u=w' then [.ref rb] else []))) ?_ ?_ ?_ ?_
 ·exact⟨⟨none,rfl⟩,sD,ak⟩
 ·intro i σ' H' _ hP
  exact SqL.of (hP.2.1 _ _ ef)
 ·intro i y σ' H' hy hP
  obtain⟨⟨t,rfl⟩,S1,eD⟩:=hP
  obtain⟨rfl,rfl⟩:i=0/\y= .ref rb:=by
   match i,hy with
   | 0,hy=>exact⟨rfl,(Option.some.inj hy).symm⟩
   | i+1,hy=>simp at hy
  rw[if_pos rfl] at eD
  have e1:=S1 _ _ e
  have agM:=S1 _ _ erb
  have el1:=S1 _ _ el
  have ep1:=S1 _ _ ep
  have hz:([]:List V).length<sizeLine:=cC (by simp)
  walk_at "vs"
  refine Yp (fun c=> ?_) (fun c=> ?_)
  ·have c:u=w':=V.int.inj (of_decide_eq_true c)
   walk_at "vs"
   refine⟨⟨_,rfl⟩,vm _ hD S1, ?_⟩
   rw[if_neg (by decide),if_pos c];exact ak
  ·have c:¬u=w':=fun z=>c (decide_eq_true (by rw[z]))
   refine⟨⟨_,rfl⟩,S1, ?_⟩
   rw[if_neg (by decide),if_neg c];exact eD
 ·intro σ' H1 hP
  obtain⟨_,S1,eD⟩:=hP
  rw[show(if([V.ref rb]:List V).length=0 then([]:List V) else if u=w' then [.ref rb] else [])=if u=w' then [.ref rb] else [] from if_neg (by simp)] at eD
  have e1:=S1 _ _ e
  have naD:a≠D:=fun z=>by rw[z,hD] at e;cases e
  walk_at "vs"
  refine q D _ ((But.of_same S1).trans ((But.set _ (by simp)).trans (But.set _ (by simp)))) hD ak ?_
  rw[ao (Ne.symm naD),ao (Ne.symm naD)];exact eD
end
section
local macro_rules | `(tactic| walk_at "side") => `(tactic| first | exact vq _ _ _ _ | exact qP _ _ _ _ | exact vz _ _ _ _ | exact mD _ _ _ _ | exact (fu _ _ _ _).1 | exact (fu _ _ _ _).2.1 | exact (fu _ _ _ _).2.2.1 | exact (fu _ _ _ _).2.2.2 | exact xq _ _ _ | exact Nat.le_of_ble_eq_true rfl)
variable {P:Program}{w:World}{K:PySem.W.Frag}{mg:Str->Option Value}{base:Heap}{CN CS CR:Addr}
abbrev aW:Stmt:=uo 18 1
theorem jm:bM ["self","known","reads","name"] ["self","known"] (aa aW):=⟨rfl,rfl,rfl,by decide +kernel,rfl,by decide +kernel,by decide +kernel⟩
theorem cI:aF (aa aW) "self":=by decide +kernel
theorem n8:Loc (aa aW) "reads":=by decide +kernel
theorem qu:(aa aW).names.lookup ("len":Str)=some NameKind.globalImplicit:=by decide +kernel
theorem jk:aF (aa aW) "reads":=by decide +kernel
theorem qw:("len":Str)≠"__name__":=by decide +kernel
theorem qx:(("len":Str)==("__debug__":Str))=false:=by decide +kernel
theorem pD:Loc (aa aW) "name":=by decide +kernel
theorem gM:aF (aa aW) "name":=by decide +kernel
theorem gB:aF (aa aW) "known":=by decide +kernel
theorem vI {f g0 g1:Addr}{fd gd0 gd1:FuncData} (dz:eV K CS "lacking" "Settling.lacking" aW ["self","known"] f fd)
 (dN:eV K CS "fit_on" "Settling.fit_on" cO ["self","worth"] g0 gd0) (xM:bI P w K mg base CX0 1 g0 gd0 ["self","worth"] (Wd CS))
 (cV:eV K CR "lacking" "Reckoning.lacking" bA ["self","known"] g1 gd1) (vJ:bI P w K mg base CX0 3 g1 gd1 ["self","known"] (Oz CR))
 (T:Blt mg) (sc:SeC K CS) (rcC:RkC K CR):bI P w K mg base CX0 4 f fd ["self","known"] (Dn CS CR):=by
 refine dz.F.okQ jm (fun vs H Q E h=> ?_) (fun cdv A0 outer s H vs Q E hr h=> ?_)
 ·obtain⟨A,d,kr,rm,y,r,kn,rfl,_⟩:=h
  rfl
 obtain⟨A,d,kr,rm,y,r,kn,rfl,se,rD,rf,rcg,⟨kvs,ed,hkn⟩,nd3,hfn,q⟩:=h
 have gW:=sc.cl
 have nR:=sc.nR
 have nF:=sc.nF
 have nP:=sc.nP
 have nK:=sc.nK
 have jE:=rcC.cl
 refine⟨_,(aA (zZ PassesOwn.never (zU (bz (aj 0 cI))) (aA (bQ (i:=2) jm.nd rfl n8 (cT bZ (cT iK (bz (aj 0 cI)) aJ) aJ))
  (aA (eU (fP iY (bz (aj 0 cI)) (bF fQ qu T.tW mV (aX (aj 2 jk) au) qw qx) (cQ _)) (aB (cJ tV)) dD)
  (aA (bQ (i:=3) jm.nd rfl pD (cT bZ (cT iK (aj 2 jk) (bz (aj 0 cI))) aJ))
  (aA (eU (yl (eF hr) (aj 3 gM) (aj 1 gB)) (aB (cJ (aj 3 gM))) dD)
  (aB (eG (mq (aj 0 cI) gW dN.m (xM.mono (by omega)) hr dN.b .nil gA (oZ (gj (eF hr) (aj 1 gB) (aj 3 gM)) au)))))))))
  (aB (cJ (mq (bz (aj 0 cI)) jE cV.m (vJ.mono (by omega)) hr cV.b .nil gA (aX (aj 1 gB) au))))), ?_⟩
 have nds:d∉[A.s]:=fun z=>by
  have z:d=A.s:=by simpa using z
  have:=se.e
  rw[<-z,ed] at this;cases this
 refine⟨fun m σ H'=>∃(A1:SeD) (t1 t2:Option V),σ=[some (.ref A.s),some (.ref d),t1,t2]/\But [A.s] H H'/\qQ CS CR kr rm y r kn A1 H'/\A1.s=A.s/\A1.b=A.b/\A1.rk=A.rk/\A1.a1=A.a1/\A1.a2=A.a2/\A1.a3=A.a3/\A1.dx=A.dx/\(A1.fl=A.fl\/H A1.fl=none)/\m=1000 - A1.k,
  ⟨_,A,none,none,rfl,But.refl _ _,se,rfl,rfl,rfl,rfl,rfl,rfl,rfl, .inl rfl,rfl⟩, ?_⟩
 rintro m σ H1 ⟨A1,t1,t2,rfl,b1,se1,es,eb,erk,ea1,ea2,ea3,edx,efl,rfl⟩
 have e1:=se1.e
 rw[es] at e1
 have tp1:jU H H1:=fun p xs z=>b1 p _ (fun w=>by
  have w:p=A.s:=by simpa using w
  have:=se.e
  rw[<-w,z] at this;cases this) z
 have ed1:=b1 _ _ nds ed
 have rD1:rT H1 kr rm:=rD.map fun b' q' z=>z.but b1 tp1 (fun y hy=> .inr fun xs w=>by
  have w':y=A.s:=by simpa using hy
  have:=se.e
  rw[<-w',w] at this;cases this)
 have fin:∀H2,But [A.s] H1 H2->But A.ft H H2:=fun H2 b=>(b1.trans b).mono (by simp[SeD.ft])
 rcases se1.f with⟨rb,ps,v,Cj,hval,hrm,hkle,hall⟩ | ⟨Cj,nof⟩
 ·obtain⟨bb,hbb,br,l,as,f1,R1,el,hRs,_⟩:=rD1.v y _ hrm
  rw[hval] at hbb
  cases hbb
  have f1:H1 rb=some (.tup [.ref br, .ref l, .int v]):=f1
  have hRs:jn H1 as ps:=hRs
  have got:=rf ps v hrm
  have hpl:ps.length<=900:=Nat.le_trans (Gq got.c r.uc) rcg.l
  have a0:atI [V.ref rb] 0=some (.ref rb):=rfl
  have a1:atI [V.ref br, .ref l, .int v] 1=some (.ref l):=rfl
  have hlm:(as.map V.ref).length=ps.length:=by rw[List.length_map];exact hRs.length
  walk_at "vs"
  refine⟨fun σ' H'=>∃(A2:SeD) (t1 t2:Option V),σ'=[some (.ref A.s),some (.ref d),t1,t2]/\But [A.s] H H'/\qQ CS CR kr rm y r kn A2 H'/\A2.s=A.s/\A2.b=A.b/\A2.rk=A.rk/\A2.a1=A.a1/\A2.a2=A.a2/\A2.a3=A.a3/\A2.dx=A.dx/\(A2.fl=A.fl\/H A2.fl=none)/\A2.k=A1.k+1,fun σ' H' ⟨A2,t1,t2,z1,z2,z3,z4,z5,z6,z7,z8,z9,z10,z11,z12⟩=>⟨1000 - A2.k,by omega,A2,t1,t2,z1,z2,z3,z4,z5,z6,z7,z8,z9,z10,z11,rfl⟩, ?_⟩
  walk_at "vs"
  refine Yp (fun c=> ?_) (fun c=> ?_)
  ·have c:A1.k=ps.length:=by have:=V.int.inj (of_decide_eq_true c);omega
   walk_at "vs"
   refine(q A1 H1 (fin H1 (But.refl _ _)) es eb erk ea1 ea2 ea3 efl se1).1 (.inl ⟨rb,ps,v,Cj,hval,hrm,fun p hp=> ?_⟩)
   obtain⟨j,hj⟩:=List.getElem?_of_mem hp
   exact hall j p (by rw[c];exact(List.getElem?_eq_some_iff.mp hj).1) hj
  ·have c:A1.k<ps.length:=by
    have:¬A1.k=ps.length:=fun z=>c (decide_eq_true (by rw[hlm,z]))
    omega
   have hka:A1.k<as.length:=by rw[hRs.length];exact c
   have hae:as[A1.k]? =some as[A1.k]:=List.getElem?_eq_getElem hka
   obtain⟨⟨x,u⟩,hp,ep⟩:=hRs.get A1.k _ hae
   have ep:H1 as[A1.k]=some (.tup [.str x, .int u]):=ep
   have a2:atI (as.map V.ref) (A1.k:Int)=some (.ref as[A1.k]):=jJ (by rw[List.getElem?_map,hae];rfl)
   have a3:atI [V.str x, .int u] 0=some (.str x):=rfl
   have dw:dH H1 d (.str x) ((kn x).map V.int):=by rw[<-hkn];exact dH.k (k:= .inr x) ed1
   cases ekn:kn x with
   | none=>
     rw[ekn] at dw
     have dw:dH H1 d (.str x) none:=dw
     walk_at "vs"
     exact(q A1 H1 (fin H1 (But.refl _ _)) es eb erk ea1 ea2 ea3 efl se1).2 x ekn (IV got.c hp hall)
   | some w'=>
     rw[ekn] at dw
     have dw:dH H1 d (.str x) (some (.int w')):=dw
     walk_at "vs"
     intro fl' H2 b2 hfl' e2 MN
     have hs1:∀xs,H1 A.s≠some (.lst xs):=fun xs z=>by rw[e1] at z;cases z
     have tp2:jU H1 H2:=fun p xs z=>b2 p _ (fun w=>by
      have w:p=A.s:=by simpa using w
      rw[w,e1] at z;cases z) z
     obtain⟨cf,rc1,rch⟩:=se1.c
     have hns:∀{z:Addr},z≠A.s->z∉[A.s]:=fun h w=>h (by simpa using w)
     have nrk:A1.rk≠A.s:=fun z=>se1.n1 (by rw[es,z])
     have n1:A1.a1≠A.s:=fun z=>by obtain⟨ws,w1,_⟩:=rc1.e1;rw[z,e1] at w1;cases w1
     have n2:A1.a2≠A.s:=fun z=>by have w1:=rc1.e2;rw[z,e1] at w1;cases w1
     have n3:A1.a3≠A.s:=fun z=>by have w1:=rc1.e3;rw[z,e1] at w1;cases w1
     have f1n:fl'≠A1.a1:=fun z=>by obtain⟨ws,w1,_⟩:=rc1.e1;rw[<-z,hfl'] at w1;cases w1
     have f2n:fl'≠A1.a2:=fun z=>by have w1:=rc1.e2;rw[<-z,hfl'] at w1;cases w1
     refine⟨⟨A.s,A1.dx,A1.b,fl',A1.rk,A1.dxr,A1.a1,A1.a2,A1.a3,A1.k+1⟩,_,_,rfl,b1.trans b2,⟨e2,se1.hr.tups tp2,⟨cf,rc1.move b2 tp2 (fun z hz=> ?_),rch⟩, ?_,fun z=>nrk z.symm,f1n,f2n⟩,rfl,eb,erk,ea1,ea2,ea3,edx, .inr ?_,rfl⟩
     ·have hz:z=A1.rk\/z=A1.a1\/z=A1.a2\/z=A1.a3:=by simpa using hz
      rcases hz with rfl | rfl | rfl | rfl
      ·exact hns nrk
      ·exact hns n1
      ·exact hns n2
      ·exact hns n3
     ·by_cases huw:u=w'
      ·rw[if_pos huw] at MN
       refine .inl ⟨rb,ps,v,MN,hval,hrm,c,fun j p hj hpj=> ?_⟩
       have hj:j<A1.k+1:=hj
       by_cases hjk:j=A1.k
       ·rw[hjk,hp] at hpj;cases hpj
        rw[ekn,huw]
       ·exact hall j p (by omega) hpj
      ·rw[if_neg huw] at MN
       refine .inr ⟨MN,fun r2 ps2 v2 e=> ?_⟩
       rw[hrm] at e;cases e
       exact .inr ⟨(x,u),List.mem_of_getElem? hp,w',ekn,fun z=>huw z.symm⟩
     ·exact Ge b1 hfl' (hns (show fl'≠A.s from fun z=>by rw[z,e1] at hfl';cases hfl'))
 ·obtain⟨cf,rc1,rch⟩:=se1.c
  have agN:=rc1.e
  obtain⟨nn,cf',hst,hhalt,rch',gg⟩:=rch.acj hfn
  have knA:Ox H1 d kn:=⟨kvs,ed1,hkn⟩
  have agO:d≠A1.a3:=by rw[ea3];exact nd3
  walk_at "vs"
  intro H2 b2 rc2
  have tp2:=rc1.lists b2
  have nss:A1.s∉[A1.a1,A1.a2,A1.a3]:=fun z=>by
   have e1:=se1.e
   have z:A1.s=A1.a1\/A1.s=A1.a2\/A1.s=A1.a3:=by simpa using z
   rcases z with z | z | z
   ·obtain⟨ws,w1,_⟩:=rc1.e1;rw[z,w1] at e1;cases e1
   ·rw[z,rc1.e2] at e1;cases e1
   ·rw[z,rc1.e3] at e1;cases e1
  have nfl:A1.fl∉[A1.a1,A1.a2,A1.a3]:=fun z=>by
   have z:A1.fl=A1.a1\/A1.fl=A1.a2\/A1.fl=A1.a3:=by simpa using z
   rcases z with z | z | z
   ·exact se1.n2 z
   ·exact se1.n3 z
   ·rw[z,rc1.e3] at Cj;cases Cj
  have se2:qQ CS CR kr rm y r kn A1 H2:=⟨b2 _ _ nss se1.e,se1.hr.tups tp2,⟨cf',rc2,rch'⟩, .inr ⟨b2 _ _ nfl Cj,nof⟩,se1.n1,se1.n2,se1.n3⟩
  have bb:But A.ft H H2:=(b1.mono (by simp[SeD.ft])).trans (b2.mono (by rw[ea1,ea2,ea3];simp[SeD.ft]))
  have qq:=q A1 H2 bb es eb erk ea1 ea2 ea3 efl se2
  unfold Goes at gg
  cases eev:ev kn r with
  | inr v=>
    rw[eev] at gg
    obtain⟨g1,g2,g3,g4⟩:=gg
    exact⟨fun _=>qq.1 (.inr ⟨b2 _ _ nfl Cj,nof,cf',v,rc2,g2,g3,g4⟩),fun t x z=>by rw[g1] at z;simp at z⟩
  | inl x=>
    rw[eev] at gg
    obtain⟨⟨t,g1⟩,g2,g3⟩:=gg
    refine⟨fun z=>by rw[g1] at z;simp at z,fun t' x' z=> ?_⟩
    rw[g1] at z
    obtain⟨_,z⟩:=iQ z
    cases z
    exact qq.2 x g2 g3
end
section
local macro_rules | `(tactic| walk_at "side") => `(tactic| first | exact vq _ _ _ _ | exact qP _ _ _ _ | exact vz _ _ _ _ | exact mD _ _ _ _ | exact (fu _ _ _ _).1 | exact (fu _ _ _ _).2.1 | exact (fu _ _ _ _).2.2.1 | exact (fu _ _ _ _).2.2.2 | exact xq _ _ _ | exact Ag _ _ _ | exact Ah _ _ _ | exact Nat.le_of_ble_eq_true rfl)
variable {P:Program}{w:World}{K:PySem.W.Frag}{mg:Str->Option Value}{base:Heap}{CN CS CR:Addr}
abbrev bL:Stmt:=uo 18 4
theorem rB:bM ["self"] ["self"] (aa bL):=⟨rfl,rfl,rfl,by decide +kernel,rfl,by decide +kernel,by decide +kernel⟩
theorem bC:aF (aa bL) "self":=by decide +kernel
theorem iW:(aa bL).names.lookup ("list":Str)=some NameKind.globalImplicit:=by decide +kernel
theorem mJ:("list":Str)≠"__name__":=by decide +kernel
theorem mK:(("list":Str)==("__debug__":Str))=false:=by decide +kernel
theorem rC {f g0:Addr}{fd gd0:FuncData} (cL:eV K CS "new_record" "Settling.new_record" bL ["self"] f fd)
 (aR:eV K CS "was_reckoned" "Settling.was_reckoned" aZ ["self"] g0 gd0) (gY:bI P w K mg base CX0 1 g0 gd0 ["self"] (Ql CS))
 (T:Blt mg) (sc:SeC K CS) (rcC:RkC K CR):bI P w K mg base CX0 2 f fd ["self"] (Kv CS CR):=by
 refine cL.F.okQ rB (fun vs H Q E h=> ?_) (fun cdv A0 outer s H vs Q E hr h=> ?_)
 ·obtain⟨A,kr,rm,y,r,kn,rfl,_⟩:=h
  rfl
 obtain⟨A,kr,rm,y,r,kn,rfl,e,rD,rf,rcg,se,q⟩:=h
 have gW:=sc.cl
 have nR:=sc.nR
 have nF:=sc.nF
 have nP:=sc.nP
 have nK:=sc.nK
 have jE:=rcC.cl
 have nFo:=rcC.nF
 have nRe:=rcC.nR
 refine⟨_,(aA (eU (j0 (Ae (aj 0 bC) gW aR.m (gY.mono (by omega)) hr aR.b .nil gA)) (aB (cJ (cB (Il (bz (aj 0 bC)) (tX (Zf rfl (bz (bz (aj 0 bC))) iW T.Ac) (oZ (cT iK (bz (bz (aj 0 bC))) aJ) au)))))) dD)
  (aB (cJ (cB (Il (bz (aj 0 bC)) (tX (pR v7 iW T.Ac xg (oZ (cT bZ (cT iK (bz (aj 0 bC)) aJ) aJ) au) mJ mK) (oZ (cT bZ (cT iK (bz (aj 0 bC)) aJ) aJ) au))))))), ?_⟩
 rcases se with⟨rb,ps,v,efl,hval,hrm,hall⟩ | ⟨efl,nof,c,v,rc1,hfo,got,rows⟩
 ·obtain⟨bb,hbb,br,l,as,f1,R1,el,hRs,_⟩:=rD.v y _ hrm
  rw[hval] at hbb
  cases hbb
  have f1:H rb=some (.tup [.ref br, .ref l, .int v]):=f1
  have hRs:jn H as ps:=hRs
  have got:=rf ps v hrm
  have hpl:ps.length<=900:=Nat.le_trans (Gq got.c r.uc) rcg.l
  have a0:atI [V.ref rb] 0=some (.ref rb):=rfl
  have a1:atI [V.ref br, .ref l, .int v] 1=some (.ref l):=rfl
  have a2:atI [V.ref br, .ref l, .int v] 2=some (.int v):=rfl
  walk_at "vs"
  intro l' hl'
  have s1:=aq (.lst (as.map V.ref)) hl'
  have el1:upd H l' (.lst (as.map V.ref)) l'=some (.lst (as.map V.ref)):=ak
  have e1:=s1 _ _ e
  have Cj:=s1 _ _ efl
  have f11:=s1 _ _ f1
  generalize upd H l' (.lst (as.map V.ref))=H1 at *
  walk_at "vs"
  intro rb' hrb'
  have s2:=aq (.tup [.ref A.b, .ref l', .int v]) hrb'
  exact q rb' l' as ps v false _ (s1.trans s2) ak hl' (s2 _ _ el1) (hRs.same (s1.trans s2)) ⟨got,⟨hall,(vo got.c).2⟩,hrm⟩ ⟨_,s2 _ _ Cj,rfl⟩
 ·have e1:=rc1.e
  have e2:=rc1.e2
  rw[hfo] at e2
  have e3:=rc1.e3
  have a0:atI [V.int v] 0=some (.int v):=rfl
  walk_at "vs"
  intro l' as H1 s1 hl' el1 hal hit
  have e1':=s1 _ _ e1
  have e2':H1 A.a2=some (.lst [.int v]):=s1 _ _ e2
  have eS:=s1 _ _ e
  have Cj:=s1 _ _ efl
  walk_at "vs"
  intro rb' hrb'
  have s2:=aq (.tup [.ref A.b, .ref l', .int v]) hrb'
  have hR:jn H1 as c.rds:=Gn (by rw[hal];unfold rdK;rw[List.length_map]) fun j b p h1 h2=>by
   have h3:(rdK c.rds)[j]? =some (.inr p.1, .int p.2):=by unfold rdK;rw[List.getElem?_map,h2];rfl
   exact hit j b _ h1 h3
  exact q rb' l' as c.rds v true _ (s1.trans s2) ak hl' (s2 _ _ el1) (hR.same s2) ⟨got,rows,nof⟩ ⟨_,s2 _ _ Cj,rfl⟩
end
section
local macro_rules | `(tactic| walk_at "side") => `(tactic| first | exact xx _ _ _ _ _ _ | exact qR _ _ _ _ _ _ | exact Ej _ _ _ _ _ _ | exact xF _ _ _ _ _ _ | exact qT _ _ _ _ _ _ | exact oN _ _ _ _ _ _ | exact (gU _ _ _ _ _ _).1 | exact (gU _ _ _ _ _ _).2.1 | exact (gU _ _ _ _ _ _).2.2.1 | exact (gU _ _ _ _ _ _).2.2.2.1 | exact (gU _ _ _ _ _ _).2.2.2.2 | exact (yp _).1 | exact (yp _).2 | exact (fu _ _ _ _).1 | exact (fu _ _ _ _).2.2.1 | exact (fu _ _ _ _).2.2.2 | exact Nat.le_of_ble_eq_true rfl)
variable {P:Program}{w:World}{K:PySem.W.Frag}{mg:Str->Option Value}{base:Heap}{CSe CN CS CR CM CNo CRi:Addr}
abbrev cg:Stmt:=uo 19 0
theorem wD:bM ["self","house","old"] ["self","house","old"] (aa cg):=⟨rfl,rfl,rfl,by decide +kernel,rfl,by decide +kernel,by decide +kernel⟩
theorem cP:aF (aa cg) "self":=by decide +kernel
theorem jy:aF (aa cg) "house":=by decide +kernel
theorem rE:aF (aa cg) "old":=by decide +kernel
theorem wF {f:Addr}{fd:FuncData} (eZ:eV K CSe "__init__" "Search.__init__" cg ["self","house","old"] f fd) (sc:SrC K CSe):bI P w K mg base CX0 1 f fd ["self","house","old"] (Gr CSe):=by
 refine eZ.F.okQ wD (fun vs H Q E h=> ?_) (fun cdv A outer s H vs Q E hr h=> ?_)
 ·obtain⟨a,dx,h,g,c,o,rfl,_⟩:=h
  rfl
 obtain⟨a,dx,h,g,c,o,rfl,e,eh,q⟩:=h
 have mL:=sc.cl
 have nG:=sc.nG
 have nR:=sc.nR
 have nO:=sc.nO
 have nK:=sc.nK
 have nS:=sc.nS
 have nM:=sc.nM
 refine⟨_,(aA (jl (aj 0 cP) (cT bZ (aj 1 jy) aJ))
  (aA (jl (aj 0 cP) (cT bZ (aj 1 jy) aJ))
  (aA (jl (aj 0 cP) (aj 2 rE))
  (aA (jl (aj 0 cP) kY)
  (aA (jl (aj 0 cP) kY)
  (aB (jl (aj 0 cP) kY))))))), ?_⟩
 have nha:h≠a:=fun z=>by rw[z,e] at eh;cases eh
 have a0:atI [V.ref g, .ref c] 0=some (.ref g):=rfl
 have a1:atI [V.ref g, .ref c] 1=some (.ref c):=rfl
 walk_at "vs"
 rw[kO,kO]
 have b1:But [a] H (upd H a (.ins CSe dx (aP "old" (.ref o) (aP "recipes" (.ref c) (aP "given" (.ref g) []))))):=But.set _ (by simp)
 have e1:upd H a (.ins CSe dx (aP "old" (.ref o) (aP "recipes" (.ref c) (aP "given" (.ref g) [])))) a=some (.ins CSe dx (aP "old" (.ref o) (aP "recipes" (.ref c) (aP "given" (.ref g) [])))):=ak
 have n1:∀{z},upd H a (.ins CSe dx (aP "old" (.ref o) (aP "recipes" (.ref c) (aP "given" (.ref g) [])))) z=none->H z=none:=fun z=>(fH z).2
 generalize upd H a (.ins CSe dx (aP "old" (.ref o) (aP "recipes" (.ref c) (aP "given" (.ref g) []))))=H1 at *
 walk_at "vs"
 intro kd hkd
 have s2:=aq (.dK []) hkd
 have ek2:upd H1 kd (.dK []) kd=some (.dK []):=ak
 have e2:=s2 _ _ e1
 generalize upd H1 kd (.dK [])=H2 at *
 have nka:kd≠a:=fun z=>by rw[z,e2] at ek2;cases ek2
 walk_at "vs"
 have b3:But [a] H2 (upd H2 a (.ins CSe dx (aP "known" (.ref kd) (aP "old" (.ref o) (aP "recipes" (.ref c) (aP "given" (.ref g) [])))))):=But.set _ (by simp)
 have e3:upd H2 a (.ins CSe dx (aP "known" (.ref kd) (aP "old" (.ref o) (aP "recipes" (.ref c) (aP "given" (.ref g) []))))) a=some (.ins CSe dx (aP "known" (.ref kd) (aP "old" (.ref o) (aP "recipes" (.ref c) (aP "given" (.ref g) []))))):=ak
 have ek3:upd H2 a (.ins CSe dx (aP "known" (.ref kd) (aP "old" (.ref o) (aP "recipes" (.ref c) (aP "given" (.ref g) []))))) kd=some (.dK []):=(ao nka).trans ek2
 have n3:∀{z},upd H2 a (.ins CSe dx (aP "known" (.ref kd) (aP "old" (.ref o) (aP "recipes" (.ref c) (aP "given" (.ref g) []))))) z=none->H2 z=none:=fun z=>(fH z).2
 generalize upd H2 a (.ins CSe dx (aP "known" (.ref kd) (aP "old" (.ref o) (aP "recipes" (.ref c) (aP "given" (.ref g) [])))))=H3 at *
 intro sd hsd
 have s4:=aq (.dK []) hsd
 have es4:upd H3 sd (.dK []) sd=some (.dK []):=ak
 have nks:kd≠sd:=fun z=>by rw[<-z,ek3] at hsd;cases hsd
 have ek4:=s4 _ _ ek3
 have e4:=s4 _ _ e3
 generalize upd H3 sd (.dK [])=H4 at *
 have nsa:sd≠a:=fun z=>by rw[z,e4] at es4;cases es4
 walk_at "vs"
 have b5:But [a] H4 (upd H4 a (.ins CSe dx (aP "settled" (.ref sd) (aP "known" (.ref kd) (aP "old" (.ref o) (aP "recipes" (.ref c) (aP "given" (.ref g) []))))))):=But.set _ (by simp)
 have e5:upd H4 a (.ins CSe dx (aP "settled" (.ref sd) (aP "known" (.ref kd) (aP "old" (.ref o) (aP "recipes" (.ref c) (aP "given" (.ref g) [])))))) a=some (.ins CSe dx (aP "settled" (.ref sd) (aP "known" (.ref kd) (aP "old" (.ref o) (aP "recipes" (.ref c) (aP "given" (.ref g) [])))))):=ak
 have ek5:upd H4 a (.ins CSe dx (aP "settled" (.ref sd) (aP "known" (.ref kd) (aP "old" (.ref o) (aP "recipes" (.ref c) (aP "given" (.ref g) [])))))) kd=some (.dK []):=(ao nka).trans ek4
 have es5:upd H4 a (.ins CSe dx (aP "settled" (.ref sd) (aP "known" (.ref kd) (aP "old" (.ref o) (aP "recipes" (.ref c) (aP "given" (.ref g) [])))))) sd=some (.dK []):=(ao nsa).trans es4
 have n5:∀{z},upd H4 a (.ins CSe dx (aP "settled" (.ref sd) (aP "known" (.ref kd) (aP "old" (.ref o) (aP "recipes" (.ref c) (aP "given" (.ref g) [])))))) z=none->H4 z=none:=fun z=>(fH z).2
 generalize upd H4 a (.ins CSe dx (aP "settled" (.ref sd) (aP "known" (.ref kd) (aP "old" (.ref o) (aP "recipes" (.ref c) (aP "given" (.ref g) []))))))=H5 at *
 intro rd hrd
 have s6:=aq (.dK []) hrd
 have er6:upd H5 rd (.dK []) rd=some (.dK []):=ak
 have nkr:kd≠rd:=fun z=>by rw[<-z,ek5] at hrd;cases hrd
 have nsr:sd≠rd:=fun z=>by rw[<-z,es5] at hrd;cases hrd
 have ek6:=s6 _ _ ek5
 have es6:=s6 _ _ es5
 have e6:=s6 _ _ e5
 generalize upd H5 rd (.dK [])=H6 at *
 have nra:rd≠a:=fun z=>by rw[z,e6] at er6;cases er6
 walk_at "vs"
 have hk0:H kd=none:=n1 hkd
 have hs0:H sd=none:=n1 (same_none s2 (n3 hsd))
 have hr0:H rd=none:=n1 (same_none s2 (n3 (same_none s4 (n5 hrd))))
 exact q kd sd rd _ ((b1.trans (But.of_same s2)).trans (b3.trans ((But.of_same s4).trans (b5.trans ((But.of_same s6).trans (But.set _ (by simp))))))) ak hk0 hs0 hr0 nks nkr nsr ((ao nka).trans ek6) ((ao nsa).trans es6) ((ao nra).trans er6)
abbrev cz:Stmt:=uo 3 0
theorem wG:bM ["self","name"] ["self","name"] (aa cz):=⟨rfl,rfl,rfl,by decide +kernel,rfl,by decide +kernel,by decide +kernel⟩
theorem lM:(aa cz).names.lookup ("MadeError":Str)=some NameKind.globalImplicit:=by decide +kernel
theorem jG:aF (aa cz) "self":=by decide +kernel
theorem jH:aF (aa cz) "name":=by decide +kernel
theorem lN:(("MadeError":Str)==("__debug__":Str))=false:=by decide +kernel
theorem wH {f:Addr}{fd:FuncData} (fj:eV K CNo "__init__" "NoName.__init__" cz ["self","name"] f fd) (vC:ExI K CNo f) (uJ:ExU K CM) (m5:mg "MadeError"=some (.ref CM)) (nN:PySem.W.findIn K (.ref CNo) "name"=some none):bI P w K mg base CX0 1 f fd ["self","name"] (Wl CNo):=by
 refine fj.F.okQ wG (fun vs H Q E h=> ?_) (fun cdv A outer s H vs Q E hr h=> ?_)
 ·obtain⟨e,y,rfl,_⟩:=h
  rfl
 obtain⟨e,y,rfl,ee,⟨y1,y2⟩,q⟩:=h
 refine⟨_,(aA (eG (PB uJ lM m5 (aj 0 jG) (PK (aj 1 jH) (by decide +kernel)) lN ⟨rfl,rfl,rfl,rfl⟩))
  (aB (KN rfl (aj 0 jG) (aj 1 jH) rfl))), ?_⟩
 walk_at "vs"
 intro z hz
 refine⟨e,CNo,f,none,rfl,ee,vC, ?_⟩
 walk_at "vs"
 exact q
abbrev cH:Stmt:=uo 4 0
theorem yx:bM ["self","ring"] ["self","ring"] (aa cH):=⟨rfl,rfl,rfl,by decide +kernel,rfl,by decide +kernel,by decide +kernel⟩
theorem m6:(aa cH).names.lookup ("MadeError":Str)=some NameKind.globalImplicit:=by decide +kernel
theorem jX:aF (aa cH) "self":=by decide +kernel
theorem m7:(("MadeError":Str)==("__debug__":Str))=false:=by decide +kernel
theorem su:(aa cH).names.lookup ("list":Str)=some NameKind.globalImplicit:=by decide +kernel
theorem sy:aF (aa cH) "ring":=by decide +kernel
theorem sG:("list":Str)≠"__name__":=by decide +kernel
theorem sH:(("list":Str)==("__debug__":Str))=false:=by decide +kernel
theorem yz {f:Addr}{fd:FuncData} (gD:eV K CRi "__init__" "Ring.__init__" cH ["self","ring"] f fd) (Hh:ExI K CRi f) (uJ:ExU K CM) (m5:mg "MadeError"=some (.ref CM)) (nN:PySem.W.findIn K (.ref CRi) "ring"=some none) (T:Blt mg):bI P w K mg base CX0 1 f fd ["self","ring"] (Wm CRi):=by
 refine gD.F.okQ yx (fun vs H Q E h=> ?_) (fun cdv A outer s H vs Q E hr h=> ?_)
 ·obtain⟨e,l,xs,rfl,_⟩:=h
  rfl
 obtain⟨e,l,xs,rfl,ee,el,hxl,q⟩:=h
 refine⟨_,(aA (eG (PB uJ m6 m5 (aj 0 jX) aD m7 ⟨rfl,rfl,rfl,rfl⟩))
  (aB (KN rfl (aj 0 jX) (pR v7 su T.Ac xg (aX (aj 1 sy) au) sG sH) rfl))), ?_⟩
 walk_at "vs"
 intro l' hl'
 have nel:e≠l':=fun z=>by rw[z,hl'] at ee;cases ee
 have ee':upd H l' (.lst xs) e=some (rW CRi none e):=(ao nel).trans ee
 walk_at "vs"
 exact fun dx hdx ne=>q l' dx hl' hdx ne
abbrev bW:Stmt:=uo 19 1
theorem rP:bM ["self","name","r"] ["self","name"] (aa bW):=⟨rfl,rfl,rfl,by decide +kernel,rfl,by decide +kernel,by decide +kernel⟩
theorem gG:aF (aa bW) "name":=by decide +kernel
theorem jd:aF (aa bW) "self":=by decide +kernel
theorem rF:(aa bW).names.lookup ("NoName":Str)=some NameKind.globalImplicit:=by decide +kernel
theorem rG:(("NoName":Str)==("__debug__":Str))=false:=by decide +kernel
theorem xN:Loc (aa bW) "r":=by decide +kernel
theorem pF:(aa bW).names.lookup ("Settling":Str)=some NameKind.globalImplicit:=by decide +kernel
theorem oU:aF (aa bW) "r":=by decide +kernel
theorem pG:(("Settling":Str)==("__debug__":Str))=false:=by decide +kernel
theorem zj {f g0 g1 g2:Addr}{fd gd0 gd1 gd2:FuncData} (fY:eV K CSe "begin" "Search.begin" bW ["self","name"] f fd)
 (bJ:eV K CN "records_for" "NamedRecords.records_for" aK ["self","name","r"] g0 gd0) (m8:bI P w K mg base CX0 13 g0 gd0 ["self","name","r"] (Ku CN))
 (dU:eV K CS "__init__" "Settling.__init__" bB ["self","r","records"] g1 gd1) (vK:bI P w K mg base CX0 3 g1 gd1 ["self","r","records"] (Gk CS CR))
 (wI:Mk K CS g1) (wJ:mg "Settling"=some (.ref CS)) (fj:eV K CNo "__init__" "NoName.__init__" cz ["self","name"] g2 gd2) (xO:bI P w K mg base CX0 1 g2 gd2 ["self","name"] (Wl CNo)) (vC:ExI K CNo g2) (Qm:PySem.W.isFn K (.ref g2)=true) (zH:mg "NoName"=some (.ref CNo))
 (T:Blt mg) (sc:SrC K CSe) (nc:NrC K CN):bI P w K mg base (CXd P w) 14 f fd ["self","name"] (Gz CSe CN CS CR CNo CRi):=by
 refine fY.F.okD rP (fun vs H Q E h=> ?_) (fun cdv A0 outer s H vs Q E hr h=> ?_)
 ·obtain⟨D,gs,cs,gv,rc,kg,kc,kr,rm,y,rfl,_⟩:=h
  rfl
 obtain⟨D,gs,cs,gv,rc,kg,kc,kr,rm,y,rfl,sh,q,qe⟩:=h
 have mL:=sc.cl
 have nR:=sc.nR
 have nO:=sc.nO
 have ju:=nc.cl
 have e:=sh.e
 have ec:=sh.ec
 have eo:=sh.eo
 have er:=sh.er
 have rD:=sh.rD
 refine⟨_,(aA (eU (yl (eF hr) (aj 1 gG) (bz (aj 0 jd))) (aB (Dp vC (xO.mono (by omega)) hr Qm fj.b rF zH (aX (aj 1 gG) au) rG)) dD)
  (aA (bQ (i:=2) rP.nd rfl xN (gj (eF hr) (bz (aj 0 jd)) (aj 1 gG)))
  (aB (cJ (xm wI (vK.mono (by omega)) hr pF wJ dU.b .nil gA (aX (aj 2 oU) (tX (mq (bz (aj 0 jd)) ju bJ.m (m8.mono (by omega)) hr bJ.b .nil gA (aX (aj 1 gG) (aX (aj 2 oU) au))) au)) pG))))), ?_⟩
 cases hrc:rc y with
 | none=>
   obtain⟨nm,qe⟩:=qe hrc
   have dc:dH H D.c (.str y) none:=by rw[<-sh.bd.rn y hrc];exact dH.k (k:= .inr y) ec
   walk_at "vs"
   intro e he
   refine⟨e,y,rfl,ak,nm,fun dx hdx ne=>⟨rfl,dx,upd H dx (.xd [("name", .str y)]), ?_,(ao (Ne.symm ne)).trans he,qe _ _ _ (aq _ ((ao ne).symm.trans hdx)) ⟨rfl,dx,rfl,ak⟩⟩⟩
   rw[p6 (Ne.symm ne),kO]
 | some r=>
   have q:=q r hrc
   obtain⟨br,hbr,hR⟩:=sh.bd.r y r hrc
   have rk0:=sh.bd.ok y r hrc
   have hg:=rk0.g
   have hd8:=rk0.d
   have hw:=rk0.w
   have dc:dH H D.c (.str y) (some (.ref br)):=by rw[<-hbr];exact dH.k (k:= .inr y) ec
   walk_at "vs"
   intro fl H1 s1 hfl fit
   have hR1:=hR.same s1
   walk_at "vs"
   intro a dx ha hdx hne
   have haH:(upd H1 dx (.own a)) a=none:=(ao (Ne.symm hne)).trans ha
   have S1:=(aq (.own a) hdx).trans (aq (.ins CS dx []) haH)
   refine⟨a,dx,br,fl,r,rfl,ak,hR1.same S1,hw,fun A H2 b2 eA eb efl ek e2 rc2 hfr=>⟨rfl, ?_⟩⟩
   have S2:aO H1 H2:=iM S1 (fun p hp=>by
    have:p=a:=by simpa using hp
    rw[this];exact ha) b2
   have MP:∀z∈[A.rk,A.a1,A.a2,A.a3],H1 z=none:=fun z hz=>same_none S1 (hfr z hz)
   have acD:H1 fl≠none:=fun z=>by
    rcases fit kn0 with⟨rb,ps,v,w1,_⟩ | ⟨w1,_⟩
    ·rw[z] at w1;cases w1
    ·rw[z] at w1;cases w1
   rw[<-eA]
   refine q A H2 (s1.trans S2) (fun z hz=> ?_) (fun kn=>⟨?_, ?_,⟨_,rc2,⟨0, .zero⟩⟩, ?_,fun z=> ?_,fun z=> ?_,fun z=> ?_⟩)
   ·have hz:z=A.s\/z=A.fl\/z=A.rk\/z=A.a1\/z=A.a2\/z=A.a3:=by simpa [SeD.ft] using hz
    rcases hz with w | w | w | w | w | w
    ·rw[w,eA];exact same_none s1 ha
    ·rw[w,efl];exact hfl
    ·exact same_none s1 (MP z (by simp[w]))
    ·exact same_none s1 (MP z (by simp[w]))
    ·exact same_none s1 (MP z (by simp[w]))
    ·exact same_none s1 (MP z (by simp[w]))
   ·rw[eA,eb,efl,ek];exact e2
   ·rw[eb];exact hR1.same S2
   ·rw[efl,ek];exact(fit kn).at fun o e=>S2 _ _ e
   ·have:=hfr A.rk (by simp)
    rw[<-z,eA,ak] at this;cases this
   ·exact acD (by rw[<-efl,z];exact MP _ (by simp))
   ·exact acD (by rw[<-efl,z];exact MP _ (by simp))
end
section
local macro_rules | `(tactic| walk_at "side") => `(tactic| first | exact xx _ _ _ _ _ _ | exact qR _ _ _ _ _ _ | exact Ej _ _ _ _ _ _ | exact xF _ _ _ _ _ _ | exact qT _ _ _ _ _ _ | exact oN _ _ _ _ _ _ | exact (gU _ _ _ _ _ _).1 | exact (gU _ _ _ _ _ _).2.1 | exact (gU _ _ _ _ _ _).2.2.1 | exact (gU _ _ _ _ _ _).2.2.2.1 | exact (gU _ _ _ _ _ _).2.2.2.2 | exact (yp _).1 | exact (yp _).2 | exact (fu _ _ _ _).1 | exact (fu _ _ _ _).2.2.1 | exact (fu _ _ _ _).2.2.2 | exact Nat.le_of_ble_eq_true rfl)
variable {P:Program}{w:World}{K:PySem.W.Frag}{mg:Str->Option Value}{base:Heap}{CSe CN CS CR:Addr}
abbrev di:Stmt:=uo 19 2
theorem vQ:bM ["self","name","settling","record"] ["self","name","settling"] (aa di):=⟨rfl,rfl,rfl,by decide +kernel,rfl,by decide +kernel,by decide +kernel⟩
theorem uK:Loc (aa di) "record":=by decide +kernel
theorem jP:aF (aa di) "settling":=by decide +kernel
theorem iG:aF (aa di) "self":=by decide +kernel
theorem jF:aF (aa di) "name":=by decide +kernel
theorem je:aF (aa di) "record":=by decide +kernel
theorem Ck {f g0 g1 g2:Addr}{fd gd0 gd1 gd2:FuncData} (iH:eV K CSe "end" "Search.end" di ["self","name","settling"] f fd)
 (cL:eV K CS "new_record" "Settling.new_record" bL ["self"] g0 gd0) (sI:bI P w K mg base CX0 2 g0 gd0 ["self"] (Kv CS CR))
 (aR:eV K CS "was_reckoned" "Settling.was_reckoned" aZ ["self"] g1 gd1) (gY:bI P w K mg base CX0 1 g1 gd1 ["self"] (Ql CS))
 (bV:eV K CN "put_made" "NamedRecords.put_made" bU ["self","record"] g2 gd2) (qy:bI P w K mg base CX0 1 g2 gd2 ["self","record"] Wc)
 (T:Blt mg) (sr:SrC K CSe) (sc:SeC K CS) (nc:NrC K CN):bI P w K mg base CX0 3 f fd ["self","name","settling"] (Kw CSe CN CS CR):=by
 refine iH.F.okQ vQ (fun vs H Q E h=> ?_) (fun cdv A0 outer s H vs Q E hr h=> ?_)
 ·obtain⟨H0,D,gs,cs,gv,rc,kg,kc,kr,rm,kn,rmN,rkn,od,Hf,A,y,r,rfl,_⟩:=h
  rfl
 obtain⟨H0,D,gs,cs,gv,rc,kg,kc,kr,rm,kn,rmN,rkn,od,Hf,A,y,r,rfl,sh,so,e,hR,se,hkn,hgv,hrc,hft,q⟩:=h
 have mL:=sr.cl
 have nK:=sr.nK
 have nS:=sr.nS
 have nM:=sr.nM
 have nO:=sr.nO
 have gW:=sc.cl
 have ju:=nc.cl
 obtain⟨e0,_,_,_,eo0,_,rD0,rf0,nks,nkr,nsr⟩:=sh.same so.sm
 have rfy:∀ps v,rm y=some (r,ps,v)->lg r kn0 ps v:=fun ps v h=>rf0 y r ps v h hgv hrc
 have rcgy:=sh.bd.ok y r hrc
 refine⟨_,(aA (bQ (i:=3) vQ.nd rfl uK (Ae (aj 2 jP) gW cL.m (sI.mono (by omega)) hr cL.b .nil gA))
  (aA (kW (eF hr) (bz (aj 0 iG)) (aj 1 jF) (cT bZ (aj 3 je) aJ))
  (aA (kW (eF hr) (bz (aj 0 iG)) (aj 1 jF) (aj 3 je))
  (aB (eU (j0 (Ae (aj 2 jP) gW aR.m (gY.mono (by omega)) hr aR.b .nil gA)) (aA (kW (eF hr) (bz (aj 0 iG)) (aj 1 jF) Fz)
  (aB (eG (mq (bz (aj 0 iG)) ju bV.m (qy.mono (by omega)) hr bV.b .nil gA (aX (aj 3 je) au))))) dD))))), ?_⟩
 walk_at "vs"
 intro rb l as ps v made H1 s1 erb hl el hRs rcd ⟨xs,efl,exs⟩
 obtain⟨kw,ws,ek,kk1,hkw⟩:=so.ek
 obtain⟨ks,es,rDs,kod⟩:=so.es
 obtain⟨kk,rs,er,kk3,hkk,hrn⟩:=so.er
 have hkl:kw.length<=60:=so.kl sh.bd kk1 hkw
 have hsl:ks.length<=60:=so.sl sh.bd kod rDs.s.w
 have hrm:rmN y=none:=by
  cases z:rmN y with
  | none=>rfl
  | some q'=>
    obtain⟨r1,ps1,v1⟩:=q'
    have:=(so.ok.b y r1 ps1 v1 z).2.2.1
    rw[hkn] at this;cases this
 have hry:rkn y=false:=by
  cases z:rkn y with
  | false=>rfl
  | true=>exact absurd hrm (hrn y z)
 have hrl:kk.length<=60:=so.sl sh.bd kk3 fun x z=>by
  have:rkn x=false:=by
   cases w:rkn x with
   | false=>rfl
   | true=>exact absurd z (hrn x w)
  rw[hkk,this];rfl
 have e1:=s1 _ _ e
 have e01:=s1 _ _ e0
 have ek1:=s1 _ _ ek
 have es1:=s1 _ _ es
 have er1:=s1 _ _ er
 have eo1:=s1 _ _ eo0
 have a2:atI [V.ref A.b, .ref l, .int v] 2=some (.int v):=rfl
 obtain⟨H2,eH2⟩:∃H2,H2=upd H1 D.kd (.dK (putK kw (.inr y) (.int v))):=⟨_,rfl⟩
 have dp1:nW H1 D.kd (.str y) (.int v) H2:=by rw[eH2];exact nW.k (k:= .inr y) ek1 (cC (by omega))
 have k2:∀{z:Addr}{o:HO},z≠D.kd->H1 z=some o->H2 z=some o:=fun h h'=>by rw[eH2];exact(ao h).trans h'
 have j2:∀{z:Addr}{o:HO},H1 z=some o->(∀ks',o≠ .dK ks')->H2 z=some o:=fun{z o} h1 h2=>k2 (fun w=>by rw[w,ek1] at h1;cases h1;exact h2 _ rfl) h1
 have ek2:H2 D.kd=some (.dK (putK kw (.inr y) (.int v))):=by rw[eH2];exact ak
 have es2:=k2 (Ne.symm nks) es1
 have er2:=k2 (Ne.symm nkr) er1
 have b2:But [D.kd,D.sd,D.rd] H1 H2:=by rw[eH2];exact But.set _ (by simp)
 have e02:=j2 e01 (by simp)
 have e2:=j2 e1 (by simp)
 have eo2:=j2 eo1 (by simp)
 have MN:=j2 efl (by simp)
 have agP:=j2 erb (by simp)
 clear eH2
 obtain⟨H3,eH3⟩:∃H3,H3=upd H2 D.sd (.dK (putK ks (.inr y) (.ref rb))):=⟨_,rfl⟩
 have dp2:nW H2 D.sd (.str y) (.ref rb) H3:=by rw[eH3];exact nW.k (k:= .inr y) es2 (cC (by omega))
 have k3:∀{z:Addr}{o:HO},z≠D.sd->H2 z=some o->H3 z=some o:=fun h h'=>by rw[eH3];exact(ao h).trans h'
 have j3:∀{z:Addr}{o:HO},H2 z=some o->(∀ks',o≠ .dK ks')->H3 z=some o:=fun{z o} h1 h2=>k3 (fun w=>by rw[w,es2] at h1;cases h1;exact h2 _ rfl) h1
 have es3:H3 D.sd=some (.dK (putK ks (.inr y) (.ref rb))):=by rw[eH3];exact ak
 have ek3:=k3 nks ek2
 have er3:=k3 (Ne.symm nsr) er2
 have b3:But [D.kd,D.sd,D.rd] H2 H3:=by rw[eH3];exact But.set _ (by simp)
 have e03:=j3 e02 (by simp)
 have e3:=j3 e2 (by simp)
 have eo3:=j3 eo2 (by simp)
 have agQ:=j3 MN (by simp)
 have B3:But [D.kd,D.sd,D.rd] H H3:=(But.of_same s1).trans (b2.trans b3)
 clear eH3
 have gs:=T9 so.sm s1
 have gi:=Ua so.sm s1
 have gt:jU H1 (grow Hf H H1):=Mm
 have gk:=zG (Hf:=Hf) s1 ⟨_,ek,by simp⟩ so.fk
 have gss:=zG (Hf:=Hf) s1 ⟨_,es,by simp⟩ so.fs
 have gr:=zG (Hf:=Hf) s1 ⟨_,er,by simp⟩ so.fr
 have gl:grow Hf H H1 l=some (.lst (as.map V.ref)):=(Ph hl).trans el
 have ra:zf [] (grow Hf H H1) rb (r,ps,v):=⟨A.b,l,as,gt _ _ erb,(hR.same s1).tups gt,gl,hRs.tups gt,by simp⟩
 have hgot:=rcd.1
 have hrows:=rcd.2.1
 have rDg:=rDs.same gs
 have hl0:H0 l=none:=by
  cases z:H0 l with
  | none=>rfl
  | some u=>have:=so.sm _ _ (so.h0 _ _ z);rw[hl] at this;cases this
 have rD':=rDg.put (x:=y) ra (gt _ _ erb) hl0 hrm (fun y' u b' br' l' v' w1 w2 w3=>by
  rintro rfl
  obtain⟨b2,h2,br2,l2,as2,x1,_,x3,_⟩:=rDs.s.v y' u w1
  rw[w2] at h2;cases h2
  have:=gs _ _ x1
  rw[w3] at this;cases this
  have:=so.sm _ _ x3
  rw[hl] at this;cases this)
 have ok':=so.ok.rR hkn hgv hrc hgot hrows
 have lek:Kn.Le kn (kn.put y v):=Kn.tY hkn
 have md':∀x r1 ps1 v1,(rmN.put y (r,ps,v)) x=some (r1,ps1,v1)->Rcd rm x r1 (kn.put y v) ps1 v1 (if x=y then made else rkn x):=fun x r1 ps1 v1 h=>by
  unfold Rm.put at h
  by_cases z:x=y
  ·rw[if_pos z] at h ⊢
   cases h
   rw[z];exact rcd.le lek
  ·rw[if_neg z] at h ⊢
   exact(so.md x r1 ps1 v1 h).le lek
 have hev:=Zc hgot hrows
 have hyo:y∉od:=kod.none.mp (rDs.s.w y hrm)
 have hyw:y∉ws:=kk1.none.mp (by rw[hkw,hkn];rfl)
 have hyr:y∉rs:=kk3.none.mp (by rw[hkk,hry];rfl)
 have acE:∀{H'},But [D.kd,D.sd,D.rd] H1 H'->aO (grow Hf H H1) H':=fun b z o h=>b z o (fun w=>by
  have w:z=D.kd\/z=D.sd\/z=D.rd:=by simpa using w
  rcases w with w | w | w
  ·rw[w,gk] at h;cases h
  ·rw[w,gss] at h;cases h
  ·rw[w,gr] at h;cases h) (gi z o h)
 have fin:∀H' kk' rs',But [D.kd,D.sd,D.rd] H1 H'->H' D.kd=some (.dK (putK kw (.inr y) (.int v)))->H' D.sd=some (.dK (putK ks (.inr y) (.ref rb)))->H' D.rd=some (.dK kk')->mC kk' rs'->(∀x,dG kk' (.inr x)=if(if x=y then made else rkn x)=true then some (.bl true) else none)->Q .non H':=fun H' kk' rs' bb h1 h2 h3 h4 h5=>by
  refine q v ps made (grow Hf H H1) H' ((But.of_same s1).trans bb) gs (fun z m hz=>zG s1 m hz) ⟨acE bb,gk,gss,gr,⟨_,_,h1,kk1.v8 hyw _,Ed hkw y v⟩,⟨_,h2,rD',kod.v8 hyo _⟩,⟨_,_,h3,h4,h5,fun x hx=> ?_⟩,ok',md',so.h0.trans gs⟩ hev
  unfold Rm.put
  by_cases z:x=y
  ·rw[if_pos z];simp
  ·rw[if_neg z] at hx ⊢;exact hrn x hx
 cases hm:made with
 | false=>
   rw[hm] at exs
   have hxs:decide (xs.length=0)=false:=exs
   walk_at "vs"
   rw[hxs]
   walk_at "vs"
   refine fin H3 kk rs (b2.trans b3) ek3 es3 er3 kk3 fun x=> ?_
   rw[hkk,hm]
   by_cases z:x=y
   ·rw[if_pos z,z,hry]
   ·rw[if_neg z]
 | true=>
   rw[hm] at exs
   have hxs:decide (xs.length=0)=true:=exs
   obtain⟨H4,eH4⟩:∃H4,H4=upd H3 D.rd (.dK (putK kk (.inr y) (.bl true))):=⟨_,rfl⟩
   have dp3:nW H3 D.rd (.str y) (.bl true) H4:=by rw[eH4];exact nW.k (k:= .inr y) er3 (cC (by omega))
   have k4:∀{z:Addr}{o:HO},z≠D.rd->H3 z=some o->H4 z=some o:=fun h h'=>by rw[eH4];exact(ao h).trans h'
   have j4:∀{z:Addr}{o:HO},H3 z=some o->(∀ks',o≠ .dK ks')->H4 z=some o:=fun{z o} h1 h2=>k4 (fun w=>by rw[w,er3] at h1;cases h1;exact h2 _ rfl) h1
   have er4:H4 D.rd=some (.dK (putK kk (.inr y) (.bl true))):=by rw[eH4];exact ak
   have ek4:=k4 nkr ek3
   have es4:=k4 nsr es3
   have b4:But [D.kd,D.sd,D.rd] H3 H4:=by rw[eH4];exact But.set _ (by simp)
   have e04:=j4 e03 (by simp)
   have eo4:=j4 eo3 (by simp)
   clear eH4
   walk_at "vs"
   rw[hxs]
   walk_at "vs"
   refine⟨⟨_,_,rfl⟩, ?_⟩
   refine fin H4 _ _ (b2.trans (b3.trans b4)) ek4 es4 er4 (kk3.v8 hyr _) fun x=> ?_
   rw[jK,hm]
   by_cases z:x=y
   ·rw[if_pos (by rw[z]),if_pos z];rfl
   ·rw[if_neg (mW z),if_neg z];exact hkk x
end
section
local macro_rules | `(tactic| walk_at "side") => `(tactic| first | exact xx _ _ _ _ _ _ | exact qR _ _ _ _ _ _ | exact Ej _ _ _ _ _ _ | exact xF _ _ _ _ _ _ | exact qT _ _ _ _ _ _ | exact oN _ _ _ _ _ _ | exact (gU _ _ _ _ _ _).1 | exact (gU _ _ _ _ _ _).2.1 | exact (gU _ _ _ _ _ _).2.2.1 | exact (gU _ _ _ _ _ _).2.2.2.1 | exact (gU _ _ _ _ _ _).2.2.2.2 | exact (yp _).1 | exact (yp _).2 | exact (fu _ _ _ _).1 | exact (fu _ _ _ _).2.2.1 | exact (fu _ _ _ _).2.2.2 | exact Nat.le_of_ble_eq_true rfl)
variable {P:Program}{w:World}{K:PySem.W.Frag}{mg:Str->Option Value}{base:Heap}{CSe CN CS CR CNo CRi:Addr}
abbrev aU:Stmt:=uo 19 5
theorem gZ:bM ["self","name","path","begun","last","other"] ["self","name"] (aa aU):=⟨rfl,rfl,rfl,by decide +kernel,rfl,by decide +kernel,by decide +kernel⟩
theorem sJ:Loc (aa aU) "path":=by decide +kernel
theorem sO:aF (aa aU) "name":=by decide +kernel
theorem rH:Loc (aa aU) "begun":=by decide +kernel
theorem cM:aF (aa aU) "path":=by decide +kernel
theorem sS:Loc (aa aU) "last":=by decide +kernel
theorem bu:aF (aa aU) "last":=by decide +kernel
theorem cN:aF (aa aU) "self":=by decide +kernel
theorem fJ:aF (aa aU) "begun":=by decide +kernel
theorem rJ:Loc (aa aU) "other":=by decide +kernel
theorem dO:aF (aa aU) "other":=by decide +kernel
theorem sU:(aa aU).names.lookup ("Ring":Str)=some NameKind.globalImplicit:=by decide +kernel
theorem sV:(("Ring":Str)==("__debug__":Str))=false:=by decide +kernel
theorem yC {f g0 g1 g2 g3:Addr}{fd gd0 gd1 gd2 gd3:FuncData} (fG:eV K CSe "settle" "Search.settle" aU ["self","name"] f fd)
 (fY:eV K CSe "begin" "Search.begin" bW ["self","name"] g0 gd0) (Bq:bI P w K mg base (CXd P w) 14 g0 gd0 ["self","name"] (Gz CSe CN CS CR CNo CRi))
 (dz:eV K CS "lacking" "Settling.lacking" aW ["self","known"] g1 gd1) (wK:bI P w K mg base CX0 4 g1 gd1 ["self","known"] (Dn CS CR))
 (iH:eV K CSe "end" "Search.end" di ["self","name","settling"] g2 gd2) (Eu:bI P w K mg base CX0 3 g2 gd2 ["self","name","settling"] (Kw CSe CN CS CR))
 (gD:eV K CRi "__init__" "Ring.__init__" cH ["self","ring"] g3 gd3) (zm:bI P w K mg base CX0 1 g3 gd3 ["self","ring"] (Wm CRi)) (Hh:ExI K CRi g3) (Zu:PySem.W.isFn K (.ref g3)=true) (KZ:mg "Ring"=some (.ref CRi))
 (T:Blt mg) (sr:SrC K CSe) (sc:SeC K CS):bI P w K mg base (CXd P w) 15 f fd ["self","name"] (Dq CSe CN CNo CRi):=by
 refine fG.F.okD gZ (fun vs H Q E h=> ?_) (fun cdv A0 outer s H vs Q E hr h=> ?_)
 ·obtain⟨H0,D,gs,cs,gv,rc,kg,kc,kr,rm,kn,rmN,rkn,od,Hf,x,rfl,_⟩:=h
  rfl
 obtain⟨H0,D,gs,cs,gv,rc,kg,kc,kr,rm,knI,acF,acG,odI,HfI,x,rfl,shI,soI,hx,q,qe⟩:=h
 have mL:=sr.cl
 have nG:=sr.nG
 have nK:=sr.nK
 have gW:=sc.cl
 have nle:=shI.bd.n
 have e0:=soI.sm _ _ shI.e
 refine⟨_,(aA (bQ (i:=2) gZ.nd rfl sJ (gJ (aX (aj 1 sO) au)))
  (aA (bQ (i:=3) gZ.nd rfl rH kY)
  (aB (zZ PassesOwn.leaving (zU (aj 2 cM)) (aA (bQ (i:=4) gZ.nd rfl sS (cT iK (aj 2 cM) (abZ Td aJ)))
  (aA (eU (Af (eF hr) (aj 4 bu) (bz (aj 0 cN))) (aB (kW (eF hr) (bz (aj 0 cN)) (aj 4 bu) (gj (eF hr) (bz (aj 0 cN)) (aj 4 bu)))) dD)
  (aA (eU (Af (eF hr) (aj 4 bu) (bz (aj 0 cN))) (aA (eG (yj PySem.F.plainAttrs_list PySem.F.slot_list_pop PySem.F.type_list_pop vh (aj 2 cM)))
  (aB FN)) dD)
  (aA (eU (yl (eF hr) (aj 4 bu) (aj 3 fJ)) (aB (kW (eF hr) (aj 3 fJ) (aj 4 bu) (mq (aj 0 cN) mL fY.m (Bq.mono (by omega)) hr fY.b .nil KH (aX (aj 4 bu) au)))) dD)
  (aA (bQ (i:=5) gZ.nd rfl rJ (mq (gj (eF hr) (aj 3 fJ) (aj 4 bu)) gW dz.m (wK.mono (by omega)) hr dz.b .nil gA (Il (bz (aj 0 cN)) au)))
  (aB (eU (fP Te (aj 5 dO) tV (cQ _)) (aB (eG (mq (aj 0 cN) mL iH.m (Eu.mono (by omega)) hr iH.b .nil gA (aX (aj 4 bu) (oZ (gj (eF hr) (aj 3 fJ) (aj 4 bu)) au))))) (aB (eU (fP Ab (aj 5 dO) (aj 2 cM) rfl) (aB (Dp Hh (zm.mono (by omega)) hr Zu gD.b sU KZ (Tg (dF oK (pQ pW (aj 2 cM) (qM (oH PySem.F.plainAttrs_list PySem.F.slot_list_index PySem.F.type_list_index Mp (aj 2 cM) (aX (aj 5 dO) au))) xj) (gJ (aX (aj 5 dO) au))) au) sV)) (aB (eG (oH PySem.F.plainAttrs_list PySem.F.slot_list_append PySem.F.type_list_append gK (aj 2 cM) (aX (aj 5 dO) au))))))))))))))))), ?_⟩
 walk_at "vs"
 intro pth hpth
 have s1:=aq (.lst [.str x]) hpth
 have ep1:upd H pth (.lst [.str x]) pth=some (.lst [.str x]):=ak
 have so1:=soI.same s1
 generalize upd H pth (.lst [.str x])=H1 at *
 walk_at "vs"
 intro bgd hbgd
 have s2:=aq (.dK []) hbgd
 have eb2:upd H1 bgd (.dK []) bgd=some (.dK []):=ak
 have so2:=so1.same s2
 have ep2:=s2 _ _ ep1
 have S2:=s1.trans s2
 have nn:pth≠bgd:=fun z=>by rw[<-z,ep1] at hbgd;cases hbgd
 have fI:∀{z:Addr},H z=none->HfI z=none:=fun{z} h=>by
  cases q':HfI z with
  | none=>rfl
  | some o=>have:=soI.sm _ _ q';rw[h] at this;cases this
 have hb0:=same_none s1 hbgd
 have alI:∀z∈[D.kd,D.sd,D.rd],H z≠none:=fun z hz=>by
  obtain⟨kw,ws,e2,_⟩:=soI.ek
  obtain⟨ks',e3,_⟩:=soI.es
  obtain⟨kk,rs,e4,_⟩:=soI.er
  have hz:z=D.kd\/z=D.sd\/z=D.rd:=by simpa using hz
  rcases hz with rfl | rfl | rfl
  ·rw[e2];simp
  ·rw[e3];simp
  ·rw[e4];simp
 generalize upd H1 bgd (.dK [])=H2 at *
 have lp0:LpG H0 CSe CN CS CR D pth bgd gs cs gv rc kg kc kr rm knI odI HfI H x [x] knI acF acG odI (fun _=>none) HfI H2:=
  ⟨But.of_same S2,aO.refl _,fun _ _ z=>z,shI,so2,ep2,fI hpth,fI hb0,hpth,hb0,fun z=>alI _ z hpth,fun z=>alI _ z hb0,nn,by simp,by simp,fun i hi=>by
    have:i=x:=by simpa using hi
    rw[this];exact .refl,Kn.Le.refl _,fun y hy=> .inl hy,⟨⟨[],[],eb2,⟨rfl,by simp⟩,fun y=>by rw[pO];rfl⟩,fun y hy=>absurd rfl hy,fun y A hy=>(nomatch hy),fun y A hy=>(nomatch hy),fun y y' A A' _ hy=>(nomatch hy)⟩, .inl rfl,fun y A hy=>(nomatch hy),Mvs.refl _⟩
 refine⟨fun m σ H'=>∃(is:List Str) (kn:Kn) (rmN:Rm) (rkn:Str->Bool) (od:List Str) (bg:Str->Option SeD) (Hf:Hp) (t1 t2:Option V),σ=[some (.ref D.so),some (.str x),some (.ref pth),some (.ref bgd),t1,t2]/\LpG H0 CSe CN CS CR D pth bgd gs cs gv rc kg kc kr rm knI odI HfI H x is kn rmN rkn od bg Hf H'/\fB gv rc ([x],knI,odI) (is.reverse,kn,od)/\m=yR (gs++cs) kn is,
  ⟨_,[x],knI,acF,acG,odI,fun _=>none,HfI,none,none,rfl,lp0,fB.refl _,rfl⟩, ?_⟩
 rintro m σ H3 ⟨is,kn,rmN,rkn,od,bg,Hf,t1,t2,rfl,lp,mn,rfl⟩
 have ep:=lp.ep
 have e3:=lp.so.sm _ _ lp.sh.e
 have hlen:=lp.len
 rcases List.eq_nil_or_concat is with hnil | ⟨js,i,his⟩
 ·subst hnil
  have ep:H3 pth=some (.lst []):=ep
  walk_at "vs"
  have hkx:kn x≠none:=by
   rcases lp.hd with z | ⟨_,z⟩
   ·cases z
   ·exact z
  exact q kn rmN rkn od Hf H3 lp.b lp.sf lp.fm lp.so mn lp.le hkx lp.new
 ·rw[List.concat_eq_append] at his
  subst his
  have hne:((js++[i]).map V.str).isEmpty=false:=by simp
  have hla:atI ((js++[i]).map V.str) (-1)=some (.str i):=Tp (by rw[List.map_append];rfl)
  have hdl:((js++[i]).map V.str).dropLast=js.map V.str:=by rw[List.map_append];exact List.dropLast_concat
  have hll:((js++[i]).map V.str)[((js++[i]).map V.str).length - 1]? =some (.str i):=by simp
  have hjl:js.length+1<=61:=by rw[List.length_append] at hlen;exact hlen
  have un:=lp.un
  rw[List.dropLast_concat] at un
  refine⟨_,rfl,true, .inl ⟨_,SqL.of ep,by simp⟩, ?_⟩
  refine(if_pos (rfl:true=true)).mpr ?_
  refine⟨fun σ' H'=>Wr (∃(is:List Str) (kn':Kn) (rmN:Rm) (rkn:Str->Bool) (od:List Str) (bg:Str->Option SeD) (Hf:Hp) (t1 t2:Option V),σ'=[some (.ref D.so),some (.str x),some (.ref pth),some (.ref bgd),t1,t2]/\LpG H0 CSe CN CS CR D pth bgd gs cs gv rc kg kc kr rm knI odI HfI H x is kn' rmN rkn od bg Hf H'/\fB gv rc ([x],knI,odI) (is.reverse,kn',od)/\yR (gs++cs) kn' is<yR (gs++cs) kn (js++[i])),fun σ' H' ⟨⟨is',kn',Gv,rkn',od',bg',Hf',t1',t2',z1,z2,z4,z3⟩⟩=>⟨_,z3,is',kn',Gv,rkn',od',bg',Hf',t1',t2',z1,z2,z4,rfl⟩, ?_⟩
  obtain⟨kw,ws,ek,kkw,hkw⟩:=lp.so.ek
  have hkl:=lp.so.kl lp.sh.bd kkw hkw
  have eg3:=lp.so.sm _ _ lp.sh.eg
  have hbd:=lp.sh.bd
  have fine:=hx _ mn
  have dg:dH H3 D.g (.str i) ((gv i).map V.int):=by rw[<-hbd.g];exact dH.k (k:= .inr i) eg3
  have np:=lp.np
  simp only[List.mem_cons,List.not_mem_nil,or_false,not_or] at np
  cases hgv:gv i with
  | some v=>
    rw[hgv] at dg
    have dg:dH H3 D.g (.str i) (some (.int v)):=dg
    obtain⟨so4,le4⟩:=lp.so.giv ek kkw hkw hgv lp.sh.ne
    have hi:i∈gs++cs:=List.mem_append_left _ (hbd.gm (by rw[hgv];simp))
    have b4:But [D.kd,D.sd,D.rd] H3 (upd H3 D.kd (.dK (putK kw (.inr i) (.int v)))):=But.set _ (by simp)
    obtain⟨H4,eH4⟩:∃H4,H4=upd H3 D.kd (.dK (putK kw (.inr i) (.int v))):=⟨_,rfl⟩
    have dp:nW H3 D.kd (.str i) (.int v) H4:=by rw[eH4];exact nW.k (k:= .inr i) ek (cC (by omega))
    rw[<-eH4] at so4 b4
    have hmv:Mvs gv rc ((js++[i]).reverse,kn,od) ((js++[i]).reverse,kn.put i v,od):=by
     cases hkn:kn i with
     | none=>exact(Mvs.refl _).snoc (by rw[List.reverse_append];exact IW hkn hgv)
     | some u=>
       have e:kn.put i v=kn:=by
        have:=le4 _ _ hkn
        unfold Kn.put at this
        rw[if_pos rfl] at this
        funext y
        unfold Kn.put
        by_cases w:y=i
        ·rw[if_pos w,w,hkn,this]
        ·rw[if_neg w]
       rw[e];exact Mvs.refl _
    have lp4:=lp.know b4 (aO.refl _) (fun _ _ z=>z) so4 le4 (fun y hy=>by
     unfold Kn.put at hy
     by_cases w:y=i
     ·exact .inr w
     ·rw[if_neg w] at hy;exact .inl hy) (fun y hne h=>by unfold Kn.put;rw[if_neg hne];exact h) hmv
    have e4:=lp4.so.sm _ _ lp4.sh.e
    have ep4:=lp4.ep
    have dk4:dH H4 D.kd (.str i) (some (.int v)):=by
     obtain⟨kw4,ws4,ek4,_,hk4⟩:=lp4.so.ek
     have:dG kw4 (.inr i)=some (.int v):=by rw[hk4];unfold Kn.put;rw[if_pos rfl];rfl
     rw[<-this];exact dH.k (k:= .inr i) ek4
    have hk4:(kn.put i v) i≠none:=by unfold Kn.put;rw[if_pos rfl];simp
    have lp5:=lp4.pop hk4
    have mn4:fB gv rc ([x],knI,odI) ((js++[i]).reverse,kn.put i v,od):=by
     cases hkn:kn i with
     | none=>exact mn.snoc (by rw[List.reverse_append];exact yt hgv) (by rw[List.reverse_append];exact IW hkn hgv)
     | some u=>
       have e:kn.put i v=kn:=by
        have:=le4 _ _ hkn
        unfold Kn.put at this
        rw[if_pos rfl] at this
        funext y
        unfold Kn.put
        by_cases w:y=i
        ·rw[if_pos w,w,hkn,this]
        ·rw[if_neg w]
       rw[e];exact mn
    have mn5:fB gv rc ([x],knI,odI) (js.reverse,kn.put i v,od):=mn4.snoc (by rw[List.reverse_append];exact yt hgv) (by rw[List.reverse_append];exact yo hk4)
    have un4:=lp4.un
    rw[List.dropLast_concat] at un4
    have hm:=Gu (ns:=gs++cs) (js:=js) fun j hj=>(un4 j hj).1
    walk_at "vs"
    rw[hdl]
    refine⟨js,_,_,_,_,_,_,_,_,rfl,lp5,mn5, ?_⟩
    cases hkn:kn i with
    | none=>
      have hu:=Aw (v:=v) hi hkn
      rw[lq hkn]
      omega
    | some u=>
      have e:kn.put i v=kn:=by
       have:=le4 _ _ hkn
       unfold Kn.put at this
       rw[if_pos rfl] at this
       funext y
       unfold Kn.put
       by_cases w:y=i
       ·rw[if_pos w,w,hkn,this]
       ·rw[if_neg w]
      rw[e] at hm ⊢
      rw[vA (by rw[hkn];simp)]
      omega
  | none=>
    rw[hgv] at dg
    have dg:dH H3 D.g (.str i) none:=dg
    cases hkn:kn i with
    | some u=>
      have hk4:kn i≠none:=by rw[hkn];simp
      have dk4:dH H3 D.kd (.str i) (some (.int u)):=by
       have:dG kw (.inr i)=some (.int u):=by rw[hkw,hkn];rfl
       rw[<-this];exact dH.k (k:= .inr i) ek
      have lp5:=lp.pop hk4
      have mn5:fB gv rc ([x],knI,odI) (js.reverse,kn,od):=mn.snoc (by rw[List.reverse_append];exact vB hkn) (by rw[List.reverse_append];exact yo hk4)
      have hm:=Gu (ns:=gs++cs) (js:=js) fun j hj=>(un j hj).1
      walk_at "vs"
      rw[hdl]
      refine⟨js,_,_,_,_,_,_,_,_,rfl,lp5,mn5, ?_⟩
      rw[vA hk4]
      omega
    | none=>
      have dk4:dH H3 D.kd (.str i) none:=by
       have:dG kw (.inr i)=none:=by rw[hkw,hkn];rfl
       rw[<-this];exact dH.k (k:= .inr i) ek
      obtain⟨hfnr,hnm⟩:=fine i (by rw[List.reverse_append];rfl) hkn hgv
      cases hrc:rc i with
      | none=>
        obtain⟨kb,ks,eb,kkb,hkb⟩:=lp.bgi.e
        have hA:bg i=none:=by
         cases z:bg i with
         | none=>rfl
         | some A=>exact absurd hrc (lp.bgi.nm i (by rw[z];simp))
        have db:dH H3 bgd (.str i) none:=by
         have:dG kb (.inr i)=none:=by rw[hkb,hA];rfl
         rw[<-this];exact dH.k (k:= .inr i) eb
        have sh3:=lp.sh.same lp.so.sm
        walk_at "vs"
        refine⟨fun r' hr'=>(by rw[hrc] at hr';cases hr'),fun _=>⟨hnm hrc,fun cls d H' s' er=> ?_⟩⟩
        exact qe _ _ cls d H' mn (by rw[List.reverse_append];exact PL hkn hgv hrc) (lp.b.trans (But.of_same s')) er
      | some r=>
        have hfn:=hfnr r hrc
        have hi:i∈gs++cs:=List.mem_append_right _ (hbd.cm (by rw[hrc];simp))
        have rcgi:=hbd.ok i r hrc
        have rfi:∀ps v,rm i=some (r,ps,v)->lg r kn0 ps v:=fun ps v h=>lp.sh.rf i r ps v h hgv hrc
        obtain⟨kb,ks,eb,kkb,hkb⟩:=lp.bgi.e
        cases hA:bg i with
        | some A=>
          have db:dH H3 bgd (.str i) (some (.ref A.s)):=by
           have:dG kb (.inr i)=some (.ref A.s):=by rw[hkb,hA];rfl
           rw[<-this];exact dH.k (k:= .inr i) eb
          have lp6:=lp
          obtain⟨kb6,ks6,eb6,kk6,Zv⟩:=lp6.bgi.e
          obtain⟨r',hr',_,seo⟩:=lp6.bgi.ok i A hA hkn
          rw[hrc] at hr'
          cases hr'
          have e6:=lp6.so.sm _ _ lp6.sh.e
          have rD6:=lp6.sh.rD.same lp6.so.sm
          obtain⟨kw6,ws6,ek6,afO,Zw⟩:=lp6.so.ek
          have knA:Ox H3 D.kd kn:=⟨kw6,ek6,Zw⟩
          have nd3:D.kd≠A.a3:=fun z=>(lp6.bgi.al i A hA A.a3 (by simp[SeD.ft])).2.2 (by rw[<-z];simp)
          have db6:dH H3 bgd (.str i) (some (.ref A.s)):=by
           have:dG kb6 (.inr i)=some (.ref A.s):=by rw[Zv,hA];rfl
           rw[<-this];exact dH.k (k:= .inr i) eb6
          have eA6:=seo.e
          walk_at "vs"
          intro A' H7 b7 es eb' erk e1' e2' e3' efl so7
          have lp7:=lp6.gone hA b7 so7 hrc hgv es erk e1' e2' e3' efl
          have e7:=lp7.so.sm _ _ lp7.sh.e
          have ep7:=lp7.ep
          refine⟨fun hend=> ?_,fun z hzn hsk=> ?_⟩
          ·obtain⟨kb7,ks7,eb7,kk7,Zx⟩:=lp7.bgi.e
           have db7:dH H7 bgd (.str i) (some (.ref A'.s)):=by
            have:dG kb7 (.inr i)=some (.ref A'.s):=by rw[Zx];unfold jj;rw[if_pos rfl];rfl
            rw[<-this];exact dH.k (k:= .inr i) eb7
           have afP:=lp7.so
           have sh7:=lp7.sh
           have eA7:=so7.e
           have hR7:=so7.hr
           have hft:∀z∈A'.ft,z∉[D.kd,D.sd,D.rd]:=fun z hz w=>(lp7.bgi.al i A' (by unfold jj;rw[if_pos rfl]) z hz).2.2 (by
            simp only[List.mem_cons,List.not_mem_nil,or_false] at w ⊢
            rcases w with q | q | q
            ·exact .inr (.inr (.inl q))
            ·exact .inr (.inr (.inr (.inl q)))
            ·exact .inr (.inr (.inr (.inr q))))
           walk_at "vs"
           intro v ps made Hf' H8 b8 sf8 fm8 so8 hev
           have lp8:=lp7.know b8 sf8 fm8 so8 (Kn.tY hkn) (fun y hy=>by
            unfold Kn.put at hy
            by_cases w:y=i
            ·exact .inr w
            ·rw[if_neg w] at hy;exact .inl hy) (fun y hne h=>by unfold Kn.put;rw[if_neg hne];exact h) ((Mvs.refl _).snoc (by rw[List.reverse_append];exact Aq hgv hkn hrc hev))
           walk_at "vs"
           refine⟨_,_,_,_,_,_,_,_,_,rfl,lp8,mn.snoc (by rw[List.reverse_append];exact Eo hgv hrc hev) (by rw[List.reverse_append];exact Aq hgv hkn hrc hev), ?_⟩
           have hu:=Aw (v:=v) hi hkn
           rw[lq hkn,vA (by unfold Kn.put;rw[if_pos rfl];simp)]
           omega
          ·by_cases hj:z∈js++[i]
           ·have hin:inV (.str z) ((js++[i]).map V.str)=true:=by
             unfold inV
             rw[List.any_eq_true]
             exact⟨.str z,List.mem_map.mpr ⟨z,hj,rfl⟩,by show(z==z)=true;simp⟩
            have hfl:((js++[i]).map V.str).all oF=true:=by
             rw[List.all_eq_true]
             intro u hu
             obtain⟨k,hk,rfl⟩:=List.mem_map.mp hu
             rfl
            have hsz:((js++[i]).map V.str).length<sizeLine:=by rw[List.length_map];exact cC (by omega)
            obtain⟨afQ,afR⟩:=yu hj
            have hmvr:gP gv rc ((js++[i]).reverse,kn,od)=some (.ring (dY (js++[i]).reverse z)):=by
             rw[List.reverse_append]
             exact Az hkn hgv hrc (hsk.ev hzn) (by show z∈[i].reverse++js.reverse;rw[<-List.reverse_append];exact List.mem_reverse.mpr hj)
            walk_at "vs"
            rw[hin]
            walk_at "vs"
            intro p1 hp1
            rw[show tM ((js++[i]).map V.str) (some (((js++[i]).idxOf z:Nat):Int)) none=((js++[i]).drop ((js++[i]).idxOf z)).map V.str by rw[pX,List.map_drop]]
            have sA:=aq (.lst (((js++[i]).drop ((js++[i]).idxOf z)).map V.str)) hp1
            have eA:upd H7 p1 (.lst (((js++[i]).drop ((js++[i]).idxOf z)).map V.str)) p1=some (.lst (((js++[i]).drop ((js++[i]).idxOf z)).map V.str)):=ak
            have afS:(((js++[i]).drop ((js++[i]).idxOf z)).map V.str).length<=61:=by rw[List.length_map,List.length_drop];omega
            generalize upd H7 p1 (.lst (((js++[i]).drop ((js++[i]).idxOf z)).map V.str))=HA at *
            walk_at "vs"
            intro p2 hp2
            have sB:=aq (.lst [.str z]) hp2
            have eB:upd HA p2 (.lst [.str z]) p2=some (.lst [.str z]):=ak
            have eA2:=sB _ _ eA
            generalize upd HA p2 (.lst [.str z])=HB at *
            have hcl:(((js++[i]).drop ((js++[i]).idxOf z)).map V.str).length+[V.str z].length<=sizeLine:=Nat.le_of_lt (cC (by show _+1<=1000;omega))
            walk_at "vs"
            intro p3 hp3
            have eCC:((js++[i]).drop ((js++[i]).idxOf z)).map V.str++[V.str z]=(dY (js++[i]).reverse z).map V.str:=by
             unfold dY
             rw[List.reverse_reverse,List.map_append];rfl
            rw[eCC]
            have hrl:((dY (js++[i]).reverse z).map V.str).length<=1000:=by rw[<-eCC,List.length_append];show _+1<=1000;omega
            have sC:=aq (.lst ((dY (js++[i]).reverse z).map V.str)) hp3
            have eC:upd HB p3 (.lst ((dY (js++[i]).reverse z).map V.str)) p3=some (.lst ((dY (js++[i]).reverse z).map V.str)):=ak
            generalize upd HB p3 (.lst ((dY (js++[i]).reverse z).map V.str))=HC at *
            walk_at "vs"
            intro e he
            have nep:p3≠e:=fun z'=>by rw[<-z',eC] at he;cases he
            refine⟨e,p3,_,rfl,ak,(ao nep).trans eC,hrl,fun l' dx hl' hdx ne=> ?_⟩
            have nel:l'≠e:=fun z'=>by rw[z',ak] at hl';cases hl'
            have hl0:HC l'=none:=(ao nel).symm.trans hl'
            have nld:dx≠l':=fun z'=>by rw[z',ak] at hdx;cases hdx
            have hd0:upd HC l' (.lst ((dY (js++[i]).reverse z).map V.str)) dx=none:=by
             rw[ao nld,ao ne] at hdx
             rw[ao nld];exact hdx
            have sD:=aq (.lst ((dY (js++[i]).reverse z).map V.str)) hl0
            have sE:=aq (.xd [("ring", .ref l')]) hd0
            refine⟨rfl,dx,upd (upd HC l' (.lst ((dY (js++[i]).reverse z).map V.str))) dx (.xd [("ring", .ref l')]), ?_,(ao (Ne.symm ne)).trans ((ao (Ne.symm nel)).trans he), ?_⟩
            ·rw[p6 (H:=HC) (a:=e) (b:=l') (Ne.symm nel),p6 (a:=e) (b:=dx) (Ne.symm ne),kO]
            ·exact qe _ _ _ _ _ mn hmvr (lp7.b.trans (But.of_same (sA.trans (sB.trans (sC.trans (sD.trans sE)))))) ⟨rfl,dx,l',rfl,ak,sE _ _ ak⟩
           ·have hin:inV (.str z) ((js++[i]).map V.str)=false:=by
             unfold inV
             rw[List.any_eq_false]
             intro u hu
             obtain⟨k,hk,rfl⟩:=List.mem_map.mp hu
             intro w
             have w:(k==z)=true:=w
             exact hj (eq_of_beq w▸hk)
            have hfl:((js++[i]).map V.str).all oF=true:=by
             rw[List.all_eq_true]
             intro u hu
             obtain⟨k,hk,rfl⟩:=List.mem_map.mp hu
             rfl
            have hsz:((js++[i]).map V.str).length<sizeLine:=by rw[List.length_map];exact cC (by omega)
            walk_at "vs"
            rw[hin]
            walk_at "vs"
            have em:((js++[i]).map V.str)++[V.str z]=(js++[i]++[z]).map V.str:=by rw[List.map_append (l₁:=js++[i])];rfl
            rw[em]
            refine⟨js++[i]++[z],_,_,_,_,_,_,_,_,rfl,lp7.push hkn hj hgv hrc hsk hzn,mn.snoc (by rw[List.reverse_append];exact mX hgv hrc (hsk.ev hzn) (fun w=>hj (List.mem_reverse.mp (by rw[List.reverse_append];exact w)))) (by rw[List.reverse_append (as:=js++[i]),List.reverse_append];exact oM hgv hkn hrc (hsk.ev hzn)), ?_⟩
            rw[lq hkn,lq hzn,List.length_append]
            simp only[List.length_cons,List.length_nil]
            omega
        | none=>
          have db:dH H3 bgd (.str i) none:=by
           have:dG kb (.inr i)=none:=by rw[hkb,hA];rfl
           rw[<-this];exact dH.k (k:= .inr i) eb
          have sh3:=lp.sh.same lp.so.sm
          have hkbl:kb.length<=60:=by
           rw[kkb.len]
           have:=mR (ws:=ks) (ns:=cs) kkb.nd fun y hy=>hbd.cm (lp.bgi.nm y fun z=>kkb.none.mp (by rw[hkb,z];rfl) hy)
           omega
          walk_at "vs"
          refine⟨fun r' hr'=> ?_,fun hn=>by rw[hrc] at hn;cases hn⟩
          rw[hrc] at hr'
          cases hr'
          intro A H4 s4 hA4 so4
          have lp6:=lp.begun s4 hA4 (so4 kn) hrc hgv hA eb
          have dpb:nW H4 bgd (.str i) (.ref A.s) (upd H4 bgd (.dK (putK kb (.inr i) (.ref A.s)))):=nW.k (k:= .inr i) (s4 _ _ eb) (cC (by omega))
          have hA:jj bg i A i=some A:=by unfold jj;rw[if_pos rfl]
          generalize upd H4 bgd (.dK (putK kb (.inr i) (.ref A.s)))=H5 at *
          obtain⟨kb6,ks6,eb6,kk6,Zv⟩:=lp6.bgi.e
          obtain⟨r',hr',_,seo⟩:=lp6.bgi.ok i A hA hkn
          rw[hrc] at hr'
          cases hr'
          have e6:=lp6.so.sm _ _ lp6.sh.e
          have rD6:=lp6.sh.rD.same lp6.so.sm
          obtain⟨kw6,ws6,ek6,afO,Zw⟩:=lp6.so.ek
          have knA:Ox H5 D.kd kn:=⟨kw6,ek6,Zw⟩
          have nd3:D.kd≠A.a3:=fun z=>(lp6.bgi.al i A hA A.a3 (by simp[SeD.ft])).2.2 (by rw[<-z];simp)
          have db6:dH H5 bgd (.str i) (some (.ref A.s)):=by
           have:dG kb6 (.inr i)=some (.ref A.s):=by rw[Zv,hA];rfl
           rw[<-this];exact dH.k (k:= .inr i) eb6
          have eA6:=seo.e
          walk_at "vs"
          intro A' H7 b7 es eb' erk e1' e2' e3' efl so7
          have lp7:=lp6.gone hA b7 so7 hrc hgv es erk e1' e2' e3' efl
          have e7:=lp7.so.sm _ _ lp7.sh.e
          have ep7:=lp7.ep
          refine⟨fun hend=> ?_,fun z hzn hsk=> ?_⟩
          ·obtain⟨kb7,ks7,eb7,kk7,Zx⟩:=lp7.bgi.e
           have db7:dH H7 bgd (.str i) (some (.ref A'.s)):=by
            have:dG kb7 (.inr i)=some (.ref A'.s):=by rw[Zx];unfold jj;rw[if_pos rfl];rfl
            rw[<-this];exact dH.k (k:= .inr i) eb7
           have afP:=lp7.so
           have sh7:=lp7.sh
           have eA7:=so7.e
           have hR7:=so7.hr
           have hft:∀z∈A'.ft,z∉[D.kd,D.sd,D.rd]:=fun z hz w=>(lp7.bgi.al i A' (by unfold jj;rw[if_pos rfl]) z hz).2.2 (by
            simp only[List.mem_cons,List.not_mem_nil,or_false] at w ⊢
            rcases w with q | q | q
            ·exact .inr (.inr (.inl q))
            ·exact .inr (.inr (.inr (.inl q)))
            ·exact .inr (.inr (.inr (.inr q))))
           walk_at "vs"
           intro v ps made Hf' H8 b8 sf8 fm8 so8 hev
           have lp8:=lp7.know b8 sf8 fm8 so8 (Kn.tY hkn) (fun y hy=>by
            unfold Kn.put at hy
            by_cases w:y=i
            ·exact .inr w
            ·rw[if_neg w] at hy;exact .inl hy) (fun y hne h=>by unfold Kn.put;rw[if_neg hne];exact h) ((Mvs.refl _).snoc (by rw[List.reverse_append];exact Aq hgv hkn hrc hev))
           walk_at "vs"
           refine⟨_,_,_,_,_,_,_,_,_,rfl,lp8,mn.snoc (by rw[List.reverse_append];exact Eo hgv hrc hev) (by rw[List.reverse_append];exact Aq hgv hkn hrc hev), ?_⟩
           have hu:=Aw (v:=v) hi hkn
           rw[lq hkn,vA (by unfold Kn.put;rw[if_pos rfl];simp)]
           omega
          ·by_cases hj:z∈js++[i]
           ·have hin:inV (.str z) ((js++[i]).map V.str)=true:=by
             unfold inV
             rw[List.any_eq_true]
             exact⟨.str z,List.mem_map.mpr ⟨z,hj,rfl⟩,by show(z==z)=true;simp⟩
            have hfl:((js++[i]).map V.str).all oF=true:=by
             rw[List.all_eq_true]
             intro u hu
             obtain⟨k,hk,rfl⟩:=List.mem_map.mp hu
             rfl
            have hsz:((js++[i]).map V.str).length<sizeLine:=by rw[List.length_map];exact cC (by omega)
            obtain⟨afQ,afR⟩:=yu hj
            have hmvr:gP gv rc ((js++[i]).reverse,kn,od)=some (.ring (dY (js++[i]).reverse z)):=by
             rw[List.reverse_append]
             exact Az hkn hgv hrc (hsk.ev hzn) (by show z∈[i].reverse++js.reverse;rw[<-List.reverse_append];exact List.mem_reverse.mpr hj)
            walk_at "vs"
            rw[hin]
            walk_at "vs"
            intro p1 hp1
            rw[show tM ((js++[i]).map V.str) (some (((js++[i]).idxOf z:Nat):Int)) none=((js++[i]).drop ((js++[i]).idxOf z)).map V.str by rw[pX,List.map_drop]]
            have sA:=aq (.lst (((js++[i]).drop ((js++[i]).idxOf z)).map V.str)) hp1
            have eA:upd H7 p1 (.lst (((js++[i]).drop ((js++[i]).idxOf z)).map V.str)) p1=some (.lst (((js++[i]).drop ((js++[i]).idxOf z)).map V.str)):=ak
            have afS:(((js++[i]).drop ((js++[i]).idxOf z)).map V.str).length<=61:=by rw[List.length_map,List.length_drop];omega
            generalize upd H7 p1 (.lst (((js++[i]).drop ((js++[i]).idxOf z)).map V.str))=HA at *
            walk_at "vs"
            intro p2 hp2
            have sB:=aq (.lst [.str z]) hp2
            have eB:upd HA p2 (.lst [.str z]) p2=some (.lst [.str z]):=ak
            have eA2:=sB _ _ eA
            generalize upd HA p2 (.lst [.str z])=HB at *
            have hcl:(((js++[i]).drop ((js++[i]).idxOf z)).map V.str).length+[V.str z].length<=sizeLine:=Nat.le_of_lt (cC (by show _+1<=1000;omega))
            walk_at "vs"
            intro p3 hp3
            have eCC:((js++[i]).drop ((js++[i]).idxOf z)).map V.str++[V.str z]=(dY (js++[i]).reverse z).map V.str:=by
             unfold dY
             rw[List.reverse_reverse,List.map_append];rfl
            rw[eCC]
            have hrl:((dY (js++[i]).reverse z).map V.str).length<=1000:=by rw[<-eCC,List.length_append];show _+1<=1000;omega
            have sC:=aq (.lst ((dY (js++[i]).reverse z).map V.str)) hp3
            have eC:upd HB p3 (.lst ((dY (js++[i]).reverse z).map V.str)) p3=some (.lst ((dY (js++[i]).reverse z).map V.str)):=ak
            generalize upd HB p3 (.lst ((dY (js++[i]).reverse z).map V.str))=HC at *
            walk_at "vs"
            intro e he
            have nep:p3≠e:=fun z'=>by rw[<-z',eC] at he;cases he
            refine⟨e,p3,_,rfl,ak,(ao nep).trans eC,hrl,fun l' dx hl' hdx ne=> ?_⟩
            have nel:l'≠e:=fun z'=>by rw[z',ak] at hl';cases hl'
            have hl0:HC l'=none:=(ao nel).symm.trans hl'
            have nld:dx≠l':=fun z'=>by rw[z',ak] at hdx;cases hdx
            have hd0:upd HC l' (.lst ((dY (js++[i]).reverse z).map V.str)) dx=none:=by
             rw[ao nld,ao ne] at hdx
             rw[ao nld];exact hdx
            have sD:=aq (.lst ((dY (js++[i]).reverse z).map V.str)) hl0
            have sE:=aq (.xd [("ring", .ref l')]) hd0
            refine⟨rfl,dx,upd (upd HC l' (.lst ((dY (js++[i]).reverse z).map V.str))) dx (.xd [("ring", .ref l')]), ?_,(ao (Ne.symm ne)).trans ((ao (Ne.symm nel)).trans he), ?_⟩
            ·rw[p6 (H:=HC) (a:=e) (b:=l') (Ne.symm nel),p6 (a:=e) (b:=dx) (Ne.symm ne),kO]
            ·exact qe _ _ _ _ _ mn hmvr (lp7.b.trans (But.of_same (sA.trans (sB.trans (sC.trans (sD.trans sE)))))) ⟨rfl,dx,l',rfl,ak,sE _ _ ak⟩
           ·have hin:inV (.str z) ((js++[i]).map V.str)=false:=by
             unfold inV
             rw[List.any_eq_false]
             intro u hu
             obtain⟨k,hk,rfl⟩:=List.mem_map.mp hu
             intro w
             have w:(k==z)=true:=w
             exact hj (eq_of_beq w▸hk)
            have hfl:((js++[i]).map V.str).all oF=true:=by
             rw[List.all_eq_true]
             intro u hu
             obtain⟨k,hk,rfl⟩:=List.mem_map.mp hu
             rfl
            have hsz:((js++[i]).map V.str).length<sizeLine:=by rw[List.length_map];exact cC (by omega)
            walk_at "vs"
            rw[hin]
            walk_at "vs"
            have em:((js++[i]).map V.str)++[V.str z]=(js++[i]++[z]).map V.str:=by rw[List.map_append (l₁:=js++[i])];rfl
            rw[em]
            refine⟨js++[i]++[z],_,_,_,_,_,_,_,_,rfl,lp7.push hkn hj hgv hrc hsk hzn,mn.snoc (by rw[List.reverse_append];exact mX hgv hrc (hsk.ev hzn) (fun w=>hj (List.mem_reverse.mp (by rw[List.reverse_append];exact w)))) (by rw[List.reverse_append (as:=js++[i]),List.reverse_append];exact oM hgv hkn hrc (hsk.ev hzn)), ?_⟩
            rw[lq hkn,lq hzn,List.length_append]
            simp only[List.length_cons,List.length_nil]
            omega
end
section
local macro_rules | `(tactic| walk_at "side") => `(tactic| first | exact xx _ _ _ _ _ _ | exact qR _ _ _ _ _ _ | exact Ej _ _ _ _ _ _ | exact xF _ _ _ _ _ _ | exact qT _ _ _ _ _ _ | exact oN _ _ _ _ _ _ | exact (gU _ _ _ _ _ _).1 | exact (gU _ _ _ _ _ _).2.1 | exact (gU _ _ _ _ _ _).2.2.1 | exact (gU _ _ _ _ _ _).2.2.2.1 | exact (gU _ _ _ _ _ _).2.2.2.2 | exact Nat.le_of_ble_eq_true rfl)
variable {P:Program}{w:World}{K:PySem.W.Frag}{mg:Str->Option Value}{base:Heap}{CSe CN CS CR CNo CRi:Addr}
abbrev cW:Stmt:=top 20
theorem uL:bM ["house","old","wishes","search","name"] ["house","old","wishes"] (aa cW):=⟨rfl,rfl,rfl,by decide +kernel,rfl,by decide +kernel,by decide +kernel⟩
theorem wL:Loc (aa cW) "search":=by decide +kernel
theorem wM:(aa cW).names.lookup ("Search":Str)=some NameKind.globalImplicit:=by decide +kernel
theorem zp:aF (aa cW) "old":=by decide +kernel
theorem xP:aF (aa cW) "house":=by decide +kernel
theorem wN:(("Search":Str)==("__debug__":Str))=false:=by decide +kernel
theorem wO:aF (aa cW) "wishes":=by decide +kernel
theorem yD:Loc (aa cW) "name":=by decide +kernel
theorem m9:aF (aa cW) "search":=by decide +kernel
theorem yE:aF (aa cW) "name":=by decide +kernel
theorem Hi {f g0 g1:Addr}{fd gd0 gd1:FuncData} (d8:FnT K mg "searched" cW ["house","old","wishes"] f fd)
 (eZ:eV K CSe "__init__" "Search.__init__" cg ["self","house","old"] g0 gd0) (xQ:bI P w K mg base CX0 1 g0 gd0 ["self","house","old"] (Gr CSe))
 (fG:eV K CSe "settle" "Search.settle" aU ["self","name"] g1 gd1) (zq:bI P w K mg base (CXd P w) 15 g1 gd1 ["self","name"] (Dq CSe CN CNo CRi))
 (Br:Mk K CSe g0) (Bs:mg "Search"=some (.ref CSe)) (T:Blt mg) (sr:SrC K CSe):bI P w K mg base (CXd P w) 16 f fd ["house","old","wishes"] (uf CSe CN CNo CRi):=by
 refine d8.F.okD uL (fun vs H Q E h=> ?_) (fun cdv A outer s H vs Q E hr h=> ?_)
 ·obtain⟨h,g,c,o,dxo,rcd,wl,gs,cs,gv,rc,kg,kc,kr,rm,ws,rfl,_⟩:=h
  rfl
 obtain⟨h,g,c,o,dxo,rcd,wl,gs,cs,gv,rc,kg,kc,kr,rm,ws,rfl,eh,eg,ec,bd,eo,er,rD,rf,ewl,hws,q,qe⟩:=h
 have mL:=sr.cl
 refine⟨_,(aA (bQ (i:=3) uL.nd rfl wL (xm Br (xQ.mono (by omega)) hr wM Bs eZ.b .nil gA (aX (aj 0 xP) (aX (aj 1 zp) au)) wN))
  (aA (Aa PassesOwn.leaving rfl (Ka (aj 2 wO)) (qN (i:=4) uL.nd rfl yD) (aB (eG (mq (aj 3 m9) mL fG.m (zq.mono (by omega)) hr fG.b .nil KH (aX (aj 4 yE) au)))))
  (aB (cJ (aj 3 m9))))), ?_⟩
 walk_at "vs"
 intro a dx ha hdx hne
 have haH:(upd H dx (.own a)) a=none:=(ao (Ne.symm hne)).trans ha
 have S1:=(aq (.own a) hdx).trans (aq (.ins CSe dx []) haH)
 refine⟨a,dx,h,g,c,o,rfl,ak,S1 _ _ eh,fun kd sd rd H2 b2 e2 hk hs hr' nks nkr nsr ek2 es2 er2=>⟨rfl, ?_⟩⟩
 have hk0:=same_none S1 hk
 have hs0:=same_none S1 hs
 have hr0:=same_none S1 hr'
 have S2:aO H H2:=iM S1 (fun p hp=>by
  have:p=a:=by simpa using hp
  rw[this];exact ha) b2
 have nka:kd≠a:=fun z=>by rw[z,ak] at hk;cases hk
 have nsa:sd≠a:=fun z=>by rw[z,ak] at hs;cases hs
 have nra:rd≠a:=fun z=>by rw[z,ak] at hr';cases hr'
 have sf0:aO H (upd H a (.ins CSe dx (srF g c o kd sd rd))):=aq _ ha
 have sm0:aO (upd H a (.ins CSe dx (srF g c o kd sd rd))) H2:=fun z ob e=>by
  by_cases w:z=a
  ·subst w;rw[ak] at e;cases e;exact e2
  ·rw[ao w] at e;exact S2 _ _ e
 have shf:BX CSe CN ⟨a,dx,g,c,o,dxo,rcd,kd,sd,rd⟩ gs cs gv rc kg kc kr rm (upd H a (.ins CSe dx (srF g c o kd sd rd))):=
  ⟨ak,sf0 _ _ eg,sf0 _ _ ec,bd.tups (aO.tups sf0),sf0 _ _ eo,sf0 _ _ er,rD.same sf0,rf,nks,nkr,nsr⟩
 have so2:ji H ⟨a,dx,g,c,o,dxo,rcd,kd,sd,rd⟩ gv rc rm kn0 (fun _=>none) (fun _=>false) [] (upd H a (.ins CSe dx (srF g c o kd sd rd))) H2:=
  ⟨sm0,(ao nka).trans hk0,(ao nsa).trans hs0,(ao nra).trans hr0,⟨[],[],ek2,⟨rfl,by simp⟩,fun x=>by rw[pO];rfl⟩,⟨[],es2,RecM.nil,⟨rfl,by simp⟩⟩,⟨[],[],er2,⟨rfl,by simp⟩,fun x=>by rw[pO];rfl,fun x h=>(nomatch h)⟩,⟨fun x v e=>(nomatch e),fun x r ps v e=>(nomatch e)⟩,fun x r ps v e=>(nomatch e),sf0⟩
 have agR:=S2 _ _ ewl
 walk_at "vs"
 refine Nh (xs:=ws.map V.str) (fun i σ H'=>∃(kn:Kn) (rmN:Rm) (rkn:Str->Bool) (od:List Str) (Hf:Hp) (t:Option V),σ=[some (.ref h),some (.ref o),some (.ref wl),some (.ref a),t]/\aO H H'/\aO H Hf/\BX CSe CN ⟨a,dx,g,c,o,dxo,rcd,kd,sd,rd⟩ gs cs gv rc kg kc kr rm Hf/\ji H ⟨a,dx,g,c,o,dxo,rcd,kd,sd,rd⟩ gv rc rm kn rmN rkn od Hf H'/\lu gv rc (ws.take i) (kn0,[]) (kn,od)/\(∀x∈ws.take i,kn x≠none)/\∀y,kn y≠none->∃x∈ws,Rch gv rc kn x y) ?_ ?_ ?_ ?_
 ·exact⟨_,_,_,_,_,none,rfl,S2,sf0,shf,so2,rfl,by simp,fun y hy=>absurd rfl hy⟩
 ·rintro i σ H' _ ⟨kn,rmN,rkn,od,Hf,t,_,S3,_⟩
  exact SqL.of (S3 _ _ ewl)
 ·rintro i v σ H3 hv ⟨kn,rmN,rkn,od,Hf,t,rfl,S3,sf3,sh3,so3,ru3,hw3,hr3⟩
  obtain⟨x,hxi,rfl⟩:∃x,ws[i]? =some x/\v=V.str x:=by
   rw[List.getElem?_map] at hv
   cases e:ws[i]? with
   | none=>rw[e] at hv;cases hv
   | some x=>rw[e] at hv;exact⟨x,rfl,(Option.some.inj hv).symm⟩
  have hxm:x∈ws:=List.mem_of_getElem? hxi
  have hxn:=fun t m=>hws i x (kn,od) t hxi ru3 m
  have e3:H3 a=some (.ins CSe dx (srF g c o kd sd rd)):=so3.sm _ _ sh3.e
  walk_at "vs"
  refine⟨H,⟨a,dx,g,c,o,dxo,rcd,kd,sd,rd⟩,gs,cs,gv,rc,kg,kc,kr,rm,kn,rmN,rkn,od,Hf,x,rfl,sh3,so3,hxn,fun kn' Gv rkn' od' Hf' H4 b4 sf4 fm4 so4 mv4 le4 hx4 hr4=> ?_,fun t e cls d H4 mv4 he b4 er=>qe e cls d H4 ⟨i,x,(kn,od),t,hxi,ru3,mv4,he⟩ (iM S3 (fun p hp=> ?_) b4) er⟩
  case refine_2=>
   have hp:p=kd\/p=sd\/p=rd:=by simpa using hp
   rcases hp with rfl | rfl | rfl
   ·exact hk0
   ·exact hs0
   ·exact hr0
  refine⟨kn',Gv,rkn',od',Hf',_,rfl,iM S3 (fun p hp=> ?_) b4,sf3.trans sf4,sh3.same sf4,so4,by rw[List.take_add_one,hxi];exact ru3.snoc mv4,fun y hy=> ?_,fun y hy=> ?_⟩
  ·have hp:p=kd\/p=sd\/p=rd:=by simpa using hp
   rcases hp with rfl | rfl | rfl
   ·exact hk0
   ·exact hs0
   ·exact hr0
  ·rw[List.take_add_one,hxi] at hy
   rcases List.mem_append.mp hy with z | z
   ·intro w
    cases e:kn y with
    | none=>exact hw3 y z e
    | some u=>rw[le4 y u e] at w;cases w
   ·have:y=x:=by simpa using z
    rw[this];exact hx4
  ·rcases hr4 y hy with z | z
   ·obtain⟨x',hx',r'⟩:=hr3 y z
    exact⟨x',hx',r'.le le4⟩
   ·exact⟨x,hxm,z⟩
 ·rintro σ H3 ⟨kn,rmN,rkn,od,Hf,t,rfl,S3,sf3,sh3,so3,ru3,hw3,hr3⟩
  walk_at "vs"
  rw[show ws.take (ws.map V.str).length=ws by rw[List.length_map];exact List.take_length] at hw3 ru3
  exact q ⟨a,dx,g,c,o,dxo,rcd,kd,sd,rd⟩ kn rmN rkn od Hf H3 S3 sf3 sh3 so3 ru3 hk0 hs0 hr0 hw3 hr3
--P Qn
abbrev fZ:Stmt:=top 22
theorem Hj:bM ["house","name"] ["house","name"] (aa fZ):=⟨rfl,rfl,rfl,by decide +kernel,rfl,by decide +kernel,by decide +kernel⟩
theorem uM:(aa fZ).names.lookup ("searched":Str)=some NameKind.globalImplicit:=by decide +kernel
theorem qz:aF (aa fZ) "name":=by decide +kernel
theorem pH:(aa fZ).names.lookup ("NamedRecords":Str)=some NameKind.globalImplicit:=by decide +kernel
theorem pI:(("NamedRecords":Str)==("__debug__":Str))=false:=by decide +kernel
theorem xR:aF (aa fZ) "house":=by decide +kernel
theorem uN:(("searched":Str)==("__debug__":Str))=false:=by decide +kernel
theorem Hl {f g0 g1:Addr}{fd gd0 gd1:FuncData} (jf:FnT K mg "worth_of" fZ ["house","name"] f fd)
 (d8:FnT K mg "searched" cW ["house","old","wishes"] g0 gd0) (wQ:bI P w K mg base (CXd P w) 16 g0 gd0 ["house","old","wishes"] (uf CSe CN CNo CRi))
 (bh:eV K CN "__init__" "NamedRecords.__init__" aY ["self","records"] g1 gd1) (ie:bI P w K mg base CX0 1 g1 gd1 ["self","records"] (An CN))
 (ig:Mk K CN g1) (ir:mg "NamedRecords"=some (.ref CN))
 (T:Blt mg) (sr:SrC K CSe):bI P w K mg base (CXd P w) 17 f fd ["house","name"] (GC CNo CRi):=by
 refine jf.F.okD Hj (fun vs H Q E h=> ?_) (fun cdv A outer s H vs Q E hr h=> ?_)
 ·obtain⟨h,g,c,gs,cs,gv,rc,x,rfl,_⟩:=h
  rfl
 obtain⟨h,g,c,gs,cs,gv,rc,x,rfl,⟨kg,kc,eh,eg,ec,bd⟩,hws,q,qe⟩:=h
 have mL:=sr.cl
 have nK:=sr.nK
 have nS:=sr.nS
 refine⟨_,(aB (cJ (gj (eF hr) (bz (gF (wQ.mono (by omega)) hr uM d8.m d8.F.kp d8.b .nil KH (aX (aj 0 xR) (tX (xm ig (ie.mono (by omega)) hr pH ir bh.b .nil gA (YM kY au) pI) (Ot (gJ (aX (aj 1 qz) au)) au))) uN)) (aj 1 qz)))), ?_⟩
 walk_at "vs"
 intro rcd hrcd
 have S0:=aq (.dK []) hrcd
 have er0:upd H rcd (.dK []) rcd=some (.dK []):=ak
 generalize upd H rcd (.dK [])=H0 at *
 walk_at "vs"
 intro o dxo ho hdxo hne
 have hoH:(upd H0 dxo (.own o)) o=none:=(ao (Ne.symm hne)).trans ho
 have S1:=(aq (.own o) hdxo).trans (aq (.ins CN dxo []) hoH)
 refine⟨o,dxo,rcd,rfl,ak,fun H2 b2 e2=>⟨rfl, ?_⟩⟩
 have S2':aO H0 H2:=iM S1 (fun p hp=>by
  have:p=o:=by simpa using hp
  rw[this];exact ho) b2
 have S2:=S0.trans S2'
 have er2:=S2' _ _ er0
 walk_at "vs"
 intro wl hwl
 have s3:=aq (.lst [.str x]) hwl
 have afT:upd H2 wl (.lst [.str x]) wl=some (.lst ([x].map V.str)):=ak
 have S3:=S2.trans s3
 have eh3:=S3 _ _ eh
 have eg3:=S3 _ _ eg
 have ec3:=S3 _ _ ec
 have bd3:=bd.tups (aO.tups S3)
 have er3:=s3 _ _ er2
 have e23:=s3 _ _ e2
 have rD3:rT (upd H2 wl (.lst [.str x])) [] (fun _=>none):=⟨⟨[],⟨rfl,by simp⟩⟩,fun x q e=>(nomatch e),fun x _=>pO⟩
 have rf3:RmF gv rc (fun _=>none):=fun x r ps v e=>(nomatch e)
 generalize upd H2 wl (.lst [.str x])=H3 at *
 walk_at "vs"
 refine⟨?_,fun e cls d H' he s' er=>qe e cls d H' he (S3.trans s') er⟩
 intro D kn rmN rkn sn Hf H4 s4 sf4 sh4 so4 ru4 hk4 hs4 hr4 hw4 hrch
 have S4:=S3.trans s4
 have e4:=so4.sm _ _ sh4.e
 obtain⟨kw,wn,ek,kkw,hkw⟩:=so4.ek
 obtain⟨ks,es,rDs,kks⟩:=so4.es
 obtain⟨v,hv⟩:∃v,kn x=some v:=by
  cases z:kn x with
  | none=>exact absurd z (hw4 x (by simp))
  | some v=>exact⟨v,rfl⟩
 have dk:dH H4 D.kd (.str x) (some (.int v)):=by
  have:=dH.k (k:= .inr x) ek
  rw[hkw,hv] at this;exact this
 walk_at "vs"
 exact q v kn rmN sn H4 S4 so4.ok ru4 hv
--Q Qn
--P Qo
abbrev d9:Stmt:=top 23
theorem yU:bM ["house","name","settled"] ["house","name"] (aa d9):=⟨rfl,rfl,rfl,by decide +kernel,rfl,by decide +kernel,by decide +kernel⟩
theorem vL:Loc (aa d9) "settled":=by decide +kernel
theorem uO:(aa d9).names.lookup ("searched":Str)=some NameKind.globalImplicit:=by decide +kernel
theorem j9:aF (aa d9) "name":=by decide +kernel
theorem pJ:(aa d9).names.lookup ("NamedRecords":Str)=some NameKind.globalImplicit:=by decide +kernel
theorem pK:(("NamedRecords":Str)==("__debug__":Str))=false:=by decide +kernel
theorem xT:aF (aa d9) "house":=by decide +kernel
theorem uP:(("searched":Str)==("__debug__":Str))=false:=by decide +kernel
theorem lQ:aF (aa d9) "settled":=by decide +kernel
theorem Ho {f g0 g1:Addr}{fd gd0 gd1:FuncData} (jg:FnT K mg "reads_of" d9 ["house","name"] f fd)
 (d8:FnT K mg "searched" cW ["house","old","wishes"] g0 gd0) (wQ:bI P w K mg base (CXd P w) 16 g0 gd0 ["house","old","wishes"] (uf CSe CN CNo CRi))
 (bh:eV K CN "__init__" "NamedRecords.__init__" aY ["self","records"] g1 gd1) (ie:bI P w K mg base CX0 1 g1 gd1 ["self","records"] (An CN))
 (ig:Mk K CN g1) (ir:mg "NamedRecords"=some (.ref CN))
 (T:Blt mg) (sr:SrC K CSe):bI P w K mg base (CXd P w) 17 f fd ["house","name"] (GD CNo CRi):=by
 refine jg.F.okD yU (fun vs H Q E h=> ?_) (fun cdv A outer s H vs Q E hr h=> ?_)
 ·obtain⟨h,g,c,gs,cs,gv,rc,x,rfl,_⟩:=h
  rfl
 obtain⟨h,g,c,gs,cs,gv,rc,x,rfl,⟨kg,kc,eh,eg,ec,bd⟩,hws,q,qe⟩:=h
 have mL:=sr.cl
 have nK:=sr.nK
 have nS:=sr.nS
 refine⟨_,(aA (bQ (i:=2) yU.nd rfl vL (bz (gF (wQ.mono (by omega)) hr uO d8.m d8.F.kp d8.b .nil KH (aX (aj 0 xT) (tX (xm ig (ie.mono (by omega)) hr pJ ir bh.b .nil gA (YM kY au) pK) (Ot (gJ (aX (aj 1 j9) au)) au))) uP)))
  (aB (cJ (FJ (Af (eF hr) (aj 1 j9) (aj 2 lQ)) (cT bZ (gj (eF hr) (aj 2 lQ) (aj 1 j9)) aJ) (gJ au))))), ?_⟩
 walk_at "vs"
 intro rcd hrcd
 have S0:=aq (.dK []) hrcd
 have er0:upd H rcd (.dK []) rcd=some (.dK []):=ak
 generalize upd H rcd (.dK [])=H0 at *
 walk_at "vs"
 intro o dxo ho hdxo hne
 have hoH:(upd H0 dxo (.own o)) o=none:=(ao (Ne.symm hne)).trans ho
 have S1:=(aq (.own o) hdxo).trans (aq (.ins CN dxo []) hoH)
 refine⟨o,dxo,rcd,rfl,ak,fun H2 b2 e2=>⟨rfl, ?_⟩⟩
 have S2':aO H0 H2:=iM S1 (fun p hp=>by
  have:p=o:=by simpa using hp
  rw[this];exact ho) b2
 have S2:=S0.trans S2'
 have er2:=S2' _ _ er0
 walk_at "vs"
 intro wl hwl
 have s3:=aq (.lst [.str x]) hwl
 have afT:upd H2 wl (.lst [.str x]) wl=some (.lst ([x].map V.str)):=ak
 have S3:=S2.trans s3
 have eh3:=S3 _ _ eh
 have eg3:=S3 _ _ eg
 have ec3:=S3 _ _ ec
 have bd3:=bd.tups (aO.tups S3)
 have er3:=s3 _ _ er2
 have e23:=s3 _ _ e2
 have rD3:rT (upd H2 wl (.lst [.str x])) [] (fun _=>none):=⟨⟨[],⟨rfl,by simp⟩⟩,fun x q e=>(nomatch e),fun x _=>pO⟩
 have rf3:RmF gv rc (fun _=>none):=fun x r ps v e=>(nomatch e)
 generalize upd H2 wl (.lst [.str x])=H3 at *
 walk_at "vs"
 refine⟨?_,fun e cls d H' he s' er=>qe e cls d H' he (S3.trans s') er⟩
 intro D kn rmN rkn sn Hf H4 s4 sf4 sh4 so4 ru4 hk4 hs4 hr4 hw4 hrch
 have S4:=S3.trans s4
 have e4:=so4.sm _ _ sh4.e
 obtain⟨kw,wn,ek,kkw,hkw⟩:=so4.ek
 obtain⟨ks,es,rDs,kks⟩:=so4.es
 obtain⟨v,hv⟩:∃v,kn x=some v:=by
  cases z:kn x with
  | none=>exact absurd z (hw4 x (by simp))
  | some v=>exact⟨v,rfl⟩
 have ds:=dH.k (k:= .inr x) es
 cases erm:rmN x with
 | none=>
   rw[rDs.s.w x erm] at ds
   walk_at "vs"
   intro l hl
   exact q l [] [] kn rmN sn _ (S4.trans (aq _ hl)) (same_none S4 hl) so4.ok ru4 ak .nil (.inr ⟨erm,rfl⟩)
 | some qq=>
   obtain⟨r,ps,u⟩:=qq
   obtain⟨b,hb,br,l,as,eb,hR,el,hRs,_⟩:=rDs.s.v x _ erm
   rw[hb] at ds
   obtain⟨br',l',v',eb',hl'⟩:=rDs.f x _ b erm hb
   rw[eb] at eb'
   cases eb'
   have ebs:=so4.sm _ _ eb
   have els:=so4.sm _ _ el
   walk_at "vs"
   exact q l as ps kn rmN sn H4 S4 (same_none S3 hl') so4.ok ru4 els (hRs.tups (aO.tups so4.sm)) (.inl ⟨r,u,erm⟩)
--Q Qo
end
section
variable {P:Program}{w:World}{K:PySem.W.Frag}{mg:Str->Option Value}{base:Heap}
abbrev gO:Stmt:=top 25
theorem Hq:bM ["script","k"] ["script","k"] (aa gO):=⟨rfl,rfl,rfl,by decide +kernel,rfl,by decide +kernel,by decide +kernel⟩
theorem jz:aF (aa gO) "k":=by decide +kernel
theorem zu:(aa gO).names.lookup ("len":Str)=some NameKind.globalImplicit:=by decide +kernel
theorem ni:aF (aa gO) "script":=by decide +kernel
theorem zx:("len":Str)≠"__name__":=by decide +kernel
theorem zy:(("len":Str)==("__debug__":Str))=false:=by decide +kernel
theorem Hr {f:Addr}{fd:FuncData} (gb:FnT K mg "_law_cell" gO ["script","k"] f fd) (T:Blt mg):bI P w K mg base CX0 1 f fd ["script","k"] (KQ K):=by
 refine gb.F.okQ Hq (fun vs H Q E h=> ?_) (fun cdv A outer s H vs Q E hr h=> ?_)
 ·obtain⟨a,ns,k,rfl,_⟩:=h
  rfl
 obtain⟨a,ns,k,rfl,hS,h0,h80,q⟩:=h
 refine⟨_,(aA (eU (fP Oi (aj 1 jz) (bF fQ zu T.tW mV (aX (aj 0 ni) au) zx zy) (cQ _)) (aB (cJ (cT iK (aj 0 ni) (aj 1 jz)))) dD)
  (aB (cJ (dF jB (dF jB (dF qO (dF qO aJ (aj 1 jz)) (aj 1 jz)) (dF qO aJ (aj 1 jz))) aJ)))), ?_⟩
 walk_at "vs"
 refine Yp (fun c1=> ?_) (fun c1=> ?_)
 ·have c1':k<((ns.map V.int).length:Int):=by simpa using c1
  obtain⟨v,j,hv,_⟩:=ab6 h0 c1'
  walk_at "vs"
  exact q _
 ·have m1:wZ 5 k:= .inl ⟨by decide,by decide⟩
  have m2:wZ (5 * k) k:= .inl ⟨by omega,by omega⟩
  have m3:wZ 9 k:= .inl ⟨by decide,by decide⟩
  walk_at "vs"
  exact q _
abbrev fL:Stmt:=top 26
theorem Ew:bM ["script","k"] ["script","k"] (aa fL):=⟨rfl,rfl,rfl,by decide +kernel,rfl,by decide +kernel,by decide +kernel⟩
theorem uQ:aF (aa fL) "k":=by decide +kernel
theorem jQ:(aa fL).names.lookup ("_law_cell":Str)=some NameKind.globalImplicit:=by decide +kernel
theorem lR:aF (aa fL) "script":=by decide +kernel
theorem jR:(("_law_cell":Str)==("__debug__":Str))=false:=by decide +kernel
theorem Ex {f g:Addr}{fd gd:FuncData} (iz:FnT K mg "_law_state" fL ["script","k"] f fd) (gb:FnT K mg "_law_cell" gO ["script","k"] g gd) (Bt:bI P w K mg base CX0 1 g gd ["script","k"] (KQ K)) (T:Blt mg):
 bI P w K mg base CX0 2 f fd ["script","k"] (Wn K):=by
 refine iz.F.okQ Ew (fun vs H Q E h=> ?_) (fun cdv A outer s H vs Q E hr h=> ?_)
 ·obtain⟨a,ns,k,rfl,_⟩:=h
  rfl
 obtain⟨a,ns,k,rfl,hS,h0,h1,q⟩:=h
 refine⟨_,(aB (cJ (J3 (zE aD (gF (Bt.mono (by omega)) hr jQ gb.m gb.F.kp gb.b .nil gA (aX (aj 0 lR) (aX (aj 1 uQ) au)) jR) (zE aD (vY iY (dF oJ (gF (Bt.mono (by omega)) hr jQ gb.m gb.F.kp gb.b .nil gA (aX (aj 0 lR) (cR aJ au)) jR) aJ) aJ (cQ _)) (zE aD (aj 1 uQ) Og)))))), ?_⟩
 walk_at "vs"
 intro p hp
 have s1:=aq (.dK []) hp
 have hS1:=SqL.same s1 hS
 have e1:upd H p (.dK []) p=some (.dK []):=ak
 generalize upd H p (.dK [])=H1 at *
 walk_at "vs"
 intro n1
 walk_at "vs"
 intro n2
 walk_at "vs"
 refine⟨ug n1 (decide (V.int (n2 % 2)=V.int 1)) k,rfl,by show 3<=15;decide, ?_⟩
 have em:vW [] (ug n1 (decide (V.int (n2 % 2)=V.int 1)) k)=ug n1 (decide (V.int (n2 % 2)=V.int 1)) k:=rfl
 rw[em]
 exact q p _ (vm _ hp s1) hp ⟨_,_,_,ak,by omega,by omega⟩
abbrev dR:Stmt:=top 27
theorem oV:bM ["state","many","found","stir"] ["state","many"] (aa dR):=⟨rfl,rfl,rfl,by decide +kernel,rfl,by decide +kernel,by decide +kernel⟩
theorem cA:aF (aa dR) "state":=by decide +kernel
theorem xU:Loc (aa dR) "found":=by decide +kernel
theorem kh:aF (aa dR) "many":=by decide +kernel
theorem xV:aF (aa dR) "found":=by decide +kernel
theorem qC:Loc (aa dR) "stir":=by decide +kernel
theorem kj:aF (aa dR) "stir":=by decide +kernel
theorem Hs {f:Addr}{fd:FuncData} (cF:FnT K mg "_law_take" dR ["state","many"] f fd) (T:Blt mg):bI P w K mg base CX0 1 f fd ["state","many"] PN:=by
 refine cF.F.okQ oV (fun vs H Q E h=> ?_) (fun cdv A outer s H vs Q E hr h=> ?_)
 ·obtain⟨p,c,many,rfl,_⟩:=h
  rfl
 obtain⟨p,c,many,rfl,⟨rest,mixed,count,e,h0,h1⟩,hc,hm,hlg,q⟩:=h
 refine⟨_,(aA (eU (zW (j0 (gj (eF hr) (aj 0 cA) aD))) (aA (bQ (i:=2) oV.nd rfl xU (dF oJ (gj (eF hr) (aj 0 cA) aD) (aj 1 kh)))
  (aA (kW (eF hr) (aj 0 cA) aD (dF FP (gj (eF hr) (aj 0 cA) aD) (aj 1 kh)))
  (aB (cJ (aj 2 xV))))) dD)
  (aA (kW (eF hr) (aj 0 cA) aD (dF jB (gj (eF hr) (aj 0 cA) aD) aJ))
  (aA (bQ (i:=3) oV.nd rfl qC (dF oJ (dF jB (dF oJ (gj (eF hr) (aj 0 cA) aD) aJ) (dF qO aJ (gj (eF hr) (aj 0 cA) aD))) aJ))
  (aA (bQ (i:=3) oV.nd rfl qC (dF oJ (dF qO (aj 3 kj) (aj 3 kj)) aJ))
  (aA (kW (eF hr) (aj 0 cA) aD (dF oJ (dF jB (dF qO (aj 3 kj) aJ) aJ) aJ))
  (aB (cJ (dF oJ (dF FP (gj (eF hr) (aj 0 cA) aD) aJ) (aj 1 kh))))))))), ?_⟩
 have d1:=Bb e
 have d2:=MF e
 have d3:=GF e
 walk_at "vs"
 cases mixed with
 | false=>
   walk_at "vs"
   refine And.intro (xG e _) ?_
   walk_at "vs"
   exact q _ _ (Int.emod_nonneg _ (by omega)) (Int.emod_lt_of_pos _ hm) (But.set _ (by simp)) ⟨_,_,_,ak,h0,by omega⟩
 | true=>
   walk_at "vs"
   refine And.intro (Ep e _) ?_
   have e2:upd H p (.dK (ug rest true (count+1))) p=some (.dK (ug rest true (count+1))):=ak
   have b2:But [p] H (upd H p (.dK (ug rest true (count+1)))):=But.set _ (by simp)
   clear d1 d2 d3
   generalize upd H p (.dK (ug rest true (count+1)))=H2 at *
   have d1:=Bb e2
   have d3:=GF e2
   have m1:wZ 70001 (count+1):= .inl ⟨by decide,by decide⟩
   have r0:=Int.emod_nonneg (rest % 2147483579+70001 *(count+1)) (show(2147483579:Int)≠0 by decide)
   have r1:=Int.emod_lt_of_pos (rest % 2147483579+70001 *(count+1)) (show(0:Int)<2147483579 by decide)
   have m2:wZ ((rest % 2147483579+70001 *(count+1)) % 2147483579) ((rest % 2147483579+70001 *(count+1)) % 2147483579):= .inl ⟨by omega,by omega⟩
   have z1:=Int.emod_nonneg ((rest % 2147483579+70001 *(count+1)) % 2147483579 *((rest % 2147483579+70001 *(count+1)) % 2147483579)) (show(2147483563:Int)≠0 by decide)
   have z2:=Int.emod_lt_of_pos ((rest % 2147483579+70001 *(count+1)) % 2147483579 *((rest % 2147483579+70001 *(count+1)) % 2147483579)) (show(0:Int)<2147483563 by decide)
   have m3:wZ ((rest % 2147483579+70001 *(count+1)) % 2147483579 *((rest % 2147483579+70001 *(count+1)) % 2147483579) % 2147483563) 50021:= .inl ⟨by omega,by omega⟩
   walk_at "vs"
   refine And.intro (xG e2 _) ?_
   have e3:upd H2 p (.dK (ug (((rest % 2147483579+70001 *(count+1)) % 2147483579 *((rest % 2147483579+70001 *(count+1)) % 2147483579) % 2147483563 * 50021+7) % 2147483579) true (count+1))) p=some (.dK (ug (((rest % 2147483579+70001 *(count+1)) % 2147483579 *((rest % 2147483579+70001 *(count+1)) % 2147483579) % 2147483563 * 50021+7) % 2147483579) true (count+1))):=ak
   have d4:=Bb e3
   walk_at "vs"
   exact q _ _ (Int.emod_nonneg _ (by omega)) (Int.emod_lt_of_pos _ hm) (b2.trans (But.set _ (by simp))) ⟨_,_,_,ak,by omega,by omega⟩
end
theorem Cm:("ValueError":Str)≠"__name__":=by decide +kernel
section
local macro_rules | `(tactic| walk_at "side") => `(tactic| first | exact nU.lst (by walk_at "heap") | exact ClV.own _ | exact ClV.ty _ | exact Jg | exact Jh)
variable {P:Program}{w:World}{K:PySem.W.Frag}{mg:Str->Option Value}{base:Heap}{CM CNo CRi CRd CRc CDd CTx CRw:Addr}
abbrev bf:Stmt:=top 28
theorem uR:bM ["e","kinds"] ["e"] (aa bf):=⟨rfl,rfl,rfl,by decide +kernel,rfl,by decide +kernel,by decide +kernel⟩
theorem uT:Loc (aa bf) "kinds":=by decide +kernel
theorem aL:(aa bf).names.lookup ("isinstance":Str)=some NameKind.globalImplicit:=by decide +kernel
theorem sW:(aa bf).names.lookup ("NoText":Str)=some NameKind.globalImplicit:=by decide +kernel
theorem sX:(("NoText":Str)==("__debug__":Str))=false:=by decide +kernel
theorem bG:aF (aa bf) "e":=by decide +kernel
theorem aM:("isinstance":Str)≠"__name__":=by decide +kernel
theorem aN:(("isinstance":Str)==("__debug__":Str))=false:=by decide +kernel
theorem sY:(aa bf).names.lookup ("NoDeed":Str)=some NameKind.globalImplicit:=by decide +kernel
theorem sZ:(("NoDeed":Str)==("__debug__":Str))=false:=by decide +kernel
theorem qD:(aa bf).names.lookup ("NoRecord":Str)=some NameKind.globalImplicit:=by decide +kernel
theorem qF:(("NoRecord":Str)==("__debug__":Str))=false:=by decide +kernel
theorem tD:(aa bf).names.lookup ("NoRead":Str)=some NameKind.globalImplicit:=by decide +kernel
theorem tE:(("NoRead":Str)==("__debug__":Str))=false:=by decide +kernel
theorem uU:aF (aa bf) "kinds":=by decide +kernel
theorem oh:(aa bf).names.lookup ("ValueError":Str)=some NameKind.globalImplicit:=by decide +kernel
theorem oA:(("ValueError":Str)==("__debug__":Str))=false:=by decide +kernel
theorem uV:(aa bf).names.lookup ("NoRow":Str)=some NameKind.globalImplicit:=by decide +kernel
theorem uW:(("NoRow":Str)==("__debug__":Str))=false:=by decide +kernel
theorem lU:(aa bf).names.lookup ("Ring":Str)=some NameKind.globalImplicit:=by decide +kernel
theorem lV:(("Ring":Str)==("__debug__":Str))=false:=by decide +kernel
theorem jY:(aa bf).names.lookup ("NoName":Str)=some NameKind.globalImplicit:=by decide +kernel
theorem jZ:(("NoName":Str)==("__debug__":Str))=false:=by decide +kernel
theorem lW:(aa bf).names.lookup ("list":Str)=some NameKind.globalImplicit:=by decide +kernel
theorem lX:("list":Str)≠"__name__":=by decide +kernel
theorem lY:(("list":Str)==("__debug__":Str))=false:=by decide +kernel
theorem Bu {f:Addr}{fd:FuncData} (fM:FnT K mg "_law_refusal" bf ["e"] f fd) (rk:RfK K CM CNo CRi CRd CRc CDd CTx CRw)
 (zH:mg "NoName"=some (.ref CNo)) (KZ:mg "Ring"=some (.ref CRi)) (Up:mg "NoRead"=some (.ref CRd)) (MT:mg "NoRecord"=some (.ref CRc)) (Uq:mg "NoDeed"=some (.ref CDd)) (Ur:mg "NoText"=some (.ref CTx)) (Zy:mg "NoRow"=some (.ref CRw)) (zVE:mg "ValueError"=none) (kd:Kinds K)
 (T:Blt mg):bI P w K mg base CX0 1 f fd ["e"] (Wo CNo CRi):=by
 refine fM.F.okQ uR (fun vs H Q E h=> ?_) (fun cdv A outer s H vs Q E hr h=> ?_)
 ·obtain⟨p,cls,d,e,rfl,_⟩:=h
  rfl
 obtain⟨p,cls,d,e,rfl,ep,er,q⟩:=h
 obtain⟨kN,kR,nN,nR,eN,eR,N1,N2,N3,N4,N5,NV,NN,NR,R1,R2,R3,R4,R5,RV,RN,RR⟩:=rk
 refine⟨_,(aA (bQ (i:=1) uR.nd rfl uT (gJ (tX (bF jo aL T.bN bD (aX (aj 0 bG) (aX (lZ (v:= .ref CRd) tD Up rfl tE) au)) aM aN) (tX (bF jo aL T.bN bD (aX (aj 0 bG) (aX (lZ (v:= .ref CRc) qD MT rfl qF) au)) aM aN) (tX (bF jo aL T.bN bD (aX (aj 0 bG) (aX (lZ (v:= .ref CDd) sY Uq rfl sZ) au)) aM aN) (tX (bF jo aL T.bN bD (aX (aj 0 bG) (aX (lZ (v:= .ref CTx) sW Ur rfl sX) au)) aM aN) au))))))
  (aA (eU (fP Ab Fz (dF oK (aj 1 uU) (gJ (tX (bF jo aL T.bN bD (aX (aj 0 bG) (aX (lZ (v:= .ref CRw) uV Zy rfl uW) au)) aM aN) (afA (Oc (bF jo aL T.bN bD (aX (aj 0 bG) (aX (oG (v:= .ty "ValueError") oh zVE BW rfl Cm oA) au)) aM aN)) au)))) rfl) (aB (cJ (cB (cR aD (cR tV au))))) dD)
  (aA (eU (Oe (DQ (j0 (bF jo aL T.bN bD (aX (aj 0 bG) (aX (lZ (v:= .ref CNo) jY zH rfl jZ) au)) aM aN)) (DP (zW (j0 (bF jo aL T.bN bD (aX (aj 0 bG) (aX (lZ (v:= .ref CRi) lU KZ rfl lV) au)) aM aN)))))) (aB (cJ (cB (cR aD (Il (Jf (aj 0 bG)) au))))) dD)
  (aA (eU (Oe (DQ (j0 (bF jo aL T.bN bD (aX (aj 0 bG) (aX (lZ (v:= .ref CRi) lU KZ rfl lV) au)) aM aN)) (DQ (zW (j0 (bF jo aL T.bN bD (aX (aj 0 bG) (aX (lZ (v:= .ref CNo) jY zH rfl jZ) au)) aM aN))) (DP (j0 (bF v5 aL T.bN bD (Il (Jf (aj 0 bG)) (aX (oG (v:= .ty "list") lW T.Ac xg rfl lX lY) au)) aM aN)))))) (aB (cJ (cB (cR aD (tX (pR v7 lW T.Ac xg (Il (Jf (aj 0 bG)) au) lX lY) au))))) dD)
  (aB (cJ (cB (cR aD (cR tV au))))))))), ?_⟩
 cases e with
 | no y=>
   obtain⟨rfl,dx,rfl,ed⟩:=er
   walk_at "vs"
   intro p1 hp1
   have s1:=aq (.lst [V.bl false, .bl false, .bl false, .bl false]) hp1
   have e1:upd H p1 (.lst [V.bl false, .bl false, .bl false, .bl false]) p1=some (.lst [V.bl false, .bl false, .bl false, .bl false]):=ak
   have ep1:=s1 _ _ ep
   have ed1:=s1 _ _ ed
   generalize upd H p1 (.lst [V.bl false, .bl false, .bl false, .bl false])=H1 at *
   walk_at "vs"
   intro p2 hp2
   have s2:=aq (.lst [V.bl false, .bl (!true)]) hp2
   have e2:upd H1 p2 (.lst [V.bl false, .bl (!true)]) p2=some (.lst [V.bl false, .bl false]):=ak
   have e12:=s2 _ _ e1
   have ep2:=s2 _ _ ep1
   have ed2:=s2 _ _ ed1
   generalize upd H1 p2 (.lst [V.bl false, .bl (!true)])=H2 at *
   walk_at "vs"
   intro p3 hp3
   have s3:=aq (.lst ([V.bl false, .bl false, .bl false, .bl false]++[V.bl false, .bl false])) hp3
   have e3:upd H2 p3 (.lst ([V.bl false, .bl false, .bl false, .bl false]++[V.bl false, .bl false])) p3=some (.lst [V.bl false, .bl false, .bl false, .bl false, .bl false, .bl false]):=ak
   have ep3:=s3 _ _ ep2
   have ed3:=s3 _ _ ed2
   have S4:=s1.trans (s2.trans s3)
   have hin:inV (.bl true) [V.bl false, .bl false, .bl false, .bl false, .bl false, .bl false]=false:=by decide +kernel
   have hfl:[V.bl false, .bl false, .bl false, .bl false, .bl false, .bl false].all oF=true:=by decide +kernel
   generalize upd H2 p3 (.lst ([V.bl false, .bl false, .bl false, .bl false]++[V.bl false, .bl false]))=H3 at *
   walk_at "vs"
   intro t ht
   exact q t _ (S4.trans (aq _ ht)) (same_none S4 ht) ak
 | ring zs=>
   obtain⟨rfl,dx,l,rfl,ed,el⟩:=er
   walk_at "vs"
   intro p1 hp1
   have s1:=aq (.lst [V.bl false, .bl false, .bl false, .bl false]) hp1
   have e1:upd H p1 (.lst [V.bl false, .bl false, .bl false, .bl false]) p1=some (.lst [V.bl false, .bl false, .bl false, .bl false]):=ak
   have ep1:=s1 _ _ ep
   have ed1:=s1 _ _ ed
   have el1:=s1 _ _ el
   generalize upd H p1 (.lst [V.bl false, .bl false, .bl false, .bl false])=H1 at *
   walk_at "vs"
   intro p2 hp2
   have s2:=aq (.lst [V.bl false, .bl (!true)]) hp2
   have e2:upd H1 p2 (.lst [V.bl false, .bl (!true)]) p2=some (.lst [V.bl false, .bl false]):=ak
   have e12:=s2 _ _ e1
   have ep2:=s2 _ _ ep1
   have ed2:=s2 _ _ ed1
   have el2:=s2 _ _ el1
   generalize upd H1 p2 (.lst [V.bl false, .bl (!true)])=H2 at *
   walk_at "vs"
   intro p3 hp3
   have s3:=aq (.lst ([V.bl false, .bl false, .bl false, .bl false]++[V.bl false, .bl false])) hp3
   have e3:upd H2 p3 (.lst ([V.bl false, .bl false, .bl false, .bl false]++[V.bl false, .bl false])) p3=some (.lst [V.bl false, .bl false, .bl false, .bl false, .bl false, .bl false]):=ak
   have ep3:=s3 _ _ ep2
   have ed3:=s3 _ _ ed2
   have el3:=s3 _ _ el2
   have S4:=s1.trans (s2.trans s3)
   have hin:inV (.bl true) [V.bl false, .bl false, .bl false, .bl false, .bl false, .bl false]=false:=by decide +kernel
   have hfl:[V.bl false, .bl false, .bl false, .bl false, .bl false, .bl false].all oF=true:=by decide +kernel
   generalize upd H2 p3 (.lst ([V.bl false, .bl false, .bl false, .bl false]++[V.bl false, .bl false]))=H3 at *
   walk_at "vs"
   intro l' hl'
   have s4:=aq (.lst (zs.map V.str)) hl'
   have el4:upd H3 l' (.lst (zs.map V.str)) l'=some (.lst (zs.map V.str)):=ak
   generalize upd H3 l' (.lst (zs.map V.str))=H4 at *
   walk_at "vs"
   intro t ht
   have s5:=aq (.tup [.str "ring", .ref l']) ht
   exact q t _ (S4.trans (s4.trans s5)) (same_none (S4.trans s4) ht) ⟨l',ak,s5 _ _ el4⟩
abbrev bY:Stmt:=top 29
theorem iB:bM ["ask","house","name","caught","found","e"] ["ask","house","name"] (aa bY):=⟨rfl,rfl,rfl,by decide +kernel,rfl,by decide +kernel,by decide +kernel⟩
theorem nj:Loc (aa bY) "caught":=by decide +kernel
theorem jT:Loc (aa bY) "found":=by decide +kernel
theorem zz:aF (aa bY) "ask":=by decide +kernel
theorem uX:(aa bY).names.lookup ("worth_of":Str)=some NameKind.globalImplicit:=by decide +kernel
theorem qG:aF (aa bY) "name":=by decide +kernel
theorem oW:aF (aa bY) "house":=by decide +kernel
theorem uY:(("worth_of":Str)==("__debug__":Str))=false:=by decide +kernel
theorem uZ:(aa bY).names.lookup ("reads_of":Str)=some NameKind.globalImplicit:=by decide +kernel
theorem u0:(("reads_of":Str)==("__debug__":Str))=false:=by decide +kernel
theorem Cp:(aa bY).names.lookup ("e":Str)=some NameKind.local:=by decide +kernel
theorem tG:(aa bY).names.lookup ("MadeError":Str)=some NameKind.globalImplicit:=by decide +kernel
theorem Cq:aF (aa bY) "e":=by decide +kernel
theorem tH:(("MadeError":Str)==("__debug__":Str))=false:=by decide +kernel
theorem nu:aF (aa bY) "caught":=by decide +kernel
theorem pL:(aa bY).names.lookup ("_law_refusal":Str)=some NameKind.globalImplicit:=by decide +kernel
theorem pM:(("_law_refusal":Str)==("__debug__":Str))=false:=by decide +kernel
theorem xW:aF (aa bY) "found":=by decide +kernel
theorem Ht {f g0 g1 g2:Addr}{fd gd0 gd1 gd2:FuncData} (jh:FnT K mg "_law_told" bY ["ask","house","name"] f fd) (rk:RfK K CM CNo CRi CRd CRc CDd CTx CRw)
 (jf:FnT K mg "worth_of" fZ ["house","name"] g0 gd0) (Jk:bI P w K mg base (CXd P w) 17 g0 gd0 ["house","name"] (GC CNo CRi))
 (jg:FnT K mg "reads_of" d9 ["house","name"] g2 gd2) (Jl:bI P w K mg base (CXd P w) 17 g2 gd2 ["house","name"] (GD CNo CRi))
 (fM:FnT K mg "_law_refusal" bf ["e"] g1 gd1) (Cr:bI P w K mg base CX0 1 g1 gd1 ["e"] (Wo CNo CRi))
 (m5:mg "MadeError"=some (.ref CM)) (T:Blt mg):bI P w K mg base CX0 18 f fd ["ask","house","name"] Qg:=by
 refine jh.F.okQ iB (fun vs H Q E h=> ?_) (fun cdv A outer s H vs Q E hr h=> ?_)
 ·obtain⟨h,g,c,gs,cs,gv,rc,x,a,rfl,_⟩:=h
  rfl
 obtain⟨h,g,c,gs,cs,gv,rc,x,a,rfl,ho,hsf,q,qe⟩:=h
 have S:=iB
 have eN:=rk.eN
 have eR:=rk.eR
 have exc:∀e cls d H1,mY gv rc [x] (kn0,[]) e->aO H H1->Ca CNo CRi e cls d H1->PySem.W.exmOne K cls (.ref CM)=some true:=fun e cls d H1 he s1 er=>by
  cases e with
  | no y=>rw[er.1];exact eN
  | ring zs=>rw[er.1];exact eR
 refine⟨_,(aA (bQ (i:=3) iB.nd rfl nj tV)
  (aA (bQ (i:=4) iB.nd rfl jT tV)
  (aA (Ug (i:=5) rfl rfl rfl iB.nd rfl Cp tG m5 (fun pn xe E hX=>(aB (eU (fP iY (aj 0 zz) aJ (cQ _)) (aB (bQ (i:=4) iB.nd rfl jT (Ga (Jk.mono (by omega)) hr uX jf.m jf.F.kp jf.b .nil hX (aX (aj 1 oW) (aX (aj 2 qG) au)) uY))) (aB (bQ (i:=4) iB.nd rfl jT (Ga (Jl.mono (by omega)) hr uZ jg.m jg.F.kp jg.b .nil hX (aX (aj 1 oW) (aX (aj 2 qG) au)) u0)))))) (fun e=>(aB (bQ (i:=3) iB.nd rfl nj (aj 5 Cq)))) tH)
  (aA (eU (fP Oj (aj 3 nu) tV (cQ _)) (aB (cJ (gF (Cr.mono (by omega)) hr pL fM.m fM.F.kp fM.b .nil gA (aX (aj 3 nu) au) pM))) dD)
  (aB (cJ (cB (cR aD (aX (aj 4 xW) au))))))))), ?_⟩
 by_cases ha:a=0
 ·walk_at "vs"
  rw[show decide (V.int a=V.int 0)=true by subst ha;rfl]
  walk_at "vs"
  refine⟨?_, ?_⟩
  ·intro v kn rmN od H1 s1 st ru hk
   walk_at "vs"
   intro t ht
   exact q t _ _ _ ru (s1.trans (aq _ ht)) (same_none s1 ht) ak
  ·intro e cls d H1 he s1 er
   refine⟨exc e cls d H1 he s1 er,fun p hp=> ?_⟩
   have s2:=aq (vH cls d p) hp
   have ep2:upd H1 p (vH cls d p) p=some (vH cls d p):=ak
   have er2:=er.same s2
   generalize upd H1 p (vH cls d p)=H2 at *
   walk_at "vs"
   intro t H3 s3 ht et
   walk_at "vs"
   exact qe e t H3 he (s1.trans (s2.trans s3)) (same_none (s1.trans s2) ht) et
 ·walk_at "vs"
  rw[show decide (V.int a=V.int 0)=false by exact decide_eq_false fun z=>ha (by cases z;rfl)]
  walk_at "vs"
  refine⟨?_, ?_⟩
  ·intro l as ps kn rmN od H1 s1 hl st ru el isr hh
   walk_at "vs"
   intro t ht
   exact q t _ _ _ ru (s1.trans (aq _ ht)) (same_none s1 ht) ak
  ·intro e cls d H1 he s1 er
   refine⟨exc e cls d H1 he s1 er,fun p hp=> ?_⟩
   have s2:=aq (vH cls d p) hp
   have ep2:upd H1 p (vH cls d p) p=some (vH cls d p):=ak
   have er2:=er.same s2
   generalize upd H1 p (vH cls d p)=H2 at *
   walk_at "vs"
   intro t H3 s3 ht et
   walk_at "vs"
   exact qe e t H3 he (s1.trans (s2.trans s3)) (same_none (s1.trans s2) ht) et
end
section
variable {P:Program}{w:World}{K:PySem.W.Frag}{mg:Str->Option Value}{base:Heap}
abbrev cX:Stmt:=top 30
theorem mO:bM ["state","name","given","some"] ["state","name"] (aa cX):=⟨rfl,rfl,rfl,by decide +kernel,rfl,by decide +kernel,by decide +kernel⟩
theorem wU:Loc (aa cX) "given":=by decide +kernel
theorem oX:Loc (aa cX) "some":=by decide +kernel
theorem cY:aF (aa cX) "name":=by decide +kernel
theorem iI:aF (aa cX) "given":=by decide +kernel
theorem gH:aF (aa cX) "some":=by decide +kernel
theorem rK:(aa cX).names.lookup ("_law_take":Str)=some NameKind.globalImplicit:=by decide +kernel
theorem wV:aF (aa cX) "state":=by decide +kernel
theorem rM:(("_law_take":Str)==("__debug__":Str))=false:=by decide +kernel
theorem Ey {f g0:Addr}{fd gd0:FuncData} (iC:FnT K mg "_law_first" cX ["state","name"] f fd)
 (cF:FnT K mg "_law_take" dR ["state","many"] g0 gd0) (nC:bI P w K mg base CX0 1 g0 gd0 ["state","many"] PN)
 (T:Blt mg):bI P w K mg base CX0 2 f fd ["state","name"] Qh:=by
 refine iC.F.okQ mO (fun vs H Q E h=> ?_) (fun cdv A outer s H vs Q E hr h=> ?_)
 ·obtain⟨p,t,z,rfl,_⟩:=h
  rfl
 obtain⟨p,t,z,rfl,st,ht,q⟩:=h
 refine⟨_,(aA (bQ (i:=2) mO.nd rfl wU (cB (cR aD (cR aD au))))
  (aA (bQ (i:=3) mO.nd rfl oX (gJ (j6 (cB (cR aD (aX (aj 1 cY) au))) (j6 (cB (cR aD (j6 (cB (cR aD (aX (aj 1 cY) au))) (aX (aj 2 iI) au)))) (j6 (cB (cR aD (j6 (cB (cR aD (cR aJ au))) (j6 (cB (cR aD (aX (aj 1 cY) au))) au)))) au)))))
  (aA (eG (oH PySem.F.plainAttrs_list PySem.F.slot_list_append PySem.F.type_list_append gK (aj 3 gH) (j6 (cB (cR aD (j6 (cB (cR aD (aX (aj 1 cY) au))) (aX (aj 2 iI) (aX (aj 2 iI) au))))) au)))
  (aA (eG (oH PySem.F.plainAttrs_list PySem.F.slot_list_append PySem.F.type_list_append gK (aj 3 gH) (j6 (cB (cR aD (j6 (cB (cR aD (cR aJ au))) (j6 (cB (cR aD (aX (aj 1 cY) au))) (j6 (cB (cR aD (cR aD au))) au))))) au)))
  (aA (eG (oH PySem.F.plainAttrs_list PySem.F.slot_list_append PySem.F.type_list_append gK (aj 3 gH) (j6 (cB (cR aD (j6 (cB (cR aD (cR aJ au))) (j6 (cB (cR aD (cR aD au))) (j6 (cB (cR aD (j6 (cB (cR aD (cR aJ au))) (j6 (cB (cR aD (aX (aj 1 cY) au))) au)))) au))))) au)))
  (aA (bQ (i:=3) mO.nd rfl oX (dF oK (aj 3 gH) (gJ (j6 (cB (cR aD (j6 (cB (cR aD (cR aJ au))) (j6 (cB (cR aD (cR aD (cR aD (aX (aj 1 cY) au))))) au)))) (j6 (cB (cR aD (j6 (cB (cR aD (aX (aj 1 cY) au))) (aX (aj 2 iI) au)))) au)))))
  (aB (cJ (cT iK (aj 3 gH) (gF (nC.mono (by omega)) hr rK cF.m cF.F.kp cF.b .nil gA (aX (aj 0 wV) (cR aJ au)) rM)))))))))), ?_⟩
 have bq:But [p] H H:=fun _ _ _ e=>e
 walk_at "vs"
 intro g hg
 have s_:=aq (.tup [.str "read", .str "one"]) hg
 have eg:upd H g (.tup [.str "read", .str "one"]) g=some (.tup [.str "read", .str "one"]):=ak
 replace bq:=bq.trans (But.of_same s_)
 replace st:=st.same s_
 generalize upd H g (.tup [.str "read", .str "one"])=W1 at *
 clear s_
 walk_at "vs"
 intro r1 hr1
 have s_:=aq (.tup [.str "read", .str z]) hr1
 have er1:upd W1 r1 (.tup [.str "read", .str z]) r1=some (.tup [.str "read", .str z]):=ak
 replace bq:=bq.trans (But.of_same s_)
 replace eg:=s_ _ _ eg
 replace st:=st.same s_
 generalize upd W1 r1 (.tup [.str "read", .str z])=W2 at *
 clear s_
 walk_at "vs"
 have ir1:IsR W2 r1 (jD 0 z):= .rd er1
 clear er1
 intro r2 hr2
 have s_:=aq (.tup [.str "read", .str z]) hr2
 have er2:upd W2 r2 (.tup [.str "read", .str z]) r2=some (.tup [.str "read", .str z]):=ak
 replace bq:=bq.trans (But.of_same s_)
 replace eg:=s_ _ _ eg
 replace ir1:=ir1.same s_
 replace st:=st.same s_
 generalize upd W2 r2 (.tup [.str "read", .str z])=W3 at *
 clear s_
 walk_at "vs"
 intro p1 hp1
 have s_:=aq (.tup [.str "plus", .ref r2, .ref g]) hp1
 have ep1:upd W3 p1 (.tup [.str "plus", .ref r2, .ref g]) p1=some (.tup [.str "plus", .ref r2, .ref g]):=ak
 replace bq:=bq.trans (But.of_same s_)
 replace eg:=s_ _ _ eg
 replace ir1:=ir1.same s_
 replace er2:=s_ _ _ er2
 replace st:=st.same s_
 generalize upd W3 p1 (.tup [.str "plus", .ref r2, .ref g])=W4 at *
 clear s_
 have ip1:IsR W4 p1 (jD 1 z):= .bin (op:= .plus) ep1 (.rd er2) (.rd eg)
 clear er2
 clear ep1
 walk_at "vs"
 intro n3 hn3
 have s_:=aq (.tup [.str "number", .int 3]) hn3
 have en3:upd W4 n3 (.tup [.str "number", .int 3]) n3=some (.tup [.str "number", .int 3]):=ak
 replace bq:=bq.trans (But.of_same s_)
 replace eg:=s_ _ _ eg
 replace ir1:=ir1.same s_
 replace ip1:=ip1.same s_
 replace st:=st.same s_
 generalize upd W4 n3 (.tup [.str "number", .int 3])=W5 at *
 clear s_
 walk_at "vs"
 intro r3 hr3
 have s_:=aq (.tup [.str "read", .str z]) hr3
 have er3:upd W5 r3 (.tup [.str "read", .str z]) r3=some (.tup [.str "read", .str z]):=ak
 replace bq:=bq.trans (But.of_same s_)
 replace eg:=s_ _ _ eg
 replace ir1:=ir1.same s_
 replace ip1:=ip1.same s_
 replace en3:=s_ _ _ en3
 replace st:=st.same s_
 generalize upd W5 r3 (.tup [.str "read", .str z])=W6 at *
 clear s_
 walk_at "vs"
 intro m1 hm1
 have s_:=aq (.tup [.str "minus", .ref n3, .ref r3]) hm1
 have em1:upd W6 m1 (.tup [.str "minus", .ref n3, .ref r3]) m1=some (.tup [.str "minus", .ref n3, .ref r3]):=ak
 replace bq:=bq.trans (But.of_same s_)
 replace eg:=s_ _ _ eg
 replace ir1:=ir1.same s_
 replace ip1:=ip1.same s_
 replace en3:=s_ _ _ en3
 replace er3:=s_ _ _ er3
 replace st:=st.same s_
 generalize upd W6 m1 (.tup [.str "minus", .ref n3, .ref r3])=W7 at *
 clear s_
 have im1:IsR W7 m1 (jD 2 z):= .bin (op:= .minus) em1 (.num en3) (.rd er3)
 clear en3
 clear er3
 clear em1
 walk_at "vs"
 have hb_:=bq
 intro l hl
 have s_:=aq (.lst [.ref r1, .ref p1, .ref m1]) hl
 have el:upd W7 l (.lst [.ref r1, .ref p1, .ref m1]) l=some (.lst [.ref r1, .ref p1, .ref m1]):=ak
 replace bq:=bq.trans (But.of_same s_)
 replace eg:=s_ _ _ eg
 replace ir1:=ir1.same s_
 replace ip1:=ip1.same s_
 replace im1:=im1.same s_
 replace st:=st.same s_
 generalize upd W7 l (.lst [.ref r1, .ref p1, .ref m1])=W8 at *
 clear s_
 have Us:p≠l:=fun w=>by
  obtain⟨_,_,_,e,_⟩:=st
  rw[w,el] at e;cases e
 have Zz:H l=none:=by
  cases ez:H l with
  | none=>rfl
  | some o=>exact absurd (hb_ _ _ (by simpa using Ne.symm Us) ez) (by rw[hl];simp)
 clear hb_
 walk_at "vs"
 intro r4 hr4
 have s_:=aq (.tup [.str "read", .str z]) hr4
 have er4:upd W8 r4 (.tup [.str "read", .str z]) r4=some (.tup [.str "read", .str z]):=ak
 replace bq:=bq.trans (But.of_same s_)
 replace eg:=s_ _ _ eg
 replace ir1:=ir1.same s_
 replace ip1:=ip1.same s_
 replace im1:=im1.same s_
 replace el:=s_ _ _ el
 replace st:=st.same s_
 generalize upd W8 r4 (.tup [.str "read", .str z])=W9 at *
 clear s_
 walk_at "vs"
 intro k1 hk1
 have s_:=aq (.tup [.str "pick", .ref r4, .ref g, .ref g]) hk1
 have ek1:upd W9 k1 (.tup [.str "pick", .ref r4, .ref g, .ref g]) k1=some (.tup [.str "pick", .ref r4, .ref g, .ref g]):=ak
 replace bq:=bq.trans (But.of_same s_)
 replace eg:=s_ _ _ eg
 replace ir1:=ir1.same s_
 replace ip1:=ip1.same s_
 replace im1:=im1.same s_
 replace el:=s_ _ _ el
 replace er4:=s_ _ _ er4
 replace st:=st.same s_
 generalize upd W9 k1 (.tup [.str "pick", .ref r4, .ref g, .ref g])=W10 at *
 clear s_
 have ik1:IsR W10 k1 (jD 3 z):= .pick ek1 (.rd er4) (.rd eg) (.rd eg)
 clear er4
 clear ek1
 walk_at "vs"
 have b_:But [l] W10 (upd W10 l (.lst ([.ref r1, .ref p1, .ref m1]++[.ref k1]))):=But.set _ (by simp)
 have t_:jU W10 (upd W10 l (.lst ([.ref r1, .ref p1, .ref m1]++[.ref k1]))):=fun a_ xs_ ez=>b_ _ _ (fun w=>by rw[show a_=l by simpa using w,el] at ez;cases ez) ez
 have eln:upd W10 l (.lst ([.ref r1, .ref p1, .ref m1]++[.ref k1])) l=some (.lst [.ref r1, .ref p1, .ref m1, .ref k1]):=ak
 replace bq:=Bj bq Zz (.lst ([.ref r1, .ref p1, .ref m1]++[.ref k1]))
 replace eg:=t_ _ _ eg
 replace ir1:=ir1.tups t_
 replace ip1:=ip1.tups t_
 replace im1:=im1.tups t_
 replace ik1:=ik1.tups t_
 replace st:=st.keep b_ (by simpa using Us)
 replace el:=eln
 clear eln b_ t_
 generalize upd W10 l (.lst ([.ref r1, .ref p1, .ref m1]++[.ref k1]))=W11 at *
 walk_at "vs"
 intro n1 hn1
 have s_:=aq (.tup [.str "number", .int 1]) hn1
 have en1:upd W11 n1 (.tup [.str "number", .int 1]) n1=some (.tup [.str "number", .int 1]):=ak
 replace bq:=bq.trans (But.of_same s_)
 replace eg:=s_ _ _ eg
 replace ir1:=ir1.same s_
 replace ip1:=ip1.same s_
 replace im1:=im1.same s_
 replace el:=s_ _ _ el
 replace ik1:=ik1.same s_
 replace st:=st.same s_
 generalize upd W11 n1 (.tup [.str "number", .int 1])=W12 at *
 clear s_
 walk_at "vs"
 intro r5 hr5
 have s_:=aq (.tup [.str "read", .str z]) hr5
 have er5:upd W12 r5 (.tup [.str "read", .str z]) r5=some (.tup [.str "read", .str z]):=ak
 replace bq:=bq.trans (But.of_same s_)
 replace eg:=s_ _ _ eg
 replace ir1:=ir1.same s_
 replace ip1:=ip1.same s_
 replace im1:=im1.same s_
 replace el:=s_ _ _ el
 replace ik1:=ik1.same s_
 replace en1:=s_ _ _ en1
 replace st:=st.same s_
 generalize upd W12 r5 (.tup [.str "read", .str z])=W13 at *
 clear s_
 walk_at "vs"
 intro x1 hx1
 have s_:=aq (.tup [.str "read", .str "nix"]) hx1
 have ex1:upd W13 x1 (.tup [.str "read", .str "nix"]) x1=some (.tup [.str "read", .str "nix"]):=ak
 replace bq:=bq.trans (But.of_same s_)
 replace eg:=s_ _ _ eg
 replace ir1:=ir1.same s_
 replace ip1:=ip1.same s_
 replace im1:=im1.same s_
 replace el:=s_ _ _ el
 replace ik1:=ik1.same s_
 replace en1:=s_ _ _ en1
 replace er5:=s_ _ _ er5
 replace st:=st.same s_
 generalize upd W13 x1 (.tup [.str "read", .str "nix"])=W14 at *
 clear s_
 walk_at "vs"
 intro k2 hk2
 have s_:=aq (.tup [.str "pick", .ref n1, .ref r5, .ref x1]) hk2
 have ek2:upd W14 k2 (.tup [.str "pick", .ref n1, .ref r5, .ref x1]) k2=some (.tup [.str "pick", .ref n1, .ref r5, .ref x1]):=ak
 replace bq:=bq.trans (But.of_same s_)
 replace eg:=s_ _ _ eg
 replace ir1:=ir1.same s_
 replace ip1:=ip1.same s_
 replace im1:=im1.same s_
 replace el:=s_ _ _ el
 replace ik1:=ik1.same s_
 replace en1:=s_ _ _ en1
 replace er5:=s_ _ _ er5
 replace ex1:=s_ _ _ ex1
 replace st:=st.same s_
 generalize upd W14 k2 (.tup [.str "pick", .ref n1, .ref r5, .ref x1])=W15 at *
 clear s_
 have ik2:IsR W15 k2 (jD 4 z):= .pick ek2 (.num en1) (.rd er5) (.rd ex1)
 clear en1
 clear er5
 clear ex1
 clear ek2
 walk_at "vs"
 have b_:But [l] W15 (upd W15 l (.lst ([.ref r1, .ref p1, .ref m1, .ref k1]++[.ref k2]))):=But.set _ (by simp)
 have t_:jU W15 (upd W15 l (.lst ([.ref r1, .ref p1, .ref m1, .ref k1]++[.ref k2]))):=fun a_ xs_ ez=>b_ _ _ (fun w=>by rw[show a_=l by simpa using w,el] at ez;cases ez) ez
 have eln:upd W15 l (.lst ([.ref r1, .ref p1, .ref m1, .ref k1]++[.ref k2])) l=some (.lst [.ref r1, .ref p1, .ref m1, .ref k1, .ref k2]):=ak
 replace bq:=Bj bq Zz (.lst ([.ref r1, .ref p1, .ref m1, .ref k1]++[.ref k2]))
 replace eg:=t_ _ _ eg
 replace ir1:=ir1.tups t_
 replace ip1:=ip1.tups t_
 replace im1:=im1.tups t_
 replace ik1:=ik1.tups t_
 replace ik2:=ik2.tups t_
 replace st:=st.keep b_ (by simpa using Us)
 replace el:=eln
 clear eln b_ t_
 generalize upd W15 l (.lst ([.ref r1, .ref p1, .ref m1, .ref k1]++[.ref k2]))=W16 at *
 walk_at "vs"
 intro n0 hn0
 have s_:=aq (.tup [.str "number", .int 0]) hn0
 have en0:upd W16 n0 (.tup [.str "number", .int 0]) n0=some (.tup [.str "number", .int 0]):=ak
 replace bq:=bq.trans (But.of_same s_)
 replace eg:=s_ _ _ eg
 replace ir1:=ir1.same s_
 replace ip1:=ip1.same s_
 replace im1:=im1.same s_
 replace el:=s_ _ _ el
 replace ik1:=ik1.same s_
 replace ik2:=ik2.same s_
 replace st:=st.same s_
 generalize upd W16 n0 (.tup [.str "number", .int 0])=W17 at *
 clear s_
 walk_at "vs"
 intro x2 hx2
 have s_:=aq (.tup [.str "read", .str "nix"]) hx2
 have ex2:upd W17 x2 (.tup [.str "read", .str "nix"]) x2=some (.tup [.str "read", .str "nix"]):=ak
 replace bq:=bq.trans (But.of_same s_)
 replace eg:=s_ _ _ eg
 replace ir1:=ir1.same s_
 replace ip1:=ip1.same s_
 replace im1:=im1.same s_
 replace el:=s_ _ _ el
 replace ik1:=ik1.same s_
 replace ik2:=ik2.same s_
 replace en0:=s_ _ _ en0
 replace st:=st.same s_
 generalize upd W17 x2 (.tup [.str "read", .str "nix"])=W18 at *
 clear s_
 walk_at "vs"
 intro n4 hn4
 have s_:=aq (.tup [.str "number", .int 0]) hn4
 have en4:upd W18 n4 (.tup [.str "number", .int 0]) n4=some (.tup [.str "number", .int 0]):=ak
 replace bq:=bq.trans (But.of_same s_)
 replace eg:=s_ _ _ eg
 replace ir1:=ir1.same s_
 replace ip1:=ip1.same s_
 replace im1:=im1.same s_
 replace el:=s_ _ _ el
 replace ik1:=ik1.same s_
 replace ik2:=ik2.same s_
 replace en0:=s_ _ _ en0
 replace ex2:=s_ _ _ ex2
 replace st:=st.same s_
 generalize upd W18 n4 (.tup [.str "number", .int 0])=W19 at *
 clear s_
 walk_at "vs"
 intro r6 hr6
 have s_:=aq (.tup [.str "read", .str z]) hr6
 have er6:upd W19 r6 (.tup [.str "read", .str z]) r6=some (.tup [.str "read", .str z]):=ak
 replace bq:=bq.trans (But.of_same s_)
 replace eg:=s_ _ _ eg
 replace ir1:=ir1.same s_
 replace ip1:=ip1.same s_
 replace im1:=im1.same s_
 replace el:=s_ _ _ el
 replace ik1:=ik1.same s_
 replace ik2:=ik2.same s_
 replace en0:=s_ _ _ en0
 replace ex2:=s_ _ _ ex2
 replace en4:=s_ _ _ en4
 replace st:=st.same s_
 generalize upd W19 r6 (.tup [.str "read", .str z])=W20 at *
 clear s_
 walk_at "vs"
 intro t1 ht1
 have s_:=aq (.tup [.str "times", .ref n4, .ref r6]) ht1
 have et1:upd W20 t1 (.tup [.str "times", .ref n4, .ref r6]) t1=some (.tup [.str "times", .ref n4, .ref r6]):=ak
 replace bq:=bq.trans (But.of_same s_)
 replace eg:=s_ _ _ eg
 replace ir1:=ir1.same s_
 replace ip1:=ip1.same s_
 replace im1:=im1.same s_
 replace el:=s_ _ _ el
 replace ik1:=ik1.same s_
 replace ik2:=ik2.same s_
 replace en0:=s_ _ _ en0
 replace ex2:=s_ _ _ ex2
 replace en4:=s_ _ _ en4
 replace er6:=s_ _ _ er6
 replace st:=st.same s_
 generalize upd W20 t1 (.tup [.str "times", .ref n4, .ref r6])=W21 at *
 clear s_
 walk_at "vs"
 intro k3 hk3
 have s_:=aq (.tup [.str "pick", .ref n0, .ref x2, .ref t1]) hk3
 have ek3:upd W21 k3 (.tup [.str "pick", .ref n0, .ref x2, .ref t1]) k3=some (.tup [.str "pick", .ref n0, .ref x2, .ref t1]):=ak
 replace bq:=bq.trans (But.of_same s_)
 replace eg:=s_ _ _ eg
 replace ir1:=ir1.same s_
 replace ip1:=ip1.same s_
 replace im1:=im1.same s_
 replace el:=s_ _ _ el
 replace ik1:=ik1.same s_
 replace ik2:=ik2.same s_
 replace en0:=s_ _ _ en0
 replace ex2:=s_ _ _ ex2
 replace en4:=s_ _ _ en4
 replace er6:=s_ _ _ er6
 replace et1:=s_ _ _ et1
 replace st:=st.same s_
 generalize upd W21 k3 (.tup [.str "pick", .ref n0, .ref x2, .ref t1])=W22 at *
 clear s_
 have ik3:IsR W22 k3 (jD 5 z):= .pick ek3 (.num en0) (.rd ex2) (.bin (op:= .times) et1 (.num en4) (.rd er6))
 clear en0
 clear ex2
 clear en4
 clear er6
 clear et1
 clear ek3
 walk_at "vs"
 have b_:But [l] W22 (upd W22 l (.lst ([.ref r1, .ref p1, .ref m1, .ref k1, .ref k2]++[.ref k3]))):=But.set _ (by simp)
 have t_:jU W22 (upd W22 l (.lst ([.ref r1, .ref p1, .ref m1, .ref k1, .ref k2]++[.ref k3]))):=fun a_ xs_ ez=>b_ _ _ (fun w=>by rw[show a_=l by simpa using w,el] at ez;cases ez) ez
 have eln:upd W22 l (.lst ([.ref r1, .ref p1, .ref m1, .ref k1, .ref k2]++[.ref k3])) l=some (.lst [.ref r1, .ref p1, .ref m1, .ref k1, .ref k2, .ref k3]):=ak
 replace bq:=Bj bq Zz (.lst ([.ref r1, .ref p1, .ref m1, .ref k1, .ref k2]++[.ref k3]))
 replace eg:=t_ _ _ eg
 replace ir1:=ir1.tups t_
 replace ip1:=ip1.tups t_
 replace im1:=im1.tups t_
 replace ik1:=ik1.tups t_
 replace ik2:=ik2.tups t_
 replace ik3:=ik3.tups t_
 replace st:=st.keep b_ (by simpa using Us)
 replace el:=eln
 clear eln b_ t_
 generalize upd W22 l (.lst ([.ref r1, .ref p1, .ref m1, .ref k1, .ref k2]++[.ref k3]))=W23 at *
 walk_at "vs"
 intro n5 hn5
 have s_:=aq (.tup [.str "number", .int 3]) hn5
 have en5:upd W23 n5 (.tup [.str "number", .int 3]) n5=some (.tup [.str "number", .int 3]):=ak
 replace bq:=bq.trans (But.of_same s_)
 replace eg:=s_ _ _ eg
 replace ir1:=ir1.same s_
 replace ip1:=ip1.same s_
 replace im1:=im1.same s_
 replace el:=s_ _ _ el
 replace ik1:=ik1.same s_
 replace ik2:=ik2.same s_
 replace ik3:=ik3.same s_
 replace st:=st.same s_
 generalize upd W23 n5 (.tup [.str "number", .int 3])=W24 at *
 clear s_
 walk_at "vs"
 intro c0 hc0
 have s_:=aq (.tup [.str "nix", .str "no", .str "never", .str z]) hc0
 have ec0:upd W24 c0 (.tup [.str "nix", .str "no", .str "never", .str z]) c0=some (.tup [.str "nix", .str "no", .str "never", .str z]):=ak
 replace bq:=bq.trans (But.of_same s_)
 replace eg:=s_ _ _ eg
 replace ir1:=ir1.same s_
 replace ip1:=ip1.same s_
 replace im1:=im1.same s_
 replace el:=s_ _ _ el
 replace ik1:=ik1.same s_
 replace ik2:=ik2.same s_
 replace ik3:=ik3.same s_
 replace en5:=s_ _ _ en5
 replace st:=st.same s_
 generalize upd W24 c0 (.tup [.str "nix", .str "no", .str "never", .str z])=W25 at *
 clear s_
 walk_at "vs"
 intro c1 hc1
 have s_:=aq (.tup [.str "choose", .ref n5, .ref c0]) hc1
 have ec1:upd W25 c1 (.tup [.str "choose", .ref n5, .ref c0]) c1=some (.tup [.str "choose", .ref n5, .ref c0]):=ak
 replace bq:=bq.trans (But.of_same s_)
 replace eg:=s_ _ _ eg
 replace ir1:=ir1.same s_
 replace ip1:=ip1.same s_
 replace im1:=im1.same s_
 replace el:=s_ _ _ el
 replace ik1:=ik1.same s_
 replace ik2:=ik2.same s_
 replace ik3:=ik3.same s_
 replace en5:=s_ _ _ en5
 replace ec0:=s_ _ _ ec0
 replace st:=st.same s_
 generalize upd W25 c1 (.tup [.str "choose", .ref n5, .ref c0])=W26 at *
 clear s_
 have ic1:IsR W26 c1 (jD 6 z):= .cho (ns:=["nix","no","never",z]) ec1 (.num en5) ec0
 clear en5
 clear ec0
 clear ec1
 walk_at "vs"
 intro r7 hr7
 have s_:=aq (.tup [.str "read", .str z]) hr7
 have er7:upd W26 r7 (.tup [.str "read", .str z]) r7=some (.tup [.str "read", .str z]):=ak
 replace bq:=bq.trans (But.of_same s_)
 replace eg:=s_ _ _ eg
 replace ir1:=ir1.same s_
 replace ip1:=ip1.same s_
 replace im1:=im1.same s_
 replace el:=s_ _ _ el
 replace ik1:=ik1.same s_
 replace ik2:=ik2.same s_
 replace ik3:=ik3.same s_
 replace ic1:=ic1.same s_
 replace st:=st.same s_
 generalize upd W26 r7 (.tup [.str "read", .str z])=W27 at *
 clear s_
 walk_at "vs"
 intro q1 hq1
 have s_:=aq (.tup [.str "most", .ref r7, .ref g]) hq1
 have eq1:upd W27 q1 (.tup [.str "most", .ref r7, .ref g]) q1=some (.tup [.str "most", .ref r7, .ref g]):=ak
 replace bq:=bq.trans (But.of_same s_)
 replace eg:=s_ _ _ eg
 replace ir1:=ir1.same s_
 replace ip1:=ip1.same s_
 replace im1:=im1.same s_
 replace el:=s_ _ _ el
 replace ik1:=ik1.same s_
 replace ik2:=ik2.same s_
 replace ik3:=ik3.same s_
 replace ic1:=ic1.same s_
 replace er7:=s_ _ _ er7
 replace st:=st.same s_
 generalize upd W27 q1 (.tup [.str "most", .ref r7, .ref g])=W28 at *
 clear s_
 have iq1:IsR W28 q1 (jD 7 z):= .bin (op:= .most) eq1 (.rd er7) (.rd eg)
 clear er7
 clear eq1
 walk_at "vs"
 intro l2 hl2
 have s_:=aq (.lst [.ref c1, .ref q1]) hl2
 have el2:upd W28 l2 (.lst [.ref c1, .ref q1]) l2=some (.lst [.ref c1, .ref q1]):=ak
 replace bq:=bq.trans (But.of_same s_)
 replace eg:=s_ _ _ eg
 replace ir1:=ir1.same s_
 replace ip1:=ip1.same s_
 replace im1:=im1.same s_
 replace el:=s_ _ _ el
 replace ik1:=ik1.same s_
 replace ik2:=ik2.same s_
 replace ik3:=ik3.same s_
 replace ic1:=ic1.same s_
 replace iq1:=iq1.same s_
 replace st:=st.same s_
 generalize upd W28 l2 (.lst [.ref c1, .ref q1])=W29 at *
 clear s_
 walk_at "vs"
 intro l3 hl3
 have s_:=aq (.lst ([.ref r1, .ref p1, .ref m1, .ref k1, .ref k2, .ref k3]++[.ref c1, .ref q1])) hl3
 have el3:upd W29 l3 (.lst ([.ref r1, .ref p1, .ref m1, .ref k1, .ref k2, .ref k3]++[.ref c1, .ref q1])) l3=some (.lst ([.ref r1, .ref p1, .ref m1, .ref k1, .ref k2, .ref k3]++[.ref c1, .ref q1])):=ak
 replace bq:=bq.trans (But.of_same s_)
 replace eg:=s_ _ _ eg
 replace ir1:=ir1.same s_
 replace ip1:=ip1.same s_
 replace im1:=im1.same s_
 replace el:=s_ _ _ el
 replace ik1:=ik1.same s_
 replace ik2:=ik2.same s_
 replace ik3:=ik3.same s_
 replace ic1:=ic1.same s_
 replace iq1:=iq1.same s_
 replace el2:=s_ _ _ el2
 replace st:=st.same s_
 generalize upd W29 l3 (.lst ([.ref r1, .ref p1, .ref m1, .ref k1, .ref k2, .ref k3]++[.ref c1, .ref q1]))=W30 at *
 clear s_
 walk_at "vs"
 intro n W31 n0 n1 b_ st_
 replace bq:=bq.trans b_
 replace eg:=b_ _ _ (st.off eg (by simp)) eg
 replace ir1:=ir1.tups (st.tups b_)
 replace ip1:=ip1.tups (st.tups b_)
 replace im1:=im1.tups (st.tups b_)
 replace el:=b_ _ _ (st.off el (by simp)) el
 replace ik1:=ik1.tups (st.tups b_)
 replace ik2:=ik2.tups (st.tups b_)
 replace ik3:=ik3.tups (st.tups b_)
 replace ic1:=ic1.tups (st.tups b_)
 replace iq1:=iq1.tups (st.tups b_)
 replace el2:=b_ _ _ (st.off el2 (by simp)) el2
 replace el3:=b_ _ _ (st.off el3 (by simp)) el3
 replace st:=st_
 clear b_
 have hat:∃(a:Addr) (k:Nat),atI (([.ref r1, .ref p1, .ref m1, .ref k1, .ref k2, .ref k3]:List V)++[.ref c1, .ref q1]) n=some (.ref a)/\IsR W31 a (jD k z):=by
  have:n=0\/n=1\/n=2\/n=3\/n=4\/n=5\/n=6\/n=7:=by omega
  rcases this with rfl | rfl | rfl | rfl | rfl | rfl | rfl | rfl
  ·exact⟨r1,0,rfl,ir1⟩
  ·exact⟨p1,1,rfl,ip1⟩
  ·exact⟨m1,2,rfl,im1⟩
  ·exact⟨k1,3,rfl,ik1⟩
  ·exact⟨k2,4,rfl,ik2⟩
  ·exact⟨k3,5,rfl,ik3⟩
  ·exact⟨c1,6,rfl,ic1⟩
  ·exact⟨q1,7,rfl,iq1⟩
 obtain⟨a,k,ha,hi⟩:=hat
 walk_at "vs"
 exact q a k _ bq st hi
end
section
variable {P:Program}{w:World}{K:PySem.W.Frag}{mg:Str->Option Value}{base:Heap}
abbrev cG:Stmt:=top 31
theorem gC:bM ["script","k","state","row","back","last","recipes","j","name","house","handed","due","around","at","ask","told","fine"] ["script"] (aa cG):=⟨rfl,rfl,rfl,by decide +kernel,rfl,by decide +kernel,by decide +kernel⟩
theorem xX:(aa cG).names.lookup ("range":Str)=some NameKind.globalImplicit:=by decide +kernel
theorem Jm:(aa cG).names.lookup ("max":Str)=some NameKind.globalImplicit:=by decide +kernel
theorem Jo:(aa cG).names.lookup ("min":Str)=some NameKind.globalImplicit:=by decide +kernel
theorem nD:(aa cG).names.lookup ("len":Str)=some NameKind.globalImplicit:=by decide +kernel
theorem vR:aF (aa cG) "script":=by decide +kernel
theorem nH:("len":Str)≠"__name__":=by decide +kernel
theorem nJ:(("len":Str)==("__debug__":Str))=false:=by decide +kernel
theorem Jp:("min":Str)≠"__name__":=by decide +kernel
theorem Jq:(("min":Str)==("__debug__":Str))=false:=by decide +kernel
theorem Jr:("max":Str)≠"__name__":=by decide +kernel
theorem Js:(("max":Str)==("__debug__":Str))=false:=by decide +kernel
theorem Qp:Loc (aa cG) "k":=by decide +kernel
theorem Ez:Loc (aa cG) "state":=by decide +kernel
theorem xY:(aa cG).names.lookup ("_law_state":Str)=some NameKind.globalImplicit:=by decide +kernel
theorem Qq:aF (aa cG) "k":=by decide +kernel
theorem xZ:(("_law_state":Str)==("__debug__":Str))=false:=by decide +kernel
theorem Bv:Loc (aa cG) "row":=by decide +kernel
theorem kE:(aa cG).names.lookup ("_law_take":Str)=some NameKind.globalImplicit:=by decide +kernel
theorem mQ:aF (aa cG) "state":=by decide +kernel
theorem kI:(("_law_take":Str)==("__debug__":Str))=false:=by decide +kernel
theorem eE:aF (aa cG) "row":=by decide +kernel
theorem Hu:Loc (aa cG) "back":=by decide +kernel
theorem Hv:Loc (aa cG) "last":=by decide +kernel
theorem fO:aF (aa cG) "back":=by decide +kernel
theorem Bw:Loc (aa cG) "recipes":=by decide +kernel
theorem qH:(aa cG).names.lookup ("enumerate":Str)=some NameKind.globalImplicit:=by decide +kernel
theorem yV:Loc (aa cG) "name":=by decide +kernel
theorem Hw:Loc (aa cG) "j":=by decide +kernel
theorem nQ:aF (aa cG) "recipes":=by decide +kernel
theorem u5:aF (aa cG) "name":=by decide +kernel
theorem yc:(aa cG).names.lookup ("_law_first":Str)=some NameKind.globalImplicit:=by decide +kernel
theorem Hx:aF (aa cG) "last":=by decide +kernel
theorem Bx:aF (aa cG) "j":=by decide +kernel
theorem yd:(("_law_first":Str)==("__debug__":Str))=false:=by decide +kernel
theorem EY:Loc (aa cG) "house":=by decide +kernel
theorem Cu:Loc (aa cG) "handed":=by decide +kernel
theorem yW:(aa cG).names.lookup ("dict":Str)=some NameKind.globalImplicit:=by decide +kernel
theorem yX:("dict":Str)≠"__name__":=by decide +kernel
theorem yZ:(("dict":Str)==("__debug__":Str))=false:=by decide +kernel
theorem ye:aF (aa cG) "house":=by decide +kernel
theorem wW:Loc (aa cG) "due":=by decide +kernel
theorem Cv:Loc (aa cG) "around":=by decide +kernel
theorem M3:Loc (aa cG) "at":=by decide +kernel
theorem Dr:aF (aa cG) "at":=by decide +kernel
theorem Cw:aF (aa cG) "around":=by decide +kernel
theorem Jt:Loc (aa cG) "ask":=by decide +kernel
theorem Hy:Loc (aa cG) "told":=by decide +kernel
theorem yF:(aa cG).names.lookup ("_law_told":Str)=some NameKind.globalImplicit:=by decide +kernel
theorem vU:aF (aa cG) "handed":=by decide +kernel
theorem Ju:aF (aa cG) "ask":=by decide +kernel
theorem yG:(("_law_told":Str)==("__debug__":Str))=false:=by decide +kernel
theorem Hz:Loc (aa cG) "fine":=by decide +kernel
theorem za:aF (aa cG) "told":=by decide +kernel
theorem Jv:aF (aa cG) "due":=by decide +kernel
theorem HD:aF (aa cG) "fine":=by decide +kernel
theorem ZC {f g0 g1 g2 g3:Addr}{fd gd0 gd1 gd2 gd3:FuncData} (Qs:FnT K mg "law" cG ["script"] f fd)
 (iz:FnT K mg "_law_state" fL ["script","k"] g0 gd0) (HF:bI P w K mg base CX0 2 g0 gd0 ["script","k"] (Wn K))
 (cF:FnT K mg "_law_take" dR ["state","many"] g1 gd1) (nC:bI P w K mg base CX0 1 g1 gd1 ["state","many"] PN)
 (jh:FnT K mg "_law_told" bY ["ask","house","name"] g2 gd2) (Jw:bI P w K mg base CX0 18 g2 gd2 ["ask","house","name"] Qg)
 (iC:FnT K mg "_law_first" cX ["state","name"] g3 gd3) (HH:bI P w K mg base CX0 2 g3 gd3 ["state","name"] Qh)
 (T:Blt mg):bI P w K mg base CX0 19 f fd ["script"] (Kc K):=by
 refine Qs.F.okQ gC (fun vs H Q E h=> ?_) (fun cdv A0 outer s H vs Q E hr h=> ?_)
 ·obtain⟨a,ns,rfl,_⟩:=h
  rfl
 obtain⟨a,zs,rfl,hS,h63,q⟩:=h
 refine⟨_,(aA (Aa PassesOwn.never rfl (Dg xX T.Kd (tX (bF (Kg rfl) Jm T.V8 Oa (cR aJ (tX (bF (Tn rfl) Jo T.ab3 Yr (tX (bF fQ nD T.tW mV (aX (aj 0 vR) au) nH nJ) (cR aJ au)) Jp Jq) au)) Jr Js) au)) (qN (i:=1) gC.nd rfl Qp) (aA (jM (bQ (i:=2) gC.nd rfl Ez (gF (HF.mono (by omega)) hr xY iz.m iz.F.kp iz.b .nil gA (aX (aj 0 vR) (aX (aj 1 Qq) au)) xZ)))
  (aA (jM (bQ (i:=3) gC.nd rfl Bv (gJ (cR aD (cR aD (cR aD (cR aD (cR aD (cR aD (cR aD (cR aD (cR aD (cR aD (cR aD (cR aD au)))))))))))))))
  (aA (jM (bQ (i:=3) gC.nd rfl Bv (pQ pW (aj 3 eE) xj (qM (dF jB aJ (gF (nC.mono (by omega)) hr kE cF.m cF.F.kp cF.b .nil gA (aX (aj 2 mQ) (cR aJ au)) kI))))))
  (aA (jM (bQ (i:=4) gC.nd rfl Hu (gF (nC.mono (by omega)) hr kE cF.m cF.F.kp cF.b .nil gA (aX (aj 2 mQ) (Tg (dF jB (bF fQ nD T.tW mV (aX (aj 3 eE) au) nH nJ) aJ) au)) kI)))
  (aA (jM (bQ (i:=5) gC.nd rfl Hv (cT iK (dF oK (aj 3 eE) (gJ (cR aD (cR aD au)))) (aj 4 fO))))
  (aA (jM (bQ (i:=6) gC.nd rfl Bw kY))
  (aA (jM (Aa PassesOwn.never rfl (Kq qH T.yO (aX (aj 3 eE) au)) (Ij rfl (pU (qN (i:=7) gC.nd rfl Hw) (pU (qN (i:=8) gC.nd rfl yV) DX))) (aB (kW (eF hr) (aj 6 nQ) (aj 8 u5) (gF (HH.mono (by omega)) hr yc iC.m iC.F.kp iC.b .nil gA (aX (aj 2 mQ) (oZ (cT iK (dF oK (aj 3 eE) (gJ (aX (aj 5 Hx) au))) (dF jB (aj 7 Bx) aJ)) au)) yd)))))
  (aA (jM (bQ (i:=9) gC.nd rfl EY (cB (YM (J3 (zE aD (dF jB aJ (gF (nC.mono (by omega)) hr kE cF.m cF.F.kp cF.b .nil gA (aX (aj 2 mQ) (cR aJ au)) kI)) Og)) (aX (aj 6 nQ) au)))))
  (aB (jM (Aa PassesOwn.never rfl (Kq qH T.yO (aX (aj 3 eE) au)) (Ij rfl (pU (qN (i:=7) gC.nd rfl Hw) (pU (qN (i:=8) gC.nd rfl yV) DX))) (aA (jM (bQ (i:=10) gC.nd rfl Cu (cB (tX (pR Gf yW T.Om J2 (oZ (cT bZ (aj 9 ye) aJ) au) yX yZ) (tX (pR Gf yW T.Om J2 (aX (aj 6 nQ) au) yX yZ) au)))))
  (aA (jM (bQ (i:=11) gC.nd rfl wW (cB (cR aD (cR aD au)))))
  (aA (jM (eU (fP Oi (aj 4 fO) (bF fQ nD T.tW mV (aX (aj 3 eE) au) nH nJ) (cQ _)) (aA (bQ (i:=12) gC.nd rfl Cv (dF oK (pQ pW (aj 3 eE) (qM (aj 4 fO)) xj) (pQ pW (aj 3 eE) (qM (aj 4 fO)) xj)))
  (aA (bQ (i:=11) gC.nd rfl wW (cB (cR aD (Tg (dF oK (pQ pW (aj 3 eE) (qM (aj 4 fO)) xj) (gJ (oZ (cT iK (aj 3 eE) (aj 4 fO)) au))) au))))
  (aB (eU (fP Ik (aj 7 Bx) (aj 4 fO) (cQ _)) (aA (bQ (i:=13) gC.nd rfl M3 (dF DY (aj 7 Bx) (aj 4 fO)))
  (aB (bQ (i:=11) gC.nd rfl wW (cB (cR aD (Tg (dF oK (pQ pW (aj 12 Cw) (qM (aj 13 Dr)) (qM (dF DY (dF jB (aj 13 Dr) (bF fQ nD T.tW mV (aX (aj 3 eE) au) nH nJ)) (aj 4 fO)))) (gJ (aX (aj 8 u5) au))) au)))))) dD)))) dD))
  (aB (Aa PassesOwn.never rfl (Dg xX T.Kd (cR aJ au)) (qN (i:=14) gC.nd rfl Jt) (aA (jM (bQ (i:=15) gC.nd rfl Hy (gF (Jw.mono (by omega)) hr yF jh.m jh.F.kp jh.b .nil gA (aX (aj 14 Ju) (aX (aj 10 vU) (aX (aj 8 u5) au))) yG)))
  (aA (jM (bQ (i:=16) gC.nd rfl Hz (ab0 (vY (Uk hr.u81) (aj 15 za) (aj 11 Jv) (cQ _)) (zX (zY (vY Ik (aj 4 fO) (bF fQ nD T.tW mV (aX (aj 3 eE) au) nH nJ) (cQ _)) (zX (vY iY (cT bZ (aj 15 za) aJ) aD (cQ _))))))))
  (aB (eU (Oe (V6 (zW (j0 (aj 16 HD))) (Od (fP (Qc hr.u66) (aj 10 vU) (aj 9 ye) (cQ _))))) (aB (cJ Fz)) dD)))))))))))))))))))))
  (aB (cJ Fz))), ?_⟩
 walk_at "vs"
 refine CG (fun i σ' H'=>Wr (∃(t1 t2 t3 t4 t5 t6 t7 t8 t9 t10 t11 t12 t13 t14 t15 t16:Option V),σ'=[some (.ref a),t1,t2,t3,t4,t5,t6,t7,t8,t9,t10,t11,t12,t13,t14,t15,t16]/\aO H H')) ?_ ?_ ?_
 ·exact⟨⟨none,none,none,none,none,none,none,none,none,none,none,none,none,none,none,none,rfl,aO.refl _⟩⟩
 ·rintro i σ' H3 hi ⟨⟨t1,t2,t3,t4,t5,t6,t7,t8,t9,t10,t11,t12,t13,t14,t15,t16,rfl,S3⟩⟩
  have ilt:i<=20:=by omega
  have hS3:=SqL.same S3 hS
  refine⟨fun σ' H'=>Wr (∃(p:Addr),σ'=[some (.ref a),some (.int (0+(i:Int))),some (.ref p),t3,t4,t5,t6,t7,t8,t9,t10,t11,t12,t13,t14,t15,t16]/\(H3 p=none)/\aO H3 H'/\mF H' p 1000), ?_, ?_⟩
  rotate_left
  ·walk_at "vs"
   intro p H4 s4 hp st4
   walk_at "vs"
   exact⟨⟨p,rfl,hp,s4,st4⟩⟩
  rintro σ' G1 ⟨⟨p,rfl,hp3,SX,st⟩⟩
  refine⟨fun σ' H'=>Wr (∃(r0:Addr),σ'=[some (.ref a),some (.int (0+(i:Int))),some (.ref p),some (.ref r0),t4,t5,t6,t7,t8,t9,t10,t11,t12,t13,t14,t15,t16]/\aO H3 H'/\mF H' p 1000/\H' r0=some (.lst [.str "a", .str "b", .str "ring", .str "name", .str "c", .str "d", .str "e", .str "zz", .str "zzz", .str "y", .str "yy", .str "x"])), ?_, ?_⟩
  rotate_left
  ·walk_at "vs"
   intro r0 hr0
   have s_:=aq (.lst [.str "a", .str "b", .str "ring", .str "name", .str "c", .str "d", .str "e", .str "zz", .str "zzz", .str "y", .str "yy", .str "x"]) hr0
   have er0:upd G1 r0 (.lst [.str "a", .str "b", .str "ring", .str "name", .str "c", .str "d", .str "e", .str "zz", .str "zzz", .str "y", .str "yy", .str "x"]) r0=some (.lst [.str "a", .str "b", .str "ring", .str "name", .str "c", .str "d", .str "e", .str "zz", .str "zzz", .str "y", .str "yy", .str "x"]):=ak
   replace st:=st.same s_
   replace SX:=SX.trans s_
   generalize upd G1 r0 (.lst [.str "a", .str "b", .str "ring", .str "name", .str "c", .str "d", .str "e", .str "zz", .str "zzz", .str "y", .str "yy", .str "x"])=agB at *
   clear s_
   walk_at "vs"
   exact⟨⟨r0,rfl,SX,st,er0⟩⟩
  clear SX st
  rintro σ' G2 ⟨⟨r0,rfl,SX,st,er0⟩⟩
  refine⟨fun σ' H'=>Wr (∃(n:Nat) (rl:Addr),σ'=[some (.ref a),some (.int (0+(i:Int))),some (.ref p),some (.ref rl),t4,t5,t6,t7,t8,t9,t10,t11,t12,t13,t14,t15,t16]/\(1<=n)/\(n<=12)/\aO H3 H'/\mF H' p 1001/\H' rl=some (.lst ((az.take n).map V.str))), ?_, ?_⟩
  rotate_left
  ·walk_at "vs"
   intro n1 Wu n10 n11 b_ st_
   replace er0:=b_ _ _ (st.off er0 (by simp)) er0
   replace SX:=iM SX (fun z hz=>by rw[show z=p by simpa using hz];exact hp3) b_
   replace st:=st_
   clear b_
   walk_at "vs"
   obtain⟨n,en⟩:∃n:Nat,1+n1=(n:Int):=⟨(1+n1).toNat,by omega⟩
   have hn1:1<=n:=by omega
   have Fb:n<=12:=by omega
   rw[en,show tM [V.str "a", .str "b", .str "ring", .str "name", .str "c", .str "d", .str "e", .str "zz", .str "zzz", .str "y", .str "yy", .str "x"] none (some (n:Int))=(az.take n).map V.str by rw[Y5,List.map_take];rfl]
   intro rl hrl
   have s_:=aq (.lst ((az.take n).map V.str)) hrl
   have erl:upd Wu rl (.lst ((az.take n).map V.str)) rl=some (.lst ((az.take n).map V.str)):=ak
   replace er0:=s_ _ _ er0
   replace st:=st.same s_
   replace SX:=SX.trans s_
   generalize upd Wu rl (.lst ((az.take n).map V.str))=agC at *
   clear s_
   walk_at "vs"
   exact⟨⟨n,rl,rfl,hn1,Fb,SX,st,erl⟩⟩
  clear SX st er0
  rintro σ' G3 ⟨⟨n,rl,rfl,hn1,Fb,SX,st,erl⟩⟩
  have hrl:(az.take n).length=n:=by rw[List.length_take];show min n 12=n;omega
  have hrlm:((az.take n).map V.str).length=n:=by rw[List.length_map,hrl]
  have hlg:(((((az.take n).map V.str).length:Nat):Int)+2).natAbs.log2<9000:=by
   rw[hrlm]
   have:n=1\/n=2\/n=3\/n=4\/n=5\/n=6\/n=7\/n=8\/n=9\/n=10\/n=11\/n=12:=by omega
   rcases this with rfl | rfl | rfl | rfl | rfl | rfl | rfl | rfl | rfl | rfl | rfl | rfl<;>decide +kernel
  have hl0:(0:Int)<((((az.take n).map V.str).length:Nat):Int)+2:=by rw[hrlm];omega
  refine⟨fun σ' H'=>Wr (∃(b:Nat),σ'=[some (.ref a),some (.int (0+(i:Int))),some (.ref p),some (.ref rl),some (.int (b:Int)),t5,t6,t7,t8,t9,t10,t11,t12,t13,t14,t15,t16]/\(b<n+2)/\aO H3 H'/\H' rl=some (.lst ((az.take n).map V.str))/\mF H' p 1002), ?_, ?_⟩
  rotate_left
  ·walk_at "vs"
   intro bk agD bk0 bk1 b_ st_
   replace erl:=b_ _ _ (st.off erl (by simp)) erl
   replace SX:=iM SX (fun z hz=>by rw[show z=p by simpa using hz];exact hp3) b_
   replace st:=st_
   clear b_
   walk_at "vs"
   rw[hrlm] at bk1
   obtain⟨b,rfl⟩:=Int.eq_ofNat_of_zero_le bk0
   exact⟨⟨b,rfl,by omega,SX,erl,st⟩⟩
  clear SX st erl
  rintro σ' G4 ⟨⟨b,rfl,hb,SX,erl,st⟩⟩
  obtain⟨la,hla⟩:∃la,(az.take n++(["nix","one"]:List Str))[b]? =some la:=by
   have:b<(az.take n++(["nix","one"]:List Str)).length:=by rw[List.length_append,hrl];exact hb
   exact⟨_,List.getElem?_eq_getElem this⟩
  have agS:atI ((az.take n).map V.str++[.str "nix", .str "one"]) (b:Int)=some (.str la):=by
   refine jJ ?_
   rw[show(az.take n).map V.str++[V.str "nix", .str "one"]=(az.take n++(["nix","one"]:List Str)).map V.str by rw[List.map_append];rfl,List.getElem?_map,hla];rfl
  have hc2:((az.take n).map V.str).length+[V.str "nix",V.str "one"].length<=sizeLine:=Nat.le_of_lt (cC (by rw[hrlm];show _+2<=1000;omega))
  refine⟨fun σ' H'=>Wr (σ'=[some (.ref a),some (.int (0+(i:Int))),some (.ref p),some (.ref rl),some (.int (b:Int)),some (.str la),t6,t7,t8,t9,t10,t11,t12,t13,t14,t15,t16]/\aO H3 H'/\H' rl=some (.lst ((az.take n).map V.str))/\mF H' p 1002), ?_, ?_⟩
  rotate_left
  ·walk_at "vs"
   intro l1 hl1
   have s_:=aq (.lst [.str "nix", .str "one"]) hl1
   have el1:upd G4 l1 (.lst [.str "nix", .str "one"]) l1=some (.lst [.str "nix", .str "one"]):=ak
   replace erl:=s_ _ _ erl
   replace st:=st.same s_
   replace SX:=SX.trans s_
   generalize upd G4 l1 (.lst [.str "nix", .str "one"])=Wv at *
   clear s_
   walk_at "vs"
   intro l2 hl2
   have s_:=aq (.lst ((az.take n).map V.str++[.str "nix", .str "one"])) hl2
   have el2:upd Wv l2 (.lst ((az.take n).map V.str++[.str "nix", .str "one"])) l2=some (.lst ((az.take n).map V.str++[.str "nix", .str "one"])):=ak
   replace erl:=s_ _ _ erl
   replace el1:=s_ _ _ el1
   replace st:=st.same s_
   replace SX:=SX.trans s_
   generalize upd Wv l2 (.lst ((az.take n).map V.str++[.str "nix", .str "one"]))=agE at *
   clear s_
   walk_at "vs"
   exact⟨⟨rfl,SX,erl,st⟩⟩
  clear SX erl st
  rintro σ' G5 ⟨⟨rfl,SX,erl,st⟩⟩
  have SX0:=SX
  refine⟨fun σ' H'=>Wr (∃(rd:Addr),σ'=[some (.ref a),some (.int (0+(i:Int))),some (.ref p),some (.ref rl),some (.int (b:Int)),some (.str la),some (.ref rd),t7,t8,t9,t10,t11,t12,t13,t14,t15,t16]/\(rd≠p)/\(H3 rd=none)/\aO H3 H'/\H' rl=some (.lst ((az.take n).map V.str))/\mF H' p 1002/\Rcs H' rd [] (fun _=>none)), ?_, ?_⟩
  rotate_left
  ·walk_at "vs"
   intro rd hrd
   have s_:=aq (.dK []) hrd
   have er:upd G5 rd (.dK []) rd=some (.dK []):=ak
   replace erl:=s_ _ _ erl
   replace st:=st.same s_
   replace SX:=SX.trans s_
   generalize upd G5 rd (.dK [])=acH at *
   clear s_
   have By:rd≠p:=fun z=>by
    obtain⟨_,_,_,e,_⟩:=st
    rw[<-z,er] at e;cases e
   have ZD:H3 rd=none:=same_none SX0 hrd
   walk_at "vs"
   have rcs:Rcs acH rd [] (fun _=>none):=⟨[],er,⟨rfl,by simp⟩,fun _ _ h=>(by simp at h),fun _ _=>rfl⟩
   exact⟨⟨rd,rfl,By,ZD,SX,erl,st,rcs⟩⟩
  clear SX erl st
  rintro σ' G6 ⟨⟨rd,rfl,By,ZD,SX,erl,st,rcs⟩⟩
  refine⟨fun σ' H'=>Wr (∃(t7 t8:Option V) (rc:Rn),σ'=[some (.ref a),some (.int (0+(i:Int))),some (.ref p),some (.ref rl),some (.int (b:Int)),some (.str la),some (.ref rd),t7,t8,t9,t10,t11,t12,t13,t14,t15,t16]/\(H12 (az.take n) la rc)/\aO H3 H'/\H' rl=some (.lst ((az.take n).map V.str))/\mF H' p 1020/\Rcs H' rd (az.take n) rc), ?_, ?_⟩
  rotate_left
  ·walk_at "vs"
   refine Gh (xs:=(az.take n).map V.str) (fun j σ' H'=>Wr (∃(t7 t8:Option V) (rc:Rn),σ'=[some (.ref a),some (.int (0+(i:Int))),some (.ref p),some (.ref rl),some (.int (b:Int)),some (.str la),some (.ref rd),t7,t8,t9,t10,t11,t12,t13,t14,t15,t16]/\P12 (az.take n) la rc j/\aO H3 H'/\mF H' p (1002+j)/\H' rl=some (.lst ((az.take n).map V.str))/\Rcs H' rd ((az.take n).take j) rc)) ?_ ?_ ?_ ?_
   ·exact⟨⟨_,_,_,rfl,P12.zero,SX,st,erl,by simpa using rcs⟩⟩
   ·rintro j σ' H' _ ⟨⟨_,_,_,_,_,_,_,e,_⟩⟩
    exact SqL.of e
   ·clear SX st rcs erl
    rintro j v T σ' Z hv hT ⟨⟨t7,t8,rc,rfl,hP,SX,st,erl,rcs⟩⟩
    obtain⟨x,hxj,rfl⟩:∃x,(az.take n)[j]? =some x/\v=V.str x:=by
     rw[List.getElem?_map] at hv
     cases e:(az.take n)[j]? with
     | none=>rw[e] at hv;cases hv
     | some x=>rw[e] at hv;exact⟨x,rfl,(Option.some.inj hv).symm⟩
    have hj:j<n:=by rw[<-hrl];exact(List.getElem?_eq_some_iff.mp hxj).1
    have hnx:atI ((az.take n).map V.str++[.str la]) ((j:Int)+1)=some (.str (wj (az.take n) la j)):=by
     have:=jJ (xs:=(az.take n).map V.str++[.str la]) (j:=j+1) (v:= .str (wj (az.take n) la j)) (by
      rw[show(az.take n).map V.str++[.str la]=(az.take n++[la]).map V.str by rw[List.map_append];rfl,List.getElem?_map]
      unfold wj
      have hlt:j+1<(az.take n++[la]).length:=by rw[List.length_append,hrl];show _<_+1;omega
      rw[List.getElem?_eq_getElem hlt];rfl)
     exact this
    have hcat:((az.take n).map V.str).length+[V.str la].length<=sizeLine:=Nat.le_of_lt (cC (by rw[hrlm];show _+1<=1000;omega))
    have s_:=aq (.tup [.int (j:Int), .str x]) hT
    have eT:upd Z T (.tup [.int (j:Int), .str x]) T=some (.tup [.int (j:Int), .str x]):=ak
    replace erl:=s_ _ _ erl
    replace rcs:=rcs.same s_
    replace st:=st.same s_
    replace SX:=SX.trans s_
    generalize upd Z T (.tup [.int (j:Int), .str x])=Z1 at *
    clear s_
    walk_at "vs"
    intro c1 hc1
    have s_:=aq (.lst [.str la]) hc1
    have ec1:upd Z1 c1 (.lst [.str la]) c1=some (.lst [.str la]):=ak
    replace erl:=s_ _ _ erl
    replace rcs:=rcs.same s_
    replace eT:=s_ _ _ eT
    replace st:=st.same s_
    replace SX:=SX.trans s_
    generalize upd Z1 c1 (.lst [.str la])=Ww at *
    clear s_
    walk_at "vs"
    intro c2 hc2
    have s_:=aq (.lst ((az.take n).map V.str++[.str la])) hc2
    have ec2:upd Ww c2 (.lst ((az.take n).map V.str++[.str la])) c2=some (.lst ((az.take n).map V.str++[.str la])):=ak
    replace erl:=s_ _ _ erl
    replace rcs:=rcs.same s_
    replace eT:=s_ _ _ eT
    replace ec1:=s_ _ _ ec1
    replace st:=st.same s_
    replace SX:=SX.trans s_
    generalize upd Ww c2 (.lst ((az.take n).map V.str++[.str la]))=agF at *
    clear s_
    walk_at "vs"
    intro b1 k1 Z2 b_ st_ isr
    replace erl:=b_ _ _ (st.off erl (by simp)) erl
    replace rcs:=rcs.keep b_ (by simpa using By) (st.tups b_)
    replace SX:=iM SX (fun z hz=>by rw[show z=p by simpa using hz];exact hp3) b_
    replace eT:=b_ _ _ (st.off eT (by simp)) eT
    replace st:=st_
    clear b_ st_ ec1 ec2
    have hlt:((az.take n).take j).length<=100:=by rw[List.length_take];omega
    have hxn:x∉(az.take n).take j:=Uc (Bg.sublist (List.take_sublist _ _)) hxj (Nat.le_refl _)
    obtain⟨agG,dp_,b_,t_,acI⟩:=rcs.put (x:=x) (r:=(jD k1 (wj (az.take n) la j))) (b:=b1) hlt hxn isr
    walk_at "vs"
    replace erl:=b_ _ _ (rcs.off erl (by simp)) erl
    replace st:=st.keep b_ (by simpa using Ne.symm By)
    replace SX:=iM SX (fun z hz=>by rw[show z=rd by simpa using hz];exact ZD) b_
    replace rcs:=acI
    clear b_ t_ dp_
    exact⟨⟨_,_,_,rfl,hP.step (Bg.sublist (List.take_sublist _ _)) hxj,SX,st,erl,by rw[List.take_add_one,hxj];exact rcs⟩⟩
   ·clear SX st rcs erl
    rintro σ' Y ⟨⟨t7,t8,rc,rfl,hP,SX,st,erl,rcs⟩⟩
    rw[hrlm] at hP st rcs
    rw[List.take_of_length_le (by rw[hrl];exact Nat.le_refl _)] at rcs
    exact⟨⟨_,_,_,rfl,P12.full (by rw[hrl];exact hP),SX,erl,(let ⟨r,m,k,e,h1,h2⟩:=st;⟨r,m,k,e,h1,by omega⟩:mF Y p 1020),rcs⟩⟩
  clear SX erl st rcs
  rintro σ' G7 ⟨⟨t7,t8,rc,rfl,h12,SX,erl,st,rcs⟩⟩
  refine⟨fun σ' H'=>Wr (∃(gd hh:Addr) (o:Int),σ'=[some (.ref a),some (.int (0+(i:Int))),some (.ref p),some (.ref rl),some (.int (b:Int)),some (.str la),some (.ref rd),t7,t8,some (.ref hh),t10,t11,t12,t13,t14,t15,t16]/\aO H3 H'/\H' rl=some (.lst ((az.take n).map V.str))/\Rcs H' rd (az.take n) rc/\H' gd=some (.dK [(.inr "one", .int o)])/\H' hh=some (.tup [.ref gd, .ref rd])), ?_, ?_⟩
  rotate_left
  ·walk_at "vs"
   intro gd hgd
   have SX0:=SX
   have afU:H3 gd=none:=same_none SX hgd
   have npg:gd≠p:=fun z=>by
    obtain⟨_,_,_,e,_⟩:=st
    rw[<-z,hgd] at e;cases e
   have nrg:gd≠rd:=fun z=>by
    obtain⟨_,e,_⟩:=rcs
    rw[<-z,hgd] at e;cases e
   have s_:=aq (.dK []) hgd
   have eg:upd G7 gd (.dK []) gd=some (.dK []):=ak
   replace erl:=s_ _ _ erl
   replace rcs:=rcs.same s_
   replace st:=st.same s_
   replace SX:=SX.trans s_
   generalize upd G7 gd (.dK [])=Z at *
   have acJ:=npg
   walk_at "vs"
   intro n0 Ds n00 n01 b_ st_
   replace erl:=b_ _ _ (st.off erl (by simp)) erl
   replace rcs:=rcs.keep b_ (by simpa using By) (st.tups b_)
   replace eg:=b_ _ _ (by simpa using acJ) eg
   replace SX:=iM SX (fun z hz=>by rw[show z=p by simpa using hz];exact hp3) b_
   replace st:=st_
   clear b_
   walk_at "vs"
   refine⟨[(.inr "one", .int (1+n0))],rfl,by show 1<=15;decide, ?_⟩
   rw[show vW [] ([(.inr "one", .int (1+n0))]:List (Key×V))=[(.inr "one", .int (1+n0))] from rfl]
   have bg:But [gd] Ds (upd Ds gd (.dK [(.inr "one", .int (1+n0))])):=But.set _ (by simp)
   have tg:jU Ds (upd Ds gd (.dK [(.inr "one", .int (1+n0))])):=fun a_ xs_ ez=>bg _ _ (fun w=>by rw[show a_=gd by simpa using w,eg] at ez;cases ez) ez
   have eg2:upd Ds gd (.dK [(.inr "one", .int (1+n0))]) gd=some (.dK [(.inr "one", .int (1+n0))]):=ak
   have SX2:=vm (.dK [(.inr "one", .int (1+n0))]) afU SX
   replace erl:=bg _ _ (fun w=>by rw[show rl=gd by simpa using w,eg] at erl;cases erl) erl
   replace rcs:=rcs.keep bg (by simpa using Ne.symm nrg) tg
   replace SX:=SX2
   replace eg:=eg2
   clear eg2 bg tg st SX2
   generalize upd Ds gd (.dK [(.inr "one", .int (1+n0))])=Z3 at *
   walk_at "vs"
   intro hh hhh
   have s_:=aq (.tup [.ref gd, .ref rd]) hhh
   have eh:upd Z3 hh (.tup [.ref gd, .ref rd]) hh=some (.tup [.ref gd, .ref rd]):=ak
   replace erl:=s_ _ _ erl
   replace rcs:=rcs.same s_
   replace eg:=s_ _ _ eg
   replace SX:=SX.trans s_
   generalize upd Z3 hh (.tup [.ref gd, .ref rd])=agH at *
   clear s_
   walk_at "vs"
   exact⟨⟨gd,hh,1+n0,rfl,SX,erl,rcs,eg,eh⟩⟩
  clear SX erl st rcs
  rintro σ' G8 ⟨⟨gd,hh,o,rfl,SX,erl,rcs,eg,eh⟩⟩
  refine⟨fun σ' H'=>Wr (∃(t7 t8 t10 t11 t12 t13 t14 t15 t16:Option V),σ'=[some (.ref a),some (.int (0+(i:Int))),some (.ref p),some (.ref rl),some (.int (b:Int)),some (.str la),some (.ref rd),t7,t8,some (.ref hh),t10,t11,t12,t13,t14,t15,t16]/\aO H3 H'), ?_, ?_⟩
  rotate_left
  ·walk_at "vs"
   refine Gh (xs:=(az.take n).map V.str) (fun j σ' H'=>Wr (∃(t7 t8 t10 t11 t12 t13 t14 t15 t16:Option V),σ'=[some (.ref a),some (.int (0+(i:Int))),some (.ref p),some (.ref rl),some (.int (b:Int)),some (.str la),some (.ref rd),t7,t8,some (.ref hh),t10,t11,t12,t13,t14,t15,t16]/\aO G8 H')) ?_ ?_ ?_ ?_
   ·exact⟨⟨_,_,_,_,_,_,_,_,_,rfl,aO.refl _⟩⟩
   ·rintro j σ' H' _ ⟨⟨_,_,_,_,_,_,_,_,_,_,S⟩⟩
    exact SqL.of (S _ _ erl)
   ·rintro j v T σ' Z hv hT ⟨⟨t7,t8,t10,t11,t12,t13,t14,t15,t16,rfl,SG⟩⟩
    replace erl:=SG _ _ erl
    replace rcs:=rcs.same SG
    replace eg:=SG _ _ eg
    replace eh:=SG _ _ eh
    clear SX
    have SX:=SG
    clear SG
    obtain⟨x,hxj,rfl⟩:∃x,(az.take n)[j]? =some x/\v=V.str x:=by
     rw[List.getElem?_map] at hv
     cases e:(az.take n)[j]? with
     | none=>rw[e] at hv;cases hv
     | some x=>rw[e] at hv;exact⟨x,rfl,(Option.some.inj hv).symm⟩
    have hj:j<n:=by rw[<-hrl];exact(List.getElem?_eq_some_iff.mp hxj).1
    have s_:=aq (.tup [.int (j:Int), .str x]) hT
    have eT:upd Z T (.tup [.int (j:Int), .str x]) T=some (.tup [.int (j:Int), .str x]):=ak
    replace erl:=s_ _ _ erl
    replace rcs:=rcs.same s_
    replace eg:=s_ _ _ eg
    replace eh:=s_ _ _ eh
    replace SX:=SX.trans s_
    generalize upd Z T (.tup [.int (j:Int), .str x])=Z1 at *
    clear s_
    obtain⟨kc,erd,_⟩:=id rcs
    walk_at "vs"
    clear eT
    refine⟨fun σ' H'=>Wr (∃(gd2 rd2 hd:Addr),σ'=[some (.ref a),some (.int (0+(i:Int))),some (.ref p),some (.ref rl),some (.int (b:Int)),some (.str la),some (.ref rd),some (.int (j:Int)),some (.str x),some (.ref hh),some (.ref hd),t11,t12,t13,t14,t15,t16]/\aO G8 H'/\H' rl=some (.lst ((az.take n).map V.str))/\Rcs H' rd (az.take n) rc/\H' gd=some (.dK [(.inr "one", .int o)])/\H' hh=some (.tup [.ref gd, .ref rd])/\H' rd=some (.dK kc)/\H' gd2=some (.dK [(.inr "one", .int o)])/\H' rd2=some (.dK kc)/\H' hd=some (.tup [.ref gd2, .ref rd2])), ?_, ?_⟩
    rotate_left
    ·walk_at "vs"
     intro gd2 afV
     have s_:=aq (.dK [(.inr "one", .int o)]) afV
     have eg2:upd Z1 gd2 (.dK [(.inr "one", .int o)]) gd2=some (.dK [(.inr "one", .int o)]):=ak
     replace erl:=s_ _ _ erl
     replace rcs:=rcs.same s_
     replace eg:=s_ _ _ eg
     replace eh:=s_ _ _ eh
     replace erd:=s_ _ _ erd
     replace SX:=SX.trans s_
     generalize upd Z1 gd2 (.dK [(.inr "one", .int o)])=Qt at *
     clear s_
     walk_at "vs"
     intro rd2 afW
     have s_:=aq (.dK kc) afW
     have er2:upd Qt rd2 (.dK kc) rd2=some (.dK kc):=ak
     replace erl:=s_ _ _ erl
     replace rcs:=rcs.same s_
     replace eg:=s_ _ _ eg
     replace eh:=s_ _ _ eh
     replace erd:=s_ _ _ erd
     replace eg2:=s_ _ _ eg2
     replace SX:=SX.trans s_
     generalize upd Qt rd2 (.dK kc)=Qu at *
     clear s_
     walk_at "vs"
     intro hd hhd
     have s_:=aq (.tup [.ref gd2, .ref rd2]) hhd
     have ehd:upd Qu hd (.tup [.ref gd2, .ref rd2]) hd=some (.tup [.ref gd2, .ref rd2]):=ak
     replace erl:=s_ _ _ erl
     replace rcs:=rcs.same s_
     replace eg:=s_ _ _ eg
     replace eh:=s_ _ _ eh
     replace erd:=s_ _ _ erd
     replace eg2:=s_ _ _ eg2
     replace er2:=s_ _ _ er2
     replace SX:=SX.trans s_
     generalize upd Qu hd (.tup [.ref gd2, .ref rd2])=afX at *
     clear s_
     walk_at "vs"
     exact⟨⟨gd2,rd2,hd,rfl,SX,erl,rcs,eg,eh,erd,eg2,er2,ehd⟩⟩
    clear SX erl rcs eg eh erd
    rintro σ' G21 ⟨⟨gd2,rd2,hd,rfl,SX,erl,rcs,eg,eh,erd,eg2,er2,ehd⟩⟩
    refine⟨fun σ' H'=>Wr (∃(d0:Addr),σ'=[some (.ref a),some (.int (0+(i:Int))),some (.ref p),some (.ref rl),some (.int (b:Int)),some (.str la),some (.ref rd),some (.int (j:Int)),some (.str x),some (.ref hh),some (.ref hd),some (.ref d0),t12,t13,t14,t15,t16]/\aO G8 H'/\H' rl=some (.lst ((az.take n).map V.str))/\Rcs H' rd (az.take n) rc/\H' gd=some (.dK [(.inr "one", .int o)])/\H' hh=some (.tup [.ref gd, .ref rd])/\H' rd=some (.dK kc)/\H' gd2=some (.dK [(.inr "one", .int o)])/\H' rd2=some (.dK kc)/\H' hd=some (.tup [.ref gd2, .ref rd2])/\H' d0=some (.tup [.str "none", .str "nix"])), ?_, ?_⟩
    rotate_left
    ·walk_at "vs"
     intro d0 hd0
     have s_:=aq (.tup [.str "none", .str "nix"]) hd0
     have ed0:upd G21 d0 (.tup [.str "none", .str "nix"]) d0=some (.tup [.str "none", .str "nix"]):=ak
     replace erl:=s_ _ _ erl
     replace rcs:=rcs.same s_
     replace eg:=s_ _ _ eg
     replace eh:=s_ _ _ eh
     replace erd:=s_ _ _ erd
     replace eg2:=s_ _ _ eg2
     replace er2:=s_ _ _ er2
     replace ehd:=s_ _ _ ehd
     replace SX:=SX.trans s_
     generalize upd G21 d0 (.tup [.str "none", .str "nix"])=afY at *
     clear s_
     walk_at "vs"
     exact⟨⟨d0,rfl,SX,erl,rcs,eg,eh,erd,eg2,er2,ehd,ed0⟩⟩
    clear SX erl rcs eg eh erd eg2 er2 ehd
    rintro σ' G22 ⟨⟨d0,rfl,SX,erl,rcs,eg,eh,erd,eg2,er2,ehd,ed0⟩⟩
    have hay:b<n->atI ((az.take n).map V.str) (b:Int)=some (.str la):=fun h=>jJ (by rw[List.getElem?_map,Qi Fb hla h];rfl)
    have hcd:(((az.take n).drop b).map V.str).length+(((az.take n).drop b).map V.str).length<=sizeLine:=Nat.le_of_lt (cC (by rw[List.length_map,List.length_drop,hrl];omega))
    have hc1:(((az.take n).drop b).map V.str).length+[V.str la].length<=sizeLine:=Nat.le_of_lt (cC (by rw[List.length_map,List.length_drop,hrl];show _+1<=1000;omega))
    refine⟨fun σ' H'=>Wr (∃(dd:Addr) (t12 t13:Option V),σ'=[some (.ref a),some (.int (0+(i:Int))),some (.ref p),some (.ref rl),some (.int (b:Int)),some (.str la),some (.ref rd),some (.int (j:Int)),some (.str x),some (.ref hh),some (.ref hd),some (.ref dd),t12,t13,t14,t15,t16]/\aO G8 H'/\H' rl=some (.lst ((az.take n).map V.str))/\Rcs H' rd (az.take n) rc/\H' gd=some (.dK [(.inr "one", .int o)])/\H' hh=some (.tup [.ref gd, .ref rd])/\H' rd=some (.dK kc)/\H' gd2=some (.dK [(.inr "one", .int o)])/\H' rd2=some (.dK kc)/\H' hd=some (.tup [.ref gd2, .ref rd2])/\ErT (um n b j x) dd H'), ?_, ?_⟩
    rotate_left
    ·by_cases hbn:b<n
     ·have hayb:=hay hbn
      walk_at "vs"
      rw[show decide ((b:Int)<((((az.take n).map V.str).length:Nat):Int))=true from decide_eq_true (by rw[hrlm];omega)]
      walk_at "vs"
      rw[show tM ((az.take n).map V.str) (some (b:Int)) none=((az.take n).drop b).map V.str by rw[pX,List.map_drop]]
      intro q1 hq1
      have s_:=aq (.lst (((az.take n).drop b).map V.str)) hq1
      have eq1:upd G22 q1 (.lst (((az.take n).drop b).map V.str)) q1=some (.lst (((az.take n).drop b).map V.str)):=ak
      replace erl:=s_ _ _ erl
      replace rcs:=rcs.same s_
      replace eg:=s_ _ _ eg
      replace eh:=s_ _ _ eh
      replace erd:=s_ _ _ erd
      replace eg2:=s_ _ _ eg2
      replace er2:=s_ _ _ er2
      replace ehd:=s_ _ _ ehd
      replace ed0:=s_ _ _ ed0
      replace SX:=SX.trans s_
      generalize upd G22 q1 (.lst (((az.take n).drop b).map V.str))=Qv at *
      clear s_
      walk_at "vs"
      rw[show tM ((az.take n).map V.str) (some (b:Int)) none=((az.take n).drop b).map V.str by rw[pX,List.map_drop]]
      intro q2 hq2
      have s_:=aq (.lst (((az.take n).drop b).map V.str)) hq2
      have eq2:upd Qv q2 (.lst (((az.take n).drop b).map V.str)) q2=some (.lst (((az.take n).drop b).map V.str)):=ak
      replace erl:=s_ _ _ erl
      replace rcs:=rcs.same s_
      replace eg:=s_ _ _ eg
      replace eh:=s_ _ _ eh
      replace erd:=s_ _ _ erd
      replace eg2:=s_ _ _ eg2
      replace er2:=s_ _ _ er2
      replace ehd:=s_ _ _ ehd
      replace ed0:=s_ _ _ ed0
      replace eq1:=s_ _ _ eq1
      replace SX:=SX.trans s_
      generalize upd Qv q2 (.lst (((az.take n).drop b).map V.str))=Qw at *
      clear s_
      walk_at "vs"
      rw[show((az.take n).drop b).map V.str++((az.take n).drop b).map V.str=(((az.take n).drop b)++((az.take n).drop b)).map V.str by rw[List.map_append]]
      intro q3 hq3
      have s_:=aq (.lst ((((az.take n).drop b)++((az.take n).drop b)).map V.str)) hq3
      have eq3:upd Qw q3 (.lst ((((az.take n).drop b)++((az.take n).drop b)).map V.str)) q3=some (.lst ((((az.take n).drop b)++((az.take n).drop b)).map V.str)):=ak
      replace erl:=s_ _ _ erl
      replace rcs:=rcs.same s_
      replace eg:=s_ _ _ eg
      replace eh:=s_ _ _ eh
      replace erd:=s_ _ _ erd
      replace eg2:=s_ _ _ eg2
      replace er2:=s_ _ _ er2
      replace ehd:=s_ _ _ ehd
      replace ed0:=s_ _ _ ed0
      replace eq1:=s_ _ _ eq1
      replace eq2:=s_ _ _ eq2
      replace SX:=SX.trans s_
      generalize upd Qw q3 (.lst ((((az.take n).drop b)++((az.take n).drop b)).map V.str))=Qx at *
      clear s_
      walk_at "vs"
      rw[show tM ((az.take n).map V.str) (some (b:Int)) none=((az.take n).drop b).map V.str by rw[pX,List.map_drop]]
      intro q4 hq4
      have s_:=aq (.lst (((az.take n).drop b).map V.str)) hq4
      have eq4:upd Qx q4 (.lst (((az.take n).drop b).map V.str)) q4=some (.lst (((az.take n).drop b).map V.str)):=ak
      replace erl:=s_ _ _ erl
      replace rcs:=rcs.same s_
      replace eg:=s_ _ _ eg
      replace eh:=s_ _ _ eh
      replace erd:=s_ _ _ erd
      replace eg2:=s_ _ _ eg2
      replace er2:=s_ _ _ er2
      replace ehd:=s_ _ _ ehd
      replace ed0:=s_ _ _ ed0
      replace eq1:=s_ _ _ eq1
      replace eq2:=s_ _ _ eq2
      replace eq3:=s_ _ _ eq3
      replace SX:=SX.trans s_
      generalize upd Qx q4 (.lst (((az.take n).drop b).map V.str))=Qy at *
      clear s_
      walk_at "vs"
      intro q5 hq5
      have s_:=aq (.lst [.str la]) hq5
      have eq5:upd Qy q5 (.lst [.str la]) q5=some (.lst [.str la]):=ak
      replace erl:=s_ _ _ erl
      replace rcs:=rcs.same s_
      replace eg:=s_ _ _ eg
      replace eh:=s_ _ _ eh
      replace erd:=s_ _ _ erd
      replace eg2:=s_ _ _ eg2
      replace er2:=s_ _ _ er2
      replace ehd:=s_ _ _ ehd
      replace ed0:=s_ _ _ ed0
      replace eq1:=s_ _ _ eq1
      replace eq2:=s_ _ _ eq2
      replace eq3:=s_ _ _ eq3
      replace eq4:=s_ _ _ eq4
      replace SX:=SX.trans s_
      generalize upd Qy q5 (.lst [.str la])=Qz at *
      clear s_
      walk_at "vs"
      rw[show((az.take n).drop b).map V.str++[V.str la]=(((az.take n).drop b)++[la]).map V.str by rw[List.map_append];rfl]
      intro q6 hq6
      have s_:=aq (.lst ((((az.take n).drop b)++[la]).map V.str)) hq6
      have eq6:upd Qz q6 (.lst ((((az.take n).drop b)++[la]).map V.str)) q6=some (.lst ((((az.take n).drop b)++[la]).map V.str)):=ak
      replace erl:=s_ _ _ erl
      replace rcs:=rcs.same s_
      replace eg:=s_ _ _ eg
      replace eh:=s_ _ _ eh
      replace erd:=s_ _ _ erd
      replace eg2:=s_ _ _ eg2
      replace er2:=s_ _ _ er2
      replace ehd:=s_ _ _ ehd
      replace ed0:=s_ _ _ ed0
      replace eq1:=s_ _ _ eq1
      replace eq2:=s_ _ _ eq2
      replace eq3:=s_ _ _ eq3
      replace eq4:=s_ _ _ eq4
      replace eq5:=s_ _ _ eq5
      replace SX:=SX.trans s_
      generalize upd Qz q6 (.lst ((((az.take n).drop b)++[la]).map V.str))=QB at *
      clear s_
      walk_at "vs"
      intro d1 hd1
      have s_:=aq (.tup [.str "ring", .ref q6]) hd1
      have ed1:upd QB d1 (.tup [.str "ring", .ref q6]) d1=some (.tup [.str "ring", .ref q6]):=ak
      replace erl:=s_ _ _ erl
      replace rcs:=rcs.same s_
      replace eg:=s_ _ _ eg
      replace eh:=s_ _ _ eh
      replace erd:=s_ _ _ erd
      replace eg2:=s_ _ _ eg2
      replace er2:=s_ _ _ er2
      replace ehd:=s_ _ _ ehd
      replace ed0:=s_ _ _ ed0
      replace eq1:=s_ _ _ eq1
      replace eq2:=s_ _ _ eq2
      replace eq3:=s_ _ _ eq3
      replace eq4:=s_ _ _ eq4
      replace eq5:=s_ _ _ eq5
      replace eq6:=s_ _ _ eq6
      replace SX:=SX.trans s_
      generalize upd QB d1 (.tup [.str "ring", .ref q6])=Jx at *
      clear s_
      walk_at "vs"
      by_cases hjb:j<=b
      ·rw[show decide ((b:Int)<(j:Int))=false from decide_eq_false (by omega)]
       walk_at "vs"
       have edd:ErT (um n b j x) d1 Jx:=by
        unfold um Bf
        rw[if_pos hbn,if_pos hjb,Qi Fb hla hbn]
        exact⟨q6,ed1,eq6⟩
       exact⟨⟨d1,_,_,rfl,SX,erl,rcs,eg,eh,erd,eg2,er2,ehd,edd⟩⟩
      ·rw[show decide ((b:Int)<(j:Int))=true from decide_eq_true (by omega)]
       walk_at "vs"
       rw[show tM ((((az.take n).drop b)++((az.take n).drop b)).map V.str) (some ((j:Int) - (b:Int))) (some ((j:Int) - (b:Int)+((((az.take n).map V.str).length:Nat):Int) - (b:Int)))=(((((az.take n).drop b)++((az.take n).drop b)).drop (j - b)).take ((az.take n).length - b)).map V.str by
        rw[show(j:Int) - (b:Int)=((j - b:Nat):Int) by omega,Ui (b:=(az.take n).length - b) (by rw[hrlm,hrl];omega) (by rw[List.length_map,List.length_append,List.length_drop,hrl];omega),<-List.map_drop,<-List.map_take]]
       intro q7 hq7
       have s_:=aq (.lst ((((((az.take n).drop b)++((az.take n).drop b)).drop (j - b)).take ((az.take n).length - b)).map V.str)) hq7
       have eq7:upd Jx q7 (.lst ((((((az.take n).drop b)++((az.take n).drop b)).drop (j - b)).take ((az.take n).length - b)).map V.str)) q7=some (.lst ((((((az.take n).drop b)++((az.take n).drop b)).drop (j - b)).take ((az.take n).length - b)).map V.str)):=ak
       replace erl:=s_ _ _ erl
       replace rcs:=rcs.same s_
       replace eg:=s_ _ _ eg
       replace eh:=s_ _ _ eh
       replace erd:=s_ _ _ erd
       replace eg2:=s_ _ _ eg2
       replace er2:=s_ _ _ er2
       replace ehd:=s_ _ _ ehd
       replace ed0:=s_ _ _ ed0
       replace eq1:=s_ _ _ eq1
       replace eq2:=s_ _ _ eq2
       replace eq3:=s_ _ _ eq3
       replace eq4:=s_ _ _ eq4
       replace eq5:=s_ _ _ eq5
       replace eq6:=s_ _ _ eq6
       replace ed1:=s_ _ _ ed1
       replace SX:=SX.trans s_
       generalize upd Jx q7 (.lst ((((((az.take n).drop b)++((az.take n).drop b)).drop (j - b)).take ((az.take n).length - b)).map V.str))=QC at *
       clear s_
       walk_at "vs"
       intro q8 hq8
       have s_:=aq (.lst [.str x]) hq8
       have eq8:upd QC q8 (.lst [.str x]) q8=some (.lst [.str x]):=ak
       replace erl:=s_ _ _ erl
       replace rcs:=rcs.same s_
       replace eg:=s_ _ _ eg
       replace eh:=s_ _ _ eh
       replace erd:=s_ _ _ erd
       replace eg2:=s_ _ _ eg2
       replace er2:=s_ _ _ er2
       replace ehd:=s_ _ _ ehd
       replace ed0:=s_ _ _ ed0
       replace eq1:=s_ _ _ eq1
       replace eq2:=s_ _ _ eq2
       replace eq3:=s_ _ _ eq3
       replace eq4:=s_ _ _ eq4
       replace eq5:=s_ _ _ eq5
       replace eq6:=s_ _ _ eq6
       replace ed1:=s_ _ _ ed1
       replace eq7:=s_ _ _ eq7
       replace SX:=SX.trans s_
       generalize upd QC q8 (.lst [.str x])=QD at *
       clear s_
       have hc7:((((((az.take n).drop b)++((az.take n).drop b)).drop (j - b)).take ((az.take n).length - b)).map V.str).length+[V.str x].length<=sizeLine:=Nat.le_of_lt (cC (by rw[List.length_map,List.length_take,hrl];show _+1<=1000;omega))
       walk_at "vs"
       rw[show(((((az.take n).drop b)++((az.take n).drop b)).drop (j - b)).take ((az.take n).length - b)).map V.str++[V.str x]=((((((az.take n).drop b)++((az.take n).drop b)).drop (j - b)).take ((az.take n).length - b))++[x]).map V.str by rw[List.map_append];rfl]
       intro q9 hq9
       have s_:=aq (.lst (((((((az.take n).drop b)++((az.take n).drop b)).drop (j - b)).take ((az.take n).length - b))++[x]).map V.str)) hq9
       have eq9:upd QD q9 (.lst (((((((az.take n).drop b)++((az.take n).drop b)).drop (j - b)).take ((az.take n).length - b))++[x]).map V.str)) q9=some (.lst (((((((az.take n).drop b)++((az.take n).drop b)).drop (j - b)).take ((az.take n).length - b))++[x]).map V.str)):=ak
       replace erl:=s_ _ _ erl
       replace rcs:=rcs.same s_
       replace eg:=s_ _ _ eg
       replace eh:=s_ _ _ eh
       replace erd:=s_ _ _ erd
       replace eg2:=s_ _ _ eg2
       replace er2:=s_ _ _ er2
       replace ehd:=s_ _ _ ehd
       replace ed0:=s_ _ _ ed0
       replace eq1:=s_ _ _ eq1
       replace eq2:=s_ _ _ eq2
       replace eq3:=s_ _ _ eq3
       replace eq4:=s_ _ _ eq4
       replace eq5:=s_ _ _ eq5
       replace eq6:=s_ _ _ eq6
       replace ed1:=s_ _ _ ed1
       replace eq7:=s_ _ _ eq7
       replace eq8:=s_ _ _ eq8
       replace SX:=SX.trans s_
       generalize upd QD q9 (.lst (((((((az.take n).drop b)++((az.take n).drop b)).drop (j - b)).take ((az.take n).length - b))++[x]).map V.str))=QF at *
       clear s_
       walk_at "vs"
       intro d2 hd2
       have s_:=aq (.tup [.str "ring", .ref q9]) hd2
       have ed2:upd QF d2 (.tup [.str "ring", .ref q9]) d2=some (.tup [.str "ring", .ref q9]):=ak
       replace erl:=s_ _ _ erl
       replace rcs:=rcs.same s_
       replace eg:=s_ _ _ eg
       replace eh:=s_ _ _ eh
       replace erd:=s_ _ _ erd
       replace eg2:=s_ _ _ eg2
       replace er2:=s_ _ _ er2
       replace ehd:=s_ _ _ ehd
       replace ed0:=s_ _ _ ed0
       replace eq1:=s_ _ _ eq1
       replace eq2:=s_ _ _ eq2
       replace eq3:=s_ _ _ eq3
       replace eq4:=s_ _ _ eq4
       replace eq5:=s_ _ _ eq5
       replace eq6:=s_ _ _ eq6
       replace ed1:=s_ _ _ ed1
       replace eq7:=s_ _ _ eq7
       replace eq8:=s_ _ _ eq8
       replace eq9:=s_ _ _ eq9
       replace SX:=SX.trans s_
       generalize upd QF d2 (.tup [.str "ring", .ref q9])=ZF at *
       clear s_
       walk_at "vs"
       have edd:ErT (um n b j x) d2 ZF:=by
        unfold um Bf
        rw[if_pos hbn,if_neg hjb]
        exact⟨q9,ed2,eq9⟩
       exact⟨⟨d2,_,_,rfl,SX,erl,rcs,eg,eh,erd,eg2,er2,ehd,edd⟩⟩
     ·walk_at "vs"
      rw[show decide ((b:Int)<((((az.take n).map V.str).length:Nat):Int))=false from decide_eq_false (by rw[hrlm];omega)]
      walk_at "vs"
      have edd:ErT (um n b j x) d0 G22:=by
       unfold um
       rw[if_neg hbn]
       exact ed0
      exact⟨⟨d0,_,_,rfl,SX,erl,rcs,eg,eh,erd,eg2,er2,ehd,edd⟩⟩
    clear SX erl rcs eg eh erd eg2 er2 ehd ed0
    rintro σ' G23 ⟨⟨dd,t12,t13,rfl,SX,erl,rcs,eg,eh,erd,eg2,er2,ehd,edd⟩⟩
    walk_at "vs"
    refine CG (fun i2 σ' H'=>Wr (∃(t14 t15 t16:Option V),σ'=[some (.ref a),some (.int (0+(i:Int))),some (.ref p),some (.ref rl),some (.int (b:Int)),some (.str la),some (.ref rd),some (.int (j:Int)),some (.str x),some (.ref hh),some (.ref hd),some (.ref dd),t12,t13,t14,t15,t16]/\aO G23 H')) ?_ ?_ ?_
    ·exact⟨⟨_,_,_,rfl,aO.refl _⟩⟩
    ·rintro i2 σ' Z2 hi2 ⟨⟨t14,t15,t16,rfl,SG⟩⟩
     replace erl:=SG _ _ erl
     replace rcs:=rcs.same SG
     replace eg:=SG _ _ eg
     replace eh:=SG _ _ eh
     replace erd:=SG _ _ erd
     replace eg2:=SG _ _ eg2
     replace er2:=SG _ _ er2
     replace ehd:=SG _ _ ehd
     replace edd:=edd.same SG
     clear SX
     have SX:=SG
     clear SG
     refine⟨fun σ' H'=>Wr (∃(t:Addr),σ'=[some (.ref a),some (.int (0+(i:Int))),some (.ref p),some (.ref rl),some (.int (b:Int)),some (.str la),some (.ref rd),some (.int (j:Int)),some (.str x),some (.ref hh),some (.ref hd),some (.ref dd),t12,t13,some (.int (0+(i2:Int))),some (.ref t),t16]/\aO G23 H'/\H' rl=some (.lst ((az.take n).map V.str))/\Rcs H' rd (az.take n) rc/\H' gd=some (.dK [(.inr "one", .int o)])/\H' hh=some (.tup [.ref gd, .ref rd])/\H' rd=some (.dK kc)/\H' gd2=some (.dK [(.inr "one", .int o)])/\H' rd2=some (.dK kc)/\H' hd=some (.tup [.ref gd2, .ref rd2])/\ErT (um n b j x) dd H'/\acA n b j x t H'), ?_, ?_⟩
     rotate_left
     ·have ho2:=Um (Ws Fb hla) h12 ehd eg2 (rcs.copy erd er2)
      have safe:=Uo (o:=o) Fb hla h12 hxj
      walk_at "vs"
      refine⟨?_, ?_⟩
      ·intro t v H1 c_ ru s1 ht et
       replace erl:=s1 _ _ erl
       replace rcs:=rcs.same s1
       replace eg:=s1 _ _ eg
       replace eh:=s1 _ _ eh
       replace erd:=s1 _ _ erd
       replace eg2:=s1 _ _ eg2
       replace er2:=s1 _ _ er2
       replace ehd:=s1 _ _ ehd
       replace edd:=edd.same s1
       replace SX:=SX.trans s1
       walk_at "vs"
       exact⟨⟨t,rfl,SX,erl,rcs,eg,eh,erd,eg2,er2,ehd,edd, .inr ⟨Zq Fb hb hla h12 hxj ru,v,et⟩⟩⟩
      ·intro e t H1 he s1 ht et
       obtain⟨hbe,rfl⟩:=Zr Fb hb hla h12 hxj he
       replace erl:=s1 _ _ erl
       replace rcs:=rcs.same s1
       replace eg:=s1 _ _ eg
       replace eh:=s1 _ _ eh
       replace erd:=s1 _ _ erd
       replace eg2:=s1 _ _ eg2
       replace er2:=s1 _ _ er2
       replace ehd:=s1 _ _ ehd
       replace edd:=edd.same s1
       replace SX:=SX.trans s1
       walk_at "vs"
       exact⟨⟨t,rfl,SX,erl,rcs,eg,eh,erd,eg2,er2,ehd,edd, .inl ⟨hbe,et⟩⟩⟩
     clear SX erl rcs eg eh erd eg2 er2 ehd edd
     rintro σ' G31 ⟨⟨t,rfl,SX,erl,rcs,eg,eh,erd,eg2,er2,ehd,edd,et⟩⟩
     refine⟨fun σ' H'=>Wr (σ'=[some (.ref a),some (.int (0+(i:Int))),some (.ref p),some (.ref rl),some (.int (b:Int)),some (.str la),some (.ref rd),some (.int (j:Int)),some (.str x),some (.ref hh),some (.ref hd),some (.ref dd),t12,t13,some (.int (0+(i2:Int))),some (.ref t),some (.bl true)]/\aO G23 H'/\H' rl=some (.lst ((az.take n).map V.str))/\Rcs H' rd (az.take n) rc/\H' gd=some (.dK [(.inr "one", .int o)])/\H' hh=some (.tup [.ref gd, .ref rd])/\H' rd=some (.dK kc)/\H' gd2=some (.dK [(.inr "one", .int o)])/\H' rd2=some (.dK kc)/\H' hd=some (.tup [.ref gd2, .ref rd2])/\ErT (um n b j x) dd H'/\acA n b j x t H'), ?_, ?_⟩
     rotate_left
     ·rcases et with⟨hbe,et⟩ | ⟨hbe,v,et⟩
      ·obtain⟨x1,x2,y1,y2,e1,e2,v1,v2⟩:=er5 (K:=K) Fb hxj et edd
       walk_at "vs"
       refine .inr ⟨v1,v2, ?_⟩
       walk_at "vs"
       exact⟨⟨rfl,SX,erl,rcs,eg,eh,erd,eg2,er2,ehd,edd, .inl ⟨hbe,et⟩⟩⟩
      ·have ed1:G31 dd=some (.tup [.str "none", .str "nix"]):=by
        have:=edd
        unfold um at this
        rw[if_neg (by omega)] at this;exact this
       walk_at "vs"
       refine .inl ⟨"told","none",rfl,rfl,by decide +kernel,by decide +kernel,by decide +kernel, ?_⟩
       walk_at "vs"
       rw[show decide (((((az.take n).map V.str).length:Nat):Int)<(b:Int))=true from decide_eq_true (by rw[hrlm];omega)]
       walk_at "vs"
       exact⟨⟨rfl,SX,erl,rcs,eg,eh,erd,eg2,er2,ehd,edd, .inr ⟨hbe,v,et⟩⟩⟩
     clear SX erl rcs eg eh erd eg2 er2 ehd edd et
     rintro σ' G32 ⟨⟨rfl,SX,erl,rcs,eg,eh,erd,eg2,er2,ehd,edd,et⟩⟩
     have pg:∀p∈[((.inr "one", .int o):Key×V)],ym p.2=true:=fun p hp=>by rw[show p=(.inr "one", .int o) by simpa using hp];rfl
     have v1:BZ K G32 (.ref gd2) (.ref gd):= .inl (.inl (.inr ⟨gd2,gd,_,rfl,rfl, .inl eg2, .inl eg,pg⟩))
     have v2:BZ K G32 (.ref rd2) (.ref rd):= .inl (.inl (.inr ⟨rd2,rd,_,rfl,rfl, .inl er2, .inl erd,rcs.plain erd⟩))
     walk_at "vs"
     exact⟨⟨_,_,_,rfl,SX⟩⟩
    ·rintro σ' Y2 ⟨⟨t14,t15,t16,rfl,SG⟩⟩
     walk_at "vs"
     exact⟨⟨_,_,_,_,_,_,_,_,_,rfl,SX.trans SG⟩⟩
   ·rintro σ' Y ⟨⟨t7,t8,t10,t11,t12,t13,t14,t15,t16,rfl,SG⟩⟩
    replace SX:=SX.trans SG
    exact⟨⟨_,_,_,_,_,_,_,_,_,rfl,SX⟩⟩
  clear SX erl rcs eg eh
  rintro σ' G9 ⟨⟨t7,t8,t10,t11,t12,t13,t14,t15,t16,rfl,SX⟩⟩
  walk_at "vs"
  exact⟨⟨_,_,_,_,_,_,_,_,_,_,_,_,_,_,_,_,rfl,S3.trans SX⟩⟩
 ·rintro σ' H4 ⟨⟨t1,t2,t3,t4,t5,t6,t7,t8,t9,t10,t11,t12,t13,t14,t15,t16,rfl,S4⟩⟩
  walk_at "vs"
  exact q _
end
theorem kJ {K:PySem.W.Frag}{h:Heap}{mg:Str->Option Value} (X:K.In h) (G:h.Ns mainGlobals mg) {x:Str}{st:Stmt}{ps:List Str}{f:Addr}{oc:Value}{od an:Option Addr}{osl:Array (Option Value)}{kV doc pm cdv ct:Value}
 (a:PySem.W.nsIn K mainGlobals x=some (some (.ref f))) (l:K.lookup f=some ⟨oc,od, .func (PySem.W.fnOf x x (bK st) (bx st) (aa st) .none kV doc pm an cdv ct),osl⟩) (c:PySem.W.codeIn K cdv x=true) (k:PySem.W.keepIn K (.ref f)=true)
 (hb:∀us:List Value,us.length=ps.length->bindArgs (PySem.W.fnOf x x (bK st) (bx st) (aa st) .none kV doc pm an cdv ct) ⟨us,[]⟩=pure (ps.zip us)):
 FnT K mg x st ps f (PySem.W.fnOf x x (bK st) (bx st) (aa st) .none kV doc pm an cdv ct):=
 ⟨iT l c k,Binds.all hb,PySem.W.mg_of X G a⟩
theorem len0 {p:List Value->Prop} (h:p []) (us:List Value) (hl:us.length=0):p us:=by
 obtain rfl:=List.eq_nil_of_length_eq_zero hl;exact h
theorem QH {p:List Value->Prop} (h:∀x0,p [x0]) (us:List Value) (hl:us.length=1):p us:=by
 match us,hl with |[x0],_=>exact h x0
theorem tK {p:List Value->Prop} (h:∀x0 x1,p [x0,x1]) (us:List Value) (hl:us.length=2):p us:=by
 match us,hl with |[x0,x1],_=>exact h x0 x1
theorem Jy {p:List Value->Prop} (h:∀x0 x1 x2,p [x0,x1,x2]) (us:List Value) (hl:us.length=3):p us:=by
 match us,hl with |[x0,x1,x2],_=>exact h x0 x1 x2
theorem agT {p:List Value->Prop} (h:∀x0 x1 x2 x3,p [x0,x1,x2,x3]) (us:List Value) (hl:us.length=4):p us:=by
 match us,hl with |[x0,x1,x2,x3],_=>exact h x0 x1 x2 x3
theorem agU {p:List Value->Prop} (h:∀x0 x1 x2 x3 x4,p [x0,x1,x2,x3,x4]) (us:List Value) (hl:us.length=5):p us:=by
 match us,hl with |[x0,x1,x2,x3,x4],_=>exact h x0 x1 x2 x3 x4
theorem agV {p:List Value->Prop} (h:∀x0 x1 x2 x3 x4 x5,p [x0,x1,x2,x3,x4,x5]) (us:List Value) (hl:us.length=6):p us:=by
 match us,hl with |[x0,x1,x2,x3,x4,x5],_=>exact h x0 x1 x2 x3 x4 x5
theorem all_mk {l:PySem.W.OpenLaw}{w:World}{K:PySem.W.Frag}{h:Heap}{mg:Str->Option Value}{fa f1 f2 f3 f4 f5 f6 f7 f8 f9 f10 f11 f12 f13:Addr} (X:K.In h) (G:h.Ns mainGlobals mg) (hfa:mg "law"=some (.ref fa))
 {od1 an1 od2 an2 od3 an3 od4 an4 od5 an5 od6 an6 od7 an7 od8 an8 od9 an9 afZ af0 af1 af2 af3 af4 af5 acK:Option Addr}{sl1 sl2 sl3 sl4 sl5 sl6 sl7 sl8 sl9 af6 af7 af8 af9:Array (Option Value)}{oc1 kV1 dc1 pm1 cd1 ct1 oc2 kV2 dc2 pm2 cd2 ct2 oc3 kV3 dc3 pm3 cd3 ct3 oc4 kV4 dc4 pm4 cd4 ct4 oc5 kV5 dc5 pm5 cd5 ct5 oc6 kV6 dc6 pm6 cd6 ct6 oc7 kV7 dc7 pm7 cd7 ct7 oc8 kV8 dc8 pm8 cd8 ct8 oc9 kV9 dc9 pm9 cd9 ct9 aga agb agc agd acL age agf agg agh agi acM agj agk agl agm agn acN ago agp acO acP acQ ZG acR:Value}
 (a1:PySem.W.nsIn K mainGlobals "joined"=some (some (.ref f1))) (l1:K.lookup f1=some ⟨oc1,od1, .func (PySem.W.fnOf "joined" "joined" (bK iZ) (bx iZ) (aa iZ) .none kV1 dc1 pm1 an1 cd1 ct1),sl1⟩) (c1:PySem.W.codeIn K cd1 "joined"=true) (k1:PySem.W.keepIn K (.ref f1)=true)
 (a2:PySem.W.nsIn K mainGlobals "is_whole_number"=some (some (.ref f2))) (l2:K.lookup f2=some ⟨oc2,od2, .func (PySem.W.fnOf "is_whole_number" "is_whole_number" (bK bH) (bx bH) (aa bH) .none kV2 dc2 pm2 an2 cd2 ct2),sl2⟩) (c2:PySem.W.codeIn K cd2 "is_whole_number"=true) (k2:PySem.W.keepIn K (.ref f2)=true)
 (a3:PySem.W.nsIn K mainGlobals "is_same"=some (some (.ref f3))) (l3:K.lookup f3=some ⟨oc3,od3, .func (PySem.W.fnOf "is_same" "is_same" (bK cZ) (bx cZ) (aa cZ) .none kV3 dc3 pm3 an3 cd3 ct3),sl3⟩) (c3:PySem.W.codeIn K cd3 "is_same"=true) (k3:PySem.W.keepIn K (.ref f3)=true)
 (a4:PySem.W.nsIn K mainGlobals "searched"=some (some (.ref f4))) (l4:K.lookup f4=some ⟨oc4,od4, .func (PySem.W.fnOf "searched" "searched" (bK cW) (bx cW) (aa cW) .none kV4 dc4 pm4 an4 cd4 ct4),sl4⟩) (c4:PySem.W.codeIn K cd4 "searched"=true) (k4:PySem.W.keepIn K (.ref f4)=true)
 (a5:PySem.W.nsIn K mainGlobals "worth_of"=some (some (.ref f5))) (l5:K.lookup f5=some ⟨oc5,od5, .func (PySem.W.fnOf "worth_of" "worth_of" (bK fZ) (bx fZ) (aa fZ) .none kV5 dc5 pm5 an5 cd5 ct5),sl5⟩) (c5:PySem.W.codeIn K cd5 "worth_of"=true) (k5:PySem.W.keepIn K (.ref f5)=true)
 (a6:PySem.W.nsIn K mainGlobals "reads_of"=some (some (.ref f6))) (l6:K.lookup f6=some ⟨oc6,od6, .func (PySem.W.fnOf "reads_of" "reads_of" (bK d9) (bx d9) (aa d9) .none kV6 dc6 pm6 an6 cd6 ct6),sl6⟩) (c6:PySem.W.codeIn K cd6 "reads_of"=true) (k6:PySem.W.keepIn K (.ref f6)=true)
 (a7:PySem.W.nsIn K mainGlobals "_law_cell"=some (some (.ref f7))) (l7:K.lookup f7=some ⟨oc7,od7, .func (PySem.W.fnOf "_law_cell" "_law_cell" (bK gO) (bx gO) (aa gO) .none kV7 dc7 pm7 an7 cd7 ct7),sl7⟩) (c7:PySem.W.codeIn K cd7 "_law_cell"=true) (k7:PySem.W.keepIn K (.ref f7)=true)
 (a8:PySem.W.nsIn K mainGlobals "_law_state"=some (some (.ref f8))) (l8:K.lookup f8=some ⟨oc8,od8, .func (PySem.W.fnOf "_law_state" "_law_state" (bK fL) (bx fL) (aa fL) .none kV8 dc8 pm8 an8 cd8 ct8),sl8⟩) (c8:PySem.W.codeIn K cd8 "_law_state"=true) (k8:PySem.W.keepIn K (.ref f8)=true)
 (a9:PySem.W.nsIn K mainGlobals "_law_take"=some (some (.ref f9))) (l9:K.lookup f9=some ⟨oc9,od9, .func (PySem.W.fnOf "_law_take" "_law_take" (bK dR) (bx dR) (aa dR) .none kV9 dc9 pm9 an9 cd9 ct9),sl9⟩) (c9:PySem.W.codeIn K cd9 "_law_take"=true) (k9:PySem.W.keepIn K (.ref f9)=true)
 (a10:PySem.W.nsIn K mainGlobals "_law_refusal"=some (some (.ref f10))) (l10:K.lookup f10=some ⟨aga,afZ, .func (PySem.W.fnOf "_law_refusal" "_law_refusal" (bK bf) (bx bf) (aa bf) .none agb agc agd af0 acL age),af6⟩) (c10:PySem.W.codeIn K acL "_law_refusal"=true) (k10:PySem.W.keepIn K (.ref f10)=true)
 (a11:PySem.W.nsIn K mainGlobals "_law_told"=some (some (.ref f11))) (l11:K.lookup f11=some ⟨agf,af1, .func (PySem.W.fnOf "_law_told" "_law_told" (bK bY) (bx bY) (aa bY) .none agg agh agi af2 acM agj),af7⟩) (c11:PySem.W.codeIn K acM "_law_told"=true) (k11:PySem.W.keepIn K (.ref f11)=true)
 (a12:PySem.W.nsIn K mainGlobals "_law_first"=some (some (.ref f12))) (l12:K.lookup f12=some ⟨agk,af3, .func (PySem.W.fnOf "_law_first" "_law_first" (bK cX) (bx cX) (aa cX) .none agl agm agn af4 acN ago),af8⟩) (c12:PySem.W.codeIn K acN "_law_first"=true) (k12:PySem.W.keepIn K (.ref f12)=true)
 (a13:PySem.W.nsIn K mainGlobals "law"=some (some (.ref f13))) (l13:K.lookup f13=some ⟨agp,af5, .func (PySem.W.fnOf "law" "law" (bK cG) (bx cG) (aa cG) .none acO acP acQ acK ZG acR),af9⟩) (c13:PySem.W.codeIn K ZG "law"=true) (k13:PySem.W.keepIn K (.ref f13)=true)
 (kd:Kinds K)
 {CK:Addr} (ACK:PySem.W.nsIn K mainGlobals "Reckoning"=some (some (.ref CK)))
 {Ut:Addr}{acS acT:Option Addr}{acU:Array (Option Value)}{acV acW acX acY Wx acZ:Value}
 (Uu:PySem.W.findIn K (.ref CK) "__init__"=some (some (.ref Ut))) (Uv:PySem.W.isFn K (.ref Ut)=true) (ZJ:K.lookup Ut=some ⟨acV,acS, .func (PySem.W.fnOf "__init__" "Reckoning.__init__" (bK bO) (bx bO) (aa bO) .none acW acX acY acT Wx acZ),acU⟩) (ZK:PySem.W.codeIn K Wx "Reckoning.__init__"=true) (Uw:PySem.W.keepIn K (.ref Ut)=true)
 {Ux:Addr}{ac0 ac1:Option Addr}{ac2:Array (Option Value)}{ac3 ac4 ac5 ac6 Wy ac7:Value}
 (ZL:PySem.W.findIn K (.ref CK) "lacking"=some (some (.ref Ux))) (ZM:PySem.W.isFn K (.ref Ux)=true) (ZP:K.lookup Ux=some ⟨ac3,ac0, .func (PySem.W.fnOf "lacking" "Reckoning.lacking" (bK bA) (bx bA) (aa bA) .none ac4 ac5 ac6 ac1 Wy ac7),ac2⟩) (ZQ:PySem.W.codeIn K Wy "Reckoning.lacking"=true) (Uy:PySem.W.keepIn K (.ref Ux)=true)
 {Uz:Addr}{ac8 ac9:Option Addr}{ada:Array (Option Value)}{adb ade adf adg Wz adh:Value}
 (ZR:PySem.W.findIn K (.ref CK) "go_on"=some (some (.ref Uz))) (ZS:PySem.W.isFn K (.ref Uz)=true) (ZV:K.lookup Uz=some ⟨adb,ac8, .func (PySem.W.fnOf "go_on" "Reckoning.go_on" (bK aG) (bx aG) (aa aG) .none ade adf adg ac9 Wz adh),ada⟩) (ZW:PySem.W.codeIn K Wz "Reckoning.go_on"=true) (UG:PySem.W.keepIn K (.ref Uz)=true)
 (ZX:PySem.W.plainGet K CK Str.empty=true) (ZZ:PySem.W.hasDictIn K CK=true) (Z0:PySem.W.plainOver K CK=true) (Z4:PySem.W.findIn K (.ref CK) "__setattr__"=some (some (.builtin "object.__setattr__"))) (Z5:PySem.W.makesIn K CK=true) (Z6:PySem.W.keepIn K (.ref CK)=true)
 (BJ:PySem.W.findIn K (.ref CK) "todo"=some none)
 (yH:PySem.W.findIn K (.ref CK) "found"=some none)
 (yI:PySem.W.findIn K (.ref CK) "reads"=some none)
 {CN:Addr} (ACN:PySem.W.nsIn K mainGlobals "NamedRecords"=some (some (.ref CN)))
 {UJ:Addr}{adi adk:Option Addr}{adl:Array (Option Value)}{adm adn ado adp WD adq:Value}
 (UL:PySem.W.findIn K (.ref CN) "__init__"=some (some (.ref UJ))) (UT:PySem.W.isFn K (.ref UJ)=true) (Z7:K.lookup UJ=some ⟨adm,adi, .func (PySem.W.fnOf "__init__" "NamedRecords.__init__" (bK aY) (bx aY) (aa aY) .none adn ado adp adk WD adq),adl⟩) (Z8:PySem.W.codeIn K WD "NamedRecords.__init__"=true) (UW:PySem.W.keepIn K (.ref UJ)=true)
 {U0:Addr}{adt adu:Option Addr}{adv:Array (Option Value)}{adw adx ady adz WK adA:Value}
 (Z9:PySem.W.findIn K (.ref CN) "records_for"=some (some (.ref U0))) (aaa:PySem.W.isFn K (.ref U0)=true) (aab:K.lookup U0=some ⟨adw,adt, .func (PySem.W.fnOf "records_for" "NamedRecords.records_for" (bK aK) (bx aK) (aa aK) .none adx ady adz adu WK adA),adv⟩) (aac:PySem.W.codeIn K WK "NamedRecords.records_for"=true) (U3:PySem.W.keepIn K (.ref U0)=true)
 {U4:Addr}{adB adC:Option Addr}{adD:Array (Option Value)}{adE adF adG adH WL adI:Value}
 (aad:PySem.W.findIn K (.ref CN) "put_made"=some (some (.ref U4))) (aae:PySem.W.isFn K (.ref U4)=true) (aaf:K.lookup U4=some ⟨adE,adB, .func (PySem.W.fnOf "put_made" "NamedRecords.put_made" (bK bU) (bx bU) (aa bU) .none adF adG adH adC WL adI),adD⟩) (aag:PySem.W.codeIn K WL "NamedRecords.put_made"=true) (U5:PySem.W.keepIn K (.ref U4)=true)
 (aah:PySem.W.plainGet K CN Str.empty=true) (aai:PySem.W.hasDictIn K CN=true) (aaj:PySem.W.plainOver K CN=true) (aak:PySem.W.findIn K (.ref CN) "__setattr__"=some (some (.builtin "object.__setattr__"))) (aal:PySem.W.makesIn K CN=true) (aam:PySem.W.keepIn K (.ref CN)=true)
 (u6:PySem.W.findIn K (.ref CN) "by_name"=some none)
 {CS:Addr} (ACS:PySem.W.nsIn K mainGlobals "Settling"=some (some (.ref CS)))
 {U6:Addr}{adJ adK:Option Addr}{adL:Array (Option Value)}{adM adN adO adP WM adQ:Value}
 (U7:PySem.W.findIn K (.ref CS) "__init__"=some (some (.ref U6))) (U8:PySem.W.isFn K (.ref U6)=true) (aan:K.lookup U6=some ⟨adM,adJ, .func (PySem.W.fnOf "__init__" "Settling.__init__" (bK bB) (bx bB) (aa bB) .none adN adO adP adK WM adQ),adL⟩) (aao:PySem.W.codeIn K WM "Settling.__init__"=true) (U9:PySem.W.keepIn K (.ref U6)=true)
 {Va:Addr}{adR adS:Option Addr}{adT:Array (Option Value)}{adU adV adW adX WN adY:Value}
 (aap:PySem.W.findIn K (.ref CS) "lacking"=some (some (.ref Va))) (aaq:PySem.W.isFn K (.ref Va)=true) (aar:K.lookup Va=some ⟨adU,adR, .func (PySem.W.fnOf "lacking" "Settling.lacking" (bK aW) (bx aW) (aa aW) .none adV adW adX adS WN adY),adT⟩) (aas:PySem.W.codeIn K WN "Settling.lacking"=true) (Vb:PySem.W.keepIn K (.ref Va)=true)
 {Vc:Addr}{adZ ad0:Option Addr}{ad1:Array (Option Value)}{ad2 ad3 ad4 ad5 WQ ad6:Value}
 (aat:PySem.W.findIn K (.ref CS) "fit_on"=some (some (.ref Vc))) (aau:PySem.W.isFn K (.ref Vc)=true) (aav:K.lookup Vc=some ⟨ad2,adZ, .func (PySem.W.fnOf "fit_on" "Settling.fit_on" (bK cO) (bx cO) (aa cO) .none ad3 ad4 ad5 ad0 WQ ad6),ad1⟩) (aaw:PySem.W.codeIn K WQ "Settling.fit_on"=true) (Vd:PySem.W.keepIn K (.ref Vc)=true)
 {Ve:Addr}{ad7 ad8:Option Addr}{ad9:Array (Option Value)}{aea aeb aec aed WR aee:Value}
 (aax:PySem.W.findIn K (.ref CS) "was_reckoned"=some (some (.ref Ve))) (aay:PySem.W.isFn K (.ref Ve)=true) (aaz:K.lookup Ve=some ⟨aea,ad7, .func (PySem.W.fnOf "was_reckoned" "Settling.was_reckoned" (bK aZ) (bx aZ) (aa aZ) .none aeb aec aed ad8 WR aee),ad9⟩) (aaA:PySem.W.codeIn K WR "Settling.was_reckoned"=true) (Vf:PySem.W.keepIn K (.ref Ve)=true)
 {Vg:Addr}{aef aeg:Option Addr}{aeh:Array (Option Value)}{aei aej aek ael WT aem:Value}
 (aaB:PySem.W.findIn K (.ref CS) "new_record"=some (some (.ref Vg))) (aaC:PySem.W.isFn K (.ref Vg)=true) (aaD:K.lookup Vg=some ⟨aei,aef, .func (PySem.W.fnOf "new_record" "Settling.new_record" (bK bL) (bx bL) (aa bL) .none aej aek ael aeg WT aem),aeh⟩) (aaE:PySem.W.codeIn K WT "Settling.new_record"=true) (Vh:PySem.W.keepIn K (.ref Vg)=true)
 (aaF:PySem.W.plainGet K CS Str.empty=true) (aaG:PySem.W.hasDictIn K CS=true) (aaH:PySem.W.plainOver K CS=true) (aaI:PySem.W.findIn K (.ref CS) "__setattr__"=some (some (.builtin "object.__setattr__"))) (aaJ:PySem.W.makesIn K CS=true) (aaK:PySem.W.keepIn K (.ref CS)=true)
 (wX:PySem.W.findIn K (.ref CS) "recipe"=some none)
 (u9:PySem.W.findIn K (.ref CS) "fitting"=some none)
 (yJ:PySem.W.findIn K (.ref CS) "place"=some none)
 (pN:PySem.W.findIn K (.ref CS) "reckoning"=some none)
 {CE:Addr} (ACE:PySem.W.nsIn K mainGlobals "Search"=some (some (.ref CE)))
 {Vi:Addr}{aen aeo:Option Addr}{aep:Array (Option Value)}{aeq aer aes aet WW aeu:Value}
 (Vj:PySem.W.findIn K (.ref CE) "__init__"=some (some (.ref Vi))) (Vk:PySem.W.isFn K (.ref Vi)=true) (aaL:K.lookup Vi=some ⟨aeq,aen, .func (PySem.W.fnOf "__init__" "Search.__init__" (bK cg) (bx cg) (aa cg) .none aer aes aet aeo WW aeu),aep⟩) (aaM:PySem.W.codeIn K WW "Search.__init__"=true) (Vl:PySem.W.keepIn K (.ref Vi)=true)
 {Vm:Addr}{aev aew:Option Addr}{aex:Array (Option Value)}{aey aez aeA aeB WX aeC:Value}
 (aaN:PySem.W.findIn K (.ref CE) "begin"=some (some (.ref Vm))) (aaO:PySem.W.isFn K (.ref Vm)=true) (aaP:K.lookup Vm=some ⟨aey,aev, .func (PySem.W.fnOf "begin" "Search.begin" (bK bW) (bx bW) (aa bW) .none aez aeA aeB aew WX aeC),aex⟩) (aaQ:PySem.W.codeIn K WX "Search.begin"=true) (Vn:PySem.W.keepIn K (.ref Vm)=true)
 {Vo:Addr}{aeD aeE:Option Addr}{aeF:Array (Option Value)}{aeG aeH aeI aeJ WY aeK:Value}
 (aaR:PySem.W.findIn K (.ref CE) "end"=some (some (.ref Vo))) (aaS:PySem.W.isFn K (.ref Vo)=true) (aaT:K.lookup Vo=some ⟨aeG,aeD, .func (PySem.W.fnOf "end" "Search.end" (bK di) (bx di) (aa di) .none aeH aeI aeJ aeE WY aeK),aeF⟩) (aaU:PySem.W.codeIn K WY "Search.end"=true) (Vp:PySem.W.keepIn K (.ref Vo)=true)
 {Vq:Addr}{aeL aeM:Option Addr}{aeN:Array (Option Value)}{aeO aeP aeQ aeR W0 aeS:Value}
 (aaV:PySem.W.findIn K (.ref CE) "settle"=some (some (.ref Vq))) (aaW:PySem.W.isFn K (.ref Vq)=true) (aaX:K.lookup Vq=some ⟨aeO,aeL, .func (PySem.W.fnOf "settle" "Search.settle" (bK aU) (bx aU) (aa aU) .none aeP aeQ aeR aeM W0 aeS),aeN⟩) (aaY:PySem.W.codeIn K W0 "Search.settle"=true) (Vr:PySem.W.keepIn K (.ref Vq)=true)
 (aaZ:PySem.W.plainGet K CE Str.empty=true) (aa0:PySem.W.hasDictIn K CE=true) (aa1:PySem.W.plainOver K CE=true) (aa2:PySem.W.findIn K (.ref CE) "__setattr__"=some (some (.builtin "object.__setattr__"))) (aa3:PySem.W.makesIn K CE=true) (aa4:PySem.W.keepIn K (.ref CE)=true)
 (yK:PySem.W.findIn K (.ref CE) "given"=some none)
 (vd:PySem.W.findIn K (.ref CE) "recipes"=some none)
 (Fd:PySem.W.findIn K (.ref CE) "old"=some none)
 (yL:PySem.W.findIn K (.ref CE) "known"=some none)
 (vf:PySem.W.findIn K (.ref CE) "settled"=some none)
 (rN:PySem.W.findIn K (.ref CE) "reckoned"=some none)
 {CNo:Addr} (aa5:PySem.W.nsIn K mainGlobals "NoName"=some (some (.ref CNo)))
 {QJ:Addr}{aeT aeU:Option Addr}{aeV:Array (Option Value)}{aeW aeX aeY aeZ Xa ae0:Value}
 (aa6:PySem.W.findIn K (.ref CNo) "__init__"=some (some (.ref QJ)))
 (Vs:PySem.W.isFn K (.ref QJ)=true)
 (aa7:K.lookup QJ=some ⟨aeW,aeT, .func (PySem.W.fnOf "__init__" "NoName.__init__" (bK cz) (bx cz) (aa cz) .none aeX aeY aeZ aeU Xa ae0),aeV⟩)
 (aa8:PySem.W.codeIn K Xa "NoName.__init__"=true)
 (Vt:PySem.W.keepIn K (.ref QJ)=true)
 {ae1 agq:Str}{aa9:Addr}{ae2 Xb:List Value}{ae3:List Str}{aba:List Value}{ae4:Bool}{abb:Option Bool}{ae5:Option Addr}{ae6 ae7 ae8 ae9 afa:Option Value}
 (QK:K.lookup CNo=some (excClassObj ae1 agq CNo aa9 ae2 Xb true ae3 aba ae4 abb ae5 ae6 ae7 ae8 ae9 afa "ValueError.__new__"))
 (QL:PySem.W.nsOkIn K aa9=true)
 (QM:PySem.W.nsIn K aa9 "__init__"=some (some (.ref QJ)))
 (QV:PySem.W.tailIn K [.type "ValueError", .type "Exception", .type "BaseException", .type "object"] Xb=true)
 (QX:PySem.W.findIn K (.ref CNo) "__setattr__"=some (some (.builtin "object.__setattr__")))
 (K1:PySem.W.findIn K (.ref CNo) "name"=some none)
 {CRi:Addr} (abd:PySem.W.nsIn K mainGlobals "Ring"=some (some (.ref CRi)))
 {QZ:Addr}{afb afc:Option Addr}{afd:Array (Option Value)}{afe afg afh afi Xc afj:Value}
 (abe:PySem.W.findIn K (.ref CRi) "__init__"=some (some (.ref QZ)))
 (Vu:PySem.W.isFn K (.ref QZ)=true)
 (abf:K.lookup QZ=some ⟨afe,afb, .func (PySem.W.fnOf "__init__" "Ring.__init__" (bK cH) (bx cH) (aa cH) .none afg afh afi afc Xc afj),afd⟩)
 (abg:PySem.W.codeIn K Xc "Ring.__init__"=true)
 (Vv:PySem.W.keepIn K (.ref QZ)=true)
 {afk agr:Str}{abh:Addr}{afl Xd:List Value}{afm:List Str}{abi:List Value}{afn:Bool}{abj:Option Bool}{afo:Option Addr}{afp afq afr afs aft:Option Value}
 (Q0:K.lookup CRi=some (excClassObj afk agr CRi abh afl Xd true afm abi afn abj afo afp afq afr afs aft "ValueError.__new__"))
 (Q3:PySem.W.nsOkIn K abh=true)
 (Q4:PySem.W.nsIn K abh "__init__"=some (some (.ref QZ)))
 (Q5:PySem.W.tailIn K [.type "ValueError", .type "Exception", .type "BaseException", .type "object"] Xd=true)
 (Q6:PySem.W.findIn K (.ref CRi) "__setattr__"=some (some (.builtin "object.__setattr__")))
 (K3:PySem.W.findIn K (.ref CRi) "ring"=some none)
 {CM:Addr} (ACM:PySem.W.nsIn K mainGlobals "MadeError"=some (some (.ref CM)))
 (spM:PySem.W.specialIn K (.ref CM) "__getattribute__"=some (some (.builtin "type.__getattribute__")))
 (rdM:PySem.W.readsIn K CM (.type "type")=true)
 (fcM:PySem.W.findCls K (.ref CM) (.type "type") "__init__"=some (.val (.builtin "ValueError.__init__")))
 {CRd:Addr} (abk:PySem.W.nsIn K mainGlobals "NoRead"=some (some (.ref CRd)))
 {CRc:Addr} (abl:PySem.W.nsIn K mainGlobals "NoRecord"=some (some (.ref CRc)))
 {CDd:Addr} (abm:PySem.W.nsIn K mainGlobals "NoDeed"=some (some (.ref CDd)))
 {CTx:Addr} (abn:PySem.W.nsIn K mainGlobals "NoText"=some (some (.ref CTx)))
 {CRw:Addr} (abo:PySem.W.nsIn K mainGlobals "NoRow"=some (some (.ref CRw)))
 (Q7:PySem.W.findIn K (.ref CNo) "__getattribute__"=some (some (.builtin "BaseException.__getattribute__")))
 (Q8:PySem.W.findIn K (.ref CNo) "__getattr__"=some none)
 (Q9:PySem.W.findIn K (.ref CNo) "__class__"=some (some (.builtin "object.__class__")))
 (Ra:PySem.W.mroIn K CNo (.type "BaseException")=some true)
 (Rb:PySem.W.mroIn K CNo (.type "object")=some true)
 (Rc:(PySem.W.clsIn K CNo).isSome=true)
 (Rf:PySem.W.hasDictIn K CNo=true)
 (Rg:PySem.W.findIn K (.ref CRi) "__getattribute__"=some (some (.builtin "BaseException.__getattribute__")))
 (Rh:PySem.W.findIn K (.ref CRi) "__getattr__"=some none)
 (Ri:PySem.W.findIn K (.ref CRi) "__class__"=some (some (.builtin "object.__class__")))
 (Rj:PySem.W.mroIn K CRi (.type "BaseException")=some true)
 (Rk:PySem.W.mroIn K CRi (.type "object")=some true)
 (Ro:(PySem.W.clsIn K CRi).isSome=true)
 (Rp:PySem.W.hasDictIn K CRi=true)
 (eN:PySem.W.exmOne K (.ref CNo) (.ref CM)=some true)
 (eR:PySem.W.exmOne K (.ref CRi) (.ref CM)=some true)
 (N1:PySem.W.kitOne K (.ref CNo) (.ref CRd)=some false)
 (N2:PySem.W.kitOne K (.ref CNo) (.ref CRc)=some false)
 (N3:PySem.W.kitOne K (.ref CNo) (.ref CDd)=some false)
 (N4:PySem.W.kitOne K (.ref CNo) (.ref CTx)=some false)
 (N5:PySem.W.kitOne K (.ref CNo) (.ref CRw)=some false)
 (NV:PySem.W.kitOne K (.ref CNo) (.type "ValueError")=some true)
 (R1:PySem.W.kitOne K (.ref CRi) (.ref CRd)=some false)
 (R2:PySem.W.kitOne K (.ref CRi) (.ref CRc)=some false)
 (R3:PySem.W.kitOne K (.ref CRi) (.ref CDd)=some false)
 (R4:PySem.W.kitOne K (.ref CRi) (.ref CTx)=some false)
 (R5:PySem.W.kitOne K (.ref CRi) (.ref CRw)=some false)
 (RV:PySem.W.kitOne K (.ref CRi) (.type "ValueError")=some true)
 (NN:PySem.W.kitOne K (.ref CNo) (.ref CNo)=some true)
 (NR:PySem.W.kitOne K (.ref CNo) (.ref CRi)=some false)
 (RN:PySem.W.kitOne K (.ref CRi) (.ref CNo)=some false)
 (RR:PySem.W.kitOne K (.ref CRi) (.ref CRi)=some true)
 (zV:PySem.W.nsIn K mainGlobals "ValueError"=some none)
 (Rq:PySem.W.nsIn K mainGlobals "len"=some none)
 (Fe:PySem.W.nsIn K mainGlobals "range"=some none)
 (Rr:PySem.W.nsIn K mainGlobals "str"=some none)
 (Rt:PySem.W.nsIn K mainGlobals "int"=some none)
 (Jz:PySem.W.nsIn K mainGlobals "list"=some none)
 (Ff:PySem.W.nsIn K mainGlobals "tuple"=some none)
 (rO:PySem.W.nsIn K mainGlobals "isinstance"=some none)
 (JB:PySem.W.nsIn K mainGlobals "bool"=some none)
 (JC:PySem.W.nsIn K mainGlobals "dict"=some none)
 (Ru:PySem.W.nsIn K mainGlobals "sum"=some none)
 (Rv:PySem.W.nsIn K mainGlobals "all"=some none)
 (Rw:PySem.W.nsIn K mainGlobals "any"=some none)
 (Rx:PySem.W.nsIn K mainGlobals "max"=some none)
 (Ry:PySem.W.nsIn K mainGlobals "min"=some none)
 (BK:PySem.W.nsIn K mainGlobals "sorted"=some none)
 (Rz:PySem.W.nsIn K mainGlobals "set"=some none)
 (vg:PySem.W.nsIn K mainGlobals "enumerate"=some none)
 (RC:PySem.W.nsIn K mainGlobals "zip"=some none)
 (wY:PySem.W.nsIn K mainGlobals "reversed"=some none)
 (RD:PySem.W.nsIn K mainGlobals "abs"=some none)
 :∃fd:FuncData,(∀(s:Shared) (v:Value),BindsTo s fd ⟨[v],[]⟩ [("script",v)])/\∀base:Heap,K.In base->base.Ns mainGlobals mg->bI l.prog w K mg base CX0 19 fa fd ["script"] (Kc K):=by
 have e:=hfa.symm.trans (PySem.W.mg_of X G a13)
 cases e
 have lA:FnT K mg "joined" iZ ["kind","r","s"] _ _:=kJ X G a1 l1 c1 k1 (Jy (fun _ _ _=>rfl))
 have aV:FnT K mg "is_whole_number" bH ["thing"] _ _:=kJ X G a2 l2 c2 k2 (QH (fun _=>rfl))
 have d7:FnT K mg "is_same" cZ ["told","thing"] _ _:=kJ X G a3 l3 c3 k3 (tK (fun _ _=>rfl))
 have d8:FnT K mg "searched" cW ["house","old","wishes"] _ _:=kJ X G a4 l4 c4 k4 (Jy (fun _ _ _=>rfl))
 have jf:FnT K mg "worth_of" fZ ["house","name"] _ _:=kJ X G a5 l5 c5 k5 (tK (fun _ _=>rfl))
 have jg:FnT K mg "reads_of" d9 ["house","name"] _ _:=kJ X G a6 l6 c6 k6 (tK (fun _ _=>rfl))
 have gb:FnT K mg "_law_cell" gO ["script","k"] _ _:=kJ X G a7 l7 c7 k7 (tK (fun _ _=>rfl))
 have iz:FnT K mg "_law_state" fL ["script","k"] _ _:=kJ X G a8 l8 c8 k8 (tK (fun _ _=>rfl))
 have cF:FnT K mg "_law_take" dR ["state","many"] _ _:=kJ X G a9 l9 c9 k9 (tK (fun _ _=>rfl))
 have fM:FnT K mg "_law_refusal" bf ["e"] _ _:=kJ X G a10 l10 c10 k10 (QH (fun _=>rfl))
 have jh:FnT K mg "_law_told" bY ["ask","house","name"] _ _:=kJ X G a11 l11 c11 k11 (Jy (fun _ _ _=>rfl))
 have iC:FnT K mg "_law_first" cX ["state","name"] _ _:=kJ X G a12 l12 c12 k12 (tK (fun _ _=>rfl))
 have Qs:FnT K mg "law" cG ["script"] _ _:=kJ X G a13 l13 c13 k13 (QH (fun _=>rfl))
 have dB:eV K CK "__init__" "Reckoning.__init__" bO ["self","r"] _ _:=⟨iT ZJ ZK Uw,Binds.all (tK (fun _ _=>rfl)),⟨Uu,Uv,Uw⟩⟩
 have cV:eV K CK "lacking" "Reckoning.lacking" bA ["self","known"] _ _:=⟨iT ZP ZQ Uy,Binds.all (tK (fun _ _=>rfl)),⟨ZL,ZM,Uy⟩⟩
 have dI:eV K CK "go_on" "Reckoning.go_on" aG ["self","step"] _ _:=⟨iT ZV ZW UG,Binds.all (tK (fun _ _=>rfl)),⟨ZR,ZS,UG⟩⟩
 have ags:Cls K CK:=⟨ZX,ZZ,Z0,Z4⟩
 have uH:Mk K CK _:=⟨Z5,Uu,Uv,Z6⟩
 have uI:=PySem.W.mg_of X G ACK
 have bh:eV K CN "__init__" "NamedRecords.__init__" aY ["self","records"] _ _:=⟨iT Z7 Z8 UW,Binds.all (tK (fun _ _=>rfl)),⟨UL,UT,UW⟩⟩
 have bJ:eV K CN "records_for" "NamedRecords.records_for" aK ["self","name","r"] _ _:=⟨iT aab aac U3,Binds.all (Jy (fun _ _ _=>rfl)),⟨Z9,aaa,U3⟩⟩
 have bV:eV K CN "put_made" "NamedRecords.put_made" bU ["self","record"] _ _:=⟨iT aaf aag U5,Binds.all (tK (fun _ _=>rfl)),⟨aad,aae,U5⟩⟩
 have agt:Cls K CN:=⟨aah,aai,aaj,aak⟩
 have ig:Mk K CN _:=⟨aal,UL,UT,aam⟩
 have ir:=PySem.W.mg_of X G ACN
 have dU:eV K CS "__init__" "Settling.__init__" bB ["self","r","records"] _ _:=⟨iT aan aao U9,Binds.all (Jy (fun _ _ _=>rfl)),⟨U7,U8,U9⟩⟩
 have dz:eV K CS "lacking" "Settling.lacking" aW ["self","known"] _ _:=⟨iT aar aas Vb,Binds.all (tK (fun _ _=>rfl)),⟨aap,aaq,Vb⟩⟩
 have dN:eV K CS "fit_on" "Settling.fit_on" cO ["self","worth"] _ _:=⟨iT aav aaw Vd,Binds.all (tK (fun _ _=>rfl)),⟨aat,aau,Vd⟩⟩
 have aR:eV K CS "was_reckoned" "Settling.was_reckoned" aZ ["self"] _ _:=⟨iT aaz aaA Vf,Binds.all (QH (fun _=>rfl)),⟨aax,aay,Vf⟩⟩
 have cL:eV K CS "new_record" "Settling.new_record" bL ["self"] _ _:=⟨iT aaD aaE Vh,Binds.all (QH (fun _=>rfl)),⟨aaB,aaC,Vh⟩⟩
 have agu:Cls K CS:=⟨aaF,aaG,aaH,aaI⟩
 have wI:Mk K CS _:=⟨aaJ,U7,U8,aaK⟩
 have wJ:=PySem.W.mg_of X G ACS
 have eZ:eV K CE "__init__" "Search.__init__" cg ["self","house","old"] _ _:=⟨iT aaL aaM Vl,Binds.all (Jy (fun _ _ _=>rfl)),⟨Vj,Vk,Vl⟩⟩
 have fY:eV K CE "begin" "Search.begin" bW ["self","name"] _ _:=⟨iT aaP aaQ Vn,Binds.all (tK (fun _ _=>rfl)),⟨aaN,aaO,Vn⟩⟩
 have iH:eV K CE "end" "Search.end" di ["self","name","settling"] _ _:=⟨iT aaT aaU Vp,Binds.all (Jy (fun _ _ _=>rfl)),⟨aaR,aaS,Vp⟩⟩
 have fG:eV K CE "settle" "Search.settle" aU ["self","name"] _ _:=⟨iT aaX aaY Vr,Binds.all (tK (fun _ _=>rfl)),⟨aaV,aaW,Vr⟩⟩
 have agv:Cls K CE:=⟨aaZ,aa0,aa1,aa2⟩
 have Br:Mk K CE _:=⟨aa3,Vj,Vk,aa4⟩
 have Bs:=PySem.W.mg_of X G ACE
 have T:Blt mg:=⟨PySem.W.mg_none_of X G Rq,PySem.W.mg_none_of X G Fe,PySem.W.mg_none_of X G Rr,PySem.W.mg_none_of X G Rt,PySem.W.mg_none_of X G Jz,PySem.W.mg_none_of X G Ff,PySem.W.mg_none_of X G rO,PySem.W.mg_none_of X G JB,PySem.W.mg_none_of X G JC,PySem.W.mg_none_of X G Ru,PySem.W.mg_none_of X G Rv,PySem.W.mg_none_of X G Rw,PySem.W.mg_none_of X G Rx,PySem.W.mg_none_of X G Ry,PySem.W.mg_none_of X G BK,PySem.W.mg_none_of X G Rz,PySem.W.mg_none_of X G vg,PySem.W.mg_none_of X G RC,PySem.W.mg_none_of X G wY,PySem.W.mg_none_of X G RD⟩
 refine⟨PySem.W.fnOf "law" "law" (bK cG) (bx cG) (aa cG) .none acO acP acQ acK ZG acR,fun s v=> .of_eq rfl,fun base _ _=> ?_⟩
 have fj:eV K CNo "__init__" "NoName.__init__" cz ["self","name"] _ _:=⟨iT aa7 aa8 Vt,Binds.all (tK (fun _ _=>rfl)),⟨aa6,Vs,Vt⟩⟩
 have gD:eV K CRi "__init__" "Ring.__init__" cH ["self","ring"] _ _:=⟨iT abf abg Vv,Binds.all (tK (fun _ _=>rfl)),⟨abe,Vu,Vv⟩⟩
 have vC:ExI K CNo _:=⟨⟨_,_,_,_,_,_,_,_,_,_,_,_,_,_,_,QK,QL,QM,QV⟩,QX⟩
 have Hh:ExI K CRi _:=⟨⟨_,_,_,_,_,_,_,_,_,_,_,_,_,_,_,Q0,Q3,Q4,Q5⟩,Q6⟩
 have cuM:ExU K CM:=⟨spM,rdM,fcM⟩
 have mM:=PySem.W.mg_of X G ACM
 have mNo:=PySem.W.mg_of X G aa5
 have mRi:=PySem.W.mg_of X G abd
 have NI:=wH (P:=l.prog) (w:=w) (base:=base) (mg:=mg) fj vC cuM mM K1
 have RI:=yz (P:=l.prog) (w:=w) (base:=base) (mg:=mg) gD Hh cuM mM K3 T
 have rkc:RkC K CK:=⟨ags,BJ,yH,yI⟩
 have nrc:NrC K CN:=⟨agt,u6⟩
 have sec:SeC K CS:=⟨agu,wX,u9,yJ,pN⟩
 have src:SrC K CE:=⟨agv,yK,vd,Fd,yL,vf,rN⟩
 have D1:=MK (P:=l.prog) (w:=w) (base:=base) lA T
 have D2:=rZ (P:=l.prog) (w:=w) (base:=base) (mg:=mg) dB rkc
 have D3:=wk (P:=l.prog) (w:=w) (base:=base) dI lA D1 T rkc
 have D4:=ux (P:=l.prog) (w:=w) (base:=base) cV dI D3 T rkc
 have D5:=wz (P:=l.prog) (w:=w) (base:=base) aV T kd
 have D6:=Bp (P:=l.prog) (w:=w) (base:=base) d7 aV D5 T kd 10
 have D7:=o9 (P:=l.prog) (w:=w) (base:=base) (mg:=mg) bh nrc
 have D8:=pA (P:=l.prog) (w:=w) (base:=base) (mg:=mg) bV
 have D9:=mH (P:=l.prog) (w:=w) (base:=base) bJ d7 D6 T nrc
 have C1:=uF (P:=l.prog) (w:=w) (base:=base) dU dB D2 uH uI sec
 have C2:=pC (P:=l.prog) (w:=w) (base:=base) aR T sec
 have C3:=wC (P:=l.prog) (w:=w) (base:=base) (mg:=mg) dN sec
 have C4:=vI (P:=l.prog) (w:=w) (base:=base) dz dN C3 cV D4 T sec rkc
 have C5:=rC (P:=l.prog) (w:=w) (base:=base) cL aR C2 T sec rkc
 have C6:=wF (P:=l.prog) (w:=w) (base:=base) (mg:=mg) eZ src
 have C7:=zj (P:=l.prog) (w:=w) (base:=base) (CRi:=CRi) fY bJ D9 dU C1 wI wJ fj NI vC Vs mNo T src nrc
 have C8:=Ck (P:=l.prog) (w:=w) (base:=base) iH cL C5 aR C2 bV D8 T src sec nrc
 have C9:=yC (P:=l.prog) (w:=w) (base:=base) fG fY C7 dz C4 iH C8 gD RI Hh Vu mRi T src sec
 have CC:=Hi (P:=l.prog) (w:=w) (base:=base) d8 eZ C6 fG C9 Br Bs T src
 have rk:RfK K CM CNo CRi CRd CRc CDd CTx CRw:=⟨⟨Q7,Q8,Q9,Ra,Rb,Rc⟩,⟨Rg,Rh,Ri,Rj,Rk,Ro⟩,⟨K1,Rf⟩,⟨K3,Rp⟩,eN,eR,N1,N2,N3,N4,N5,NV,NN,NR,R1,R2,R3,R4,R5,RV,RN,RR⟩
 have DW:=Hl (P:=l.prog) (w:=w) (base:=base) jf d8 CC bh D7 ig ir T src
 have DR:=Ho (P:=l.prog) (w:=w) (base:=base) jg d8 CC bh D7 ig ir T src
 have F1:=Hr (P:=l.prog) (w:=w) (base:=base) gb T
 have F2:=Ex (P:=l.prog) (w:=w) (base:=base) iz gb F1 T
 have F3:=Hs (P:=l.prog) (w:=w) (base:=base) cF T
 have F4:=Bu (P:=l.prog) (w:=w) (base:=base) fM rk mNo mRi (PySem.W.mg_of X G abk) (PySem.W.mg_of X G abl) (PySem.W.mg_of X G abm) (PySem.W.mg_of X G abn) (PySem.W.mg_of X G abo) (PySem.W.mg_none_of X G zV) kd T
 have F5:=Ht (P:=l.prog) (w:=w) (base:=base) jh rk jf DW jg DR fM F4 mM T
 have F6:=Ey (P:=l.prog) (w:=w) (base:=base) iC cF F3 T
 exact ZC Qs iz F2 cF F3 jh F5 iC F6 T
theorem walk {l:PySem.W.OpenLaw}{q:Program}{loose:List Str}{XP:(Str->Option Value)->Heap->Prop}{YP:World->Heap->Prop}{d:DefRec}{K:Params->PySem.W.Frag} (hn:l.most=some 63) (hdf:d.params.defaults=[])
 (hY:∀(w:World) (h:Heap),YP w h->(K w.params).In h)
 (F:∀(w:World) (mg:Str->Option Value) (fa:Addr) (h:Heap),(K w.params).In h->h.Ns mainGlobals mg->mg d.name=some (.ref fa)->
   ∃fd:FuncData,(∀(s:Shared) (u:Value),BindsTo s fd ⟨[u],[]⟩ [("script",u)])/\∀base:Heap,(K w.params).In base->base.Ns mainGlobals mg->bI l.prog w (K w.params) mg base CX0 19 fa fd ["script"] (Kc (K w.params))):
 PySem.W.WalkO q loose XP YP l.row.toRowW d [] (fun f vs=>PySem.call f vs):=
 L2.JZ (n:=63) (k:=19) (x:="script") (CX:=fun _=>CX0) (sp:=fun w=>Kc (K w.params)) hn (by decide) hdf ⟨rfl,by decide,by decide⟩ hY F (fun _ _ a ns hl _ hS=>⟨a,ns,rfl,hS,hl,fun _=>rfl⟩) fun _ _ _ _ _ z=>z
end K12
open PySem PySem.W PyProof.Rows
namespace PySem.W.Fast
def tw9291919723429225480:Nat:=0
def tw2420089649630387023:Nat:=0
def tw13196688508952770403:Nat:=0
def tw9760312208779961697:Nat:=0
def tw10836817986416232605:Nat:=0
def tw13991567293245767178:Nat:=0
def tw1615571833489955989:Nat:=0
def tw5855648141217530406:Nat:=0
def tw597911638202230565:Nat:=0
def tw7383695322014759339:Nat:=0
def tw13450001594284781695:Nat:=0
def tw6463985636571330473:Nat:=0
def tw3598190823928998696:Nat:=0
def tw7462203115722101884:Nat:=0
def tw14322349929514621687:Nat:=0
def tw12865701866235894763:Nat:=0
def tw1026896870228938257:Nat:=0
def tw3025702896158949276:Nat:=0
def tw968535425172864836:Nat:=0
def tw16632808032051379503:Nat:=0
def tw2495368371193187790:Nat:=0
def tw5870290516538669955:Nat:=0
def tw5345788244005110996:Nat:=0
def tw16130920776937294670:Nat:=0
def tw4425205271129922137:Nat:=0
def tw4362254363009067017:Nat:=0
def tw1659772544958215446:Nat:=0
def tw2645109507727501052:Nat:=0
def tw6559496846854872454:Nat:=0
def tw5522638494185455222:Nat:=0
def tw6406070561537525435:Nat:=0
def tw6988755789871556664:Nat:=0
def tw10332994225731922616:Nat:=0
def tw2487103554704743060:Nat:=0
def tw15748092335324432171:Nat:=0
def tw15246968810913750567:Nat:=0
def tw2451110136510048557:Nat:=0
def tw14442601848251382355:Nat:=0
def tw14496609600596792932:Nat:=0
def tw3871175636054444660:Nat:=0
def tw239995959672752957:Nat:=0
def tw18279831535733363596:Nat:=0
def tw9468848424467343501:Nat:=0
def tw11171707003798599529:Nat:=0
def tw11107913170766394686:Nat:=0
def tw240197374070423572:Nat:=0
def tw14775795829870424855:Nat:=0
def tw7026292218571865115:Nat:=0
def tw12993321063975375566:Nat:=0
def tw5783201449577745297:Nat:=0
def tw768019207975289631:Nat:=0
def tw862260926934976596:Nat:=0
def tw15667089184867141607:Nat:=0
def tw15155929271914718618:Nat:=0
def tw12684367299593395256:Nat:=0
def tw16707548207765796794:Nat:=0
def tw14931096592376460063:Nat:=0
def tw8461856092993248984:Nat:=0
def tw992079007873363022:Nat:=0
def tw11743581344563601667:Nat:=0
def tw14639705940009355329:Nat:=0
def tw123838981940792708:Nat:=0
def tw14878000760167037157:Nat:=0
def tw13524135179294044194:Nat:=0
def tw10629238656983049045:Nat:=0
def tw579533227582511802:Nat:=0
def tw2402135764449815883:Nat:=0
def tw11531400311565206445:Nat:=0
def tw14257319646969875377:Nat:=0
def tw11592558984223210422:Nat:=0
def tw16108566451062813935:Nat:=0
def tw706203554144054227:Nat:=0
def tw11773885102391372380:Nat:=0
def tw11820777353480980487:Nat:=0
def tw17757335274635459040:Nat:=0
def tw7227484363065135841:Nat:=0
def tw5021697386051421416:Nat:=0
def tw13251621572770452803:Nat:=0
def tw3651581607559151795:Nat:=0
def tw15899024282830355884:Nat:=0
def tw7688333706117891352:Nat:=0
def tw3414681166845059236:Nat:=0
def tw4428141997459728690:Nat:=0
def tw11755670855399439645:Nat:=0
def tw6379517240021647786:Nat:=0
def tw15961568032792535310:Nat:=0
def tw16144637812209678933:Nat:=0
def tw4797047913359692262:Nat:=0
def tw98788139265862683:Nat:=0
def tw7497718700621742699:Nat:=0
def tw9991439253605469030:Nat:=0
def tw12391204090758089562:Nat:=0
def tw14607653888150289181:Nat:=0
def tw1216411656072578472:Nat:=0
def tw16715988844683063432:Nat:=0
def tw12940576257650189502:Nat:=0
def tw7130158977179709809:Nat:=0
def tw12374180141921986498:Nat:=0
def tw8740113244042113298:Nat:=0
def tw2558352469472215183:Nat:=0
def tw17191056341784995898:Nat:=0
def tw13866965823811811034:Nat:=0
def tw9139573445997160082:Nat:=0
def tw15747819589485461950:Nat:=0
def tw17475277209816707587:Nat:=0
def tw12436007548567398246:Nat:=0
def tw8582581933803967595:Nat:=0
def tw8516949284544903893:Nat:=0
def tw2710831688190960473:Nat:=0
def tw5850601734058755501:Nat:=0
def tw14529904422550808846:Nat:=0
def tw15517349919494760554:Nat:=0
def tw7709930578747962020:Nat:=0
def tw15683828637558864287:Nat:=0
def tw8424789797877290869:Nat:=0
def tw55915303045033369:Nat:=0
def tw13845332998585534813:Nat:=0
def tw8551922311564548628:Nat:=0
def tw12193121488222037899:Nat:=0
def tw5433815793346719002:Nat:=0
def tw5149862690317230002:Nat:=0
def tw2747430157935962176:Nat:=0
def tw12834675277908484709:Nat:=0
def tw13396936791797797460:Nat:=0
def tw978624887252192100:Nat:=0
def tw1903603716531638559:Nat:=0
def tw15771731362733814404:Nat:=0
def tw10397212320341026247:Nat:=0
def tw18365233474902800639:Nat:=0
def tw1834867604003442689:Nat:=0
def tw16976643939839441812:Nat:=0
def tw2347175050818201335:Nat:=0
def tw3901115828745145485:Nat:=0
def tw2250750902626502187:Nat:=0
def tw10256721340728470561:Nat:=0
def tw9600735800716450338:Nat:=0
def tw7640094234498686595:Nat:=0
def tw16423813768377949378:Nat:=0
def tw16872372329862951350:Nat:=0
def tw10865709906199918283:Nat:=0
def tw8782822841034746084:Nat:=0
def tw8069821491847272910:Nat:=0
def tw14988151355912967735:Nat:=0
def tw17128036363624349132:Nat:=0
def tw3118705322404556533:Nat:=0
def tw4318783990136298097:Nat:=0
def tw11936437943233533250:Nat:=0
def tw8905038250113798124:Nat:=0
def tw12126295427586851410:Nat:=0
def tw10431948412956795705:Nat:=0
def tw6790992415028248392:Nat:=0
def tw15478303206339712371:Nat:=0
def tw7980097873930560040:Nat:=0
def tw4897767139915215343:Nat:=0
def tw4268830922609574213:Nat:=0
def tw15888397619608154442:Nat:=0
def tw18431923765687458179:Nat:=0
def tw18136488786823252576:Nat:=0
def tw6574914765237244993:Nat:=0
def tw7887353042818239715:Nat:=0
def tw15564143500173270803:Nat:=0
def tw12385042844662367581:Nat:=0
def tw17375227931139638458:Nat:=0
def tw9581011589160711504:Nat:=0
def tw5091937881422264538:Nat:=0
def tw10429222412715544611:Nat:=0
def tw13945840146112772010:Nat:=0
def tw4547105386597043027:Nat:=0
def tw202195536681342746:Nat:=0
def tw18216193417320404026:Nat:=0
def tw17295112916035769593:Nat:=0
def tw47666198812560885:Nat:=0
def tw842667263709077394:Nat:=0
def tw9364140263769885085:Nat:=0
def tw11698056331025404333:Nat:=0
def tw11882909146073590283:Nat:=0
def tw11388152215456354479:Nat:=0
def tw808995762167635092:Nat:=0
def tw13034979410044483248:Nat:=0
def tw13552488932331506227:Nat:=0
def tw10212016085519710048:Nat:=0
def tw26291483504656825:Nat:=0
def tw11542099103429720056:Nat:=0
def tw13718296998289223328:Nat:=0
def tw1630699410448795331:Nat:=0
def tw6810224362780905224:Nat:=0
def tw6595252756800815928:Nat:=0
def tw724804427751399957:Nat:=0
def tw18397641170342932950:Nat:=0
def tw9086938286511034269:Nat:=0
def tw8139047392197976304:Nat:=0
def tw10699345070259161864:Nat:=0
def tw10739900248631893316:Nat:=0
def tw5994263199533800618:Nat:=0
def tw4659902805481224038:Nat:=0
def tw17997956981233397065:Nat:=0
def tw16259185259823247010:Nat:=0
def tw8619962493650794959:Nat:=0
def tw15409707551782221662:Nat:=0
def tw18253668527416959679:Nat:=0
def tw5558534804297390164:Nat:=0
def tw1296876263040487393:Nat:=0
def tw6950889377839260957:Nat:=0
def tw5535858040583135498:Nat:=0
def tw7618840644774010807:Nat:=0
def tw8706186475507728850:Nat:=0
def tw11498420076296733056:Nat:=0
def tw3411074913536765181:Nat:=0
def tw11458887769708844777:Nat:=0
def tw10242367745956406554:Nat:=0
def tw6086699613082591443:Nat:=0
def tw5772020286230767509:Nat:=0
def tw6175239316913639271:Nat:=0
def tw347024815768215360:Nat:=0
def tw11030018283474537743:Nat:=0
def tw15715045462271232441:Nat:=0
def tw3170396890194578190:Nat:=0
def tw8209299969040651285:Nat:=0
def tw14890188313840942809:Nat:=0
def tw14908786792796985119:Nat:=0
def tw7164441591438865396:Nat:=0
def tw14749134273486207646:Nat:=0
def tw1360689621925864882:Nat:=0
def tw12060784555832423575:Nat:=0
def tw12837456800158651558:Nat:=0
def tw11992362277769296746:Nat:=0
def tw18273455660162052114:Nat:=0
def tw18006435423779179371:Nat:=0
def tw16355931744635318923:Nat:=0
def tw15200925436470861268:Nat:=0
def tw17919257692668289581:Nat:=0
def tw18198978813801902733:Nat:=0
def tw8953023659251893390:Nat:=0
def tw17526665847517051310:Nat:=0
def tw5434343229972707944:Nat:=0
def tw670868195066224751:Nat:=0
def tw4146845535642845460:Nat:=0
def tw13130492798510437821:Nat:=0
def tw8385723466149263238:Nat:=0
def tw15565030084300081489:Nat:=0
def tw10126959955657092043:Nat:=0
def tw12743058455446671777:Nat:=0
def tw9066273476995657945:Nat:=0
def tw4224524607510920201:Nat:=0
def tw7817483777089207196:Nat:=0
def tw4802133817910220562:Nat:=0
def tw6473554597853818810:Nat:=0
def tw7632538536475617388:Nat:=0
def tw15657782631607476559:Nat:=0
def tw18333127586667504645:Nat:=0
def tw3183420854395642264:Nat:=0
def tw5518809015330201721:Nat:=0
def tw7984012813683334010:Nat:=0
def tw8327207286315553467:Nat:=0
def tw2281330659849298907:Nat:=0
def tw7035029003108495811:Nat:=0
def tw2847284966809433276:Nat:=0
def tw1620660675460725975:Nat:=0
def tw6126722487120738083:Nat:=0
def tw758714907618102465:Nat:=0
def tw17144013522210512110:Nat:=0
def tw15844127938801286996:Nat:=0
def tw16022347201532207618:Nat:=0
def tw9216849548423231438:Nat:=0
def tw2183644375614385208:Nat:=0
def tw3004215879871994322:Nat:=0
def tw8436903013719135925:Nat:=0
def tw8507408205271455975:Nat:=0
def tw17670329036978355874:Nat:=0
def tw11611977619460034550:Nat:=0
def tw12074197359041441250:Nat:=0
def tw13853469420301945774:Nat:=0
def tw4867381769984795993:Nat:=0
def tw12735233072770443769:Nat:=0
def tw15933286359452160243:Nat:=0
def tw8937106693550013938:Nat:=0
def tw16737386774581073358:Nat:=0
def tw8281134932912425856:Nat:=0
def tw4782857433849117568:Nat:=0
def tw12580251795615542788:Nat:=0
def tw1320268477843079496:Nat:=0
def tw1759226963198130254:Nat:=0
def tw15998614885317833851:Nat:=0
def tw2617538803656854457:Nat:=0
def tw10536940082630049487:Nat:=0
def tw5102351539704820151:Nat:=0
def tw17373393951382174556:Nat:=0
def tw166899141674188539:Nat:=0
def tw11404573515540039201:Nat:=0
def tw3399616864885836598:Nat:=0
def tw6979312258459848562:Nat:=0
def tw9092941673175196009:Nat:=0
def tw12410795077689698211:Nat:=0
def tw1139865719918965820:Nat:=0
def tw17095689451235283428:Nat:=0
def tw7917655828351977195:Nat:=0
def tw8628945112484985299:Nat:=0
def tw5694744128483434153:Nat:=0
def tw13612951666469097919:Nat:=0
def tw40133331208918417:Nat:=0
def tw15899000757449549088:Nat:=0
def tw13660112007882042157:Nat:=0
def tw7336274993656037503:Nat:=0
def tw11599119636744914315:Nat:=0
def tw15971770325640713057:Nat:=0
def tw6588476118956479546:Nat:=0
def tw4775975050655300481:Nat:=0
def tw5367213656810355087:Nat:=0
def tw1800589393138136093:Nat:=0
def tw14600668736311357243:Nat:=0
def tw11548973106337399738:Nat:=0
def tw13483264068483567589:Nat:=0
def tw4923897349277594356:Nat:=0
def tw11905082066799230331:Nat:=0
def tw13924399975294851938:Nat:=0
def tw10814784270485516147:Nat:=0
def tw1743764272991530174:Nat:=0
def tw4019254101523932454:Nat:=0
def tw11766676079797720592:Nat:=0
def tw6663178568654059400:Nat:=0
def tw13749299503659378904:Nat:=0
def tw9560192397782247490:Nat:=0
def tw1049561926264775393:Nat:=0
def tw2354022570956644551:Nat:=0
def tw9184162302048407230:Nat:=0
def tw185311454701107597:Nat:=0
def tw11248598537368816204:Nat:=0
def tw14190437934123190346:Nat:=0
def tw14286172994624825911:Nat:=0
def tw16883640366383186979:Nat:=0
def tw4428611592702557442:Nat:=0
def tw15635746185563252131:Nat:=0
def tw239539569323375131:Nat:=0
def tw13406226155928065407:Nat:=0
def tw3573209257700343323:Nat:=0
def tw16742975043971557742:Nat:=0
def tw5389720787608801367:Nat:=0
def tw12286125010457066139:Nat:=0
def tw13000918620178313210:Nat:=0
def tw13707442847980409114:Nat:=0
def tw12046541291004771611:Nat:=0
def tw2360161949385483220:Nat:=0
def tw2163240991656398001:Nat:=0
def tw15977958106584275962:Nat:=0
def tw13549352805291028058:Nat:=0
def tw9107462120253804589:Nat:=0
def tw6480624496415256109:Nat:=0
def tw9931962963255988787:Nat:=0
def tw16713231172691324628:Nat:=0
def tw1024337500011902490:Nat:=0
def tw193154519682115337:Nat:=0
def tw3679397169303354362:Nat:=0
def tw1428854609635424817:Nat:=0
def tw11256375066714741973:Nat:=0
def tw3458728889707045638:Nat:=0
def tw5423010522593519405:Nat:=0
def tw10092966460384419310:Nat:=0
def tw8854306895737229337:Nat:=0
def tw17750963020316523178:Nat:=0
def tw6478299056961655519:Nat:=0
def tw1229608564886603762:Nat:=0
def tw5739290868006540495:Nat:=0
def tw9814812471395128471:Nat:=0
def tw1360661806654095324:Nat:=0
def tw3447200286691595688:Nat:=0
def tw5682818071764475560:Nat:=0
def tw1044362030723084988:Nat:=0
def tw11519621290322246734:Nat:=0
def tw9505669411593120508:Nat:=0
def tw14927882266648019577:Nat:=0
def tw6090121295407945678:Nat:=0
def tw947438074931717625:Nat:=0
def tw5005955592584214160:Nat:=0
def tw2064688319671909542:Nat:=0
def tw5855041003370753119:Nat:=0
def tw1859912878402332820:Nat:=0
def tw6459111943377416764:Nat:=0
def tw6962643110967707943:Nat:=0
def tw6071434570493737482:Nat:=0
def tw2518620137275168567:Nat:=0
def tw215525902690489189:Nat:=0
def tw15140344586641272019:Nat:=0
def tw597568709995763118:Nat:=0
def tw3244810737943574513:Nat:=0
def tw18235927997746390234:Nat:=0
def tw4805475363693500827:Nat:=0
def tw13513852643910283962:Nat:=0
def tw13180069058680908544:Nat:=0
def tw15201536668672370646:Nat:=0
def tw5261608382153313882:Nat:=0
def tw3782253667202777069:Nat:=0
end PySem.W.Fast
set_option maxRecDepth 100000 in
set_option maxHeartbeats 0 in
theorem PySem.Challenge.cw_madeagain_k12_rings_and_names_refused_holds : PySem.Challenge.rw_madeagain_k12_rings_and_names_refused.Holds := by
 w_on;o_law;k_head;(case hw=>w_witness2)
 k_fill
 refine K12.walk (l:=PySem.Challenge.rw_madeagain_k12_rings_and_names_refused) rfl rfl (fun w h Y=>PySem.W.kIn_of Y) ?F
 case F=>
  intro w mg fa h KX G hmg
  refine' K12.all_mk KX G hmg ?a1 ?l1 ?c1 ?k1 ?a2 ?l2 ?c2 ?k2 ?a3 ?l3 ?c3 ?k3 ?a4 ?l4 ?c4 ?k4 ?a5 ?l5 ?c5 ?k5 ?a6 ?l6 ?c6 ?k6 ?a7 ?l7 ?c7 ?k7 ?a8 ?l8 ?c8 ?k8 ?a9 ?l9 ?c9 ?k9 ?a10 ?l10 ?c10 ?k10 ?a11 ?l11 ?c11 ?k11 ?a12 ?l12 ?c12 ?k12 ?a13 ?l13 ?c13 ?k13 ?kd ?ACK ?Uu ?Uv ?ZJ ?ZK ?Uw ?ZL ?ZM ?ZP ?ZQ ?Uy ?ZR ?ZS ?ZV ?ZW ?UG ?ZX ?ZZ ?Z0 ?Z4 ?Z5 ?Z6 ?BJ ?yH ?yI ?ACN ?UL ?UT ?Z7 ?Z8 ?UW ?Z9 ?aaa ?aab ?aac ?U3 ?aad ?aae ?aaf ?aag ?U5 ?aah ?aai ?aaj ?aak ?aal ?aam ?u6 ?ACS ?U7 ?U8 ?aan ?aao ?U9 ?aap ?aaq ?aar ?aas ?Vb ?aat ?aau ?aav ?aaw ?Vd ?aax ?aay ?aaz ?aaA ?Vf ?aaB ?aaC ?aaD ?aaE ?Vh ?aaF ?aaG ?aaH ?aaI ?aaJ ?aaK ?wX ?u9 ?yJ ?pN ?ACE ?Vj ?Vk ?aaL ?aaM ?Vl ?aaN ?aaO ?aaP ?aaQ ?Vn ?aaR ?aaS ?aaT ?aaU ?Vp ?aaV ?aaW ?aaX ?aaY ?Vr ?aaZ ?aa0 ?aa1 ?aa2 ?aa3 ?aa4 ?yK ?vd ?Fd ?yL ?vf ?rN ?aa5 ?aa6 ?Vs ?aa7 ?aa8 ?Vt ?QK ?QL ?QM ?QV ?QX ?K1 ?abd ?abe ?Vu ?abf ?abg ?Vv ?Q0 ?Q3 ?Q4 ?Q5 ?Q6 ?K3 ?ACM ?spM ?rdM ?fcM ?abk ?abl ?abm ?abn ?abo ?Q7 ?Q8 ?Q9 ?Ra ?Rb ?Rc ?Rf ?Rg ?Rh ?Ri ?Rj ?Rk ?Ro ?Rp ?eN ?eR ?N1 ?N2 ?N3 ?N4 ?N5 ?NV ?R1 ?R2 ?R3 ?R4 ?R5 ?RV ?NN ?NR ?RN ?RR ?zV ?Rq ?Fe ?Rr ?Rt ?Jz ?Ff ?rO ?JB ?JC ?Ru ?Rv ?Rw ?Rx ?Ry ?BK ?Rz ?vg ?RC ?wY ?RD
  (case a1=>k_is);(case l1=>k_is);(case c1=>k_is);(case k1=>k_is)
  (case a2=>k_is);(case l2=>k_is);(case c2=>k_is);(case k2=>k_is)
  (case a3=>k_is);(case l3=>k_is);(case c3=>k_is);(case k3=>k_is)
  (case a4=>k_is);(case l4=>k_is);(case c4=>k_is);(case k4=>k_is)
  (case a5=>k_is);(case l5=>k_is);(case c5=>k_is);(case k5=>k_is)
  (case a6=>k_is);(case l6=>k_is);(case c6=>k_is);(case k6=>k_is)
  (case a7=>k_is);(case l7=>k_is);(case c7=>k_is);(case k7=>k_is)
  (case a8=>k_is);(case l8=>k_is);(case c8=>k_is);(case k8=>k_is)
  (case a9=>k_is);(case l9=>k_is);(case c9=>k_is);(case k9=>k_is)
  (case a10=>k_is);(case l10=>k_is);(case c10=>k_is);(case k10=>k_is)
  (case a11=>k_is);(case l11=>k_is);(case c11=>k_is);(case k11=>k_is)
  (case a12=>k_is);(case l12=>k_is);(case c12=>k_is);(case k12=>k_is)
  (case a13=>k_is);(case l13=>k_is);(case c13=>k_is);(case k13=>k_is)
  (case kd=>exact RB.Oq (by kernel_rfl))
  (case ACK=>k_is);(case Uu=>k_is);(case Uv=>k_is);(case ZJ=>k_is);(case ZK=>k_is);(case Uw=>k_is);(case ZL=>k_is);(case ZM=>k_is);(case ZP=>k_is);(case ZQ=>k_is);(case Uy=>k_is);(case ZR=>k_is);(case ZS=>k_is);(case ZV=>k_is);(case ZW=>k_is);(case UG=>k_is);(case ZX=>k_is);(case ZZ=>k_is);(case Z0=>k_is);(case Z4=>k_is);(case Z5=>k_is);(case Z6=>k_is);(case BJ=>k_is);(case yH=>k_is);(case yI=>k_is);(case ACN=>k_is);(case UL=>k_is);(case UT=>k_is);(case Z7=>k_is);(case Z8=>k_is);(case UW=>k_is);(case Z9=>k_is);(case aaa=>k_is);(case aab=>k_is);(case aac=>k_is);(case U3=>k_is);(case aad=>k_is);(case aae=>k_is);(case aaf=>k_is);(case aag=>k_is);(case U5=>k_is);(case aah=>k_is);(case aai=>k_is);(case aaj=>k_is);(case aak=>k_is);(case aal=>k_is);(case aam=>k_is);(case u6=>k_is);(case ACS=>k_is);(case U7=>k_is);(case U8=>k_is);(case aan=>k_is);(case aao=>k_is);(case U9=>k_is);(case aap=>k_is);(case aaq=>k_is);(case aar=>k_is);(case aas=>k_is);(case Vb=>k_is);(case aat=>k_is);(case aau=>k_is);(case aav=>k_is);(case aaw=>k_is);(case Vd=>k_is);(case aax=>k_is);(case aay=>k_is);(case aaz=>k_is);(case aaA=>k_is);(case Vf=>k_is);(case aaB=>k_is);(case aaC=>k_is);(case aaD=>k_is);(case aaE=>k_is);(case Vh=>k_is);(case aaF=>k_is);(case aaG=>k_is);(case aaH=>k_is);(case aaI=>k_is);(case aaJ=>k_is);(case aaK=>k_is);(case wX=>k_is);(case u9=>k_is);(case yJ=>k_is);(case pN=>k_is);(case ACE=>k_is);(case Vj=>k_is);(case Vk=>k_is);(case aaL=>k_is);(case aaM=>k_is);(case Vl=>k_is);(case aaN=>k_is);(case aaO=>k_is);(case aaP=>k_is);(case aaQ=>k_is);(case Vn=>k_is);(case aaR=>k_is);(case aaS=>k_is);(case aaT=>k_is);(case aaU=>k_is);(case Vp=>k_is);(case aaV=>k_is);(case aaW=>k_is);(case aaX=>k_is);(case aaY=>k_is);(case Vr=>k_is);(case aaZ=>k_is);(case aa0=>k_is);(case aa1=>k_is);(case aa2=>k_is);(case aa3=>k_is);(case aa4=>k_is);(case yK=>k_is);(case vd=>k_is);(case Fd=>k_is);(case yL=>k_is);(case vf=>k_is);(case rN=>k_is)
  (case aa5=>k_is)
  (case aa6=>k_is)
  (case Vs=>k_is)
  (case aa7=>k_is)
  (case aa8=>k_is)
  (case Vt=>k_is)
  (case QK=>k_is)
  (case QL=>kernel_rfl)
  (case QM=>kernel_rfl)
  (case QV=>kernel_rfl)
  (case QX=>kernel_rfl)
  (case K1=>kernel_rfl)
  (case abd=>k_is)
  (case abe=>k_is)
  (case Vu=>k_is)
  (case abf=>k_is)
  (case abg=>k_is)
  (case Vv=>k_is)
  (case Q0=>k_is)
  (case Q3=>kernel_rfl)
  (case Q4=>kernel_rfl)
  (case Q5=>kernel_rfl)
  (case Q6=>kernel_rfl)
  (case K3=>kernel_rfl)
  (case ACM=>k_is)
  (case spM=>kernel_rfl)
  (case rdM=>kernel_rfl)
  (case fcM=>kernel_rfl)
  (case abk=>k_is)
  (case abl=>k_is)
  (case abm=>k_is)
  (case abn=>k_is)
  (case abo=>k_is)
  (case Q7=>kernel_rfl)
  (case Q8=>kernel_rfl)
  (case Q9=>kernel_rfl)
  (case Ra=>kernel_rfl)
  (case Rb=>kernel_rfl)
  (case Rc=>kernel_rfl)
  (case Rf=>kernel_rfl)
  (case Rg=>kernel_rfl)
  (case Rh=>kernel_rfl)
  (case Ri=>kernel_rfl)
  (case Rj=>kernel_rfl)
  (case Rk=>kernel_rfl)
  (case Ro=>kernel_rfl)
  (case Rp=>kernel_rfl)
  (case eN=>kernel_rfl)
  (case eR=>kernel_rfl)
  (case N1=>kernel_rfl)
  (case N2=>kernel_rfl)
  (case N3=>kernel_rfl)
  (case N4=>kernel_rfl)
  (case N5=>kernel_rfl)
  (case NV=>kernel_rfl)
  (case R1=>kernel_rfl)
  (case R2=>kernel_rfl)
  (case R3=>kernel_rfl)
  (case R4=>kernel_rfl)
  (case R5=>kernel_rfl)
  (case RV=>kernel_rfl)
  (case NN=>kernel_rfl)
  (case NR=>kernel_rfl)
  (case RN=>kernel_rfl)
  (case RR=>kernel_rfl)
  (case zV=>k_is)
  (case Rq=>k_is);(case Fe=>k_is);(case Rr=>k_is);(case Rt=>k_is);(case Jz=>k_is);(case Ff=>k_is);(case rO=>k_is);(case JB=>k_is);(case JC=>k_is);(case Ru=>k_is);(case Rv=>k_is);(case Rw=>k_is);(case Rx=>k_is);(case Ry=>k_is);(case BK=>k_is);(case Rz=>k_is);(case vg=>k_is);(case RC=>k_is);(case wY=>k_is);(case RD=>k_is)
