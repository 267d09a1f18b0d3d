import PyProof.Rows.All
import Wide.All
import OpenK.AllK
import Wide.FinOn
import Lean
import PyProof.EqAt
import PyProof.EqKinds
import PyProof.TupleCall
import KE.KTops
import KE.KIntText
import KE.KTryMore
import PyProof.ExcBaseAll.ValueError
import PyProof.ZipIter
import KE.KTurns
import PyProof.Rows.SetFrom
import KE.KxText
import PyProof.Rows.SumGenD
import KE.KDictList
import PyProof.DictWalks
import KE.KEqDict
import KE.KDictOf
import PyProof.Rows.SortStr
import PyProof.Rows.SortWalk
import PyProof.WalksEnum
import KE.KItemsList
import PyProof.Rows.SumAny
import PySem.Challenge.RW_madeagain_k41_whole_reach_of_changes
set_option Elab.async false
set_option linter.all false
set_option maxRecDepth 100000
noncomputable section
namespace L2
open PySem PySem.Spec PyProof.Rows
abbrev Key:=Sum Int Str
def zR:Key->Value->Bool
 | .inl k,v=>Value.isInt k v
 | .inr x,v=>Value.isStrOf x v
def ad4 (w:World):Key->Int
 | .inl k=>hashInt k
 | .inr x=>hashStr w x
theorem gf:∀{k:Key}{v:Value},zR k v=true->(∃i t,k=Sum.inl i/\v=Value.int i t)\/(∃x t,k=Sum.inr x/\v=Value.str x t)
 | .inl i,v,h=>by
   obtain⟨t,e⟩:=Value.isInt_shape (k:=i) (v:=v) h
   exact .inl ⟨i,t,rfl,e⟩
 | .inr x,v,h=>by
   obtain⟨t,e⟩:=Value.isStrOf_shape (x:=x) (v:=v) h
   exact .inr ⟨x,t,rfl,e⟩
theorem KQ (i:Int) (t:Tok):zR (.inl i) (.int i t)=true:=by simp[zR,Value.isInt]
theorem KR (x:Str) (t:Tok):zR (.inr x) (.str x t)=true:=by simp[zR,Value.isStrOf]
theorem VB (a b:Int):decide ((Sum.inl a:Key)=Sum.inl b)=(a==b):=by
 by_cases e:a=b
 ·subst e;simp
 ·have h:¬(Sum.inl a:Key)=Sum.inl b:=fun q=>e (Sum.inl.inj q)
  rw[decide_eq_false h]
  exact(beq_eq_false_iff_ne.mpr e).symm
theorem VD (a b:Str):decide ((Sum.inr a:Key)=Sum.inr b)=decide (a=b):=by
 by_cases e:a=b
 ·subst e;simp
 ·have h:¬(Sum.inr a:Key)=Sum.inr b:=fun q=>e (Sum.inr.inj q)
  rw[decide_eq_false h,decide_eq_false e]
theorem VF (a:Int) (b:Str):decide ((Sum.inl a:Key)=Sum.inr b)=false:=decide_eq_false (fun q=>nomatch q)
theorem VG (a:Str) (b:Int):decide ((Sum.inr a:Key)=Sum.inl b)=false:=decide_eq_false (fun q=>nomatch q)
def cW (prog:Program) (w:World):PySem.KeyKind prog w Key where
 is:=zR
 hash:=ad4 w
 inj:=fun v a b ha hb=>by
  rcases gf ha with⟨i,t,rfl,rfl⟩ | ⟨x,t,rfl,rfl⟩
  ·rcases gf hb with⟨j,u,rfl,e⟩ | ⟨y,u,rfl,e⟩
   ·injection e with e1 _;rw[e1]
   ·exact nomatch e
  ·rcases gf hb with⟨j,u,rfl,e⟩ | ⟨y,u,rfl,e⟩
   ·exact nomatch e
   ·injection e with e1 _;rw[e1]
 byValue:=fun k v h=>by
  rcases gf h with⟨i,t,rfl,rfl⟩ | ⟨x,t,rfl,rfl⟩<;>rfl
 pyHash:=fun hv h=>by
  rcases gf hv with⟨i,t,rfl,rfl⟩ | ⟨x,t,rfl,rfl⟩
  ·exact wpAny_pyHash_int h
  ·exact wpAny_pyHash_str h
 eqBool:=fun hu hv h=>by
  rcases gf hu with⟨i,t,rfl,rfl⟩ | ⟨x,t,rfl,rfl⟩
  ·rcases gf hv with⟨j,u,rfl,rfl⟩ | ⟨y,u,rfl,rfl⟩
   ·rw[VB] at h;exact wpAny_eqBool_int h
   ·rw[VF] at h;exact SeqAt.EqAt.int_str i t y u _ _ _ _ h
  ·rcases gf hv with⟨j,u,rfl,rfl⟩ | ⟨y,u,rfl,rfl⟩
   ·rw[VG] at h;exact SeqAt.EqAt.str_int x t j u _ _ _ _ h
   ·rw[VD] at h;exact wpAny_eqBool_str h
 «strs»:=fun k x t v h=>by
  rcases gf h with⟨i,u,rfl,e⟩ | ⟨y,u,rfl,e⟩
  ·exact nomatch e
  ·injection e with e1 _
   subst e1
   cases v<;>rfl
theorem Gu (prog:Program) (w:World) (i:Int) (t:Tok):(cW prog w).is (.inl i) (.int i t)=true:=KQ i t
theorem Gv (prog:Program) (w:World) (x:Str) (t:Tok):(cW prog w).is (.inr x) (.str x t)=true:=KR x t
end L2
namespace L2
open PySem PySem.Spec PyProof.Rows
inductive V where
 | non | bl (b:Bool) | int (i:Int) | str (x:Str) | byt (b:Array UInt8) | flt (b:UInt64) | ref (a:Addr) | ty (n:String)
 deriving DecidableEq
def RelV:V->Value->Prop
 | .non,u=>u=Value.none
 | .bl b,u=>u=Value.bool b
 | .int i,u=>∃t,u=Value.int i t
 | .str x,u=>∃t,u=Value.str x t
 | .byt b,u=>∃t,u=Value.bytes b t
 | .flt b,u=>∃t,u=Value.float b t
 | .ref a,u=>u=Value.ref a
 | .ty n,u=>u=Value.type n
abbrev Vals:List V->List Value->Prop:=Paired RelV
theorem Vals.length {xs:List V}{us:List Value} (r:Vals xs us):xs.length=us.length:=Paired.length r
theorem Vals.get:∀{xs:List V}{us:List Value}{i:Nat}{x:V},Vals xs us->xs[i]? =some x->∃u,us[i]? =some u/\RelV x u
 | _,_,_,_, .nil,e=>by simp at e
 | _,_,0,_, .cons r _,e=>by simp at e;subst e;exact⟨_,rfl,r⟩
 | _,_,i+1,x, .cons _ t,e=>by
   obtain⟨u,h1,h2⟩:=Vals.get (i:=i) (x:=x) t (by simpa using e)
   exact⟨u,by simpa using h1,h2⟩
theorem Vals.append:∀{xs ys:List V}{us ws:List Value},Vals xs us->Vals ys ws->Vals (xs++ys) (us++ws)
 | _,_,_,_, .nil,s=>s
 | _,_,_,_, .cons r t,s=> .cons r (Vals.append t s)
theorem Vals.take:∀{xs:List V}{us:List Value} (n:Nat),Vals xs us->Vals (xs.take n) (us.take n)
 | _,_,0,_=> .nil
 | _,_,_+1, .nil=> .nil
 | _,_,n+1, .cons r t=> .cons r (Vals.take n t)
theorem Vals.drop:∀{xs:List V}{us:List Value} (n:Nat),Vals xs us->Vals (xs.drop n) (us.drop n)
 | _,_,0,r=>r
 | _,_,_+1, .nil=> .nil
 | _,_,n+1, .cons _ t=>Vals.drop n t
def vP:Option V->Option Value->Prop
 | some v,some u=>RelV v u
 | none,none=>True
 | _,_=>False
def KV {κ:Type}:List (κ×V)->List (κ×Value)->Prop:=Paired fun(p:κ×V) (q:κ×Value)=>p.1=q.1/\RelV p.2 q.2
def kV:Key->V
 | .inl i=> .int i
 | .inr x=> .str x
inductive HO where
 | lst (xs:List V)
 | tup (xs:List V)
 | dK (kvs:List (Key×V)) | dT (kvs:List (List Key×V))
 | set (S:Int->Bool) (n:Nat)
 | ins (C dx:Addr) (fs:List (Str×V))
 | own (x:Addr)
 | xd (fs:List (Str×V))
 | met (f x:Addr)
 | rng (lo hi:Int)
 | frz (o:Obj) (u:HO)
 | tbl (ps:Array Value)
 | ext (φ:Heap->Prop)
abbrev Hp:=Addr->Option HO
def upd (H:Hp) (a:Addr) (o:HO):Hp:=fun b=>if b=a then some o else H b
theorem ak {H:Hp}{a:Addr}{o:HO}:upd H a o a=some o:=by unfold upd;rw[if_pos rfl]
theorem ao {H:Hp}{a b:Addr}{o:HO} (h:b≠a):upd H a o b=H b:=by unfold upd;rw[if_neg h]
theorem rK {H:Hp}{a:Addr}{o u:HO}:upd (upd H a o) a u=upd H a u:=by
 funext b;unfold upd;split<;>rfl
theorem ZV {H:Hp}{a b:Addr}{o u:HO} (h:H a=some o) (h':H b=some u) (d:o≠u):a≠b:=by
 intro e;subst e;rw[h] at h';exact d (Option.some.inj h')
theorem aF {H:Hp}{a b:Addr}{o:HO} (h:H a=some o) (h':H b=none):a≠b:=by
 intro e;subst e;rw[h] at h';cases h'
section
variable (P:Program) (w:World)
def eN (H:Hp) (h:Heap) (a:Addr):HO->Prop
 | .lst xs=>xs.length<=sizeLine/\∃(its:List Value) (n:Nat),Vals xs its/\h.get? a=some {cls:= .type "list",data:= .seq its.toArray n}
 | .tup xs=>xs.length<=sizeLine/\∃its:List Value,Vals xs its/\IsTup h a its.toArray
 | .dK kvs=>kvs.length<=sizeLine/\(a==sysModules)=false/\∃vs,KV kvs vs/\h.DictOf (cW P w) a vs
 | .dT kvs=>kvs.length<=sizeLine/\(a==sysModules)=false/\∃xs:List (List Key×Addr×Value),
     Paired (fun(p:List Key×V) (q:List Key×Addr×Value)=>p.1=q.1/\H q.2.1=some (.tup (p.1.map kV))/\RelV p.2 q.2.2) kvs xs/\
     ∃o es ep,h.get? a=some o/\o.ExactDict/\o.data= .dict es ep/\es.toList=xs.map (entryOfKey (tupleKind (cW P w)))/\(xs.map (·.1)).Nodup
 | .set S n=>h.SetOf (intKind P w) a S n
 | .ins C dx fs=>H dx=some (.own a)/\fs.length<=1000/\dx≠a/\h.get? a=some (PySem.W.instObj C dx)/\
     ∃mA,h.Ns1 dx mA/\(∀f,vP (fs.lookup f) (mA f))/\PySem.Within mA (fs.map (·.1))
 | .own _=>∃o,h.get? a=some o
 | .xd fs=>∃mA,h.Ns1 a mA/\∀f,vP (fs.lookup f) (mA f)
 | .rng lo hi=>∃t u v,h.get? a=some {cls:= .type "range",data:= .fields #[.int lo t, .int hi u, .int 1 v]}
 | .frz o u=>h.get? a=some o/\eN H h a u
 | .tbl ps=>h.get? a=some {cls:= .none,data:= .fields ps}
 | .met f x=>h.get? a=some (PySem.W.methodObj (.ref f) (.ref x))
 | .ext φ=>φ h/\(∃o,h.get? a=some o)/\∀h1 h2:Heap,φ h1->(∀o,h1.get? a=some o->h2.get? a=some o)->φ h2
def HOk (H:Hp) (h:Heap):Prop:=∀a o,H a=some o->eN P w H h a o
end
section
variable {P:Program}{w:World}{H H':Hp}{h h':Heap}{a:Addr}{o:HO}
theorem eN.lt (x:eN P w H h a o):a<h.objs.size:=by
 cases o with
 | lst xs=>obtain⟨_,_,_,_,e⟩:=x;exact Heap.lt_size e
 | tup xs=>obtain⟨_,_,_,p⟩:=x;exact p.lt
 | dK kvs=>obtain⟨_,_,_,_,o,_,_,e,_⟩:=x;exact Heap.lt_size e
 | dT kvs=>obtain⟨_,_,_,_,o,_,_,e,_⟩:=x;exact Heap.lt_size e
 | set S n=>obtain⟨o,_,_,_,e,_⟩:=x;exact Heap.lt_size e
 | ins C dx fs=>obtain⟨_,_,_,e,_⟩:=x;exact Heap.lt_size e
 | own y=>obtain⟨_,e⟩:=x;exact Heap.lt_size e
 | xd fs=>obtain⟨_,⟨_,_,_,e,_⟩,_⟩:=x;exact Heap.lt_size e
 | rng lo hi=>obtain⟨_,_,_,e⟩:=x;exact Heap.lt_size e
 | frz ob u=>obtain⟨e,_⟩:=x;exact Heap.lt_size e
 | tbl ps=>exact Heap.lt_size (show h.get? a=some _ from x)
 | met f y=>exact Heap.lt_size (show h.get? a=some _ from x)
 | ext φ=>obtain⟨_,⟨_,e⟩,_⟩:=x;exact Heap.lt_size e
theorem Paired.VH {α β:Type}{F G:α->β->Prop}:∀{l₁:List α}{l₂:List β},Paired F l₁ l₂->(∀a b,F a b->G a b)->Paired G l₁ l₂
 | _,_, .nil,_=> .nil
 | _,_, .cons r t,f=> .cons (f _ _ r) (Paired.VH t f)
theorem eN.stay (x:eN P w H h a o) (k:∀b u,(b=a\/H b=some (.own a))->h.get? b=some u->h'.get? b=some u)
 (ho:∀b,H b=some (.own a)->H' b=some (.own a)) (ht:∀b xs,H b=some (.tup xs)->H' b=some (.tup xs)):eN P w H' h' a o:=by
 induction o with
 | lst xs=>obtain⟨z,its,n,r,e⟩:=x;exact⟨z,its,n,r,k _ _ (.inl rfl) e⟩
 | tup xs=>obtain⟨z,its,r,ob,e,c⟩:=x;exact⟨z,its,r,ob,k _ _ (.inl rfl) e,c⟩
 | dK kvs=>obtain⟨z,y,vs,r,ob,es,ep,e,c⟩:=x;exact⟨z,y,vs,r,ob,es,ep,k _ _ (.inl rfl) e,c⟩
 | dT kvs=>
   obtain⟨z,y,xs,r,ob,es,ep,e,c⟩:=x
   exact⟨z,y,xs,Paired.VH r fun p q z=>⟨z.1,ht _ _ z.2.1,z.2.2⟩,ob,es,ep,k _ _ (.inl rfl) e,c⟩
 | set S n=>obtain⟨ob,es,ep,t,e,c⟩:=x;exact⟨ob,es,ep,t,k _ _ (.inl rfl) e,c⟩
 | ins C dx fs=>
   obtain⟨d,z,ne,e,mA,⟨od,es,ep,e2,c⟩,r⟩:=x
   exact⟨ho _ d,z,ne,k _ _ (.inl rfl) e,mA,⟨od,es,ep,k _ _ (.inr d) e2,c⟩,r⟩
 | own y=>obtain⟨ob,e⟩:=x;exact⟨ob,k _ _ (.inl rfl) e⟩
 | xd fs=>obtain⟨mA,⟨od,es,ep,e,c⟩,r⟩:=x;exact⟨mA,⟨od,es,ep,k _ _ (.inl rfl) e,c⟩,r⟩
 | rng lo hi=>obtain⟨t,u,v,e⟩:=x;exact⟨t,u,v,k _ _ (.inl rfl) e⟩
 | frz ob u ih=>obtain⟨e,q⟩:=x;exact⟨k _ _ (.inl rfl) e,ih q⟩
 | tbl ps=>
   have e:h.get? a=some {cls:= .none,data:= .fields ps}:=x
   show h'.get? a=some {cls:= .none,data:= .fields ps}
   exact k a _ (.inl rfl) e
 | met f y=>
   have e:h.get? a=some (PySem.W.methodObj (.ref f) (.ref y)):=x
   show h'.get? a=some (PySem.W.methodObj (.ref f) (.ref y))
   exact k a _ (.inl rfl) e
 | ext φ=>obtain⟨p,⟨o,e⟩,st⟩:=x;exact⟨st _ _ p fun o q=>k _ _ (.inl rfl) q,⟨o,k _ _ (.inl rfl) e⟩,st⟩
theorem HOk.lt (x:HOk P w H h) (e:H a=some o):a<h.objs.size:=(x a o e).lt
theorem HOk.fresh (x:HOk P w H h) (e:h.objs.size<=a):H a=none:=by
 cases q:H a with
 | none=>rfl
 | some u=>exact absurd (Nat.lt_of_lt_of_le (x.lt q) e) (Nat.lt_irrefl _)
theorem HOk.kept (x:HOk P w H h) (k:∀b u,h.get? b=some u->h'.get? b=some u):HOk P w H h':=fun a o e=>
 (x a o e).stay (fun b u _ q=>k b u q) (fun _ q=>q) fun _ _ q=>q
theorem HOk.laid (x:HOk P w H h) (k:∀b u,h.get? b=some u->h'.get? b=some u) (hp:h.objs.size<=a) (new:eN P w (upd H a o) h' a o):HOk P w (upd H a o) h':=fun b u e=>by
 have hn:=x.fresh hp
 by_cases hb:b=a
 ·subst hb;rw[ak] at e;cases e;exact new
 ·rw[ao hb] at e
  exact(x b u e).stay (fun c v _ q=>k c v q) (fun c q=>by rw[ao (aF q hn)];exact q) fun c xs q=>by rw[ao (aF q hn)];exact q
end
def Rd (H:Hp) (a:Addr) (u:HO):Prop:=H a=some u\/∃o,H a=some (.frz o u)
theorem Rd.ok {P:Program}{w:World}{H:Hp}{h:Heap}{a:Addr}{u:HO} (r:Rd H a u) (x:HOk P w H h):eN P w H h a u:=by
 rcases r with r | ⟨o,r⟩
 ·exact x a u r
 ·obtain⟨_,q⟩:=x a _ r
  exact q
def Mut:Option HO->Prop
 | some (.lst _)=>True
 | some (.dK _)=>True
 | some (.dT _)=>True
 | some (.set _ _)=>True
 | some (.ins _ _ _)=>True
 | some (.ext _)=>True
 | _=>False
section
variable {P:Program}{w:World}{H:Hp}{h h':Heap}{x e:Addr}{o':HO}
theorem HOk.write (ok:HOk P w H h) (mu:Mut (H x)) (he:e=x\/H e=some (.own x)) (k:∀b u,b≠e->h.get? b=some u->h'.get? b=some u) (heo:∃u,h'.get? e=some u)
 (new:eN P w (upd H x o') h' x o'):HOk P w (upd H x o') h':=fun b u q=>by
 have nown:∀c y,H c=some (.own y)->c≠x:=fun c y r z=>by subst z;rw[r] at mu;exact mu
 have ntup:∀c xs,H c=some (.tup xs)->c≠x:=fun c xs r z=>by subst z;rw[r] at mu;exact mu
 by_cases hb:b=x
 ·subst hb;rw[ak] at q;cases q;exact new
 ·rw[ao hb] at q
  by_cases hbe:b=e
  ·have q':H b=some (.own x):=by
    rcases he with z | z
    ·exact absurd (hbe.trans z) hb
    ·rw[hbe];exact z
   rw[q] at q';cases q'
   obtain⟨v,hv⟩:=heo
   exact⟨v,by rw[hbe];exact hv⟩
  ·refine(ok b u q).stay (fun c v hc r=>k c v ?_ r) (fun c r=>by rw[ao (nown c b r)];exact r) fun c xs r=>by rw[ao (ntup c xs r)];exact r
   rcases hc with rfl | hc
   ·exact hbe
   ·rintro rfl
    rcases he with z | z
    ·exact nown c b hc z
    ·rw[hc] at z;cases z;exact hb rfl
end
structure Un (fs ex:List Addr) (H H':Hp) (h h':Heap):Prop where
 keep:∀b o,h.get? b=some o->H b=none->b∉fs->b∉ex->h'.get? b=some o
 slot:∀b o,h.get? b=some o->H b=none->b∈fs->b∉ex->∃sl,h'.get? b=some {o with slots:=sl}
 free:∀b o,h.get? b=some o->H b=none->b∉ex->H' b=none
 there:∀b o,h.get? b=some o->b∉ex->∃o',h'.get? b=some o'
 tups:∀b xs,H b=some (.tup xs)->H' b=some (.tup xs)
 frzs:∀b o u,H b=some (.frz o u)->H' b=some (.frz o u)
 tbls:∀b ps,H b=some (.tbl ps)->∃more,H' b=some (.tbl (ps++more))
section
variable {fs fs' ex ex':List Addr}{H H1 H2:Hp}{h h1 h2 h':Heap}{a x e:Addr}{o:HO}
theorem Un.any (u:Un fs ex H H1 h h1) {b:Addr}{ob:Obj} (q:h.get? b=some ob) (n:H b=none) (hx:b∉ex):∃sl,h1.get? b=some {ob with slots:=sl}:=by
 by_cases hb:b∈fs
 ·exact u.slot b ob q n hb hx
 ·exact⟨ob.slots,u.keep b ob q n hb hx⟩
theorem Un.kept (k:∀b u,h.get? b=some u->h'.get? b=some u):Un fs ex H H h h':=
 ⟨fun b ob q _ _ _=>k b ob q,fun b ob q _ _ _=>⟨ob.slots,k b ob q⟩,fun _ _ _ n _=>n,fun b ob q _=>⟨ob,k b ob q⟩,fun _ _ q=>q,fun _ _ _ q=>q,fun _ ps q=>⟨#[],by rw[q];simp⟩⟩
theorem Un.refl:Un fs ex H H h h:=Un.kept fun _ _ q=>q
theorem Un.laid (k:∀b u,h.get? b=some u->h'.get? b=some u) (hp:h.objs.size<=a) (hn:H a=none):Un fs ex H (upd H a o) h h' where
 keep:=fun b u q _ _ _=>k b u q
 slot:=fun b u q _ _ _=>⟨u.slots,k b u q⟩
 free:=fun b u q n _=>by rw[ao (Nat.ne_of_lt (Nat.lt_of_lt_of_le (Heap.lt_size q) hp))];exact n
 there:=fun b u q _=>⟨u,k b u q⟩
 tups:=fun b xs q=>by rw[ao (aF q hn)];exact q
 frzs:=fun b u xs q=>by rw[ao (aF q hn)];exact q
 tbls:=fun b ps q=>⟨#[],by rw[ao (aF q hn),q];simp⟩
theorem Un.write (mu:Mut (H x)) (he:e=x\/H e=some (.own x)) (k:∀b u,b≠e->h.get? b=some u->h'.get? b=some u) (heo:∃u,h'.get? e=some u):Un fs ex H (upd H x o) h h':=by
 have hx:∀b,H b=none->b≠x:=fun b n z=>by subst z;rw[n] at mu;exact mu
 have hb:∀b,H b=none->b≠e:=fun b n z=>by
  subst z
  rcases he with r | r
  ·exact hx b n r
  ·rw[n] at r;cases r
 have hm:∀b u,H b=some u->¬Mut (some u)->b≠x:=fun b u q nm z=>by subst z;rw[q] at mu;exact nm mu
 refine⟨fun b u q n _ _=>k b u (hb b n) q,fun b u q n _ _=>⟨u.slots,k b u (hb b n) q⟩,fun b u q n _=>by rw[ao (hx b n)];exact n,fun b u q _=> ?_,
  fun b xs q=>by rw[ao (hm b _ q fun z=>z)];exact q,fun b u xs q=>by rw[ao (hm b _ q fun z=>z)];exact q,fun b ps q=>⟨#[],by rw[ao (hm b _ q fun z=>z),q];simp⟩⟩
 by_cases hbe:b=e
 ·subst hbe;exact heo
 ·exact⟨u,k b u hbe q⟩
end
def trk (h:Heap) (H:Hp):List Addr:=(List.range h.objs.size).filter fun a=>(H a).isSome
def Eu (h:Heap) (H:Hp):Heap:=PySem.W.hideAll h (trk h H)
theorem KY (h:Heap) (H:Hp):(Eu h H).objs.size=h.objs.size:=PySem.W.hideAll_size _ _
theorem Ml {h:Heap}{H:Hp}{b:Addr}{o:Obj} (e:h.get? b=some o) (n:H b=none):(Eu h H).get? b=some o:=
 PySem.W.hideAll_get _ e fun hm=>by
  have q:(H b).isSome=true:=(List.mem_filter.mp hm).2
  rw[n] at q;simp at q
theorem Qf {h:Heap}{H:Hp}{b:Addr}{o:Obj} (e:(Eu h H).get? b=some o):h.get? b=some o/\H b=none:=by
 have e':h.get? b=some o:=PySem.W.of_hideAll (trk h H) e
 refine⟨e', ?_⟩
 cases q:H b with
 | none=>rfl
 | some x=>
   have hm:b∈trk h H:=List.mem_filter.mpr ⟨List.mem_range.mpr (Heap.lt_size e'),by simp[q]⟩
   have z:(Eu h H).get? b=none:=PySem.W.hideAll_none (trk h H) hm
   rw[z] at e;cases e
end L2
namespace L2
open PySem PySem.Spec PyProof.Rows
structure Mod (K:PySem.W.Frag) (mg:Str->Option Value) (base:Heap):Prop where
 kin:K.In base
 glob:base.Ns mainGlobals mg
 blt:∃mb,base.Ns builtinsNs mb/\∀x:Str,x≠"__name__"->mb x=bootBuiltins x
 nolimit:base.NoLimit
structure Cx where
 prog:Program
 w:World
 K:PySem.W.Frag
 mg:Str->Option Value
 base:Heap
 A:Around
 N:List Str
 s₀:Shared
 H₀:Hp
 env:Env
 outer:List Env
 stack:List Env
 ex:List Addr
 fn:Str->Bool
 calm:Bool
 pn:List (Addr×Obj)
 xe:Value->Shared->Prop
def frs (l:List Env):List Addr:=l.filterMap (·.frame)
abbrev Cx.fs (X:Cx):List Addr:=frs X.outer
def Vis (sc:Scope) (x:Str):Prop:=sc.names.lookup x=some .local\/sc.names.lookup x=some .cell\/sc.names.lookup x=some .free
def Loc (sc:Scope) (x:Str):Prop:=sc.names.lookup x=some .local\/sc.names.lookup x=some .cell
def Look (env:Env) (h:Heap) (m:Str->Option Value) (x:Str) (u:Value):Prop:=
 (env.kindOf x=some .local/\m x=some u)\/((env.kindOf x=some .cell\/env.kindOf x=some .free)/\∃c,env.cells.lookup x=some c/\h.IsCell c (some u))
structure Cx.Ok (X:Cx):Prop where
 mod:Mod X.K X.mg X.base
 kind:X.env.scope.kind= .function
 glob:X.env.globals=mainGlobals
 blt:X.env.builtins=builtinsNs
 above:X.s₀.heap.objs.size<=X.env.locals
 inj:∀x y c,X.env.cells.lookup x=some c->X.env.cells.lookup y=some c->x=y
 has:∀x,(X.env.kindOf x=some .cell\/X.env.kindOf x=some .free)->∃c,X.env.cells.lookup x=some c
 cab:∀x c,X.fn x=true->X.env.cells.lookup x=some c->X.s₀.heap.objs.size<=c
 hd:X.calm=true->X.A.handled=none
 frames:X.A.frames=some X.stack
 stk:X.stack=X.outer\/(X.stack=X.env::X.outer/\X.env.frame=some X.env.locals)
 exf:∀b∈X.ex,b≠X.env.locals/\∀x c,X.env.cells.lookup x=some c->c≠b
 bs:∀b o,X.base.get? b=some o->X.s₀.heap.get? b=some o/\X.H₀ b=none
 bsz:X.base.objs.size<=X.s₀.heap.objs.size
 noex:∀b o,X.base.get? b=some o->b∉X.ex
 exfs:∀b∈X.ex,b∉X.fs
 funs:X.s₀.heap.FunFrames X.base X.outer
 frf:∀b∈X.fs,X.H₀ b=none
structure Inv (X:Cx) (pins:List (Addr×Obj)) (σ:List (Option V)) (H:Hp) (s:Shared):Prop where
 ok:X.Ok
 os:s.os=X.s₀.os
 bare:AllBare s.gens
 base:Un X.fs X.ex X.H₀ H X.s₀.heap s.heap
 loc:∃m,s.heap.Ns X.env.locals m/\∀(i:Nat) (x:Str) (v:V),X.N[i]? =some x->σ[i]? =some (some v)->Vis X.env.scope x->∃u,RelV v u/\Look X.env s.heap m x u
 cell:∀x c,X.env.cells.lookup x=some c->∃v,s.heap.IsCell c v
 free:H X.env.locals=none
 uh:∀x c,X.env.cells.lookup x=some c->H c=none
 pin:∀p∈X.pn++pins,s.heap.get? p.1=some p.2/\H p.1=none/\p.1≠X.env.locals/\p.1∉X.fs/\∀v,p.2.data≠ .cell v
 hok:HOk X.prog X.w H s.heap
 len:σ.length=X.N.length
section
variable {X:Cx}{pins:List (Addr×Obj)}{σ:List (Option V)}{H H':Hp}{s:Shared}{h':Heap}
theorem Cx.Ok.nofr (ok:X.Ok) {b:Addr}{o:Obj} (e:X.base.get? b=some o):b∉X.fs:=fun hb=>by
 have:=(ok.funs.mem hb).1
 rw[e] at this;cases this
theorem Inv.bs (I:Inv X pins σ H s):∀b o,X.base.get? b=some o->s.heap.get? b=some o/\H b=none:=fun b o e=>
 ⟨I.base.keep b o (I.ok.bs b o e).1 (I.ok.bs b o e).2 (I.ok.nofr e) (I.ok.noex b o e),I.base.free b o (I.ok.bs b o e).1 (I.ok.bs b o e).2 (I.ok.noex b o e)⟩
theorem Inv.bk (I:Inv X pins σ H s):∀b o,X.base.get? b=some o->s.heap.get? b=some o:=fun b o e=>(I.bs b o e).1
theorem Inv.mod (I:Inv X pins σ H s):Mod X.K X.mg X.base:=I.ok.mod
theorem Inv.kIn (I:Inv X pins σ H s):X.K.In s.heap:=I.ok.mod.kin.keeps I.bk
theorem Inv.lt (I:Inv X pins σ H s):X.env.locals<s.heap.objs.size:=let ⟨_,hn,_⟩:=I.loc;hn.lt
theorem Inv.sz (I:Inv X pins σ H s):X.s₀.heap.objs.size<=s.heap.objs.size:=Nat.le_trans I.ok.above (Nat.le_of_lt I.lt)
theorem Inv.nofs (I:Inv X pins σ H s) {a:Addr} (h:s.heap.objs.size<=a):a∉X.fs:=fun hb=>by
 obtain⟨_,o,ho,_⟩:=I.ok.funs.mem hb
 exact absurd (Nat.lt_of_lt_of_le (Heap.lt_size ho) (Nat.le_trans I.sz h)) (Nat.lt_irrefl _)
theorem Inv.cne (I:Inv X pins σ H s):∀x c,X.env.cells.lookup x=some c->c≠X.env.locals:=fun x c e z=>by
 obtain⟨v,o,ho,hd⟩:=I.cell x c e
 obtain⟨m,⟨o',es,ep,ho',hd',_⟩,_⟩:=I.loc
 rw[z,ho'] at ho;cases ho;rw[hd'] at hd;cases hd
theorem Inv.funs (I:Inv X pins σ H s):s.heap.FunFrames X.base X.outer:=by
 have all:∀(l:List Env),(∀b∈frs l,b∈X.fs)->X.s₀.heap.FunFrames X.base l->s.heap.FunFrames X.base l:=by
  intro l
  induction l with
  | nil=>intro _ _;trivial
  | cons env r ih=>
    intro hs hl
    obtain⟨hk,⟨L,o,hf,hn,ho,hd⟩,hr⟩:=hl
    have hL:L∈X.fs:=hs L (by unfold frs;rw[List.filterMap_cons,hf];exact List.mem_cons_self)
    obtain⟨sl,e⟩:=I.base.slot L o ho (I.ok.frf L hL) hL fun z=>I.ok.exfs L z hL
    exact⟨hk,⟨L,_,hf,hn,e,hd⟩,ih (fun b hb=>hs b (by unfold frs;rw[List.filterMap_cons,hf];exact List.mem_cons_of_mem _ hb)) hr⟩
 exact all X.outer (fun _ hb=>hb) I.ok.funs
theorem Inv.stack (I:Inv X pins σ H s):s.heap.FunFrames X.base X.stack:=by
 rcases I.ok.stk with e | ⟨e,hf⟩
 ·rw[e];exact I.funs
 ·rw[e]
  obtain⟨m,hn,_⟩:=I.loc
  refine .cons (by rw[I.ok.kind];decide) hf hn ?_ I.funs
  exact Heap.get?_none_of_le (Nat.le_trans I.ok.bsz I.ok.above)
theorem Inv.Ew (I:Inv X pins σ H s):∀b∈frs X.stack,b∈X.env.locals::X.fs:=fun b hb=>by
 rcases I.ok.stk with e | ⟨e,hf⟩
 ·rw[e] at hb;exact List.mem_cons_of_mem _ hb
 ·rw[e] at hb
  unfold frs at hb
  rw[List.filterMap_cons,hf] at hb
  exact hb
theorem Inv.JV (I:Inv X pins σ H s):∀b∈frs X.stack,H b=none:=fun b hb=>by
 rcases List.mem_cons.mp (I.Ew b hb) with e | hb
 ·rw[e];exact I.free
 ·obtain⟨_,o,ho,_⟩:=I.ok.funs.mem hb
  exact I.base.free b o ho (I.ok.frf b hb) fun z=>I.ok.exfs b z hb
theorem Inv.step {g':Array GenState}{t':Nat}{d':Drawn}{ch:List Addr} (I:Inv X pins σ H s)
 (hch:∀b∈ch,(b∈X.ex\/X.s₀.heap.objs.size<=b)/\b≠X.env.locals/\(∀x c,X.env.cells.lookup x=some c->c≠b)/\∀p∈X.pn++pins,p.1≠b)
 (keep:∀b o,b≠X.env.locals->b∉X.fs->b∉ch->s.heap.get? b=some o->H b=none->h'.get? b=some o)
 (slot:∀b o,b≠X.env.locals->b∈X.fs->b∉ch->s.heap.get? b=some o->H b=none->∃sl,h'.get? b=some {o with slots:=sl}) (free:∀b o,b∉ch->s.heap.get? b=some o->H b=none->H' b=none)
 (there:∀b o,b∉ch->s.heap.get? b=some o->∃o',h'.get? b=some o')
 (tups:∀b xs,H b=some (.tup xs)->H' b=some (.tup xs)) (frzs:∀b o u,H b=some (.frz o u)->H' b=some (.frz o u)) (tbls:∀b ps,H b=some (.tbl ps)->∃more,H' b=some (.tbl (ps++more)))
 (ns:∀m,s.heap.Ns X.env.locals m->h'.Ns X.env.locals m) (hok:HOk X.prog X.w H' h') (hg:AllBare g'):
 Inv X pins σ H' {s with heap:=h',gens:=g',drawn:=d',toks:=t'}:=by
 have neL:∀b o,X.s₀.heap.get? b=some o->b≠X.env.locals:=fun b o e=>Nat.ne_of_lt (Nat.lt_of_lt_of_le (Heap.lt_size e) I.ok.above)
 have neC:∀b o,X.s₀.heap.get? b=some o->b∉X.ex->b∉ch:=fun b o e hx hb=>by
  rcases(hch b hb).1 with z | z
  ·exact hx z
  ·exact absurd (Nat.lt_of_lt_of_le (Heap.lt_size e) z) (Nat.lt_irrefl _)
 have cellK:∀x c,X.env.cells.lookup x=some c->∀v,s.heap.IsCell c v->h'.IsCell c v:=fun x c e v ⟨o,ho,hd⟩=>by
  have nch:c∉ch:=fun z=>(hch c z).2.2.1 x c e rfl
  by_cases hc:c∈X.fs
  ·obtain⟨sl,q⟩:=slot c o (I.cne x c e) hc nch ho (I.uh x c e)
   exact⟨_,q,hd⟩
  ·exact⟨o,keep c o (I.cne x c e) hc nch ho (I.uh x c e),hd⟩
 refine⟨I.ok,I.os,hg,⟨fun b o e n hb hx=> ?_,fun b o e n hb hx=> ?_,fun b o e n hx=> ?_,fun b o e hx=> ?_,fun b xs e=>tups b xs (I.base.tups b xs e),fun b o xs e=>frzs b o xs (I.base.frzs b o xs e),fun b ps e=> ?_⟩, ?_,fun x c e=> ?_, ?_,fun x c e=> ?_,fun p hp=> ?_,hok,I.len⟩
 ·exact keep b o (neL b o e) hb (neC b o e hx) (I.base.keep b o e n hb hx) (I.base.free b o e n hx)
 ·obtain⟨sl,e1⟩:=I.base.slot b o e n hb hx
  obtain⟨sl',e2⟩:=slot b _ (neL b o e) hb (neC b o e hx) e1 (I.base.free b o e n hx)
  exact⟨sl',e2⟩
 ·obtain⟨o',e1⟩:=I.base.there b o e hx
  exact free b o' (neC b o e hx) e1 (I.base.free b o e n hx)
 ·obtain⟨o',e1⟩:=I.base.there b o e hx
  exact there b o' (neC b o e hx) e1
 ·obtain⟨m1,e1⟩:=I.base.tbls b ps e
  obtain⟨m2,e2⟩:=tbls b _ e1
  exact⟨m1++m2,by rw[e2,Array.append_assoc]⟩
 ·obtain⟨m,hn,hl⟩:=I.loc
  refine⟨m,ns m hn,fun i x v e1 e2 e3=> ?_⟩
  obtain⟨u,r,l⟩:=hl i x v e1 e2 e3
  refine⟨u,r, ?_⟩
  rcases l with l | ⟨k,c,e,z⟩
  ·exact .inl l
  ·exact .inr ⟨k,c,e,cellK x c e _ z⟩
 ·obtain⟨v,z⟩:=I.cell x c e
  exact⟨v,cellK x c e v z⟩
 ·obtain⟨m,⟨o,_,_,ho,_⟩,_⟩:=I.loc
  exact free _ o (fun z=>(hch _ z).2.1 rfl) ho I.free
 ·obtain⟨v,o,ho,hd⟩:=I.cell x c e
  exact free c o (fun z=>(hch c z).2.2.1 x c e rfl) ho (I.uh x c e)
 ·obtain⟨e,n,ne,nf,d⟩:=I.pin p hp
  have nch:p.1∉ch:=fun z=>(hch p.1 z).2.2.2 p hp rfl
  exact⟨keep p.1 p.2 ne nf nch e n,free p.1 p.2 nch e n,ne,nf,d⟩
theorem Inv.un {t':Nat} (I:Inv X pins σ H s) (u:Un X.fs [] H H' s.heap h') (hok:HOk X.prog X.w H' h'):Inv X pins σ H' {s with heap:=h',toks:=t'}:=by
 obtain⟨m,⟨o,es,ep,ho,r⟩,_⟩:=id I.loc
 obtain⟨sl,hL⟩:=u.any ho I.free (by simp)
 exact I.step (g':=s.gens) (d':=s.drawn) (ch:=[]) (fun _ z=>nomatch z) (fun b o _ hb _ e n=>u.keep b o e n hb (by simp)) (fun b o _ hb _ e n=>u.slot b o e n hb (by simp)) (fun b o _ e n=>u.free b o e n (by simp)) (fun b o _ e=>u.there b o e (by simp)) u.tups u.frzs u.tbls (fun m' hm=>by
  obtain⟨o',es',ep',ho',r'⟩:=hm
  rw[ho] at ho';cases ho'
  exact⟨_,es',ep',hL,r'⟩) hok I.bare
theorem Inv.call {g':Array GenState}{t':Nat}{d':Drawn}{ch:List Addr} (I:Inv X pins σ H s) (u:Un (frs X.stack) ch H H' s.heap h') (hok:HOk X.prog X.w H' h') (hg:AllBare g')
 (hch:∀b∈ch,(b∈X.ex\/X.s₀.heap.objs.size<=b)/\b≠X.env.locals/\(∀x c,X.env.cells.lookup x=some c->c≠b)/\∀p∈X.pn++pins,p.1≠b):
 Inv X pins σ H' {s with heap:=h',gens:=g',drawn:=d',toks:=t'}:=by
 obtain⟨m,⟨o,es,ep,ho,r⟩,_⟩:=id I.loc
 obtain⟨sl,hL⟩:=u.any ho I.free fun z=>(hch _ z).2.1 rfl
 exact I.step (ch:=ch) hch (fun b o hL hb hc e n=>u.keep b o e n (fun z=>(List.mem_cons.mp (I.Ew b z)).elim hL hb) hc) (fun b o _ _ hc e n=>u.any e n hc) (fun b o hc e n=>u.free b o e n hc) (fun b o hc e=>u.there b o e hc) u.tups u.frzs u.tbls (fun m' hm=>by
  obtain⟨o',es',ep',ho',r'⟩:=hm
  rw[ho] at ho';cases ho'
  exact⟨_,es',ep',hL,r'⟩) hok hg
theorem Inv.turned {t':Nat}{it:Addr} (I:Inv X pins σ H s) (k:∀b o,b≠it->s.heap.get? b=some o->h'.get? b=some o) (hn:H it=none) (hL:it≠X.env.locals)
 (h1:it∈X.ex\/X.s₀.heap.objs.size<=it) (h2:∀x c,X.env.cells.lookup x=some c->c≠it) (h3:∀p∈X.pn++pins,p.1≠it):Inv X pins σ H {s with heap:=h',toks:=t'}:=by
 have nit:∀b u,H b=some u->b≠it:=fun b u e z=>by rw[z,hn] at e;cases e
 refine I.step (g':=s.gens) (d':=s.drawn) (ch:=[it]) (fun b hb=> ?_) (fun b o _ _ hc e _=>k b o (fun z=>hc (by simp[z])) e) (fun b o _ _ hc e _=>⟨o.slots,k b o (fun z=>hc (by simp[z])) e⟩) (fun _ _ _ _ n=>n)
  (fun b o hc e=>⟨o,k b o (fun z=>hc (by simp[z])) e⟩) (fun _ _ e=>e) (fun _ _ _ e=>e) (fun b ps e=>⟨#[],by rw[e];simp⟩) (fun m hm=> ?_) (fun b u e=> ?_) I.bare
 ·have e:b=it:=by simpa using hb
  subst e
  exact⟨h1,hL,h2,h3⟩
 ·obtain⟨o,es,ep,ho,r⟩:=hm
  exact⟨o,es,ep,k _ o (Ne.symm hL) ho,r⟩
 ·refine(I.hok b u e).stay (fun c v hc q=>k c v ?_ q) (fun _ q=>q) fun _ _ q=>q
  rcases hc with z | z
  ·rw[z];exact nit b u e
  ·exact nit c _ z
theorem Inv.tok (I:Inv X pins σ H s) (t:Nat):Inv X pins σ H {s with toks:=t}:=I.un (h':=s.heap) (t':=t) Un.refl I.hok
theorem Inv.kept {t':Nat} (I:Inv X pins σ H s) (k:∀b u,s.heap.get? b=some u->h'.get? b=some u):Inv X pins σ H {s with heap:=h',toks:=t'}:=I.un (Un.kept k) (I.hok.kept k)
theorem Inv.laid {a:Addr}{o:HO}{t':Nat} (I:Inv X pins σ H s) (k:∀b u,s.heap.get? b=some u->h'.get? b=some u) (hp:s.heap.objs.size<=a) (new:eN X.prog X.w (upd H a o) h' a o):
 Inv X pins σ (upd H a o) {s with heap:=h',toks:=t'}:=I.un (Un.laid k hp (I.hok.fresh hp)) (I.hok.laid k hp new)
theorem Inv.write {x e:Addr}{o:HO}{t':Nat} (I:Inv X pins σ H s) (mu:Mut (H x)) (he:e=x\/H e=some (.own x)) (k:∀b u,b≠e->s.heap.get? b=some u->h'.get? b=some u) (heo:∃u,h'.get? e=some u)
 (new:eN X.prog X.w (upd H x o) h' x o):Inv X pins σ (upd H x o) {s with heap:=h',toks:=t'}:=I.un (Un.write mu he k heo) (I.hok.write mu he k heo new)
theorem Inv.JW {pins':List (Addr×Obj)} (I:Inv X pins σ H s) (h:∀p∈pins',s.heap.get? p.1=some p.2/\H p.1=none/\p.1≠X.env.locals/\p.1∉X.fs/\∀v,p.2.data≠ .cell v):Inv X pins' σ H s:=
 ⟨I.ok,I.os,I.bare,I.base,I.loc,I.cell,I.free,I.uh,fun p hp=>(List.mem_append.mp hp).elim (fun z=>I.pin p (List.mem_append_left _ z)) (h p),I.hok,I.len⟩
theorem Gw {N:List Str} (hN:N.Nodup) {i j:Nat}{x:Str} (a:N[i]? =some x) (b:N[j]? =some x):i=j:=by
 obtain⟨h1,e1⟩:=List.getElem?_eq_some_iff.mp a
 obtain⟨h2,e2⟩:=List.getElem?_eq_some_iff.mp b
 exact(List.getElem_inj hN).mp (e1.trans e2.symm)
theorem DK {M:Model}{A:Around}{E:Value->Shared->Prop}{i:Nat}{x:Str}{v:V}{u:Value}{Q:Unit->Shared->Prop} (I:Inv X pins σ H s) (hN:X.N.Nodup) (hi:X.N[i]? =some x) (hx:Loc X.env.scope x) (r:RelV v u)
 (h:∀s',Inv X pins (σ.set i (some v)) H s'->(∃a,Heap.SameBut a s.heap s'.heap/\(a=X.env.locals\/X.env.cells.lookup x=some a))->Q () s') (hf:X.fn x=true\/X.env.scope.names.lookup x=some .local:=by first | exact .inl rfl | exact .inr rfl | assumption):wpAny M A (storeName X.env x u) Q E s:=by
 obtain⟨m,hn,hl⟩:=id I.loc
 have hcls:(X.env.scope.kind== .class||(X.env.scope.kind== .module&&X.env.locals !=X.env.globals))=false:=by rw[I.ok.kind];rfl
 have hiσ:i<σ.length:=by rw[I.len];exact(List.getElem?_eq_some_iff.mp hi).1
 have cne:=I.cne
 have tracked:∀{a:Addr}{h':Heap},(∃o,s.heap.get? a=some o/\H a=none)->Heap.SameBut a s.heap h'->HOk X.prog X.w H h':=fun{a h'} ha hs b ob e=>by
  obtain⟨_,_,hfree⟩:=ha
  refine(I.hok b ob e).stay (fun c w' hc q=>(hs.2 c ?_).trans q) (fun _ q=>q) fun _ _ q=>q
  rintro rfl
  rcases hc with rfl | hc
  ·rw[hfree] at e;cases e
  ·rw[hfree] at hc;cases hc
 rcases hx with hk | hk
 ·refine wpAny_storeName_local hk hn (fun h' hn' hs=> ?_) hcls
  obtain⟨oL,_,_,hoL,_⟩:=id hn
  refine h _ ⟨I.ok,I.os,I.bare,⟨fun b o e n hb hx=> ?_,fun b o e n hb hx=> ?_,I.base.free,fun b o e hx=> ?_,I.base.tups,I.base.frzs,I.base.tbls⟩,⟨_,hn',fun j y v' e1 e2 e3=> ?_⟩,fun y c e=> ?_,I.free,I.uh,fun p hp=> ?_,tracked ⟨oL,hoL,I.free⟩ hs,by simpa using I.len⟩ ⟨_,hs, .inl rfl⟩
  ·exact(hs.2 b (Nat.ne_of_lt (Nat.lt_of_lt_of_le (Heap.lt_size e) I.ok.above))).trans (I.base.keep b o e n hb hx)
  ·obtain⟨sl,e1⟩:=I.base.slot b o e n hb hx
   exact⟨sl,(hs.2 b (Nat.ne_of_lt (Nat.lt_of_lt_of_le (Heap.lt_size e) I.ok.above))).trans e1⟩
  ·obtain⟨o',e1⟩:=I.base.there b o e hx
   exact⟨o',(hs.2 b (Nat.ne_of_lt (Nat.lt_of_lt_of_le (Heap.lt_size e) I.ok.above))).trans e1⟩
  ·by_cases hj:j=i
   ·subst hj
    rw[hi] at e1;cases e1
    rw[List.getElem?_set_self hiσ] at e2
    cases e2
    exact⟨u,r, .inl ⟨hk,by simp⟩⟩
   ·rw[List.getElem?_set_ne (Ne.symm hj)] at e2
    obtain⟨u',r',q⟩:=hl j y v' e1 e2 e3
    refine⟨u',r', ?_⟩
    rcases q with⟨k,e⟩ | ⟨k,c,e,z⟩
    ·refine .inl ⟨k, ?_⟩
     have:y≠x:=fun e=>hj (Gw hN e1 (e▸hi))
     simp[this,e]
    ·exact .inr ⟨k,c,e,z.sameBut hs (cne y c e)⟩
  ·obtain⟨w',z⟩:=I.cell y c e
   exact⟨w',z.sameBut hs (cne y c e)⟩
  ·obtain⟨e,n,ne,nf,d⟩:=I.pin p hp
   exact⟨(hs.2 p.1 ne).trans e,n,ne,nf,d⟩
 ·have hfn:X.fn x=true:=by
   rcases hf with z | z
   ·exact z
   ·rw[z] at hk;cases hk
  obtain⟨c,hc⟩:=I.ok.has x (.inl hk)
  obtain⟨w',z⟩:=I.cell x c hc
  refine wpAny_storeName_cell I.ok.kind hk hc z (fun h' hc' hs=> ?_)
  obtain⟨oc,hoc,hocd⟩:=id z
  refine h {s with heap:=h'} ⟨I.ok,I.os,I.bare,⟨fun b o e n hb hx=> ?_,fun b o e n hb hx=> ?_,I.base.free,fun b o e hx=> ?_,I.base.tups,I.base.frzs,I.base.tbls⟩,⟨m,hn.sameBut hs (Ne.symm (cne x c hc)),fun j y v' e1 e2 e3=> ?_⟩,fun y c' e=> ?_,I.free,I.uh,fun p hp=> ?_,tracked ⟨oc,hoc,I.uh x c hc⟩ hs,by simpa using I.len⟩ ⟨c,hs, .inr hc⟩
  ·exact(hs.2 b (Nat.ne_of_lt (Nat.lt_of_lt_of_le (Heap.lt_size e) (I.ok.cab x c hfn hc)))).trans (I.base.keep b o e n hb hx)
  ·obtain⟨sl,e1⟩:=I.base.slot b o e n hb hx
   exact⟨sl,(hs.2 b (Nat.ne_of_lt (Nat.lt_of_lt_of_le (Heap.lt_size e) (I.ok.cab x c hfn hc)))).trans e1⟩
  ·obtain⟨o',e1⟩:=I.base.there b o e hx
   exact⟨o',(hs.2 b (Nat.ne_of_lt (Nat.lt_of_lt_of_le (Heap.lt_size e) (I.ok.cab x c hfn hc)))).trans e1⟩
  ·by_cases hj:j=i
   ·subst hj
    rw[hi] at e1;cases e1
    rw[List.getElem?_set_self hiσ] at e2
    cases e2
    exact⟨u,r, .inr ⟨.inl hk,c,hc,hc'⟩⟩
   ·rw[List.getElem?_set_ne (Ne.symm hj)] at e2
    obtain⟨u',r',q⟩:=hl j y v' e1 e2 e3
    refine⟨u',r', ?_⟩
    rcases q with q | ⟨k,c',e,z'⟩
    ·exact .inl q
    ·refine .inr ⟨k,c',e,z'.sameBut hs ?_⟩
     rintro rfl
     exact hj (Gw hN e1 (I.ok.inj _ _ _ e hc▸hi))
  ·by_cases hcc:c'=c
   ·subst hcc;exact⟨_,hc'⟩
   ·obtain⟨w2,z2⟩:=I.cell y c' e
    exact⟨w2,z2.sameBut hs hcc⟩
  ·obtain⟨e,n,ne,nf,d⟩:=I.pin p hp
   refine⟨(hs.2 p.1 ?_).trans e,n,ne,nf,d⟩
   intro q
   rw[q,hoc] at e
   have q':oc=p.2:=Option.some.inj e
   exact d w' (by rw[<-q'];exact hocd)
theorem Gx {M:Model}{A:Around}{E:Value->Shared->Prop}{i:Nat}{x:Str}{v:V}{u:Value}{Q:Unit->Shared->Prop} (I:Inv X pins σ H s) (hN:X.N.Nodup) (hi:X.N[i]? =some x) (hx:Loc X.env.scope x) (r:RelV v u)
 (h:∀s',Inv X pins (σ.set i (some v)) H s'->Q () s') (hf:X.fn x=true\/X.env.scope.names.lookup x=some .local:=by first | exact .inl rfl | exact .inr rfl | assumption):wpAny M A (storeName X.env x u) Q E s:=
 DK I hN hi hx r (fun s' I' _=>h s' I') hf
theorem Inv.call' {s':Shared}{ch:List Addr} (I:Inv X pins σ H s) (ho:s'.os=s.os) (u:Un (frs X.stack) ch H H' s.heap s'.heap) (hok:HOk X.prog X.w H' s'.heap) (hg:AllBare s'.gens)
 (hch:∀b∈ch,(b∈X.ex\/X.s₀.heap.objs.size<=b)/\b≠X.env.locals/\(∀x c,X.env.cells.lookup x=some c->c≠b)/\∀p∈X.pn++pins,p.1≠b):Inv X pins σ H' s':=by
 obtain⟨h',g',d',t',o'⟩:=s'
 have e:o'=s.os:=ho
 subst e
 exact I.call (g':=g') (t':=t') (d':=d') u hok hg hch
end
abbrev XK:=Value->Option Addr->Hp->Prop
abbrev St:=List (Option V)
abbrev VK:=V->Hp->Prop
abbrev TE:=St->Hp->VK->Prop
abbrev TT:=St->Hp->(Bool->Hp->Prop)->Prop
abbrev TA:=St->Hp->(List V->Hp->Prop)->Prop
structure Ends where
 nx:St->Hp->Prop
 rt:VK
 bk:St->Hp->Prop:=fun _ _=>False
 ct:St->Hp->Prop:=fun _ _=>False
abbrev TS:=Ends->St->Hp->Prop
def EP (X:Cx) (pins:List (Addr×Obj)) (σ:St) (Q:VK) (u:Value) (s':Shared):Prop:=∃v H',Inv X pins σ H' s'/\RelV v u/\Q v H'
def TP (X:Cx) (pins:List (Addr×Obj)) (σ:St) (Q:Bool->Hp->Prop) (b:Bool) (s':Shared):Prop:=∃H',Inv X pins σ H' s'/\Q b H'
def AP (X:Cx) (pins:List (Addr×Obj)) (σ:St) (Q:List V->Hp->Prop) (us:List Value) (s':Shared):Prop:=∃vs H',Inv X pins σ H' s'/\Vals vs us/\Q vs H'
def SP (X:Cx) (pins:List (Addr×Obj)) (D:Ends) (f:Flow) (s':Shared):Prop:=
 match f with
 | .next=>∃σ' H',Inv X pins σ' H' s'/\D.nx σ' H'
 | .brk=>∃σ' H',Inv X pins σ' H' s'/\D.bk σ' H'
 | .cont=>∃σ' H',Inv X pins σ' H' s'/\D.ct σ' H'
 | .ret u=>∃v σ' H',Inv X pins σ' H' s'/\RelV v u/\D.rt v H'
def PE (X:Cx) (e:Expr) (t:TE):Prop:=
 ∀(pins:List (Addr×Obj)) (s:Shared) (σ:St) (H:Hp) (Q:VK),Inv X pins σ H s->t σ H Q->wpAny (model X.prog X.w) X.A (eval e X.env) (EP X pins σ Q) X.xe s
def PT (X:Cx) (e:Expr) (t:TT):Prop:=
 ∀(pins:List (Addr×Obj)) (s:Shared) (σ:St) (H:Hp) (Q:Bool->Hp->Prop),Inv X pins σ H s->t σ H Q->wpAny (model X.prog X.w) X.A (isTrue e X.env (eval e X.env)) (TP X pins σ Q) X.xe s
def PW (X:Cx) (e:Expr) (t:TT):Prop:=
 ∀(whole:Sem Value) (pins:List (Addr×Obj)) (s:Shared) (σ:St) (H:Hp) (Q:Bool->Hp->Prop),Inv X pins σ H s->t σ H Q->wpAny (model X.prog X.w) X.A (isTrue e X.env whole) (TP X pins σ Q) X.xe s
theorem PW.pt {X:Cx}{e:Expr}{t:TT} (h:PW X e t):PT X e t:=h _
def PA (X:Cx) (es:List Expr) (t:TA):Prop:=
 ∀(pos:Pos) (pins:List (Addr×Obj)) (s:Shared) (σ:St) (H:Hp) (Q:List V->Hp->Prop),Inv X pins σ H s->t σ H Q->wpAny (model X.prog X.w) X.A (spliced (backTo pos (starEach es X.env))) (AP X pins σ Q) X.xe s
def PS (X:Cx) (st:Stmt) (t:TS):Prop:=
 ∀(pins:List (Addr×Obj)) (s:Shared) (σ:St) (H:Hp) (D:Ends),Inv X pins σ H s->t D σ H->wpAny (model X.prog X.w) X.A (exec st X.env) (SP X pins D) X.xe s
def PSs (X:Cx) (st:List Stmt) (t:TS):Prop:=
 ∀(pins:List (Addr×Obj)) (s:Shared) (σ:St) (H:Hp) (D:Ends),Inv X pins σ H s->t D σ H->wpAny (model X.prog X.w) X.A (execs st X.env) (SP X pins D) X.xe s
theorem thn {α:Type}{t:Sem α}{Q Q':α->Shared->Prop}{M:Model}{A:Around}{E:Value->Shared->Prop}{s:Shared} (h:wpAny M A t Q E s) (hQ:∀a s,Q a s->Q' a s):wpAny M A t Q' E s:=wpAny_mono h hQ fun _ _ x=>x
end L2
namespace L2
open PySem PySem.Spec PyProof.Rows
section
variable {X:Cx}
def VJ (i:Nat):TE:=fun σ H Q=>∃v,σ[i]? =some (some v)/\Q v H
def tC (v:V):TE:=fun _ H Q=>Q v H
theorem VL {i:Nat}{x:Str}{pos:Pos} (hN:X.N[i]? =some x) (hv:Vis X.env.scope x) (hd:(x==("__debug__":Str))=false:=by decide) (hcd:(x==("__classdict__":Str))=false:=by decide):PE X (.Name x pos) (VJ i):=by
 intro pins s σ H Q I h
 obtain⟨v,e,h⟩:=h
 obtain⟨m,hn,hl⟩:=I.loc
 obtain⟨u,r,l⟩:=hl i x v hN e hv
 have fin:EP X pins σ Q u s:=⟨v,H,I,r,h⟩
 rcases l with⟨hk,hm⟩ | ⟨hk,c,hc,hcell⟩
 ·exact wpAny_Name (wpAny_loadName_local I.ok.kind hk hn hm fin) hd
 ·rcases hk with hk | hk
  ·exact wpAny_Name (wpAny_loadName_cell I.ok.kind hk hc hcell fin) hd
  ·exact wpAny_Name (wpAny_loadName_free I.ok.kind hk hc hcell fin hcd) hd
theorem VM {i j pos}:PE X (.Constant (.int i) j pos) (tC (.int i)):=fun _ _ _ H _ I h=>wpAny_Constant_int ⟨.int i,H,I.tok _,⟨_,rfl⟩,h⟩
theorem ZW {b j pos}:PE X (.Constant (.bool b) j pos) (tC (.bl b)):=fun _ _ _ H _ I h=>Constant_bool ⟨.bl b,H,I,rfl,h⟩
theorem VN {j pos}:PE X (.Constant .none j pos) (tC .non):=fun _ _ _ H _ I h=>Constant_none ⟨.non,H,I,rfl,h⟩
theorem VP {x j pos}:PE X (.Constant (.str x) j pos) (tC (.str x)):=fun _ _ _ H _ I h=>Calls.Constant_str ⟨.str x,H,I.tok _,⟨_,rfl⟩,h⟩
def Gl (X:Cx) (x:Str):Prop:=X.env.kindOf x=some .globalImplicit
theorem JX {E:Value->Shared->Prop}{pins:List (Addr×Obj)}{s:Shared}{σ:St}{H:Hp}{x:Str}{u:Value}{pos:Pos}{Q:Value->Shared->Prop} (I:Inv X pins σ H s) (hg:Gl X x) (hm:X.mg x=some u) (h:Q u s)
 (hd:(x==("__debug__":Str))=false:=by decide):wpAny (model X.prog X.w) X.A (eval (.Name x pos) X.env) Q E s:=
 Calls.Name_function_global I.ok.kind hg (Calls.loadGlobal_global (by rw[I.ok.glob];exact I.mod.glob.keeps I.bk) hm h) hd
theorem yU {E:Value->Shared->Prop}{pins:List (Addr×Obj)}{s:Shared}{σ:St}{H:Hp}{x:Str}{u:Value}{pos:Pos}{Q:Value->Shared->Prop} (I:Inv X pins σ H s) (hg:Gl X x) (hm:X.mg x=none) (hv:bootBuiltins x=some u) (h:Q u s)
 (hn:x≠"__name__":=by decide) (hd:(x==("__debug__":Str))=false:=by decide):wpAny (model X.prog X.w) X.A (eval (.Name x pos) X.env) Q E s:=by
 obtain⟨mb,h1,h2⟩:=I.mod.blt
 exact Calls.Name_function_global I.ok.kind hg (Calls.loadGlobal_builtin (by rw[I.ok.glob];exact I.mod.glob.keeps I.bk) hm (by rw[I.ok.blt];exact h1.keeps I.bk) ((h2 x hn).trans hv) h) hd
theorem Qg {x:Str}{v:V}{u:Value}{pos:Pos} (hg:Gl X x) (hm:X.mg x=none) (hv:bootBuiltins x=some u) (r:RelV v u) (hn:x≠"__name__":=by decide) (hd:(x==("__debug__":Str))=false:=by decide):PE X (.Name x pos) (tC v):=
 fun _ _ _ H _ I h=>yU I hg hm hv ⟨v,H,I,r,h⟩ hn hd
variable {a b:Expr}{ta tb:TE}{pos:Pos}
def PC (X:Cx) (op:CmpOp) (a b:Expr) (t:TE):Prop:=
 ∀(pins:List (Addr×Obj)) (s:Shared) (σ:St) (H:Hp) (Q:VK),Inv X pins σ H s->t σ H Q->
  wpAny (model X.prog X.w) X.A (eval a X.env) (fun v s₁=>wpAny (model X.prog X.w) X.A (eval b X.env) (fun u s₂=>wpAny (model X.prog X.w) X.A (compareOp op v u) (EP X pins σ Q) X.xe s₂) X.xe s₁) X.xe s
def tB (t:TE):TT:=fun σ H Q=>t σ H fun x H1=>∃c,x= .bl c/\Q c H1
theorem Mm {op:CmpOp}{t:TE} (h:PC X op a b t) (h1:behindInMarks op b=false:=by first | exact nobehind _ (by decide) (by decide) | rfl):PT X (.Compare a [op] [b] pos) (tB t):=by
 intro pins s σ H Q I hw
 refine wpAny_isTrue_Compare1 (thn (h pins s σ H _ I hw) fun v s1 h1=>thn h1 fun u s2 h2=>thn h2 fun c s3 ⟨x,H1,I1,r1,q1⟩=> ?_) h1
 obtain⟨d,rfl,q⟩:=q1
 cases r1
 exact wpAny_truthy_bool ⟨H1,I1,q⟩
theorem VR {e:Expr}{t:TE} (h:PE X e t) (he:∀whole,isTrue e X.env whole=(do let v <-whole;standAt e.pos;holding [v] (truthy v)):=by intro _;rfl):PT X e (tB t):=by
 intro pins s σ H Q I hw
 refine isTrue_plain (thn (h pins s σ H _ I hw) fun v s1 ⟨x,H1,I1,r1,q1⟩=> ?_) (he _)
 obtain⟨d,rfl,q⟩:=q1
 cases r1
 exact wpAny_truthy_bool ⟨H1,I1,q⟩
variable {tA tB':TT}{rest:List Expr}
def ZX (t u:TT):TT:=fun σ H Q=>t σ H fun c H1=>if c=true then u σ H1 Q else Q false H1
def tOr (t u:TT):TT:=fun σ H Q=>t σ H fun c H1=>if c=true then Q true H1 else u σ H1 Q
def ZZ (t:TT):TT:=fun σ H Q=>t σ H fun c H1=>Q (!c) H1
theorem Qh (ha:PT X a tA):PW X (.BoolOp .And [a] pos) tA:=by
 intro wh pins s σ H Q I h
 refine isTrue_and (thn (ha pins s σ H Q I h) fun c s1 e=> ?_)
 cases c with
 | true=>exact isTrue_and_nil e
 | false=>exact e
theorem V0 (ha:PT X a tA):PW X (.BoolOp .Or [a] pos) tA:=by
 intro wh pins s σ H Q I h
 refine isTrue_or (thn (ha pins s σ H Q I h) fun c s1 e=> ?_)
 cases c with
 | false=>exact isTrue_or_nil e
 | true=>exact e
theorem V1 (ha:PT X a tA) (hb:PW X (.BoolOp .And (b::rest) pos) tB'):PW X (.BoolOp .And (a::b::rest) pos) (ZX tA tB'):=by
 intro wh pins s σ H Q I h
 refine isTrue_and (thn (ha pins s σ H _ I h) fun c s1 ⟨H1,I1,q1⟩=> ?_)
 cases c with
 | true=>exact hb wh pins s1 σ H1 Q I1 q1
 | false=>exact⟨H1,I1,q1⟩
theorem Z0 (ha:PT X a tA) (hb:PW X (.BoolOp .Or (b::rest) pos) tB'):PW X (.BoolOp .Or (a::b::rest) pos) (tOr tA tB'):=by
 intro wh pins s σ H Q I h
 refine isTrue_or (thn (ha pins s σ H _ I h) fun c s1 ⟨H1,I1,q1⟩=> ?_)
 cases c with
 | true=>exact⟨H1,I1,q1⟩
 | false=>exact hb wh pins s1 σ H1 Q I1 q1
theorem V2 (ha:PT X a tA):PT X (.UnaryOp .Not a pos) (ZZ tA):=by
 intro pins s σ H Q I h
 exact isTrue_not (ha pins s σ H (fun c H1=>Q (!c) H1) I h)
def Uh (ta tb:TE):TE:=fun σ H Q=>ta σ H fun x H1=>∃c,x= .bl c/\if c=true then tb σ H1 Q else Q (.bl false) H1
def Ui (ta:TE):TE:=fun σ H Q=>ta σ H fun x H1=>∃c,x= .bl c/\Q (.bl (!c)) H1
theorem V3 {op}{t:TE} (h:PE X a t):PE X (.BoolOp op [a] pos) t:=fun pins s σ H Q I hw=>BoolOp_one (h pins s σ H Q I hw)
theorem V4 (ha:PE X a ta) (hb:PE X (.BoolOp .And (b::rest) pos) tb):PE X (.BoolOp .And (a::b::rest) pos) (Uh ta tb):=by
 intro pins s σ H Q I h
 refine BoolOp_and (thn (ha pins s σ H _ I h) fun v s1 ⟨x,H1,I1,r1,q1⟩=> ?_)
 obtain⟨c,rfl,q1⟩:=q1
 cases r1
 refine wpAny_truthy_bool ?_
 cases c with
 | true=>exact hb pins s1 σ H1 Q I1 q1
 | false=>exact⟨.bl false,H1,I1,rfl,q1⟩
theorem V5 (ha:PE X a ta):PE X (.UnaryOp .Not a pos) (Ui ta):=by
 intro pins s σ H Q I h
 refine UnaryOp_ (thn (ha pins s σ H _ I h) fun v s1 ⟨x,H1,I1,r1,q1⟩=> ?_)
 obtain⟨c,rfl,q1⟩:=q1
 cases r1
 exact not_of (wpAny_truthy_bool ⟨.bl (!c),H1,I1,rfl,q1⟩)
def tIf (t:TT) (ta tb:TE):TE:=fun σ H Q=>t σ H fun c H1=>if c=true then ta σ H1 Q else tb σ H1 Q
theorem Mp {c:Expr} (hc:PT X c tA) (ha:PE X a ta) (hb:PE X b tb):PE X (.IfExp c a b pos) (tIf tA ta tb):=by
 intro pins s σ H Q I h
 refine wpAny_IfExp (thn (hc pins s σ H _ I h) fun d s1 ⟨H1,I1,q1⟩=> ?_)
 cases d with
 | true=>exact ha pins s1 σ H1 Q I1 q1
 | false=>exact hb pins s1 σ H1 Q I1 q1
end
end L2
namespace L2
open PySem PySem.Spec PyProof.Rows
def SqL (K:PySem.W.Frag) (H:Hp) (a:Addr) (xs:List V):Prop:=
 Rd H a (.lst xs)\/
  ∃(o:Obj) (its:Array Value) (n:Nat),K.lookup a=some o/\o.cls= .type "list"/\o.dict=none/\o.data= .seq its n/\its.size<=sizeLine/\Vals xs its.toList
def SqT (K:PySem.W.Frag) (H:Hp) (a:Addr) (xs:List V):Prop:=
 Rd H a (.tup xs)\/
  ∃(o:Obj) (its:Array Value) (n:Nat),K.lookup a=some o/\o.cls= .type "tuple"/\o.data= .seq its n/\its.size<=sizeLine/\Vals xs its.toList
def ad5:Value->Option V
 | .none=>some .non
 | .bool b=>some (.bl b)
 | .int i _=>some (.int i)
 | .str x _=>some (.str x)
 | .bytes b _=>some (.byt b)
 | .float b _=>some (.flt b)
 | .ref a=>some (.ref a)
 | .type n=>some (.ty n)
 | _=>none
theorem RelV.abs {x:V}{u:Value} (r:RelV x u):ad5 u=some x:=by
 cases x with
 | non=>cases r;rfl
 | bl _=>cases r;rfl
 | int _=>obtain⟨t,rfl⟩:=r;rfl
 | str _=>obtain⟨t,rfl⟩:=r;rfl
 | byt _=>obtain⟨t,rfl⟩:=r;rfl
 | flt _=>obtain⟨t,rfl⟩:=r;rfl
 | ref _=>cases r;rfl
 | ty _=>cases r;rfl
theorem RelV.inj {x y:V}{u:Value} (r:RelV x u) (q:RelV y u):x=y:=Option.some.inj (r.abs.symm.trans q.abs)
theorem Vals.inj:∀{xs ys:List V}{us:List Value},Vals xs us->Vals ys us->xs=ys
 | _,_,_, .nil, .nil=>rfl
 | _,_,_, .cons r t, .cons r' t'=>by rw[r.inj r',Vals.inj t t']
section
variable {X:Cx}{pins:List (Addr×Obj)}{σ:St}{H:Hp}{s:Shared}{a:Addr}{xs ys:List V}
theorem SqL.of {K:PySem.W.Frag} (h:H a=some (.lst xs)):SqL K H a xs:= .inl (.inl h)
theorem SqT.of {K:PySem.W.Frag} (h:H a=some (.tup xs)):SqT K H a xs:= .inl (.inl h)
theorem Inv.list (I:Inv X pins σ H s) (h:SqL X.K H a xs):∃its:List Value,Vals xs its/\PlainL s.heap a its.toArray/\xs.length<=sizeLine:=by
 rcases h with h | ⟨o,its,n,hk,hc,hd,hs,hz,r⟩
 ·obtain⟨z,its,n,r,e⟩:=h.ok I.hok
  exact⟨its,r,⟨_,n,e,rfl,rfl,rfl⟩,z⟩
 ·refine⟨its.toList,r,⟨o,n,I.kIn a o hk,hc,hd,by simpa using hs⟩, ?_⟩
  have e:=r.length
  simp only[Array.length_toList] at e
  omega
theorem Inv.tuple (I:Inv X pins σ H s) (h:SqT X.K H a xs):∃its:List Value,Vals xs its/\IsTup s.heap a its.toArray/\xs.length<=sizeLine:=by
 rcases h with h | ⟨o,its,n,hk,hc,hs,hz,r⟩
 ·obtain⟨z,its,r,p⟩:=h.ok I.hok
  exact⟨its,r,p,z⟩
 ·refine⟨its.toList,r,⟨o,I.kIn a o hk,hc,n,by simpa using hs⟩, ?_⟩
  have e:=r.length
  simp only[Array.length_toList] at e
  omega
theorem Inv.Mq (I:Inv X pins σ H s) (h:SqL X.K H a xs) (h':SqL X.K H a ys):xs=ys:=by
 obtain⟨its,r,⟨o,n,e,_,_,d⟩,_⟩:=I.list h
 obtain⟨its',r',⟨o',n',e',_,_,d'⟩,_⟩:=I.list h'
 rw[e] at e';cases e'
 rw[d] at d'
 injection d' with d1 _
 have:its=its':=by simpa using congrArg Array.toList d1
 subst this
 exact r.inj r'
theorem Inv.DN (I:Inv X pins σ H s) (h:SqT X.K H a xs) (h':SqT X.K H a ys):xs=ys:=by
 obtain⟨its,r,⟨o,e,_,n,d⟩,_⟩:=I.tuple h
 obtain⟨its',r',⟨o',e',_,n',d'⟩,_⟩:=I.tuple h'
 rw[e] at e';cases e'
 rw[d] at d'
 injection d' with d1 _
 have:its=its':=by simpa using congrArg Array.toList d1
 subst this
 exact r.inj r'
end
abbrev Cx.wish (X:Cx) (E:Value->Shared->Prop):Cx:={X with xe:=E}
abbrev Cx.nox (X:Cx):Cx:=X.wish fun _ _=>False
theorem Cx.Ok.wish {X:Cx} (ok:X.Ok) (E:Value->Shared->Prop):(X.wish E).Ok:=
 ⟨ok.mod,ok.kind,ok.glob,ok.blt,ok.above,ok.inj,ok.has,ok.cab,ok.hd,ok.frames,ok.stk,ok.exf,ok.bs,ok.bsz,ok.noex,ok.exfs,ok.funs,ok.frf⟩
theorem Cx.Ok.unwish {X:Cx}{E:Value->Shared->Prop} (ok:(X.wish E).Ok):X.Ok:=
 ⟨ok.mod,ok.kind,ok.glob,ok.blt,ok.above,ok.inj,ok.has,ok.cab,ok.hd,ok.frames,ok.stk,ok.exf,ok.bs,ok.bsz,ok.noex,ok.exfs,ok.funs,ok.frf⟩
section
variable {X:Cx}{pins:List (Addr×Obj)}{σ:St}{H:Hp}{s:Shared}{E:Value->Shared->Prop}
theorem Inv.wish (I:Inv X pins σ H s) (E:Value->Shared->Prop):Inv (X.wish E) pins σ H s:=⟨I.ok.wish E,I.os,I.bare,I.base,I.loc,I.cell,I.free,I.uh,I.pin,I.hok,I.len⟩
theorem Inv.unwish (I:Inv (X.wish E) pins σ H s):Inv X pins σ H s:=⟨I.ok.unwish,I.os,I.bare,I.base,I.loc,I.cell,I.free,I.uh,I.pin,I.hok,I.len⟩
theorem SP.unwish {D:Ends}{f:Flow}{s':Shared} (h:SP (X.wish E) pins D f s'):SP X pins D f s':=by
 cases f with
 | next=>obtain⟨σ',H',I,q⟩:=h;exact⟨σ',H',I.unwish,q⟩
 | brk=>obtain⟨σ',H',I,q⟩:=h;exact⟨σ',H',I.unwish,q⟩
 | cont=>obtain⟨σ',H',I,q⟩:=h;exact⟨σ',H',I.unwish,q⟩
 | ret u=>obtain⟨v,σ',H',I,r,q⟩:=h;exact⟨v,σ',H',I.unwish,r,q⟩
theorem PSs.nox {st:List Stmt}{t:TS} (h:PSs X.nox st t):PSs X st t:=fun pins s σ H D I hw=>
 wpAny_mono (h pins s σ H D (I.wish _) hw) (fun _ _ q=>q.unwish) fun _ _ z=>False.elim z
end
section
variable {X:Cx}{st:Stmt}{rest:List Stmt}{t u:TS}{e:Expr}{te:TE}{pos:Pos}
def JZ:TS:=fun D σ H=>D.nx σ H
def Z1 (t u:TS):TS:=fun D σ H=>t {D with nx:=u D} σ H
theorem Qi:PSs X [] JZ:=fun _ _ σ H _ I h=>wpAny_execs_nil ⟨σ,H,I,h⟩
theorem Mr (h1:PS X st t) (h2:PSs X rest u):PSs X (st::rest) (Z1 t u):=by
 intro pins s σ H D I h
 refine wpAny_execs_cons (thn (h1 pins s σ H {D with nx:=u D} I h) fun f s1 q=> ?_)
 cases f with
 | next=>
   obtain⟨σ',H',I',q⟩:=q
   exact h2 pins s1 σ' H' D I' q
 | ret v=>exact q
 | brk=>exact q
 | cont=>exact q
theorem Qj (h1:PS X st t):PSs X [st] t:=by
 intro pins s σ H D I h
 refine wpAny_execs_cons (thn (h1 pins s σ H D I h) fun f s1 q=> ?_)
 cases f with
 | next=>exact wpAny_execs_nil q
 | ret v=>exact q
 | brk=>exact q
 | cont=>exact q
def Uj:TS:=fun D σ H=>D.ct σ H
theorem Qk:PS X (.Pass pos) JZ:=fun _ _ σ H _ I h=>wpAny_Pass ⟨σ,H,I,h⟩
theorem Gy:PS X (.Continue pos) Uj:=fun _ _ σ H _ I h=>wpAny_Continue ⟨σ,H,I,h⟩
theorem Inv.quiet {pins:List (Addr×Obj)}{σ:St}{H:Hp}{s:Shared} (I:Inv X pins σ H s):interactive X.env=false:=by simp[interactive,I.ok.kind]
def Uk (te:TE):TS:=fun D σ H=>te σ H fun _ H1=>D.nx σ H1
theorem Ql (he:PE X e te) (hs:swapsWith e none pos.line X.env=pure false:=by rfl):PS X (.Expr e pos) (Uk te):=by
 intro pins s σ H D I h
 exact wpAny_Expr_any (thn (he pins s σ H _ I h) fun v s1 ⟨x,H1,I1,r1,q1⟩=>⟨σ,H1,I1,q1⟩) I.quiet hs
def Z2 (te:TE):TS:=fun D σ H=>te σ H D.rt
theorem V6 (he:PE X e te):PS X (.Return (some e) pos) (Z2 te):=by
 intro pins s σ H D I h
 exact wpAny_Return_some (thn (he pins s σ H _ I h) fun v s1 ⟨x,H1,I1,r1,q1⟩=>⟨x,σ,H1,I1,r1,q1⟩)
def Z3 (c:TT) (t u:TS):TS:=fun D σ H=>c σ H fun b H1=>if b=true then t D σ H1 else u D σ H1
theorem Z4 {c:Expr}{a b:List Stmt}{tc:TT} (hc:PT X c tc) (ha:PSs X a t) (hb:PSs X b u):PS X (.If c a b pos) (Z3 tc t u):=by
 intro pins s σ H D I h
 refine wpAny_If (thn (hc pins s σ H _ I h) fun d s1 ⟨H1,I1,q1⟩=> ?_)
 cases d with
 | true=>exact ha pins s1 σ H1 D I1 q1
 | false=>exact hb pins s1 σ H1 D I1 q1
def Mt:TS:=fun _ _ _=>False
theorem Mv:PS X st Mt:=fun _ _ _ _ _ _ h=>h.elim
end
abbrev TG:=V->St->Hp->(St->Hp->Prop)->Prop
abbrev TGs:=List V->St->Hp->(St->Hp->Prop)->Prop
def PG (X:Cx) (target:Expr) (t:TG):Prop:=
 ∀(pins:List (Addr×Obj)) (s:Shared) (σ:St) (H:Hp) (v:V) (u:Value) (Q:St->Hp->Prop),Inv X pins σ H s->RelV v u->t v σ H Q->
  wpAny (model X.prog X.w) X.A (assign target X.env u) (fun _ s'=>∃σ' H',Inv X pins σ' H' s'/\Q σ' H') X.xe s
def PGs (X:Cx) (ts:List Expr) (t:TGs):Prop:=
 ∀(pins:List (Addr×Obj)) (s:Shared) (σ:St) (H:Hp) (vs:List V) (us:List Value) (Q:St->Hp->Prop),Inv X pins σ H s->Vals vs us->t vs σ H Q->
  wpAny (model X.prog X.w) X.A (assignInOrder ((assignEach ts X.env).map (·.2)) us) (fun _ s'=>∃σ' H',Inv X pins σ' H' s'/\Q σ' H') X.xe s
section
variable {X:Cx}{pos:Pos}
def yf (i:Nat):TG:=fun v σ H Q=>Q (σ.set i (some v)) H
theorem J0 {i:Nat}{x:Str} (hN:X.N.Nodup) (hi:X.N[i]? =some x) (hx:Loc X.env.scope x) (hf:X.fn x=true\/X.env.scope.names.lookup x=some .local:=by first | exact .inl rfl | exact .inr rfl | assumption):PG X (.Name x pos) (yf i):=by
 intro pins s σ H v u Q I r h
 exact wpAny_assign_Name (Gx I hN hi hx r (fun s' I'=>⟨_,H,I',h⟩) hf)
def Z5:TGs:=fun vs σ H Q=>vs=[]/\Q σ H
def Ul (t:TG) (u:TGs):TGs:=fun vs σ H Q=>∃v r,vs=v::r/\t v σ H fun σ' H'=>u r σ' H' Q
theorem Qm:PGs X [] Z5:=by
 intro pins s σ H vs us Q I r h
 obtain⟨e,h⟩:=h
 subst e
 cases r
 exact assignInOrder_nil ⟨σ,H,I,h⟩
theorem Mw {e:Expr}{es:List Expr}{t:TG}{u:TGs} (h1:PG X e t) (h2:PGs X es u)
 (hs:(assignEach (e::es) X.env).map (·.2)=assign e X.env::(assignEach es X.env).map (·.2):=by rfl):PGs X (e::es) (Ul t u):=by
 intro pins s σ H vs us Q I r h
 obtain⟨v,vr,e1,h⟩:=h
 subst e1
 cases r with
 | cons r rr=>
   rw[hs]
   refine assignInOrder_cons (thn (h1 pins s σ H _ _ _ I r h) fun _ s1 ⟨σ1,H1,I1,q1⟩=> ?_)
   exact h2 pins s1 σ1 H1 _ _ Q I1 rr q1
def V7 (K:PySem.W.Frag) (n:Nat) (t:TGs):TG:=fun v σ H Q=>∃a xs,v= .ref a/\SqT K H a xs/\xs.length=n/\t xs σ H Q
theorem V8 {es:List Expr}{k:Nat}{t:TGs}{n:Nat} (hc:X.calm=true) (h:PGs X es t)
 (hn:(assignEach es X.env).length=n:=by rfl) (hst:(assignEach es X.env).findIdx? (·.1)=none:=by rfl):PG X (.Tuple es k pos) (V7 X.K n t):=by
 intro pins s σ H v u Q I r hw
 obtain⟨a,xs,e1,hq,hl,hw⟩:=hw
 subst e1
 cases r
 obtain⟨its,rv,ht,hz⟩:=I.tuple hq
 refine assign_Tuple_tuple (I.ok.hd hc) ht (by simp[hn,<-hl,rv.length]) hst fun h' hx=> ?_
 have I1:Inv X pins σ H {s with heap:=h'}:=I.kept (t':=s.toks) fun b o e=>hx b o (Nat.ne_of_lt (Heap.lt_size e)) e
 exact h pins _ σ H xs _ Q I1 (by simpa using rv) hw
def KZ (te:TE) (g:TG):TS:=fun D σ H=>te σ H fun x H1=>g x σ H1 D.nx
theorem V9 {tg e:Expr}{te:TE}{g:TG} (he:PE X e te) (hg:PG X tg g) (hs:swapsWithSole [tg] e pos.line X.env=pure false:=by rfl) (hw:swappedStores [tg] e X.env=pure none:=by rfl)
 (h1:(assignEach [tg] X.env).map (·.2)=[assign tg X.env]:=by rfl):PS X (.Assign [tg] e pos) (KZ te g):=by
 intro pins s σ H D I h
 refine wpAny_Assign_stores (thn (he pins s σ H _ I h) fun v s1 ⟨x,H1,I1,r1,q1⟩=> ?_) hs hw
 rw[h1]
 exact thn (hg pins s1 σ H1 x v _ I1 r1 q1) fun _ s2 q=>q
theorem Wa {i:Nat}{x:Str}{e:Expr}{te:TE}{pos':Pos} (hN:X.N.Nodup) (hi:X.N[i]? =some x) (hx:Loc X.env.scope x) (he:PE X e te) (hs:swapsWith e (some (.Name x pos')) pos.line X.env=pure false:=by rfl) (hf:X.fn x=true\/X.env.scope.names.lookup x=some .local:=by first | exact .inl rfl | exact .inr rfl | assumption):
 PS X (.Assign [.Name x pos'] e pos) (KZ te (yf i)):=by
 intro pins s σ H D I h
 refine wpAny_Assign_Name (thn (he pins s σ H _ I h) fun v s1 ⟨y,H1,I1,r1,q1⟩=> ?_) hs
 exact Gx I1 hN hi hx r1 (fun s2 I2=>⟨_,H1,I2,q1⟩) hf
end
section
variable {X:Cx}{pos:Pos}
def Mx (c:TT) (tb:TS):TS:=fun D σ H=>∃W:Nat->St->Hp->Prop,(∃m,W m σ H)/\∀m σ H,W m σ H->
 c σ H fun b H1=>if b=true then∃N:St->Hp->Prop,(∀σ' H',N σ' H'->∃m',m'<m/\W m' σ' H')/\tb {D with nx:=N,ct:=N,bk:=D.nx} σ H1 else D.nx σ H1
theorem Mz {c:Expr}{body:List Stmt}{tc:TT}{tb:TS} (hp:PassesOwn (model X.prog X.w) X.A X.env X.xe) (hc:PT X c tc) (hb:PSs X body tb):PS X (.While c body [] pos) (Mx tc tb):=by
 intro pins s σ H D I h
 obtain⟨W,⟨m0,w0⟩,turn⟩:=h
 refine wpAny_While (codeAny_whileLoop (fun n s'=>∃σ' H',Inv X pins σ' H' s'/\W n σ' H') ?_ m0 ⟨σ,H,I,w0⟩)
 rintro n s1 ⟨σ1,H1,I1,w1⟩
 refine wpAny_passesOwn hp (thn (hc pins s1 σ1 H1 _ I1 (turn n σ1 H1 w1)) fun b s2 ⟨H2,I2,q2⟩=> ?_)
 cases b with
 | true=>
   obtain⟨N,hN,q2⟩:=q2
   rw[if_pos rfl]
   refine wpAny_passesOwn hp (thn (hb pins s2 σ1 H2 _ I2 q2) fun f s3 q3=> ?_)
   cases f with
   | next=>
     obtain⟨σ3,H3,I3,n3⟩:=q3
     obtain⟨m',hm,w3⟩:=hN σ3 H3 n3
     exact⟨m',hm,σ3,H3,I3,w3⟩
   | cont=>
     obtain⟨σ3,H3,I3,n3⟩:=q3
     obtain⟨m',hm,w3⟩:=hN σ3 H3 n3
     exact⟨m',hm,σ3,H3,I3,w3⟩
   | brk=>exact q3
   | ret v=>exact q3
 | false=>
   rw[if_neg Bool.false_ne_true]
   exact wpAny_execs_nil ⟨σ1,H2,I2,q2⟩
end
structure It where
 go:Nat->Hp->Prop
 yld:Nat->Hp->V->Hp->Prop
 stop:Nat->Hp->Prop
def yV (X:Cx) (pins:List (Addr×Obj)) (H:Hp) (b:Addr):Prop:=
 H b=none/\b≠X.env.locals/\b∉X.fs/\(b∈X.ex\/X.s₀.heap.objs.size<=b)/\(∀x c,X.env.cells.lookup x=some c->c≠b)/\∀p∈X.pn++pins,p.1≠b
theorem Inv.Il {X:Cx}{pins:List (Addr×Obj)}{σ:St}{H H':Hp}{s:Shared}{b:Addr} (I:Inv X pins σ H s) (hb:s.heap.objs.size<=b) (hn:H' b=none):yV X pins H' b:=by
 refine⟨hn,Nat.ne_of_gt (Nat.lt_of_lt_of_le I.lt hb),I.nofs hb, .inr (Nat.le_trans I.sz hb),fun x c e z=> ?_,fun p hp z=> ?_⟩
 ·obtain⟨v,q⟩:=I.cell x c e
  exact absurd (Nat.lt_of_lt_of_le q.lt (by rw[z];exact hb)) (Nat.lt_irrefl _)
 ·exact absurd (Nat.lt_of_lt_of_le (Heap.lt_size (I.pin p hp).1) (by rw[z];exact hb)) (Nat.lt_irrefl _)
structure Turn (P:Program) (w:World) (K:PySem.W.Frag) (tg:Expr) (J:It) (fp:List Addr) (it:Addr) (tn:Nat->Heap->Prop):Prop where
 mem:it∈fp
 obj:∀i h,tn i h->∀b∈fp,∃o,h.get? b=some o/\∀v,o.data≠ .cell v
 keep:∀i h h',tn i h->(∀b∈fp,∀o,h.get? b=some o->h'.get? b=some o)->tn i h'
 item:∀(X:Cx),X.prog=P->X.w=w->X.K=K->X.calm=true->∀(i:Nat) (pins:List (Addr×Obj)) (s:Shared) (σ:St) (H:Hp) (E:Value->Shared->Prop),Inv X pins σ H s->(∀b∈fp,yV X pins H b)->tn i s.heap->J.go i H->
  wpAny (model P w) X.A (pyNext (.ref it)) (fun r s1=>∃u,r=some u/\
   wpAny (model P w) X.A (letOwnedTupleGo tg (.ref it) u) (fun _ s2=>∃x H',Inv X pins σ H' s2/\RelV x u/\J.yld i H x H'/\tn (i+1) s2.heap/\∀b∈fp,H' b=none) E s1) E s
 done:∀(X:Cx),X.prog=P->X.w=w->X.K=K->X.calm=true->∀(i:Nat) (pins:List (Addr×Obj)) (s:Shared) (σ:St) (H:Hp) (E:Value->Shared->Prop),Inv X pins σ H s->(∀b∈fp,yV X pins H b)->tn i s.heap->J.stop i H->
  wpAny (model P w) X.A (pyNext (.ref it)) (fun r s1=>r=none/\Inv X pins σ H s1) E s
 self:∀(A:Around) (i:Nat) (s:Shared) (Q:Value->Shared->Prop) (E:Value->Shared->Prop),tn i s.heap->Q (.ref it) s->wpAny (model P w) A (pyIter (.ref it)) Q E s
abbrev TI:=St->Hp->(It->Hp->Prop)->Prop
def PIE (X:Cx) (pins:List (Addr×Obj)) (σ:St) (tg:Expr) (R:It->Hp->Prop) (itv:Value) (s2:Shared):Prop:=
 ∃(it:Addr) (fp:List Addr) (tn:Nat->Heap->Prop) (J:It) (H':Hp),itv= .ref it/\Inv X pins σ H' s2/\Turn X.prog X.w X.K tg J fp it tn/\tn 0 s2.heap/\(∀b∈fp,yV X pins H' b)/\R J H'
def PI (X:Cx) (tg iter:Expr) (wi:TI):Prop:=
 ∀(pins:List (Addr×Obj)) (s:Shared) (σ:St) (H:Hp) (R:It->Hp->Prop),Inv X pins σ H s->wi σ H R->
  wpAny (model X.prog X.w) X.A (eval iter X.env) (fun v s1=>wpAny (model X.prog X.w) X.A (pyIter v) (PIE X pins σ tg R) X.xe s1) X.xe s
theorem MF {M:Model}{A:Around}{E:Value->Shared->Prop}{s:Shared}{tg:Expr}{it:Addr}{u:Value}{o:Obj}{n:String}{vs:Array Value}{Q:Unit->Shared->Prop} (ho:s.heap.get? it=some o) (hc:o.cls= .type n) (hd:o.data= .fields vs)
 (hn:["enumerate","zip","dict_itemiterator","dict_reverseitemiterator","odict_iterator","itertools.zip_longest","itertools.pairwise"].contains n=false) (hQ:Q () s):wpAny M A (letOwnedTupleGo tg (.ref it) u) Q E s:=by
 unfold letOwnedTupleGo
 cases tg<;>first
  | exact wpAny_pure hQ
  | (cases u<;>first
      | exact wpAny_pure hQ
      | (refine wpAny_bind (wpAny_load ho ?_)
         rw[hc,hd]
         show wpAny M A (if(["enumerate","zip","dict_itemiterator","dict_reverseitemiterator","odict_iterator","itertools.zip_longest","itertools.pairwise"].contains n&&vs[0]? ==some (rawInt _))=true then _ else _) Q E s
         rw[if_neg (by intro h;rw[hn,Bool.false_and] at h;cases h)]
         exact wpAny_pure hQ))
def Itl (K:PySem.W.Frag) (a:Addr):It:=
 ⟨fun i H=>∃xs x,SqL K H a xs/\xs[i]? =some x,fun i H x H'=>H'=H/\∀xs,SqL K H a xs->xs[i]? =some x,fun i H=>∃xs,SqL K H a xs/\xs.length<=i⟩
def Itr (lo:Int) (n:Nat):It:=⟨fun i _=>i<n,fun i H x H'=>H'=H/\x= .int (lo+i),fun i _=>n<=i⟩
theorem K1 {P:Program}{w:World}{K:PySem.W.Frag}{tg:Expr} (a it:Addr):Turn P w K tg (Itl K a) [it] it (fun i h=>h.IsListIter it a i) where
 mem:=by simp
 obj:=fun i h st b hb=>by
  have e:b=it:=by simpa using hb
  subst e
  obtain⟨o,e,c,d⟩:=st
  exact⟨o,e,fun v z=>by rw[d] at z;cases z⟩
 keep:=fun i h h' st k=>st.at fun o e=>k it (by simp) o e
 item:=by
  intro X hP hw hK hc i pins s σ H E I hf st hg
  subst hP hw hK
  obtain⟨xs,x,hq,hx⟩:=hg
  obtain⟨its,rv,p,hz⟩:=I.list hq
  obtain⟨u,hu,ru⟩:=rv.get hx
  obtain⟨f0,f1,f2,f3,f4,f5⟩:=hf it (by simp)
  refine wpAny_pyNext_list_item st p.isList (x:=u) (by simpa using hu) fun h' st' sb=> ?_
  have I1:Inv X pins σ H {s with heap:=h'}:=I.turned (t':=s.toks) (fun b o hb e=>(sb.2 b hb).trans e) f0 f1 f3 f4 f5
  obtain⟨o,e,c,d⟩:=id st'
  exact⟨u,rfl,MF (s:={s with heap:=h'}) e c d (by decide) ⟨x,H,I1,ru,⟨rfl,fun ys hy=>by rw[I.Mq hy hq];exact hx⟩,st',fun b hb=>(hf b hb).1⟩⟩
 done:=by
  intro X hP hw hK hc i pins s σ H E I hf st hg
  subst hP hw hK
  obtain⟨xs,hq,hx⟩:=hg
  obtain⟨its,rv,p,hz⟩:=I.list hq
  obtain⟨f0,f1,f2,f3,f4,f5⟩:=hf it (by simp)
  have hl:=rv.length
  exact wpAny_pyNext_list_end (I.ok.hd hc) st p.isList (by simp;omega) fun h' eb=>⟨rfl,I.turned (t':=s.toks) (fun b o hb e=>eb b o hb e) f0 f1 f3 f4 f5⟩
 self:=fun _ _ _ _ _ st h=>wpAny_pyIter_listiter st h
theorem Im {P:Program}{w:World}{K:PySem.W.Frag}{tg:Expr} (it:Addr) (lo:Int) (n:Nat):Turn P w K tg (Itr lo n) [it] it (fun i h=>IsRangeIter h it (lo+(i:Nat)* 1) ((n:Int) - (i:Nat)) 1) where
 mem:=by simp
 obj:=fun i h st b hb=>by
  have e:b=it:=by simpa using hb
  subst e
  exact⟨_,st,fun v z=>by
   have z':Data.fields _=Data.cell v:=z
   cases z'⟩
 keep:=fun i h h' st k=>k it (by simp) _ st
 item:=by
  intro X hP hw hK hc i pins s σ H E I hf st hg
  subst hP hw hK
  obtain⟨f0,f1,f2,f3,f4,f5⟩:=hf it (by simp)
  have W:=Walks.range (prog:=X.prog) (w:=X.w) (I.ok.hd hc) it lo 1 n
  refine W.item i s _ _ hg st fun v h' tk hv st' kk=> ?_
  obtain⟨t,rfl⟩:=hv
  have I1:Inv X pins σ H {s with heap:=h',toks:=tk}:=I.turned (fun b o hb e=>kk b o (by simpa using hb) e) f0 f1 f3 f4 f5
  refine⟨_,rfl,MF (s:={s with heap:=h',toks:=tk}) (n:="range_iterator") st' rfl rfl (by decide) ⟨.int (lo+i),H,I1,⟨t, ?_⟩,⟨rfl,rfl⟩,st',fun b hb=>(hf b hb).1⟩⟩
  rw[Int.mul_one]
 done:=by
  intro X hP hw hK hc i pins s σ H E I hf st hg
  subst hP hw hK
  obtain⟨f0,f1,f2,f3,f4,f5⟩:=hf it (by simp)
  exact wpAny_pyNext_range_end (I.ok.hd hc) st (by have:n<=i:=hg;omega) fun h' eb=>⟨rfl,I.turned (t':=s.toks) (fun b o hb e=>eb b o hb e) f0 f1 f3 f4 f5⟩
 self:=fun _ _ _ _ _ st h=>wpAny_pyIter_rangeiter st h
end L2
namespace L2
open PySem PySem.Spec PyProof.Rows
section
variable {X:Cx}{tg:Expr}
def Um (K:PySem.W.Frag) (tl:TE):TI:=fun σ H R=>tl σ H fun x H1=>∃a,x= .ref a/\(∃xs,SqL K H1 a xs)/\R (Itl K a) H1
theorem Qn {l:Expr}{tl:TE} (hl:PE X l tl):PI X tg l (Um X.K tl):=by
 intro pins s σ H R I h
 refine thn (hl pins s σ H _ I h) fun v s1 ⟨x,H1,I1,r1,q1⟩=> ?_
 obtain⟨a,e,⟨xs,hq⟩,q⟩:=q1
 subst e
 cases r1
 obtain⟨its,rv,p,hz⟩:=I1.list hq
 refine wpAny_pyIter_list p.isList ?_
 refine⟨s1.heap.objs.size,[s1.heap.objs.size],_,_,H1,rfl,I1.kept (t':=s1.toks) fun b o e=>Heap.get?_push_of_some _ e,K1 a _,⟨_,Heap.get?_push_size _ rfl,rfl,rfl⟩,fun b hb=> ?_,q⟩
 have e:b=s1.heap.objs.size:=by simpa using hb
 subst e
 exact I1.Il (Nat.le_refl _) (I1.hok.fresh (Nat.le_refl _))
theorem MJ {pins:List (Addr×Obj)}{σ:St}{H:Hp}{s:Shared}{R:It->Hp->Prop}{E:Value->Shared->Prop}{lo hi:Int}{t u v:Tok}{tk:Nat} (I:Inv X pins σ H s) (h1: -(2 ^ 62)<=lo) (h2:lo<2 ^ 62) (h3: -(2 ^ 62)<=hi) (h4:hi<2 ^ 62)
 (q:R (Itr lo (hi - lo).toNat) H):wpAny (model X.prog X.w) X.A (pyIter (.ref s.heap.objs.size)) (PIE X pins σ tg R) E {s with heap:=s.heap.push {cls:= .type "range",data:= .fields #[.int lo t, .int hi u, .int 1 v]},toks:=tk}:=by
 refine wpAny_pyIter_range (IsRange.new ..) (small_one h1 h2 h3 h4) ?_
 have I1:Inv X pins σ H {s with heap:=s.heap.push {cls:= .type "range",data:= .fields #[.int lo t, .int hi u, .int 1 v]},toks:=tk}:=I.kept fun b o e=>Heap.get?_push_of_some _ e
 refine⟨(s.heap.push {cls:= .type "range",data:= .fields #[.int lo t, .int hi u, .int 1 v]}).objs.size,[(s.heap.push {cls:= .type "range",data:= .fields #[.int lo t, .int hi u, .int 1 v]}).objs.size],_,_,H,rfl,
  I1.kept (t':=tk) fun b o e=>Heap.get?_push_of_some _ e,Im _ lo (hi - lo).toNat, ?_,fun b hb=> ?_,q⟩
 ·have e1:lo+((0:Nat):Int)* 1=lo:=by simp
  have e2:(((hi - lo).toNat:Nat):Int) - ((0:Nat):Int)=Builtin.Range.rangeSize lo hi 1:=by rw[rangeSize_one];split<;>omega
  show IsRangeIter _ _ (lo+((0:Nat):Int)* 1) ((((hi - lo).toNat:Nat):Int) - ((0:Nat):Int)) 1
  rw[e1,e2]
  exact Heap.get?_push_size _ rfl
 ·have e:b=(s.heap.push {cls:= .type "range",data:= .fields #[.int lo t, .int hi u, .int 1 v]}).objs.size:=by simpa using hb
  subst e
  exact I1.Il (Nat.le_refl _) (I1.hok.fresh (Nat.le_refl _))
def Uo (ta:TA):TI:=fun σ H R=>ta σ H fun vs H1=>∃j:Int,vs=[.int j]/\ -(2 ^ 62)<=j/\j<2 ^ 62/\R (Itr 0 j.toNat) H1
theorem K3 {a:Expr}{ta:TA}{p pos:Pos} (hg:Gl X "range") (hm:X.mg "range"=none) (ha:PA X [a] ta) (hs:starEach [a] X.env=[(false,eval a X.env)]:=by rfl):PI X tg (.Call (.Name "range" p) [a] [] pos) (Uo ta):=by
 intro pins s σ H R I h
 refine Call_ (yU I hg hm boot_range (PyProof.Rows.callWith_type1 (thn (ha pos pins s σ H _ I h) fun us s1 ⟨vs,H1,I1,r1,q1⟩=> ?_) hs rfl))
 obtain⟨j,e,q1,q2,q⟩:=q1
 subst e
 cases r1 with
 | cons r rr=>
   cases rr
   obtain⟨t,rfl⟩:=r
   exact call_range_1 (MJ I1 (by omega) (by omega) q1 q2 (by simpa using q))
def Z6 (wi:TI) (g:TG) (tb:TS):TS:=fun D σ H=>wi σ H fun J H1=>∃W:Nat->Nat->St->Hp->Prop,(∃m,W 0 m σ H1)/\∀i m σ H,W i m σ H->
 (J.stop i H/\D.nx σ H)\/(J.go i H/\∃N:St->Hp->Prop,(∀σ' H',N σ' H'->∃m',m'<m/\W (i+1) m' σ' H')/\∀x H',J.yld i H x H'->g x σ H' fun σ2 H2=>tb {D with nx:=N,ct:=N,bk:=D.nx} σ2 H2)
def Ba (fp:List Addr) (h:Heap):List (Addr×Obj):=fp.filterMap fun b=>(h.get? b).map fun o=>(b,o)
theorem rM {fp:List Addr}{h:Heap}{b:Addr}{o:Obj} (hb:b∈fp) (e:h.get? b=some o):(b,o)∈Ba fp h:=List.mem_filterMap.mpr ⟨b,hb,by rw[e];rfl⟩
theorem K4 {fp:List Addr}{h:Heap}{p:Addr×Obj} (hp:p∈Ba fp h):p.1∈fp/\h.get? p.1=some p.2:=by
 obtain⟨b,hb,e⟩:=List.mem_filterMap.mp hp
 cases q:h.get? b with
 | none=>rw[q] at e;cases e
 | some o=>
   rw[q] at e
   have e':(b,o)=p:=Option.some.inj e
   subst e'
   exact⟨hb,q⟩
theorem Inv.pinned {pins:List (Addr×Obj)}{σ:St}{H:Hp}{s:Shared}{fp:List Addr} (I:Inv X pins σ H s) (hf:∀b∈fp,yV X pins H b) (ho:∀b∈fp,∃o,s.heap.get? b=some o/\∀v,o.data≠ .cell v):Inv X (pins++Ba fp s.heap) σ H s:=
 I.JW fun p hp=>(List.mem_append.mp hp).elim (fun z=>I.pin p (List.mem_append_right _ z)) fun z=>by
   obtain⟨hb,e⟩:=K4 z
   obtain⟨f0,f1,f2,_⟩:=hf p.1 hb
   obtain⟨o,e',d⟩:=ho p.1 hb
   rw[e] at e';cases e'
   exact⟨e,f0,f1,f2,d⟩
theorem Inv.unpinned {pins pl:List (Addr×Obj)}{σ:St}{H:Hp}{s:Shared} (I:Inv X (pins++pl) σ H s):Inv X pins σ H s:=I.JW fun p hp=>I.pin p (List.mem_append_right _ (List.mem_append_left _ hp))
theorem Wb {iter:Expr}{body:List Stmt}{wi:TI}{g:TG}{tb:TS}{pos:Pos} (hp:PassesOwn (model X.prog X.w) X.A X.env X.xe) (hc:X.calm=true) (hi:PI X tg iter wi) (hg:PG X tg g) (hb:PSs X body tb)
 (hs:∀x,foldedSetIterable iter X.env x=pure x:=by intro _;rfl):PS X (.For tg iter body [] pos) (Z6 wi g tb):=by
 intro pins s σ H D I h
 refine wpAny_For (thn (hi pins s σ H _ I h) fun v s1 h1=>thn h1 fun itv s2 h2=> ?_) hs
 obtain⟨it,fp,tn,J,H2,e,I2,T,st2,f2,W,⟨m0,w0⟩,turn⟩:=h2
 subst e
 have stat:∀{H':Hp},(∀b∈fp,H' b=none)->∀b∈fp,yV X pins H' b:=fun hn b hb=>⟨hn b hb,(f2 b hb).2⟩
 refine codeAny_forLoop_any (fun n s'=>∃i σ' H',Inv X pins σ' H' s'/\tn i s'.heap/\(∀b∈fp,H' b=none)/\W i n σ' H') ?_ m0 ⟨0,σ,H2,I2,st2,fun b hb=>(f2 b hb).1,w0⟩
 rintro n s3 ⟨i,σ3,H3,I3,st3,fr3,w3⟩
 rcases turn i n σ3 H3 w3 with⟨stop,qn⟩ | ⟨go,N,hN,step⟩
 ·refine wpAny_passesOwn hp (thn (T.done X rfl rfl rfl hc i pins s3 σ3 H3 X.xe I3 (stat fr3) st3 stop) fun r s4 ⟨hr,I4⟩=> ?_)
  subst hr
  exact wpAny_execs_nil ⟨σ3,H3,I4,qn⟩
 ·refine wpAny_passesOwn hp (thn (T.item X rfl rfl rfl hc i pins s3 σ3 H3 X.xe I3 (stat fr3) st3 go) fun r s4 ⟨u,hr,h4⟩=> ?_)
  subst hr
  refine wpAny_passesOwn hp (thn h4 fun _ s5 ⟨x,H5,I5,r5,y5,st5,fr5⟩=> ?_)
  have I5':=I5.pinned (stat fr5) (T.obj _ _ st5)
  refine wpAny_passesOwn hp (thn (hg _ s5 σ3 H5 x u _ I5' r5 (step x H5 y5)) fun _ s6 ⟨σ6,H6,I6,q6⟩=> ?_)
  refine wpAny_passesOwn hp (thn (hb _ s6 σ6 H6 _ I6 q6) fun f s7 q7=> ?_)
  have again:∀{σ7:St}{H7:Hp},Inv X (pins++Ba fp s5.heap) σ7 H7 s7->N σ7 H7->∃m,m<n/\∃i σ' H',Inv X pins σ' H' s7/\tn i s7.heap/\(∀b∈fp,H' b=none)/\W i m σ' H':=fun{σ7 H7} I7 n7=>by
   obtain⟨m',hm,w7⟩:=hN σ7 H7 n7
   refine⟨m',hm,i+1,σ7,H7,I7.unpinned,T.keep _ _ _ st5 fun b hb o e=>(I7.pin (b,o) (List.mem_append_right _ (List.mem_append_right _ (rM hb e)))).1,fun b hb=> ?_,w7⟩
   obtain⟨o,e,d⟩:=T.obj _ _ st5 b hb
   exact(I7.pin (b,o) (List.mem_append_right _ (List.mem_append_right _ (rM hb e)))).2.1
  cases f with
  | next=>obtain⟨σ7,H7,I7,n7⟩:=q7;exact again I7 n7
  | cont=>obtain⟨σ7,H7,I7,n7⟩:=q7;exact again I7 n7
  | brk=>obtain⟨σ7,H7,I7,q7⟩:=q7;exact⟨σ7,H7,I7.unpinned,q7⟩
  | ret v=>obtain⟨x7,σ7,H7,I7,r7,q7⟩:=q7;exact⟨x7,σ7,H7,I7.unpinned,r7,q7⟩
end
theorem Bb {K:PySem.W.Frag}{a:Addr}{xs:List V}{g:TG}{tb:TS}{D:Ends}{σ:St}{H:Hp} (Pv:Nat->St->Hp->Prop) (h0:Pv 0 σ H) (hl:∀i σ H,i<=xs.length->Pv i σ H->SqL K H a xs)
 (hs:∀i x σ H,xs[i]? =some x->Pv i σ H->g x σ H fun σ2 H2=>tb {D with nx:=Pv (i+1),ct:=Pv (i+1),bk:=D.nx} σ2 H2) (hd:∀σ H,Pv xs.length σ H->D.nx σ H):
 ∃W:Nat->Nat->St->Hp->Prop,(∃m,W 0 m σ H)/\∀i m σ H,W i m σ H->
  ((Itl K a).stop i H/\D.nx σ H)\/((Itl K a).go i H/\∃N:St->Hp->Prop,(∀σ' H',N σ' H'->∃m',m'<m/\W (i+1) m' σ' H')/\∀x H',(Itl K a).yld i H x H'->g x σ H' fun σ2 H2=>tb {D with nx:=N,ct:=N,bk:=D.nx} σ2 H2):=by
 refine⟨fun i m σ H=>m=xs.length - i/\i<=xs.length/\Pv i σ H,⟨xs.length,by simp,Nat.zero_le _,h0⟩, ?_⟩
 rintro i m σ H ⟨rfl,hi,p⟩
 have q:=hl i σ H hi p
 by_cases hlt:i<xs.length
 ·refine .inr ⟨⟨xs,xs[i],q,by simp[hlt]⟩,Pv (i+1),fun σ' H' p'=>⟨xs.length - (i+1),by omega,rfl,hlt,p'⟩,fun x H' y=> ?_⟩
  obtain⟨e,y⟩:=y
  subst e
  exact hs i x σ _ (y xs q) p
 ·have e:i=xs.length:=by omega
  subst e
  exact .inl ⟨⟨xs,q,Nat.le_refl _⟩,hd σ H p⟩
theorem DP {lo:Int}{n:Nat}{g:TG}{tb:TS}{D:Ends}{σ:St}{H:Hp} (Pv:Nat->St->Hp->Prop) (h0:Pv 0 σ H)
 (hs:∀i σ H,i<n->Pv i σ H->g (.int (lo+i)) σ H fun σ2 H2=>tb {D with nx:=Pv (i+1),ct:=Pv (i+1),bk:=D.nx} σ2 H2) (hd:∀σ H,Pv n σ H->D.nx σ H):
 ∃W:Nat->Nat->St->Hp->Prop,(∃m,W 0 m σ H)/\∀i m σ H,W i m σ H->
  ((Itr lo n).stop i H/\D.nx σ H)\/((Itr lo n).go i H/\∃N:St->Hp->Prop,(∀σ' H',N σ' H'->∃m',m'<m/\W (i+1) m' σ' H')/\∀x H',(Itr lo n).yld i H x H'->g x σ H' fun σ2 H2=>tb {D with nx:=N,ct:=N,bk:=D.nx} σ2 H2):=by
 refine⟨fun i m σ H=>m=n - i/\i<=n/\Pv i σ H,⟨n,by simp,Nat.zero_le _,h0⟩, ?_⟩
 rintro i m σ H ⟨rfl,hi,p⟩
 by_cases hlt:i<n
 ·refine .inr ⟨hlt,Pv (i+1),fun σ' H' p'=>⟨n - (i+1),by omega,rfl,hlt,p'⟩,fun x H' y=> ?_⟩
  obtain⟨e,y⟩:=y
  subst e y
  exact hs i σ _ hlt p
 ·have e:i=n:=by omega
  subst e
  exact .inl ⟨Nat.le_refl _,hd σ H p⟩
end L2
namespace L2
open PySem PySem.Spec PyProof.Rows
abbrev R2:=V->V->Hp->VK->Prop
def OpR (X:Cx) (f:Value->Value->Sem Value) (r:R2):Prop:=
 ∀(pins:List (Addr×Obj)) (s:Shared) (σ:St) (H:Hp) (x y:V) (v u:Value) (Q:VK),Inv X pins σ H s->RelV x v->RelV y u->r x y H Q->
  wpAny (model X.prog X.w) X.A (f v u) (EP X pins σ Q) X.xe s
def UnR (X:Cx) (f:Value->Sem Value) (r:V->Hp->VK->Prop):Prop:=
 ∀(pins:List (Addr×Obj)) (s:Shared) (σ:St) (H:Hp) (x:V) (v:Value) (Q:VK),Inv X pins σ H s->RelV x v->r x H Q->
  wpAny (model X.prog X.w) X.A (f v) (EP X pins σ Q) X.xe s
def nW (X:Cx) (f:Value) (r:List V->Hp->VK->Prop):Prop:=
 ∀(pins:List (Addr×Obj)) (s:Shared) (σ:St) (H:Hp) (xs:List V) (us:List Value) (Q:VK),Inv X pins σ H s->Vals xs us->r xs H Q->
  wpAny (model X.prog X.w) X.A (call f us) (EP X pins σ Q) X.xe s
def ad6 (X:Cx) (r:V->Hp->(Bool->Hp->Prop)->Prop):Prop:=
 ∀(pins:List (Addr×Obj)) (s:Shared) (σ:St) (H:Hp) (x:V) (v:Value) (Q:Bool->Hp->Prop),Inv X pins σ H s->RelV x v->r x H Q->
  wpAny (model X.prog X.w) X.A (truthy v) (TP X pins σ Q) X.xe s
def tOp (r:R2) (ta tb:TE):TE:=fun σ H Q=>ta σ H fun x H1=>tb σ H1 fun y H2=>r x y H2 Q
def tUn (r:V->Hp->VK->Prop) (ta:TE):TE:=fun σ H Q=>ta σ H fun x H1=>r x H1 Q
def rI (C:Int->Int->Prop) (g:Int->Int->V):R2:=fun x y H Q=>∃i j,x= .int i/\y= .int j/\C i j/\Q (g i j) H
def rI0 (g:Int->Int->V):R2:=fun x y H Q=>∃i j,x= .int i/\y= .int j/\Q (g i j) H
def rU (g:Int->V):V->Hp->VK->Prop:=fun x H Q=>∃i,x= .int i/\Q (g i) H
section
variable {X:Cx}{a b c:Expr}{ta tb tc:TE}{pos:Pos}
theorem Wd (ha:PE X a ta) (hb:PE X b tb) {pins:List (Addr×Obj)}{s:Shared}{σ:St}{H:Hp}{R:V->V->Hp->Prop} (I:Inv X pins σ H s)
 (h:ta σ H fun x H1=>tb σ H1 fun y H2=>R x y H2) {Q:Value->Shared->Prop}{f:Value->Value->Sem Value}
 (hf:∀v u s2 x y H2,Inv X pins σ H2 s2->RelV x v->RelV y u->R x y H2->wpAny (model X.prog X.w) X.A (f v u) Q X.xe s2):
 wpAny (model X.prog X.w) X.A (eval a X.env) (fun v s₁=>wpAny (model X.prog X.w) X.A (eval b X.env) (fun u s₂=>wpAny (model X.prog X.w) X.A (f v u) Q X.xe s₂) X.xe s₁) X.xe s:=by
 refine thn (ha pins s σ H _ I h) fun v s1 ⟨x,H1,I1,r1,q1⟩=> ?_
 refine thn (hb pins s1 σ H1 _ I1 q1) fun u s2 ⟨y,H2,I2,r2,q2⟩=> ?_
 exact hf v u s2 x y H2 I2 r1 r2 q2
theorem Z7 {op:Operator}{r:R2} (ho:OpR X (binaryOp op) r) (ha:PE X a ta) (hb:PE X b tb):PE X (.BinOp a op b pos) (tOp r ta tb):=by
 intro pins s σ H Q I h
 exact wpAny_BinOp (Wd ha hb I h fun v u s2 x y H2 I2 rx ry q=>ho pins s2 σ H2 x y v u Q I2 rx ry q)
theorem Z8 {op:UnaryOp}{r:V->Hp->VK->Prop} (ho:UnR X (unaryOp op) r) (ha:PE X a ta):PE X (.UnaryOp op a pos) (tUn r ta):=by
 intro pins s σ H Q I h
 exact UnaryOp_ (thn (ha pins s σ H _ I h) fun v s1 ⟨x,H1,I1,r1,q1⟩=>ho pins s1 σ H1 x v Q I1 r1 q1)
theorem opI {f:Value->Value->Sem Value}{C:Int->Int->Prop}{g:Int->Int->Int}
 (rule:∀(i j:Int) (t u:Tok) (s:Shared) (Q:Value->Shared->Prop) (E:Value->Shared->Prop),C i j->Q (.int (g i j) s.toks) {s with toks:=s.toks+1}->wpAny (model X.prog X.w) X.A (f (.int i t) (.int j u)) Q E s):
 OpR X f (rI C fun i j=> .int (g i j)):=by
 intro pins s σ H x y v u Q I rx ry h
 obtain⟨i,j,rfl,rfl,hc,q⟩:=h
 obtain⟨t,rfl⟩:=rx
 obtain⟨t',rfl⟩:=ry
 exact rule i j t t' s _ _ hc ⟨.int (g i j),H,I.tok _,⟨_,rfl⟩,q⟩
theorem Z9 {f:Value->Value->Sem Value}{g:Int->Int->Int}
 (rule:∀(i j:Int) (t u:Tok) (s:Shared) (Q:Value->Shared->Prop) (E:Value->Shared->Prop),Q (.int (g i j) s.toks) {s with toks:=s.toks+1}->wpAny (model X.prog X.w) X.A (f (.int i t) (.int j u)) Q E s):
 OpR X f (rI0 fun i j=> .int (g i j)):=by
 intro pins s σ H x y v u Q I rx ry h
 obtain⟨i,j,rfl,rfl,q⟩:=h
 obtain⟨t,rfl⟩:=rx
 obtain⟨t',rfl⟩:=ry
 exact rule i j t t' s _ _ ⟨.int (g i j),H,I.tok _,⟨_,rfl⟩,q⟩
theorem aaa {f:Value->Value->Sem Value}{g:Int->Int->Bool}
 (rule:∀(i j:Int) (t u:Tok) (s:Shared) (Q:Value->Shared->Prop) (E:Value->Shared->Prop),Q (.bool (g i j)) s->wpAny (model X.prog X.w) X.A (f (.int i t) (.int j u)) Q E s):
 OpR X f (rI0 fun i j=> .bl (g i j)):=by
 intro pins s σ H x y v u Q I rx ry h
 obtain⟨i,j,rfl,rfl,q⟩:=h
 obtain⟨t,rfl⟩:=rx
 obtain⟨t',rfl⟩:=ry
 exact rule i j t t' s _ _ ⟨.bl (g i j),H,I,rfl,q⟩
def Qo (i j:Int):Prop:=0<=j/\j<=1000000/\i.natAbs<2 ^ 64
def Bc (i j:Int):Prop:=(-(2 ^ 64)<i/\i<2 ^ 64)\/(-(2 ^ 64)<j/\j<2 ^ 64)
theorem Bc.ok {i j:Int} (h:Bc i j):IntMulOk i j:=by
 rcases h with⟨h1,h2⟩ | ⟨h1,h2⟩
 ·exact .of_left (intBits_le_64 h1 h2)
 ·exact .of_right (intBits_le_64 h1 h2)
theorem We:OpR X (binaryOp .Add) (rI0 fun i j=> .int (i+j)):=Z9 fun _ _ _ _ _ _ _ q=>add_int q
theorem Wf:OpR X (binaryOp .Sub) (rI0 fun i j=> .int (i - j)):=Z9 fun _ _ _ _ _ _ _ q=>sub_int q
theorem Wg:OpR X (binaryOp .Mult) (rI Bc fun i j=> .int (i * j)):=opI fun _ _ _ _ _ _ _ hc q=>mul_int q hc.ok
theorem Wh:OpR X (binaryOp .Mod) (rI (fun _ j=>0<j) fun i j=> .int (i % j)):=opI fun i j _ _ _ _ _ hc q=>by
 have h1:(0:Int)<j:=hc
 exact mod_int' (by omega) (by rw[Int.fmod_eq_emod_of_nonneg i (by omega)];exact q)
theorem Wi:OpR X (binaryOp .Pow) (rI Qo fun i j=> .int (i ^ j.toNat)):=opI fun _ _ _ _ _ _ _ hc q=>pow_int_small hc.1 hc.2.1 hc.2.2 q
theorem unI {f:Value->Sem Value}{g:Int->Int}
 (rule:∀(i:Int) (t:Tok) (s:Shared) (Q:Value->Shared->Prop) (E:Value->Shared->Prop),Q (.int (g i) s.toks) {s with toks:=s.toks+1}->wpAny (model X.prog X.w) X.A (f (.int i t)) Q E s):
 UnR X f (rU fun i=> .int (g i)):=by
 intro pins s σ H x v Q I rx h
 obtain⟨i,rfl,q⟩:=h
 obtain⟨t,rfl⟩:=rx
 exact rule i t s _ _ ⟨.int (g i),H,I.tok _,⟨_,rfl⟩,q⟩
theorem Wj:UnR X (unaryOp .USub) (rU fun i=> .int (-i)):=unI fun _ _ _ _ _ q=>neg_int q
end
def aab:V->V->Bool
 | .non, .non=>true | .non, .int _=>true | .int _, .non=>true | .non, .bl _=>true | .bl _, .non=>true | .non, .str _=>true | .str _, .non=>true
 | .int _, .int _=>true | .bl _, .bl _=>true | .str _, .str _=>true | .byt _, .byt _=>true
 | .int _, .str _=>true | .str _, .int _=>true | .bl _, .str _=>true | .str _, .bl _=>true
 | _,_=>false
def rEq:R2:=fun x y H Q=>aab x y=true/\Q (.bl (decide (x=y))) H
def rNe:R2:=fun x y H Q=>aab x y=true/\Q (.bl (!decide (x=y))) H
theorem J1 {i j:Int}:decide (V.int i=V.int j)=(i==j):=by
 rw[Bool.eq_iff_iff]
 simp
theorem MK {i j:Bool}:decide (V.bl i=V.bl j)=(i==j):=by
 rw[Bool.eq_iff_iff]
 simp
theorem J2 {i j:Str}:decide (V.str i=V.str j)=(i==j):=by
 rw[Bool.eq_iff_iff]
 simp
theorem J3 {i j:Array UInt8}:decide (V.byt i=V.byt j)=(i.toList==j.toList):=by
 rw[Bool.eq_iff_iff]
 cases i
 cases j
 simp
section
variable {X:Cx}{a b c:Expr}{ta tb tc:TE}{pos:Pos}
theorem dI {pins:List (Addr×Obj)}{σ:St}{H:Hp}{s:Shared}{Q:VK}{k k':Bool} (I:Inv X pins σ H s) (q:Q (.bl k) H) (e:k=k'):EP X pins σ Q (.bool k') s:=by
 subst e
 exact⟨.bl k,H,I,rfl,q⟩
theorem aac:OpR X (compareOp .Eq) rEq:=by
 intro pins s σ H x y v u Q I rx ry h
 obtain⟨hs,q⟩:=h
 cases x with
 | non=>
   cases rx
   cases y with
   | non=>cases ry;exact PySem.EqNone.eq_none_none (dI I q (by simp))
   | bl j=>cases ry;exact PySem.EqNone.eq_none_bool (dI I q (by simp))
   | int j=>obtain⟨t',rfl⟩:=ry;exact PySem.EqNone.eq_none_int (dI I q (by simp))
   | str j=>obtain⟨t',rfl⟩:=ry;exact PySem.EqNone.eq_none_str (dI I q (by simp))
   | _=>exact absurd (show false=true from hs) Bool.false_ne_true
 | bl i=>
   cases rx
   cases y with
   | non=>cases ry;exact PySem.EqNone.eq_bool_none (dI I q (by simp))
   | bl j=>cases ry;exact eq_bool (dI I q MK)
   | str j=>obtain⟨t',rfl⟩:=ry;exact PySem.EqMixed.eq_bool_str (dI I q (by simp))
   | _=>exact absurd (show false=true from hs) Bool.false_ne_true
 | int i=>
   obtain⟨t,rfl⟩:=rx
   cases y with
   | non=>cases ry;exact PySem.EqNone.eq_int_none (dI I q (by simp))
   | int j=>obtain⟨t',rfl⟩:=ry;exact eq_int (dI I q J1)
   | str j=>obtain⟨t',rfl⟩:=ry;exact PySem.EqMixed.eq_int_str (dI I q (by simp))
   | _=>exact absurd (show false=true from hs) Bool.false_ne_true
 | str i=>
   obtain⟨t,rfl⟩:=rx
   cases y with
   | non=>cases ry;exact PySem.EqNone.eq_str_none (dI I q (by simp))
   | bl j=>cases ry;exact PySem.EqMixed.eq_str_bool (dI I q (by simp))
   | int j=>obtain⟨t',rfl⟩:=ry;exact PySem.EqMixed.eq_str_int (dI I q (by simp))
   | str j=>obtain⟨t',rfl⟩:=ry;exact eq_str (dI I q J2)
   | _=>exact absurd (show false=true from hs) Bool.false_ne_true
 | byt i=>
   obtain⟨t,rfl⟩:=rx
   cases y with
   | byt j=>obtain⟨t',rfl⟩:=ry;exact PySem.W.eq_bytes (dI I q J3)
   | _=>exact absurd (show false=true from hs) Bool.false_ne_true
 | _=>cases y<;>exact absurd (show false=true from hs) Bool.false_ne_true
theorem aad:OpR X (compareOp .NotEq) rNe:=by
 intro pins s σ H x y v u Q I rx ry h
 obtain⟨hs,q⟩:=h
 cases x with
 | non=>
   cases rx
   cases y with
   | non=>cases ry;exact PySem.EqNone.ne_none_none (dI I q (by simp))
   | bl j=>cases ry;exact PySem.EqNone.ne_none_bool (dI I q (by simp))
   | int j=>obtain⟨t',rfl⟩:=ry;exact PySem.EqNone.ne_none_int (dI I q (by simp))
   | str j=>obtain⟨t',rfl⟩:=ry;exact PySem.EqNone.ne_none_str (dI I q (by simp))
   | _=>exact absurd (show false=true from hs) Bool.false_ne_true
 | bl i=>
   cases rx
   cases y with
   | non=>cases ry;exact PySem.EqNone.ne_bool_none (dI I q (by simp))
   | bl j=>cases ry;exact ne_bool (dI I q (congrArg not MK))
   | str j=>obtain⟨t',rfl⟩:=ry;exact PySem.EqMixed.ne_bool_str (dI I q (by simp))
   | _=>exact absurd (show false=true from hs) Bool.false_ne_true
 | int i=>
   obtain⟨t,rfl⟩:=rx
   cases y with
   | non=>cases ry;exact PySem.EqNone.ne_int_none (dI I q (by simp))
   | int j=>obtain⟨t',rfl⟩:=ry;exact ne_int (dI I q (congrArg not J1))
   | str j=>obtain⟨t',rfl⟩:=ry;exact PySem.EqMixed.ne_int_str (dI I q (by simp))
   | _=>exact absurd (show false=true from hs) Bool.false_ne_true
 | str i=>
   obtain⟨t,rfl⟩:=rx
   cases y with
   | non=>cases ry;exact PySem.EqNone.ne_str_none (dI I q (by simp))
   | bl j=>cases ry;exact PySem.EqMixed.ne_str_bool (dI I q (by simp))
   | int j=>obtain⟨t',rfl⟩:=ry;exact PySem.EqMixed.ne_str_int (dI I q (by simp))
   | str j=>obtain⟨t',rfl⟩:=ry;exact ne_str (dI I q (congrArg not J2))
   | _=>exact absurd (show false=true from hs) Bool.false_ne_true
 | byt i=>
   obtain⟨t,rfl⟩:=rx
   cases y with
   | byt j=>obtain⟨t',rfl⟩:=ry;exact PySem.W.ne_bytes (dI I q (congrArg not J3))
   | _=>exact absurd (show false=true from hs) Bool.false_ne_true
 | _=>cases y<;>exact absurd (show false=true from hs) Bool.false_ne_true
theorem aae:OpR X (compareOp .Lt) (rI0 fun i j=> .bl (decide (i<j))):=aaa fun _ _ _ _ _ _ _ q=>lt_int q
theorem aaf:OpR X (compareOp .Gt) (rI0 fun i j=> .bl (decide (j<i))):=aaa fun _ _ _ _ _ _ _ q=>gt_int q
theorem Wk:OpR X (compareOp .Is) (fun x y H Q=>y= .non/\Q (.bl (decide (x= .non))) H):=by
 intro pins s σ H x y v u Q I rx ry h
 obtain⟨rfl,q⟩:=h
 cases ry
 refine is_none_gen (dI I q ?_)
 cases x<;>first
  | (cases rx;rfl)
  | (obtain⟨t,rfl⟩:=rx;rfl)
theorem Wl (b:Expr) {op:CmpOp} (h:op≠ .In:=by decide) (h2:op≠ .NotIn:=by decide):behindInMarks op b=false:=by
 have e1:(op==CmpOp.In)=false:=by cases op<;>first | rfl | exact absurd rfl h
 have e2:(op==CmpOp.NotIn)=false:=by cases op<;>first | rfl | exact absurd rfl h2
 cases b<;>simp[behindInMarks,e1,e2]
theorem Qp {op:CmpOp}{r:R2} (ho:OpR X (compareOp op) r) (ha:PE X a ta) (hb:PE X b tb) (hm:behindInMarks op b=false):PE X (.Compare a [op] [b] pos) (tOp r ta tb):=by
 intro pins s σ H Q I h
 exact wpAny_Compare1 (Wd ha hb I h fun v u s2 x y H2 I2 rx ry q=>ho pins s2 σ H2 x y v u Q I2 rx ry q) hm
def Up (t:TE):TT:=fun σ H Q=>t σ H fun x H'=>∃k,x= .bl k/\Q k H'
theorem Qq {op:CmpOp}{r:R2} (ho:OpR X (compareOp op) r) (ha:PE X a ta) (hb:PE X b tb) (hm:behindInMarks op b=false):PT X (.Compare a [op] [b] pos) (Up (tOp r ta tb)):=by
 intro pins s σ H Q I h
 refine wpAny_isTrue_Compare1 (thn (ha pins s σ H _ I h) fun v s1 ⟨x,H1,I1,r1,q1⟩=>thn (hb pins s1 σ H1 _ I1 q1) fun u s2 ⟨y,H2,I2,r2,q2⟩=>
  thn (ho pins s2 σ H2 x y v u _ I2 r1 r2 q2) fun c s3 ⟨z,H3,I3,r3,k,e,q3⟩=> ?_) hm
 subst e
 cases r3
 exact wpAny_truthy_bool ⟨H3,I3,q3⟩
def Wm (K:PySem.W.Frag) (x:V) (H:Hp) (k:Bool):Prop:=
 match x with
 | .non=>k=false
 | .bl b=>k=b
 | .int i=>k=(i !=0)
 | .str y=>y.length<=sizeLine/\k=((y.length:Int) !=0)
 | .byt y=>y.size<=sizeLine/\k=((y.size:Int) !=0)
 | .ref p=>(∃xs,SqL K H p xs/\k= !xs.isEmpty)\/(∃xs,SqT K H p xs/\k= !xs.isEmpty)\/∃kvs,H p=some (.dK kvs)/\k= !kvs.isEmpty
 | _=>False
theorem Io {κ:Type}{kvs:List (κ×V)}{vs:List (κ×Value)} (r:KV kvs vs):(!vs.isEmpty)= !kvs.isEmpty:=by
 cases r<;>rfl
theorem Bd {xs:List V}{its:List Value} (r:Vals xs its):(!its.toArray.isEmpty)= !xs.isEmpty:=by
 cases r<;>simp
theorem Be:(sizeLine:Nat)<2 ^ 63:=by rw[sizeLine_eq];decide
theorem Wn:ad6 X (fun x H Q=>∃k,Wm X.K x H k/\Q k H):=by
 intro pins s σ H x v Q I rx h
 obtain⟨k,e,q⟩:=h
 have hl:=Be
 have hs:sizeLine=16777216:=sizeLine_eq
 cases x with
 | non=>
   cases rx
   have e':k=false:=e
   subst e'
   exact truthy_none ⟨H,I,q⟩
 | bl b=>
   cases rx
   have e':k=b:=e
   subst e'
   exact wpAny_truthy_bool ⟨H,I,q⟩
 | int i=>
   obtain⟨t,rfl⟩:=rx
   have e':k=(i !=0):=e
   subst e'
   exact PySem.P.truthy_int ⟨H,I,q⟩
 | str y=>
   obtain⟨t,rfl⟩:=rx
   obtain⟨hy,e'⟩:y.length<=sizeLine/\k=((y.length:Int) !=0):=e
   subst e'
   exact PySem.P.truthy_str (by omega) ⟨H,I.tok _,q⟩
 | byt y=>
   obtain⟨t,rfl⟩:=rx
   obtain⟨hy,e'⟩:y.size<=sizeLine/\k=((y.size:Int) !=0):=e
   subst e'
   exact PySem.W.truthy_bytes (by omega) ⟨H,I.tok _,q⟩
 | ref p=>
   cases rx
   have e':(∃xs,SqL X.K H p xs/\k= !xs.isEmpty)\/(∃xs,SqT X.K H p xs/\k= !xs.isEmpty)\/∃kvs,H p=some (.dK kvs)/\k= !kvs.isEmpty:=e
   rcases e' with⟨xs,hx,e'⟩ | ⟨xs,hx,e'⟩ | ⟨kvs,hx,e'⟩
   ·subst e'
    obtain⟨its,r,pl,hz⟩:=I.list hx
    have hlen:=r.length
    exact wpAny_truthy_list pl.isList (by simp only[List.size_toArray];omega) ⟨H,I.tok _,by rw[Bd r];exact q⟩
   ·subst e'
    obtain⟨its,r,pl,hz⟩:=I.tuple hx
    have hlen:=r.length
    exact truthy_tuple pl (by simp only[List.size_toArray];omega) ⟨H,I.tok _,by rw[Bd r];exact q⟩
   ·subst e'
    obtain⟨hz,hS,vs,r,m⟩:kvs.length<=sizeLine/\(p==sysModules)=false/\∃vs,KV kvs vs/\s.heap.DictOf (cW X.prog X.w) p vs:=I.hok p _ hx
    have hlen:kvs.length=vs.length:=Paired.length r
    exact wpAny_truthy_dict hS m (by omega) ⟨H,I.tok _,by rw[Io r];exact q⟩
 | _=>exact(show False from e).elim
theorem MN (ha:PE X a ta) (he:∀whole,isTrue a X.env whole=(do let v <-whole;standAt a.pos;holding [v] (truthy v))):
 PT X a (fun σ H Q=>ta σ H fun x H'=>∃k,Wm X.K x H' k/\Q k H'):=by
 intro pins s σ H Q I h
 exact isTrue_plain (thn (ha pins s σ H _ I h) fun v s1 ⟨x,H1,I1,r1,q1⟩=>Wn pins s1 σ H1 x v Q I1 r1 q1) (he _)
theorem Ip:OpR X (binaryOp .Add) (fun x y H Q=>∃i j,x= .str i/\y= .str j/\i.length+j.length<=sizeLine/\Q (.str (i++j)) H):=by
 intro pins s σ H x y v u Q I rx ry h
 obtain⟨i,j,rfl,rfl,hz,q⟩:=h
 obtain⟨t,rfl⟩:=rx
 obtain⟨t',rfl⟩:=ry
 exact add_str (fun t' tk=>⟨.str (i++j),H,I.tok _,⟨_,rfl⟩,q⟩) hz
theorem vals1 {x:V}{us:List Value} (r:Vals [x] us):∃u,us=[u]/\RelV x u:=by
 cases r with
 | cons r1 r2=>cases r2;exact⟨_,rfl,r1⟩
theorem vals2 {x y:V}{us:List Value} (r:Vals [x,y] us):∃u w',us=[u,w']/\RelV x u/\RelV y w':=by
 cases r with
 | cons r1 r2=>
   cases r2 with
   | cons r3 r4=>cases r4;exact⟨_,_,rfl,r1,r3⟩
theorem K5 (hc:X.calm=true):nW X (.builtin "max") (fun xs H Q=>∃i j,xs=[.int i, .int j]/\Q (.int (if j>i then j else i)) H):=by
 intro pins s σ H xs us Q I r h
 obtain⟨i,j,rfl,q⟩:=h
 obtain⟨u,w',rfl,⟨t,rfl⟩,⟨t',rfl⟩⟩:=vals2 r
 refine max_two_ints (I.ok.hd hc) fun h' tk k=>⟨_,H,I.kept k, ?_,q⟩
 by_cases hj:j>i
 ·rw[if_pos hj,if_pos hj];exact⟨_,rfl⟩
 ·rw[if_neg hj,if_neg hj];exact⟨_,rfl⟩
end
end L2
namespace L2
open PySem PySem.Spec PyProof.Rows
structure Ir (h:Heap) (x dx C:Addr) (mA:Str->Option Value):Prop where
 obj:h.get? x=some (PySem.W.instObj C dx)
 ns:h.Ns1 dx mA
 ne:dx≠x
theorem K6 {h:Heap}{dx:Addr}{mA:Str->Option Value} (n:h.Ns1 dx mA):∃od,h.get? dx=some od/\∀name,PySem.W.lookIn name od=some (mA name):=by
 obtain⟨o,es,ep,ho,hd,hk,_,hm⟩:=n
 refine⟨o,ho,fun name=> ?_⟩
 have e:=hm name
 unfold nsFind findBy at e
 rw[<-Array.find?_toList] at e
 unfold PySem.W.lookIn
 rw[hd]
 dsimp only
 split
 ·rename_i y q
  rw[q] at e
  exact congrArg some e
 ·rename_i q
  rw[q] at e
  have a:es.toList.any (·.refKey)=false:=by
   rw[List.any_eq_false]
   intro y hy
   obtain⟨z,t,hkey⟩:=hk y (Array.mem_toList_iff.mp hy)
   simp[DictEntry.refKey,hkey]
  have a':¬es.toList.any (·.refKey)=true:=by rw[a];exact Bool.false_ne_true
  rw[if_neg a']
  exact congrArg some e
theorem Ir.look {h:Heap}{x dx C:Addr}{mA:Str->Option Value} (I:Ir h x dx C mA):∃od,PySem.W.InstAt h x (PySem.W.instObj C dx) C (some od)/\∀name,PySem.W.lookIn name od=some (mA name):=
 let ⟨od,ho,hl⟩:=K6 I.ns
 ⟨od,⟨I.obj,rfl,rfl,ho⟩,hl⟩
section
variable {prog:Program}{w:World}{A:Around}{E:Value->Shared->Prop}{s:Shared}{K:PySem.W.Frag}{x dx C f:Addr}{mA:Str->Option Value}{name:Str}{v:Value}
theorem get_map {expr:Bool}{Q:Value->Shared->Prop} (X:K.In s.heap) (I:Ir s.heap x dx C mA) (hg:PySem.W.plainGet K C name=true) (hh:PySem.W.hasDictIn K C=true)
 (ha:PySem.W.findIn K (.ref C) name=some none) (hv:mA name=some v) (hv':PySem.W.handedIn v=true) (h:Q v {s with toks:=s.toks+1}):
 wpAny (model prog w) A (getAttr (.ref x) name expr) Q E s:=by
 obtain⟨od,J,hl⟩:=I.look
 exact PySem.W.get_value X J (PySem.W.plainGet_of hg).1 (PySem.W.findObj_own hh ha rfl (by rw[hl,hv])) hv' h
theorem MP {pl:Sem Bool}{Q:Value×List Value->Shared->Prop} (X:K.In s.heap) (I:Ir s.heap x dx C mA) (hg:PySem.W.plainGet K C name=true)
 (hf:PySem.W.findIn K (.ref C) name=some (some (.ref f))) (ht:PySem.W.isFn K (.ref f)=true) (hv:mA name=none) (h:Q (.ref f,[.ref x]) s):
 wpAny (model prog w) A (getMethod (.ref x) name pl) Q E s:=by
 obtain⟨od,J,hl⟩:=I.look
 exact PySem.W.method_fn X J (PySem.W.plainGet_of hg).1 (PySem.W.plainGet_of hg).2 hf (beq_iff_eq.mp ht) (by show(PySem.W.lookIn name od).map (·.isSome)=some false;rw[hl,hv];rfl) h
theorem Qs {ns:List Str}{Q:Unit->Shared->Prop} (X:K.In s.heap) (I:Ir s.heap x dx C mA)
 (hs:PySem.W.findIn K (.ref C) "__setattr__"=some (some (.builtin "object.__setattr__"))) (hp:PySem.W.plainOver K C=true) (ht:PySem.W.takerIn K C name=some none) (hh:PySem.W.hasDictIn K C=true)
 (hw:PySem.Within mA ns) (hsz:ns.length<=sizeLine)
 (h:∀h',Ir h' x dx C (fun y=>if y=name then some v else mA y)->Heap.SameBut dx s.heap h'->Q () {s with heap:=h',toks:=s.toks+2}):
 wpAny (model prog w) A (setAttr (.ref x) name v) Q E s:=by
 obtain⟨od,J,hl⟩:=I.look
 refine PySem.W.set_plain X J hs (PySem.W.osa_open (s:={s with toks:=s.toks+1}) (r:=none) X J hp ht fun b=> ?_)
 obtain⟨cd,hc,hd'⟩:=PySem.W.any_some hh
 have hx:s.heap.get? x=some ⟨.ref C,some dx, .plain, #[]⟩:=I.obj
 refine wpAny_bind (wpAny_pure (wpAny_bind (wpAny_bind (wpAny_loadPart hx (wpAny_bind (PySem.W.Looks.here (s:={s with toks:=s.toks+1}) (PySem.W.looks_clsIn X hc) ?_))))))
 rw[hd']
 refine wpAny_pure (a:=some dx) (wpAny_bind (wpAny_pure (wpAny_bind ?_)))
 refine wpAny_nsSet1 (s:={s with toks:=s.toks+1}) I.ns fun h' hn2 hs2=> ?_
 obtain⟨oD,esD,epD,hoD,hdD,hcD⟩:=hn2.count (PySem.Within.cons name v hw)
 refine wpAny_bind (wpAny_lookBehind hoD (by rw[hdD];exact pastItsLine_dict (Nat.le_trans hcD (by rw[List.length_cons];omega))) ?_)
 exact wpAny_pure (h _ ⟨(hs2.2 _ (Ne.symm I.ne)).trans I.obj,hn2,I.ne⟩ hs2)
theorem MT {R:Result->Shared->Prop}{vs:List Value}{kw:List (Str×Value)} (X:K.In s.heap) (hm:PySem.W.makesIn K C=true)
 (hi:PySem.W.findIn K (.ref C) "__init__"=some (some (.ref f))) (hf:PySem.W.typeIn K (.ref f)=some (.type "function"))
 (h:codeAny (model prog w) (A.under (.builtin "type.__call__" ⟨.ref C::vs,kw⟩)) (.call (.ref f) ⟨.ref (s.heap.objs.size+1)::vs,kw⟩) (PySem.W.InitBack (s.heap.objs.size+1) R)
   {s with heap:=(s.heap.push PySem.W.emptyDict).push (PySem.W.instObj C s.heap.objs.size)}):
 codeAny (model prog w) A (.call (.ref C) ⟨vs,kw⟩) R s:=by
 obtain⟨hh,g,d,t,os⟩:=s
 exact PySem.W.make_core (PySem.W.makes_of X hm) (PySem.W.looks_findIn X hi) (fun self=>PySem.W.bind_fn X self hf) (.inl rfl) h
end
def aM (f:Str) (v:V):List (Str×V)->List (Str×V)
 |[]=>[(f,v)]
 | (g,x)::r=>if g=f then(g,v)::r else(g,x)::aM f v r
theorem zT (f g:Str) (v:V):∀fs:List (Str×V),(aM f v fs).lookup g=if g=f then some v else fs.lookup g
 |[]=>by
  show List.lookup g [(f,v)]=_
  by_cases h:g=f
  ·have hb:(g==f)=true:=beq_iff_eq.mpr h
   simp only[List.lookup,hb,if_pos h]
  ·have hb:(g==f)=false:=beq_eq_false_iff_ne.mpr h
   simp only[List.lookup,hb,if_neg h]
 | (k,x)::r=>by
   have ih:=zT f g v r
   rw[show aM f v ((k,x)::r)=(if k=f then(k,v)::r else(k,x)::aM f v r) from rfl]
   by_cases hk:k=f
   ·rw[if_pos hk]
    by_cases h:g=k
    ·have hb:(g==k)=true:=beq_iff_eq.mpr h
     simp only[List.lookup,hb,if_pos (h.trans hk)]
    ·have hb:(g==k)=false:=beq_eq_false_iff_ne.mpr h
     simp only[List.lookup,hb,if_neg (fun e:g=f=>h (e.trans hk.symm))]
   ·rw[if_neg hk]
    by_cases h:g=k
    ·have hb:(g==k)=true:=beq_iff_eq.mpr h
     simp only[List.lookup,hb,if_neg (fun e:g=f=>hk (h.symm.trans e))]
    ·have hb:(g==k)=false:=beq_eq_false_iff_ne.mpr h
     simp only[List.lookup,hb]
     exact ih
theorem yW (f:Str) (v:V):∀fs:List (Str×V),f∈(aM f v fs).map (·.1)/\∀g,g∈fs.map (·.1)->g∈(aM f v fs).map (·.1)
 |[]=>⟨by simp[aM],fun g h=>by simp at h⟩
 | (k,x)::r=>by
   obtain⟨i1,i2⟩:=yW f v r
   rw[show aM f v ((k,x)::r)=(if k=f then(k,v)::r else(k,x)::aM f v r) from rfl]
   by_cases hk:k=f
   ·rw[if_pos hk]
    subst hk
    exact⟨by simp,fun g h=>by simpa using h⟩
   ·rw[if_neg hk]
    refine⟨?_,fun g h=> ?_⟩
    ·rw[List.map_cons]
     exact List.mem_cons_of_mem _ i1
    ·rw[List.map_cons] at h ⊢
     rcases List.mem_cons.mp h with e | e
     ·exact List.mem_cons.mpr (.inl e)
     ·exact List.mem_cons_of_mem _ (i2 g e)
theorem zU (f:Str) (v:V):∀fs:List (Str×V),(aM f v fs).length<=fs.length+1
 |[]=>by simp[aM]
 | (k,x)::r=>by
   have ih:=zU f v r
   rw[show aM f v ((k,x)::r)=(if k=f then(k,v)::r else(k,x)::aM f v r) from rfl]
   by_cases hk:k=f
   ·rw[if_pos hk,List.length_cons,List.length_cons];omega
   ·rw[if_neg hk,List.length_cons,List.length_cons];omega
theorem vP.some_of {v:V}{o:Option Value} (r:vP (some v) o):∃u,o=some u/\RelV v u:=by
 cases o with
 | none=>exact(show False from r).elim
 | some u=>exact⟨u,rfl,r⟩
theorem vP.none_of {o:Option Value} (r:vP none o):o=none:=by
 cases o with
 | none=>rfl
 | some u=>exact(show False from r).elim
theorem K7 {v:V}{u:Value} (r:RelV v u):PySem.W.handedIn u=true:=by
 cases v with
 | non=>cases(show u=Value.none from r);rfl
 | bl b=>cases(show u=Value.bool b from r);rfl
 | int i=>obtain⟨t,e⟩:=(show∃t,u=Value.int i t from r);cases e;rfl
 | str x=>obtain⟨t,e⟩:=(show∃t,u=Value.str x t from r);cases e;rfl
 | byt b=>obtain⟨t,e⟩:=(show∃t,u=Value.bytes b t from r);cases e;rfl
 | flt b=>obtain⟨t,e⟩:=(show∃t,u=Value.float b t from r);cases e;rfl
 | ref a=>cases(show u=Value.ref a from r);rfl
 | ty n=>cases(show u=Value.type n from r);rfl
section
variable {P:Program}{w:World}{H H':Hp}{h h':Heap}{a C dx:Addr}{fs fs':List (Str×V)}
theorem Ar (hok:HOk P w H h) (e:H a=some (.ins C dx fs)):∃mA,Ir h a dx C mA/\(∀f,vP (fs.lookup f) (mA f))/\PySem.Within mA (fs.map (·.1))/\fs.length<=1000/\H dx=some (.own a):=by
 obtain⟨d,z,ne,ob,mA,n,r,q⟩:=(show eN P w H h a (.ins C dx fs) from hok a _ e)
 exact⟨mA,⟨ob,n,ne⟩,r,q,z,d⟩
end
structure Cls (K:PySem.W.Frag) (C:Addr):Prop where
 pg:PySem.W.plainGet K C Str.empty=true
 hd:PySem.W.hasDictIn K C=true
 po:PySem.W.plainOver K C=true
 sa:PySem.W.findIn K (.ref C) "__setattr__"=some (some (.builtin "object.__setattr__"))
theorem Cls.get {K:PySem.W.Frag}{C:Addr} (c:Cls K C) (f:Str):PySem.W.plainGet K C f=true:=c.pg
def iu (K:PySem.W.Frag) (C:Addr) (f:Str):Prop:=PySem.W.findIn K (.ref C) f=some none
theorem iu.taker {K:PySem.W.Frag}{C:Addr}{f:Str} (n:iu K C f):PySem.W.takerIn K C f=some none:=by
 unfold PySem.W.takerIn
 rw[show PySem.W.findIn K (.ref C) f=some none from n]
 rfl
structure Meth (K:PySem.W.Frag) (C:Addr) (m:Str) (f:Addr):Prop where
 at_:PySem.W.findIn K (.ref C) m=some (some (.ref f))
 fn:PySem.W.isFn K (.ref f)=true
 kp:PySem.W.keepIn K (.ref f)=true
section
variable {X:Cx}{pins:List (Addr×Obj)}{σ:St}{H:Hp}{s:Shared}{a C dx:Addr}{fs:List (Str×V)}{f:Str}{v:V}{A:Around}{E:Value->Shared->Prop}
theorem Iu {b:Bool}{Q:Value->Shared->Prop} (I:Inv X pins σ H s) (e:H a=some (.ins C dx fs)) (c:Cls X.K C) (n:iu X.K C f) (l:fs.lookup f=some v)
 (h:∀u s',Inv X pins σ H s'->RelV v u->Q u s'):wpAny (model X.prog X.w) A (getAttr (.ref a) f b) Q E s:=by
 obtain⟨mA,O,r,_,_,_⟩:=Ar I.hok e
 obtain⟨u,hu,ru⟩:=vP.some_of (v:=v) (o:=mA f) (by rw[<-l];exact r f)
 exact get_map I.kIn O (c.get f) c.hd n hu (K7 ru) (h u _ (I.tok _) ru)
theorem Bf {m:Str}{g:Addr}{pl:Sem Bool}{Q:Value×List Value->Shared->Prop} (I:Inv X pins σ H s) (e:H a=some (.ins C dx fs)) (c:Cls X.K C) (k:Meth X.K C m g) (l:fs.lookup m=none)
 (h:Q (.ref g,[.ref a]) s):wpAny (model X.prog X.w) A (getMethod (.ref a) m pl) Q E s:=by
 obtain⟨mA,O,r,_,_,_⟩:=Ar I.hok e
 have hn:mA m=none:=vP.none_of (by rw[<-l];exact r m)
 exact MP I.kIn O (c.get m) k.at_ k.fn hn h
theorem Iv {y:V}{u:Value}{Q:Unit->Shared->Prop} (I:Inv X pins σ H s) (e:H a=some (.ins C dx fs)) (c:Cls X.K C) (n:iu X.K C f) (hl:fs.length<1000) (ry:RelV y u)
 (h:∀s',Inv X pins σ (upd H a (.ins C dx (aM f y fs))) s'->Q () s'):wpAny (model X.prog X.w) A (setAttr (.ref a) f u) Q E s:=by
 obtain⟨mA,O,r,wi,_,ho⟩:=Ar I.hok e
 have hz:(fs.map (·.1)).length<=sizeLine:=by rw[List.length_map,sizeLine_eq];omega
 refine Qs I.kIn O c.sa c.po n.taker c.hd wi hz fun h' O' sb=>h _ ?_
 have hd:∃o,h'.get? dx=some o:=let ⟨o,_,_,e',_⟩:=O'.ns;⟨o,e'⟩
 refine I.write (x:=a) (e:=dx) (by rw[e];exact True.intro) (.inr ho) (fun b q hb z=>(sb.2 b hb).trans z) hd ?_
 refine⟨by rw[ao O.ne];exact ho, ?_,O.ne,O'.obj,_,O'.ns,fun g=> ?_,fun g hg=> ?_⟩
 ·have:=zU f y fs;omega
 ·show vP ((aM f y fs).lookup g) (if g=f then some u else mA g)
  rw[zT]
  by_cases q:g=f
  ·rw[if_pos q,if_pos q];exact ry
  ·rw[if_neg q,if_neg q];exact r g
 ·by_cases q:g=f
  ·rw[q];exact(yW f y fs).1
  ·refine(yW f y fs).2 g (wi g fun z=>hg ?_)
   show(if g=f then some u else mA g)=none
   rw[if_neg q];exact z
theorem Inv.made (I:Inv X pins σ H s):Inv X pins σ (upd (upd H s.heap.objs.size (.own (s.heap.objs.size+1))) (s.heap.objs.size+1) (.ins C s.heap.objs.size []))
 {s with heap:=(s.heap.push PySem.W.emptyDict).push (PySem.W.instObj C s.heap.objs.size)}:=by
 have e1:(s.heap.push PySem.W.emptyDict).get? s.heap.objs.size=some PySem.W.emptyDict:=Heap.get?_push_size s.heap rfl
 have e2:((s.heap.push PySem.W.emptyDict).push (PySem.W.instObj C s.heap.objs.size)).get? (s.heap.objs.size+1)=some (PySem.W.instObj C s.heap.objs.size):=by
  have:=Heap.get?_push_size (s.heap.push PySem.W.emptyDict) (o:=PySem.W.instObj C s.heap.objs.size) rfl
  rwa [Heap.size_push] at this
 have e3:(s.heap.push PySem.W.emptyDict).Ns s.heap.objs.size (fun _=>none):=⟨PySem.W.emptyDict, #[],_,e1,rfl,(fun e he=>absurd he (by simp)),fun _=>rfl⟩
 have I1:=I.laid (a:=s.heap.objs.size) (o:= .own (s.heap.objs.size+1)) (h':=s.heap.push PySem.W.emptyDict) (t':=s.toks) (fun b u q=>Heap.get?_push_of_some _ q) (Nat.le_refl _) ⟨_,e1⟩
 refine I1.laid (a:=s.heap.objs.size+1) (o:= .ins C s.heap.objs.size []) (t':=s.toks) (fun b u q=>Heap.get?_push_of_some _ q) (Nat.le_of_eq (Heap.size_push _ _)) ?_
 have ne:s.heap.objs.size≠s.heap.objs.size+1:=Nat.ne_of_lt (Nat.lt_succ_self _)
 refine⟨by rw[ao ne,ak],Nat.zero_le _,ne,e2,fun _=>none,(Heap.Ns1.of_empty e3).at fun o q=>Heap.get?_push_of_some _ q,fun _=>True.intro,fun y hy=>absurd rfl hy⟩
theorem Qt {prog:Program}{w:World}{env:Env}{e:Expr}{f:Str}{pos:Pos}{s:Shared}{Q:Value->Shared->Prop} (hb:attributeBase e f env (eval e env)=eval e env)
 (h:wpAny (model prog w) A (eval e env) (fun o s₁=>wpAny (model prog w) A (getAttr o f true) Q E s₁) E s):wpAny (model prog w) A (eval (.Attribute e f pos) env) Q E s:=
 Attribute_any_ h (by rw[arm_eval_Attribute,hb])
end
def Wo (K:PySem.W.Frag) (ta:TE) (f:Str):TE:=fun σ H Q=>ta σ H fun x H1=>∃a C dx fs v,x= .ref a/\H1 a=some (.ins C dx fs)/\Cls K C/\iu K C f/\fs.lookup f=some v/\Q v H1
def aag (K:PySem.W.Frag) (ta tv:TE) (f:Str):TS:=fun D σ H=>tv σ H fun y H1=>ta σ H1 fun x H2=>∃a C dx fs,x= .ref a/\H2 a=some (.ins C dx fs)/\Cls K C/\iu K C f/\fs.length<1000/\
 D.nx σ (upd H2 a (.ins C dx (aM f y fs)))
section
variable {X:Cx}{o e value:Expr}{f:Str}{pos pos' tpos:Pos}{ta tv:TE}
theorem Wq (he:PE X e ta) (hb:attributeBase e f X.env (eval e X.env)=eval e X.env):PE X (.Attribute e f pos) (Wo X.K ta f):=by
 intro pins s σ H Q I h
 refine Qt hb (thn (he pins s σ H _ I h) fun u s1 ⟨x,H1,I1,rx,a,C,dx,fs,v,ex,ea,c,n,l,q⟩=> ?_)
 subst ex
 obtain rfl:u=Value.ref a:=rx
 exact Iu I1 ea c n l fun u' s2 I2 ru=>⟨v,H1,I2,ru,q⟩
theorem Ws (ha:PE X o ta) (hv:PE X value tv) (hs:swapsWith value (some (.Attribute o f pos')) pos.line X.env=pure false):PS X (.Assign [.Attribute o f pos'] value pos) (aag X.K ta tv f):=by
 intro pins s σ H D I h
 refine plainObj_wpAny_Assign_Attribute (thn (hv pins s σ H _ I h) fun u s1 ⟨y,H1,I1,ry,q⟩=>thn (ha pins s1 σ H1 _ I1 q) fun ov s2 ⟨x,H2,I2,rx,a,C,dx,fs,ex,ea,c,n,l,q2⟩=> ?_) hs
 subst ex
 obtain rfl:ov=Value.ref a:=rx
 exact Iv I2 ea c n l ry fun s3 I3=>⟨σ,_,I3,q2⟩
end
section
variable {X:Cx}{pins:List (Addr×Obj)}{σ:St}{H:Hp}{s:Shared}{A:Around}{E:Value->Shared->Prop}{Q:Value->Shared->Prop}{c:Value}{b:Bool}
inductive pJ (K:PySem.W.Frag) (H:Hp):V->Value->Prop where
 | non:pJ K H .non (.type "NoneType")
 | bl (x:Bool):pJ K H (.bl x) (.type "bool")
 | int (i:Int):pJ K H (.int i) (.type "int")
 | str (x:Str):pJ K H (.str x) (.type "str")
 | flt (x:UInt64):pJ K H (.flt x) (.type "float")
 | lst {a:Addr}{xs:List V} (e:H a=some (.lst xs)):pJ K H (.ref a) (.type "list")
 | frz {a:Addr}{o:Obj}{xs:List V} (e:H a=some (.frz o (.lst xs))):pJ K H (.ref a) (.type "list")
 | tup {a:Addr}{xs:List V} (e:H a=some (.tup xs)):pJ K H (.ref a) (.type "tuple")
 | dK {a:Addr}{kvs:List (Key×V)} (e:H a=some (.dK kvs)):pJ K H (.ref a) (.type "dict")
 | dT {a:Addr}{kvs:List (List Key×V)} (e:H a=some (.dT kvs)):pJ K H (.ref a) (.type "dict")
 | ins {a C dx:Addr}{fs:List (Str×V)} (e:H a=some (.ins C dx fs)) (cl:Cls K C) (ha:PySem.W.findIn K (.ref C) "__class__"=some (some (.builtin "object.__class__")))
    (hn:PySem.W.specialIn K (.builtin "object.__class__") "__get__"=some (some (.builtin "getset_descriptor.__get__"))) (htk:PySem.W.takesIn K (.builtin "object.__class__")=some true)
    (hm:PySem.W.mroIn K C (.type "object")=some true):pJ K H (.ref a) (.ref C)
theorem K8 {x:V}{u t:Value} (I:Inv X pins σ H s) (rx:RelV x u) (ty:pJ X.K H x t) (e:PySem.W.kitOne X.K t c=some b) (h:∀tk,Q (.bool b) {s with toks:=tk}):
 wpAny (model X.prog X.w) A (call (.builtin "isinstance") [u,c]) Q E s:=by
 cases ty with
 | non=>cases(show u=Value.none from rx);exact PySem.W.kia_one PySem.W.kitx_none I.kIn True.intro e (fun z=>nomatch z) h
 | bl y=>cases(show u=Value.bool y from rx);exact PySem.W.kia_one PySem.W.kitx_bool I.kIn True.intro e (fun z=>nomatch z) h
 | int i=>obtain⟨t,q⟩:=(show∃t,u=Value.int i t from rx);cases q;exact PySem.W.kia_one PySem.W.kitx_int I.kIn True.intro e (fun z=>nomatch z) h
 | str y=>obtain⟨t,q⟩:=(show∃t,u=Value.str y t from rx);cases q;exact PySem.W.kia_one PySem.W.kitx_str I.kIn True.intro e (fun z=>nomatch z) h
 | flt y=>obtain⟨t,q⟩:=(show∃t,u=Value.float y t from rx);cases q;exact PySem.W.kia_one PySem.W.kitx_float I.kIn True.intro e (fun z=>nomatch z) h
 | @lst a xs ea=>
   cases(show u=Value.ref a from rx)
   obtain⟨_,_,n,_,h1⟩:=(show eN X.prog X.w H s.heap a (.lst xs) from I.hok a _ ea)
   exact PySem.W.kia_one PySem.W.kitx_list I.kIn ⟨_,h1,rfl⟩ e (fun z=>nomatch z) h
 | @frz a ob xs ea=>
   cases(show u=Value.ref a from rx)
   obtain⟨_,_,_,n,_,h1⟩:=(show eN X.prog X.w H s.heap a (.frz ob (.lst xs)) from I.hok a _ ea)
   exact PySem.W.kia_one PySem.W.kitx_list I.kIn ⟨_,h1,rfl⟩ e (fun z=>nomatch z) h
 | @tup a xs ea=>
   cases(show u=Value.ref a from rx)
   obtain⟨_,_,_,p⟩:=(show eN X.prog X.w H s.heap a (.tup xs) from I.hok a _ ea)
   obtain⟨o,h1,h2,_⟩:=p
   exact PySem.W.kia_one PySem.W.kitx_tuple I.kIn ⟨o,h1,h2⟩ e (fun z=>nomatch z) h
 | @dK a kvs ea=>
   cases(show u=Value.ref a from rx)
   obtain⟨_,_,vs,_,p⟩:=(show eN X.prog X.w H s.heap a (.dK kvs) from I.hok a _ ea)
   obtain⟨o,es,ep,h1,h2,_⟩:=p
   exact PySem.W.kia_one PySem.W.kitx_dict I.kIn ⟨o,h1,h2.1⟩ e (fun z=>nomatch z) h
 | @dT a kvs ea=>
   cases(show u=Value.ref a from rx)
   obtain⟨_,_,xs,_,o,es,ep,h1,h2,_⟩:=(show eN X.prog X.w H s.heap a (.dT kvs) from I.hok a _ ea)
   exact PySem.W.kia_one PySem.W.kitx_dict I.kIn ⟨o,h1,h2.1⟩ e (fun z=>nomatch z) h
 | @ins a C dx fs ea cl ha hn htk hm=>
   cases(show u=Value.ref a from rx)
   obtain⟨mA,O,_⟩:=Ar I.hok ea
   obtain⟨od,J,_⟩:=O.look
   exact PySem.W.kia_one (PySem.W.kitx_own (cl.get _) cl.hd ha hn htk hm) I.kIn J e (fun z=>nomatch z) h
end
end L2
namespace L2
open PySem PySem.Spec PyProof.Rows
structure kZ (k:Nat) (A:Around):Prop where
 hd:A.handled=none
 dp:A.depth+3 * k+5<recursionLimit
 un:A.units+16 * k+200<cLine
theorem kZ.mono {j k:Nat}{A:Around} (r:kZ k A) (h:j<=k):kZ j A:=⟨r.hd,by have:=r.dp;omega,by have:=r.un;omega⟩
theorem kZ.deeper {k:Nat}{A:Around} (r:kZ (k+1) A) (env:Env):kZ k (A.deeper env):=
 ⟨r.hd,by have:=r.dp;show A.depth+1+3 * k+5<_;omega,by have:=r.un;show A.units+3+16 * k+200<_;omega⟩
theorem Iw {A:Around}{C:Addr}{us:List Value}{kw:List (Str×Value)}:(A.under (.builtin "type.__call__" ⟨.ref C::us,kw⟩)).depth=A.depth+1:=by
 first | rfl | simp[Around.under,Code.weight,Code.isCreation,Code.isGuard,Code.isCaller,Code.frames,Code.isFrame,guardIds]
theorem Iz {A:Around}{C:Addr}{us:List Value}{kw:List (Str×Value)}:(A.under (.builtin "type.__call__" ⟨.ref C::us,kw⟩)).units=A.units+1:=by
 first | rfl | simp[Around.under,Code.cUnits,Code.frames,Code.isFrame]
theorem kZ.make {k:Nat}{A:Around} (r:kZ (k+1) A) (C:Addr) (us:List Value) (kw:List (Str×Value)):kZ k (A.under (.builtin "type.__call__" ⟨.ref C::us,kw⟩)):=
 ⟨r.hd,by have:=r.dp;rw[Iw];omega,by have:=r.un;rw[Iz];omega⟩
theorem kZ.depth {k:Nat}{A:Around} (r:kZ k A):A.depth<recursionLimit:=by have:=r.dp;omega
theorem kZ.units {k:Nat}{A:Around} (r:kZ k A):A.units+64<cLine:=by have:=r.un;omega
def Qu:TA:=fun _ H Q=>Q [] H
def pq (ta:TE) (tr:TA):TA:=fun σ H Q=>ta σ H fun x H1=>tr σ H1 fun xs H2=>Q (x::xs) H2
section
variable {X:Cx}{e:Expr}{es:List Expr}{te:TE}{t:TA}{pos:Pos}
theorem Wt:PA X [] Qu:=fun _ _ _ _ H Q I h=>Calls.spliced_nil ⟨[],H,I, .nil,h⟩
theorem Qv (ha:PE X e te) (hr:PA X es t) (hs:starEach (e::es) X.env=(false,eval e X.env)::starEach es X.env:=by rfl):PA X (e::es) (pq te t):=by
 intro pos pins s σ H Q I h
 rw[hs]
 show wpAny _ _ (spliced ((false,eval e X.env)::backTo pos (starEach es X.env))) _ _ s
 refine Calls.spliced_cons (thn (ha pins s σ H _ I h) fun u s1 ⟨x,H1,I1,r1,q1⟩=> ?_)
 exact thn (hr pos pins s1 σ H1 _ I1 q1) fun us s2 ⟨xs,H2,I2,r2,q2⟩=>⟨x::xs,H2,I2, .cons r1 r2,q2⟩
def aah (t:TA):TE:=fun σ H Q=>t σ H fun xs H1=>xs.length<=sizeLine/\∀p,H1 p=none->Q (.ref p) (upd H1 p (.tup xs))
def aai (t:TA):TE:=fun σ H Q=>t σ H fun xs H1=>xs.length<=sizeLine/\∀p,H1 p=none->Q (.ref p) (upd H1 p (.lst xs))
theorem Wu {x1} (h:PA X es t):PE X (.Tuple es x1 pos) (aah t):=by
 intro pins s σ H Q I hq
 refine wpAny_Tuple_spliced (thn (h pos pins s σ H _ I hq) fun us s1 ⟨xs,H1,I1,r,z,q⟩=>⟨by rw[<-r.length];exact z, ?_⟩)
 have hf:H1 s1.heap.objs.size=none:=I1.hok.fresh (Nat.le_refl _)
 refine⟨.ref s1.heap.objs.size,upd H1 s1.heap.objs.size (.tup xs),I1.laid (t':=s1.toks) (fun b u e=>Heap.get?_push_of_some _ e) (Nat.le_refl _) ?_,rfl,q _ hf⟩
 exact⟨z,us,r,⟨_,Heap.get?_push_size _ rfl,rfl,_,rfl⟩⟩
theorem Wv (h:PA X es t):PE X (.List es pos) (aai t):=by
 intro pins s σ H Q I hq
 refine wpAny_List_spliced (thn (h pos pins s σ H _ I hq) fun us s1 ⟨xs,H1,I1,r,z,q⟩=>⟨by rw[<-r.length];exact z, ?_⟩)
 have hf:H1 s1.heap.objs.size=none:=I1.hok.fresh (Nat.le_refl _)
 refine⟨.ref s1.heap.objs.size,upd H1 s1.heap.objs.size (.lst xs),I1.laid (t':=s1.toks) (fun b u e=>Heap.get?_push_of_some _ e) (Nat.le_refl _) ?_,rfl,q _ hf⟩
 exact⟨z,us,0,r,Heap.get?_push_size _ rfl⟩
end
abbrev Sp:=List V->Hp->VK->XK->Prop
abbrev CXT:=List Env->Hp->Shared->XK->Value->Shared->Prop
structure IK (P:Program) (w:World) (K:PySem.W.Frag) (mg:Str->Option Value) (base:Heap) (A:Around) (outer:List Env) (s:Shared) (H:Hp):Prop where
 frames:A.frames=some outer
 mod:Mod K mg base
 bs:∀b o,base.get? b=some o->s.heap.get? b=some o/\H b=none
 bsz:base.objs.size<=s.heap.objs.size
 funs:s.heap.FunFrames base outer
 frf:∀b∈frs outer,H b=none
 hok:HOk P w H s.heap
 bare:AllBare s.gens
def CE (outer:List Env) (P:Program) (w:World) (H:Hp) (s:Shared) (Q:VK) (u:Value) (s':Shared):Prop:=
 ∃v H',s'.os=s.os/\AllBare s'.gens/\Un (frs outer) [] H H' s.heap s'.heap/\HOk P w H' s'.heap/\RelV v u/\Q v H'
def CR (CX:CXT) (outer:List Env) (P:Program) (w:World) (H:Hp) (s:Shared) (Q:VK) (E:XK) (r:Result) (s':Shared):Prop:=
 match r with
 | .ok (.ret u)=>CE outer P w H s Q u s'
 | .ok _=>False
 | .error e=>CX outer H s E e s'
structure bx (P:Program) (w:World) (K:PySem.W.Frag) (mg:Str->Option Value) (base:Heap) (CX:CXT) (k:Nat) (f:Addr) (fd:FuncData) (ps:List Str) (sp:Sp):Prop where
 len:∀vs H Q E,sp vs H Q E->vs.length=ps.length
 run:∀(A:Around) (outer:List Env) (s:Shared) (H:Hp) (args:Args) (us:List Value) (vs:List V) (Q:VK) (E:XK),kZ k A->IK P w K mg base A outer s H->BindsTo s fd args (ps.zip us)->Vals vs us->sp vs H Q E->
  codeAny (model P w) A (.call (.ref f) args) (CR CX outer P w H s Q E) s
theorem bx.mono {P:Program}{w:World}{K:PySem.W.Frag}{mg:Str->Option Value}{base:Heap}{CX:CXT}{j k:Nat}{f:Addr}{fd:FuncData}{ps:List Str}{sp:Sp} (F:bx P w K mg base CX j f fd ps sp) (h:j<=k):
 bx P w K mg base CX k f fd ps sp:=⟨F.len,fun A outer s H args us vs Q E hr=>F.run A outer s H args us vs Q E (hr.mono h)⟩
theorem bx.imp {P:Program}{w:World}{K:PySem.W.Frag}{mg:Str->Option Value}{base:Heap}{CX:CXT}{k:Nat}{f:Addr}{fd:FuncData}{ps:List Str}{sp sp':Sp} (F:bx P w K mg base CX k f fd ps sp)
 (h:∀vs H Q E,sp' vs H Q E->sp vs H Q E):bx P w K mg base CX k f fd ps sp':=
 ⟨fun vs H Q E q=>F.len vs H Q E (h _ _ _ _ q),fun A outer s H args us vs Q E hr he hb hv hs=>F.run A outer s H args us vs Q E hr he hb hv (h _ _ _ _ hs)⟩
theorem IK.make {P:Program}{w:World}{K:PySem.W.Frag}{mg:Str->Option Value}{base:Heap}{A:Around}{outer:List Env}{s:Shared}{H:Hp} (e:IK P w K mg base A outer s H) (C:Addr) (us:List Value) (kw:List (Str×Value)):
 IK P w K mg base (A.under (.builtin "type.__call__" ⟨.ref C::us,kw⟩)) outer s H:=⟨by first | exact e.frames | (simpa [Around.under,Code.envs,Code.isFrame,pushEnvs] using e.frames),e.mod,e.bs,e.bsz,e.funs,e.frf,e.hok,e.bare⟩
section
variable {X:Cx}{pins:List (Addr×Obj)}{σ:St}{H:Hp}{s s':Shared}
theorem Inv.env0 (I:Inv X pins σ H s):IK X.prog X.w X.K X.mg X.base X.A X.stack s H:=
 ⟨I.ok.frames,I.ok.mod,I.bs,Nat.le_trans I.ok.bsz I.sz,I.stack,I.JV,I.hok,I.bare⟩
theorem Inv.after {Q:VK}{u:Value} (I:Inv X pins σ H s) (h:CE X.stack X.prog X.w H s Q u s'):EP X pins σ Q u s':=by
 obtain⟨v,H',os,bare,un,hok,r,q⟩:=h
 obtain⟨hh,g,d,t,os'⟩:=s'
 obtain rfl:os'=s.os:=os
 exact⟨v,H',I.call (h':=hh) (g':=g) (d':=d) (t':=t) (ch:=[]) un hok bare (fun b z=>absurd z (by simp)),r,q⟩
end
def Uq (sp:Sp) (dvs:List V) (E:XK) (t:TA):TE:=fun σ H Q=>t σ H fun vs H1=>sp (vs++dvs) H1 Q E
def J4 (C:Addr) (m:Str) (sp:Sp) (dvs:List V) (E:XK) (ta:TE) (t:TA):TE:=fun σ H Q=>ta σ H fun x H1=>∃a dx fs,x= .ref a/\H1 a=some (.ins C dx fs)/\fs.lookup m=none/\
 t σ H1 fun vs H2=>sp (x::(vs++dvs)) H2 Q E
def Ur (C:Addr) (sp:Sp) (dvs:List V) (E:XK) (t:TA):TE:=fun σ H Q=>t σ H fun vs H1=>∀x dx,H1 x=none->H1 dx=none->dx≠x->
 sp (.ref x::(vs++dvs)) (upd (upd H1 dx (.own x)) x (.ins C dx [])) (fun v H2=>v= .non/\Q (.ref x) H2) E
def Binds (K:PySem.W.Frag) (fd:FuncData) (ps:List Str) (ds:List Value):Prop:=
 ∀(s:Shared) (us:List Value),K.In s.heap->(us++ds).length=ps.length->BindsTo s fd ⟨us,[]⟩ (ps.zip (us++ds))
theorem Binds.all {K:PySem.W.Frag}{fd:FuncData}{ps:List Str} (h:∀us:List Value,us.length=ps.length->bindArgs fd ⟨us,[]⟩=pure (ps.zip us)):Binds K fd ps []:=fun s us _ hl=>by
 rw[List.append_nil] at hl ⊢
 exact .of_eq (h us hl)
def Passes (CX:CXT) (X:Cx) (E:XK):Prop:=∀(pins:List (Addr×Obj)) (σ:St) (H:Hp) (s:Shared) (e:Value) (s':Shared),Inv X pins σ H s->CX X.stack H s E e s'->X.xe e s'
section
variable {X:Cx}{CX:CXT}{k:Nat}{f C:Addr}{fd:FuncData}{ps:List Str}{sp:Sp}{dvs:List V}{ds:List Value}{E:XK}{x m:Str}{p pos apos:Pos}{e o:Expr}{es:List Expr}{ta:TE}{t:TA}
theorem IV {pins:List (Addr×Obj)}{σ:St}{H:Hp}{s:Shared}{Q:VK}{us:List Value}{vs:List V} (F:bx X.prog X.w X.K X.mg X.base CX k f fd ps sp) (hr:kZ k X.A) (hb:Binds X.K fd ps ds) (hd:Vals dvs ds) (hx:Passes CX X E)
 (I:Inv X pins σ H s) (r:Vals vs us) (h:sp (vs++dvs) H Q E):wpAny (model X.prog X.w) X.A (call (.ref f) us) (EP X pins σ Q) X.xe s:=by
 have r2:Vals (vs++dvs) (us++ds):=r.append hd
 have hl:(us++ds).length=ps.length:=by rw[<-r2.length];exact F.len _ _ _ _ h
 refine wpAny_call (codeAny_mono (F.run X.A X.stack s H ⟨us,[]⟩ (us++ds) (vs++dvs) Q E hr I.env0 (hb s us I.kIn hl) r2 h) fun r s' hq=> ?_)
 cases r with
 | error e=>exact hx pins σ H s e s' I hq
 | ok fl=>
   cases fl with
   | ret u=>exact I.after hq
   | next=>exact False.elim hq
   | brk=>exact False.elim hq
   | cont=>exact False.elim hq
theorem Qw (F:bx X.prog X.w X.K X.mg X.base CX k f fd ps sp) (hr:kZ k X.A) (hg:Gl X x) (hm:X.mg x=some (.ref f)) (hk:PySem.W.keepIn X.K (.ref f)=true) (hb:Binds X.K fd ps ds) (hd:Vals dvs ds) (hx:Passes CX X E)
 (ha:PA X (e::es) t) (hdb:(x==("__debug__":Str))=false:=by decide) (he:starEach (e::es) X.env=(false,eval e X.env)::starEach es X.env:=by rfl) (hpl:(backTo pos (starEach es X.env)).any (·.1)=false:=by rfl):
 PE X (.Call (.Name x p) (e::es) [] pos) (Uq sp dvs E t):=by
 intro pins s σ H Q I h
 refine wpAny_Call_Name_kw (JX I hg hm ?_ hdb)
 refine PySem.W.callWith_K (h₀:=X.base) I.ok.mod.kin hk (thn (ha pos pins s σ H _ I h) fun us s1 ⟨vs,H1,I1,r,q⟩=>⟨I1.kIn, ?_⟩) he hpl
 exact IV F hr hb hd hx I1 r q
theorem Qx {pl:Sem Bool} (he:PE X o ta) (c:Cls X.K C) (hm:Meth X.K C m f) (F:bx X.prog X.w X.K X.mg X.base CX k f fd ps sp) (hr:kZ k X.A) (hb:Binds X.K fd ps ds) (hd:Vals dvs ds) (hx:Passes CX X E) (ha:PA X (e::es) t)
 (hst:starEach (e::es) X.env=(false,eval e X.env)::starEach es X.env:=by rfl) (hpl:(backTo pos (starEach es X.env)).any (·.1)=false:=by rfl)
 (ht:eval (.Call (.Attribute o m apos) (e::es) [] pos) X.env=(do
   let ov <-eval o X.env
   standAt apos.atName
   let (f,first) <-holding [ov] (getMethod ov m pl)
   callWith pos f first (backTo pos (starEach (e::es) X.env)) (backToKw pos (keywordEach [] X.env))):=by rfl):
 PE X (.Call (.Attribute o m apos) (e::es) [] pos) (J4 C m sp dvs E ta t):=by
 intro pins s σ H Q I h
 refine PySem.W.methodCall_KW (pl:=pl) (thn (he pins s σ H _ I h) fun u s1 ⟨x,H1,I1,rx,a,dx,fs,ex,ea,l,q⟩=> ?_) ht
 subst ex
 obtain rfl:u=Value.ref a:=rx
 refine Bf I1 ea c hm l ?_
 refine PySem.W.callWith_K (first:=[.ref a]) (h₀:=X.base) I.ok.mod.kin hm.kp (thn (ha pos pins s1 σ H1 _ I1 q) fun us s2 ⟨vs,H2,I2,r,q2⟩=>⟨I2.kIn, ?_⟩) hst hpl
 exact IV (us:= .ref a::us) (vs:= .ref a::vs) F hr hb hd hx I2 (.cons rfl r) q2
theorem M3 {pl:Sem Bool} (he:PE X o ta) (c:Cls X.K C) (hm:Meth X.K C m f) (F:bx X.prog X.w X.K X.mg X.base CX k f fd ps sp) (hr:kZ k X.A) (hb:Binds X.K fd ps ds) (hd:Vals dvs ds) (hx:Passes CX X E)
 (ht:eval (.Call (.Attribute o m apos) [] [] pos) X.env=(do
   let ov <-eval o X.env
   standAt apos.atName
   let (f,first) <-holding [ov] (getMethod ov m pl)
   callWith pos f first (backTo pos (starEach [] X.env)) (backToKw pos (keywordEach [] X.env))):=by rfl):
 PE X (.Call (.Attribute o m apos) [] [] pos) (J4 C m sp dvs E ta Qu):=by
 intro pins s σ H Q I h
 refine PySem.W.methodCall_KW (pl:=pl) (thn (he pins s σ H _ I h) fun u s1 ⟨x,H1,I1,rx,a,dx,fs,ex,ea,l,q⟩=> ?_) ht
 subst ex
 obtain rfl:u=Value.ref a:=rx
 refine Bf I1 ea c hm l ?_
 exact PySem.W.callWith_K0 (first:=[.ref a]) I1.kIn hm.kp (IV (us:=[.ref a]) (vs:=[.ref a]) F hr hb hd hx I1 (.cons rfl .nil) q)
structure Mk (K:PySem.W.Frag) (C f:Addr):Prop where
 makes:PySem.W.makesIn K C=true
 init:PySem.W.findIn K (.ref C) "__init__"=some (some (.ref f))
 fn:PySem.W.isFn K (.ref f)=true
 kp:PySem.W.keepIn K (.ref C)=true
theorem M4 {pins:List (Addr×Obj)}{σ:St}{H:Hp}{s:Shared}{Q:VK}{us:List Value}{vs:List V} (M:Mk X.K C f) (F:bx X.prog X.w X.K X.mg X.base CX k f fd ps sp) (hr:kZ (k+1) X.A) (hb:Binds X.K fd ps ds) (hd:Vals dvs ds)
 (hx:Passes CX X E) (I:Inv X pins σ H s) (r:Vals vs us)
 (h:∀x dx,H x=none->H dx=none->dx≠x->sp (.ref x::(vs++dvs)) (upd (upd H dx (.own x)) x (.ins C dx [])) (fun v H2=>v= .non/\Q (.ref x) H2) E):
 wpAny (model X.prog X.w) X.A (call (.ref C) us) (EP X pins σ Q) X.xe s:=by
 have hq:=h (s.heap.objs.size+1) s.heap.objs.size (I.hok.fresh (Nat.le_succ _)) (I.hok.fresh (Nat.le_refl _)) (Nat.ne_of_lt (Nat.lt_succ_self _))
 have I2:=Inv.made (C:=C) I
 have r2:Vals (V.ref (s.heap.objs.size+1)::(vs++dvs)) (Value.ref (s.heap.objs.size+1)::(us++ds)):= .cons rfl (r.append hd)
 have hl:(Value.ref (s.heap.objs.size+1)::us++ds).length=ps.length:=by
  have e:=r2.length
  rw[F.len _ _ _ _ hq] at e
  exact e.symm
 refine wpAny_call (MT (f:=f) I.kIn M.makes M.init (beq_iff_eq.mp M.fn) (codeAny_mono (F.run _ X.stack _ _ ⟨Value.ref (s.heap.objs.size+1)::us,[]⟩ (Value.ref (s.heap.objs.size+1)::(us++ds)) _ _ E (hr.make C us [])
  (I2.env0.make C us []) (hb _ (Value.ref (s.heap.objs.size+1)::us) I2.kIn hl) r2 hq) fun r s' hq'=> ?_))
 cases r with
 | error e=>exact hx pins σ _ _ e s' I2 hq'
 | ok fl=>
   cases fl with
   | ret u=>
     obtain⟨v,H',I3,rv,ev,q3⟩:=I2.after hq'
     subst ev
     exact⟨rv,⟨V.ref (s.heap.objs.size+1),H',I3,rfl,q3⟩⟩
   | next=>exact False.elim hq'
   | brk=>exact False.elim hq'
   | cont=>exact False.elim hq'
theorem Qy (M:Mk X.K C f) (F:bx X.prog X.w X.K X.mg X.base CX k f fd ps sp) (hr:kZ (k+1) X.A) (hg:Gl X x) (hm:X.mg x=some (.ref C)) (hb:Binds X.K fd ps ds) (hd:Vals dvs ds) (hx:Passes CX X E)
 (ha:PA X (e::es) t) (hdb:(x==("__debug__":Str))=false:=by decide) (he:starEach (e::es) X.env=(false,eval e X.env)::starEach es X.env:=by rfl) (hpl:(backTo pos (starEach es X.env)).any (·.1)=false:=by rfl):
 PE X (.Call (.Name x p) (e::es) [] pos) (Ur C sp dvs E t):=by
 intro pins s σ H Q I h
 refine wpAny_Call_Name_kw (JX I hg hm ?_ hdb)
 refine PySem.W.callWith_K (h₀:=X.base) I.ok.mod.kin M.kp (thn (ha pos pins s σ H _ I h) fun us s1 ⟨vs,H1,I1,r,q⟩=>⟨I1.kIn, ?_⟩) he hpl
 exact M4 M F hr hb hd hx I1 r q
end
section
variable {X:Cx}{CX:CXT}{k:Nat}{f C:Addr}{fd:FuncData}{ps ks:List Str}{sp:Sp}{E:XK}{x m:Str}{p pos apos kpos:Pos}{e o:Expr}{es:List Expr}{kws:List Keyword}{te ta:TE}{t tk:TA}{nm:Option Str}
variable {g:List Value->List Value->List Value}{gV:List V->List V->List V}
end
structure bR (N P:List Str) (sc:Scope):Prop where
 kind:sc.kind= .function
 co:sc.isCoroutine=false
 gen:sc.isGenerator=false
 nd:N.Nodup
 pre:N.take P.length=P
 par:∀x∈P,sc.names.lookup x=some .local\/sc.names.lookup x=some .cell
 nofree:∀y∈sc.names,y.2≠ .free
theorem DQ {kindOf:Str->Option NameKind}{x:Str}:∀{binds:List (Str×Value)}{m:Str->Option Value},(∀v,(x,v)∉binds)->bindL kindOf binds m x=m x
 |[],_,_=>rfl
 | (n,v)::r,m,h=>by
   unfold bindL
   rw[DQ fun w hw=>h w (List.mem_cons_of_mem _ hw)]
   split
   ·have:x≠n:=by rintro rfl;exact h v List.mem_cons_self
    simp[this]
   ·rfl
theorem DR {kindOf:Str->Option NameKind}{x:Str}:∀{binds:List (Str×Value)}{m:Str->Option Value},(∀v,(x,v)∉binds)->bindC kindOf binds m x=m x
 |[],_,_=>rfl
 | (n,v)::r,m,h=>by
   unfold bindC
   rw[DR fun w hw=>h w (List.mem_cons_of_mem _ hw)]
   split
   ·rfl
   ·have:x≠n:=by rintro rfl;exact h v List.mem_cons_self
    simp[this]
theorem DW {kindOf:Str->Option NameKind}{x:Str}{v:Value}:∀{P:List Str}{vs:List Value}{i:Nat}{m:Str->Option Value},P.Nodup->P[i]? =some x->vs[i]? =some v->kindOf x=some .local->
 bindL kindOf (P.zip vs) m x=some v
 |[],_,_,_,_,h,_,_=>by simp at h
 | _::_,[],_,_,_,_,h,_=>by simp at h
 | p::P,w::vs,0,m,nd,h1,h2,hk=>by
   simp at h1 h2;subst h1;subst h2
   show bindL kindOf ((p,w)::P.zip vs) m p=_
   unfold bindL
   rw[DQ fun v hv=>(List.nodup_cons.mp nd).1 (List.of_mem_zip hv).1,if_pos hk]
   simp
 | p::P,w::vs,i+1,m,nd,h1,h2,hk=>by
   show bindL kindOf ((p,w)::P.zip vs) m x=_
   unfold bindL
   exact DW (i:=i) (List.nodup_cons.mp nd).2 (by simpa using h1) (by simpa using h2) hk
theorem DX {kindOf:Str->Option NameKind}{x:Str}{v:Value}:∀{P:List Str}{vs:List Value}{i:Nat}{m:Str->Option Value},P.Nodup->P[i]? =some x->vs[i]? =some v->kindOf x≠some .local->
 bindC kindOf (P.zip vs) m x=some v
 |[],_,_,_,_,h,_,_=>by simp at h
 | _::_,[],_,_,_,_,h,_=>by simp at h
 | p::P,w::vs,0,m,nd,h1,h2,hk=>by
   simp at h1 h2;subst h1;subst h2
   show bindC kindOf ((p,w)::P.zip vs) m p=_
   unfold bindC
   rw[DR fun v hv=>(List.nodup_cons.mp nd).1 (List.of_mem_zip hv).1,if_neg hk]
   simp
 | p::P,w::vs,i+1,m,nd,h1,h2,hk=>by
   show bindC kindOf ((p,w)::P.zip vs) m x=_
   unfold bindC
   exact DX (i:=i) (List.nodup_cons.mp nd).2 (by simpa using h1) (by simpa using h2) hk
def start (N:List Str) (vs:List V):St:=vs.map some++List.replicate (N.length - vs.length) none
def IW (CX:CXT) (P:Program) (w:World) (K:PySem.W.Frag) (mg:Str->Option Value) (base:Heap) (N:List Str) (qual:Str) (scope:Scope) (f:Addr) (cd:Value) (A:Around) (outer:List Env) (s:Shared) (H:Hp) (E:XK):Cx where
 prog:=P
 w:=w
 K:=K
 mg:=mg
 base:=base
 A:=A.deeper (envOfC qual scope s.heap.objs.size f cd)
 N:=N
 s₀:=s
 H₀:=H
 env:=envOfC qual scope s.heap.objs.size f cd
 outer:=outer
 stack:=envOfC qual scope s.heap.objs.size f cd::outer
 ex:=[]
 calm:=true
 fn:=fun _=>true
 pn:=[]
 xe:=fun e s'=>wpAny (model P w) (A.deeper (envOfC qual scope s.heap.objs.size f cd)) (leaving (envOfC qual scope s.heap.objs.size f cd) e) (fun _ s''=>CX outer H s E e s'') (fun e' s''=>CX outer H s E e' s'') s'
theorem Gz {sc:Scope}{n:Nat}{x:Str} (h:sc.names.lookup x=some .cell):∃c,(cellsFrom n sc.names []).lookup x=some c:=by
 have q:=PySem.W.cellsFrom_some sc.names n [] (.inl h)
 exact Option.isSome_iff_exists.mp q
theorem K9 {CX:CXT}{P:Program}{w:World}{K:PySem.W.Frag}{mg:Str->Option Value}{base:Heap}{N ps:List Str}{qual:Str}{scope:Scope}{f:Addr}{cd:Value}{A:Around}{outer:List Env}{s s1:Shared}{H:Hp}{E:XK}{us:List Value}{vs:List V}
 (S:bR N ps scope) (hd:A.handled=none) (e0:IK P w K mg base A outer s H) (hl:vs.length=ps.length) (r:Vals vs us)
 (x:InCallC s s.heap.objs.size (bindL (envOfC qual scope s.heap.objs.size f cd).kindOf (ps.zip us) fun _=>none) (cellsFrom (s.heap.objs.size+1) scope.names []) (bindC (envOfC qual scope s.heap.objs.size f cd).kindOf (ps.zip us) fun _=>none) s1):
 Inv (IW CX P w K mg base N qual scope f cd A outer s H E) [] (start N vs) H s1:=by
 have hpl:ps.length<=N.length:=by have:=congrArg List.length S.pre;rw[List.length_take] at this;omega
 obtain⟨h1,tk,rfl,hk⟩:=x.done
 have noA:∀b:Addr,b∉(IW CX P w K mg base N qual scope f cd A outer s H E).ex:=fun b z=>absurd (show b∈([]:List Addr) from z) (by simp)
 refine⟨⟨e0.mod,S.kind,rfl,rfl,Nat.le_refl _,fun y z c h1 h2=> ?_,fun y hy=> ?_,fun y c _ h=> ?_,fun _=>hd,Around.frames_deeper e0.frames, .inr ⟨rfl,rfl⟩,fun b z=>absurd z (noA b),e0.bs,e0.bsz,fun b _ _=>noA b,fun b z=>absurd z (noA b),e0.funs,e0.frf⟩,
  rfl,e0.bare,Un.kept hk,⟨_,x.toInCall.ns,fun i y v h1 h2 h3=> ?_⟩,fun y c h=>⟨_,x.cell y c h⟩,e0.hok.fresh (Nat.le_refl _),fun y c h=> ?_,fun p hp=>absurd (show p∈([]:List (Addr×Obj)) from hp) (by simp),e0.hok.kept hk, ?_⟩
 ·exact name_of_addr x.apart (PySem.mem_of_lookup h1) (PySem.mem_of_lookup h2)
 ·have hy:scope.names.lookup y=some .cell\/scope.names.lookup y=some .free:=hy
  rcases hy with hy | hy
  ·exact Gz hy
  ·exact absurd rfl (S.nofree _ (PySem.mem_of_lookup hy))
 ·exact Nat.le_of_lt (x.above y c (PySem.mem_of_lookup h))
 ·have hi:i<vs.length:=by
   unfold start at h2
   by_cases hi:i<vs.length
   ·exact hi
   ·rw[List.getElem?_append_right (by simpa using hi)] at h2
    rw[List.getElem?_replicate] at h2
    split at h2<;>cases h2
  have ha:vs[i]? =some v:=by
   unfold start at h2
   rw[List.getElem?_append_left (by simpa using hi),List.getElem?_map] at h2
   cases e:vs[i]? with
   | none=>rw[e] at h2;cases h2
   | some a=>rw[e] at h2;cases h2;rfl
  obtain⟨u,hu,rv⟩:=r.get ha
  have hp:ps[i]? =some y:=by
   rw[<-S.pre,List.getElem?_take_of_lt (by omega)];exact h1
  have ndP:ps.Nodup:=by rw[<-S.pre];exact S.nd.sublist (List.take_sublist _ _)
  refine⟨u,rv, ?_⟩
  rcases S.par y (List.mem_of_getElem? hp) with k | k
  ·exact .inl ⟨k,DW ndP hp hu k⟩
  ·obtain⟨c,e⟩:=Gz (n:=s.heap.objs.size+1) k
   refine .inr ⟨.inl k,c,e, ?_⟩
   have q:=x.cell y c e
   rw[DX ndP hp hu (by show scope.names.lookup y≠_;rw[k];decide)] at q
   exact q
 ·exact e0.hok.fresh (Nat.le_of_lt (x.above y c (PySem.mem_of_lookup h)))
 ·unfold start
  show _=N.length
  rw[List.length_append,List.length_map,List.length_replicate]
  omega
theorem aaj {CX:CXT}{P:Program}{w:World}{K:PySem.W.Frag}{mg:Str->Option Value}{base:Heap}{k:Nat}{f:Addr}{name qual:Str}{params:Arguments}{body:List Stmt}{scope:Scope}{dV kV doc pm cdv ct oc:Value}{an od:Option Addr}
 {osl:Array (Option Value)}{N ps:List Str}{sp:Sp} (lk:K.lookup f=some ⟨oc,od, .func (PySem.W.fnOf name qual params body scope dV kV doc pm an cdv ct),osl⟩) (hcd:PySem.W.codeIn K cdv qual=true) (S:bR N ps scope)
 (len:∀vs H Q E,sp vs H Q E->vs.length=ps.length)
 (hbody:∀(A:Around) (outer:List Env) (s:Shared) (H:Hp) (vs:List V) (Q:VK) (E:XK),kZ k (A.deeper (envOfC qual scope s.heap.objs.size f cdv))->sp vs H Q E->
   ∃t,PSs (IW CX P w K mg base N qual scope f cdv A outer s H E) body t/\t {nx:=fun _ H'=>Q .non H',rt:=Q} (start N vs) H):
 bx P w K mg base CX (k+1) f (PySem.W.fnOf name qual params body scope dV kV doc pm an cdv ct) ps sp:=by
 refine⟨len,fun A outer s H args us vs Q E hr e0 hb r hsp=> ?_⟩
 have hl:=len _ _ _ _ hsp
 have KX:K.In s.heap:=e0.mod.kin.keeps fun b o e=>(e0.bs b o e).1
 have lim:s.heap.NoLimit:=e0.mod.nolimit.keeps fun b o e=>(e0.bs b o e).1
 have hkind:∀y∈ps.zip us,scope.names.lookup y.1=some .local\/(scope.names.lookup y.1=some .cell/\((cellsFrom (s.heap.objs.size+1) scope.names []).lookup y.1).isSome=true):=fun⟨n,v⟩ hy=>by
  rcases S.par n (List.of_mem_zip hy).1 with q | q
  ·exact .inl q
  ·exact .inr ⟨q,PySem.W.cellsFrom_some _ _ _ (.inl q)⟩
 refine codeAny_call_function hr.depth (KX _ _ lk) rfl S.co S.gen rfl (PySem.W.codeRec_of KX hcd) (hb _ _ _ _ ?_)
 refine wpAny_newFunctionEnv_cells S.kind hkind fun env he s1 x=> ?_
 subst he
 refine⟨lim.keeps x.toInCall.keep,codeAny_func ?_⟩
 obtain⟨t,ht,hq⟩:=hbody A outer s H vs Q E (hr.deeper _) hsp
 have I:Inv (IW CX P w K mg base N qual scope f cdv A outer s H E) [] (start N vs) H s1:=K9 S hr.hd e0 hl r x
 refine wpAny_mono (ht [] s1 (start N vs) H _ I hq) (fun fl s' hs=> ?_) fun e s' hs=>hs
 have fin:∀{σ':St}{H':Hp}{v:V}{u:Value},Inv (IW CX P w K mg base N qual scope f cdv A outer s H E) [] σ' H' s'->RelV v u->Q v H'->CE outer P w H s Q u s':=
  fun{σ' H' v u} J rv q=>⟨v,H',J.os,J.bare,J.base,J.hok,rv,q⟩
 cases fl with
 | ret u=>
   obtain⟨v,σ',H',J,rv,q⟩:=hs
   exact fin J rv q
 | next=>
   obtain⟨σ',H',J,q⟩:=hs
   exact fin (v:=V.non) (u:=Value.none) J rfl q
 | brk=>
   obtain⟨_,_,_,q⟩:=hs
   exact False.elim q
 | cont=>
   obtain⟨_,_,_,q⟩:=hs
   exact False.elim q
end L2
namespace L2
open PySem PySem.Spec PyProof.Rows
section
variable {X:Cx}{x:Str}{p pos:Pos}{e:Expr}{es:List Expr}{t:TA}{id T:String}{r:List V->Hp->VK->Prop}
def tCB (r:List V->Hp->VK->Prop) (t:TA):TE:=fun σ H Q=>t σ H fun vs H1=>r vs H1 Q
theorem M5 (hc:nW X (.builtin id) r) (hg:Gl X x) (hm:X.mg x=none) (hv:bootBuiltins x=some (.builtin id)) (ha:PA X (e::es) t) (hn:x≠"__name__":=by decide) (hdb:(x==("__debug__":Str))=false:=by decide)
 (he:starEach (e::es) X.env=(false,eval e X.env)::starEach es X.env:=by rfl) (hpl:(backTo pos (starEach es X.env)).any (·.1)=false:=by rfl):PE X (.Call (.Name x p) (e::es) [] pos) (tCB r t):=by
 intro pins s σ H Q I h
 refine wpAny_Call_Name_kw (yU I hg hm hv ?_ hn hdb)
 exact PyProof.Rows.callWith_builtin1 (thn (ha pos pins s σ H _ I h) fun us s1 ⟨vs,H1,I1,r1,q1⟩=>hc pins s1 σ H1 vs us Q I1 r1 q1) he hpl
theorem La (hc:nW X (.type T) r) (hg:Gl X x) (hm:X.mg x=none) (hv:bootBuiltins x=some (.type T)) (ha:PA X (e::es) t) (hn:x≠"__name__":=by decide) (hdb:(x==("__debug__":Str))=false:=by decide)
 (he:starEach (e::es) X.env=(false,eval e X.env)::starEach es X.env:=by rfl) (hpl:(backTo pos (starEach es X.env)).any (·.1)=false:=by rfl):PE X (.Call (.Name x p) (e::es) [] pos) (tCB r t):=by
 intro pins s σ H Q I h
 refine wpAny_Call_Name_kw (yU I hg hm hv ?_ hn hdb)
 exact PyProof.Rows.callWith_type1 (thn (ha pos pins s σ H _ I h) fun us s1 ⟨vs,H1,I1,r1,q1⟩=>hc pins s1 σ H1 vs us Q I1 r1 q1) he hpl
end
end L2
namespace HT
open PySem PyProof.Rows
section
open PySem.SeqAt
open PySem.AutoSeq1 (wpAny_loadPart')
open PySem.MeetsSeq PySem.MeetsSeq2 PySem.MeetsSeq3
end
section
variable {prog:Program}{w:World}{A:Around}{E:Value->Shared->Prop}{s:Shared}
def sIx (n d:Nat):Option Int->Nat
 | none=>d
 | some v=>if v<0 then(v+(n:Int)).toNat else min v.toNat n
end
end HT
namespace L2
open PySem PySem.Spec PyProof.Rows
abbrev TO:=St->Hp->(Option Int->Hp->Prop)->Prop
def PO (X:Cx) (e:Option Expr) (t:TO):Prop:=
 ∀(pins:List (Addr×Obj)) (s:Shared) (σ:St) (H:Hp) (Q:Option Int->Hp->Prop),Inv X pins σ H s->t σ H Q->
  wpAny (model X.prog X.w) X.A (evalPart e X.env) (fun u s'=>∃o H',Inv X pins σ H' s'/\IsPart u o/\Q o H') X.xe s
def J5:TO:=fun _ H Q=>Q none H
def Us (t:TE):TO:=fun σ H Q=>t σ H fun x H1=>∃i,x= .int i/\Q (some i) H1
theorem intsAre_of {ns:List Int}:∀{us:List Value},Vals (ns.map V.int) us->IntsAre us ns:=by
 induction ns with
 | nil=>intro us r;rw[List.map_nil] at r;cases r;exact .nil
 | cons n ns ih=>
   intro us r
   rw[List.map_cons] at r
   cases r with
   | cons r1 r2=>
     obtain⟨t,e⟩:=r1
     subst e
     exact .cons n t (ih r2)
section
variable {X:Cx}{e:Expr}{te:TE}{lo hi:Option Expr}{tl th:TO}{pos p2:Pos}
theorem Qz:PO X none J5:=by
 intro pins s σ H Q I h
 rw[evalPart_none]
 exact wpAny_pure ⟨none,H,I, .none,h⟩
theorem QB (h:PE X e te):PO X (some e) (Us te):=by
 intro pins s σ H Q I hw
 rw[evalPart_some]
 refine thn (h pins s σ H _ I hw) fun u s1 ⟨x,H1,I1,r1,q1⟩=> ?_
 obtain⟨i,rfl,q⟩:=q1
 obtain⟨t,rfl⟩:=r1
 exact⟨some i,H1,I1, .int i t,q⟩
def SlR (X:Cx) (r:V->Option Int->Option Int->Hp->VK->Prop):Prop:=
 ∀(pins:List (Addr×Obj)) (s:Shared) (σ:St) (H:Hp) (x:V) (v vl vu:Value) (lo hi:Option Int) (sl:Addr) (Q:VK),Inv X pins σ H s->RelV x v->s.heap.IsSliceOf sl vl vu .none->IsPart vl lo->IsPart vu hi->r x lo hi H Q->
  ∃T id,typeLookup (.type T) "__getitem__"=pure (some (.builtin id))/\s.TypeIs v T/\wpAny (model X.prog X.w) X.A (getItem v (.ref sl)) (EP X pins σ Q) X.xe s
def tSl (r:V->Option Int->Option Int->Hp->VK->Prop) (te:TE) (tl th:TO):TE:=fun σ H Q=>te σ H fun x H1=>tl σ H1 fun l H2=>th σ H2 fun u H3=>r x l u H3 Q
theorem M6 {r:V->Option Int->Option Int->Hp->VK->Prop} (hr:SlR X r) (he:PE X e te) (hl:PO X lo tl) (hu:PO X hi th):PE X (.Subscript e (.Slice lo hi none p2) pos) (tSl r te tl th):=by
 intro pins s σ H Q I h
 refine Subscript_ (thn (he pins s σ H _ I h) fun v s1 ⟨x,H1,I1,r1,q1⟩=> ?_)
 refine wpAny_Slice (thn (hl pins s1 σ H1 _ I1 q1) fun vl s2 ⟨l,H2,I2,pl,q2⟩=>thn (hu pins s2 σ H2 _ I2 q2) fun vu s3 ⟨u,H3,I3,pu,q3⟩=> ?_)
 rw[evalPart_none]
 refine wpAny_pure ?_
 have I4:Inv X pins σ H3 {s3 with heap:=s3.heap.push {cls:= .type "slice",data:= .fields #[vl,vu, .none]}}:=I3.kept (t':=s3.toks) fun b ob q=>Heap.get?_push_of_some _ q
 obtain⟨T,id,hT,ht,hg⟩:=hr pins {s3 with heap:=s3.heap.push {cls:= .type "slice",data:= .fields #[vl,vu, .none]}} σ H3 x v vl vu l u s3.heap.objs.size Q I4 r1 (Heap.IsSliceOf.new ..) pl pu q3
 show wpAny (model X.prog X.w) X.A (subscriptTail e (.Slice lo hi none p2) v (.ref s3.heap.objs.size)) (EP X pins σ Q) X.xe {s3 with heap:=s3.heap.push {cls:= .type "slice",data:= .fields #[vl,vu, .none]}}
 exact tail_any (ops:=[.ref s3.heap.objs.size,v]) ht hT hg (by with_unfolding_all rfl)
def Lb (xs:List V) (lo hi:Option Int):List V:=(xs.drop (HT.sIx xs.length 0 lo)).take (HT.sIx xs.length xs.length hi - HT.sIx xs.length 0 lo)
theorem GC (xs:List V) (lo hi:Option Int):(Lb xs lo hi).length<=xs.length:=by
 unfold Lb
 rw[List.length_take,List.length_drop]
 omega
end
end L2
namespace L2
open PySem PySem.Spec PyProof.Rows
def ixN (n:Nat) (i:Int):Option Nat:=if 0<=i then(if i<n then some i.toNat else none) else if -(n:Int)<=i then some (i+n).toNat else none
def atI {α:Type} (xs:List α) (i:Int):Option α:=(ixN xs.length i).bind fun j=>xs[j]?
theorem QC {n:Nat}{i:Int}{j:Nat} (h:ixN n i=some j):seqIndex? i n=some j/\j<n/\ -(n:Int)<=i/\i<n:=by
 unfold ixN at h
 by_cases h0:0<=i
 ·rw[if_pos h0] at h
  by_cases h1:i<n
  ·rw[if_pos h1] at h
   have e:i.toNat=j:=Option.some.inj h
   exact⟨by rw[seqIndex_of h0 h1,e],by omega,by omega,h1⟩
  ·rw[if_neg h1] at h;cases h
 ·rw[if_neg h0] at h
  by_cases h1: -(n:Int)<=i
  ·rw[if_pos h1] at h
   have e:(i+n).toNat=j:=Option.some.inj h
   exact⟨by rw[seqIndex_neg (by omega) h1,e],by omega,h1,by omega⟩
  ·rw[if_neg h1] at h;cases h
theorem Ex {α:Type}{xs:List α}{i:Int}{v:α} (h:atI xs i=some v):∃j,seqIndex? i xs.length=some j/\xs[j]? =some v/\j<xs.length/\ -(xs.length:Int)<=i/\i<xs.length:=by
 unfold atI at h
 cases e:ixN xs.length i with
 | none=>rw[e] at h;cases h
 | some j=>
   rw[e] at h
   obtain⟨h1,h2,h3,h4⟩:=QC e
   exact⟨j,h1,h,h2,h3,h4⟩
theorem iR {α:Type}{xs:List α}{j:Nat}{v:α} (h:xs[j]? =some v):atI xs (j:Int)=some v:=by
 have hj:j<xs.length:=(List.getElem?_eq_some_iff.mp h).1
 have e:ixN xs.length (j:Int)=some j:=by
  unfold ixN
  rw[if_pos (by omega),if_pos (by omega)];simp
 unfold atI;rw[e];exact h
def J6 (b:Expr):Prop:=∀o i,subscripted b false o i=operate [o,i] (getItem o i)
def IxR (X:Cx) (r:R2):Prop:=
 ∀(value slice:Expr) (pins:List (Addr×Obj)) (s:Shared) (σ:St) (H:Hp) (x y:V) (v u:Value) (Q:VK),Inv X pins σ H s->RelV x v->RelV y u->r x y H Q->
  subscripted slice false v u=operate [v,u] (getItem v u)->wpAny (model X.prog X.w) X.A (subscriptTail value slice v u) (EP X pins σ Q) X.xe s
def MtR (X:Cx) (id:String) (r:V->List V->Hp->VK->Prop):Prop:=
 ∀(pins:List (Addr×Obj)) (s:Shared) (σ:St) (H:Hp) (x:V) (xs:List V) (v:Value) (us:List Value) (Q:VK),Inv X pins σ H s->RelV x v->Vals xs us->r x xs H Q->
  wpAny (model X.prog X.w) X.A (call (.builtin id) (v::us)) (EP X pins σ Q) X.xe s
section
variable {X:Cx}{a b:Expr}{ta tb:TE}{pos:Pos}
theorem aak {r:R2} (hr:IxR X r) (ha:PE X a ta) (hb:PE X b tb) (hs:J6 b):PE X (.Subscript a b pos) (tOp r ta tb):=by
 intro pins s σ H Q I h
 exact Subscript_ (Wd ha hb I h fun v u s2 x y H2 I2 rx ry q=>hr a b pins s2 σ H2 x y v u Q I2 rx ry q (hs _ _))
def Ww (K:PySem.W.Frag):R2:=fun x y H Q=>∃p xs i v,x= .ref p/\y= .int i/\SqL K H p xs/\atI xs i=some v/\Q v H
def Wx (K:PySem.W.Frag):R2:=fun x y H Q=>∃p xs i v,x= .ref p/\y= .int i/\SqT K H p xs/\atI xs i=some v/\Q v H
def aal:R2:=fun x y H Q=>∃z i c,x= .str z/\y= .int i/\z.length<=sizeLine/\atI z.cps.toList i=some c/\Q (.str ⟨#[c]⟩) H
theorem QD:IxR X (Ww X.K):=by
 intro value slice pins s σ H x y v u Q I rx ry h hs
 obtain⟨p,xs,i,z,rfl,rfl,hq,he,q⟩:=h
 cases rx
 obtain⟨t,rfl⟩:=ry
 obtain⟨its,r,pl,hz⟩:=I.list hq
 obtain⟨j,h1,h2,h3,h4,h5⟩:=Ex he
 obtain⟨w,ew,rw'⟩:=r.get h2
 have hl:=r.length
 have hn:=Be
 have fin:EP X pins σ Q w s:=⟨z,H,I,rw',q⟩
 by_cases h0:0<=i
 ·have hj:i.toNat=j:=by
   rw[seqIndex_of h0 h5] at h1
   exact Option.some.inj h1
  exact item_listR pl.isList h0 (by omega) (by rw[hj];simpa using ew) fin hs
 ·have hj:(i+(its.toArray.size:Int)).toNat=j:=by
   rw[seqIndex_neg (by omega) h4] at h1
   rw[List.size_toArray,<-hl]
   exact Option.some.inj h1
  exact subscriptTail_builtinR (x:=w) pl.isList.typeIs slot_list_getitem.lookup
   (wpAny_getItem_list_neg (Q:=fun r s'=>r=w/\EP X pins σ Q r s') pl.isList (by omega) (by rw[List.size_toArray]<;>omega) (by omega) (by rw[hj];simpa using ew) ⟨rfl,fin⟩) hs
theorem Wy:IxR X (Wx X.K):=by
 intro value slice pins s σ H x y v u Q I rx ry h hs
 obtain⟨p,xs,i,z,rfl,rfl,hq,he,q⟩:=h
 cases rx
 obtain⟨t,rfl⟩:=ry
 obtain⟨its,r,pl,hz⟩:=I.tuple hq
 obtain⟨j,h1,h2,h3,h4,h5⟩:=Ex he
 obtain⟨w,ew,rw'⟩:=r.get h2
 have hl:=r.length
 have hn:=Be
 have fin:EP X pins σ Q w s:=⟨z,H,I,rw',q⟩
 exact subscriptTail_builtinR (x:=w) pl.typeIs slot_tuple_getitem.lookup
  (getItem_tuple (j:=j) (Q:=fun r s'=>r=w/\EP X pins σ Q r s') pl (by omega) (by omega) (by rw[List.size_toArray,<-hl];exact h1) (by simpa using ew) ⟨rfl,fin⟩) hs
theorem Wz:IxR X aal:=by
 intro value slice pins s σ H x y v u Q I rx ry h hs
 obtain⟨z,i,c,rfl,rfl,hz,he,q⟩:=h
 obtain⟨t,rfl⟩:=rx
 obtain⟨t',rfl⟩:=ry
 obtain⟨j,h1,h2,h3,h4,h5⟩:=Ex he
 have hl:z.cps.toList.length=z.length:=by simp[Str.length]
 rw[hl] at h1 h4 h5
 have hn:=Be
 exact tail_any (typeIs_str s z t) slot_str_getitem.lookup (getItem_str (c:=c) (by
  have e1:decide (i< -(2 ^ 63:Int))=false:=decide_eq_false (by omega)
  have e2:decide (i >= 2 ^ 63)=false:=decide_eq_false (by omega)
  rw[e1,e2,Bool.or_false]) (by rw[h1];simpa using h2) ⟨.str ⟨#[c]⟩,H,I.tok _,⟨_,rfl⟩,q⟩) hs
theorem Ey (lo hi:Option Int) (n:Nat):(sliceBounds lo hi none n).1=((HT.sIx n 0 lo:Nat):Int)/\(sliceBounds lo hi none n).2.1=((HT.sIx n n hi:Nat):Int)/\(sliceBounds lo hi none n).2.2=1:=by
 refine⟨?_, ?_,rfl⟩
 ·cases lo with
  | none=>simp[sliceBounds,HT.sIx]
  | some i=>
    simp only[sliceBounds,HT.sIx,Option.getD_none,show(1:Int)>0 by decide,if_true]
    by_cases h:i<0
    ·simp only[h,if_true]<;>omega
    ·simp only[h,if_false]<;>omega
 ·cases hi with
  | none=>simp[sliceBounds,HT.sIx]
  | some i=>
    simp only[sliceBounds,HT.sIx,Option.getD_none,show(1:Int)>0 by decide,if_true]
    by_cases h:i<0
    ·simp only[h,if_true]<;>omega
    ·simp only[h,if_false]<;>omega
theorem Dm (its:List Value) (lo hi:Option Int):slicePick its.toArray lo hi none=((its.drop (HT.sIx its.length 0 lo)).take (HT.sIx its.length its.length hi - HT.sIx its.length 0 lo)).toArray:=by
 obtain⟨h1,h2,h3⟩:=Ey lo hi its.toArray.size
 unfold slicePick
 rw[h1,h2,h3]
 simp only[sliceRange_one,pick_run,List.size_toArray]<;>rfl
def aam (K:PySem.W.Frag):V->Option Int->Option Int->Hp->VK->Prop:=fun x lo hi H Q=>∃a xs,x= .ref a/\SqL K H a xs/\∀p,H p=none->Q (.ref p) (upd H p (.lst (Lb xs lo hi)))
theorem QF:SlR X (aam X.K):=by
 intro pins s σ H x v vl vu lo hi sl Q I rx hs pl pu h
 obtain⟨a,xs,rfl,hx,q⟩:=h
 cases rx
 obtain⟨its,r,ht,hz⟩:=I.list hx
 have hlen:=r.length
 refine⟨"list",_,slot_list_getitem.lookup,ht.isList.typeIs, ?_⟩
 refine wpAny_getItem_list_slice ht.isList hs pl pu .none (by simp) ?_ (by rw[List.size_toArray]<;>omega)
 rw[Dm,<-hlen]
 refine⟨.ref s.heap.objs.size,_,I.laid (t':=s.toks) (o:= .lst (Lb xs lo hi)) (fun b ob q=>Heap.get?_push_of_some _ q) (Nat.le_refl _) ?_,rfl,q _ (I.hok.fresh (Nat.le_refl _))⟩
 exact⟨Nat.le_trans (GC xs lo hi) hz,_,0,(r.drop (HT.sIx xs.length 0 lo)).take (HT.sIx xs.length xs.length hi - HT.sIx xs.length 0 lo),Heap.get?_push_size _ rfl⟩
def um:V->Bool
 | .non=>true
 | .bl _=>true
 | .int _=>true
 | .str _=>true
 | _=>false
def eqV:V->V->Bool
 | .non, .non=>true
 | .bl a, .bl b=>a==b
 | .bl a, .int b=>(if a then 1 else 0)==b
 | .int a, .bl b=>a==(if b then 1 else 0)
 | .int a, .int b=>a==b
 | .str a, .str b=>a==b
 | _,_=>false
theorem WD {A:Around}{s:Shared}{y x:V}{u v:Value} (ry:RelV y u) (rx:RelV x v) (fy:um y=true) (fx:um x=true):SeqAt.EqAt A s u v (eqV y x):=by
 cases y with
 | non=>
   cases ry
   cases x with
   | non=>cases rx;exact SeqAt.EqAt.same _
   | bl b=>cases rx;exact SeqAt.EqAt.none_bool b
   | int b=>obtain⟨t,rfl⟩:=rx;exact SeqAt.EqAt.none_int b t
   | str b=>obtain⟨t,rfl⟩:=rx;exact SeqAt.EqAt.none_str b t
   | _=>exact absurd (show false=true from fx) Bool.false_ne_true
 | bl a=>
   cases ry
   cases x with
   | non=>cases rx;exact SeqAt.EqAt.bool_none a
   | bl b=>cases rx;exact SeqAt.EqAt.bool_bool a b
   | int b=>obtain⟨t,rfl⟩:=rx;exact SeqAt.EqAt.bool_int a b t
   | str b=>obtain⟨t,rfl⟩:=rx;exact SeqAt.EqAt.bool_str a b t
   | _=>exact absurd (show false=true from fx) Bool.false_ne_true
 | int a=>
   obtain⟨t',rfl⟩:=ry
   cases x with
   | non=>cases rx;exact SeqAt.EqAt.int_none a t'
   | bl b=>cases rx;exact SeqAt.EqAt.int_bool a t' b
   | int b=>obtain⟨t,rfl⟩:=rx;exact SeqAt.EqAt.int_int a t' b t
   | str b=>obtain⟨t,rfl⟩:=rx;exact SeqAt.EqAt.int_str a t' b t
   | _=>exact absurd (show false=true from fx) Bool.false_ne_true
 | str a=>
   obtain⟨t',rfl⟩:=ry
   cases x with
   | non=>cases rx;exact SeqAt.EqAt.str_none a t'
   | bl b=>cases rx;exact SeqAt.EqAt.str_bool a t' b
   | int b=>obtain⟨t,rfl⟩:=rx;exact SeqAt.EqAt.str_int a t' b t
   | str b=>obtain⟨t,rfl⟩:=rx;exact SeqAt.EqAt.str_str a t' b t
   | _=>exact absurd (show false=true from fx) Bool.false_ne_true
 | _=>exact absurd (show false=true from fy) Bool.false_ne_true
def eqU (x:V) (u:Value):Bool:=match u with
 | .none=>eqV .non x
 | .bool b=>eqV (.bl b) x
 | .int i _=>eqV (.int i) x
 | .str z _=>eqV (.str z) x
 | _=>false
theorem M7 {x y:V}{u:Value} (r:RelV y u) (f:um y=true):eqU x u=eqV y x:=by
 cases y with
 | non=>cases r;rfl
 | bl b=>cases r;rfl
 | int i=>obtain⟨t,rfl⟩:=r;rfl
 | str z=>obtain⟨t,rfl⟩:=r;rfl
 | _=>exact absurd (show false=true from f) Bool.false_ne_true
theorem yg {x:V}:∀{xs:List V}{us:List Value},Vals xs us->xs.all um=true->us.any (eqU x)=xs.any fun y=>eqV y x
 | _,_, .nil,_=>rfl
 | y::xs,u::us, .cons r t,f=>by
   rw[List.all_cons,Bool.and_eq_true] at f
   rw[List.any_cons,List.any_cons,M7 r f.1,yg t f.2]
theorem uo {A:Around}{s:Shared}{x:V}{v:Value} (rx:RelV x v) (fx:um x=true):∀{xs:List V}{us:List Value},Vals xs us->xs.all um=true->∀u∈us,SeqAt.EqAt A s u v (eqU x u)
 | _,_, .nil,_=>fun u hu=>by cases hu
 | y::xs,u::us, .cons r t,f=>fun u' hu=>by
   rw[List.all_cons,Bool.and_eq_true] at f
   rcases List.mem_cons.mp hu with rfl | hu
   ·rw[M7 r f.1];exact WD r rx f.1 fx
   ·exact uo rx fx t f.2 u' hu
def inV (x:V) (xs:List V):Bool:=xs.any fun y=>eqV y x
def rIn (K:PySem.W.Frag) (neg:Bool):R2:=fun x y H Q=>∃p xs,y= .ref p/\(SqL K H p xs\/SqT K H p xs)/\um x=true/\xs.all um=true/\Q (.bl (if neg then !inV x xs else inV x xs)) H
theorem Ld:OpR X (compareOp .In) (rIn X.K false):=by
 intro pins s σ H x y v u Q I rx ry h
 obtain⟨p,xs,rfl,hq,fx,fs,q⟩:=h
 cases ry
 rcases hq with hq | hq
 ·obtain⟨its,r,pl,hz⟩:=I.list hq
  refine SeqAt.in_listAt (eqU x) pl.isList (fun w hw=>uo rx fx r fs w (by simpa using hw)) ⟨.bl _,H,I,rfl, ?_⟩
  rw[show its.toArray.any (eqU x)=its.any (eqU x) by simp,yg r fs]
  exact q
 ·obtain⟨its,r,pl,hz⟩:=I.tuple hq
  refine SeqAt.in_tupleAt (eqU x) pl (fun w hw=>uo rx fx r fs w (by simpa using hw)) ⟨.bl _,H,I,rfl, ?_⟩
  rw[show its.toArray.any (eqU x)=its.any (eqU x) by simp,yg r fs]
  exact q
theorem Ez:OpR X (compareOp .NotIn) (rIn X.K true):=by
 intro pins s σ H x y v u Q I rx ry h
 obtain⟨p,xs,rfl,hq,fx,fs,q⟩:=h
 cases ry
 rcases hq with hq | hq
 ·obtain⟨its,r,pl,hz⟩:=I.list hq
  refine SeqAt.notIn_listAt (eqU x) pl.isList (fun w hw=>uo rx fx r fs w (by simpa using hw)) ⟨.bl _,H,I,rfl, ?_⟩
  rw[show its.toArray.any (eqU x)=its.any (eqU x) by simp,yg r fs]
  exact q
 ·obtain⟨its,r,pl,hz⟩:=I.tuple hq
  refine SeqAt.notIn_tupleAt (eqU x) pl (fun w hw=>uo rx fx r fs w (by simpa using hw)) ⟨.bl _,H,I,rfl, ?_⟩
  rw[show its.toArray.any (eqU x)=its.any (eqU x) by simp,yg r fs]
  exact q
theorem EY:nW X (.builtin "len") (fun xs H Q=>∃p ys,xs=[.ref p]/\(SqL X.K H p ys\/SqT X.K H p ys)/\Q (.int ys.length) H):=by
 intro pins s σ H xs us Q I r h
 obtain⟨p,ys,rfl,hq,q⟩:=h
 obtain⟨u,rfl,rx⟩:=vals1 r
 cases rx
 have hn:=Be
 rcases hq with hq | hq
 ·obtain⟨its,r',pl,hz⟩:=I.list hq
  have hlen:=r'.length
  exact Calls.call_len_list pl.isList (by simp only[List.size_toArray]<;>omega) ⟨.int ys.length,H,I.tok _,⟨s.toks+1,by rw[List.size_toArray,hlen]⟩,q⟩
 ·obtain⟨its,r',pl,hz⟩:=I.tuple hq
  have hlen:=r'.length
  exact len_tuple pl (by simp only[List.size_toArray]<;>omega) ⟨.int ys.length,H,I.tok _,⟨s.toks+1,by rw[List.size_toArray,hlen]⟩,q⟩
theorem Fb:nW X (.type "list") (fun xs H Q=>∃p ys,xs=[.ref p]/\(SqL X.K H p ys\/SqT X.K H p ys)/\∀l,H l=none->Q (.ref l) (upd H l (.lst ys))):=by
 intro pins s σ H xs us Q I r h
 obtain⟨p,ys,rfl,hq,q⟩:=h
 obtain⟨u,rfl,rx⟩:=vals1 r
 cases rx
 have fin:∀(its:List Value),Vals ys its->ys.length<=sizeLine->∀(h':Heap) (c':Nat),(∀b o',s.heap.get? b=some o'->h'.get? b=some o')->
  h'.get? s.heap.objs.size=some {cls:= .type "list",dict:=none,data:= .seq its.toArray c',slots:= #[]}->EP X pins σ Q (.ref s.heap.objs.size) {s with heap:=h'}:=fun its r' hz h' c' kp e=>
  ⟨.ref s.heap.objs.size,_,I.laid (t':=s.toks) kp (Nat.le_refl _) (show eN X.prog X.w _ h' _ (.lst ys) from⟨hz,its,c',r',e⟩),rfl,q _ (I.hok.fresh (Nat.le_refl _))⟩
 rcases hq with hq | hq
 ·obtain⟨its,r',pl,hz⟩:=I.list hq
  have hlen:=r'.length
  obtain⟨o,ho,hc,n,hd⟩:=pl.isList
  exact call_list_seq p (.inl rfl) ho hc hd (fun h' c' kp e=>fin its r' hz h' c' kp e) (by simp only[List.size_toArray]<;>omega)
 ·obtain⟨its,r',pl,hz⟩:=I.tuple hq
  have hlen:=r'.length
  obtain⟨o,ho,hc,n,hd⟩:=pl
  exact call_list_seq p (.inr rfl) ho hc hd (fun h' c' kp e=>fin its r' hz h' c' kp e) (by simp only[List.size_toArray]<;>omega)
theorem Dn:nW X (.type "tuple") (fun xs H Q=>∃p ys,xs=[.ref p]/\((SqL X.K H p ys/\∀l,H l=none->Q (.ref l) (upd H l (.tup ys)))\/(SqT X.K H p ys/\Q (.ref p) H))):=by
 intro pins s σ H xs us Q I r h
 obtain⟨p,ys,rfl,h⟩:=h
 obtain⟨u,rfl,rx⟩:=vals1 r
 cases rx
 rcases h with⟨hq,q⟩ | ⟨hq,q⟩
 ·obtain⟨its,r',pl,hz⟩:=I.list hq
  have hlen:=r'.length
  refine call_tuple_list pl.isList (fun h' kp=> ?_) (by simp only[List.size_toArray]<;>omega)
  have I1:Inv X pins σ H {s with heap:=h'}:=I.kept (t':=s.toks) kp
  have I2:Inv X pins σ (upd H h'.objs.size (.tup ys)) {s with heap:=h'.push {cls:= .type "tuple",data:= .seq its.toArray}}:=
   I1.laid (t':=s.toks) (fun b o e=>Heap.get?_push_of_some _ e) (Nat.le_refl _) (show eN X.prog X.w _ _ _ (.tup ys) from⟨hz,its,r',IsTup.new _ _⟩)
  exact⟨.ref h'.objs.size,_,I2,rfl,q _ (I1.hok.fresh (Nat.le_refl _))⟩
 ·obtain⟨its,r',pl,hz⟩:=I.tuple hq
  exact call_tuple_same pl ⟨.ref p,H,I,rfl,q⟩
def tyV (K:PySem.W.Frag) (T:String) (x:V) (H:Hp):Prop:=match x with
 | .str _=>T="str"
 | .int _=>T="int"
 | .ref p=>(T="list"/\∃xs,SqL K H p xs)\/(T="tuple"/\∃o,K.lookup p=some o/\o.cls= .type "tuple"/\o.dict=none)\/
     (T="dict"/\((∃kvs,H p=some (.dK kvs))\/∃kvs,H p=some (.dT kvs)))\/(T="set"/\∃S n,H p=some (.set S n))
 | _=>False
theorem M8 {pins:List (Addr×Obj)}{σ:St}{H:Hp}{s:Shared}{T:String}{x:V}{v:Value} (I:Inv X pins σ H s) (r:RelV x v) (ty:tyV X.K T x H):
 s.TypeIs v T/\∀a,v= .ref a->∃ob,s.heap.get? a=some ob/\ob.dict=none:=by
 cases x with
 | str z=>
   obtain⟨t,rfl⟩:=r
   cases(show T="str" from ty)
   exact⟨typeIs_str s z t,fun _ e=>nomatch e⟩
 | int i=>
   obtain⟨t,rfl⟩:=r
   cases(show T="int" from ty)
   exact⟨typeIs_int s i t,fun _ e=>nomatch e⟩
 | ref p=>
   cases r
   rcases ty with⟨rfl,xs,hq⟩ | ⟨rfl,o,hk,hc,hd⟩ | ⟨rfl,hk⟩ | ⟨rfl,S,n,hk⟩
   ·obtain⟨its,_,pl,_⟩:=I.list hq
    refine⟨pl.isList.typeIs,fun a e=> ?_⟩
    cases e
    obtain⟨o,n,e,c,hd,_⟩:=pl
    exact⟨o,e,hd⟩
   ·refine⟨⟨o,I.kIn p o hk,hc⟩,fun a e=> ?_⟩
    cases e
    exact⟨o,I.kIn _ o hk,hd⟩
   ·have z:∃o,s.heap.get? p=some o/\o.ExactDict:=by
     rcases hk with⟨kvs,hk⟩ | ⟨kvs,hk⟩
     ·obtain⟨_,_,_,_,o,_,_,e,ex,_⟩:=I.hok p _ hk
      exact⟨o,e,ex⟩
     ·obtain⟨_,_,_,_,o,_,_,e,ex,_⟩:=I.hok p _ hk
      exact⟨o,e,ex⟩
    obtain⟨o,e,ex⟩:=z
    refine⟨⟨o,e,ex.1⟩,fun a e2=> ?_⟩
    cases e2
    exact⟨o,e,ex.2.1⟩
   ·obtain⟨o,_,_,_,e,ex,_⟩:=I.hok p _ hk
    refine⟨⟨o,e,ex.1⟩,fun a e2=> ?_⟩
    cases e2
    exact⟨o,e,ex.2.1⟩
 | _=>exact False.elim ty
def aan (K:PySem.W.Frag) (T:String) (r:V->List V->Hp->VK->Prop) (to:TE):TE:=fun σ H Q=>to σ H fun x H1=>tyV K T x H1/\r x [] H1 Q
def tBM (K:PySem.W.Frag) (T:String) (r:V->List V->Hp->VK->Prop) (to:TE) (t:TA):TE:=fun σ H Q=>to σ H fun x H1=>tyV K T x H1/\t σ H1 fun xs H2=>r x xs H2 Q
variable {o e:Expr}{es:List Expr}{to:TE}{t:TA}{name:Str}{apos cpos:Pos}{T id:String}{r:V->List V->Hp->VK->Prop}
theorem WK (pa:PlainAttrs T) (slot:Slot T name id) (hty:typeOf (.builtin id)=pure (.type "method_descriptor")) (hm:MtR X id r) (ho:PE X o to)
 (hbase:attributeBase o name X.env (eval o X.env)=eval o X.env:=by rfl) (hline:(apos.endLine==cpos.line)=true:=by rfl):PE X (.Call (.Attribute o name apos) [] [] cpos) (aan X.K T r to):=by
 intro pins s σ H Q I h
 refine wpAny_Call_method0_late hbase hline (thn (ho pins s σ H _ I h) fun v s1 ⟨x,H1,I1,r1,ty,q1⟩=> ?_)
 obtain⟨h1,h2⟩:=M8 I1 r1 ty
 exact⟨T,id,pa,slot,hty,h1,h2,Calls.callWith_builtin rfl (PySem.evalArgs_none (hm pins s1 σ H1 x [] v [] Q I1 r1 .nil q1))⟩
theorem aao (pa:PlainAttrs T) (slot:Slot T name id) (hty:typeOf (.builtin id)=pure (.type "method_descriptor")) (hm:MtR X id r) (ho:PE X o to) (ha:PA X (e::es) t)
 (hbase:attributeBase o name X.env (eval o X.env)=eval o X.env:=by rfl)
 (hfew:((backTo cpos (starEach (e::es) X.env)).all (fun x=> !x.1)&&(backToKw cpos (keywordEach [] X.env)).all (fun x=>x.1.isSome)
   &&decide ((e::es).length+([]:List Keyword).length+(if([]:List Keyword).isEmpty then 0 else 1)<30))=true:=by rfl)
 (hline:(apos.endLine==cpos.line)=true:=by rfl) (hs:starEach (e::es) X.env=(false,eval e X.env)::starEach es X.env:=by rfl) (hplain:(backTo cpos (starEach es X.env)).any (·.1)=false:=by rfl):
 PE X (.Call (.Attribute o name apos) (e::es) [] cpos) (tBM X.K T r to t):=by
 intro pins s σ H Q I h
 refine wpAny_Call_method_late hbase hfew hline rfl (thn (ho pins s σ H _ I h) fun v s1 ⟨x,H1,I1,r1,ty,q1⟩=> ?_)
 obtain⟨h1,h2⟩:=M8 I1 r1 ty
 refine⟨T,id,pa,slot,hty,h1,h2, ?_⟩
 have hA:=ha cpos pins s1 σ H1 _ I1 q1
 rw[hs] at hA ⊢
 refine Calls.callWith_builtin (by show(false||(backTo cpos (starEach es X.env)).any (·.1))=false;rw[hplain]<;>rfl) (Calls.evalArgs_plain ?_)
 exact thn hA fun us s2 ⟨vs,H2,I2,r2,q2⟩=>hm pins s2 σ H2 x vs v us Q I2 r1 r2 q2
/- xs.append(e),list.index on a module's tuple .. are MtR facts of 06m -/
end
end L2
namespace L2
open PySem PySem.Spec PyProof.Rows
def MtM (X:Cx) (id:String) (r:V->List V->Hp->VK->Prop):Prop:=
 ∀(pins:List (Addr×Obj)) (s:Shared) (σ:St) (H:Hp) (x:V) (xs:List V) (v:Value) (us:List Value) (Q:VK),Inv X pins σ H s->RelV x v->Vals xs us->r x xs H Q->
  wpAny (model X.prog X.w) X.A (call (.builtin id) (v::us)) (EP X pins σ Q) X.xe s
theorem Vals.one:∀{x:V}{us:List Value},Vals [x] us->∃u,us=[u]/\RelV x u
 | _,_, .cons r .nil=>⟨_,rfl,r⟩
theorem Vals.two:∀{x y:V}{us:List Value},Vals [x,y] us->∃u v,us=[u,v]/\RelV x u/\RelV y v
 | _,_,_, .cons r (.cons q .nil)=>⟨_,_,rfl,r,q⟩
theorem Vals.zero:∀{us:List Value},Vals [] us->us=[]
 | _, .nil=>rfl
theorem Vals.dropLast {xs:List V}{us:List Value} (h:Vals xs us):Vals xs.dropLast us.dropLast:=by
 induction h with
 | nil=>exact .nil
 | cons r t ih=>
   cases t with
   | nil=>exact .nil
   | cons q t'=>exact .cons r ih
theorem Ja {α:Type} (l:List α):l.eraseIdx (l.length - 1)=l.dropLast:=by
 induction l with
 | nil=>rfl
 | cons a r ih=>
   cases r with
   | nil=>rfl
   | cons b r=>
     have e:(a::b::r).length - 1=((b::r).length - 1)+1:=by
      have h1:(a::b::r).length=r.length+2:=rfl
      have h2:(b::r).length=r.length+1:=rfl
      omega
     rw[e,List.eraseIdx_cons_succ,ih]
     all_goals rfl
section
variable {X:Cx}{pins:List (Addr×Obj)}{σ:St}{H:Hp}{s:Shared}{l b:Addr}{xs ys zs:List V}
theorem Inv.lset {its its':List Value}{n:Nat}{f:Array Value->Array Value}{t':Nat} (I:Inv X pins σ H s) (hH:H l=some (.lst xs))
 (e:s.heap.get? l=some {cls:= .type "list",data:= .seq its.toArray n}) (hf:f its.toArray=its'.toArray) (hv:Vals ys its') (hz:ys.length<=sizeLine):
 Inv X pins σ (upd H l (.lst ys)) {s with heap:=s.heap.update l (Obj.mapSeq f),toks:=t'}:=by
 have q:=PySem.IsL.update e f
 rw[hf] at q
 refine I.write (x:=l) (e:=l) (by rw[hH];exact trivial) (.inl rfl) (fun b' u hb hu=>(Heap.get?_update_other s.heap (Obj.mapSeq f) (Ne.symm hb)).trans hu) ⟨_,q⟩ ?_
 exact⟨hz,its',_,hv,q⟩
theorem Inv.lnew {its:List Value}{t':Nat} (I:Inv X pins σ H s) (hv:Vals ys its) (hz:ys.length<=sizeLine):
 Inv X pins σ (upd H s.heap.objs.size (.lst ys)) {s with heap:=s.heap.push {cls:= .type "list",data:= .seq its.toArray},toks:=t'}:=
 I.laid (fun _ _ q=>Heap.get?_push_of_some _ q) (Nat.le_refl _) ⟨hz,its,0,hv,Heap.get?_push_size _ rfl⟩
theorem Inv.fresh (I:Inv X pins σ H s):H s.heap.objs.size=none:=I.hok.fresh (Nat.le_refl _)
theorem Inv.Lf (I:Inv X pins σ H s) (hH:H l=some (.lst xs)):xs.length<=sizeLine/\∃(its:List Value) (n:Nat),Vals xs its/\xs.length=its.length/\s.heap.get? l=some {cls:= .type "list",data:= .seq its.toArray n}:=by
 obtain⟨z,its,n,r,e⟩:=I.hok l _ hH
 exact⟨z,its,n,r,r.length,e⟩
theorem M9 {n:Nat} (h:n<=sizeLine):Builtin.List.listTooLong n=false:=by
 unfold Builtin.List.listTooLong
 exact decide_eq_false (by omega)
end
section
variable {X:Cx}
def J7:V->List V->Hp->VK->Prop:=fun x vs H Q=>∃l xs y,x= .ref l/\vs=[y]/\H l=some (.lst xs)/\xs.length<sizeLine/\Q .non (upd H l (.lst (xs++[y])))
theorem DY:MtM X "list.append" J7:=by
 intro pins s σ H x vs v us Q I rx rv h
 obtain⟨l,xs,y,rfl,rfl,hH,hz,q⟩:=h
 cases rx
 obtain⟨u,rfl,ru⟩:=rv.one
 obtain⟨z,its,n,r,hl,e⟩:=I.Lf hH
 refine call_meets F.slot_list_append ⟨_,e,rfl⟩ F.entry_list_append (F.args_list_append_2 _ _) (PySem.list_append l its.toArray n u (by rw[List.size_toArray];omega)) ⟨e, ?_⟩
 refine⟨.non,_,I.lset (its':=its++[u]) hH e (by simp) (r.append (.cons ru .nil)) ?_,rfl,q⟩
 rw[List.length_append,List.length_singleton]
 omega
def J8:V->List V->Hp->VK->Prop:=fun x vs H Q=>∃l b xs zs,x= .ref l/\vs=[.ref b]/\H l=some (.lst xs)/\H b=some (.lst zs)/\xs.length+zs.length<=sizeLine/\Q .non (upd H l (.lst (xs++zs)))
theorem Lg:MtM X "list.extend" J8:=by
 intro pins s σ H x vs v us Q I rx rv h
 obtain⟨l,b,xs,zs,rfl,rfl,hH,hB,hz,q⟩:=h
 cases rx
 obtain⟨u,rfl,ru⟩:=rv.one
 cases ru
 obtain⟨z,its,n,r,hl,e⟩:=I.Lf hH
 obtain⟨z2,its2,n2,r2,hl2,e2⟩:=I.Lf hB
 have hsz:its.toArray.size+its2.toArray.size<=sizeLine:=by rw[List.size_toArray,List.size_toArray];omega
 have hlong:¬(!its.toArray.isEmpty&&Builtin.List.listTooLong (its.toArray.size+its2.toArray.size))=true:=by
  rw[M9 hsz,Bool.and_false]
  exact Bool.false_ne_true
 refine call_meets F.slot_list_extend ⟨_,e,rfl⟩ F.entry_list_extend (F.args_list_extend_2 _ _)
  (AutoSeq1.list_extend_list_list_0 l its.toArray n b its2.toArray n2 hlong (by rw[List.size_toArray];omega) (by omega)) ⟨e,e2, ?_⟩
 refine⟨.non,_,I.lset (its':=its++its2) hH e (by simp) (r.append r2) ?_,rfl,q⟩
 rw[List.length_append]
 omega
def aap:V->List V->Hp->VK->Prop:=fun x vs H Q=>∃l xs y,x= .ref l/\vs=[]/\H l=some (.lst xs)/\xs[xs.length - 1]? =some y/\Q y (upd H l (.lst xs.dropLast))
theorem WL:MtM X "list.pop" aap:=by
 intro pins s σ H x vs v us Q I rx rv h
 obtain⟨l,xs,y,rfl,rfl,hH,hy,q⟩:=h
 cases rx
 have hus:=rv.zero
 subst hus
 obtain⟨z,its,n,r,hl,e⟩:=I.Lf hH
 obtain⟨u,hu,ru⟩:=r.get hy
 have hy':its.toArray[its.toArray.size - 1]? =some u:=by
  show its.toArray[its.length - 1]? =some u
  rw[<-Array.getElem?_toList,<-hl]
  exact hu
 refine call_meets F.slot_list_pop ⟨_,e,rfl⟩ F.entry_list_pop (F.args_list_pop_1 _) (MeetsSeq.list_pop_last l its.toArray n u hy' (by rw[List.size_toArray];omega)) ⟨e, ?_⟩
 refine⟨y,_,I.lset (its':=its.dropLast) hH e ?_ r.dropLast ?_,ru,q⟩
 ·show its.toArray.eraseIdxIfInBounds (its.toArray.size - 1)=its.dropLast.toArray
  rw[List.size_toArray,List.eraseIdxIfInBounds_toArray,Ja]
 ·rw[List.length_dropLast]
  omega
def aaq:R2:=fun x y H Q=>∃l b xs zs,x= .ref l/\y= .ref b/\H l=some (.lst xs)/\H b=some (.lst zs)/\xs.length+zs.length<=sizeLine/\∀p,H p=none->Q (.ref p) (upd H p (.lst (xs++zs)))
theorem WM:OpR X (binaryOp .Add) aaq:=by
 intro pins s σ H x y v u Q I rx ry h
 obtain⟨l,b,xs,zs,rfl,rfl,hH,hB,hz,q⟩:=h
 cases rx
 cases ry
 obtain⟨z,its,n,r,hl,e⟩:=I.Lf hH
 obtain⟨z2,its2,n2,r2,hl2,e2⟩:=I.Lf hB
 refine PySem.P.add_list e e2 ?_ (by rw[List.size_toArray,List.size_toArray];omega)
 have ea:its.toArray++its2.toArray=(its++its2).toArray:=by simp
 rw[ea]
 exact⟨.ref _,_,I.lnew (t':=s.toks) (r.append r2) (by rw[List.length_append];omega),rfl,q _ I.fresh⟩
theorem len_rep {α:Type} (xs:List α) (k:Nat):(List.replicate k xs).flatten.length=k * xs.length:=by
 induction k with
 | zero=>simp
 | succ k ih=>rw[List.replicate_succ,List.flatten_cons,List.length_append,ih,Nat.succ_mul,Nat.add_comm]
end
section
variable {prog:Program}{w:World}{A:Around}{E:Value->Shared->Prop}{s:Shared}
end
section
variable {X:Cx}
end
end L2
namespace L2
open PySem PySem.Spec PyProof.Rows
section
variable {κ:Type} [DecidableEq κ]
def cG (kvs:List (κ×V)) (k:κ):Option V:=(kvs.find? fun kv=>decide (kv.1=k)).map (·.2)
def putK (kvs:List (κ×V)) (k:κ) (v:V):List (κ×V):=
 if(kvs.any fun kv=>decide (kv.1=k))=true then kvs.map (fun kv=>if kv.1=k then(kv.1,v) else kv) else kvs++[(k,v)]
theorem nY {k:κ}:cG ([]:List (κ×V)) k=none:=rfl
theorem jf {p:κ×V}{r:List (κ×V)}{k:κ} (e:p.1=k):cG (p::r) k=some p.2:=by simp[cG,List.find?_cons,e]
theorem jg {p:κ×V}{r:List (κ×V)}{k:κ} (e:¬p.1=k):cG (p::r) k=cG r k:=by simp[cG,List.find?_cons,e]
theorem qg (k:κ):∀kvs:List (κ×V),(kvs.any fun kv=>decide (kv.1=k))=(cG kvs k).isSome
 |[]=>rfl
 | p::r=>by
   rw[List.any_cons]
   by_cases e:p.1=k
   ·simp only[jf e,decide_eq_true e,Bool.true_or,Option.isSome_some]
   ·rw[jg e,decide_eq_false e,Bool.false_or];exact qg k r
theorem GD (k j:κ) (y:V):∀kvs:List (κ×V),cG (kvs.map fun kv=>if kv.1=k then(kv.1,y) else kv) j=(cG kvs j).map fun x=>if j=k then y else x
 |[]=>rfl
 | p::r=>by
   have ih:=GD k j y r
   rw[List.map_cons]
   by_cases h:p.1=k
   ·rw[if_pos h]
    by_cases e:p.1=j
    ·rw[jf (p:=(p.1,y)) e,jf e,Option.map_some,if_pos (e.symm.trans h)]
    ·rw[jg (p:=(p.1,y)) e,jg e,ih]
   ·rw[if_neg h]
    by_cases e:p.1=j
    ·rw[jf (p:=p) e,jf e,Option.map_some,if_neg (fun z=>h (e.trans z))]
    ·rw[jg (p:=p) e,jg e,ih]
theorem Ea (k j:κ) (y:V):∀kvs:List (κ×V),cG kvs k=none->cG (kvs++[(k,y)]) j=if j=k then some y else cG kvs j
 |[],_=>by
  by_cases e:k=j
  ·rw[if_pos e.symm];exact jf (p:=(k,y)) e
  ·rw[if_neg (fun z=>e z.symm)];exact jg (p:=(k,y)) e
 | p::r,hn=>by
   rw[List.cons_append]
   have hk:¬p.1=k:=fun z=>by rw[jf z] at hn;cases hn
   rw[jg hk] at hn
   have ih:=Ea k j y r hn
   by_cases e:p.1=j
   ·rw[jf e,jf e,if_neg (fun z=>hk (e.trans z))]
   ·rw[jg e,jg e,ih]
theorem lq (kvs:List (κ×V)) (k j:κ) (y:V):cG (putK kvs k y) j=if j=k then some y else cG kvs j:=by
 unfold putK
 by_cases a:(kvs.any fun kv=>decide (kv.1=k))=true
 ·rw[if_pos a,GD]
  rw[qg] at a
  by_cases e:j=k
  ·obtain⟨x,hx⟩:=Option.isSome_iff_exists.mp a
   rw[if_pos e,e,hx,Option.map_some,if_pos rfl]
  ·rw[if_neg e]
   cases cG kvs j with
   | none=>rfl
   | some x=>rw[Option.map_some,if_neg e]
 ·rw[if_neg a]
  refine Ea k j y kvs ?_
  rw[qg] at a
  cases q:cG kvs k with
  | none=>rfl
  | some x=>rw[q] at a;exact(a rfl).elim
theorem uq (kvs:List (κ×V)) (k:κ) (v:V):(putK kvs k v).length<=kvs.length+1:=by
 unfold putK
 split
 ·rw[List.length_map];omega
 ·rw[List.length_append,List.length_cons,List.length_nil];omega
theorem vP.ql {o:Option V}{u:Option Value} (r:vP o u):o.isSome=u.isSome:=by
 cases o with
 | none=>cases u with
   | none=>rfl
   | some _=>exact(show False from r).elim
 | some _=>cases u with
   | none=>exact(show False from r).elim
   | some _=>rfl
theorem KV.val {kvs:List (κ×V)}{vs:List (κ×Value)} (r:KV kvs vs) (k:κ):vP (cG kvs k) (valueAt vs k):=by
 unfold KV at r
 induction r with
 | nil=>exact True.intro
 | @cons p q ps qs h t ih=>
   obtain⟨h1,h2⟩:=h
   by_cases e:p.1=k
   ·have e':q.1=k:=h1.symm.trans e
    have b:valueAt (q::qs) k=some q.2:=by simp[valueAt,List.find?_cons,e']
    rw[jf e,b];exact h2
   ·have e':¬q.1=k:=fun z=>e (h1.trans z)
    have b:valueAt (q::qs) k=valueAt qs k:=by simp[valueAt,List.find?_cons,e']
    rw[jg e,b];exact ih
theorem KV.any {kvs:List (κ×V)}{vs:List (κ×Value)} (r:KV kvs vs) (k:κ):(kvs.any fun kv=>decide (kv.1=k))=vs.any fun kv=>decide (kv.1=k):=by
 unfold KV at r
 induction r with
 | nil=>rfl
 | cons h t ih=>rw[List.any_cons,List.any_cons,ih,h.1]
theorem KV.repl {kvs:List (κ×V)}{vs:List (κ×Value)} (r:KV kvs vs) (k:κ) {y:V}{u:Value} (ry:RelV y u):
 KV (kvs.map fun kv=>if kv.1=k then(kv.1,y) else kv) (vs.map fun kv=>if kv.1=k then(kv.1,u) else kv):=by
 unfold KV at r ⊢
 induction r with
 | nil=>exact .nil
 | @cons p q ps qs h t ih=>
   rw[List.map_cons,List.map_cons]
   refine .cons ?_ ih
   obtain⟨h1,h2⟩:=h
   by_cases e:p.1=k
   ·rw[if_pos e,if_pos (h1.symm.trans e)];exact⟨h1,ry⟩
   ·rw[if_neg e,if_neg (fun z=>e (h1.trans z))];exact⟨h1,h2⟩
theorem KV.put {kvs:List (κ×V)}{vs:List (κ×Value)} (r:KV kvs vs) (k:κ) {y:V}{u:Value} (ry:RelV y u):KV (putK kvs k y) (stored vs k u):=by
 unfold putK stored
 rw[r.any k]
 by_cases e:(vs.any fun kv=>decide (kv.1=k))=true
 ·rw[if_pos e,if_pos e];exact r.repl k ry
 ·rw[if_neg e,if_neg e];exact Paired.snoc r ⟨rfl,ry⟩
theorem KV.length {kvs:List (κ×V)}{vs:List (κ×Value)} (r:KV kvs vs):kvs.length=vs.length:=Paired.length r
end
theorem Eb {P:Program}{w:World}{k:Key}{u:Value} (r:RelV (kV k) u):(cW P w).is k u=true:=by
 cases k with
 | inl i=>obtain⟨t,e⟩:=(show∃t,u=Value.int i t from r);subst e;exact Gu P w i t
 | inr x=>obtain⟨t,e⟩:=(show∃t,u=Value.str x t from r);subst e;exact Gv P w x t
theorem Ec {P:Program}{w:World}:∀{ks:List Key}{us:List Value},Vals (ks.map kV) us->ItemsAre (cW P w) ks us
 |[],_,r=>by rw[List.map_nil] at r;cases r;exact .nil
 | k::ks,_,r=>by
   rw[List.map_cons] at r
   cases r with
   | cons h t=>exact .cons (Eb h) (Ec t)
abbrev KT (H:Hp):List (List Key×V)->List (List Key×Addr×Value)->Prop:=Paired fun p q=>p.1=q.1/\H q.2.1=some (.tup (p.1.map kV))/\RelV p.2 q.2.2
theorem KT.val {H:Hp}{kvs:List (List Key×V)}{xs:List (List Key×Addr×Value)} (r:KT H kvs xs) (k:List Key):vP (cG kvs k) ((atKey xs k).map (·.2)):=by
 induction r with
 | nil=>exact True.intro
 | @cons p q ps qs h t ih=>
   obtain⟨h1,_,h2⟩:=h
   by_cases e:p.1=k
   ·have e':q.1=k:=h1.symm.trans e
    have b:atKey (q::qs) k=some q.2:=by simp[atKey,List.find?_cons,e']
    rw[jf e,b];exact h2
   ·have e':¬q.1=k:=fun z=>e (h1.trans z)
    have b:atKey (q::qs) k=atKey qs k:=by simp[atKey,List.find?_cons,e']
    rw[jg e,b];exact ih
theorem KT.repl {H:Hp}{kvs:List (List Key×V)}{xs:List (List Key×Addr×Value)} (r:KT H kvs xs) (k:List Key) {y:V}{u:Value} (ry:RelV y u):
 KT H (kvs.map fun kv=>if kv.1=k then(kv.1,y) else kv) (xs.map (putAt k u)):=by
 induction r with
 | nil=>exact .nil
 | @cons p q ps qs h t ih=>
   rw[List.map_cons,List.map_cons]
   refine .cons ?_ ih
   obtain⟨h1,h2,h3⟩:=h
   unfold putAt
   by_cases e:p.1=k
   ·rw[if_pos e,if_pos (h1.symm.trans e)];exact⟨h1,h2,ry⟩
   ·rw[if_neg e,if_neg (fun z=>e (h1.trans z))];exact⟨h1,h2,h3⟩
theorem KT.put {H:Hp}{kvs:List (List Key×V)}{xs:List (List Key×Addr×Value)} (r:KT H kvs xs) (k:List Key) {b:Addr}{y:V}{u:Value} (hb:H b=some (.tup (k.map kV))) (ry:RelV y u):
 KT H (putK kvs k y) (storedH xs k b u):=by
 have e:(kvs.any fun kv=>decide (kv.1=k))=(atKey xs k).isSome:=by
  rw[qg,(r.val k).ql,Option.isSome_map]
 unfold putK storedH
 rw[e]
 by_cases q:(atKey xs k).isSome=true
 ·rw[if_pos q,if_pos q];exact r.repl k ry
 ·rw[if_neg q,if_neg q];exact Paired.snoc r ⟨rfl,hb,ry⟩
theorem KT.keeps {H H':Hp}{kvs:List (List Key×V)}{xs:List (List Key×Addr×Value)} (r:KT H kvs xs) (ht:∀b ys,H b=some (.tup ys)->H' b=some (.tup ys)):KT H' kvs xs:=
 Paired.VH r fun _ _ z=>⟨z.1,ht _ _ z.2.1,z.2.2⟩
section
variable {P:Program}{w:World}{H:Hp}{h:Heap}{a:Addr}
theorem Ut {u:HO} (ok:HOk P w H h) (e:Rd H a u):eN P w H h a u:=e.ok ok
theorem zV {kvs:List (Key×V)} (ok:HOk P w H h) (e:Rd H a (.dK kvs)):kvs.length<=sizeLine/\(a==sysModules)=false/\∃vs,KV kvs vs/\h.DictOf (cW P w) a vs:=
 show eN P w H h a (.dK kvs) from Ut ok e
theorem GF {kvs:List (Key×V)} (ok:HOk P w H h) (e:H a=some (.dK kvs)):kvs.length<=sizeLine/\(a==sysModules)=false/\∃vs,KV kvs vs/\h.DictOf (cW P w) a vs:=zV ok (.inl e)
theorem Bg {ks:List Key} (ok:HOk P w H h) (e:H a=some (.tup (ks.map kV))):(tupleKind (cW P w)).is h ks a:=by
 obtain⟨_,its,r,o,h1,h2,n,h3⟩:=(show eN P w H h a (.tup (ks.map kV)) from ok a _ e)
 exact⟨o,its.toArray,n,h1,h2,h3,by simpa using Ec r⟩
theorem Ed {kvs:List (List Key×V)} (ok:HOk P w H h) (e:Rd H a (.dT kvs)):kvs.length<=sizeLine/\(a==sysModules)=false/\
 ∃xs,KT H kvs xs/\h.DictOfH (tupleKind (cW P w)) a xs:=by
 obtain⟨z,y,xs,r,o,es,ep,h1,h2,h3,h4,h5⟩:=(show eN P w H h a (.dT kvs) from Ut ok e)
 refine⟨z,y,xs,r,o,es,ep,h1,h2,h3,h4,fun x hx=> ?_,h5⟩
 have all:∀{l:List (List Key×V)}{m:List (List Key×Addr×Value)},KT H l m->∀x∈m,(tupleKind (cW P w)).is h x.1 x.2.1:=by
  intro l m q
  induction q with
  | nil=>intro x hx;exact nomatch hx
  | @cons p q ps qs hq t ih=>
    intro x hx
    rcases List.mem_cons.mp hx with e | hx
    ·subst e
     exact Bg ok (by rw[<-hq.1];exact hq.2.1)
    ·exact ih x hx
 exact all r x hx
theorem aar {kvs:List (List Key×V)} (ok:HOk P w H h) (e:H a=some (.dT kvs)):kvs.length<=sizeLine/\(a==sysModules)=false/\
 ∃xs,KT H kvs xs/\h.DictOfH (tupleKind (cW P w)) a xs:=Ed ok (.inl e)
end
def cI (H:Hp) (a:Addr) (y:V) (r:Option V):Prop:=
 (∃kvs k,Rd H a (.dK kvs)/\y=kV k/\r=cG kvs k)\/∃kvs k b,Rd H a (.dT kvs)/\y= .ref b/\H b=some (.tup (k.map kV))/\r=cG kvs k
def lJ (H:Hp) (a:Addr) (y v:V) (H':Hp):Prop:=
 (∃kvs k,H a=some (.dK kvs)/\y=kV k/\kvs.length<sizeLine/\H'=upd H a (.dK (putK kvs k v)))\/
 ∃kvs k b,H a=some (.dT kvs)/\y= .ref b/\H b=some (.tup (k.map kV))/\kvs.length<sizeLine/\H'=upd H a (.dT (putK kvs k v))
theorem cI.k {H:Hp}{a:Addr}{kvs:List (Key×V)}{k:Key} (e:H a=some (.dK kvs)):cI H a (kV k) (cG kvs k):= .inl ⟨kvs,k, .inl e,rfl,rfl⟩
theorem lJ.k {H:Hp}{a:Addr}{kvs:List (Key×V)}{k:Key}{v:V} (e:H a=some (.dK kvs)) (hl:kvs.length<sizeLine):lJ H a (kV k) v (upd H a (.dK (putK kvs k v))):= .inl ⟨kvs,k,e,rfl,hl,rfl⟩
section
variable {X:Cx}{pins:List (Addr×Obj)}{σ:St}{H:Hp}{s:Shared}{a:Addr}{y v:V}{u r:Value}{o:Option V}{A:Around}{E:Value->Shared->Prop}
theorem Inv.big (I:Inv X pins σ H s):sysModules<s.heap.objs.size:=by
 have h:mainGlobals<s.heap.objs.size:=(I.mod.glob.keeps I.bk).lt
 exact Nat.lt_trans (by decide) h
theorem Lh {Q:Value->Shared->Prop} (hu:A.units+1<cLine) (I:Inv X pins σ H s) (g:cI H a y (some v)) (ry:RelV y u) (h:∀w' s',Inv X pins σ H s'->RelV v w'->Q w' s'):
 wpAny (model X.prog X.w) A (getItem (.ref a) u) Q E s:=by
 rcases g with⟨kvs,k,e,ey,l⟩ | ⟨kvs,k,b,e,ey,eb,l⟩
 ·subst ey
  obtain⟨z,hd,vs,rel,dd⟩:=zV I.hok e
  obtain⟨w',hw,rw'⟩:=vP.some_of (v:=v) (o:=valueAt vs k) (by rw[l];exact rel.val k)
  exact wpAny_getItem_of (Eb ry) dd.mapOf hw (h w' _ (I.tok _) rw')
 ·subst ey
  cases(show u=Value.ref b from ry)
  obtain⟨z,hd,xs,rel,dd⟩:=Ed I.hok e
  obtain⟨w',hw,rw'⟩:=vP.some_of (v:=v) (o:=(atKey xs k).map (·.2)) (by rw[l];exact rel.val k)
  obtain⟨p,hp,hp2⟩:=Option.map_eq_some_iff.mp hw
  refine wpAny_getItem_heap (tupleKind_room_in1 hu) (Bg I.hok eb) dd hp ?_
  rw[hp2]
  exact h w' _ (I.tok _) rw'
theorem ad7 {Q:Value->Shared->Prop} (hu:A.units+1<cLine) (I:Inv X pins σ H s) (g:cI H a y o) (ry:RelV y u) (h:∀s',Inv X pins σ H s'->Q (.bool o.isSome) s'):
 wpAny (model X.prog X.w) A (compareOp .In u (.ref a)) Q E s:=by
 rcases g with⟨kvs,k,e,ey,l⟩ | ⟨kvs,k,b,e,ey,eb,l⟩
 ·subst ey
  obtain⟨z,hd,vs,rel,dd⟩:=zV I.hok e
  refine wpAny_in_of (Eb ry) hd dd.mapOf ?_
  rw[<-(rel.val k).ql,<-l]
  exact h _ (I.tok _)
 ·subst ey
  cases(show u=Value.ref b from ry)
  obtain⟨z,hd,xs,rel,dd⟩:=Ed I.hok e
  refine wpAny_in_heap (tupleKind_room_in1 hu) (Bg I.hok eb) hd dd ?_
  have q:=(rel.val k).ql
  rw[Option.isSome_map] at q
  rw[<-q,<-l]
  exact h _ (I.tok _)
theorem QH {Q:Value->Shared->Prop} (hu:A.units+1<cLine) (I:Inv X pins σ H s) (g:cI H a y o) (ry:RelV y u) (h:∀s',Inv X pins σ H s'->Q (.bool (!o.isSome)) s'):
 wpAny (model X.prog X.w) A (compareOp .NotIn u (.ref a)) Q E s:=by
 rcases g with⟨kvs,k,e,ey,l⟩ | ⟨kvs,k,b,e,ey,eb,l⟩
 ·subst ey
  obtain⟨z,hd,vs,rel,dd⟩:=zV I.hok e
  refine wpAny_notIn_of (Eb ry) hd dd.mapOf ?_
  rw[<-(rel.val k).ql,<-l]
  exact h _ (I.tok _)
 ·subst ey
  cases(show u=Value.ref b from ry)
  obtain⟨z,hd,xs,rel,dd⟩:=Ed I.hok e
  refine wpAny_notIn_heap (tupleKind_room_in1 hu) (Bg I.hok eb) hd dd ?_
  have q:=(rel.val k).ql
  rw[Option.isSome_map] at q
  rw[<-q,<-l]
  exact h _ (I.tok _)
theorem Av {h':Heap}{t':Nat}{ob:HO} (I:Inv X pins σ H s) (mu:Mut (H a)) (hs:Heap.SameBut a s.heap h') (he:∃q,h'.get? a=some q) (new:eN X.prog X.w (upd H a ob) h' a ob):
 Inv X pins σ (upd H a ob) {s with heap:=h',toks:=t'}:=
 I.write (x:=a) (e:=a) mu (.inl rfl) (fun b q hb z=>(hs.2 b hb).trans z) he new
theorem Jb {P:Program}{w:World}{H':Hp}{h':Heap}{kvs:List (Key×V)}{vs:List (Key×Value)} (z:kvs.length<=sizeLine) (hd:(a==sysModules)=false) (rel:KV kvs vs) (dd:h'.DictOf (cW P w) a vs):
 eN P w H' h' a (.dK kvs):=⟨z,hd,vs,rel,dd⟩
theorem Li {H':Hp}{Q:Unit->Shared->Prop} (hu:A.units+1<cLine) (I:Inv X pins σ H s) (g:lJ H a y v H') (ry:RelV y u) (rv:RelV v r) (h:∀s',Inv X pins σ H' s'->Q () s'):
 wpAny (model X.prog X.w) A (setItem (.ref a) u r) Q E s:=by
 rcases g with⟨kvs,k,e,ey,l,eH⟩ | ⟨kvs,k,b,e,ey,eb,l,eH⟩
 ·subst ey eH
  obtain⟨z,hd,vs,rel,dd⟩:=GF I.hok e
  have hz:vs.length<=sizeLine:=by rw[<-rel.length];exact z
  have hl:(putK kvs k v).length<=sizeLine:=by have:=uq kvs k v;omega
  refine wpAny_setItem_pairs (hsz:=hz) (Eb ry) dd fun h' dd' hs=>h _ ?_
  have he:∃q,h'.get? a=some q:=let ⟨q,_,_,hq,_⟩:=dd';⟨q,hq⟩
  exact Av I (by rw[e];exact True.intro) hs he (Jb hl hd (rel.put k rv) dd')
 ·subst ey eH
  cases(show u=Value.ref b from ry)
  obtain⟨z,hd,xs,rel,dd⟩:=aar I.hok e
  have hz:xs.length<=sizeLine:=by rw[<-Paired.length rel];exact z
  have hl:(putK kvs k v).length<=sizeLine:=by have:=uq kvs k v;omega
  refine wpAny_setItem_heap (hsz:=hz) (tupleKind_room_in1 hu) (Bg I.hok eb) dd fun h' dd' hs=>h _ ?_
  obtain⟨q,es,ep,hq,h2,h3,h4,_,h5⟩:=dd'
  refine Av I (by rw[e];exact True.intro) hs ⟨q,hq⟩ ⟨hl,hd,_,(rel.put k eb rv).keeps fun c ys ec=> ?_,q,es,ep,hq,h2,h3,h4,h5⟩
  rw[ao (ZV ec e (fun z=>nomatch z))]
  exact ec
end
section
variable {X:Cx}{pins:List (Addr×Obj)}{σ:St}{H:Hp}{s:Shared}{a:Addr}{kvs:List (Key×V)}{k:Key}{u:Value}{A:Around}{E:Value->Shared->Prop}
end
def WN (i:Expr):Prop:=∀ov iv,subscripted i false ov iv=operate [ov,iv] (getItem ov iv)
theorem QJ {prog:Program}{w:World}{A:Around}{E:Value->Shared->Prop}{s:Shared}{env:Env}{value slice:Expr}{pos:Pos}{T id:String}{Q:Value->Shared->Prop}
 (hl:typeLookup (.type T) "__getitem__"=pure (some (.builtin id))) (hs:WN slice)
 (h:wpAny (model prog w) A (eval value env) (fun o s₁=>wpAny (model prog w) A (eval slice env) (fun i s₂=>s₂.TypeIs o T/\wpAny (model prog w) A (getItem o i) Q E s₂) E s₁) E s):
 wpAny (model prog w) A (eval (.Subscript value slice pos) env) Q E s:=by
 refine Subscript_ (wpAny_mono h (fun o s₁ h₁=>wpAny_mono h₁ (fun i s₂ h₂=> ?_) fun _ _ x=>x) fun _ _ x=>x)
 obtain⟨hT,h₂⟩:=h₂
 unfold subscriptTail
 refine wpAny_bind ?_
 rw[getitemInPython_of_ne hT.not_modules]
 refine wpAny_bind (wpAny_specialOf hT hl ?_)
 have fin:wpAny (model prog w) A (subscripted slice false o i) (fun r s₃=>wpAny (model prog w) A (letTemporaryGo value o r>>=fun _=>pure r) Q E s₃) E s₂:=by
  rw[hs o i]
  exact wpAny_operating (wpAny_mono h₂ (fun r s₃ h₃=>wpAny_bind (wpAny_letTemporaryGo (wpAny_pure h₃))) fun _ _ x=>x)
 first
  | exact wpAny_pure (wpAny_bind fin)
  | exact wpAny_bind (wpAny_pure (wpAny_bind fin))
  | exact wpAny_bind fin
theorem GJ {X:Cx}{pins:List (Addr×Obj)}{σ:St}{H:Hp}{s:Shared}{a:Addr}{y:V}{o:Option V} (I:Inv X pins σ H s) (g:cI H a y o):s.TypeIs (.ref a) "dict":=by
 rcases g with⟨kvs,k,e,_,_⟩ | ⟨kvs,k,b,e,_,_,_⟩
 ·obtain⟨_,_,vs,_,dd⟩:=zV I.hok e
  exact dd.typeIs
 ·obtain⟨_,_,xs,_,dd⟩:=Ed I.hok e
  exact dd.typeIs
def Uu (td ty:TE):TE:=fun σ H Q=>td σ H fun x H1=>ty σ H1 fun y H2=>∃a v,x= .ref a/\cI H2 a y (some v)/\Q v H2
def aas (ty td:TE):TE:=fun σ H Q=>ty σ H fun y H1=>td σ H1 fun x H2=>∃a o,x= .ref a/\cI H2 a y o/\Q (.bl o.isSome) H2
def J9 (ty td:TE):TE:=fun σ H Q=>ty σ H fun y H1=>td σ H1 fun x H2=>∃a o,x= .ref a/\cI H2 a y o/\Q (.bl (!o.isSome)) H2
def Uv (td ty tv:TE):TS:=fun D σ H=>tv σ H fun v H1=>td σ H1 fun x H2=>ty σ H2 fun y H3=>∃a H4,x= .ref a/\lJ H3 a y v H4/\D.nx σ H4
section
variable {X:Cx}{o i e value:Expr}{pos pos' tpos:Pos}{td ty tv:TE}
theorem QK (hu:X.A.units+1<cLine) (ho:PE X o td) (hi:PE X i ty) (hs:WN i):PE X (.Subscript o i pos) (Uu td ty):=by
 intro pins s σ H Q I h
 refine QJ PySem.F.slot_dict_getitem.lookup hs (thn (ho pins s σ H _ I h) fun u s1 ⟨x,H1,I1,rx,q1⟩=>thn (hi pins s1 σ H1 _ I1 q1) fun iv s2 ⟨y,H2,I2,ry,a,v,ex,g,q2⟩=> ?_)
 subst ex
 obtain rfl:u=Value.ref a:=rx
 exact⟨GJ I2 g,Lh hu I2 g ry fun w' s3 I3 rw'=>⟨v,H2,I3,rw',q2⟩⟩
theorem WQ (hu:X.A.units+1<cLine) (hi:PE X i ty) (ho:PE X o td):PC X .In i o (aas ty td):=by
 intro pins s σ H Q I h
 refine thn (hi pins s σ H _ I h) fun iv s1 ⟨y,H1,I1,ry,q1⟩=>thn (ho pins s1 σ H1 _ I1 q1) fun u s2 ⟨x,H2,I2,rx,a,ov,ex,g,q2⟩=> ?_
 subst ex
 obtain rfl:u=Value.ref a:=rx
 exact ad7 hu I2 g ry fun s3 I3=>⟨.bl ov.isSome,H2,I3,rfl,q2⟩
theorem Lj (hu:X.A.units+1<cLine) (hi:PE X i ty) (ho:PE X o td):PC X .NotIn i o (J9 ty td):=by
 intro pins s σ H Q I h
 refine thn (hi pins s σ H _ I h) fun iv s1 ⟨y,H1,I1,ry,q1⟩=>thn (ho pins s1 σ H1 _ I1 q1) fun u s2 ⟨x,H2,I2,rx,a,ov,ex,g,q2⟩=> ?_
 subst ex
 obtain rfl:u=Value.ref a:=rx
 exact QH hu I2 g ry fun s3 I3=>⟨.bl (!ov.isSome),H2,I3,rfl,q2⟩
theorem QL (hu:X.A.units+1<cLine) (ho:PE X o td) (hi:PE X i ty) (hv:PE X value tv) (hs:swapsWith value (some (.Subscript o i pos')) pos.line X.env=pure false):
 PS X (.Assign [.Subscript o i pos'] value pos) (Uv td ty tv):=by
 intro pins s σ H D I h
 refine wpAny_Assign_Subscript (thn (hv pins s σ H _ I h) fun r s1 ⟨v,H1,I1,rv,q1⟩=>thn (ho pins s1 σ H1 _ I1 q1) fun u s2 ⟨x,H2,I2,rx,q2⟩=>thn (hi pins s2 σ H2 _ I2 q2) fun iv s3 ⟨y,H3,I3,ry,a,H4,ex,g,q3⟩=> ?_) hs
 subst ex
 obtain rfl:u=Value.ref a:=rx
 exact Li hu I3 g ry rv fun s4 I4=>⟨σ,H4,I4,q3⟩
end
theorem GK {P:Program}{w:World}{H:Hp} (h:Heap) (hb:sysModules<h.objs.size):eN P w H (h.push {cls:= .type "dict",data:= .dict #[]}) h.objs.size (.dK []):=
 ⟨Nat.zero_le _,beq_eq_false_iff_ne.mpr (Ne.symm (Nat.ne_of_lt hb)),[], .nil,Heap.DictOf.new h⟩
def Nb:TE:=fun _ H Q=>∀p,H p=none->Q (.ref p) (upd H p (.dK []))
section
variable {X:Cx}{pos:Pos}
theorem Nf:PE X (.Dict [] [] pos) Nb:=fun pins s σ H Q I h=>
 wpAny_Dict_empty ⟨.ref s.heap.objs.size,_,I.laid (a:=s.heap.objs.size) (o:= .dK []) (t':=s.toks) (fun _ _ q=>Heap.get?_push_of_some _ q) (Nat.le_refl _) (GK s.heap I.big),rfl,h _ (I.hok.fresh (Nat.le_refl _))⟩
end
def Jc:List (TE×TE)->St->Hp->(List (V×V)->Hp->Prop)->Prop
 |[],_,H,Q=>Q [] H
 | (tk,tv)::r,σ,H,Q=>tk σ H fun x H1=>tv σ H1 fun y H2=>Jc r σ H2 fun ps H3=>Q ((x,y)::ps) H3
abbrev VV:List (V×V)->List (Value×Value)->Prop:=Paired fun p q=>RelV p.1 q.1/\RelV p.2 q.2
def PPs (X:Cx) (pos:Pos) (keys:List (Option Expr)) (values:List Expr) (trs:List (TE×TE)):Prop:=
 ∀(pins:List (Addr×Obj)) (s:Shared) (σ:St) (H:Hp) (Q:List (V×V)->Hp->Prop),Inv X pins σ H s->Jc trs σ H Q->
  wpAny (model X.prog X.w) X.A (evalPairs (pairTrees keys values X.env pos)) (fun vs s'=>∃ps H',Inv X pins σ H' s'/\VV ps vs/\Q ps H') X.xe s
theorem QM {X:Cx}{pos:Pos}:PPs X pos [] [] []:=fun pins s σ H Q I h=>pairTrees_nil_walk ⟨[],H,I, .nil,h⟩
theorem Ng {X:Cx}{pos:Pos}{k v:Expr}{ks:List (Option Expr)}{vs:List Expr}{tk tv:TE}{trs:List (TE×TE)} (hk:PE X k tk) (hv:PE X v tv) (hr:PPs X pos ks vs trs):
 PPs X pos (some k::ks) (v::vs) ((tk,tv)::trs):=fun pins s σ H Q I h=>
 pairTrees_cons_walk (thn (hk pins s σ H _ I h) fun u s1 ⟨x,H1,I1,rx,q1⟩=>thn (hv pins s1 σ H1 _ I1 q1) fun w2 s2 ⟨y,H2,I2,ry,q2⟩=>
  thn (hr pins s2 σ H2 _ I2 q2) fun ws s3 ⟨ps,H3,I3,rel,q3⟩=>⟨(x,y)::ps,H3,I3, .cons ⟨rx,ry⟩ rel,q3⟩)
def gJ (kvs more:List (Key×V)):List (Key×V):=more.foldl (fun acc kv=>putK acc kv.1 kv.2) kvs
theorem KV.merge:∀{more:List (Key×V)}{rs:List (Key×Value)}{kvs:List (Key×V)}{vs:List (Key×Value)},KV more rs->KV kvs vs->KV (gJ kvs more) (merged vs rs):=by
 intro more rs kvs vs r
 unfold KV at r
 induction r generalizing kvs vs with
 | nil=>intro q;exact q
 | @cons p q ps qs h t ih=>
   intro r0
   have e:KV (putK kvs p.1 p.2) (stored vs q.1 q.2):=by
    have:=r0.put p.1 h.2
    rw[<-h.1];exact this
   exact ih e
theorem pK:∀(more kvs:List (Key×V)),(gJ kvs more).length<=kvs.length+more.length
 |[],kvs=>by show kvs.length<=kvs.length+0;omega
 | p::r,kvs=>by
   have h1:=pK r (putK kvs p.1 p.2)
   have h2:=uq kvs p.1 p.2
   show(gJ (putK kvs p.1 p.2) r).length<=_
   rw[List.length_cons];omega
theorem Bh {P:Program}{w:World}:∀{kvs:List (Key×V)}{ws:List (Value×Value)},VV (kvs.map fun kv=>(kV kv.1,kv.2)) ws->∃rs,Carries (cW P w) ws rs/\KV kvs rs
 |[],_,r=>by rw[List.map_nil] at r;cases r;exact⟨[],True.intro, .nil⟩
 | p::kvs,_,r=>by
   rw[List.map_cons] at r
   cases r with
   | @cons a b as bs h t=>
     obtain⟨rs,c,q⟩:=Bh (P:=P) (w:=w) t
     obtain⟨b1,b2⟩:=b
     exact⟨(p.1,b2)::rs,⟨Eb h.1,rfl,c⟩, .cons ⟨rfl,h.2⟩ q⟩
def Uw (trs:List (TE×TE)):TE:=fun σ H Q=>∀p,H p=none->Jc trs σ (upd H p (.dK [])) fun ps H2=>H2 p=some (.dK [])/\∃kvs:List (Key×V),ps=kvs.map (fun kv=>(kV kv.1,kv.2))/\kvs.length<=15/\Q (.ref p) (upd H2 p (.dK (gJ [] kvs)))
theorem QV {X:Cx}{pos:Pos}{keys:List (Option Expr)}{values:List Expr}{trs:List (TE×TE)} (h:PPs X pos keys values trs) (hall:keys.all (·.isSome)=true) (hl:keys.length=values.length) (h0:keys≠[])
 (h15:keys.length<=15):PE X (.Dict keys values pos) (Uw trs):=by
 intro pins s σ H Q I q
 have hn:=I.hok.fresh (Nat.le_refl s.heap.objs.size)
 have I1:=I.laid (a:=s.heap.objs.size) (o:= .dK []) (h':=s.heap.push {cls:= .type "dict",data:= .dict #[]}) (t':=s.toks) (fun _ _ q=>Heap.get?_push_of_some _ q) (Nat.le_refl _) (GK s.heap I.big)
 refine wpAny_Dict_walk (knd:=cW X.prog X.w) hall hl h0 h15 (thn (h pins _ σ _ _ I1 (q _ hn)) fun ws s2 ⟨ps,H2,I2,rel,e,kvs,ep,lk,q2⟩=> ?_)
 subst ep
 obtain⟨rs,c,rk⟩:=Bh (P:=X.prog) (w:=X.w) rel
 obtain⟨z,hd,vs0,r0,dd⟩:=GF I2.hok e
 cases r0
 refine⟨rs,c,dd,fun h' dd' hs=>⟨.ref s.heap.objs.size,_, ?_,rfl,q2⟩⟩
 have hz:(gJ [] kvs).length<=sizeLine:=by
  have h1:=pK kvs []
  rw[List.length_nil] at h1
  rw[sizeLine_eq];omega
 have he:∃q,h'.get? s.heap.objs.size=some q:=let ⟨q,_,_,hq,_⟩:=dd';⟨q,hq⟩
 exact Av I2 (by rw[e];exact True.intro) hs he (Jb hz hd (rk.merge .nil) dd')
structure M1 (X:Cx) (o:Expr) (m:Str) (apos:Pos) (e:Expr) (cpos:Pos):Prop where
 base:attributeBase o m X.env (eval o X.env)=eval o X.env
 few:((backTo cpos (starEach [e] X.env)).all (fun x=> !x.1)&&(backToKw cpos (keywordEach [] X.env)).all (fun x=>x.1.isSome)
  &&decide (([e]:List Expr).length+([]:List Keyword).length+(if([]:List Keyword).isEmpty then 0 else 1)<30))=true
 line:(apos.endLine==cpos.line)=true
 trees:backTo cpos (starEach [e] X.env)=[(false,eval e X.env)]
def IsD (H:Hp) (a:Addr):Prop:=(∃kvs,Rd H a (.dK kvs))\/∃kvs,Rd H a (.dT kvs)
theorem Nh {X:Cx}{pins:List (Addr×Obj)}{σ:St}{H:Hp}{s:Shared}{a:Addr} (I:Inv X pins σ H s) (d:IsD H a):
 s.TypeIs (.ref a) "dict"/\(∀b,Value.ref a= .ref b->∃ob,s.heap.get? b=some ob/\ob.dict=none)/\(a==sysModules)=false:=by
 rcases d with⟨kvs,e⟩ | ⟨kvs,e⟩
 ·obtain⟨_,hd,vs,_,dd⟩:=zV I.hok e
  refine⟨dd.typeIs,fun b q=> ?_,hd⟩
  cases q
  obtain⟨ob,_,_,h1,h2,_⟩:=dd
  exact⟨ob,h1,h2.2.1⟩
 ·obtain⟨_,hd,xs,_,dd⟩:=Ed I.hok e
  refine⟨dd.typeIs,fun b q=> ?_,hd⟩
  cases q
  obtain⟨ob,_,_,h1,h2,_⟩:=dd
  exact⟨ob,h1,h2.2.1⟩
section
variable {X:Cx}{pins:List (Addr×Obj)}{σ:St}{H:Hp}{s:Shared}{a:Addr}{y d:V}{u r:Value}{o:Option V}{A:Around}{E:Value->Shared->Prop}
end
section
variable {X:Cx}{o e f:Expr}{apos cpos:Pos}{td ty tx:TE}
end
section
variable {X:Cx}{pins:List (Addr×Obj)}{σ:St}{H:Hp}{s:Shared}{a:Addr}{kvs:List (Key×V)}{A:Around}{E:Value->Shared->Prop}
end
section
variable {X:Cx}{pins:List (Addr×Obj)}{σ:St}{H:Hp}{s:Shared}{a:Addr}{y:V}{u:Value}{A:Around}{E:Value->Shared->Prop}
end
end L2
namespace Att
open PySem PySem.W PySem.Calls PyProof.Rows
theorem Af {P:Params}{h:Heap}:∀(ns:List Int) (vs:List Value),WellAll P h vs (ns.map WData.int)->IntsAre vs ns:=by
 intro ns
 induction ns with
 | nil=>
   intro vs w
   rw[List.map_nil] at w
   cases w
   exact .nil
 | cons n ns ih=>
   intro vs w
   rw[List.map_cons] at w
   cases w with
   | cons a b=>
     cases a
     exact .cons _ _ (ih _ b)
theorem Lk {l:OpenLaw}{n:Nat} (hn:l.most=some n) {P:Params}{h:Heap}{args:List WData}{vals:List Value}
 (hpre:l.row.toRowW.claim.pre args=true) (hwl:WellAll P h vals args):
 ∃a vs ns,vals=[Value.ref a]/\args=[WData.list (ns.map WData.int)]/\h.get? a=some {cls:= .type "list",data:= .seq vs.toArray}/\IntsAre vs ns/\ns.length<=n:=by
 have hsh:WShape.hasAll [] args [.list .int]=true:=(pre_splitW hpre).1
 have hc:l.pre.holds [] {args:=args}=true:=(pre_splitW hpre).2
 obtain⟨d,r,rfl,h1,h2⟩:=hasAllW_cons hsh
 obtain rfl:=hasAllW_nil h2
 obtain⟨xs,rfl,h3⟩:=hasW_list h1
 obtain⟨ns,rfl⟩:=items_int h3
 have hlen:ns.length<=n:=by
  unfold OpenLaw.pre at hc
  have h4:(WTm.not (.lt (.lit (.int (n:Int))) (.len (.arg 0)))).holds [] {args:=[.list (ns.map .int)]}=true:=by
   have h4:=(holds_andW hc).1
   rw[hn] at h4
   exact h4
  have h5:=condW_of h4 (w_not (w_lt w_lit (w_len_list (w_arg rfl))))
  rw[List.length_map] at h5
  refine Nat.le_of_not_lt fun q=> ?_
  have q':(n:Int)<((ns.length:Nat):Int):=by omega
  first
   | (rw[decide_eq_true q'] at h5;exact absurd h5 (by decide))
   | (simp at h5;omega)
 cases hwl with
 | cons w1 w2=>
   cases w2
   cases w1 with
   | list ho hall=>exact⟨_,_,ns,rfl,rfl,ho,Af ns _ hall,hlen⟩
theorem Ln (l:OpenLaw) (args:List WData):l.row.toRowW.claim.post args (.bool true) args=true:=
 postW_of (r:=l.row.toRowW) (X:=(true==true))
  (show WShape.has [] (.bool true) .bool=true by first | rfl | decide | simp[WShape.has,WShape.arms,WShape.armsAll])
  (show(WTm.eq .res (.lit (.bool true))).value [] {args:=args,res:=some (.bool true),after:=args}=some (.bool (true==true)) from w_eq_bool (w_res rfl) w_lit) rfl
theorem GP {l:OpenLaw}{n:Nat}{q:Program}{loose:List Str}{XP:(Str->Option Value)->Heap->Prop}{YP:World->Heap->Prop}{d:DefRec}
 (hn:l.most=some n) (hdf:d.params.defaults=[])
 (call:∀(w:World) (s₀ s₁:Shared) (mg mb:Str->Option Value) (fa:Addr) (o:Obj) (pm cd doc:Value) (a:Addr) (vs:List Value) (ns:List Int),
   Ground q loose [] XP w s₀ mg mb s₁.heap->YP w s₁.heap->
   s₁.heap.get? fa=some o->o.data= .func (docDef d.name d.params d.body d.scope pm cd doc)->s₁.heap.CodeRec cd d.name->mg d.name=some (.ref fa)->
   s₁.heap.get? a=some {cls:= .type "list",data:= .seq vs.toArray}->IntsAre vs ns->ns.length<=n->s₁.gens= #[]->
   codeAny (model l.prog w) callerA (.call (.ref fa) ⟨[.ref a],[]⟩) (fun r s'=>r= .ok (.ret (.bool true))/\OldK s₁.heap s'.heap/\s'.os=s₁.os/\AllBare s'.gens) s₁):
 WalkO q loose XP YP l.row.toRowW d [] (fun f vs=>PySem.call f vs):=by
 intro w s₀ s₁ mg mb G Y fa o pm cd doc dV kV ho hd hcd hD hmg hg args vals as hpre hlay hrd hwl hlo
 obtain rfl:dV= .none:=Dflts.none hD hdf
 obtain rfl:kV= .none:=Dflts.noKw hD
 obtain⟨a,vs,ns,rfl,rfl,hobj,hints,hlen⟩:=Lk hn hpre hwl
 refine enter_call (codeAny_mono (call w s₀ s₁ mg mb fa o pm cd doc a vs ns G Y ho (fd_plain hd) hcd hmg hobj hints hlen hg) fun r s' hq=> ?_)
 obtain⟨rfl,h2,h3,h4⟩:=hq
 exact⟨.inl ⟨.bool true, .bool true,[],rfl,fun _=>rfl, .bool true,Ln l _,fun _=>⟨List.Pairwise.nil,fun _ hm=>(nomatch hm)⟩⟩,h2,h3,h4⟩
section
variable {prog:Program}{w:World}{A:Around}{E:Value->Shared->Prop}{s:Shared}{K:Frag}
end
end Att
namespace L2
open PySem PySem.Spec PyProof.Rows
theorem Ef:∀{vs:List Value}{ns:List Int},IntsAre vs ns->Vals (ns.map V.int) vs
 | _,_, .nil=> .nil
 | _,_, .cons n t h=> .cons ⟨t,rfl⟩ (Ef h)
def Only (H:Hp):Prop:=∀b,H b=none\/∃o xs,H b=some (.frz o (.lst xs))
theorem Ni {P:Program}{w:World}{K:PySem.W.Frag}{mg mb:Str->Option Value}{CX:CXT}{k:Nat}{fa a:Addr}{fd:FuncData}{x:Str}{sp:Sp}{s₁:Shared}{vs:List Value}{ns:List Int}
 (KX:K.In s₁.heap) (hns:s₁.heap.Ns mainGlobals mg) (hb:s₁.heap.Ns builtinsNs mb) (hbb:∀x:Str,x≠"__name__"->mb x=bootBuiltins x) (hlim:s₁.heap.NoLimit) (hg:s₁.gens= #[])
 (ha:s₁.heap.get? a=some {cls:= .type "list",data:= .seq vs.toArray}) (hi:IntsAre vs ns) (hl:ns.length<=sizeLine) (hr:kZ k callerA)
 (F:∀base:Heap,K.In base->base.Ns mainGlobals mg->bx P w K mg base CX k fa fd [x] sp) (hbind:∀(s:Shared) (u:Value),BindsTo s fd ⟨[u],[]⟩ [(x,u)])
 (hsp:∀H:Hp,Only H->SqL K H a (ns.map V.int)->sp [.ref a] H (fun v _=>v= .bl true) fun _ _ _=>False)
 (hCX:∀H e s',CX [] H s₁ (fun _ _ _=>False) e s'->False):
 codeAny (model P w) callerA (.call (.ref fa) ⟨[.ref a],[]⟩) (fun r s'=>r= .ok (.ret (.bool true))/\OldK s₁.heap s'.heap/\s'.os=s₁.os/\AllBare s'.gens) s₁:=by
 have rv:=Ef hi
 have lenV:=hi.length
 have core:∀H:Hp,Only H->SqL K H a (ns.map V.int)->HOk P w H s₁.heap->(∀b,H b≠none->b=a)->(H a≠none->K.lookup a=none)->
  codeAny (model P w) callerA (.call (.ref fa) ⟨[.ref a],[]⟩) (fun r s'=>r= .ok (.ret (.bool true))/\OldK s₁.heap s'.heap/\s'.os=s₁.os/\AllBare s'.gens) s₁:=by
  intro H hO hS hok hA hK
  have Ka:∀{b:Addr}{o:Obj},s₁.heap.get? b=some o->H b=none->(Eu s₁.heap H).get? b=some o:=fun e n=>Ml e n
  have noA:∀{b:Addr}{o:Obj}{es:Array DictEntry}{ep:Nat},s₁.heap.get? b=some o->o.data= .dict es ep->H b=none:=fun{b o es ep} e d=>by
   cases q:H b with
   | none=>rfl
   | some u=>
     have e':b=a:=hA b (by rw[q];simp)
     subst e'
     rw[ha] at e;cases e
     have d':Data.seq vs.toArray _=Data.dict es ep:=d
     cases d'
  have nsK:∀{b:Addr}{m:Str->Option Value},s₁.heap.Ns b m->(Eu s₁.heap H).Ns b m:=fun{b m} ⟨o,es,ep,e,d,r⟩=>⟨o,es,ep,Ka e (noA e d),d,r⟩
  have hKb:K.In (Eu s₁.heap H):=fun b o e=>Ka (KX b o e) (by
   cases q:H b with
   | none=>rfl
   | some u=>
     have e':b=a:=hA b (by rw[q];simp)
     subst e'
     rw[hK (by rw[q];simp)] at e;cases e)
  have hM:Mod K mg (Eu s₁.heap H):=⟨hKb,nsK hns,⟨mb,nsK hb,hbb⟩,let ⟨mc,h1,h2⟩:=hlim;⟨mc,nsK h1,h2⟩⟩
  have e0:IK P w K mg (Eu s₁.heap H) callerA [] s₁ H:=⟨rfl,hM,fun b o e=>Qf e,Nat.le_of_eq (KY _ _),trivial,fun b hb=>absurd (show b∈([]:List Addr) from hb) (by simp),hok, .of_eq hg⟩
  refine codeAny_mono ((F _ hKb (nsK hns)).run callerA [] s₁ H ⟨[.ref a],[]⟩ [.ref a] [.ref a] _ _ hr e0 (hbind s₁ (.ref a)) (.cons rfl .nil) (hsp H hO hS)) fun r s' h=> ?_
  cases r with
  | error e=>exact(hCX H e s' h).elim
  | ok fl=>
    cases fl with
    | next=>exact False.elim h
    | brk=>exact False.elim h
    | cont=>exact False.elim h
    | ret u=>
      obtain⟨v,H',os,bare,un,hok',r',q⟩:=h
      have q':v= .bl true:=q
      subst q'
      obtain rfl:u=Value.bool true:=r'
      refine⟨rfl,OldK.of_keep fun b o e=> ?_,os,bare⟩
      cases q:H b with
      | none=>exact un.keep b o e q (by intro z;exact absurd (show b∈([]:List Addr) from z) (by simp)) (by simp)
      | some u=>
        rcases hO b with z | ⟨ob,xs,z⟩
        ·rw[q] at z;cases z
        ·have z2:=un.frzs b ob _ z
         obtain⟨e1,_⟩:=hok b _ z
         obtain⟨e2,_⟩:=hok' b _ z2
         rw[e] at e1;cases e1
         exact e2
 cases hk:K.lookup a with
 | some o=>
   have e:=KX a o hk
   rw[ha] at e
   cases e
   refine core (fun _=>none) (fun _=> .inl rfl) (.inr ⟨_,vs.toArray,_,hk,rfl,rfl,rfl,by rw[List.size_toArray,lenV];exact hl,by simpa using rv⟩) (fun b u z=>by have z':(none:Option HO)=some u:=z;cases z') (fun b z=>absurd rfl z) fun z=>absurd rfl z
 | none=>
   refine core (fun b=>if b=a then some (.frz {cls:= .type "list",data:= .seq vs.toArray} (.lst (ns.map V.int))) else none) (fun b=> ?_) (.inl (.inr ⟨{cls:= .type "list",data:= .seq vs.toArray},if_pos rfl⟩)) (fun b u z=> ?_) (fun b z=> ?_) fun _=>hk
   ·by_cases hb:b=a
    ·exact .inr ⟨_,_,if_pos hb⟩
    ·exact .inl (if_neg hb)
   ·by_cases hb:b=a
    ·have z':=(if_pos hb).symm.trans z
     cases z'
     subst hb
     exact⟨ha,by rw[List.length_map];exact hl,vs,_,rv,ha⟩
    ·have z':=(if_neg hb).symm.trans z
     cases z'
   ·by_cases hb:b=a
    ·exact hb
    ·exact absurd (if_neg hb) z
end L2
namespace L2
open PySem PySem.Spec PyProof.Rows
theorem Kc {l:PySem.W.OpenLaw}{n k:Nat}{q:Program}{loose:List Str}{XP:(Str->Option Value)->Heap->Prop}{YP:World->Heap->Prop}{d:DefRec}{K:Params->PySem.W.Frag}{CX:World->CXT}{sp:World->Sp}{x:Str}
 (hn:l.most=some n) (hn2:n<=sizeLine) (hdf:d.params.defaults=[]) (hr:kZ k callerA)
 (hY:∀(w:World) (h:Heap),YP w h->(K w.params).In h)
 (F:∀(w:World) (mg:Str->Option Value) (fa:Addr) (h:Heap),(K w.params).In h->h.Ns mainGlobals mg->mg d.name=some (.ref fa)->
   ∃fd:FuncData,(∀(s:Shared) (u:Value),BindsTo s fd ⟨[u],[]⟩ [(x,u)])/\
    ∀base:Heap,(K w.params).In base->base.Ns mainGlobals mg->bx l.prog w (K w.params) mg base (CX w) k fa fd [x] (sp w))
 (hsp:∀(w:World) (H:Hp) (a:Addr) (ns:List Int),ns.length<=n->Only H->SqL (K w.params) H a (ns.map V.int)->sp w [.ref a] H (fun v _=>v= .bl true) fun _ _ _=>False)
 (hCX:∀(w:World) (H:Hp) (s:Shared) (e:Value) (s':Shared),CX w [] H s (fun _ _ _=>False) e s'->False):
 PySem.W.WalkO q loose XP YP l.row.toRowW d [] (fun f vs=>PySem.call f vs):=by
 refine Att.GP hn hdf fun w s₀ s₁ mg mb fa o pm cd doc a vs ns G Y ho hd hcd hmg hobj hints hlen hg=> ?_
 have KX:=hY w _ Y
 obtain⟨fd,hb,hF⟩:=F w mg fa _ KX G.T.g hmg
 exact Ni KX G.T.g G.T.b G.T.builtins G.T.nolimit hg hobj hints (Nat.le_trans hlen hn2) hr hF hb (fun H hO hS=>hsp w H a ns hlen hO hS) fun H e s'=>hCX w H s₁ e s'
end L2
/- THE LAST THEOREM (shape;LID,My.* are yours):
   My.Adr:a structure of the addresses that your layer names (classes,functions);My.Txt K t:a structure (Prop) of the equations over K;
   My.WR:{K}{implicit addresses ..} (e1:nsIn K mainGlobals "law"=some (some (.ref f))) (e2:K.lookup f=some ⟨oc,od, .func (fnOf "law" "law" params body scope dV kV doc pm an cdv ct),sl⟩) (e3:codeIn K cdv "law"=true) .. :∃t,My.Txt K t
theorem PySem.Challenge.cw_LID_holds : PySem.Challenge.rw_LID.Holds := by
 w_on;o_law;k_head;(case hw=>w_witness2)
 k_fill
 refine L2.Kc (l:=PySem.Challenge.WT) (n:=63) (k:=40) (x:="script") (CX:=fun w=> ..) (sp:=fun _=>My.ad8) rfl (by decide) rfl ⟨rfl,by decide,by decide⟩ (fun w h Y=>PySem.W.kIn_of Y) ?F ?S ?C
 case F=>
  intro w mg fa h KX G hmg
  have T:∃t,My.Txt (L2.KOf KX) t:=by
   dsimp only[L2.KOf] -- K must stand as «<heap const> w.params» for k_is
   refine' My.WR ?e1 ?e2 ?e3 ..
   (case e1=>PySem.W.k_is) -- in the order:a name->its address->its object->its parts
   (case e2=>PySem.W.k_is)
   ..
  obtain⟨t,T⟩:=T
  have e0:=hmg.symm.trans (PySem.W.mg_of KX G T.law)
  cases e0 -- fa is the law's own address
  exact⟨_,fun s u=> .of_eq rfl,fun base kb nb=>My.WW T kb nb⟩ -- if «.of_eq rfl» comes too early:refine' ⟨_, ?b,fun base kb nb=>My.WW T kb nb⟩;exact fun s u=> .of_eq rfl
 case S=>exact fun w H a ns hl hO hS=> ..
 case C=>exact ..
(the tactic k_is has no namespace:write k_is) -/
namespace L2
open PySem PySem.Spec PyProof.Rows
def bH (s:Stmt):Arguments:=match s with
 | .FunctionDef _ a _ _ _ _ _ _ _ _=>a
 | _=>{posonlyargs:=[],args:=[],vararg:=none,kwonlyargs:=[],kw_defaults:=[],kwarg:=none,defaults:=[]}
def bA (s:Stmt):List Stmt:=match s with
 | .FunctionDef _ _ b _ _ _ _ _ _ _=>b
 | _=>[]
def aa (s:Stmt):Scope:=match s with
 | .FunctionDef _ _ _ _ _ _ sc _ _ _=>sc
 | _=>{kind:= .function,names:=[],isGenerator:=false,isCoroutine:=false}
abbrev CX0:CXT:=fun _ _ _ _ _ _=>False
abbrev E0:XK:=fun _ _ _=>False
theorem bM {X:Cx}:Passes CX0 X E0:=fun _ _ _ _ _ _ _ h=>h.elim
structure Fun (K:PySem.W.Frag) (x qual:Str) (st:Stmt) (f:Addr) (fd:FuncData):Prop where
 ex:∃(oc:Value) (od:Option Addr) (kV doc pm:Value) (an:Option Addr) (cdv ct:Value) (osl:Array (Option Value)),
  fd=PySem.W.fnOf x qual (bH st) (bA st) (aa st) .none kV doc pm an cdv ct/\K.lookup f=some ⟨oc,od, .func fd,osl⟩/\PySem.W.codeIn K cdv qual=true
 kp:PySem.W.keepIn K (.ref f)=true
section
variable {P:Program}{w:World}{K:PySem.W.Frag}{mg:Str->Option Value}{base:Heap}
theorem Fun.ok {x qual:Str}{st:Stmt}{f:Addr}{fd:FuncData}{N ps:List Str}{k:Nat}{sp:Sp} (F:Fun K x qual st f fd) (S:bR N ps (aa st)) (len:∀vs H Q E,sp vs H Q E->vs.length=ps.length)
 (hbody:∀(cdv:Value) (A:Around) (outer:List Env) (s:Shared) (H:Hp) (vs:List V) (Q:VK) (E:XK),kZ k (A.deeper (envOfC qual (aa st) s.heap.objs.size f cdv))->sp vs H Q E->
   ∃t,PSs (IW CX0 P w K mg base N qual (aa st) f cdv A outer s H E).nox (bA st) t/\t {nx:=fun _ H'=>Q .non H',rt:=Q} (start N vs) H):bx P w K mg base CX0 (k+1) f fd ps sp:=by
 obtain⟨oc,od,kV,doc,pm,an,cdv,ct,osl,rfl,lk,hcd⟩:=F.ex
 refine aaj lk hcd S len fun A outer s H vs Q E hr hsp=> ?_
 obtain⟨t,h,q⟩:=hbody cdv A outer s H vs Q E hr hsp
 exact⟨t,h.nox,q⟩
theorem jk {x qual:Str}{st:Stmt}{f:Addr}{oc:Value}{od an:Option Addr}{osl:Array (Option Value)}{kV doc pm cdv ct:Value} (l:K.lookup f=some ⟨oc,od, .func (PySem.W.fnOf x qual (bH st) (bA st) (aa st) .none kV doc pm an cdv ct),osl⟩)
 (c:PySem.W.codeIn K cdv qual=true) (k:PySem.W.keepIn K (.ref f)=true):Fun K x qual st f (PySem.W.fnOf x qual (bH st) (bA st) (aa st) .none kV doc pm an cdv ct):=⟨⟨oc,od,kV,doc,pm,an,cdv,ct,osl,rfl,l,c⟩,k⟩
end
theorem dB {A:Around}{k:Nat} (hr:kZ k A):A.units+1<cLine:=Nat.lt_of_le_of_lt (Nat.add_le_add_left (by decide:1<=64) _) hr.units
theorem bN {n:Nat} (h:n<=1000):n<sizeLine:=Nat.lt_of_le_of_lt h (by decide)
section
variable {X:Cx}
end
theorem wM {c A B:Prop} [Decidable c] (h1:c->A) (h2:¬c->B):if c then A else B:=by
 by_cases h:c
 ·rw[if_pos h]
  exact h1 h
 ·rw[if_neg h]
  exact h2 h
def aN (H H':Hp):Prop:=∀b o,H b=some o->H' b=some o
theorem aN.refl (H:Hp):aN H H:=fun _ _ h=>h
theorem aN.trans {H H1 H2:Hp} (a:aN H H1) (b:aN H1 H2):aN H H2:=fun c o h=>b c o (a c o h)
section
variable {κ:Type} [DecidableEq κ]
theorem QZ {kvs:List (κ×V)}{k:κ}{v:V} (h:cG kvs k=some v):k∈kvs.map (·.1):=by
 have q:(kvs.any fun kv=>decide (kv.1=k))=true:=by
  rw[qg,h]
  all_goals rfl
 obtain⟨p,hp,e⟩:=List.any_eq_true.mp q
 exact List.mem_map.mpr ⟨p,hp,of_decide_eq_true e⟩
end
end L2
set_option maxRecDepth 100000
namespace L2
open PySem PySem.Spec PyProof.Rows
def ccl (sc:Scope) (env:Env):List (Str×Addr):=(sc.names.filterMap fun p=>if p.2== .free then(env.cells.lookup p.1).map fun c=>(p.1,c) else none).reverse
theorem ur {env:Env}:∀(l:List (Str×NameKind)) (acc:List (Str×Addr)),(∀p∈l,p.2= .free->∃c,env.cells.lookup p.1=some c)->
 (forIn l acc fun(x:Str×NameKind) r=>match x with | (name,kind)=>(if(kind==NameKind.free)=true then do let a <-cellOf env name;pure (ForInStep.yield ((name,a)::r)) else pure (ForInStep.yield r):Sem _))=
   pure ((l.filterMap fun p=>if p.2== .free then(env.cells.lookup p.1).map fun c=>(p.1,c) else none).reverse++acc)
 |[],acc,_=>rfl
 | (n,k)::r,acc,h=>by
   rw[List.forIn_cons]
   have hr:∀p∈r,p.2= .free->∃c,env.cells.lookup p.1=some c:=fun p hp=>h p (List.mem_cons_of_mem _ hp)
   by_cases hk:k= .free
   ·subst hk
    obtain⟨c,hc⟩:=h (n, .free) List.mem_cons_self rfl
    have e1:cellOf env n=pure c:=by unfold cellOf;rw[hc]
    simp only[beq_self_eq_true,if_true,e1,pure_bind]
    rw[ur r _ hr]
    simp[List.filterMap_cons,hc]
   ·have hb:(k==NameKind.free)=false:=by simpa using hk
    simp only[hb,Bool.false_eq_true,if_false,pure_bind]
    rw[ur r _ hr]
    simp[List.filterMap_cons,hk]
theorem GQ {sc:Scope}{env:Env} (h:∀p∈sc.names,p.2= .free->∃c,env.cells.lookup p.1=some c):closureFor sc env=pure (ccl sc env):=by
 unfold closureFor
 have q:=ur (env:=env) sc.names [] h
 rw[List.append_nil] at q
 unfold ccl
 rw[<-q,bind_pure]
theorem Dp {f:Str->Option Addr}:∀(l:List (Str×NameKind)) (x:Str) (c:Addr),
 (l.filterMap fun p=>if p.2== .free then(f p.1).map fun c=>(p.1,c) else none).reverse.lookup x=some c->f x=some c:=by
 intro l x c h
 have hm:=PySem.mem_of_lookup h
 rw[List.mem_reverse,List.mem_filterMap] at hm
 obtain⟨p,_,e⟩:=hm
 split at e
 ·cases q:f p.1 with
  | none=>rw[q] at e;cases e
  | some d=>
    rw[q] at e
    simp only[Option.map_some,Option.some.injEq,Prod.mk.injEq] at e
    obtain⟨e1,e2⟩:=e
    rw[<-e1,q,e2]
 ·cases e
theorem nZ {β:Type}:∀{l:List (Str×β)}{x:Str}{c:β},(x,c)∈l->∃d,l.lookup x=some d
 |[],_,_,h=>nomatch h
 | (n,d)::r,x,c,h=>by
   by_cases e:x=n
   ·subst e;exact⟨d,by simp[List.lookup_cons]⟩
   ·have hb:(x==n)=false:=by simpa using e
    rcases List.mem_cons.mp h with q | q
    ·cases q;exact absurd rfl e
    ·obtain⟨d',hd⟩:=nZ q
     exact⟨d',by simp[List.lookup_cons,hb,hd]⟩
theorem rN {sc:Scope}{env:Env}{x:Str}{c:Addr} (h:(ccl sc env).lookup x=some c):env.cells.lookup x=some c:=Dp (f:=fun n=>env.cells.lookup n) sc.names x c h
theorem Kd {sc:Scope}{env:Env}{x:Str}{c:Addr} (hx:(x,NameKind.free)∈sc.names) (hc:env.cells.lookup x=some c):(ccl sc env).lookup x=some c:=by
 have hm:(x,c)∈ccl sc env:=by
  unfold ccl
  rw[List.mem_reverse,List.mem_filterMap]
  exact⟨(x, .free),hx,by simp[hc]⟩
 obtain⟨d,hd⟩:=nZ hm
 have:=rN hd
 rw[hc] at this
 rw[hd,this]
theorem pL {env:Env}:∀{names:List (Str×NameKind)}{x:Str}{k:NameKind},
 (names.map fun(n,k)=>if(k==NameKind.free&&env.scope.kind== .function&&env.kindOf n==some .cell) then(n,NameKind.cell) else(n,k)).lookup x=some k->
 names.lookup x=some k\/(k= .cell/\names.lookup x=some .free)
 |[],_,_,h=>by simp at h
 | (n,q)::r,x,k,h=>by
   have ih:=@pL env r x k
   rw[List.map_cons] at h
   cases hx:x==n with
   | true=>
     by_cases hc:(q==NameKind.free&&env.scope.kind== .function&&env.kindOf n==some .cell)=true
     ·simp only[hc,if_true,List.lookup_cons,hx,Option.some.injEq] at h
      have hq:q= .free:=by
       have:=(Bool.and_eq_true _ _▸(Bool.and_eq_true _ _▸hc).1).1
       simpa using this
      subst hq
      exact .inr ⟨h.symm,by simp[List.lookup_cons,hx]⟩
     ·simp only[hc,if_false,List.lookup_cons,hx,Option.some.injEq,Bool.false_eq_true] at h
      subst h
      exact .inl (by simp[List.lookup_cons,hx])
   | false=>
     have h':(r.map fun(n,k)=>if(k==NameKind.free&&env.scope.kind== .function&&env.kindOf n==some .cell) then(n,NameKind.cell) else(n,k)).lookup x=some k:=by
      by_cases hc:(q==NameKind.free&&env.scope.kind== .function&&env.kindOf n==some .cell)=true
      ·simpa only[hc,if_true,List.lookup_cons,hx] using h
      ·simpa only[hc,if_false,List.lookup_cons,hx,Bool.false_eq_true] using h
     rcases ih h' with z | ⟨z1,z2⟩
     ·exact .inl (by simp[List.lookup_cons,hx,z])
     ·exact .inr ⟨z1,by simp[List.lookup_cons,hx,z2]⟩
theorem rO {env:Env}:∀{names:List (Str×NameKind)}{x:Str},names.lookup x=some .free->
 (names.map fun(n,k)=>if(k==NameKind.free&&env.scope.kind== .function&&env.kindOf n==some .cell) then(n,NameKind.cell) else(n,k)).lookup x=some .cell\/
 (names.map fun(n,k)=>if(k==NameKind.free&&env.scope.kind== .function&&env.kindOf n==some .cell) then(n,NameKind.cell) else(n,k)).lookup x=some .free
 |[],_,h=>by simp at h
 | (n,q)::r,x,h=>by
   have ih:=@rO env r x
   rw[List.map_cons]
   cases hx:x==n with
   | true=>
     simp only[List.lookup_cons,hx,Option.some.injEq] at h
     subst h
     by_cases hc:(NameKind.free==NameKind.free&&env.scope.kind== .function&&env.kindOf n==some .cell)=true
     ·exact .inl (by simp only[hc,if_true,List.lookup_cons,hx])
     ·exact .inr (by simp only[hc,if_false,List.lookup_cons,hx,Bool.false_eq_true])
   | false=>
     simp only[List.lookup_cons,hx] at h
     by_cases hc:(q==NameKind.free&&env.scope.kind== .function&&env.kindOf n==some .cell)=true
     ·simpa only[hc,if_true,List.lookup_cons,hx] using ih h
     ·simpa only[hc,if_false,List.lookup_cons,hx,Bool.false_eq_true] using ih h
def fY (X:Cx) (N:List Str) (sc:Scope) (pins:List (Addr×Obj)) (C:Addr) (s₀:Shared) (H₀:Hp) (fp:List Addr):Cx:=
 {X with N:=N,s₀:=s₀,H₀:=H₀,env:=compEnvC sc (ccl sc X.env) C X.env,outer:=X.stack,ex:=fp,fn:=fun _=>false,pn:=X.pn++pins,xe:=fun _ _=>False}
structure uv (X:Cx) (n:Nat) (fr:List Nat) (N:List Str) (sc:Scope):Prop where
 kind:sc.kind= .function
 nocell:∀p∈sc.names,p.2≠ .cell
 own:∀p∈sc.names,p.2= .local->sc.names.lookup p.1=some .local
 out:∀p∈sc.names,p.2= .free->X.env.kindOf p.1=some .cell\/X.env.kindOf p.1=some .free
 len:N.length=n+fr.length
 free:∀i x,N[n+i]? =some x->(x,NameKind.free)∈sc.names/\sc.names.lookup x=some .free/\∃j,fr[i]? =some j/\X.N[j]? =some x
def CS0 (scX:Scope) (NX:List Str) (n:Nat) (fr:List Nat) (N:List Str) (sc:Scope):Prop:=
 sc.kind= .function/\(∀p∈sc.names,p.2≠ .cell)/\(∀p∈sc.names,p.2= .local->sc.names.lookup p.1=some .local)/\
 (∀p∈sc.names,p.2= .free->scX.names.lookup p.1=some .cell\/scX.names.lookup p.1=some .free)/\N.length=n+fr.length/\
 (∀x∈N.drop n,(x,NameKind.free)∈sc.names/\sc.names.lookup x=some .free)/\(N.drop n).map some=fr.map fun j=>NX[j]?
instance {scX:Scope}{NX:List Str}{n:Nat}{fr:List Nat}{N:List Str}{sc:Scope}:Decidable (CS0 scX NX n fr N sc):=by unfold CS0;exact inferInstance
theorem yh {X:Cx}{scX:Scope}{NX:List Str}{n:Nat}{fr:List Nat}{N:List Str}{sc:Scope} (h1:X.env.scope=scX) (h2:X.N=NX) (h:CS0 scX NX n fr N sc):uv X n fr N sc:=by
 obtain⟨a,b,c,d,e,f,g⟩:=h
 refine⟨a,b,c,fun p hp z=> ?_,e,fun i x hx=> ?_⟩
 ·have q:=d p hp z
  rw[<-h1] at q
  exact q
 ·have hd:(N.drop n)[i]? =some x:=by rw[List.getElem?_drop];exact hx
  obtain⟨f1,f2⟩:=f x (List.mem_of_getElem? hd)
  refine⟨f1,f2, ?_⟩
  have q:((N.drop n).map some)[i]? =some (some x):=by rw[List.getElem?_map,hd];rfl
  rw[g,List.getElem?_map] at q
  cases z:fr[i]? with
  | none=>rw[z] at q;cases q
  | some j=>
    rw[z] at q
    refine⟨j,rfl, ?_⟩
    rw[h2]
    exact Option.some.inj q
def cst (n:Nat) (fr:List Nat) (σ:St):St:=List.replicate n none++fr.map fun j=>(σ[j]?).getD none
theorem Bj {X:Cx}{n:Nat}{fr:List Nat}{N:List Str}{sc:Scope} (S:uv X n fr N sc) (ok:X.Ok):closureFor sc X.env=pure (ccl sc X.env):=
 GQ fun p hp e=>ok.has p.1 (S.out p hp e)
section
variable {X:Cx}{n:Nat}{fr:List Nat}{N:List Str}{sc:Scope}{pins:List (Addr×Obj)}{σ:St}{H:Hp}{s:Shared}{fp:List Addr}{h₁:Heap}{tk:Nat}
theorem Jd (S:uv X n fr N sc) (I:Inv X pins σ H s) (hf:∀b∈fp,yV X pins H b) (hlt:∀b∈fp,b<s.heap.objs.size)
 (hn:h₁.Ns s.heap.objs.size (fun _=>none)) (hk:∀b o,s.heap.get? b=some o->h₁.get? b=some o):
 Inv (fY X N sc pins s.heap.objs.size s H fp) [] (cst n fr σ) H {s with heap:=h₁,toks:=tk}:=by
 have hsub:∀b∈frs X.stack,b∈X.env.locals::X.fs:=I.Ew
 refine⟨⟨I.ok.mod, ?_,I.ok.glob,I.ok.blt,Nat.le_refl _,fun x y c h1 h2=> ?_,fun x hx=> ?_,fun x c z=>(by cases z),I.ok.hd,I.ok.frames, .inl rfl,fun b hb=>⟨?_,fun x c e=> ?_⟩,fun b o e=>I.bs b o e,Nat.le_trans I.ok.bsz I.sz,fun b o e hb=> ?_,fun b hb hz=> ?_,I.stack,I.JV⟩,
  rfl,I.bare,Un.kept hk,⟨_,hn,fun i x v e1 e2 e3=> ?_⟩,fun x c e=> ?_,I.hok.fresh (Nat.le_refl _),fun x c e=> ?_,fun p hp=> ?_,I.hok.kept hk, ?_⟩
 ·exact S.kind
 ·exact I.ok.inj x y c (rN h1) (rN h2)
 ·have hx':(relabel sc X.env).names.lookup x=some .cell\/(relabel sc X.env).names.lookup x=some .free:=hx
  have fr':sc.names.lookup x=some .free:=by
   rcases hx' with z | z
   ·rcases pL z with q | ⟨_,q⟩
    ·exact absurd rfl (S.nocell _ (PySem.mem_of_lookup q))
    ·exact q
   ·rcases pL z with q | ⟨q,_⟩
    ·exact q
    ·cases q
  obtain⟨c,hc⟩:=I.ok.has x (S.out _ (PySem.mem_of_lookup fr') rfl)
  exact⟨c,Kd (PySem.mem_of_lookup fr') hc⟩
 ·exact Nat.ne_of_lt (hlt b hb)
 ·exact(hf b hb).2.2.2.2.1 x c (rN e)
 ·rcases(hf b hb).2.2.2.1 with z | z
  ·exact I.ok.noex b o e z
  ·exact absurd (Nat.lt_of_lt_of_le (Heap.lt_size e) (Nat.le_trans I.ok.bsz z)) (Nat.lt_irrefl _)
 ·rcases List.mem_cons.mp (hsub b hz) with z | z
  ·exact(hf b hb).2.1 z
  ·exact(hf b hb).2.2.1 z
 ·have e1':N[i]? =some x:=e1
  have hi:n<=i:=by
   apply Nat.le_of_not_lt
   intro hlt
   unfold cst at e2
   rw[List.getElem?_append_left (by simpa using hlt),List.getElem?_replicate] at e2
   split at e2<;>cases e2
  obtain⟨j,rfl⟩:∃j,i=n+j:=⟨i - n,by omega⟩
  obtain⟨hm,hl,q,hq,hX⟩:=S.free j x e1'
  have e2':(σ[q]?).getD none=some v:=by
   unfold cst at e2
   rw[List.getElem?_append_right (by simp)] at e2
   simp only[List.length_replicate,Nat.add_sub_cancel_left,List.getElem?_map,hq,Option.map_some,Option.some.injEq] at e2
   exact e2
  have hσ:σ[q]? =some (some v):=by
   cases z:σ[q]? with
   | none=>rw[z] at e2';cases e2'
   | some w=>rw[z] at e2';simp only[Option.getD_some] at e2';rw[e2']
  have ko:=S.out _ hm rfl
  have hv:Vis X.env.scope x:=by
   rcases ko with z | z
   ·exact .inr (.inl z)
   ·exact .inr (.inr z)
  obtain⟨m,_,hloc⟩:=I.loc
  obtain⟨u,r,l⟩:=hloc q x v hX hσ hv
  refine⟨u,r, .inr ⟨?_, ?_⟩⟩
  ·exact rO hl
  ·rcases l with⟨k,_⟩ | ⟨_,c,hc,hcell⟩
   ·rcases ko with z | z<;>(rw[k] at z;cases z)
   ·refine⟨c,Kd hm hc, ?_⟩
    obtain⟨o,ho,hd⟩:=hcell
    exact⟨o,hk c o ho,hd⟩
 ·obtain⟨v,o,ho,hd⟩:=I.cell x c (rN e)
  exact⟨v,o,hk c o ho,hd⟩
 ·exact I.uh x c (rN e)
 ·have hp':p∈X.pn++pins:=by
   have z:p∈(X.pn++pins)++[]:=hp
   rwa [List.append_nil] at z
  obtain⟨e,hn',ne,nf,d⟩:=I.pin p hp'
  refine⟨hk p.1 p.2 e,hn',Nat.ne_of_lt (Heap.lt_size e),fun hz=> ?_,d⟩
  rcases List.mem_cons.mp (hsub p.1 hz) with z | z
  ·exact ne z
  ·exact nf z
 ·show(cst n fr σ).length=N.length
  unfold cst
  rw[List.length_append,List.length_replicate,List.length_map,S.len]
theorem comp_back {C:Addr}{σ':St}{H':Hp}{s':Shared}{pins':List (Addr×Obj)} (I:Inv X pins σ H s) (hf:∀b∈fp,yV X pins H b) (J:Inv (fY X N sc pins C s H fp) pins' σ' H' s'):Inv X pins σ H' s':=
 I.call' (ch:=fp) J.os J.base J.hok J.bare fun b hb=>⟨(hf b hb).2.2.2.1,(hf b hb).2.1,(hf b hb).2.2.2.2.1,(hf b hb).2.2.2.2.2⟩
end
def Lp (X:Cx) (ifs:List Expr) (t:TT):Prop:=
 ∀(pins:List (Addr×Obj)) (s:Shared) (σ:St) (H:Hp) (Q:Bool->Hp->Prop),Inv X pins σ H s->t σ H Q->
  wpAny (model X.prog X.w) X.A (forIn ifs true fun c r=>if r=true then do let ok <-isTrue c X.env (eval c X.env);pure (ForInStep.yield ok) else pure (ForInStep.yield r)) (TP X pins σ Q) X.xe s
def Ux:TT:=fun _ H Q=>Q true H
theorem Nj {X:Cx}:Lp X [] Ux:=fun _ _ _ H _ I h=>wpAny_pure ⟨H,I,h⟩
theorem Nk {X:Cx}{c:Expr}{t:TT} (hc:PT X c t):Lp X [c] t:=by
 intro pins s σ H Q I h
 rw[List.forIn_cons]
 refine wpAny_bind ?_
 rw[if_pos rfl]
 refine wpAny_bind (thn (hc pins s σ H Q I h) fun b s1 q=>wpAny_pure ?_)
 exact wpAny_pure q
def Eg (J:It) (g:TG) (tc:TT) (te:TE) (D:Addr) (σ:St) (H:Hp) (Q:VK):Prop:=
 ∃W:Nat->Nat->St->Hp->Prop,(∃m,W 0 m σ H)/\∀i m σ' H',W i m σ' H'->
  (J.stop i H'/\Q (.ref D) H')\/(J.go i H'/\∃N:St->Hp->Prop,(∀σ3 H3,N σ3 H3->∃m',m'<m/\W (i+1) m' σ3 H3)/\∀x H2,J.yld i H' x H2->g x σ' H2 fun σ3 H3=>tc σ3 H3 fun b H4=>
    if b=true then te σ3 H4 fun y H5=>∃ys,H5 D=some (.lst ys)/\ys.length<sizeLine/\N σ3 (upd H5 D (.lst (ys++[y])))
    else N σ3 H4)
def Ke (wi:TI) (n:Nat) (fr:List Nat) (g:TG) (tc:TT) (te:TE):TE:=fun σ H Q=>wi σ H fun J H1=>∀D,H1 D=none->Eg J g tc te D (cst n fr σ) (upd H1 D (.lst [])) Q
section
variable {X:Cx}{n:Nat}{fr:List Nat}{N:List Str}{sc:Scope}{elt tg iter:Expr}{ifs:List Expr}{pos:Pos}{wi:TI}{g:TG}{tc:TT}{te:TE}
theorem GR {pins:List (Addr×Obj)}{σ:St}{H:Hp}{s:Shared}{fp:List Addr}{it:Addr}{tn:Nat->Heap->Prop}{J:It}{Q:VK}{E:Value->Shared->Prop}{RR:Value->Addr->Result->Shared->Prop}
 (hc:X.calm=true) (S:uv X n fr N sc)
 (hg:∀C s₀ H₀ fp,PG (fY X N sc pins C s₀ H₀ fp) tg g) (hi:∀C s₀ H₀ fp,Lp (fY X N sc pins C s₀ H₀ fp) ifs tc) (he:∀C s₀ H₀ fp,PE (fY X N sc pins C s₀ H₀ fp) elt te)
 (I:Inv X pins σ H s) (T:Turn X.prog X.w X.K tg J fp it tn) (st:tn 0 s.heap) (hf:∀b∈fp,yV X pins H b)
 (h:∀D,H D=none->Eg J g tc te D (cst n fr σ) (upd H D (.lst [])) Q)
 (hR:∀D C H' s',Inv X pins σ H' s'->yV X pins H' C->(∃m,s'.heap.Ns C m)->Q (.ref D) H'->RR (.ref D) C (.ok .next) s'):
 wpAny (model X.prog X.w) X.A (newList []) (fun acc s₃=>wpAny (model X.prog X.w) X.A (newFunctionEnv sc X.env.globals (ccl sc X.env) [] X.env.qual none .none (some X.env)) (fun cenv s₄=>
  codeAny (model X.prog X.w) X.A (.compStart (.ListComp elt [⟨tg,iter,ifs,0⟩] sc pos) 0 (.ref it) acc {cenv with scope:=relabel sc X.env}) (RR acc cenv.locals) s₄) E s₃) E s:=by
 have hfree:H s.heap.objs.size=none:=I.hok.fresh (Nat.le_refl _)
 have hltf:∀b∈fp,b<s.heap.objs.size:=fun b hb=>by
  obtain⟨o,e,_⟩:=T.obj 0 s.heap st b hb
  exact Heap.lt_size e
 obtain⟨W,⟨m0,w0⟩,turn⟩:=h s.heap.objs.size hfree
 refine wpAny_newObj_type (wpAny_newFunctionEnv S.nocell (by intro y hy;simp at hy) (fun h₁ hns₁ hsb₁=> ?_) S.kind)
 dsimp only at hns₁ hsb₁ ⊢
 have I3:Inv X pins σ (upd H s.heap.objs.size (.lst [])) {s with heap:=s.heap.push {cls:= .type "list",dict:=none,data:= .seq ([]:List Value).toArray}}:=
  I.laid (t':=s.toks) (fun b u e=>Heap.get?_push_of_some _ e) (Nat.le_refl _) ⟨Nat.zero_le _,[],0, .nil,Heap.get?_push_size _ rfl⟩
 have hf3:∀b∈fp,yV X pins (upd H s.heap.objs.size (.lst [])) b:=fun b hb=>⟨by rw[ao (Nat.ne_of_lt (hltf b hb))];exact(hf b hb).1,(hf b hb).2⟩
 generalize hs3:({s with heap:=s.heap.push {cls:= .type "list",dict:=none,data:= .seq ([]:List Value).toArray}}:Shared)=s3 at *
 have e3:s3.heap=s.heap.push {cls:= .type "list",dict:=none,data:= .seq ([]:List Value).toArray}:=by rw[<-hs3]
 have et:s3.toks=s.toks:=by rw[<-hs3]
 have aat:∀b∈fp,b<s3.heap.objs.size:=fun b hb=>by rw[e3,Heap.size_push];exact Nat.lt_succ_of_lt (hltf b hb)
 have hk3:∀b o,s3.heap.get? b=some o->h₁.get? b=some o:=fun b o e=>hsb₁.extBut b o (by rw[<-e3];exact Nat.ne_of_lt (Heap.lt_size e)) (by rw[<-e3];exact Heap.get?_push_of_some _ e)
 have ad9:h₁.Ns s3.heap.objs.size (fun _=>none):=by rw[e3];exact hns₁
 have I4:=Jd (tk:=s.toks+([]:List (Str×Value)).length) S I3 hf3 aat ad9 hk3
 have hDk:∀b o,s.heap.get? b=some o->h₁.get? b=some o:=fun b o e=>hk3 b o (by rw[e3];exact Heap.get?_push_of_some _ e)
 have st4:tn 0 h₁:=T.keep 0 s.heap h₁ st fun b hb o e=>hDk b o e
 have hfX:∀{H':Hp},(∀b∈fp,H' b=none)->∀b∈fp,yV (fY X N sc pins s3.heap.objs.size s3 (upd H s.heap.objs.size (.lst [])) fp) [] H' b:=fun{H'} hn b hb=>by
  refine⟨hn b hb,Nat.ne_of_lt (aat b hb),fun z=> ?_, .inl hb,fun x c e=>(hf3 b hb).2.2.2.2.1 x c (rN e),fun p hp=> ?_⟩
  ·rcases List.mem_cons.mp (I3.Ew b z) with q | q
   ·exact(hf3 b hb).2.1 q
   ·exact(hf3 b hb).2.2.1 q
  ·have hp':p∈(X.pn++pins)++[]:=hp
   rw[List.append_nil] at hp'
   exact(hf3 b hb).2.2.2.2.2 p hp'
 have loop:∀s₄:Shared,s₄={s3 with heap:=h₁,toks:=s.toks+([]:List (Str×Value)).length}->
  codeAny (model X.prog X.w) X.A (.compLoop (.ListComp elt [⟨tg,iter,ifs,0⟩] sc pos) 0 (.ref it) (.ref s.heap.objs.size) (compEnvC sc (ccl sc X.env) s3.heap.objs.size X.env)) (RR (.ref s.heap.objs.size) s3.heap.objs.size) s₄:=by
  rintro s₄ rfl
  refine codeAny_loop rfl (fun k s'=>∃i σ' H',Inv (fY X N sc pins s3.heap.objs.size s3 (upd H s.heap.objs.size (.lst [])) fp) [] σ' H' s'/\tn i s'.heap/\(∀b∈fp,H' b=none)/\W i k σ' H') ?_ m0
   ⟨0,_,_,I4,st4,fun b hb=>(hf3 b hb).1,w0⟩
  rintro k s5 ⟨i,σ5,H5,I5,st5,fr5,w5⟩
  show wpAny _ X.A ((compTurn (.ListComp elt [⟨tg,iter,ifs,0⟩] sc pos) 0 (.ref it) (.ref s.heap.objs.size) (compEnvC sc (ccl sc X.env) s3.heap.objs.size X.env)).onRaise (fun x=>do noteFrame x (compEnvC sc (ccl sc X.env) s3.heap.objs.size X.env);theTreesLotGoes x)) _ _ s5
  refine wpAny_noted ?_
  rw[compTurn_list]
  refine wpAny_bind (wpAny_standAt (wpAny_bind ?_))
  have nev:∀{α:Type}{t:Sem α}{Q₁:α->Shared->Prop}{E₁:Value->Shared->Prop}{s₁:Shared},wpAny (model X.prog X.w) X.A t Q₁ (fun _ _=>False) s₁->wpAny (model X.prog X.w) X.A t Q₁ E₁ s₁:=fun h=>wpAny_noRaise h
  rcases turn i k σ5 H5 w5 with⟨stop,qn⟩ | ⟨go,Nn,hN,step⟩
  ·refine nev (thn (T.done (fY X N sc pins s3.heap.objs.size s3 (upd H s.heap.objs.size (.lst [])) fp) rfl rfl rfl hc i [] s5 σ5 H5 (fun _ _=>False) I5 (hfX fr5) st5 stop) fun r s6 ⟨hr,I6⟩=> ?_)
   subst hr
   have B:Inv X pins σ H5 s6:=comp_back I3 hf3 I6
   refine wpAny_pure (hR _ _ H5 s6 B (I3.Il (Nat.le_refl _) I6.free) ?_ qn)
   obtain⟨m,hm,_⟩:=I6.loc
   exact⟨m,hm⟩
  ·refine nev (thn (T.item (fY X N sc pins s3.heap.objs.size s3 (upd H s.heap.objs.size (.lst [])) fp) rfl rfl rfl hc i [] s5 σ5 H5 (fun _ _=>False) I5 (hfX fr5) st5 go) fun r s6 ⟨u,hr,h6⟩=> ?_)
   subst hr
   refine wpAny_bind (nev (thn h6 fun _ s7 ⟨x,H7,I7,r7,y7,st7,fr7⟩=> ?_))
   have I7':=I7.pinned (hfX fr7) (T.obj _ _ st7)
   refine wpAny_bind (nev (thn (hg _ _ _ _ _ s7 σ5 H7 x u _ I7' r7 (step x H7 y7)) fun _ s8 ⟨σ8,H8,I8,q8⟩=> ?_))
   refine wpAny_bind (nev (thn (hi _ _ _ _ _ s8 σ8 H8 _ I8 q8) fun b s9 ⟨H9,I9,q9⟩=> ?_))
   have fin:∀{s10:Shared}{H10:Hp}{m':Nat},m'<k->Inv (fY X N sc pins s3.heap.objs.size s3 (upd H s.heap.objs.size (.lst [])) fp) ([]++Ba fp s7.heap) σ8 H10 s10->W (i+1) m' σ8 H10->
    ∃m,m<k/\∃i σ' H',Inv (fY X N sc pins s3.heap.objs.size s3 (upd H s.heap.objs.size (.lst [])) fp) [] σ' H' s10/\tn i s10.heap/\(∀b∈fp,H' b=none)/\W i m σ' H':=fun{s10 H10 m'} hm I10 w10=>by
    refine⟨m',hm,i+1,σ8,H10,I10.unpinned,T.keep _ _ _ st7 fun b hb o e=>(I10.pin (b,o) (List.mem_append_right _ (List.mem_append_right _ (rM hb e)))).1,fun b hb=> ?_,w10⟩
    obtain⟨o,e,d⟩:=T.obj _ _ st7 b hb
    exact(I10.pin (b,o) (List.mem_append_right _ (List.mem_append_right _ (rM hb e)))).2.1
   cases b with
   | false=>
     rw[if_neg Bool.false_ne_true] at q9
     obtain⟨m',hm,w9⟩:=hN _ _ q9
     exact wpAny_pure ⟨rfl,fin hm I9 w9⟩
   | true=>
     rw[if_pos rfl] at q9
     refine wpAny_bind (wpAny_bind (nev (thn (he _ _ _ _ _ s9 σ8 H9 _ I9 q9) fun v s10 ⟨y,H10,I10,r10,q10⟩=> ?_)))
     obtain⟨ys,hy,hz,n10⟩:=q10
     obtain⟨m',hm,w10⟩:=hN _ _ n10
     refine wpAny_bind (nev (thn (DY _ s10 σ8 H10 (.ref s.heap.objs.size) [y] (.ref s.heap.objs.size) [v] (fun z H'=>H'=upd H10 s.heap.objs.size (.lst (ys++[y]))) I10 rfl (.cons r10 .nil) ⟨_,ys,y,rfl,rfl,hy,hz,rfl⟩) fun z s11 ⟨_,H11,I11,_,e11⟩=> ?_))
     subst e11
     exact wpAny_pure (wpAny_pure ⟨rfl,fin hm I11 w10⟩)
 subst hs3
 exact codeAny_compStart_list (loop _ rfl) (T.self _ 0 _ _ _ st4 (loop _ rfl))
theorem Q0 (hc:X.calm=true) (S:uv X n fr N sc) (hit:PI X tg iter wi)
 (hg:∀pins C s₀ H₀ fp,PG (fY X N sc pins C s₀ H₀ fp) tg g) (hi:∀pins C s₀ H₀ fp,Lp (fY X N sc pins C s₀ H₀ fp) ifs tc) (he:∀pins C s₀ H₀ fp,PE (fY X N sc pins C s₀ H₀ fp) elt te)
 (hs:∀x,foldedSetIterable iter X.env x=pure x:=by intro _;rfl):PE X (.ListComp elt [⟨tg,iter,ifs,0⟩] sc pos) (Ke wi n fr g tc te):=by
 intro pins s σ H Q I h
 rw[eval_ListComp]
 refine wpAny_comprehension_free (use:=none) rfl hs (Bj S I.ok) S.kind S.own ?_
 refine thn (hit pins s σ H _ I h) fun v s1 h1=>thn h1 fun itv s2 h2=> ?_
 obtain⟨it,fp,tn,J,H2,e,I2,T,st2,f2,q2⟩:=h2
 subst e
 refine GR (RR:=fun acc C=>compPost (model X.prog X.w) X.A X.xe none (EP X pins σ Q) acc C) hc S (hg pins) (hi pins) (he pins) I2 T st2 f2 q2 fun D C H' s' I' fC hm q=> ?_
 obtain⟨m,hm⟩:=hm
 refine⟨m,hm,fun h' hs'=>⟨.ref D,H',I'.turned (t':=s'.toks) (fun b o hb e=>(hs'.2 b hb).trans e) fC.1 fC.2.1 fC.2.2.2.1 fC.2.2.2.2.1 fC.2.2.2.2.2,rfl,q⟩⟩
theorem Je {i:Nat}{x:Str}{pos' spos:Pos} (hc:X.calm=true) (hN:X.N.Nodup) (hi':X.N[i]? =some x) (hx:Loc X.env.scope x) (S:uv X n fr N sc) (hit:PI X tg iter wi)
 (hg:∀pins C s₀ H₀ fp,PG (fY X N sc pins C s₀ H₀ fp) tg g) (hi:∀pins C s₀ H₀ fp,Lp (fY X N sc pins C s₀ H₀ fp) ifs tc) (he:∀pins C s₀ H₀ fp,PE (fY X N sc pins C s₀ H₀ fp) elt te)
 (hsw:swapsWith (.ListComp elt [⟨tg,iter,ifs,0⟩] sc pos) (some (.Name x pos')) spos.line X.env=pure true)
 (hs:∀x,foldedSetIterable iter X.env x=pure x:=by intro _;rfl) (hf:X.fn x=true\/X.env.scope.names.lookup x=some .local:=by first | exact .inl rfl | exact .inr rfl | assumption):
 PS X (.Assign [.Name x pos'] (.ListComp elt [⟨tg,iter,ifs,0⟩] sc pos) spos) (KZ (Ke wi n fr g tc te) (yf i)):=by
 intro pins s σ H D I h
 rw[exec_Assign_Name_used _ _ _ _ hsw]
 refine wpAny_bind (wpAny_standAt (wpAny_bind ?_))
 show wpAny _ X.A (do let _ <-comprehension (.ListComp elt [⟨tg,iter,ifs,0⟩] sc pos) sc X.env _ (newList []) false (eval iter X.env) (some (assign (.Name x pos') X.env))) _ _ s
 refine wpAny_bind (wpAny_mono (wpAny_comprehension_free (use:=some (assign (.Name x pos') X.env)) (Q:=fun _ s'=>SP X pins D .next s') rfl hs (Bj S I.ok) S.kind S.own ?_) (fun _ s' hq=>wpAny_pure (wpAny_pure hq)) fun _ _ e=>e)
 refine thn (hit pins s σ H _ I h) fun v s1 h1=>thn h1 fun itv s2 h2=> ?_
 obtain⟨it,fp,tn,J,H2,e,I2,T,st2,f2,q2⟩:=h2
 subst e
 refine GR (Q:=fun x H1=>yf i x σ H1 D.nx) (RR:=fun acc C=>compPost (model X.prog X.w) X.A X.xe (some (assign (.Name x pos') X.env)) (fun _ s'=>SP X pins D .next s') acc C) hc S (hg pins) (hi pins) (he pins) I2 T st2 f2 q2 fun D' C H' s' I' fC hm q=> ?_
 obtain⟨m,hm⟩:=hm
 show wpAny _ X.A (assign (.Name x pos') X.env (.ref D')) _ _ _
 refine wpAny_assign_Name (DK I' hN hi' hx (v:= .ref D') rfl (fun s'' I'' ch=> ?_) hf)
 obtain⟨a,hsb,ha⟩:=ch
 have hne:C≠a:=by
  rcases ha with z | z
  ·rw[z];exact fC.2.1
  ·exact fun z'=>fC.2.2.2.2.1 x a z z'.symm
 exact⟨m,hm.sameBut hsb hne,fun h' hs'=>⟨_,H',I''.turned (t':=s''.toks) (fun b o hb e=>(hs'.2 b hb).trans e) fC.1 fC.2.1 fC.2.2.2.1 fC.2.2.2.2.1 fC.2.2.2.2.2,q⟩⟩
end
theorem Jf {lo:Int}{n:Nat}{g:TG}{tc:TT}{te:TE}{σ:St}{H:Hp}{D:Addr}{Q:VK} (Pv:Nat->St->Hp->Prop) (h0:Pv 0 σ (upd H D (.lst [])))
 (hs:∀i σ' H',i<n->Pv i σ' H'->g (.int (lo+i)) σ' H' fun σ3 H3=>tc σ3 H3 fun b H4=>
   if b=true then te σ3 H4 fun y H5=>∃ys,H5 D=some (.lst ys)/\ys.length<sizeLine/\Pv (i+1) σ3 (upd H5 D (.lst (ys++[y]))) else Pv (i+1) σ3 H4) (hd:∀σ' H',Pv n σ' H'->Q (.ref D) H'):
 Eg (Itr lo n) g tc te D σ (upd H D (.lst [])) Q:=by
 refine⟨fun i m σ H=>m=n - i/\i<=n/\Pv i σ H,⟨n,by simp,Nat.zero_le _,h0⟩, ?_⟩
 rintro i m σ H ⟨rfl,hi,p⟩
 by_cases hlt:i<n
 ·refine .inr ⟨hlt,Pv (i+1),fun σ' H' p'=>⟨n - (i+1),by omega,rfl,hlt,p'⟩,fun x H' y=> ?_⟩
  obtain⟨e,y⟩:=y
  subst e y
  exact hs i σ _ hlt p
 ·have e:i=n:=by omega
  subst e
  exact .inl ⟨Nat.le_refl _,hd σ H p⟩
theorem qm {K:PySem.W.Frag}{a:Addr}{xs:List V}{g:TG}{tc:TT}{te:TE}{σ:St}{H:Hp}{D:Addr}{Q:VK} (Pv:Nat->St->Hp->Prop) (h0:Pv 0 σ (upd H D (.lst []))) (hl:∀i σ H,i<=xs.length->Pv i σ H->SqL K H a xs)
 (hs:∀i x σ' H',xs[i]? =some x->Pv i σ' H'->g x σ' H' fun σ3 H3=>tc σ3 H3 fun b H4=>
   if b=true then te σ3 H4 fun y H5=>∃ys,H5 D=some (.lst ys)/\ys.length<sizeLine/\Pv (i+1) σ3 (upd H5 D (.lst (ys++[y]))) else Pv (i+1) σ3 H4) (hd:∀σ' H',Pv xs.length σ' H'->Q (.ref D) H'):
 Eg (Itl K a) g tc te D σ (upd H D (.lst [])) Q:=by
 refine⟨fun i m σ H=>m=xs.length - i/\i<=xs.length/\Pv i σ H,⟨xs.length,by simp,Nat.zero_le _,h0⟩, ?_⟩
 rintro i m σ H ⟨rfl,hi,p⟩
 have q:=hl i σ H hi p
 by_cases hlt:i<xs.length
 ·refine .inr ⟨⟨xs,xs[i],q,by simp[hlt]⟩,Pv (i+1),fun σ' H' p'=>⟨xs.length - (i+1),by omega,rfl,hlt,p'⟩,fun x H' y=> ?_⟩
  obtain⟨e,y⟩:=y
  subst e
  exact hs i x σ _ (y xs q) p
 ·have e:i=xs.length:=by omega
  subst e
  exact .inl ⟨⟨xs,q,Nat.le_refl _⟩,hd σ H p⟩
end L2
namespace L2
open PySem PySem.Spec PyProof.Rows
def aG (sc:Scope) (x:Str):Prop:=Vis sc x/\(x==("__debug__":Str))=false/\(x==("__classdict__":Str))=false
instance {sc:Scope}{x:Str}:Decidable (aG sc x):=by unfold aG Vis;exact inferInstance
instance {sc:Scope}{x:Str}:Decidable (Loc sc x):=by unfold Loc;exact inferInstance
theorem pvx {X:Cx} (i:Nat) {x:Str}{pos:Pos} (v:aG X.env.scope x) (hN:X.N[i]? =some x:=by rfl):PE X (.Name x pos) (VJ i):=VL hN v.1 v.2.1 v.2.2
def ir (sc:Scope) (x:Str):Prop:=(sc.names.lookup x=some .local\/sc.names.lookup x=some .free)/\(x==("__debug__":Str))=false/\(x==("__classdict__":Str))=false
instance {sc:Scope}{x:Str}:Decidable (ir sc x):=by unfold ir;exact inferInstance
theorem ir.ok {sc:Scope}{env:Env}{x:Str} (h:ir sc x):aG (relabel sc env) x:=by
 obtain⟨h1,h2⟩:=h
 refine⟨?_,h2⟩
 rcases h1 with h1 | h1
 ·exact .inl (lookup_relabel_local h1)
 ·rcases rO (env:=env) h1 with z | z
  ·exact .inr (.inl z)
  ·exact .inr (.inr z)
theorem yj {env:Env}:∀{names:List (Str×NameKind)}{x:Str},names.lookup x=some .globalImplicit->
 (names.map fun(n,k)=>if(k==NameKind.free&&env.scope.kind== .function&&env.kindOf n==some .cell) then(n,NameKind.cell) else(n,k)).lookup x=some .globalImplicit
 |[],_,h=>by simp at h
 | (n,q)::r,x,h=>by
   have ih:=@yj env r x
   rw[List.map_cons]
   cases hx:x==n with
   | true=>
     simp only[List.lookup_cons,hx,Option.some.injEq] at h
     subst h
     simp[List.lookup_cons,hx]
   | false=>
     simp only[List.lookup_cons,hx] at h
     by_cases hc:(q==NameKind.free&&env.scope.kind== .function&&env.kindOf n==some .cell)=true
     ·simpa only[hc,if_true,List.lookup_cons,hx] using ih h
     ·simpa only[hc,if_false,List.lookup_cons,hx,Bool.false_eq_true] using ih h
theorem glC {X:Cx}{N:List Str}{sc:Scope}{pins:List (Addr×Obj)}{C:Addr}{s₀:Shared}{H₀:Hp}{fp:List Addr}{x:Str} (h:sc.names.lookup x=some .globalImplicit):Gl (fY X N sc pins C s₀ H₀ fp) x:=yj h
theorem pgx {X:Cx}{i:Nat}{x:Str}{pos:Pos} (hN:X.N.Nodup) (hx:X.env.scope.names.lookup x=some .local) (hi:X.N[i]? =some x:=by rfl):PG X (.Name x pos) (yf i):=J0 hN hi (.inl hx) (.inr hx)
theorem Bk {sc:Scope}{env:Env}{x:Str} (h:sc.names.lookup x=some .local):(relabel sc env).names.lookup x=some .local:=lookup_relabel_local h
end L2
set_option maxRecDepth 100000
namespace L2
open PySem PySem.Spec PyProof.Rows
def Uy (_ j:Int):Prop:=0<j/\j.natAbs.log2<9000
theorem Nm {X:Cx}:OpR X (binaryOp .FloorDiv) (rI Uy fun i j=> .int (i / j)):=opI fun i j _ _ _ _ _ hc q=>by
 have h1:(0:Int)<j:=hc.1
 exact floordiv_int (by omega) (by rw[Int.fdiv_eq_ediv_of_nonneg i (by omega)];exact q) (.inl (PyProof.noPylong_of_log2 hc.2))
mutual
inductive vQ (K:PySem.W.Frag) (H:Hp):V->PyData->Prop where
 | non:vQ K H .non .none
 | bl (b:Bool):vQ K H (.bl b) (.bool b)
 | int (i:Int):vQ K H (.int i) (.int i)
 | str (x:Str):vQ K H (.str x) (.str x)
 | lst {a:Addr}{xs:List V}{ds:List PyData} (h:SqL K H a xs) (r:uw K H xs ds):vQ K H (.ref a) (.list ds)
 | tup {a:Addr}{xs:List V}{ds:List PyData} (h:SqT K H a xs) (r:uw K H xs ds):vQ K H (.ref a) (.tuple ds)
inductive uw (K:PySem.W.Frag) (H:Hp):List V->List PyData->Prop where
 | nil:uw K H [] []
 | cons {x:V}{d:PyData}{xs:List V}{ds:List PyData} (h:vQ K H x d) (r:uw K H xs ds):uw K H (x::xs) (d::ds)
end
theorem iT {K:PySem.W.Frag}{H:Hp}:∀ns:List Str,uw K H (ns.map V.str) (ns.map PyData.str)
 |[]=> .nil
 | n::r=> .cons (.str n) (iT r)
section
variable {X:Cx}{pins:List (Addr×Obj)}{σ:St}{H:Hp}{s:Shared}
mutual
theorem vQ.reads (I:Inv X pins σ H s):∀{x:V}{d:PyData}{u:Value},vQ X.K H x d->RelV x u->∃as,Reads s.heap u d as
 | _,_,_, .non,r=>by cases(show _=Value.none from r);exact⟨_, .none⟩
 | _,_,_, .bl b,r=>by cases(show _=Value.bool b from r);exact⟨_, .bool b⟩
 | _,_,_, .int i,r=>by obtain⟨t,rfl⟩:=r;exact⟨_, .int i t⟩
 | _,_,_, .str x,r=>by obtain⟨t,rfl⟩:=r;exact⟨_, .str x t⟩
 | _,_,_, .lst h q,r=>by
   cases(show _=Value.ref _ from r)
   obtain⟨its,rv,⟨o,n,e,c,_,d⟩,_⟩:=I.list h
   obtain⟨as,hr⟩:=uw.reads I q rv
   exact⟨_, .list e c d (by simpa using hr)⟩
 | _,_,_, .tup h q,r=>by
   cases(show _=Value.ref _ from r)
   obtain⟨its,rv,⟨o,e,c,n,d⟩,_⟩:=I.tuple h
   obtain⟨as,hr⟩:=uw.reads I q rv
   exact⟨_, .tuple e c d (by simpa using hr)⟩
theorem uw.reads (I:Inv X pins σ H s):∀{xs:List V}{ds:List PyData}{us:List Value},uw X.K H xs ds->Vals xs us->∃as,ReadsAll s.heap us ds as
 | _,_,_, .nil, .nil=>⟨_, .nil⟩
 | _,_,_, .cons h r, .cons q t=>by
   obtain⟨as,h1⟩:=vQ.reads I h q
   obtain⟨bs,h2⟩:=uw.reads I r t
   exact⟨_, .cons h1 h2⟩
end
end
def Q3 (K:PySem.W.Frag) (neg:Bool):R2:=fun x y H Q=>∃d e,vQ K H x d/\vQ K H y e/\SeqAt.shaped d=true/\SeqAt.shaped e=true/\Q (.bl (if neg then !PyData.eqv d e else PyData.eqv d e)) H
theorem Np {X:Cx} (hu:X.A.units+64<cLine):OpR X (compareOp .Eq) (Q3 X.K false):=by
 intro pins s σ H x y v u Q I rx ry h
 obtain⟨d,e,hd,he,sd,se,q⟩:=h
 obtain⟨as,h1⟩:=hd.reads I rx
 obtain⟨bs,h2⟩:=he.reads I ry
 exact eq_dataH h1 h2 sd se hu ⟨.bl _,H,I,rfl,q⟩
theorem Jg {X:Cx} (hu:X.A.units+64<cLine):OpR X (compareOp .NotEq) (Q3 X.K true):=by
 intro pins s σ H x y v u Q I rx ry h
 obtain⟨d,e,hd,he,sd,se,q⟩:=h
 obtain⟨as,h1⟩:=hd.reads I rx
 obtain⟨bs,h2⟩:=he.reads I ry
 exact ne_dataH h1 h2 sd se hu ⟨.bl _,H,I,rfl,q⟩
theorem Nq {X:Cx}:nW X (.builtin "isinstance") (fun xs H Q=>∃x T t b,xs=[x, .ty T]/\pJ X.K H x t/\PySem.W.kitOne X.K t (.type T)=some b/\Q (.bl b) H):=by
 intro pins s σ H xs us Q I r h
 obtain⟨x,T,t,b,rfl,ty,e,q⟩:=h
 obtain⟨u,v,rfl,r1,r2⟩:=Vals.two r
 cases(show v=Value.type T from r2)
 exact K8 I r1 ty e fun tk=>⟨.bl b,H,I.tok tk,rfl,q⟩
theorem ux:bootBuiltins "len"=some (.builtin "len"):=by decide +kernel
theorem ji:bootBuiltins "isinstance"=some (.builtin "isinstance"):=by decide +kernel
theorem WX:bootBuiltins "max"=some (.builtin "max"):=by decide +kernel
theorem WY:bootBuiltins "sum"=some (.builtin "sum"):=by decide +kernel
theorem vC:bootBuiltins "sorted"=some (.builtin "sorted"):=by decide +kernel
theorem W0:bootBuiltins "all"=some (.builtin "all"):=by decide +kernel
theorem W2:bootBuiltins "int"=some (.type "int"):=by decide +kernel
theorem Nr:bootBuiltins "str"=some (.type "str"):=by decide +kernel
theorem Q4:bootBuiltins "bool"=some (.type "bool"):=by decide +kernel
theorem yl:bootBuiltins "list"=some (.type "list"):=by decide +kernel
theorem Bl:bootBuiltins "tuple"=some (.type "tuple"):=by decide +kernel
theorem Fd:bootBuiltins "dict"=some (.type "dict"):=by decide +kernel
theorem W3:bootBuiltins "zip"=some (.type "zip"):=by decide +kernel
end L2
set_option maxRecDepth 100000
namespace L2
open PySem PySem.Spec PyProof.Rows
structure QE (X:Cx) (e:Expr) (t:TE):Prop where
 h:PE X e t
structure QT (X:Cx) (e:Expr) (t:TT):Prop where
 h:PT X e t
structure QW (X:Cx) (e:Expr) (t:TT):Prop where
 h:PW X e t
structure QA (X:Cx) (es:List Expr) (t:TA):Prop where
 h:PA X es t
structure QS (X:Cx) (s:Stmt) (t:TS):Prop where
 h:PS X s t
structure QSs (X:Cx) (s:List Stmt) (t:TS):Prop where
 h:PSs X s t
structure QG (X:Cx) (e:Expr) (t:TG):Prop where
 h:PG X e t
structure QGs (X:Cx) (es:List Expr) (t:TGs):Prop where
 h:PGs X es t
structure QI (X:Cx) (tg e:Expr) (t:TI):Prop where
 h:PI X tg e t
structure QO (X:Cx) (e:Option Expr) (t:TO):Prop where
 h:PO X e t
structure Q5 (X:Cx) (es:List Expr) (t:TT):Prop where
 h:Lp X es t
structure QPs (X:Cx) (pos:Pos) (ks:List (Option Expr)) (vs:List Expr) (t:List (TE×TE)):Prop where
 h:PPs X pos ks vs t
structure QOp (X:Cx) (f:Value->Value->Sem Value) (r:R2):Prop where
 h:OpR X f r
structure QUn (X:Cx) (f:Value->Sem Value) (r:V->Hp->VK->Prop):Prop where
 h:UnR X f r
structure QIx (X:Cx) (r:R2):Prop where
 h:IxR X r
structure QSl (X:Cx) (r:V->Option Int->Option Int->Hp->VK->Prop):Prop where
 h:SlR X r
structure QMt (X:Cx) (id:String) (r:V->List V->Hp->VK->Prop):Prop where
 h:MtR X id r
structure n8 (X:Cx) (f:Value) (r:List V->Hp->VK->Prop):Prop where
 h:nW X f r
section
variable {X:Cx}{a b c e:Expr}{es:List Expr}{ta tb te:TE}{tA tB':TT}{pos p:Pos}{x:Str}
theorem aj (i:Nat) (v:aG X.env.scope x) (hN:X.N[i]? =some x:=by rfl):QE X (.Name x pos) (VJ i):=⟨pvx i v hN⟩
theorem aA {i j pos}:QE X (.Constant (.int i) j pos) (tC (.int i)):=⟨VM⟩
theorem Bm {b j pos}:QE X (.Constant (.bool b) j pos) (tC (.bl b)):=⟨ZW⟩
theorem Jh {j pos}:QE X (.Constant .none j pos) (tC .non):=⟨VN⟩
theorem cU {x j pos}:QE X (.Constant (.str x) j pos) (tC (.str x)):=⟨VP⟩
theorem vD {v:V}{u:Value} (hg:Gl X x) (hm:X.mg x=none) (hv:bootBuiltins x=some u) (r:RelV v u) (hn:x≠"__name__") (hd:(x==("__debug__":Str))=false):QE X (.Name x pos) (tC v):=⟨Qg hg hm hv r hn hd⟩
theorem cV {op:Operator}{r:R2} (ho:QOp X (binaryOp op) r) (ha:QE X a ta) (hb:QE X b tb):QE X (.BinOp a op b pos) (tOp r ta tb):=⟨Z7 ho.h ha.h hb.h⟩
theorem Nt {op:UnaryOp}{r:V->Hp->VK->Prop} (ho:QUn X (unaryOp op) r) (ha:QE X a ta):QE X (.UnaryOp op a pos) (tUn r ta):=⟨Z8 ho.h ha.h⟩
theorem Bo {op:CmpOp}{r:R2} (ho:QOp X (compareOp op) r) (ha:QE X a ta) (hb:QE X b tb) (hm:behindInMarks op b=false):QE X (.Compare a [op] [b] pos) (tOp r ta tb):=⟨Qp ho.h ha.h hb.h hm⟩
theorem cH {op:CmpOp}{r:R2} (ho:QOp X (compareOp op) r) (ha:QE X a ta) (hb:QE X b tb) (hm:behindInMarks op b=false):QT X (.Compare a [op] [b] pos) (Up (tOp r ta tb)):=⟨Qq ho.h ha.h hb.h hm⟩
theorem uy (h:QE X e te) (he:∀whole,isTrue e X.env whole=(do let v <-whole;standAt e.pos;holding [v] (truthy v)):=by intro _;rfl):QT X e (tB te):=⟨VR h.h he⟩
theorem Bp (ha:QE X a ta) (he:∀whole,isTrue a X.env whole=(do let v <-whole;standAt a.pos;holding [v] (truthy v)):=by intro _;rfl):QT X a (fun σ H Q=>ta σ H fun x H1=>∃k,Wm X.K x H1 k/\Q k H1):=⟨MN ha.h he⟩
theorem Ji (ha:QT X a tA):QT X (.UnaryOp .Not a pos) (ZZ tA):=⟨V2 ha.h⟩
theorem W4 (ha:QE X a ta):QE X (.UnaryOp .Not a pos) (Ui ta):=⟨V5 ha.h⟩
theorem Aw (ha:QT X a tA):QW X (.BoolOp .And [a] pos) tA:=⟨Qh ha.h⟩
theorem yX (ha:QT X a tA):QW X (.BoolOp .Or [a] pos) tA:=⟨V0 ha.h⟩
theorem Fe {rest:List Expr} (ha:QT X a tA) (hb:QW X (.BoolOp .And (b::rest) pos) tB'):QW X (.BoolOp .And (a::b::rest) pos) (ZX tA tB'):=⟨V1 ha.h hb.h⟩
theorem Eh {rest:List Expr} (ha:QT X a tA) (hb:QW X (.BoolOp .Or (b::rest) pos) tB'):QW X (.BoolOp .Or (a::b::rest) pos) (tOr tA tB'):=⟨Z0 ha.h hb.h⟩
theorem Dq (h:QW X e tA):QT X e tA:=⟨h.h.pt⟩
theorem Jj {op} (h:QE X a ta):QE X (.BoolOp op [a] pos) ta:=⟨V3 h.h⟩
theorem Ff {rest:List Expr} (ha:QE X a ta) (hb:QE X (.BoolOp .And (b::rest) pos) tb):QE X (.BoolOp .And (a::b::rest) pos) (Uh ta tb):=⟨V4 ha.h hb.h⟩
theorem Nu (hc:QT X c tA) (ha:QE X a ta) (hb:QE X b tb):QE X (.IfExp c a b pos) (tIf tA ta tb):=⟨Mp hc.h ha.h hb.h⟩
theorem aq:QA X [] Qu:=⟨Wt⟩
theorem j8 {t:TA} (ha:QE X e te) (hr:QA X es t) (hs:starEach (e::es) X.env=(false,eval e X.env)::starEach es X.env:=by rfl):QA X (e::es) (pq te t):=⟨Qv ha.h hr.h hs⟩
theorem gK {x1}{t:TA} (h:QA X es t):QE X (.Tuple es x1 pos) (aah t):=⟨Wu h.h⟩
theorem gh {t:TA} (h:QA X es t):QE X (.List es pos) (aai t):=⟨Wv h.h⟩
theorem bz {r:R2} (hr:QIx X r) (ha:QE X a ta) (hb:QE X b tb) (hs:J6 b:=by intro _ _;rfl):QE X (.Subscript a b pos) (tOp r ta tb):=⟨aak hr.h ha.h hb.h hs⟩
theorem Q6:QO X none J5:=⟨Qz⟩
theorem Q7 (h:QE X e te):QO X (some e) (Us te):=⟨QB h.h⟩
theorem Nv {r:V->Option Int->Option Int->Hp->VK->Prop}{lo hi:Option Expr}{tl th:TO}{p2:Pos} (hr:QSl X r) (he:QE X e te) (hl:QO X lo tl) (hu:QO X hi th):QE X (.Subscript e (.Slice lo hi none p2) pos) (tSl r te tl th):=⟨M6 hr.h he.h hl.h hu.h⟩
theorem eF (hu:X.A.units+1<cLine) (ho:QE X a ta) (hi:QE X b tb) (hs:WN b:=by intro _ _;rfl):QE X (.Subscript a b pos) (Uu ta tb):=⟨QK hu ho.h hi.h hs⟩
theorem W5:QPs X pos [] [] []:=⟨QM⟩
theorem Fg {k v:Expr}{ks:List (Option Expr)}{vs:List Expr}{tk tv:TE}{trs:List (TE×TE)} (hk:QE X k tk) (hv:QE X v tv) (hr:QPs X pos ks vs trs):QPs X pos (some k::ks) (v::vs) ((tk,tv)::trs):=⟨Ng hk.h hv.h hr.h⟩
theorem Q8 {keys:List (Option Expr)}{values:List Expr}{trs:List (TE×TE)} (h:QPs X pos keys values trs) (hall:keys.all (·.isSome)=true:=by rfl) (hl:keys.length=values.length:=by rfl) (h1:keys≠[]:=by intro z;cases z) (h2:keys.length<=15:=by decide):QE X (.Dict keys values pos) (Uw trs):=⟨QV h.h hall hl h1 h2⟩
theorem aY {CX:CXT}{k:Nat}{f:Addr}{fd:FuncData}{ps:List Str}{sp:Sp}{dvs:List V}{ds:List Value}{E:XK}{t:TA} (F:bx X.prog X.w X.K X.mg X.base CX k f fd ps sp) (hr:kZ k X.A) (hg:Gl X x) (hm:X.mg x=some (.ref f)) (hk:PySem.W.keepIn X.K (.ref f)=true) (hb:Binds X.K fd ps ds) (hd:Vals dvs ds) (hx:Passes CX X E)
 (ha:QA X (e::es) t) (hdb:(x==("__debug__":Str))=false) (he:starEach (e::es) X.env=(false,eval e X.env)::starEach es X.env:=by rfl) (hpl:(backTo pos (starEach es X.env)).any (·.1)=false:=by rfl):
 QE X (.Call (.Name x p) (e::es) [] pos) (Uq sp dvs E t):=⟨Qw F hr hg hm hk hb hd hx ha.h hdb he hpl⟩
theorem dF {id:String}{r:List V->Hp->VK->Prop}{t:TA} (hc:n8 X (.builtin id) r) (hg:Gl X x) (hm:X.mg x=none) (hv:bootBuiltins x=some (.builtin id)) (ha:QA X (e::es) t) (hn:x≠"__name__") (hdb:(x==("__debug__":Str))=false)
 (he:starEach (e::es) X.env=(false,eval e X.env)::starEach es X.env:=by rfl) (hpl:(backTo pos (starEach es X.env)).any (·.1)=false:=by rfl):QE X (.Call (.Name x p) (e::es) [] pos) (tCB r t):=⟨M5 hc.h hg hm hv ha.h hn hdb he hpl⟩
theorem kJ {T:String}{r:List V->Hp->VK->Prop}{t:TA} (hc:n8 X (.type T) r) (hg:Gl X x) (hm:X.mg x=none) (hv:bootBuiltins x=some (.type T)) (ha:QA X (e::es) t) (hn:x≠"__name__") (hdb:(x==("__debug__":Str))=false)
 (he:starEach (e::es) X.env=(false,eval e X.env)::starEach es X.env:=by rfl) (hpl:(backTo pos (starEach es X.env)).any (·.1)=false:=by rfl):QE X (.Call (.Name x p) (e::es) [] pos) (tCB r t):=⟨La hc.h hg hm hv ha.h hn hdb he hpl⟩
theorem yZ {o:Expr}{to:TE}{name:Str}{apos cpos:Pos}{T id:String}{r:V->List V->Hp->VK->Prop} (pa:PlainAttrs T) (slot:Slot T name id) (hty:typeOf (.builtin id)=pure (.type "method_descriptor")) (hm:QMt X id r) (ho:QE X o to)
 (hbase:attributeBase o name X.env (eval o X.env)=eval o X.env:=by rfl) (hline:(apos.endLine==cpos.line)=true:=by rfl):QE X (.Call (.Attribute o name apos) [] [] cpos) (aan X.K T r to):=⟨WK pa slot hty hm.h ho.h hbase hline⟩
theorem tH {o:Expr}{to:TE}{name:Str}{apos cpos:Pos}{T id:String}{r:V->List V->Hp->VK->Prop}{t:TA} (pa:PlainAttrs T) (slot:Slot T name id) (hty:typeOf (.builtin id)=pure (.type "method_descriptor")) (hm:QMt X id r) (ho:QE X o to) (ha:QA X (e::es) t)
 (hbase:attributeBase o name X.env (eval o X.env)=eval o X.env:=by rfl)
 (hfew:((backTo cpos (starEach (e::es) X.env)).all (fun x=> !x.1)&&(backToKw cpos (keywordEach [] X.env)).all (fun x=>x.1.isSome)
   &&decide ((e::es).length+([]:List Keyword).length+(if([]:List Keyword).isEmpty then 0 else 1)<30))=true:=by rfl)
 (hline:(apos.endLine==cpos.line)=true:=by rfl) (hs:starEach (e::es) X.env=(false,eval e X.env)::starEach es X.env:=by rfl) (hplain:(backTo cpos (starEach es X.env)).any (·.1)=false:=by rfl):
 QE X (.Call (.Attribute o name apos) (e::es) [] cpos) (tBM X.K T r to t):=⟨aao pa slot hty hm.h ho.h ha.h hbase hfew hline hs hplain⟩
theorem pA {n:Nat}{fr:List Nat}{N:List Str}{sc:Scope}{elt tg iter:Expr}{ifs:List Expr}{wi:TI}{g:TG}{tc:TT} (hc:X.calm=true) (S:uv X n fr N sc) (hit:QI X tg iter wi)
 (hg:∀pins C s₀ H₀ fp,QG (fY X N sc pins C s₀ H₀ fp) tg g) (hi:∀pins C s₀ H₀ fp,Q5 (fY X N sc pins C s₀ H₀ fp) ifs tc) (he:∀pins C s₀ H₀ fp,QE (fY X N sc pins C s₀ H₀ fp) elt te)
 (hs:∀x,foldedSetIterable iter X.env x=pure x:=by intro _;rfl):QE X (.ListComp elt [⟨tg,iter,ifs,0⟩] sc pos) (Ke wi n fr g tc te):=
 ⟨Q0 hc S hit.h (fun a b c d e=>(hg a b c d e).h) (fun a b c d e=>(hi a b c d e).h) (fun a b c d e'=>(he a b c d e').h) hs⟩
theorem Jk {i:Nat}{pos' spos:Pos}{n:Nat}{fr:List Nat}{N:List Str}{sc:Scope}{elt tg iter:Expr}{ifs:List Expr}{wi:TI}{g:TG}{tc:TT} (hc:X.calm=true) (hN:X.N.Nodup) (hi':X.N[i]? =some x) (hx:Loc X.env.scope x) (S:uv X n fr N sc) (hit:QI X tg iter wi)
 (hg:∀pins C s₀ H₀ fp,QG (fY X N sc pins C s₀ H₀ fp) tg g) (hi:∀pins C s₀ H₀ fp,Q5 (fY X N sc pins C s₀ H₀ fp) ifs tc) (he:∀pins C s₀ H₀ fp,QE (fY X N sc pins C s₀ H₀ fp) elt te)
 (hsw:swapsWith (.ListComp elt [⟨tg,iter,ifs,0⟩] sc pos) (some (.Name x pos')) spos.line X.env=pure true)
 (hs:∀x,foldedSetIterable iter X.env x=pure x:=by intro _;rfl) (hf:X.fn x=true\/X.env.scope.names.lookup x=some .local:=by first | exact .inl rfl | exact .inr rfl | assumption):
 QS X (.Assign [.Name x pos'] (.ListComp elt [⟨tg,iter,ifs,0⟩] sc pos) spos) (KZ (Ke wi n fr g tc te) (yf i)):=
 ⟨Je hc hN hi' hx S hit.h (fun a b c d e=>(hg a b c d e).h) (fun a b c d e=>(hi a b c d e).h) (fun a b c d e'=>(he a b c d e').h) hsw hs hf⟩
theorem Nx:Q5 X [] Ux:=⟨Nj⟩
theorem wN {t:TT} (h:QT X c t):Q5 X [c] t:=⟨Nk h.h⟩
theorem pB {tg l:Expr}{tl:TE} (hl:QE X l tl):QI X tg l (Um X.K tl):=⟨Qn hl.h⟩
theorem za {tg:Expr}{t:TA} (hg:Gl X "range") (hm:X.mg "range"=none) (ha:QA X [a] t) (hs:starEach [a] X.env=[(false,eval a X.env)]:=by rfl):QI X tg (.Call (.Name "range" p) [a] [] pos) (Uo t):=⟨K3 hg hm ha.h hs⟩
theorem rP {i:Nat} (hN:X.N.Nodup) (hi:X.N[i]? =some x) (hx:Loc X.env.scope x) (hf:X.fn x=true\/X.env.scope.names.lookup x=some .local:=by first | exact .inl rfl | exact .inr rfl | assumption):QG X (.Name x pos) (yf i):=⟨J0 hN hi hx hf⟩
theorem qgx {i:Nat} (hN:X.N.Nodup) (hx:X.env.scope.names.lookup x=some .local) (hi:X.N[i]? =some x:=by rfl):QG X (.Name x pos) (yf i):=⟨pgx hN hx hi⟩
theorem Fi:QGs X [] Z5:=⟨Qm⟩
theorem qp {t:TG}{u:TGs} (h1:QG X e t) (h2:QGs X es u) (hs:(assignEach (e::es) X.env).map (·.2)=assign e X.env::(assignEach es X.env).map (·.2):=by rfl):QGs X (e::es) (Ul t u):=⟨Mw h1.h h2.h hs⟩
theorem Ny {k n:Nat}{t:TGs} (hc:X.calm=true) (h:QGs X es t) (hn:(assignEach es X.env).length=n:=by rfl) (hst:(assignEach es X.env).findIdx? (·.1)=none:=by rfl):QG X (.Tuple es k pos) (V7 X.K n t):=⟨V8 hc h.h hn hst⟩
theorem W6 {tg:Expr}{g:TG} (he:QE X e te) (hg:QG X tg g) (hs:swapsWithSole [tg] e pos.line X.env=pure false:=by rfl) (hw:swappedStores [tg] e X.env=pure none:=by rfl)
 (h1:(assignEach [tg] X.env).map (·.2)=[assign tg X.env]:=by rfl):QS X (.Assign [tg] e pos) (KZ te g):=⟨V9 he.h hg.h hs hw h1⟩
theorem cg {i:Nat}{pos':Pos} (hN:X.N.Nodup) (hi:X.N[i]? =some x) (hx:Loc X.env.scope x) (he:QE X e te) (hs:swapsWith e (some (.Name x pos')) pos.line X.env=pure false:=by rfl) (hf:X.fn x=true\/X.env.scope.names.lookup x=some .local:=by first | exact .inl rfl | exact .inr rfl | assumption):
 QS X (.Assign [.Name x pos'] e pos) (KZ te (yf i)):=⟨Wa hN hi hx he.h hs hf⟩
theorem j9 {o i v:Expr}{td ty tv:TE}{pos':Pos} (hu:X.A.units+1<cLine) (ho:QE X o td) (hi:QE X i ty) (hv:QE X v tv) (hs:swapsWith v (some (.Subscript o i pos')) pos.line X.env=pure false:=by rfl):QS X (.Assign [.Subscript o i pos'] v pos) (Uv td ty tv):=⟨QL hu ho.h hi.h hv.h hs⟩
theorem fK (he:QE X e te) (hs:swapsWith e none pos.line X.env=pure false:=by rfl):QS X (.Expr e pos) (Uk te):=⟨Ql he.h hs⟩
theorem bU (he:QE X e te):QS X (.Return (some e) pos) (Z2 te):=⟨V6 he.h⟩
theorem Q9:QS X (.Pass pos) JZ:=⟨Qk⟩
theorem GX:QS X (.Continue pos) Uj:=⟨Gy⟩
theorem dO {s1 s2:List Stmt}{t u:TS} (hc:QT X c tA) (ha:QSs X s1 t) (hb:QSs X s2 u):QS X (.If c s1 s2 pos) (Z3 tA t u):=⟨Z4 hc.h ha.h hb.h⟩
theorem Bq {body:List Stmt}{tb:TS} (hp:PassesOwn (model X.prog X.w) X.A X.env X.xe) (hc:QT X c tA) (hb:QSs X body tb):QS X (.While c body [] pos) (Mx tA tb):=⟨Mz hp hc.h hb.h⟩
theorem Br {tg iter:Expr}{body:List Stmt}{wi:TI}{g:TG}{tb:TS} (hp:PassesOwn (model X.prog X.w) X.A X.env X.xe) (hc:X.calm=true) (hi:QI X tg iter wi) (hg:QG X tg g) (hb:QSs X body tb)
 (hs:∀x,foldedSetIterable iter X.env x=pure x:=by intro _;rfl):QS X (.For tg iter body [] pos) (Z6 wi g tb):=⟨Wb hp hc hi.h hg.h hb.h hs⟩
theorem cT:QSs X [] JZ:=⟨Qi⟩
theorem au {s:Stmt}{rest:List Stmt}{t u:TS} (h1:QS X s t) (h2:QSs X rest u):QSs X (s::rest) (Z1 t u):=⟨Mr h1.h h2.h⟩
theorem aD {s:Stmt}{t:TS} (h1:QS X s t):QSs X [s] t:=⟨Qj h1.h⟩
theorem lu:QOp X (binaryOp .Add) (rI0 fun i j=> .int (i+j)):=⟨We⟩
theorem lW:QOp X (binaryOp .Sub) (rI0 fun i j=> .int (i - j)):=⟨Wf⟩
theorem rQ:QOp X (binaryOp .Mult) (rI Bc fun i j=> .int (i * j)):=⟨Wg⟩
theorem lX:QOp X (binaryOp .Mod) (rI (fun _ j=>0<j) fun i j=> .int (i % j)):=⟨Wh⟩
theorem GZ:QOp X (binaryOp .FloorDiv) (rI Uy fun i j=> .int (i / j)):=⟨Nm⟩
theorem Fj:QOp X (binaryOp .Pow) (rI Qo fun i j=> .int (i ^ j.toNat)):=⟨Wi⟩
theorem G3:QOp X (binaryOp .Add) (fun x y H Q=>∃i j,x= .str i/\y= .str j/\i.length+j.length<=sizeLine/\Q (.str (i++j)) H):=⟨Ip⟩
theorem Ra:QOp X (binaryOp .Add) aaq:=⟨WM⟩
theorem Fl:QUn X (unaryOp .USub) (rU fun i=> .int (-i)):=⟨Wj⟩
theorem gj:QOp X (compareOp .Eq) rEq:=⟨aac⟩
theorem zb:QOp X (compareOp .NotEq) rNe:=⟨aad⟩
theorem Nz:QOp X (compareOp .Lt) (rI0 fun i j=> .bl (decide (i<j))):=⟨aae⟩
theorem W7:QOp X (compareOp .Gt) (rI0 fun i j=> .bl (decide (j<i))):=⟨aaf⟩
theorem Rb:QOp X (compareOp .Is) (fun x y H Q=>y= .non/\Q (.bl (decide (x= .non))) H):=⟨Wk⟩
theorem Rc (hu:X.A.units+64<cLine):QOp X (compareOp .Eq) (Q3 X.K false):=⟨Np hu⟩
theorem Rf (hu:X.A.units+64<cLine):QOp X (compareOp .NotEq) (Q3 X.K true):=⟨Jg hu⟩
theorem Jl:QOp X (compareOp .In) (rIn X.K false):=⟨Ld⟩
theorem Dr:QOp X (compareOp .NotIn) (rIn X.K true):=⟨Ez⟩
theorem iw:QIx X (Ww X.K):=⟨QD⟩
theorem aL:QIx X (Wx X.K):=⟨Wy⟩
theorem Kf:QIx X aal:=⟨Wz⟩
theorem NB:QSl X (aam X.K):=⟨QF⟩
theorem iU:QMt X "list.append" J7:=⟨DY⟩
theorem wO:QMt X "list.extend" J8:=⟨Lg⟩
theorem vG:QMt X "list.pop" aap:=⟨WL⟩
theorem jw:n8 X (.builtin "len") (fun xs H Q=>∃p ys,xs=[.ref p]/\(SqL X.K H p ys\/SqT X.K H p ys)/\Q (.int ys.length) H):=⟨EY⟩
theorem zc:n8 X (.builtin "isinstance") (fun xs H Q=>∃x T t b,xs=[x, .ty T]/\pJ X.K H x t/\PySem.W.kitOne X.K t (.type T)=some b/\Q (.bl b) H):=⟨Nq⟩
theorem Jm:n8 X (.type "list") (fun xs H Q=>∃p ys,xs=[.ref p]/\(SqL X.K H p ys\/SqT X.K H p ys)/\∀l,H l=none->Q (.ref l) (upd H l (.lst ys))):=⟨Fb⟩
theorem G4:n8 X (.type "tuple") (fun xs H Q=>∃p ys,xs=[.ref p]/\SqL X.K H p ys/\∀l,H l=none->Q (.ref l) (upd H l (.tup ys))):=⟨fun pins s σ H xs us Q I r h=>Dn pins s σ H xs us Q I r (let ⟨p,ys,e,hs,q⟩:=h;⟨p,ys,e, .inl ⟨hs,q⟩⟩)⟩
theorem bB (b:Expr) {op:CmpOp} (h:op≠ .In:=by decide) (h2:op≠ .NotIn:=by decide):behindInMarks op b=false:=Wl b h h2
theorem Ei {K:PySem.W.Frag} (e:X.K=K):QIx X (Ww K):=e▸iw
theorem uz {K:PySem.W.Frag} (e:X.K=K):QIx X (Wx K):=e▸aL
theorem Bs {K:PySem.W.Frag} (e:X.K=K):QOp X (compareOp .NotIn) (rIn K true):=e▸Dr
theorem G5 {K:PySem.W.Frag} (e:X.K=K):n8 X (.builtin "len") (fun xs H Q=>∃p ys,xs=[.ref p]/\(SqL K H p ys\/SqT K H p ys)/\Q (.int ys.length) H):=e▸jw
end
end L2
set_option maxRecDepth 100000
namespace L2
open PySem PySem.Spec PyProof.Rows
theorem Lq {X:Cx} (hc:X.calm=true):nW X (.builtin "all") (fun xs H Q=>∃(p:Addr) (bs:List Bool),xs=[V.ref p]/\SqL X.K H p (bs.map V.bl)/\Q (.bl (bs.all id)) H):=by
 intro pins s σ H xs us Q I r h
 obtain⟨p,bs,rfl,hp,q⟩:=h
 obtain⟨u,rfl,ru⟩:=Vals.one r
 cases(show u=Value.ref p from ru)
 obtain⟨its,rv,pl,hz⟩:=I.list hp
 have hlt:p<s.heap.objs.size:=by obtain⟨o,n,e,_⟩:=pl;exact Heap.lt_size e
 have hlen:its.length=bs.length:=by rw[<-rv.length,List.length_map]
 refine call_all_walk (wpAny_pyIter_list pl.isList ?_)
 refine⟨s.heap.objs.size,_,_,its.toArray.size,(fun i v=>its.toArray[i]? =some v),_,(fun i=>bs.getD i false),rfl,Walks.list (A:=X.A.in1) (I.ok.hd hc) s.heap.objs.size p (Nat.ne_of_lt hlt) its.toArray,⟨⟨_,Heap.get?_push_size _ rfl,rfl,rfl⟩,pl.isList.push _⟩, ?_, ?_⟩
 ·intro i v s' Q' E' hv hq
  have hi:i<bs.length:=by
   rw[<-hlen]
   have:=(Array.getElem?_eq_some_iff.mp hv).1
   simpa using this
  obtain⟨u,hu,ru⟩:=rv.get (i:=i) (x:=V.bl bs[i]) (by rw[List.getElem?_map,List.getElem?_eq_getElem hi];rfl)
  have hv':its[i]? =some v:=by simpa using hv
  rw[hu] at hv'
  cases hv'
  cases(show v=Value.bool _ from ru)
  refine wpAny_truthy_bool ?_
  have e:bs.getD i false=bs[i]:=by rw[List.getD_eq_getElem?_getD,List.getElem?_eq_getElem hi];rfl
  have hq':Q' (bs.getD i false) s':=hq
  rw[e] at hq'
  exact hq'
 ·intro h' tk hk
  have e:(List.range its.toArray.size).all (fun i=>bs.getD i false)=bs.all id:=by
   rw[List.size_toArray,hlen]
   rw[Bool.eq_iff_iff,List.all_eq_true,List.all_eq_true]
   constructor
   ·intro h b hb
    obtain⟨i,hi,rfl⟩:=List.mem_iff_getElem.mp hb
    have:=h i (List.mem_range.mpr hi)
    rw[List.getD_eq_getElem?_getD,List.getElem?_eq_getElem hi] at this
    exact this
   ·intro h i hi
    have hi':=List.mem_range.mp hi
    rw[List.getD_eq_getElem?_getD,List.getElem?_eq_getElem hi']
    exact h _ (List.getElem_mem hi')
  rw[e]
  refine⟨.bl _,H,I.kept (t':=tk) fun b o eb=>hk b o ?_ (Heap.get?_push_of_some _ eb),rfl,q⟩
  intro z
  have:b=s.heap.objs.size:=by simpa using z
  exact absurd (Heap.lt_size eb) (by rw[this];exact Nat.lt_irrefl _)
section
variable {X:Cx}{a b c e:Expr}{ta tb tc te:TE}{pos:Pos}
theorem Rg (hc:X.calm=true):n8 X (.builtin "all") (fun xs H Q=>∃(p:Addr) (bs:List Bool),xs=[V.ref p]/\SqL X.K H p (bs.map V.bl)/\Q (.bl (bs.all id)) H):=⟨Lq hc⟩
end
end L2
set_option maxRecDepth 100000
namespace RB
open PySem L2 PySem.Spec PyProof.Rows
def But (S:List Addr) (H H':Hp):Prop:=∀b o,b∉S->H b=some o->H' b=some o
theorem But.refl (S:List Addr) (H:Hp):But S H H:=fun _ _ _ h=>h
theorem But.trans {S:List Addr}{H H1 H2:Hp} (a:But S H H1) (b:But S H1 H2):But S H H2:=fun c o n h=>b c o n (a c o n h)
theorem But.mono {S S':List Addr}{H H':Hp} (a:But S H H') (h:∀b∈S,b∈S'):But S' H H':=fun c o n q=>a c o (fun z=>n (h c z)) q
theorem But.new {S:List Addr}{H:Hp}{p:Addr} (o:HO) (h:H p=none):But S H (upd H p o):=fun b u _ q=>by rw[ao (aF q h)];exact q
theorem But.set {S:List Addr}{H:Hp}{p:Addr} (o:HO) (h:p∈S):But S H (upd H p o):=fun b u n q=>by rw[ao (show b≠p from fun e=>n (by rw[e];exact h))];exact q
theorem But.of_same {S:List Addr}{H H':Hp} (h:aN H H'):But S H H':=fun b o _ q=>h b o q
theorem aC {H:Hp}{p:Addr} (o:HO) (h:H p=none):aN H (upd H p o):=fun b u q=>by rw[ao (aF q h)];exact q
def mR (H H':Hp):Prop:=∀b xs,H b=some (.tup xs)->H' b=some (.tup xs)
theorem aN.tups {H H':Hp} (h:aN H H'):mR H H':=fun b xs q=>h b _ q
inductive Op where | plus | minus | times | most
 deriving DecidableEq
def Op.word:Op->Str
 | .plus=>"plus" | .minus=>"minus" | .times=>"times" | .most=>"most"
inductive R where
 | num (n:Int) | rd (x:Str) | bin (op:Op) (a b:R) | pick (a b c:R) | cho (a:R) (ns:List Str)
def R.depth:R->Nat
 | .num _=>1
 | .rd _=>1
 | .bin _ a b=>max a.depth b.depth+1
 | .pick a b c=>max a.depth (max b.depth c.depth)+1
 | .cho a _=>a.depth+1
def Kg (c:Nat):Prop:=97<=c/\c<=122
def mz (x:Str):Prop:=1<=x.length/\x.length<=8/\∀c∈x.cps.toList,Kg c
def R.Good:R->Prop
 | .num n=>n.natAbs<10 ^ 40
 | .rd x=>mz x
 | .bin _ a b=>a.Good/\b.Good
 | .pick a b c=>a.Good/\b.Good/\c.Good
 | .cho a ns=>a.Good/\1<=ns.length/\ns.length<=9/\∀x∈ns,mz x
inductive IsR (H:Hp):Addr->R->Prop where
 | num {a:Addr}{n:Int} (e:H a=some (.tup [.str "number", .int n])):IsR H a (.num n)
 | rd {a:Addr}{x:Str} (e:H a=some (.tup [.str "read", .str x])):IsR H a (.rd x)
 | bin {a b c:Addr}{op:Op}{r s:R} (e:H a=some (.tup [.str op.word, .ref b, .ref c])) (h1:IsR H b r) (h2:IsR H c s):IsR H a (.bin op r s)
 | pick {a b c d:Addr}{r s t:R} (e:H a=some (.tup [.str "pick", .ref b, .ref c, .ref d])) (h1:IsR H b r) (h2:IsR H c s) (h3:IsR H d t):IsR H a (.pick r s t)
 | cho {a b c:Addr}{r:R}{ns:List Str} (e:H a=some (.tup [.str "choose", .ref b, .ref c])) (h1:IsR H b r) (h2:H c=some (.tup (ns.map V.str))):IsR H a (.cho r ns)
theorem IsR.tups {H H':Hp} (t:mR H H') {a:Addr}{r:R} (h:IsR H a r):IsR H' a r:=by
 induction h with
 | num e=>exact .num (t _ _ e)
 | rd e=>exact .rd (t _ _ e)
 | bin e _ _ i1 i2=>exact .bin (t _ _ e) i1 i2
 | pick e _ _ _ i1 i2 i3=>exact .pick (t _ _ e) i1 i2 i3
 | cho e _ h2 i1=>exact .cho (t _ _ e) i1 (t _ _ h2)
theorem IsR.same {H H':Hp} (t:aN H H') {a:Addr}{r:R} (h:IsR H a r):IsR H' a r:=h.tups (aN.tups t)
def Kh (K:PySem.W.Frag):Sp:=fun vs H Q _=>∃(a:Addr) (ns:List Int),vs=[.ref a]/\SqL K H a (ns.map V.int)/\ns.length<=63/\∀H',Q (.bl true) H'
structure FnT (K:PySem.W.Frag) (mg:Str->Option Value) (x:Str) (st:Stmt) (ps:List Str) (f:Addr) (fd:FuncData):Prop where
 F:Fun K x x st f fd
 b:Binds K fd ps []
 m:mg x=some (.ref f)
structure Blt (mg:Str->Option Value):Prop where
 zW:mg "len"=none
 Fo:mg "range"=none
 Uz:mg "str"=none
 aau:mg "int"=none
 Bt:mg "list"=none
 Fp:mg "tuple"=none
 jG:mg "isinstance"=none
 W8:mg "bool"=none
 Jo:mg "dict"=none
 aav:mg "sum"=none
 aaw:mg "all"=none
 afY:mg "any"=none
 aax:mg "max"=none
 afZ:mg "min"=none
 ym:mg "sorted"=none
 af0:mg "set"=none
 UG:mg "enumerate"=none
 aay:mg "zip"=none
 W9:mg "reversed"=none
 af1:mg "abs"=none
end RB
namespace RB
open PySem L2 PySem.Spec PyProof.Rows
theorem aaz {xs:List Int}{i:Int} (h0:0<=i) (h1:i<((xs.map V.int).length:Int)):∃v j,atI (xs.map V.int) i=some (.int v)/\ixN (xs.map V.int).length i=some j/\j<xs.length/\∀u:Int,(xs.map V.int).set j (.int u)=(xs.set j u).map V.int:=by
 have hl:(xs.map V.int).length=xs.length:=List.length_map _
 obtain⟨j,rfl⟩:=Int.eq_ofNat_of_zero_le h0
 have hj:j<xs.length:=by omega
 refine⟨xs[j],j,iR (by rw[List.getElem?_map,List.getElem?_eq_getElem hj];rfl), ?_,hj,fun u=> ?_⟩
 ·unfold ixN
  rw[if_pos h0,if_pos (by omega)]
  simp
 ·rw[List.map_set]
end RB
namespace RB
open PySem L2 PySem.Spec PyProof.Rows
theorem But.upd {S:List Addr}{H H':Hp}{p:Addr} (b:But S H H') (o:HO) (h:H p=none):But S H (upd H' p o):=fun c u n q=>by
 rw[ao (aF q h)];exact b c u n q
instance (x:Str):Decidable (mz x):=by unfold mz Kg;exact inferInstance
theorem G6:(Str.ofString "abcdefghijklmnopqrstuvwxyz").cps.toList=(List.range 26).map (· +97):=by decide +kernel
theorem aaA {c A B:Prop} [Decidable c] (hc:c) (h:A):if decide c=true then A else B:=by rw[if_pos (decide_eq_true hc)];exact h
theorem aaB {c A B:Prop} [Decidable c] (hc:¬c) (h:B):if decide c=true then A else B:=by rw[if_neg (by simpa using hc)];exact h
theorem aaC {c A B:Prop} [Decidable c] (hc:¬c) (h:A):if(!decide c)=true then A else B:=by rw[if_pos (by simpa using hc)];exact h
end RB
namespace RB
open PySem L2 PySem.Spec PyProof.Rows
theorem never {P:Program}{w:World}{K:PySem.W.Frag}{mg:Str->Option Value}{base:Heap}{k:Nat}{f:Addr}{fd:FuncData}{ps:List Str}{sp:Sp} (no:∀vs H Q E,¬sp vs H Q E):bx P w K mg base CX0 k f fd ps sp:=
 ⟨fun vs H Q E h=>absurd h (no vs H Q E),fun A outer s H args us vs Q E _ _ _ _ h=>absurd h (no vs H Q E)⟩
end RB
namespace RB
open PySem L2 PySem.Spec PyProof.Rows
end RB
namespace RB
open PySem L2 PySem.Spec PyProof.Rows
theorem shaped_ints (ns:List Int):SeqAt.shaped (.list (ns.map PyData.int))=true:=by
 simp[SeqAt.shaped,PyData.canLay0,PyData.canLayAll0,PyData.depth,PyData.depthAll,PySem.W.ke_canLayAll0,PySem.W.ke_depthAll]
end RB
namespace RB
open PySem L2 PySem.Spec PyProof.Rows
end RB
namespace RB
open PySem L2 PySem.Spec PyProof.Rows
theorem d7 {H H':Hp}{p:Addr} (o:HO) (h:H p=none) (s:aN H H'):aN H (upd H' p o):=fun b u q=>by
 rw[ao (aF q h)];exact s b u q
end RB
namespace RB
open PySem L2 PySem.Spec PyProof.Rows
end RB
set_option maxRecDepth 100000
namespace RB
open PySem L2 PySem.Spec PyProof.Rows
inductive Th where
 | non | bl (b:Bool) | int (i:Int) | str (x:Str) | tup (xs:List Th) | oth (T:String)
mutual
inductive m6 (K:PySem.W.Frag) (H:Hp):V->Th->Prop where
 | non:m6 K H .non .non
 | bl (b:Bool):m6 K H (.bl b) (.bl b)
 | int (i:Int):m6 K H (.int i) (.int i)
 | str (x:Str):m6 K H (.str x) (.str x)
 | tup {a:Addr}{vs:List V}{ts:List Th} (e:H a=some (.tup vs)) (h:lK K H vs ts):m6 K H (.ref a) (.tup ts)
 | oth {a:Addr}{T:String} (h:pJ K H (.ref a) (.type T)) (hT:T="list"\/T="dict") (keep:∀H',aN H H'->pJ K H' (.ref a) (.type T)):m6 K H (.ref a) (.oth T)
inductive lK (K:PySem.W.Frag) (H:Hp):List V->List Th->Prop where
 | nil:lK K H [] []
 | cons {v:V}{t:Th}{vs:List V}{ts:List Th} (h:m6 K H v t) (r:lK K H vs ts):lK K H (v::vs) (t::ts)
end
mutual
theorem m6.same {K:PySem.W.Frag}{H H':Hp} (s:aN H H'):∀{v:V}{t:Th},m6 K H v t->m6 K H' v t
 | _,_, .non=> .non
 | _,_, .bl b=> .bl b
 | _,_, .int i=> .int i
 | _,_, .str x=> .str x
 | _,_, .tup e h=> .tup (s _ _ e) (lK.same s h)
 | _,_, .oth h hT k=> .oth (k _ s) hT fun H2 s2=>k _ (s.trans s2)
theorem lK.same {K:PySem.W.Frag}{H H':Hp} (s:aN H H'):∀{vs:List V}{ts:List Th},lK K H vs ts->lK K H' vs ts
 | _,_, .nil=> .nil
 | _,_, .cons h r=> .cons (m6.same s h) (lK.same s r)
end
theorem lK.length {K:PySem.W.Frag}{H:Hp}:∀{vs:List V}{ts:List Th},lK K H vs ts->vs.length=ts.length
 | _,_, .nil=>rfl
 | _,_, .cons _ r=>congrArg (· +1) (lK.length r)
theorem lK.get {K:PySem.W.Frag}{H:Hp}:∀{vs:List V}{ts:List Th}{i:Nat}{v:V},lK K H vs ts->vs[i]? =some v->∃t,ts[i]? =some t/\m6 K H v t
 | _,_,_,_, .nil,e=>by simp at e
 | _,_,0,_, .cons h _,e=>by simp at e;subst e;exact⟨_,rfl,h⟩
 | _,_,i+1,v, .cons _ r,e=>by
   obtain⟨t,h1,h2⟩:=lK.get (i:=i) (v:=v) r (by simpa using e)
   exact⟨t,by simpa using h1,h2⟩
def G7:Th->String
 | .non=>"NoneType" | .bl _=>"bool" | .int _=>"int" | .str _=>"str" | .tup _=>"tuple" | .oth T=>T
theorem m6.ty {K:PySem.W.Frag}{H:Hp}{v:V}{t:Th} (h:m6 K H v t):pJ K H v (.type (G7 t)):=by
 cases h with
 | non=>exact .non
 | bl b=>exact .bl b
 | int i=>exact .int i
 | str x=>exact .str x
 | tup e _=>exact .tup e
 | oth h _ _=>exact h
def tys:List String:=["NoneType","bool","int","str","tuple","list","dict"]
def NK (t c:String):Bool:=t==c||(t=="bool"&&c=="int")
def Kinds (K:PySem.W.Frag):Prop:=∀t∈tys,∀c∈tys,PySem.W.kitOne K (.type t) (.type c)=some (NK t c)
theorem NP {K:PySem.W.Frag} (h:(tys.all fun t=>tys.all fun c=>PySem.W.kitOne K (.type t) (.type c)==some (NK t c))=true):Kinds K:=fun t ht c hc=>by
 have h1:=List.all_eq_true.mp h t ht
 have h2:=List.all_eq_true.mp h1 c hc
 exact eq_of_beq h2
theorem Xa {K:PySem.W.Frag}{H:Hp}{v:V}{t:Th} (h:m6 K H v t):G7 t∈tys:=by
 cases h with
 | oth _ hT _=>rcases hT with rfl | rfl<;>simp[G7,tys]
 | _=>simp[G7,tys]
theorem m6.isi {K:PySem.W.Frag}{H:Hp}{v:V}{t:Th} (h:m6 K H v t) (k:Kinds K) {c:String} (hc:c∈tys):PySem.W.kitOne K (.type (G7 t)) (.type c)=some (NK (G7 t) c):=k _ (Xa h) _ hc
def Xb:Th->Bool
 | .int _=>true
 | _=>false
def Fq (K:PySem.W.Frag):Sp:=fun vs H Q _=>∃v t,vs=[v]/\m6 K H v t/\Q (.bl (Xb t)) H
theorem aaD {b:Bool}{A B:Prop} (h:b=true) (hA:A):if b=true then A else B:=by rw[if_pos h];exact hA
theorem aaE {b:Bool}{A B:Prop} (h:b=false) (hB:B):if b=true then A else B:=by rw[if_neg (by rw[h];exact Bool.false_ne_true)];exact hB
structure Wr (p:Prop):Prop where
 h:p
end RB
set_option maxRecDepth 100000
namespace RB
open PySem L2 PySem.Spec PyProof.Rows
def R.d9:R->Th
 | .num n=> .tup [.str "number", .int n]
 | .rd x=> .tup [.str "read", .str x]
 | .bin op a b=> .tup [.str op.word,a.d9,b.d9]
 | .pick a b c=> .tup [.str "pick",a.d9,b.d9,c.d9]
 | .cho a ns=> .tup [.str "choose",a.d9, .tup (ns.map Th.str)]
def R.G8:R->Prop
 | .num _=>True
 | .rd x=>x.length<=8/\∀c∈x.cps.toList,c<128
 | .bin _ a b=>a.G8/\b.G8
 | .pick a b c=>a.G8/\b.G8/\c.G8
 | .cho a ns=>a.G8/\1<=ns.length/\ns.length<=9/\∀x∈ns,mz x
theorem Bu {K:PySem.W.Frag}{H:Hp}:∀ns:List Str,lK K H (ns.map V.str) (ns.map Th.str)
 |[]=> .nil
 | x::r=> .cons (.str x) (Bu r)
theorem IsR.aaF {K:PySem.W.Frag}{H:Hp}{a:Addr}{r:R} (h:IsR H a r):m6 K H (.ref a) r.d9:=by
 induction h with
 | num e=>exact .tup e (.cons (.str _) (.cons (.int _) .nil))
 | rd e=>exact .tup e (.cons (.str _) (.cons (.str _) .nil))
 | bin e _ _ i1 i2=>exact .tup e (.cons (.str _) (.cons i1 (.cons i2 .nil)))
 | pick e _ _ _ i1 i2 i3=>exact .tup e (.cons (.str _) (.cons i1 (.cons i2 (.cons i3 .nil))))
 | cho e _ h2 i1=>exact .tup e (.cons (.str _) (.cons i1 (.cons (.tup h2 (Bu _)) .nil)))
theorem Bv:∀l:List Str,PyData.depthAll (l.map PyData.str)<=1
 |[]=>by simp[PyData.depthAll]
 | c::r=>by
   have:=Bv r
   simp[PyData.depthAll,PyData.depth]
   omega
end RB
set_option maxRecDepth 100000
namespace L2
open PySem PySem.Spec PyProof.Rows
theorem Fun.okQ {P:Program}{w:World}{K:PySem.W.Frag}{mg:Str->Option Value}{base:Heap}{x qual:Str}{st:Stmt}{f:Addr}{fd:FuncData}{N ps:List Str}{k:Nat}{sp:Sp} (F:Fun K x qual st f fd) (S:bR N ps (aa st)) (len:∀vs H Q E,sp vs H Q E->vs.length=ps.length)
 (hbody:∀(cdv:Value) (A:Around) (outer:List Env) (s:Shared) (H:Hp) (vs:List V) (Q:VK) (E:XK),kZ k (A.deeper (envOfC qual (aa st) s.heap.objs.size f cdv))->sp vs H Q E->
   ∃t,QSs (IW CX0 P w K mg base N qual (aa st) f cdv A outer s H E).nox (bA st) t/\t {nx:=fun _ H'=>Q .non H',rt:=Q} (start N vs) H):bx P w K mg base CX0 (k+1) f fd ps sp:=
 F.ok S len fun cdv A outer s H vs Q E hr hsp=>let ⟨t,a,b⟩:=hbody cdv A outer s H vs Q E hr hsp;⟨t,a.h,b⟩
end L2
namespace RB
open PySem L2 PySem.Spec PyProof.Rows
theorem Xc (value:Const) (k:Nat) (p:Pos) (es:List Expr) (env:Env):starEach (.Constant value k p::es) env=(false,eval (.Constant value k p) env)::starEach es env:=rfl
theorem jl {X:Cx}{value:Const}{k:Nat}{p:Pos}{es:List Expr}{te:TE}{t:TA} (ha:QE X (.Constant value k p) te) (hr:QA X es t):QA X (.Constant value k p::es) (pq te t):=j8 ha hr (Xc value k p _ _)
theorem Xd (x:Str) (p:Pos) (es:List Expr) (env:Env):starEach (.Name x p::es) env=(false,eval (.Name x p) env)::starEach es env:=rfl
theorem aU {X:Cx}{x:Str}{p:Pos}{es:List Expr}{te:TE}{t:TA} (ha:QE X (.Name x p) te) (hr:QA X es t):QA X (.Name x p::es) (pq te t):=j8 ha hr (Xd x p _ _)
theorem Xe (a:Expr) (op:Operator) (b:Expr) (p:Pos) (es:List Expr) (env:Env):starEach (.BinOp a op b p::es) env=(false,eval (.BinOp a op b p) env)::starEach es env:=rfl
theorem zf {X:Cx}{a:Expr}{op:Operator}{b:Expr}{p:Pos}{es:List Expr}{te:TE}{t:TA} (ha:QE X (.BinOp a op b p) te) (hr:QA X es t):QA X (.BinOp a op b p::es) (pq te t):=j8 ha hr (Xe a op b p _ _)
theorem Xf (op:UnaryOp) (a:Expr) (p:Pos) (es:List Expr) (env:Env):starEach (.UnaryOp op a p::es) env=(false,eval (.UnaryOp op a p) env)::starEach es env:=rfl
theorem aea {X:Cx}{op:UnaryOp}{a:Expr}{p:Pos}{es:List Expr}{te:TE}{t:TA} (ha:QE X (.UnaryOp op a p) te) (hr:QA X es t):QA X (.UnaryOp op a p::es) (pq te t):=j8 ha hr (Xf op a p _ _)
theorem Xg (xs:List Expr) (k:Nat) (p:Pos) (es:List Expr) (env:Env):starEach (.Tuple xs k p::es) env=(false,eval (.Tuple xs k p) env)::starEach es env:=rfl
theorem G9 {X:Cx}{xs:List Expr}{k:Nat}{p:Pos}{es:List Expr}{te:TE}{t:TA} (ha:QE X (.Tuple xs k p) te) (hr:QA X es t):QA X (.Tuple xs k p::es) (pq te t):=j8 ha hr (Xg xs k p _ _)
theorem Xh (xs:List Expr) (p:Pos) (es:List Expr) (env:Env):starEach (.List xs p::es) env=(false,eval (.List xs p) env)::starEach es env:=rfl
theorem Hg {X:Cx}{xs:List Expr}{p:Pos}{es:List Expr}{te:TE}{t:TA} (ha:QE X (.List xs p) te) (hr:QA X es t):QA X (.List xs p::es) (pq te t):=j8 ha hr (Xh xs p _ _)
theorem Xi (ks:List (Option Expr)) (xs:List Expr) (p:Pos) (es:List Expr) (env:Env):starEach (.Dict ks xs p::es) env=(false,eval (.Dict ks xs p) env)::starEach es env:=rfl
theorem aaG {X:Cx}{ks:List (Option Expr)}{xs:List Expr}{p:Pos}{es:List Expr}{te:TE}{t:TA} (ha:QE X (.Dict ks xs p) te) (hr:QA X es t):QA X (.Dict ks xs p::es) (pq te t):=j8 ha hr (Xi ks xs p _ _)
theorem Xj (a b:Expr) (p:Pos) (es:List Expr) (env:Env):starEach (.Subscript a b p::es) env=(false,eval (.Subscript a b p) env)::starEach es env:=rfl
theorem jm {X:Cx}{a b:Expr}{p:Pos}{es:List Expr}{te:TE}{t:TA} (ha:QE X (.Subscript a b p) te) (hr:QA X es t):QA X (.Subscript a b p::es) (pq te t):=j8 ha hr (Xj a b p _ _)
theorem Xk (f:Expr) (xs:List Expr) (ks:List Keyword) (p:Pos) (es:List Expr) (env:Env):starEach (.Call f xs ks p::es) env=(false,eval (.Call f xs ks p) env)::starEach es env:=rfl
theorem uA {X:Cx}{f:Expr}{xs:List Expr}{ks:List Keyword}{p:Pos}{es:List Expr}{te:TE}{t:TA} (ha:QE X (.Call f xs ks p) te) (hr:QA X es t):QA X (.Call f xs ks p::es) (pq te t):=j8 ha hr (Xk f xs ks p _ _)
theorem Xl (a b c:Expr) (p:Pos) (es:List Expr) (env:Env):starEach (.IfExp a b c p::es) env=(false,eval (.IfExp a b c p) env)::starEach es env:=rfl
theorem aeb {X:Cx}{a b c:Expr}{p:Pos}{es:List Expr}{te:TE}{t:TA} (ha:QE X (.IfExp a b c p) te) (hr:QA X es t):QA X (.IfExp a b c p::es) (pq te t):=j8 ha hr (Xl a b c p _ _)
theorem Xm (e:Expr) (gs:List Comprehension) (sc:Scope) (p:Pos) (es:List Expr) (env:Env):starEach (.ListComp e gs sc p::es) env=(false,eval (.ListComp e gs sc p) env)::starEach es env:=rfl
theorem aaH {X:Cx}{e:Expr}{gs:List Comprehension}{sc:Scope}{p:Pos}{es:List Expr}{te:TE}{t:TA} (ha:QE X (.ListComp e gs sc p) te) (hr:QA X es t):QA X (.ListComp e gs sc p::es) (pq te t):=j8 ha hr (Xm e gs sc p _ _)
theorem Xn (e:Expr) (x:Str) (p:Pos) (es:List Expr) (env:Env):starEach (.Attribute e x p::es) env=(false,eval (.Attribute e x p) env)::starEach es env:=rfl
theorem Ft {X:Cx}{e:Expr}{x:Str}{p:Pos}{es:List Expr}{te:TE}{t:TA} (ha:QE X (.Attribute e x p) te) (hr:QA X es t):QA X (.Attribute e x p::es) (pq te t):=j8 ha hr (Xn e x p _ _)
end RB
set_option maxRecDepth 100000
namespace L2
open PySem PySem.Spec PyProof.Rows
section
variable {X:Cx}{pins:List (Addr×Obj)}{σ:L2.St}{H:Hp}{s:Shared}
end
section
variable {X:Cx}{o e value:Expr}{es:List Expr}{f m:Str}{pos pos' apos:Pos}{ta tv:TE}{t:TA}{C fa:Addr}{CX:CXT}{k:Nat}{fd:FuncData}{ps:List Str}{sp:Sp}{dvs:List V}{ds:List Value}{E:XK}
theorem bw (he:QE X e ta) (hb:attributeBase e f X.env (eval e X.env)=eval e X.env:=by rfl):QE X (.Attribute e f pos) (Wo X.K ta f):=⟨Wq he.h hb⟩
theorem jQ (ha:QE X o ta) (hv:QE X value tv) (hs:swapsWith value (some (.Attribute o f pos')) pos.line X.env=pure false:=by rfl):QS X (.Assign [.Attribute o f pos'] value pos) (aag X.K ta tv f):=⟨Ws ha.h hv.h hs⟩
theorem m7 {pl:Sem Bool} (he:QE X o ta) (c:Cls X.K C) (hm:Meth X.K C m fa) (F:bx X.prog X.w X.K X.mg X.base CX k fa fd ps sp) (hr:kZ k X.A) (hb:Binds X.K fd ps ds) (hd:Vals dvs ds) (hx:Passes CX X E) (ha:QA X (e::es) t)
 (hst:starEach (e::es) X.env=(false,eval e X.env)::starEach es X.env:=by rfl) (hpl:(backTo pos (starEach es X.env)).any (·.1)=false:=by rfl)
 (ht:eval (.Call (.Attribute o m apos) (e::es) [] pos) X.env=(do
   let ov <-eval o X.env
   standAt apos.atName
   let (f,first) <-holding [ov] (getMethod ov m pl)
   callWith pos f first (backTo pos (starEach (e::es) X.env)) (backToKw pos (keywordEach [] X.env))):=by rfl):
 QE X (.Call (.Attribute o m apos) (e::es) [] pos) (J4 C m sp dvs E ta t):=⟨Qx he.h c hm F hr hb hd hx ha.h hst hpl ht⟩
theorem uB {pl:Sem Bool} (he:QE X o ta) (c:Cls X.K C) (hm:Meth X.K C m fa) (F:bx X.prog X.w X.K X.mg X.base CX k fa fd ps sp) (hr:kZ k X.A) (hb:Binds X.K fd ps ds) (hd:Vals dvs ds) (hx:Passes CX X E)
 (ht:eval (.Call (.Attribute o m apos) [] [] pos) X.env=(do
   let ov <-eval o X.env
   standAt apos.atName
   let (f,first) <-holding [ov] (getMethod ov m pl)
   callWith pos f first (backTo pos (starEach [] X.env)) (backToKw pos (keywordEach [] X.env))):=by rfl):
 QE X (.Call (.Attribute o m apos) [] [] pos) (J4 C m sp dvs E ta Qu):=⟨M3 he.h c hm F hr hb hd hx ht⟩
theorem Hh {st:Stmt}:QS X st Mt:=⟨Mv⟩
theorem yo {x:Str}{p:Pos} (M:Mk X.K C fa) (F:bx X.prog X.w X.K X.mg X.base CX k fa fd ps sp) (hr:kZ (k+1) X.A) (hg:Gl X x) (hm:X.mg x=some (.ref C)) (hb:Binds X.K fd ps ds) (hd:Vals dvs ds) (hx:Passes CX X E)
 (ha:QA X (e::es) t) (hdb:(x==("__debug__":Str))=false:=by decide) (he:starEach (e::es) X.env=(false,eval e X.env)::starEach es X.env:=by rfl) (hpl:(backTo pos (starEach es X.env)).any (·.1)=false:=by rfl):
 QE X (.Call (.Name x p) (e::es) [] pos) (Ur C sp dvs E t):=⟨Qy M F hr hg hm hb hd hx ha.h hdb he hpl⟩
end
end L2
set_option maxRecDepth 100000
namespace L2
open PySem PySem.Spec PyProof.Rows
section
variable {X:Cx}{pins:List (Addr×Obj)}{σ:St}{H H':Hp}{s s':Shared}{a:Addr}{cls:Value}
end
section
variable {P:Program}{w:World}{K:PySem.W.Frag}{mg:Str->Option Value}{base:Heap}{N:List Str}{qual:Str}{scope:Scope}{f:Addr}{cd:Value}{A:Around}{outer:List Env}{s₀:Shared}{H₀:Hp}{E:XK}
end
end L2
set_option maxRecDepth 100000
namespace L2
open PySem PySem.Spec PyProof.Rows
section
variable {X:Cx}{pins:List (Addr×Obj)}{σ:St}{H H':Hp}{s s':Shared}{a:Addr}{cls:Value}
theorem Inv.track {o:HO} (I:Inv X pins σ H s) (hn:H a=none) (h0:X.s₀.heap.get? a=none) (hL:a≠X.env.locals) (hC:∀x c,X.env.cells.lookup x=some c->c≠a) (hp:∀p∈X.pn++pins,p.1≠a)
 (new:eN X.prog X.w (upd H a o) s.heap a o):Inv X pins σ (upd H a o) s:=by
 refine⟨I.ok,I.os,I.bare,⟨fun b u q n hb hx=>I.base.keep b u q n hb hx,fun b u q n hb hx=>I.base.slot b u q n hb hx,fun b u q n hx=> ?_,I.base.there,fun b xs q=> ?_,fun b u v q=> ?_,fun b ps q=> ?_⟩,I.loc,I.cell, ?_,fun x c e=> ?_,fun p q=> ?_,fun b u q=> ?_,I.len⟩
 ·rw[ao (fun z=>by rw[z,h0] at q;cases q)];exact I.base.free b u q n hx
 ·have e:=I.base.tups b xs q
  rw[ao (aF e hn)];exact e
 ·have e:=I.base.frzs b u v q
  rw[ao (aF e hn)];exact e
 ·obtain⟨m,e⟩:=I.base.tbls b ps q
  exact⟨m,by rw[ao (aF e hn)];exact e⟩
 ·rw[ao (Ne.symm hL)];exact I.free
 ·rw[ao (hC x c e)];exact I.uh x c e
 ·obtain⟨e,n,r⟩:=I.pin p q
  exact⟨e,by rw[ao (hp p q)];exact n,r⟩
 ·by_cases hb:b=a
  ·subst hb;rw[ak] at q;cases q;exact new
  ·rw[ao hb] at q
   exact(I.hok b u q).stay (fun c v _ r=>r) (fun c r=>by rw[ao (aF r hn)];exact r) fun c xs r=>by rw[ao (aF r hn)];exact r
end
section
variable {X:Cx}{x n:Str}{i:Nat}{C:Addr}{np hpos pos:Pos}{body suite:List Stmt}{b₀:Stmt}{tb:(St->XK)->TS}{th:TS}
end
end L2
set_option maxRecDepth 100000
namespace L2
open PySem PySem.Spec PyProof.Rows PySem.W
section
variable {prog:Program}{w:World}{A:Around}{E:Value->Shared->Prop}{h:Heap}{g:Array GenState}{d:Drawn}{t:Nat}{os:OsState}{K:PySem.W.Frag}{a C:Addr}{o:Obj}
end
end L2
set_option maxRecDepth 100000
namespace L2
open PySem PySem.Spec PyProof.Rows
section
variable {X:Cx}{pins:List (Addr×Obj)}{σ:St}{H H':Hp}{s s':Shared}
end
section
variable {P:Program}{w:World}{K:PySem.W.Frag}{mg:Str->Option Value}{base:Heap}{N:List Str}{qual:Str}{scope:Scope}{f:Addr}{cd:Value}{A:Around}{outer:List Env}{s₀:Shared}{H₀:Hp}{E:XK}
end
section
variable {X:Cx}{CX:CXT}{k:Nat}{f:Addr}{fd:FuncData}{ps:List Str}{sp:Sp}{dvs:List V}{ds:List Value}{E:St->XK}{x:Str}{p pos:Pos}{e:Expr}{es:List Expr}{t:TA}
end
end L2
namespace RB
open PySem L2 PySem.Spec PyProof.Rows
end RB
set_option maxRecDepth 100000
namespace L2
open PySem PySem.Spec PyProof.Rows
section
variable {X:Cx}{x:Str}{C:Addr}{np hpos pos:Pos}{body suite:List Stmt}{b₀:Stmt}{tb:(St->XK)->TS}{th:TS}
end
end L2
set_option maxRecDepth 100000
namespace L2
open PySem PySem.Spec PyProof.Rows
section
variable {X:Cx}{pins:List (Addr×Obj)}{σ:List (Option V)}{H:Hp}{s:Shared}{h':Heap}
theorem Inv.Kl {t':Nat}{ch:List Addr} (I:Inv X pins σ H s) (hf:∀b∈ch,yV X pins H b) (k:∀b o,b∉ch->s.heap.get? b=some o->h'.get? b=some o):Inv X pins σ H {s with heap:=h',toks:=t'}:=by
 have nit:∀b u,H b=some u->b∉ch:=fun b u e z=>by rw[(hf b z).1] at e;cases e
 refine I.step (g':=s.gens) (d':=s.drawn) (ch:=ch) (fun b hb=> ?_) (fun b o _ _ hc e _=>k b o hc e) (fun b o _ _ hc e _=>⟨o.slots,k b o hc e⟩) (fun _ _ _ _ n=>n)
  (fun b o hc e=>⟨o,k b o hc e⟩) (fun _ _ e=>e) (fun _ _ _ e=>e) (fun b ps e=>⟨#[],by rw[e];simp⟩) (fun m hm=> ?_) (fun b u e=> ?_) I.bare
 ·obtain⟨_,f1,_,f3,f4,f5⟩:=hf b hb
  exact⟨f3,f1,f4,f5⟩
 ·obtain⟨o,es,ep,ho,r⟩:=hm
  exact⟨o,es,ep,k _ o (fun z=>(hf _ z).2.1 rfl) ho,r⟩
 ·refine(I.hok b u e).stay (fun c v hc q=>k c v ?_ q) (fun _ q=>q) fun _ _ q=>q
  rcases hc with z | z
  ·rw[z];exact nit b u e
  ·exact nit c _ z
end
end L2
set_option maxRecDepth 100000
namespace RB
open PySem L2 PySem.Spec PyProof.Rows
section
variable {prog:Program}{w:World}{A:Around}{R:Result->Shared->Prop}{I:Addr}{fp wr:List Addr}{G:Array GenState->Array GenState->Prop}{n:Nat}{P:Nat->Value->Prop}{St:Nat->Shared->Prop}
end
end RB
set_option maxRecDepth 100000
namespace RB
open PySem L2 PySem.Spec PyProof.Rows
section
variable {prog:Program}{w:World}{A:Around}{E:Value->Shared->Prop}{s:Shared}
end
end RB
set_option maxRecDepth 100000
namespace L2
open PySem PySem.Spec PyProof.Rows RB
section
variable {X:Cx}
end
end L2
set_option maxRecDepth 100000
namespace RB
open PySem L2 PySem.Spec PyProof.Rows
structure fH (K:PySem.W.Frag) (C:Addr) (x qual:Str) (st:Stmt) (ps:List Str) (f:Addr) (fd:FuncData):Prop where
 F:Fun K x qual st f fd
 b:Binds K fd ps []
 m:Meth K C x f
end RB
set_option maxRecDepth 100000
namespace RB
open PySem L2 PySem.Spec PyProof.Rows
theorem aaI (x:Str):x.cps.toList.length=x.length:=by simp[Str.length]
end RB
set_option maxRecDepth 100000
namespace RB
open PySem L2 PySem.Spec PyProof.Rows
end RB
set_option maxRecDepth 100000
namespace RB
open PySem L2 PySem.Spec PyProof.Rows
end RB
set_option maxRecDepth 100000
namespace RB
open PySem L2 PySem.Spec PyProof.Rows
def NQ (K:PySem.W.Frag):R2:=fun x y H Q=>∃a b xs,x= .ref a/\y= .ref b/\SqL K H a xs/\SqL K H b []/\Q (.bl xs.isEmpty) H
theorem NT {X:Cx} (hu:X.A.units+64<cLine):OpR X (compareOp .Eq) (NQ X.K):=by
 intro pins s σ H x y v u Q I rx ry h
 obtain⟨a,b,xs,rfl,rfl,ha,hb,q⟩:=h
 cases xs with
 | nil=>exact Np hu pins s σ H _ _ v u Q I rx ry ⟨.list [], .list [], .lst ha .nil, .lst hb .nil,shaped_ints [],shaped_ints [],q⟩
 | cons x r=>
   cases rx
   cases ry
   obtain⟨its,rv,pl,_⟩:=I.list ha
   obtain⟨its',rv',pl',_⟩:=I.list hb
   cases rv
   cases rv'
   exact PySem.SeqAt.eq_list_lengthsAt pl.isList pl'.isList rfl (by omega) ⟨.bl false,H,I,rfl,q⟩
theorem Lr {X:Cx} (hu:X.A.units+64<cLine):QOp X (compareOp .Eq) (NQ X.K):=⟨NT hu⟩
theorem jU {X:Cx}{pos:Pos}:QE X (.Dict [] [] pos) Nb:=⟨Nf⟩
end RB
set_option maxRecDepth 100000
namespace RB
open PySem L2 PySem.Spec PyProof.Rows
end RB
set_option maxRecDepth 100000
namespace RB
open PySem L2 PySem.Spec PyProof.Rows
end RB
set_option maxRecDepth 100000
namespace RB
open PySem L2 PySem.Spec PyProof.Rows
theorem Ls {x:Str} (h:∀c∈x.cps.toList,c<128):PyData.strOk x=true:=by
 show x.cps.all (· <0x110000)=true
 rw[<-Array.all_toList,List.all_eq_true]
 intro c hc
 exact decide_eq_true (by have:=h c hc;omega)
theorem Jp {x:Str} (h:mz x):PyData.strOk x=true:=Ls fun c hc=>by have:=h.2.2 c hc;unfold Kg at this;omega
theorem Ej:∀ns:List Str,(∀x∈ns,mz x)->PyData.canLayAll0 (ns.map PyData.str)=true
 |[],_=>rfl
 | x::r,h=>by
   show(PyData.canLay0 (.str x)&&PyData.canLayAll0 (r.map PyData.str))=true
   rw[Ej r fun y hy=>h y (List.mem_cons_of_mem _ hy)]
   show(PyData.strOk x&&true)=true
   rw[Jp (h x List.mem_cons_self)];rfl
def aaJ (K:PySem.W.Frag) (neg:Bool):R2:=fun x y H Q=>∃d,vQ K H x d/\vQ K H y d/\SeqAt.shaped d=true/\Q (.bl (!neg)) H
theorem Jq {d:PyData} (h:SeqAt.shaped d=true):d.canLay0=true:=by
 have h':(d.canLay0&&decide (d.depth<=64))=true:=h
 rw[Bool.and_eq_true] at h'
 exact h'.1
theorem oh {X:Cx} (hu:X.A.units+64<cLine):QOp X (compareOp .NotEq) (aaJ X.K true):=⟨fun pins s σ H x y v u Q I rx ry h=>by
 obtain⟨d,h1,h2,h3,q⟩:=h
 have e:=PySem.SeqAt.eqv_refl d (Jq h3)
 exact Jg hu pins s σ H x y v u Q I rx ry ⟨d,d,h1,h2,h3,h3,by rw[e];exact q⟩⟩
end RB
set_option maxRecDepth 100000
namespace RB
open PySem L2 PySem.Spec PyProof.Rows
end RB
set_option maxRecDepth 100000
namespace RB
open PySem L2 PySem.Spec PyProof.Rows
end RB
set_option maxRecDepth 100000
namespace RB
open PySem L2 PySem.Spec PyProof.Rows
end RB
set_option maxRecDepth 100000
namespace RB
open PySem L2 PySem.Spec PyProof.Rows
end RB
set_option maxRecDepth 100000
namespace RB
open PySem L2 PySem.Spec PyProof.Rows PySem.NumText
end RB
set_option maxRecDepth 100000
namespace RB
open PySem L2 PySem.Spec PyProof.Rows PySem.NumText
end RB
set_option maxRecDepth 100000
namespace L2
open PySem PySem.Spec PyProof.Rows
section
variable {prog:Program}{w:World}{A:Around}{E:Value->Shared->Prop}
end
section
variable {X:Cx}{pos:Pos}
theorem Rh (hc:X.calm=true):n8 X (.builtin "max") (fun xs H Q=>∃i j,xs=[.int i, .int j]/\Q (.int (if j>i then j else i)) H):=⟨K5 hc⟩
end
end L2
namespace RB
open PySem L2 PySem.Spec PyProof.Rows
end RB
set_option maxRecDepth 100000
namespace L2
open PySem PySem.Spec PyProof.Rows
end L2
namespace RB
open PySem L2 PySem.Spec PyProof.Rows
end RB
set_option maxRecDepth 100000
namespace RB
open PySem L2 PySem.Spec PyProof.Rows
theorem Ri {α:Type}{l m:List α}{y:α} (h:l=m++[y]):atI l (-1)=some y:=by
 subst h
 unfold atI ixN
 have hl:(m++[y]).length=m.length+1:=by simp
 rw[hl,if_neg (by omega),if_pos (by omega)]
 show(m++[y])[((m.length+1:Nat)+(-1:Int)).toNat]? =some y
 rw[show(((m.length+1:Nat):Int)+(-1)).toNat=m.length by omega]
 simp
end RB
set_option maxRecDepth 100000
namespace RB
open PySem L2 PySem.Spec PyProof.Rows
end RB
set_option maxRecDepth 100000
namespace RB
open PySem L2 PySem.Spec PyProof.Rows
abbrev Rdp:=Str×Int
def rdV (p:Rdp):List V:=[.str p.1, .int p.2]
inductive kO (H:Hp):List Addr->List Rdp->Prop where
 | nil:kO H [] []
 | cons {a:Addr}{p:Rdp}{as:List Addr}{ps:List Rdp} (h:H a=some (.tup (rdV p))) (t:kO H as ps):kO H (a::as) (p::ps)
theorem kO.tups {H H':Hp} (t:mR H H') {as:List Addr}{ps:List Rdp} (h:kO H as ps):kO H' as ps:=by
 induction h with
 | nil=>exact .nil
 | cons h _ ih=>exact .cons (t _ _ h) ih
theorem kO.same {H H':Hp} (s:aN H H') {as:List Addr}{ps:List Rdp} (h:kO H as ps):kO H' as ps:=h.tups (aN.tups s)
theorem kO.length {H:Hp}{as:List Addr}{ps:List Rdp} (h:kO H as ps):as.length=ps.length:=by
 induction h with
 | nil=>rfl
 | cons _ _ ih=>simp[ih]
theorem kO.get {H:Hp}{as:List Addr}{ps:List Rdp} (h:kO H as ps):∀(i:Nat) (a:Addr),as[i]? =some a->∃p,ps[i]? =some p/\H a=some (.tup (rdV p)):=by
 induction h with
 | nil=>intro i a e;simp at e
 | @cons b p as ps h t ih=>
   intro i a e
   cases i with
   | zero=>have:b=a:=by simpa using e
           subst this;exact⟨_,rfl,h⟩
   | succ i=>exact ih i a (by simpa using e)
theorem Xo {as:List Addr}{i:Nat}{x:V} (h:(as.map V.ref)[i]? =some x):∃a,as[i]? =some a/\x= .ref a:=by
 rw[List.getElem?_map] at h
 cases e:as[i]? with
 | none=>rw[e] at h;cases h
 | some a=>rw[e] at h;cases h;exact⟨a,rfl,rfl⟩
end RB
namespace RB
open PySem L2 PySem.Spec PyProof.Rows
end RB
set_option maxRecDepth 100000
namespace L2
open PySem PySem.Spec PyProof.Rows
def Bw (t:Str) (k:Nat):Str:=⟨((List.replicate k t.cps.toList).flatten).toArray⟩
theorem UJ (t:Array Nat):∀(k:Nat) (acc:Array Nat),((List.replicate k t).foldl (· ++ ·) acc).toList=acc.toList++(List.replicate k t.toList).flatten
 | 0,acc=>by simp
 | k+1,acc=>by
   rw[List.replicate_succ,List.foldl_cons,UJ t k,Array.toList_append,List.replicate_succ,List.flatten_cons,List.append_assoc]
theorem Rj {t:Str}{n:Int} (h:1<=n):Txt.mul t n=Bw t n.toNat:=by
 unfold Txt.mul
 rw[if_neg (by omega)]
 split
 ·rename_i hc
  unfold Bw
  rcases Bool.or_eq_true_iff.mp hc with z | z
  ·have:n=1:=by simpa using z
   subst this
   cases t;simp
  ·have z':t.length=0:=by simpa using z
   have e:t.cps.toList=[]:=by
    have:=z'
    unfold Str.length at this
    simpa using this
   rw[e]
   cases t with
   | mk c=>
     have e':c= #[]:=by simpa using e
     subst e'
     simp
 ·unfold Bw
  have e:=UJ t.cps n.toNat #[]
  generalize (List.replicate n.toNat t.cps).foldl (· ++ ·) #[]=A at e
  have:A=((List.replicate n.toNat t.cps.toList).flatten).toArray:=by
   have e2:=congrArg List.toArray e
   simpa using e2
  rw[this]
end L2
namespace RB
open PySem L2 PySem.Spec PyProof.Rows
theorem NZ (t:Str) (k:Nat):(Bw t k).cps.toList=(List.replicate k t.cps.toList).flatten:=by unfold Bw;simp
theorem Rk (t:Str) (k:Nat):(Bw t k).length=k * t.length:=by
 rw[<-aaI,NZ,len_rep,aaI]
end RB
set_option maxRecDepth 100000
namespace L2
open PySem PySem.Spec PyProof.Rows
theorem N5 {t:Str}{n:Int} (h:0<=n):Txt.mul t n=Bw t n.toNat:=by
 by_cases h1:1<=n
 ·exact Rj h1
 ·have e:n=0:=by omega
  subst e
  unfold Txt.mul
  rw[if_pos (by omega)]
  rfl
def UL:R2:=fun x y H Q=>∃t n,x= .str t/\y= .int n/\0<=n/\n<=1000/\t.length<=1000/\Q (.str (Bw t n.toNat)) H
theorem Ro {X:Cx}:OpR X (binaryOp .Mult) UL:=by
 intro pins s σ H x y v u Q I rx ry h
 obtain⟨t,n,rfl,rfl,h1,h2,h3,q⟩:=h
 obtain⟨k,rfl⟩:=rx
 obtain⟨k',rfl⟩:=ry
 have e63:(2:Int)^ 63=9223372036854775808:=by decide
 refine SB.mul ⟨?_,fun hn _=> ?_,fun hn _=> ?_⟩ fun t' kk=>⟨.str _,H,I.tok kk,⟨t',rfl⟩,by rw[N5 h1];exact q⟩
 ·rw[e63]
  simp
  omega
 ·intro hgt
  have hle:(1000:Int)<=((2:Int)^ 63 - 1)/ n:=by
   rw[e63]
   exact Int.le_ediv_of_mul_le (by omega) (by omega)
  omega
 ·have:t.length * n.toNat<=1000 * 1000:=Nat.mul_le_mul h3 (by omega)
  exact decide_eq_false (by rw[sizeLine_eq];omega)
theorem Km {X:Cx}{es:List Expr}{pos:Pos}{K:PySem.W.Frag}{k n:Nat}{t:TGs} (eK:X.K=K) (hc:X.calm=true) (h:QGs X es t) (hn:(assignEach es X.env).length=n:=by rfl) (hst:(assignEach es X.env).findIdx? (·.1)=none:=by rfl):QG X (.Tuple es k pos) (V7 K n t):=eK▸Ny hc h hn hst
theorem N6 {X:Cx}:QOp X (binaryOp .Mult) UL:=⟨Ro⟩
end L2
namespace RB
open PySem L2 PySem.Spec PyProof.Rows
theorem SqL.same {K:PySem.W.Frag}{H H':Hp}{a:Addr}{xs:List V} (s:aN H H') (h:SqL K H a xs):SqL K H' a xs:=by
 rcases h with(e | ⟨o,e⟩) | h
 ·exact .inl (.inl (s _ _ e))
 ·exact .inl (.inr ⟨o,s _ _ e⟩)
 ·exact .inr h
theorem gQ {S:List Addr}{H0 H H':Hp} (s:aN H0 H) (hS:∀p∈S,H0 p=none) (b:But S H H'):aN H0 H':=fun a o e=>b a o (fun z=>by rw[hS a z] at e;cases e) (s a o e)
def Jr (K:PySem.W.Frag):Sp:=fun vs H Q _=>∃(a:Addr) (ns:List Int) (k:Int),vs=[.ref a, .int k]/\SqL K H a (ns.map V.int)/\0<=k/\∀n,Q (.int n) H
def oA (rest:Int) (mixed:Bool) (count:Int):List (Key×V):=[(.inr "rest", .int rest),(.inr "mixed", .bl mixed),(.inr "count", .int count)]
def eE (H:Hp) (p:Addr) (c:Nat):Prop:=∃(rest:Int) (mixed:Bool) (count:Int),H p=some (.dK (oA rest mixed count))/\0<=count/\count<=(c:Int)
theorem eE.keep {S:List Addr}{H H':Hp}{p:Addr}{c:Nat} (h:eE H p c) (b:But S H H') (hp:p∉S):eE H' p c:=by
 obtain⟨r,m,k,e,h⟩:=h
 exact⟨r,m,k,b _ _ hp e,h⟩
theorem eE.same {H H':Hp}{p:Addr}{c:Nat} (h:eE H p c) (b:aN H H'):eE H' p c:=h.keep (S:=[]) (But.of_same b) (by simp)
theorem eE.tups {H H':Hp}{p:Addr}{c:Nat} (h:eE H p c) (b:But [p] H H'):mR H H':=fun q xs e=>b q _ (fun z=>by
 obtain⟨r,m,k,e',_⟩:=h
 have:q=p:=by simpa using z
 rw[this,e'] at e;cases e) e
def Js (K:PySem.W.Frag):Sp:=fun vs H Q _=>∃(a:Addr) (ns:List Int) (k:Int),vs=[.ref a, .int k]/\SqL K H a (ns.map V.int)/\0<=k/\k<=100/\∀p H',aN H H'->H p=none->eE H' p 503->Q (.ref p) H'
def wQ:Sp:=fun vs H Q _=>∃(p:Addr) (c:Nat) (many:Int),vs=[.ref p, .int many]/\eE H p c/\c<=100000/\0<many/\many.natAbs.log2<9000/\∀n H',0<=n->n<many->But [p] H H'->eE H' p (c+1)->Q (.int n) H'
def ltr (i:Nat):Str:=⟨#[i+97]⟩
def az (k:Nat):Str:=ltr (k % 26)++Bw (ltr (k * 7 % 26)) (k * 5 % 8)
def Hi:Sp:=fun vs H Q _=>∃k:Nat,vs=[.int (k:Int)]/\k<=1000/\Q (.str (az k)) H
theorem N7 {n:Int}{i:Nat} (h:n=(i:Int)) (hi:i<26):atI (Str.ofString "abcdefghijklmnopqrstuvwxyz").cps.toList n=some (i+97):=by
 subst h
 exact iR (by rw[G6,List.getElem?_map,List.getElem?_range hi];rfl)
def names26:List Str:=(List.range 26).map az
theorem Fv:∀x∈names26++[("qz":Str),"xz","jz"],mz x:=by decide +kernel
theorem Ek {H:Hp}{p:Addr}{a c:Int}{b:Bool} (e:H p=some (.dK (oA a b c))):cI H p (.str "rest") (some (.int a)):=cI.k (k:= .inr "rest") e
theorem Jt {H:Hp}{p:Addr}{a c:Int}{b:Bool} (e:H p=some (.dK (oA a b c))):cI H p (.str "mixed") (some (.bl b)):=cI.k (k:= .inr "mixed") e
theorem Bx {H:Hp}{p:Addr}{a c:Int}{b:Bool} (e:H p=some (.dK (oA a b c))):cI H p (.str "count") (some (.int c)):=cI.k (k:= .inr "count") e
theorem wF {H:Hp}{p:Addr}{a c:Int}{b:Bool} (e:H p=some (.dK (oA a b c))) (x:Int):lJ H p (.str "rest") (.int x) (upd H p (.dK (oA x b c))):=lJ.k (k:= .inr "rest") e (bN (by show 3<=1000;decide))
theorem By {H:Hp}{p:Addr}{a c:Int}{b:Bool} (e:H p=some (.dK (oA a b c))) (x:Int):lJ H p (.str "count") (.int x) (upd H p (.dK (oA a b x))):=lJ.k (k:= .inr "count") e (bN (by show 3<=1000;decide))
end RB
set_option maxRecDepth 100000
namespace RB
open PySem L2 PySem.Spec PyProof.Rows
abbrev Kn:=Str->Option Int
def Kn.put (kn:Kn) (x:Str) (v:Int):Kn:=fun y=>if y=x then some v else kn y
def Kn.puts:Kn->List Rdp->Kn
 | kn,[]=>kn
 | kn,p::ps=>(kn.put p.1 p.2).puts ps
def Kn.Le (kn kn':Kn):Prop:=∀x v,kn x=some v->kn' x=some v
theorem Kn.Le.refl (kn:Kn):Kn.Le kn kn:=fun _ _ h=>h
theorem Kn.Le.trans {a b c:Kn} (h:Kn.Le a b) (g:Kn.Le b c):Kn.Le a c:=fun x v z=>g x v (h x v z)
theorem Kn.oE {kn:Kn}{x:Str}{v:Int} (h:kn x=none):Kn.Le kn (kn.put x v):=fun y u z=>by
 unfold Kn.put
 rw[if_neg (fun e=>by rw[e,h] at z;cases z)];exact z
def Op.ap:Op->Int->Int->Int
 | .plus,u,v=>u+v
 | .minus,u,v=>u - v
 | .times,u,v=>u * v
 | .most,u,v=>if v>u then v else u
def tK (ns:List Str) (u:Int):Option Str:=ns[(u % (ns.length:Int)).toNat]?
def look (kn:Kn) (x:Str):Str ⊕ Int:=match kn x with
 | some v=> .inr v
 | none=> .inl x
def ev (kn:Kn):R->Str ⊕ Int
 | .num n=> .inr n
 | .rd x=>look kn x
 | .bin op a b=>match ev kn a with
   | .inl x=> .inl x
   | .inr u=>match ev kn b with
     | .inl x=> .inl x
     | .inr v=> .inr (op.ap u v)
 | .pick a b c=>match ev kn a with
   | .inl x=> .inl x
   | .inr u=>if u>0 then ev kn b else ev kn c
 | .cho a ns=>match ev kn a with
   | .inl x=> .inl x
   | .inr u=>match tK ns u with
     | none=> .inr 0
     | some x=>look kn x
theorem Ko {kn kn':Kn} (h:Kn.Le kn kn') {x:Str}{v:Int} (e:look kn x= .inr v):look kn' x= .inr v:=by
 unfold look at e ⊢
 cases z:kn x with
 | none=>rw[z] at e;cases e
 | some u=>rw[z] at e;rw[h x u z];exact e
theorem qt {kn:Kn}{x y:Str} (e:look kn x= .inl y):y=x/\kn x=none:=by
 unfold look at e
 cases z:kn x with
 | none=>rw[z] at e;cases e;exact⟨rfl,rfl⟩
 | some u=>rw[z] at e;cases e
theorem m8 {kn:Kn}:∀{r:R}{x:Str},ev kn r= .inl x->kn x=none
 | .num n,x,h=>by cases h
 | .rd y,x,h=>by obtain⟨rfl,h⟩:=qt h;exact h
 | .bin op a b,x,h=>by
   simp only[ev] at h
   cases ea:ev kn a with
   | inl y=>rw[ea] at h;cases h;exact m8 ea
   | inr u=>
     rw[ea] at h
     cases eb:ev kn b with
     | inl y=>rw[eb] at h;cases h;exact m8 eb
     | inr v=>rw[eb] at h;cases h
 | .pick a b c,x,h=>by
   simp only[ev] at h
   cases ea:ev kn a with
   | inl y=>rw[ea] at h;cases h;exact m8 ea
   | inr u=>
     rw[ea] at h
     simp only at h
     split at h
     ·exact m8 h
     ·exact m8 h
 | .cho a ns,x,h=>by
   simp only[ev] at h
   cases ea:ev kn a with
   | inl y=>rw[ea] at h;cases h;exact m8 ea
   | inr u=>
     rw[ea] at h
     simp only at h
     cases ep:tK ns u with
     | none=>rw[ep] at h;cases h
     | some y=>rw[ep] at h;obtain⟨rfl,h⟩:=qt h;exact h
theorem mC {kn kn':Kn} (hk:Kn.Le kn kn'):∀{r:R}{v:Int},ev kn r= .inr v->ev kn' r= .inr v
 | .num n,v,h=>h
 | .rd y,v,h=>Ko hk h
 | .bin op a b,v,h=>by
   simp only[ev] at h ⊢
   cases ea:ev kn a with
   | inl y=>rw[ea] at h;cases h
   | inr u=>
     rw[ea] at h;rw[mC hk ea]
     cases eb:ev kn b with
     | inl y=>rw[eb] at h;cases h
     | inr w=>rw[eb] at h;rw[mC hk eb];exact h
 | .pick a b c,v,h=>by
   simp only[ev] at h ⊢
   cases ea:ev kn a with
   | inl y=>rw[ea] at h;cases h
   | inr u=>
     rw[ea] at h;rw[mC hk ea]
     simp only at h ⊢
     split at h
     ·rw[if_pos (by assumption)];exact mC hk h
     ·rw[if_neg (by assumption)];exact mC hk h
 | .cho a ns,v,h=>by
   simp only[ev] at h ⊢
   cases ea:ev kn a with
   | inl y=>rw[ea] at h;cases h
   | inr u=>
     rw[ea] at h;rw[mC hk ea]
     simp only at h ⊢
     cases ep:tK ns u with
     | none=>rw[ep] at h;exact h
     | some y=>rw[ep] at h;exact Ko hk h
inductive Stp where
 | r (r:R) | branch (s t:R) | among (ns:List Str) | join (op:Op)
structure Cf where
 todo:List Stp
 found:List Int
 rds:List Rdp
def tV (ps:List Rdp) (x:Str) (v:Int):List Rdp:=
 if(ps.any fun p=>decide (p.1=x))=true then ps.map (fun p=>if p.1=x then(p.1,v) else p) else ps++[(x,v)]
inductive St1 (kn:Kn):Cf->Cf->Prop where
 | num {t f d n}:St1 kn ⟨t++[.r (.num n)],f,d⟩ ⟨t,f++[n],d⟩
 | rd {t f d x v} (h:kn x=some v):St1 kn ⟨t++[.r (.rd x)],f,d⟩ ⟨t,f++[v],tV d x v⟩
 | bin {t f d op a b}:St1 kn ⟨t++[.r (.bin op a b)],f,d⟩ ⟨t++[.join op, .r b, .r a],f,d⟩
 | pick {t f d a b c}:St1 kn ⟨t++[.r (.pick a b c)],f,d⟩ ⟨t++[.branch b c, .r a],f,d⟩
 | cho {t f d a ns}:St1 kn ⟨t++[.r (.cho a ns)],f,d⟩ ⟨t++[.among ns, .r a],f,d⟩
 | branch {t f d b c v}:St1 kn ⟨t++[.branch b c],f++[v],d⟩ ⟨t++[.r (if v>0 then b else c)],f,d⟩
 | among {t f d ns v x} (h:tK ns v=some x):St1 kn ⟨t++[.among ns],f++[v],d⟩ ⟨t++[.r (.rd x)],f,d⟩
 | join {t f d op u v} (h:op= .times->Bc u v):St1 kn ⟨t++[.join op],f++[u,v],d⟩ ⟨t,f++[op.ap u v],d⟩
inductive StN (kn:Kn):Nat->Cf->Cf->Prop where
 | zero {c}:StN kn 0 c c
 | succ {n c c1 c2} (h:St1 kn c c1) (t:StN kn n c1 c2):StN kn (n+1) c c2
theorem StN.add {kn:Kn}{n m:Nat}{a b c:Cf} (h:StN kn n a b) (g:StN kn m b c):StN kn (n+m) a c:=by
 induction h with
 | zero=>rw[Nat.zero_add];exact g
 | succ h _ ih=>rw[Nat.succ_add];exact .succ h (ih g)
theorem St1.le {kn kn':Kn} (hk:Kn.Le kn kn') {a b:Cf} (h:St1 kn a b):St1 kn' a b:=by
 cases h with
 | num=>exact .num
 | rd h=>exact .rd (hk _ _ h)
 | bin=>exact .bin
 | pick=>exact .pick
 | cho=>exact .cho
 | branch=>exact .branch
 | among h=>exact .among h
 | join h=>exact .join h
theorem StN.le {kn kn':Kn} (hk:Kn.Le kn kn') {n:Nat}{a b:Cf} (h:StN kn n a b):StN kn' n a b:=by
 induction h with
 | zero=>exact .zero
 | succ h _ ih=>exact .succ (h.le hk) ih
theorem jh {α:Type}{s t:List α}{x y:α} (h:s++[x]=t++[y]):s=t/\x=y:=by
 have:=List.append_inj' h rfl
 exact⟨this.1,by simpa using this.2⟩
theorem Lw {α:Type}{s t:List α}{x y u v:α} (h:s++[x,y]=t++[u,v]):s=t/\x=u/\y=v:=by
 have:=List.append_inj' h rfl
 exact⟨this.1,by simpa using this.2⟩
def St1.Inv (kn:Kn) (f:List Int) (d:List Rdp) (t:List Stp) (c':Cf):Stp->Prop
 | .r (.num n)=>c'=⟨t,f++[n],d⟩
 | .r (.rd x)=>∃v,kn x=some v/\c'=⟨t,f++[v],tV d x v⟩
 | .r (.bin op a b)=>c'=⟨t++[.join op, .r b, .r a],f,d⟩
 | .r (.pick a b c)=>c'=⟨t++[.branch b c, .r a],f,d⟩
 | .r (.cho a ns)=>c'=⟨t++[.among ns, .r a],f,d⟩
 | .branch b c=>∃g v,f=g++[v]/\c'=⟨t++[.r (if v>0 then b else c)],g,d⟩
 | .among ns=>∃g v x,f=g++[v]/\tK ns v=some x/\c'=⟨t++[.r (.rd x)],g,d⟩
 | .join op=>∃g u v,f=g++[u,v]/\(op= .times->Bc u v)/\c'=⟨t,g++[op.ap u v],d⟩
theorem St1.inv {kn:Kn}{c c':Cf} (h:St1 kn c c'):∀t s,c.todo=t++[s]->St1.Inv kn c.found c.rds t c' s:=by
 cases h with
 | num=>intro t s e;obtain⟨rfl,rfl⟩:=jh e;exact rfl
 | rd h=>intro t s e;obtain⟨rfl,rfl⟩:=jh e;exact⟨_,h,rfl⟩
 | bin=>intro t s e;obtain⟨rfl,rfl⟩:=jh e;exact rfl
 | pick=>intro t s e;obtain⟨rfl,rfl⟩:=jh e;exact rfl
 | cho=>intro t s e;obtain⟨rfl,rfl⟩:=jh e;exact rfl
 | branch=>intro t s e;obtain⟨rfl,rfl⟩:=jh e;exact⟨_,_,rfl,rfl⟩
 | among h=>intro t s e;obtain⟨rfl,rfl⟩:=jh e;exact⟨_,_,_,rfl,h,rfl⟩
 | join h=>intro t s e;obtain⟨rfl,rfl⟩:=jh e;exact⟨_,_,_,rfl,h,rfl⟩
theorem St1.det {kn:Kn}{a b c:Cf} (h:St1 kn a b) (g:St1 kn a c):b=c:=by
 cases h with
 | num=>exact(g.inv _ _ rfl).symm
 | rd h=>
   obtain⟨v,e,z⟩:=g.inv _ _ rfl
   rw[h] at e;cases e;exact z.symm
 | bin=>exact(g.inv _ _ rfl).symm
 | pick=>exact(g.inv _ _ rfl).symm
 | cho=>exact(g.inv _ _ rfl).symm
 | branch=>
   obtain⟨f,v,e,z⟩:=g.inv _ _ rfl
   obtain⟨rfl,rfl⟩:=jh e
   exact z.symm
 | among h=>
   obtain⟨f,v,x,e,hx,z⟩:=g.inv _ _ rfl
   obtain⟨rfl,rfl⟩:=jh e
   rw[h] at hx;cases hx;exact z.symm
 | join h=>
   obtain⟨f,u,v,e,_,z⟩:=g.inv _ _ rfl
   obtain⟨rfl,rfl,rfl⟩:=Lw e
   exact z.symm
def Halt (kn:Kn) (c:Cf):Prop:=c.todo=[]\/∃t x,c.todo=t++[.r (.rd x)]/\kn x=none
theorem Halt.no {kn:Kn}{c c':Cf} (h:Halt kn c) (g:St1 kn c c'):False:=by
 rcases h with h | ⟨t,x,h,hx⟩
 ·cases g<;>simp at h
 ·obtain⟨v,e,_⟩:=g.inv _ _ h
  rw[hx] at e;cases e
theorem StN.rest {kn:Kn}{n m:Nat}{a b c:Cf} (h:StN kn n a b) (g:StN kn m a c) (hc:Halt kn c):∃k,StN kn k b c:=by
 induction h generalizing m with
 | zero=>exact⟨m,g⟩
 | succ h _ ih=>
   cases g with
   | zero=>exact(hc.no h).elim
   | succ h' g'=>rw[<-h.det h'] at g';exact ih g'
theorem Lx {ns:List Str} (h:1<=ns.length) (u:Int):∃x,tK ns u=some x:=by
 unfold tK
 have h1:(u % (ns.length:Int)).toNat<ns.length:=by
  have:=Int.emod_nonneg u (show(ns.length:Int)≠0 by omega)
  have:=Int.emod_lt_of_pos u (show(0:Int)<ns.length by omega)
  omega
 exact⟨_,List.getElem?_eq_getElem h1⟩
end RB
namespace RB
open PySem L2 PySem.Spec PyProof.Rows
def Reach (kn:Kn) (r:R) (c:Cf):Prop:=∃n,StN kn n ⟨[.r r],[],[]⟩ c
theorem Reach.le {kn kn':Kn} (h:Kn.Le kn kn') {r:R}{c:Cf} (g:Reach kn r c):Reach kn' r c:=by
 obtain⟨n,g⟩:=g
 exact⟨n,g.le h⟩
def kn0:Kn:=fun _=>none
end RB
set_option maxRecDepth 100000
namespace L2
open PySem PySem.Spec PyProof.Rows
section
variable {X:Cx}{i o:Expr}{ty td:TE}{pos:Pos}
theorem zg (hu:X.A.units+1<cLine) (hi:QE X i ty) (ho:QE X o td) (h1:behindInMarks .In o=false:=by rfl):QT X (.Compare i [.In] [o] pos) (tB (aas ty td)):=⟨Mm (WQ hu hi.h ho.h) h1⟩
theorem vH (hu:X.A.units+1<cLine) (hi:QE X i ty) (ho:QE X o td) (h1:behindInMarks .NotIn o=false:=by rfl):QT X (.Compare i [.NotIn] [o] pos) (tB (J9 ty td)):=⟨Mm (Lj hu hi.h ho.h) h1⟩
end
end L2
namespace RB
open PySem L2 PySem.Spec PyProof.Rows
inductive Ag (H:Hp):V->Stp->Prop where
 | r {a:Addr}{r:R} (h:IsR H a r):Ag H (.ref a) (.r r)
 | branch {a b c:Addr}{s t:R} (e:H a=some (.tup [.str "branch", .ref b, .ref c])) (h1:IsR H b s) (h2:IsR H c t):Ag H (.ref a) (.branch s t)
 | among {a b:Addr}{ns:List Str} (e:H a=some (.tup [.str "among", .ref b])) (h:H b=some (.tup (ns.map V.str))):Ag H (.ref a) (.among ns)
 | join {a:Addr}{op:Op} (e:H a=some (.tup [.str "join", .str op.word])):Ag H (.ref a) (.join op)
theorem Ag.tups {H H':Hp} (t:mR H H') {v:V}{s:Stp} (h:Ag H v s):Ag H' v s:=by
 cases h with
 | r h=>exact .r (h.tups t)
 | branch e h1 h2=>exact .branch (t _ _ e) (h1.tups t) (h2.tups t)
 | among e h=>exact .among (t _ _ e) (t _ _ h)
 | join e=>exact .join (t _ _ e)
inductive lM (H:Hp):List V->List Stp->Prop where
 | nil:lM H [] []
 | cons {v:V}{s:Stp}{vs:List V}{ss:List Stp} (h:Ag H v s) (t:lM H vs ss):lM H (v::vs) (s::ss)
theorem lM.tups {H H':Hp} (t:mR H H') {vs:List V}{ss:List Stp} (h:lM H vs ss):lM H' vs ss:=by
 induction h with
 | nil=>exact .nil
 | cons h _ ih=>exact .cons (h.tups t) ih
theorem lM.app {H:Hp}:∀{vs ws:List V}{ss ts:List Stp},lM H vs ss->lM H ws ts->lM H (vs++ws) (ss++ts)
 | _,_,_,_, .nil,h=>h
 | _,_,_,_, .cons h' t,h=> .cons h' (t.app h)
theorem lM.snoc {H:Hp}{s:Stp}:∀{ss:List Stp}{vs:List V},lM H vs (ss++[s])->∃us v,vs=us++[v]/\lM H us ss/\Ag H v s
 |[],_,h=>by
  cases h with
  | cons h t=>cases t;exact⟨[],_,rfl, .nil,h⟩
 | s0::ss,_,h=>by
   cases h with
   | cons h t=>
     obtain⟨us,v,rfl,h1,h2⟩:=lM.snoc (ss:=ss) t
     exact⟨_::us,v,rfl, .cons h h1,h2⟩
theorem lM.length {H:Hp}{vs:List V}{ss:List Stp} (h:lM H vs ss):vs.length=ss.length:=by
 induction h with
 | nil=>rfl
 | cons _ _ ih=>simp[ih]
def wR:R->Nat
 | .num _=>1
 | .rd _=>1
 | .bin _ a b=>wR a+wR b+2
 | .pick a b c=>wR a+wR b+wR c+2
 | .cho a _=>wR a+3
def wS:Stp->Nat
 | .r r=>wR r
 | .branch s t=>wR s+wR t+1
 | .among _=>2
 | .join _=>1
def wT (t:List Stp):Nat:=(t.map wS).sum
def Cf.w (c:Cf):Nat:=c.rds.length+c.found.length+2 * wT c.todo
theorem lA (s t:List Stp):wT (s++t)=wT s+wT t:=by unfold wT;rw[List.map_append,List.sum_append]
theorem Xp:∀r:R,1<=wR r
 | .num _=>Nat.le_refl _
 | .rd _=>Nat.le_refl _
 | .bin _ a b=>by show 1<=wR a+wR b+2;omega
 | .pick a b c=>by show 1<=wR a+wR b+wR c+2;omega
 | .cho a _=>by show 1<=wR a+3;omega
theorem Xq (s:Stp):1<=wS s:=by
 cases s with
 | r r=>exact Xp r
 | branch s t=>show 1<=wR s+wR t+1;omega
 | among ns=>exact(by decide:1<=2)
 | join op=>exact Nat.le_refl _
theorem Ju:∀t:List Stp,t.length<=wT t
 |[]=>Nat.le_refl _
 | s::t=>by
   have:=Ju t
   have:=Xq s
   show t.length+1<=wS s+wT t
   omega
theorem N8 (d:List Rdp) (x:Str) (v:Int):(tV d x v).length<=d.length+1:=by
 unfold tV
 split
 ·rw[List.length_map];omega
 ·rw[List.length_append];exact Nat.le_refl _
theorem St1.w {kn:Kn}{a b:Cf} (h:St1 kn a b):b.w<=a.w:=by
 cases h with
 | @num t f d n=>
   show d.length+(f++[n]).length+2 * wT t<=d.length+f.length+2 * wT (t++[.r (.num n)])
   rw[lA,List.length_append];show _<=_+2 *(_+1);simp;omega
 | @rd t f d x v h=>
   have:=N8 d x v
   show(tV d x v).length+(f++[v]).length+2 * wT t<=d.length+f.length+2 * wT (t++[.r (.rd x)])
   rw[lA,List.length_append];show _<=_+2 *(_+1);simp;omega
 | @bin t f d op a b=>
   show d.length+f.length+2 * wT (t++[.join op, .r b, .r a])<=d.length+f.length+2 * wT (t++[.r (.bin op a b)])
   rw[lA,lA];show _+2 *(_+(1+(wR b+(wR a+0))))<=_+2 *(_+(wR a+wR b+2+0));omega
 | @pick t f d a b c=>
   show d.length+f.length+2 * wT (t++[.branch b c, .r a])<=d.length+f.length+2 * wT (t++[.r (.pick a b c)])
   rw[lA,lA];show _+2 *(_+(wR b+wR c+1+(wR a+0)))<=_+2 *(_+(wR a+wR b+wR c+2+0));omega
 | @cho t f d a ns=>
   show d.length+f.length+2 * wT (t++[.among ns, .r a])<=d.length+f.length+2 * wT (t++[.r (.cho a ns)])
   rw[lA,lA];show _+2 *(_+(2+(wR a+0)))<=_+2 *(_+(wR a+3+0));omega
 | @branch t f d b c v=>
   show d.length+f.length+2 * wT (t++[.r (if v>0 then b else c)])<=d.length+(f++[v]).length+2 * wT (t++[.branch b c])
   rw[lA,lA,List.length_append]
   have:wR (if v>0 then b else c)<=wR b+wR c:=by split<;>omega
   show _+2 *(_+(wR (if v>0 then b else c)+0))<=_+2 *(_+(wR b+wR c+1+0));omega
 | @among t f d ns v x h=>
   show d.length+f.length+2 * wT (t++[.r (.rd x)])<=d.length+(f++[v]).length+2 * wT (t++[.among ns])
   rw[lA,lA,List.length_append];show _+2 *(_+1)<=_+2 *(_+2);omega
 | @join t f d op u v h=>
   show d.length+(f++[op.ap u v]).length+2 * wT t<=d.length+(f++[u,v]).length+2 * wT (t++[.join op])
   rw[lA,List.length_append,List.length_append];show _+(_+1)+_<=_+(_+2)+2 *(_+1);omega
def rdK (d:List Rdp):List (Key×V):=d.map fun p=>(.inr p.1, .int p.2)
theorem Rp (d:List Rdp) (x:Str) (v:Int):putK (rdK d) (.inr x) (.int v)=rdK (tV d x v):=by
 unfold putK tV rdK
 rw[List.any_map]
 have e:((fun kv:Key×V=>decide (kv.1=(.inr x:Key)))∘fun p:Rdp=>((.inr p.1:Key),V.int p.2))=fun p:Rdp=>decide (p.1=x):=by
  funext p
  show decide ((Sum.inr p.1:Key)=Sum.inr x)=_
  by_cases h:p.1=x
  ·rw[decide_eq_true h,decide_eq_true (by rw[h])]
  ·rw[decide_eq_false h,decide_eq_false (fun z=>h (Sum.inr.inj z))]
 rw[e]
 by_cases hc:(d.any fun p=>decide (p.1=x))=true
 ·rw[if_pos hc,if_pos hc,List.map_map,List.map_map]
  apply List.map_congr_left
  intro p _
  show(if(Sum.inr p.1:Key)=Sum.inr x then((Sum.inr p.1:Key),V.int v) else((Sum.inr p.1:Key),V.int p.2))=_
  by_cases h:p.1=x
  ·rw[if_pos (by rw[h])]
   show _=((Sum.inr (if p.1=x then(p.1,v) else p).1:Key),V.int (if p.1=x then(p.1,v) else p).2)
   rw[if_pos h]
  ·rw[if_neg (fun z=>h (Sum.inr.inj z))]
   show _=((Sum.inr (if p.1=x then(p.1,v) else p).1:Key),V.int (if p.1=x then(p.1,v) else p).2)
   rw[if_neg h]
 ·rw[if_neg hc,if_neg hc,List.map_append];rfl
def rkF (a1 a2 a3:Addr):List (Str×V):=[("todo", .ref a1),("found", .ref a2),("reads", .ref a3)]
structure RcAt (H:Hp) (a C dx a1 a2 a3:Addr) (c:Cf):Prop where
 e:H a=some (.ins C dx (rkF a1 a2 a3))
 e1:∃ws,H a1=some (.lst ws)/\lM H ws c.todo
 e2:H a2=some (.lst (c.found.map V.int))
 e3:H a3=some (.dK (rdK c.rds))
 ne:a1≠a2
 hw:c.w<=10000
structure RkC (K:PySem.W.Frag) (C:Addr):Prop where
 cl:Cls K C
 nT:iu K C "todo"
 nF:iu K C "found"
 nR:iu K C "reads"
def Oa (H:Hp) (d:Addr) (kn:Kn):Prop:=∃kvs,H d=some (.dK kvs)/\∀x,cG kvs (.inr x)=(kn x).map V.int
theorem Fw (a1 a2 a3:Addr):List.lookup ("todo":Str) (rkF a1 a2 a3)=some (.ref a1):=rfl
theorem BJ (a1 a2 a3:Addr):List.lookup ("found":Str) (rkF a1 a2 a3)=some (.ref a2):=rfl
theorem BK (a1 a2 a3:Addr):List.lookup ("reads":Str) (rkF a1 a2 a3)=some (.ref a3):=rfl
theorem UT (a1 a2 a3:Addr):List.lookup ("go_on":Str) (rkF a1 a2 a3)=none:=rfl
theorem yp (a1 a2 a3:Addr):List.lookup ("lacking":Str) (rkF a1 a2 a3)=none:=rfl
def Kp:Sp:=fun vs H Q _=>∃(op:Op) (u v:Int),vs=[.str op.word, .int u, .int v]/\(op= .times->Bc u v)/\Q (.int (op.ap u v)) H
def Hj (C:Addr):Sp:=fun vs H Q _=>∃(a dx b:Addr) (r:R),vs=[.ref a, .ref b]/\H a=some (.ins C dx [])/\IsR H b r/\wR r<=4000/\
 ∀a1 a2 a3 H',But [a] H H'->H a1=none->H a2=none->H a3=none->RcAt H' a C dx a1 a2 a3 ⟨[.r r],[],[]⟩->Q .non H'
def aaK (C:Addr):Sp:=fun vs H Q _=>∃(a dx a1 a2 a3:Addr) (v:V) (s:Stp) (t:List Stp) (f:List Int) (d:List Rdp) (kn:Kn) (c:Cf),vs=[.ref a,v]/\RcAt H a C dx a1 a2 a3 ⟨t,f,d⟩/\Ag H v s/\(∀x,s≠ .r (.rd x))/\
 St1 kn ⟨t++[s],f,d⟩ c/\c.w<=10000/\∀H',But [a1,a2,a3] H H'->RcAt H' a C dx a1 a2 a3 c->Q .non H'
def Ob (C:Addr):Sp:=fun vs H Q _=>∃(a dx a1 a2 a3 d:Addr) (kn:Kn) (n:Nat) (c c':Cf),vs=[.ref a, .ref d]/\RcAt H a C dx a1 a2 a3 c/\Oa H d kn/\d≠a3/\StN kn n c c'/\Halt kn c'/\
 ∀H',But [a1,a2,a3] H H'->RcAt H' a C dx a1 a2 a3 c'->(c'.todo=[]->Q .non H')/\∀t x,c'.todo=t++[.r (.rd x)]->Q (.str x) H'
theorem RcAt.lists {H:Hp}{a C dx a1 a2 a3:Addr}{c:Cf} (h:RcAt H a C dx a1 a2 a3 c) {H':Hp} (b:But [a1,a2,a3] H H'):mR H H':=fun p xs q=>b p _ (fun z=>by
 obtain⟨ws,e1,_⟩:=h.e1
 have:p=a1\/p=a2\/p=a3:=by simpa using z
 rcases this with rfl | rfl | rfl
 ·rw[e1] at q;cases q
 ·rw[h.e2] at q;cases q
 ·rw[h.e3] at q;cases q) q
end RB
namespace RB
open PySem L2 PySem.Spec PyProof.Rows
theorem fJ {H:Hp}{p q:Addr}{o:HO} (h:upd H p o q=none):q≠p/\H q=none:=by
 by_cases e:q=p
 ·subst e;rw[ak] at h;cases h
 ·rw[ao e] at h;exact⟨e,h⟩
theorem RcAt.ins {H:Hp}{a C dx a1 a2 a3:Addr}{c:Cf} (h:RcAt H a C dx a1 a2 a3 c):a∉[a1,a2,a3]:=fun z=>by
 obtain⟨ws,e1,_⟩:=h.e1
 have z:a=a1\/a=a2\/a=a3:=by simpa using z
 have e:=h.e
 rcases z with z | z | z
 ·rw[z,e1] at e;cases e
 ·rw[z,h.e2] at e;cases e
 ·rw[z,h.e3] at e;cases e
theorem RcAt.n13 {H:Hp}{a C dx a1 a2 a3:Addr}{c:Cf} (h:RcAt H a C dx a1 a2 a3 c):a1≠a3:=fun z=>by
 obtain⟨ws,e1,_⟩:=h.e1
 have e:=h.e3
 rw[<-z,e1] at e;cases e
theorem RcAt.n23 {H:Hp}{a C dx a1 a2 a3:Addr}{c:Cf} (h:RcAt H a C dx a1 a2 a3 c):a2≠a3:=fun z=>by
 have e:=h.e3
 rw[<-z,h.e2] at e;cases e
theorem RcAt.next {H H':Hp}{a C dx a1 a2 a3:Addr}{c c':Cf}{ws:List V} (h:RcAt H a C dx a1 a2 a3 c) (b:But [a1,a2,a3] H H') (g1:H' a1=some (.lst ws)) (s:lM H' ws c'.todo) (g2:H' a2=some (.lst (c'.found.map V.int))) (g3:H' a3=some (.dK (rdK c'.rds))) (hw:c'.w<=10000):RcAt H' a C dx a1 a2 a3 c':=
 ⟨b _ _ h.ins h.e,⟨ws,g1,s⟩,g2,g3,h.ne,hw⟩
theorem Ag.hd {H:Hp}{v:V}{s:Stp} (h:Ag H v s) (hno:∀x,s≠ .r (.rd x)):∃p k xs,v= .ref p/\H p=some (.tup (.str k::xs))/\k≠"read":=by
 cases h with
 | r h=>
   cases h with
   | num e=>exact⟨_,_,_,rfl,e,by decide +kernel⟩
   | rd e=>exact absurd rfl (hno _)
   | @bin _ _ _ op _ _ e _ _=>exact⟨_,_,_,rfl,e,by cases op<;>decide +kernel⟩
   | pick e _ _ _=>exact⟨_,_,_,rfl,e,by decide +kernel⟩
   | cho e _ _=>exact⟨_,_,_,rfl,e,by decide +kernel⟩
 | branch e _ _=>exact⟨_,_,_,rfl,e,by decide +kernel⟩
 | among e _=>exact⟨_,_,_,rfl,e,by decide +kernel⟩
 | join e=>exact⟨_,_,_,rfl,e,by decide +kernel⟩
theorem StN.halt {kn:Kn}{n:Nat}{c c':Cf} (h:StN kn n c c') (hc:Halt kn c):c=c':=by
 cases h with
 | zero=>rfl
 | succ h _=>exact(hc.no h).elim
theorem Xr {H:Hp}{a:Addr}{o:HO} (h:H a=some o):upd H a o=H:=by
 funext b
 by_cases e:b=a
 ·subst e;rw[ak,h]
 ·rw[ao e]
end RB
namespace RB
open PySem L2 PySem.Spec PyProof.Rows
end RB
namespace RB
open PySem L2 PySem.Spec PyProof.Rows
theorem same_none {H H':Hp}{p:Addr} (s:aN H H') (h:H' p=none):H p=none:=by
 cases z:H p with
 | none=>rfl
 | some o=>rw[s _ _ z] at h;cases h
end RB
set_option maxRecDepth 100000
namespace L2
open PySem PySem.Spec PyProof.Rows
theorem Ax {k:Key}{v:Value} (h:zR k v=true):RelV (kV k) v:=by
 rcases gf h with⟨i,t,rfl,rfl⟩ | ⟨x,t,rfl,rfl⟩
 ·exact⟨t,rfl⟩
 ·exact⟨t,rfl⟩
theorem wU:∀{ys:List V}{its:List Value},its.length=ys.length->(∀(i:Nat) (v:Value),its[i]? =some v->∃y,ys[i]? =some y/\RelV y v)->Vals ys its
 |[],[],_,_=> .nil
 | y::ys,v::its,hl,h=>by
   obtain⟨y',e,r⟩:=h 0 v rfl
   cases e
   exact .cons r (wU (by simpa using hl) fun i u hu=>h (i+1) u (by simpa using hu))
 |[],_::_,hl,_=>by simp at hl
 | _::_,[],hl,_=>by simp at hl
theorem yq {κ:Type}:∀{kvs:List (κ×V)}{vs:List (κ×Value)},KV kvs vs->kvs.length=vs.length/\∀(i:Nat) (k:κ) (x:Value),vs[i]? =some (k,x)->∃y,kvs[i]? =some (k,y)
 | _,_, .nil=>⟨rfl,fun i k x h=>by simp at h⟩
 | _,_, .cons (a:=p) (b:=q) h t=>by
   obtain⟨h1,h2⟩:=yq t
   refine⟨by simp[h1],fun i k x e=> ?_⟩
   cases i with
   | zero=>cases e;exact⟨p.2,by rw[List.getElem?_cons_zero];cases p;simp only at h ⊢;rw[h.1]⟩
   | succ i=>exact h2 i k x (by simpa using e)
section
variable {X:Cx}
theorem Jv (hc:X.calm=true):nW X (.type "list") (fun xs H Q=>∃a kvs,xs=[.ref a]/\H a=some (.dK kvs)/\∀l,H l=none->Q (.ref l) (upd H l (.lst (kvs.map fun kv=>kV kv.1)))):=by
 intro pins s σ H xs us Q I r h
 obtain⟨a,kvs,rfl,ha,q⟩:=h
 obtain⟨u,rfl,rx⟩:=vals1 r
 cases rx
 obtain⟨hz,lo,vs,hkv,hd⟩:=(show eN X.prog X.w H s.heap a (.dK kvs) from I.hok a _ ha)
 obtain⟨ep,hat⟩:=hd.dictAt
 obtain⟨hl,hk⟩:=yq hkv
 refine PySem.W.kdl_call (PySem.W.kdl_dict lo) (I.ok.hd hc) hat (by rw[<-hl];exact hz) fun h' tk acc c kp e hacc=> ?_
 have hv:Vals (kvs.map fun kv=>kV kv.1) acc.toList:=wU (by rw[List.length_map,Array.length_toList,hacc.1,hl]) fun i v hv=>by
  obtain⟨k,x,e1,e2⟩:=hacc.2 i v (by rw[<-Array.getElem?_toList];exact hv)
  obtain⟨y,hy⟩:=hk i k x e1
  exact⟨kV k,by rw[List.getElem?_map,hy];rfl,Ax e2⟩
 exact⟨.ref s.heap.objs.size,_,I.laid (t':=tk) kp (Nat.le_refl _) (show eN X.prog X.w _ h' _ (.lst (kvs.map fun kv=>kV kv.1)) from⟨by rw[List.length_map];exact hz,acc.toList,c,hv,by simpa using e⟩),rfl,q _ (I.hok.fresh (Nat.le_refl _))⟩
theorem BL (hc:X.calm=true):n8 X (.type "list") (fun xs H Q=>∃a kvs,xs=[.ref a]/\H a=some (.dK kvs)/\∀l,H l=none->Q (.ref l) (upd H l (.lst (kvs.map fun kv=>kV kv.1)))):=⟨Jv hc⟩
end
end L2
set_option maxRecDepth 100000
namespace RB
open PySem L2 PySem.Spec PyProof.Rows
def R.In (ns:List Str):R->Prop
 | .num _=>True
 | .rd x=>x∈ns
 | .bin _ a b=>a.In ns/\b.In ns
 | .pick a b c=>a.In ns/\b.In ns/\c.In ns
 | .cho a ms=>a.In ns/\∀x∈ms,x∈ns
end RB
namespace RB
open PySem L2 PySem.Spec PyProof.Rows
theorem gR {S:List Addr}{H H':Hp}{q:Addr} (b:But S H H') (h:H' q=none) (hS:q∉S):H q=none:=by
 cases z:H q with
 | none=>rfl
 | some o=>rw[b _ _ hS z] at h;cases h
theorem oF {ns:List Str} (h:∀x∈ns,mz x):SeqAt.shaped (.list (ns.map PyData.str))=true:=by
 have:=Bv ns
 have h4:(PyData.list (ns.map PyData.str)).depth<=64:=by simp only[PyData.depth];omega
 have h5:(PyData.list (ns.map PyData.str)).canLay0=true:=by simp only[PyData.canLay0];exact Ej ns h
 show(_&&decide _)=true
 rw[h5,decide_eq_true h4];rfl
theorem Kq {ns:List Str} (h:1<=ns.length):PyData.eqv (.list (ns.map PyData.str)) (.list [])=false:=by
 cases ns with
 | nil=>simp at h
 | cons n ns=>simp[PyData.eqv,PyData.eqvAll]
end RB
set_option maxRecDepth 100000
namespace L2
open PySem PySem.Spec PyProof.Rows
section
variable {X:Cx}{e st:Expr}{te ts:TE}{pos p2:Pos}
end
end L2
set_option maxRecDepth 100000
namespace RB
open PySem L2 PySem.Spec PyProof.Rows
def Chn (r:R):Kn->List Rdp->Prop
 | _,[]=>True
 | kn,p::us=>ev kn r= .inl p.1/\Chn r (kn.put p.1 p.2) us
theorem Chn.le {r:R}:∀{us:List Rdp}{kn:Kn},Chn r kn us->Kn.Le kn (kn.puts us)
 |[],kn,_=>Kn.Le.refl _
 | p::us,kn,h=>(Kn.oE (m8 h.1)).trans (Chn.le (us:=us) h.2)
theorem Chn.up {a r:R}:∀{us:List Rdp}{kn:Kn},(∀kn' x,Kn.Le kn kn'->ev kn' a= .inl x->ev kn' r= .inl x)->Chn a kn us->Chn r kn us
 |[],_,_,_=>trivial
 | p::us,kn,h,g=>⟨h kn p.1 (Kn.Le.refl _) g.1,Chn.up (us:=us) (fun kn' x l e=>h kn' x ((Kn.oE (m8 g.1)).trans l) e) g.2⟩
theorem Kn.gm (kn:Kn) (us vs:List Rdp):kn.puts (us++vs)=(kn.puts us).puts vs:=by
 induction us generalizing kn with
 | nil=>rfl
 | cons u us ih=>exact ih _
theorem Chn.app {r:R}:∀{us vs:List Rdp}{kn:Kn},Chn r kn us->Chn r (kn.puts us) vs->Chn r kn (us++vs)
 |[],_,_,_,h=>h
 | p::us,vs,kn,g,h=>⟨g.1,Chn.app (us:=us) g.2 h⟩
end RB
set_option maxRecDepth 100000
namespace L2
open PySem PySem.Spec PyProof.Rows
def Itd (a:Addr) (o:Obj) (kvs:List (Key×V)):It where
 go:=fun i H=>i<kvs.length/\H a=some (.frz o (.dK kvs))
 yld:=fun i H x H'=>H'=H/\∃k v,kvs[i]? =some (k,v)/\x=kV k
 stop:=fun i H=>kvs.length<=i/\H a=some (.frz o (.dK kvs))
theorem El {P:Program}{w:World}{K:PySem.W.Frag}{tg:Expr}{a it:Addr}{o:Obj}{kvs:List (Key×V)}{vs:List (Key×Value)}{es:Array DictEntry}{ep:Nat} (hne:a≠it) (hkv:KV kvs vs) (hx:o.ExactDict) (hdat:o.data= .dict es ep) (hk:PySem.KeysOf (cW P w) es) (hp:Pairs (cW P w) es.toList vs) (hn:(vs.map (·.1)).Nodup):
 Turn P w K tg (Itd a o kvs) [it] it (fun i h=>h.IsKeyIter it a i kvs.length ep) where
 mem:=by simp
 obj:=fun i h st b hb=>by
  have e:b=it:=by simpa using hb
  subst e
  obtain⟨o,e,c,d⟩:=st
  exact⟨o,e,fun v z=>by rw[d] at z;cases z⟩
 keep:=fun i h h' st k=>st.at fun o e=>k it (by simp) o e
 item:=by
  intro X hP hw hK hc i pins s σ H E I hf st hg
  subst hP hw hK
  obtain⟨hi,hH⟩:=hg
  obtain⟨ho,_⟩:=(show eN X.prog X.w H s.heap a (.frz o (.dK kvs)) from I.hok a _ hH)
  have hm:s.heap.DictAt (cW X.prog X.w) a vs ep:=⟨o,es,ho,hx,hdat,hk,hp,hn⟩
  obtain⟨hl,hat⟩:=yq hkv
  have hi':i<vs.length:=by rw[<-hl];exact hi
  obtain⟨⟨k,x⟩,hxk⟩:∃p,vs[i]? =some p:=⟨vs[i],by simp[hi']⟩
  obtain⟨y,hy⟩:=hat i k x hxk
  obtain⟨f0,f1,f2,f3,f4,f5⟩:=hf it (by simp)
  rw[hl] at st
  refine wpAny_pyNext_dict_item st hm hxk fun key h' hkey hit' hs'=> ?_
  have I1:Inv X pins σ H {s with heap:=h'}:=I.turned (t':=s.toks) (fun b o hb e=>hs'.extBut b o hb e) f0 f1 f3 f4 f5
  obtain⟨o',e',c',d'⟩:=id hit'
  exact⟨key,rfl,MF (s:={s with heap:=h'}) e' c' d' (by decide) ⟨kV k,H,I1,Ax hkey,⟨rfl,k,y,hy,rfl⟩,by rw[hl];exact hit',fun b hb=>(hf b hb).1⟩⟩
 done:=by
  intro X hP hw hK hc i pins s σ H E I hf st hg
  subst hP hw hK
  obtain⟨hi,hH⟩:=hg
  obtain⟨ho,_⟩:=(show eN X.prog X.w H s.heap a (.frz o (.dK kvs)) from I.hok a _ hH)
  have hm:s.heap.DictAt (cW X.prog X.w) a vs ep:=⟨o,es,ho,hx,hdat,hk,hp,hn⟩
  obtain⟨hl,hat⟩:=yq hkv
  obtain⟨f0,f1,f2,f3,f4,f5⟩:=hf it (by simp)
  rw[hl] at st
  exact wpAny_pyNext_dict_end (I.ok.hd hc) st hm (by rw[List.getElem?_eq_none_iff];omega) fun h' eb=>⟨rfl,I.turned (t':=s.toks) (fun b o hb e=>eb b o hb e) f0 f1 f3 f4 f5⟩
 self:=fun _ _ _ _ _ st h=>wpAny_pyIter_keyiter st h
section
variable {X:Cx}{tg:Expr}
def UW (tl:TE):TI:=fun σ H R=>tl σ H fun x H1=>∃a kvs,x= .ref a/\H1 a=some (.dK kvs)/\∀o,R (Itd a o kvs) (upd H1 a (.frz o (.dK kvs)))
theorem Rq {l:Expr}{tl:TE} (hl:PE X l tl):PI X tg l (UW tl):=by
 intro pins s σ H R I h
 refine thn (hl pins s σ H _ I h) fun v s1 ⟨x,H1,I1,r1,q1⟩=> ?_
 obtain⟨a,kvs,e,hq,q⟩:=q1
 subst e
 cases r1
 obtain⟨hz,lo,vs,hkv,hd⟩:=(show eN X.prog X.w H1 s1.heap a (.dK kvs) from I1.hok a _ hq)
 obtain⟨o,es,ep,ho,hx,hdat,hk,hp,hn⟩:=id hd
 have hl:=(yq hkv).1
 have I2:Inv X pins σ (upd H1 a (.frz o (.dK kvs))) {s1 with heap:=s1.heap,toks:=s1.toks}:=I1.write (x:=a) (e:=a) (h':=s1.heap) (by rw[hq];exact trivial) (.inl rfl) (fun b u _ e=>e) ⟨o,ho⟩ ⟨ho,hz,lo,vs,hkv,hd⟩
 refine wpAny_pyIter_dict lo ⟨o,es,ho,hx,hdat,hk,hp,hn⟩ ?_
 have hlt:a<s1.heap.objs.size:=Heap.lt_size ho
 rw[<-hl]
 refine⟨s1.heap.objs.size,[s1.heap.objs.size],_,_,_,rfl,I2.kept (t':=s1.toks) fun b o e=>Heap.get?_push_of_some _ e,El (Nat.ne_of_lt hlt) hkv hx hdat hk hp hn,⟨_,Heap.get?_push_size _ rfl,rfl,rfl⟩,fun b hb=> ?_,q o⟩
 have e:b=s1.heap.objs.size:=by simpa using hb
 subst e
 exact I2.Il (Nat.le_refl _) (I2.hok.fresh (Nat.le_refl _))
theorem Rr {l:Expr}{tl:TE} (hl:QE X l tl):QI X tg l (UW tl):=⟨Rq hl.h⟩
end
section
variable {X:Cx}
theorem Jw:nW X (.type "dict") (fun xs H Q=>∃a kvs,xs=[.ref a]/\Rd H a (.dK kvs)/\∀p,H p=none->Q (.ref p) (upd H p (.dK kvs))):=by
 intro pins s σ H xs us Q I r h
 obtain⟨a,kvs,rfl,ha,q⟩:=h
 obtain⟨u,rfl,rx⟩:=vals1 r
 cases rx
 obtain⟨hz,lo,vs,hkv,hd⟩:=(show eN X.prog X.w H s.heap a (.dK kvs) from ha.ok I.hok)
 have hl:=(yq hkv).1
 refine kt_call_dict lo hd (Nat.le_trans (Nat.le_of_eq hl.symm) hz) fun h' hd' hs'=> ?_
 have keep:∀b u,s.heap.get? b=some u->h'.get? b=some u:=fun b u e=>by
  have hb:b≠s.heap.objs.size:=Nat.ne_of_lt (Heap.lt_size e)
  rw[hs'.2 b hb];exact Heap.get?_push_of_some _ e
 refine⟨.ref s.heap.objs.size,_,I.laid (t':=s.toks) keep (Nat.le_refl _) (show eN X.prog X.w _ h' _ (.dK kvs) from⟨hz, ?_,vs,hkv,hd'⟩),rfl,q _ (I.hok.fresh (Nat.le_refl _))⟩
 exact beq_eq_false_iff_ne.mpr (Nat.ne_of_gt I.big)
theorem BP:n8 X (.type "dict") (fun xs H Q=>∃a kvs,xs=[.ref a]/\Rd H a (.dK kvs)/\∀p,H p=none->Q (.ref p) (upd H p (.dK kvs))):=⟨Jw⟩
end
theorem Oc {κ:Type}:∀{kvs:List (κ×V)}{vs:List (κ×Value)},KV kvs vs->∀(i:Nat) (k:κ) (x:Value),vs[i]? =some (k,x)->∃y,kvs[i]? =some (k,y)/\RelV y x
 | _,_, .nil=>fun i k x h=>by simp at h
 | _,_, .cons (a:=p) (b:=q) h t=>fun i k x e=>by
   cases i with
   | zero=>cases e;exact⟨p.2,by rw[List.getElem?_cons_zero];cases p;simp only at h ⊢;rw[h.1],h.2⟩
   | succ i=>exact Oc t i k x (by simpa using e)
section
variable {X:Cx}
theorem wV {ts:List Str}:∀{us:List Value},Vals (ts.map V.str) us->StrsAre us ts:=by
 induction ts with
 | nil=>intro us r;cases r;exact .nil
 | cons n ns ih=>
   intro us r
   rw[List.map_cons] at r
   cases r with
   | cons r1 r2=>
     obtain⟨t,e⟩:=r1
     subst e
     exact .cons n t (ih r2)
theorem vI:∀{us:List Value}{ts:List Str},StrsAre us ts->Vals (ts.map V.str) us
 | _,_, .nil=> .nil
 | _,_, .cons y t h=> .cons ⟨t,rfl⟩ (vI h)
theorem Fx:nW X (.builtin "sorted") (fun xs H Q=>∃(a:Addr) (ts:List Str),xs=[.ref a]/\SqL X.K H a (ts.map V.str)/\ts.length<64/\∀(p:Addr) (us:List Str),H p=none->us.Perm ts->Q (.ref p) (upd H p (.lst (us.map V.str)))):=by
 intro pins s σ H xs us Q I r h
 obtain⟨a,ts,rfl,ha,hl,q⟩:=h
 obtain⟨u,rfl,rx⟩:=vals1 r
 cases rx
 obtain⟨its,rv,pl,_⟩:=I.list ha
 have hli:its.length=ts.length:=by have:=rv.length;rw[List.length_map] at this;exact this.symm
 refine sorted_strs pl.isList (wV rv) (by omega) fun out ss h1 h2 h3=> ?_
 obtain⟨e,he⟩:=sortedAll_at s.heap its out
 have hfr:H (s.heap.objs.size+1)=none:=I.hok.fresh (Nat.le_succ _)
 have hsl:=h2.length_eq
 have hz:(ss.map V.str).length<=sizeLine:=by rw[List.length_map,hsl,sizeLine_eq];omega
 exact⟨.ref (s.heap.objs.size+1),_,I.laid (t':=s.toks) (o:= .lst (ss.map V.str)) (fun b u e=>sortedAll_old e) (Nat.le_succ _) ⟨hz,out.toList,e,vI h1,by simpa [seqObj] using he⟩,rfl,q _ ss hfr h2⟩
theorem Jx:n8 X (.builtin "sorted") (fun xs H Q=>∃(a:Addr) (ts:List Str),xs=[.ref a]/\SqL X.K H a (ts.map V.str)/\ts.length<64/\∀(p:Addr) (us:List Str),H p=none->us.Perm ts->Q (.ref p) (upd H p (.lst (us.map V.str)))):=⟨Fx⟩
end
end L2
namespace RB
open PySem L2 PySem.Spec PyProof.Rows
end RB
namespace L2
open PySem PySem.Spec PyProof.Rows
section
variable {X:Cx}{o e:Expr}{td ty:TE}{apos cpos:Pos}
end
end L2
set_option maxRecDepth 100000
namespace RB
open PySem L2 PySem.Spec PyProof.Rows
def R.T3:R->Prop
 | .num _=>True
 | .rd _=>True
 | .bin op a b=>a.T3/\b.T3/\(op= .times->∃n,b= .num n/\ -100<=n/\n<=100)
 | .pick a b c=>a.T3/\b.T3/\c.T3
 | .cho a ns=>a.T3/\1<=ns.length
structure Rk3 (ns:List Str) (d:Nat) (r:R):Prop where
 g:r.Good
 t:r.T3
 i:r.In ns
 d:r.depth<=d
def Kr:Sp:=fun vs H Q _=>∃(p l:Addr) (c:Nat) (ns:List Str),vs=[.ref p, .ref l]/\eE H p c/\c<=50000/\H l=some (.lst (ns.map V.str))/\1<=ns.length/\ns.length<=9/\(∀x∈ns,mz x)/\
 ∀a r H',But [p] H H'->eE H' p (c+6)->IsR H' a r->Rk3 ns 1 r->Q (.ref a) H'
def tk3:Nat->Nat
 | 0=>10
 | d+1=>3 * tk3 d+20
theorem Rt (d:Nat):10<=tk3 d:=by
 induction d with
 | zero=>exact Nat.le_refl _
 | succ d ih=>show 10<=3 * tk3 d+20;omega
def Od (d:Nat):Sp:=fun vs H Q _=>∃(p l:Addr) (c:Nat) (ns:List Str) (deep:Int),vs=[.ref p, .ref l, .int deep]/\deep=(d:Int)/\d<=3/\eE H p c/\c<=10000+1000 *(4 - d)/\H l=some (.lst (ns.map V.str))/\1<=ns.length/\ns.length<=9/\(∀x∈ns,mz x)/\
 ∀a r H',But [p] H H'->eE H' p (c+tk3 d)->IsR H' a r->Rk3 ns (d+1) r->Q (.ref a) H'
theorem eE.ne {H:Hp}{p q:Addr}{c:Nat} (h:eE H p c) (hq:H q=none):q≠p:=fun z=>by
 obtain⟨r,m,k,e',_⟩:=h
 rw[<-z,hq] at e';cases e'
theorem eE.nel {H:Hp}{p l:Addr}{c:Nat}{xs:List V} (h:eE H p c) (hl:H l=some (.lst xs)):l∉[p]:=fun z=>by
 obtain⟨r,m,k,e',_⟩:=h
 have:l=p:=by simpa using z
 rw[this,e'] at hl;cases hl
theorem eE.mono {H:Hp}{p:Addr}{c c':Nat} (h:eE H p c) (hc:c<=c'):eE H p c':=by
 obtain⟨r,m,k,e,h0,h1⟩:=h
 exact⟨r,m,k,e,h0,by omega⟩
def aec:Nat->Sp
 | 0=>fun _ _ _ _=>False
 | d+1=>Od d
def U0:Sp:=fun vs H Q _=>∃(p l:Addr) (c:Nat) (ns:List Str) (deep:Int),vs=[.ref p, .ref l, .int deep]/\0<=deep/\deep<4/\eE H p c/\c<=6000/\H l=some (.lst (ns.map V.str))/\1<=ns.length/\ns.length<=9/\(∀x∈ns,mz x)/\
 ∀a r H',But [p] H H'->eE H' p (c+530)->IsR H' a r->Rk3 ns 4 r->Q (.ref a) H'
end RB
set_option maxRecDepth 100000
namespace RB
open PySem L2 PySem.Spec PyProof.Rows
theorem Em {κ:Type} [DecidableEq κ] (kvs:List (κ×V)) (k:κ) (v:V):(putK kvs k v).map (·.1)=if(kvs.any fun kv=>decide (kv.1=k))=true then kvs.map (·.1) else kvs.map (·.1)++[k]:=by
 unfold putK
 split
 ·rw[List.map_map]
  apply List.map_congr_left
  intro p _
  show(if p.1=k then(p.1,v) else p).1=p.1
  split<;>rfl
 ·rw[List.map_append];rfl
theorem zj {kvs:List (Key×V)}{ns:List Str} (h:kvs.map (·.1)=ns.map Sum.inr):kvs.map (fun kv=>kV kv.1)=ns.map V.str:=by
 have:kvs.map (fun kv=>kV kv.1)=(kvs.map (·.1)).map kV:=by rw[List.map_map];rfl
 rw[this,h,List.map_map];rfl
end RB
set_option maxRecDepth 100000
namespace RB
open PySem L2 PySem.Spec PyProof.Rows
structure gH (kvs:List (Key×V)) (ks:List Str):Prop where
 k:kvs.map (·.1)=ks.map Sum.inr
 nd:ks.Nodup
theorem gH.len {kvs:List (Key×V)}{ks:List Str} (h:gH kvs ks):kvs.length=ks.length:=by
 have:=congrArg List.length h.k
 rwa [List.length_map,List.length_map] at this
theorem Fy {kvs:List (Key×V)}{ks:List Str} (h:gH kvs ks) (x:Str):(kvs.any fun kv=>decide (kv.1=(.inr x:Key)))=decide (x∈ks):=by
 have e:(kvs.any fun kv=>decide (kv.1=(.inr x:Key)))=(kvs.map (·.1)).any (fun k=>decide (k=(.inr x:Key))):=by rw[List.any_map];rfl
 rw[e,h.k,List.any_map]
 clear e h
 induction ks with
 | nil=>rfl
 | cons y ks ih=>
   rw[List.any_cons,ih]
   by_cases hy:x=y
   ·subst hy;simp
   ·have:¬(y=x):=fun z=>hy z.symm
    simp[hy,this]
theorem gH.none {kvs:List (Key×V)}{ks:List Str} (h:gH kvs ks) {x:Str}:cG kvs (.inr x)=none ↔ x∉ks:=by
 have e:=Fy h x
 rw[qg] at e
 constructor
 ·intro z m
  rw[z] at e
  simp[m] at e
 ·intro m
  cases z:cG kvs (.inr x) with
  | none=>rfl
  | some v=>rw[z] at e;simp[m] at e
theorem gH.rR {kvs:List (Key×V)}{ks:List Str} (h:gH kvs ks) {x:Str} (hx:x∉ks) (v:V):gH (putK kvs (.inr x) v) (ks++[x]):=by
 refine⟨?_, ?_⟩
 ·rw[Em,Fy h x,decide_eq_false hx,if_neg (by decide),h.k,List.map_append];rfl
 ·rw[List.nodup_append]
  exact⟨h.nd,by simp,fun a ha b hb=>by
   have:b=x:=by simpa using hb
   rw[this];exact fun z=>hx (z▸ha)⟩
theorem gH.Fz {kvs:List (Key×V)}{ks:List Str} (h:gH kvs ks) {x:Str} (hx:x∈ks) (v:V):gH (putK kvs (.inr x) v) ks:=by
 refine⟨?_,h.nd⟩
 rw[Em,Fy h x,decide_eq_true hx,if_pos rfl,h.k]
def nmK (n:Nat):List Str:=(List.range n).map az
theorem Jy {k:Nat} (h:k<26):mz (az k):=Fv _ (List.mem_append_left _ (List.mem_map.mpr ⟨k,List.mem_range.mpr h,rfl⟩))
theorem Jz:∀i j:Fin 26,az i.1=az j.1->i=j:=by decide +kernel
theorem kW {i j:Nat} (hi:i<26) (hj:j<26) (h:az i=az j):i=j:=by
 have:=Jz ⟨i,hi⟩ ⟨j,hj⟩ h
 exact Fin.mk.inj this
theorem lY {n:Nat}{x:Str}:x∈nmK n ↔∃k,k<n/\x=az k:=by
 unfold nmK
 rw[List.mem_map]
 constructor
 ·rintro⟨k,hk,rfl⟩;exact⟨k,List.mem_range.mp hk,rfl⟩
 ·rintro⟨k,hk,rfl⟩;exact⟨k,List.mem_range.mpr hk,rfl⟩
theorem BR (n:Nat):nmK (n+1)=nmK n++[az n]:=by unfold nmK;rw[List.range_succ,List.map_append];rfl
theorem jH (n:Nat):(nmK n).length=n:=by unfold nmK;rw[List.length_map,List.length_range]
theorem Hl {n:Nat} (h:n<=26):∀x∈nmK n,mz x:=fun x hx=>by
 obtain⟨k,hk,rfl⟩:=lY.mp hx
 exact Jy (by omega)
theorem R.In.mono {ns ms:List Str} (h:∀x∈ns,x∈ms):∀{r:R},r.In ns->r.In ms
 | .num _,_=>trivial
 | .rd _,i=>h _ i
 | .bin _ _ _,i=>⟨i.1.mono h,i.2.mono h⟩
 | .pick _ _ _,i=>⟨i.1.mono h,i.2.1.mono h,i.2.2.mono h⟩
 | .cho _ _,i=>⟨i.1.mono h,fun x hx=>h x (i.2 x hx)⟩
theorem Rk3.mono {ns ms:List Str}{d:Nat}{r:R} (k:Rk3 ns d r) (h:∀x∈ns,x∈ms):Rk3 ms d r:=⟨k.g,k.t,k.i.mono h,k.d⟩
abbrev Rn:=Str->Option R
def Rn.put (rc:Rn) (x:Str) (r:R):Rn:=fun y=>if y=x then some r else rc y
structure Ah (n:Nat) (gv:Kn) (rc:Rn):Prop where
 dom:∀k,k<n->gv (az k)≠none\/rc (az k)≠none
 gk:∀x,gv x≠none->x∈nmK n
 rk:∀x r,rc x=some r->∃k,k<n/\x=az k/\Rk3 (nmK k) 4 r
 dj:∀x,gv x≠none->rc x=none
 g0:0<n->gv (az 0)≠none
theorem Ah.fresh {n:Nat}{gv:Kn}{rc:Rn} (h:Ah n gv rc) (hn:n<26):gv (az n)=none/\rc (az n)=none:=by
 constructor
 ·cases e:gv (az n) with
  | none=>rfl
  | some v=>
    obtain⟨k,hk,ek⟩:=lY.mp (h.gk (az n) (by rw[e];simp))
    have:=kW hn (by omega) ek
    omega
 ·cases e:rc (az n) with
  | none=>rfl
  | some r=>
    obtain⟨k,hk,ek,_⟩:=h.rk _ _ e
    have:=kW hn (by omega) ek
    omega
theorem Ah.Ru {n:Nat}{gv:Kn}{rc:Rn} (h:Ah n gv rc) (hn:n<26) (v:Int):Ah (n+1) (gv.put (az n) v) rc:=by
 obtain⟨f1,f2⟩:=h.fresh hn
 refine⟨fun k hk=> ?_,fun x hx=> ?_,fun x r e=> ?_,fun x hx=> ?_,fun _=> ?_⟩
 ·unfold Kn.put
  by_cases e:k=n
  ·subst e;left;rw[if_pos rfl];simp
  ·rcases h.dom k (by omega) with z | z
   ·left;rw[if_neg (fun w=>e (kW (by omega) hn w))];exact z
   ·exact .inr z
 ·rw[BR]
  unfold Kn.put at hx
  by_cases e:x=az n
  ·rw[e];simp
  ·rw[if_neg e] at hx;exact List.mem_append_left _ (h.gk x hx)
 ·obtain⟨k,hk,ek,o⟩:=h.rk x r e
  exact⟨k,by omega,ek,o⟩
 ·unfold Kn.put at hx
  by_cases e:x=az n
  ·rw[e];exact f2
  ·rw[if_neg e] at hx;exact h.dj x hx
 ·unfold Kn.put
  by_cases e:az 0=az n
  ·rw[if_pos e];simp
  ·rw[if_neg e]
   by_cases z:n=0
   ·subst z;exact absurd rfl e
   ·exact h.g0 (by omega)
theorem Ah.Xu {n:Nat}{gv:Kn}{rc:Rn} (h:Ah n gv rc) (hn:n<26) (h0:0<n) {r:R} (o:Rk3 (nmK n) 4 r):Ah (n+1) gv (rc.put (az n) r):=by
 obtain⟨f1,f2⟩:=h.fresh hn
 refine⟨fun k hk=> ?_,fun x hx=> ?_,fun x r' e=> ?_,fun x hx=> ?_,fun _=>h.g0 h0⟩
 ·unfold Rn.put
  by_cases e:k=n
  ·subst e;right;rw[if_pos rfl];simp
  ·rcases h.dom k (by omega) with z | z
   ·exact .inl z
   ·right;rw[if_neg (fun w=>e (kW (by omega) hn w))];exact z
 ·rw[BR];exact List.mem_append_left _ (h.gk x hx)
 ·unfold Rn.put at e
  by_cases z:x=az n
  ·rw[if_pos z] at e;cases e;exact⟨n,by omega,z,o⟩
  ·rw[if_neg z] at e
   obtain⟨k,hk,ek,o⟩:=h.rk x r' e
   exact⟨k,by omega,ek,o⟩
 ·unfold Rn.put
  rw[if_neg (fun z=>by rw[z,f1] at hx;exact hx rfl)];exact h.dj x hx
end RB
namespace RB
open PySem L2 PySem.Spec PyProof.Rows
structure Bld (H:Hp) (kg kc:List (Key×V)) (n:Nat) (gv:Kn) (rc:Rn):Prop where
 ok:Ah n gv rc
 k:∃gs cs,gH kg gs/\gH kc cs/\gs.length+cs.length=n
 g:∀x,cG kg (.inr x)=(gv x).map V.int
 r:∀x r,rc x=some r->∃b,cG kc (.inr x)=some (.ref b)/\IsR H b r
 rn:∀x,rc x=none->cG kc (.inr x)=none
theorem Bld.tups {H H':Hp}{kg kc:List (Key×V)}{n:Nat}{gv:Kn}{rc:Rn} (h:Bld H kg kc n gv rc) (t:mR H H'):Bld H' kg kc n gv rc:=
 ⟨h.ok,h.k,h.g,fun x r e=>let ⟨b,h1,h2⟩:=h.r x r e;⟨b,h1,h2.tups t⟩,h.rn⟩
def oG (H:Hp) (h g c:Addr) (n:Nat) (gv:Kn) (rc:Rn):Prop:=∃kg kc,H h=some (.tup [.ref g, .ref c])/\H g=some (.dK kg)/\H c=some (.dK kc)/\Bld H kg kc n gv rc
theorem oG.same {H H':Hp}{h g c:Addr}{n:Nat}{gv:Kn}{rc:Rn} (a:oG H h g c n gv rc) (s:aN H H'):oG H' h g c n gv rc:=by
 obtain⟨kg,kc,e,e1,e2,b⟩:=a
 exact⟨kg,kc,s _ _ e,s _ _ e1,s _ _ e2,b.tups (aN.tups s)⟩
theorem Bld.Ru {H:Hp}{kg kc:List (Key×V)}{n:Nat}{gv:Kn}{rc:Rn} (h:Bld H kg kc n gv rc) (hn:n<26) (v:Int):Bld H (putK kg (.inr (az n)) (.int v)) kc (n+1) (gv.put (az n) v) rc:=by
 obtain⟨gs,cs,h1,h2,h3⟩:=h.k
 have hx:az n∉gs:=h1.none.mp (by rw[h.g,(h.ok.fresh hn).1];rfl)
 refine⟨h.ok.Ru hn v,⟨_,cs,h1.rR hx _,h2,by rw[List.length_append];simp;omega⟩,fun x=> ?_,h.r,h.rn⟩
 rw[lq]
 unfold Kn.put
 by_cases z:x=az n
 ·rw[if_pos (by rw[z]),if_pos z];rfl
 ·rw[if_neg (fun w=>z (Sum.inr.inj w)),if_neg z];exact h.g x
theorem Bld.Xu {H:Hp}{kg kc:List (Key×V)}{n:Nat}{gv:Kn}{rc:Rn} (h:Bld H kg kc n gv rc) (hn:n<26) (h0:0<n) {b:Addr}{r:R} (o:Rk3 (nmK n) 4 r) (hb:IsR H b r):Bld H kg (putK kc (.inr (az n)) (.ref b)) (n+1) gv (rc.put (az n) r):=by
 obtain⟨gs,cs,h1,h2,h3⟩:=h.k
 have hx:az n∉cs:=h2.none.mp (h.rn _ (h.ok.fresh hn).2)
 refine⟨h.ok.Xu hn h0 o,⟨gs,_,h1,h2.rR hx _,by rw[List.length_append];simp;omega⟩,h.g,fun x r' e=> ?_,fun x e=> ?_⟩
 ·rw[lq]
  unfold Rn.put at e
  by_cases z:x=az n
  ·rw[if_pos z] at e;cases e
   exact⟨b,by rw[if_pos (by rw[z])],hb⟩
  ·rw[if_neg z] at e
   rw[if_neg (fun w=>z (Sum.inr.inj w))];exact h.r x r' e
 ·rw[lq]
  unfold Rn.put at e
  by_cases z:x=az n
  ·rw[if_pos z] at e;cases e
  ·rw[if_neg z] at e
   rw[if_neg (fun w=>z (Sum.inr.inj w))];exact h.rn x e
def U3 (K:PySem.W.Frag):Sp:=fun vs H Q _=>∃(a:Addr) (zs:List Int) (start:Int) (many:Nat),vs=[.ref a, .int start, .int many]/\SqL K H a (zs.map V.int)/\0<=start/\start<=50/\many<=17/\
 ∀h g c gv rc H',aN H H'->H h=none->H g=none->H c=none->oG H' h g c many gv rc->Q (.ref h) H'
theorem aed {n:Nat} (h:1<=n):∃ns:List Str,Lb ((nmK n).map V.str) (some (-9)) none=ns.map V.str/\1<=ns.length/\ns.length<=9/\∀x∈ns,x∈nmK n:=by
 unfold Lb
 have hl:((nmK n).map V.str).length=n:=by rw[List.length_map,jH]
 rw[hl]
 have e1:HT.sIx n 0 (some (-9))=n - 9:=by
  show(if(-9:Int)<0 then((-9:Int)+(n:Int)).toNat else min (-9:Int).toNat n)=_
  rw[if_pos (by decide)];omega
 have e2:HT.sIx n n none=n:=rfl
 rw[e1,e2,<-List.map_drop,<-List.map_take]
 refine⟨_,rfl, ?_, ?_,fun x hx=>List.mem_of_mem_drop (List.mem_of_mem_take hx)⟩
 ·rw[List.length_take,List.length_drop,jH];omega
 ·rw[List.length_take,List.length_drop,jH];omega
end RB
namespace RB
open PySem L2 PySem.Spec PyProof.Rows
section
variable {H:Hp}{kg kc:List (Key×V)}{n:Nat}{gv:Kn}{rc:Rn}
theorem BV {x y:Str} (h:¬x=y):¬(Sum.inr x:Key)=Sum.inr y:=fun z=>h (Sum.inr.inj z)
end
end RB
set_option maxRecDepth 100000
namespace RB
open PySem L2 PySem.Spec PyProof.Rows
structure oH (r:R) (kn:Kn) (us:List Rdp) (v:Int):Prop where
 c:Chn r kn us
 e:ev (kn.puts us) r= .inr v
theorem Rv {n:Int}{kn:Kn}:oH (.num n) kn [] n:=⟨trivial,rfl⟩
theorem Rw {kn:Kn}{x:Str}{v:Int} (h:kn x=some v):oH (.rd x) kn [] v:=⟨trivial,by show look kn x=_;unfold look;rw[h]⟩
theorem Rx {kn:Kn}{x:Str}{v:Int} (h:kn x=none):oH (.rd x) kn [(x,v)] v:=by
 refine⟨⟨by show look kn x=_;unfold look;rw[h],trivial⟩, ?_⟩
 show look (kn.put x v) x=_
 unfold look Kn.put
 rw[if_pos rfl]
theorem Ry {op:Op}{a b:R}{kn:Kn}{us vs:List Rdp}{u v:Int} (ha:oH a kn us u) (hb:oH b (kn.puts us) vs v):oH (.bin op a b) kn (us++vs) (op.ap u v):=by
 have ua:∀kn' x,ev kn' a= .inl x->ev kn' (.bin op a b)= .inl x:=fun kn' x e=>by simp only[ev];rw[e]
 have ub:∀kn' x,Kn.Le (kn.puts us) kn'->ev kn' b= .inl x->ev kn' (.bin op a b)= .inl x:=fun kn' x l e=>by simp only[ev];rw[mC l ha.e];simp only;rw[e]
 exact⟨(ha.c.up fun kn' x _ e=>ua kn' x e).app (hb.c.up ub),by rw[Kn.gm];simp only[ev];rw[mC hb.c.le ha.e];simp only;rw[hb.e]⟩
theorem Oe {a b c:R}{kn:Kn}{us vs:List Rdp}{u v:Int} (ha:oH a kn us u) (hb:oH (if u>0 then b else c) (kn.puts us) vs v):oH (.pick a b c) kn (us++vs) v:=by
 have ua:∀kn' x,ev kn' a= .inl x->ev kn' (.pick a b c)= .inl x:=fun kn' x e=>by simp only[ev];rw[e]
 have e:∀kn':Kn,Kn.Le (kn.puts us) kn'->ev kn' (.pick a b c)=ev kn' (if u>0 then b else c):=fun kn' l=>by
  simp only[ev];rw[mC l ha.e];simp only;split<;>rfl
 exact⟨(ha.c.up fun kn' x _ e=>ua kn' x e).app (hb.c.up fun kn' x l z=>by rw[e kn' l];exact z),by rw[Kn.gm,e _ hb.c.le];exact hb.e⟩
theorem Rz {a:R}{ns:List Str}{x:Str}{kn:Kn}{us vs:List Rdp}{u v:Int} (ha:oH a kn us u) (hx:tK ns u=some x) (hb:oH (.rd x) (kn.puts us) vs v):oH (.cho a ns) kn (us++vs) v:=by
 have ua:∀kn' x,ev kn' a= .inl x->ev kn' (.cho a ns)= .inl x:=fun kn' x e=>by simp only[ev];rw[e]
 have e:∀kn':Kn,Kn.Le (kn.puts us) kn'->ev kn' (.cho a ns)=ev kn' (.rd x):=fun kn' l=>by
  simp only[ev];rw[mC l ha.e];simp only;rw[hx]
 exact⟨(ha.c.up fun kn' x _ e=>ua kn' x e).app (hb.c.up fun kn' x l z=>by rw[e kn' l];exact z),by rw[Kn.gm,e _ hb.c.le];exact hb.e⟩
theorem yr {x:Str}{u:Int}:∀{ps:List Rdp}{kn:Kn},kn.puts ps x=some u->(x,u)∈ps\/kn x=some u
 |[],kn,h=> .inr h
 | p::ps,kn,h=>by
   rcases yr (ps:=ps) h with z | z
   ·exact .inl (List.mem_cons_of_mem _ z)
   ·unfold Kn.put at z
    by_cases e:x=p.1
    ·rw[if_pos e] at z
     left
     have:p=(x,u):=by rw[e];exact Prod.ext rfl (Option.some.inj z)
     rw[this];simp
    ·rw[if_neg e] at z;exact .inr z
theorem BW {x:Str}:∀{ps:List Rdp}{kn:Kn},kn.puts ps x=none->x∉ps.map (·.1)/\kn x=none
 |[],kn,h=>⟨by simp,h⟩
 | p::ps,kn,h=>by
   obtain⟨z1,z2⟩:=BW (ps:=ps) h
   unfold Kn.put at z2
   by_cases e:x=p.1
   ·rw[if_pos e] at z2;cases z2
   ·rw[if_neg e] at z2
    exact⟨by rw[List.map_cons,List.mem_cons];exact fun w=>w.elim e z1,z2⟩
structure Rows (kn:Kn) (ps:List Rdp):Prop where
 s:∀p∈ps,kn p.1=some p.2
 nd:(ps.map (·.1)).Nodup
theorem Rows.le {kn kn':Kn}{ps:List Rdp} (h:Rows kn ps) (l:Kn.Le kn kn'):Rows kn' ps:=⟨fun p hp=>l _ _ (h.s p hp),h.nd⟩
theorem jj:∀{ws ns:List Str},ws.Nodup->(∀x∈ws,x∈ns)->ws.length<=ns.length
 |[],_,_,_=>Nat.zero_le _
 | w::ws,ns,nd,h=>by
   rw[List.nodup_cons] at nd
   have hw:=h w (by simp)
   have ih:=jj (ws:=ws) (ns:=ns.erase w) nd.2 fun x hx=>by
    have hne:x≠w:=fun e=>nd.1 (by rw[<-e];exact hx)
    exact(List.mem_erase_of_ne hne).mpr (h x (by simp[hx]))
   rw[List.length_erase_of_mem hw] at ih
   have:=List.length_pos_of_mem hw
   simp only[List.length_cons]
   omega
theorem Rows.look {kn:Kn}{ps:List Rdp}{x:Str}{v:Int} (h:Rows kn ps) (hx:kn x=some v):if(x,v)∈ps then oH (.rd x) (kn0.puts ps) [] v else oH (.rd x) (kn0.puts ps) [(x,v)] v/\Rows kn (ps++[(x,v)]):=by
 by_cases hm:(x,v)∈ps
 ·rw[if_pos hm]
  cases e:kn0.puts ps x with
  | none=>exact absurd (List.mem_map.mpr ⟨_,hm,rfl⟩) (BW e).1
  | some u=>
    rcases yr e with z | z
    ·have:=h.s _ z
     rw[hx] at this
     cases this
     exact Rw e
    ·cases z
 ·rw[if_neg hm]
  have hn:kn0.puts ps x=none:=by
   cases e:kn0.puts ps x with
   | none=>rfl
   | some u=>
     rcases yr e with z | z
     ·have:=h.s _ z
      rw[hx] at this
      cases this
      exact absurd z hm
     ·cases z
  refine⟨Rx hn,fun p hp=> ?_, ?_⟩
  ·rcases List.mem_append.mp hp with z | z
   ·exact h.s p z
   ·have:p=(x,v):=by simpa using z
    rw[this];exact hx
  ·rw[List.map_append,List.nodup_append]
   exact⟨h.nd,by simp,fun a ha b hb=>by
    have:b=x:=by simpa using hb
    rw[this];exact fun z=>(BW hn).1 (z▸ha)⟩
abbrev Rm:=Str->Option (R×List Rdp×Int)
def Rm.put (rm:Rm) (x:Str) (q:R×List Rdp×Int):Rm:=fun y=>if y=x then some q else rm y
def BX (X:List Addr) (H:Hp) (b:Addr) (q:R×List Rdp×Int):Prop:=∃br l as,H b=some (.tup [.ref br, .ref l, .int q.2.2])/\IsR H br q.1/\H l=some (.lst (as.map V.ref))/\kO H as q.2.1/\l∉X
structure Ds (n:Nat) (gv:Kn) (rc:Rn) (kn:Kn) (rm:Rm):Prop where
 a:∀x v,kn x=some v->x∈nmK n/\(gv x=some v\/(gv x=none/\∃r ps,rc x=some r/\rm x=some (r,ps,v)))
 b:∀x r ps v,rm x=some (r,ps,v)->rc x=some r/\gv x=none/\kn x=some v/\oH r kn0 ps v/\Rows kn ps
section
variable {X:List Addr}{H H':Hp}{st wd rd:Addr}{n:Nat}{gv:Kn}{rc:Rn}{kn:Kn}{rm:Rm}
theorem BX.but {S:List Addr}{b:Addr}{q:R×List Rdp×Int} (h:BX X H b q) (bt:But S H H') (tp:mR H H') (hs:∀y∈S,y∈X\/∀xs,H y≠some (.lst xs)):BX X H' b q:=by
 obtain⟨br,l,as,e,r,el,rs,hx⟩:=h
 exact⟨br,l,as,tp _ _ e,r.tups tp,bt _ _ (fun z=>(hs l z).elim hx fun w=>w _ el) el,rs.tups tp,hx⟩
end
end RB
namespace RB
open PySem L2 PySem.Spec PyProof.Rows
end RB
set_option maxRecDepth 100000
namespace RB
open PySem L2 PySem.Spec PyProof.Rows
section
variable {H:Hp}{s l h:Addr}{du wr:V}
end
section
variable {H H':Hp}{s l h:Addr}{kn:Kn}{ps:List Rdp}
end
end RB
namespace RB
open PySem L2 PySem.Spec PyProof.Rows
end RB
namespace RB
open PySem L2 PySem.Spec PyProof.Rows
end RB
set_option maxRecDepth 100000
namespace RB
open PySem L2 PySem.Spec PyProof.Rows
theorem zX {ns:List Str}:∀{r:R}{kn:Kn}{x:Str},r.In ns->ev kn r= .inl x->x∈ns
 | .num n,kn,x,i,h=>by cases h
 | .rd y,kn,x,i,h=>by obtain⟨rfl,_⟩:=qt h;exact i
 | .bin op a b,kn,x,i,h=>by
   simp only[ev] at h
   cases ea:ev kn a with
   | inl y=>rw[ea] at h;cases h;exact zX i.1 ea
   | inr u=>
     rw[ea] at h
     cases eb:ev kn b with
     | inl y=>rw[eb] at h;cases h;exact zX i.2 eb
     | inr v=>rw[eb] at h;cases h
 | .pick a b c,kn,x,i,h=>by
   simp only[ev] at h
   cases ea:ev kn a with
   | inl y=>rw[ea] at h;cases h;exact zX i.1 ea
   | inr u=>
     rw[ea] at h
     simp only at h
     split at h
     ·exact zX i.2.1 h
     ·exact zX i.2.2 h
 | .cho a ms,kn,x,i,h=>by
   simp only[ev] at h
   cases ea:ev kn a with
   | inl y=>rw[ea] at h;cases h;exact zX i.1 ea
   | inr u=>
     rw[ea] at h
     simp only at h
     cases ep:tK ms u with
     | none=>rw[ep] at h;cases h
     | some y=>
       rw[ep] at h
       obtain⟨rfl,_⟩:=qt h
       exact i.2 _ (List.mem_of_getElem? ep)
end RB
set_option maxRecDepth 100000
namespace RB
open PySem L2 PySem.Spec PyProof.Rows
section
variable {X:List Addr}{H:Hp}{h g c st wd rd:Addr}{n:Nat}{gv:Kn}{rc:Rn}{kn:Kn}{rm:Rm}
theorem Ds.aee {x:Str}{v:Int} (h:Ds n gv rc kn rm) (hx:x∈nmK n) (hk:kn x=none) (hg:gv x=some v):Ds n gv rc (kn.put x v) rm:=by
 refine⟨fun y u e=> ?_,fun y r ps u e=> ?_⟩
 ·unfold Kn.put at e
  by_cases z:y=x
  ·rw[if_pos z] at e;cases e;rw[z];exact⟨hx, .inl hg⟩
  ·rw[if_neg z] at e;exact h.a y u e
 ·obtain⟨h1,h2,h3,h4,h5⟩:=h.b y r ps u e
  exact⟨h1,h2,Kn.oE hk _ _ h3,h4,h5.le (Kn.oE hk)⟩
theorem Ds.tV {x:Str}{r:R}{ps:List Rdp}{v:Int} (h:Ds n gv rc kn rm) (hx:x∈nmK n) (hk:kn x=none) (hg:gv x=none) (hr:rc x=some r) (got:oH r kn0 ps v) (row:Rows kn ps):Ds n gv rc (kn.put x v) (rm.put x (r,ps,v)):=by
 refine⟨fun y u e=> ?_,fun y r' ps' u e=> ?_⟩
 ·unfold Kn.put at e
  by_cases z:y=x
  ·rw[if_pos z] at e;cases e
   refine⟨by rw[z];exact hx, .inr ⟨by rw[z];exact hg,r,ps,by rw[z];exact hr, ?_⟩⟩
   unfold Rm.put;rw[if_pos z]
  ·rw[if_neg z] at e
   obtain⟨h1,h2⟩:=h.a y u e
   refine⟨h1,h2.elim .inl fun⟨w0,r1,ps1,w1,w2⟩=> .inr ⟨w0,r1,ps1,w1, ?_⟩⟩
   unfold Rm.put;rw[if_neg z];exact w2
 ·unfold Rm.put at e
  by_cases z:y=x
  ·rw[if_pos z] at e;cases e
   refine⟨by rw[z];exact hr,by rw[z];exact hg, ?_,got,row.le (Kn.oE hk)⟩
   unfold Kn.put;rw[if_pos z]
  ·rw[if_neg z] at e
   obtain⟨h1,h2,h3,h4,h5⟩:=h.b y r' ps' u e
   exact⟨h1,h2,Kn.oE hk _ _ h3,h4,h5.le (Kn.oE hk)⟩
theorem RC {d:Addr}{kvs:List (Key×V)}{o:HO} (e:H d=some (.dK kvs)):mR H (upd H d o):=fun y xs z=>(ao (fun w=>by rw[w,e] at z;cases z)).trans z
theorem Ay {kw:List (Key×V)} (v4:∀y,cG kw (.inr y)=(kn y).map V.int) (x:Str) (v:Int):∀y,cG (putK kw (.inr x) (.int v)) (.inr y)=((kn.put x v) y).map V.int:=fun y=>by
 rw[lq]
 unfold Kn.put
 by_cases z:y=x
 ·rw[if_pos (by rw[z]),if_pos z];rfl
 ·rw[if_neg (BV z),if_neg z];exact v4 y
end
end RB
namespace RB
open PySem L2 PySem.Spec PyProof.Rows
end RB
namespace RB
open PySem L2 PySem.Spec PyProof.Rows
theorem Og {r:R}{ns:List Str} (hi:r.In ns):∀{ps:List Rdp}{kn:Kn},Chn r kn ps->∀p∈ps,p.1∈ns
 |[],_,_,p,hp=>by cases hp
 | q::ps,kn,c,p,hp=>by
   rcases List.mem_cons.mp hp with z | z
   ·rw[z];exact zX hi c.1
   ·exact Og hi (ps:=ps) c.2 p z
def aef (n:Nat) (rm:Rm):Prop:=∀x r ps v,rm x=some (r,ps,v)->oH r kn0 ps v/\∃k,k<n/\x=az k/\Rk3 (nmK k) 4 r
structure oJ (H:Hp) (kr:List (Key×V)) (n:Nat) (rm:Rm):Prop where
 k:∃rs,gH kr rs/\∀x∈rs,x∈nmK n
 v:∀x q,rm x=some q->∃b,cG kr (.inr x)=some (.ref b)/\BX [] H b q
 w:∀x,rm x=none->cG kr (.inr x)=none
 ok:aef n rm
theorem BX.same {X:List Addr}{H H':Hp}{b:Addr}{q:R×List Rdp×Int} (r:BX X H b q) (s:aN H H'):BX X H' b q:=r.but (S:=[]) (But.of_same s) (aN.tups s) (by simp)
theorem oJ.map {H H':Hp}{kr:List (Key×V)}{n:Nat}{rm:Rm} (h:oJ H kr n rm) (f:∀b q,BX [] H b q->BX [] H' b q):oJ H' kr n rm:=⟨h.k,fun x q e=>let ⟨b,h1,h2⟩:=h.v x q e;⟨b,h1,f b q h2⟩,h.w,h.ok⟩
theorem oJ.len {H:Hp}{kr:List (Key×V)}{n:Nat}{rm:Rm} (h:oJ H kr n rm):kr.length<=n:=by
 obtain⟨rs,k,hr⟩:=h.k
 rw[k.len,<-jH n]
 exact jj k.nd hr
theorem oJ.put {H:Hp}{kr:List (Key×V)}{n:Nat}{rm:Rm} (h:oJ H kr n rm) {x:Str}{q:R×List Rdp×Int}{b:Addr} (hx:x∈nmK n) (ra:BX [] H b q) (hq:oH q.1 kn0 q.2.1 q.2.2/\∃k,k<n/\x=az k/\Rk3 (nmK k) 4 q.1):oJ H (putK kr (.inr x) (.ref b)) n (rm.put x q):=by
 obtain⟨rs,k,hr⟩:=h.k
 refine⟨?_,fun y q' e=> ?_,fun y e=> ?_,fun y r ps v e=> ?_⟩
 ·by_cases hm:x∈rs
  ·exact⟨rs,k.Fz hm _,hr⟩
  ·exact⟨_,k.rR hm _,fun y hy=>by
    rcases List.mem_append.mp hy with z | z
    ·exact hr y z
    ·have:y=x:=by simpa using z
     rw[this];exact hx⟩
 ·rw[lq]
  unfold Rm.put at e
  by_cases z:y=x
  ·rw[if_pos z] at e;cases e
   exact⟨b,by rw[if_pos (by rw[z])],ra⟩
  ·rw[if_neg z] at e;rw[if_neg (BV z)];exact h.v y q' e
 ·rw[lq]
  unfold Rm.put at e
  by_cases z:y=x
  ·rw[if_pos z] at e;cases e
  ·rw[if_neg z] at e;rw[if_neg (BV z)];exact h.w y e
 ·unfold Rm.put at e
  by_cases z:y=x
  ·rw[if_pos z] at e;cases e
   rw[z];exact hq
  ·rw[if_neg z] at e;exact h.ok y r ps v e
end RB
namespace RB
open PySem L2 PySem.Spec PyProof.Rows
theorem gH.at {kvs:List (Key×V)}{ks:List Str} (h:gH kvs ks) {i:Nat}{k:Key}{v:V} (e:kvs[i]? =some (k,v)):∃x,k= .inr x/\ks[i]? =some x:=by
 have h1:(kvs.map (·.1))[i]? =some k:=by rw[List.getElem?_map,e];rfl
 rw[h.k,List.getElem?_map] at h1
 cases z:ks[i]? with
 | none=>rw[z] at h1;cases h1
 | some x=>rw[z] at h1;exact⟨x,(Option.some.inj h1).symm,rfl⟩
end RB
set_option maxRecDepth 100000
namespace RB
open PySem L2 PySem.Spec PyProof.Rows
end RB
namespace RB
open PySem L2 PySem.Spec PyProof.Rows
theorem vJ {r:R}:∀{ps:List Rdp}{kn:Kn},Chn r kn ps->(∀p∈ps,kn p.1=none)/\(ps.map (·.1)).Nodup
 |[],_,_=>⟨by simp,by simp⟩
 | q::ps,kn,c=>by
   obtain⟨h1,h2⟩:=vJ (ps:=ps) c.2
   have h0:=m8 c.1
   have h3:∀p∈ps,p.1≠q.1/\kn p.1=none:=fun p hp=>by
    have:=h1 p hp
    unfold Kn.put at this
    by_cases z:p.1=q.1
    ·rw[if_pos z] at this;cases this
    ·rw[if_neg z] at this;exact⟨z,this⟩
   refine⟨fun p hp=> ?_, ?_⟩
   ·rcases List.mem_cons.mp hp with z | z
    ·rw[z];exact h0
    ·exact(h3 p z).2
   ·rw[List.map_cons,List.nodup_cons]
    refine⟨fun hm=> ?_,h2⟩
    obtain⟨p,hp,e⟩:=List.mem_map.mp hm
    exact(h3 p hp).1 e
theorem Ks {r:R}{ps:List Rdp}{kn:Kn}{k:Nat} (c:Chn r kn ps) (hi:r.In (nmK k)):ps.length<=k:=by
 have:=jj (vJ c).2 (ns:=nmK k) fun x hx=>by
  obtain⟨p,hp,rfl⟩:=List.mem_map.mp hx
  exact Og hi c p hp
 rwa [List.length_map,jH] at this
end RB
set_option maxRecDepth 100000
namespace RB
open PySem L2 PySem.Spec PyProof.Rows
end RB
set_option maxRecDepth 100000
namespace RB
open PySem L2 PySem.Spec PyProof.Rows
end RB
set_option maxRecDepth 100000
namespace L2
open PySem PySem.Spec PyProof.Rows
section
variable {prog:Program}{w:World}{A:Around}{E:Value->Shared->Prop}{s:Shared}
theorem FJ {j t:Addr}{k:Nat}{vs:Array Value}{v:Value}{Q:Value->Shared->Prop} (hj:IsTupIter s.heap j t k) (ht:IsTup s.heap t vs) (hv:vs[k]? =some v)
 (q:∀g,IsTupIter g j t (k+1)->Heap.SameBut j s.heap g->Q v {s with heap:=g}):wpAny (model prog w) A (Builtin.SmallTypes.nextOf (.ref j)) Q E s:=by
 have ty:=hj.typeIs
 obtain⟨oj,ej,cj,dj⟩:=hj
 obtain⟨ot,et,_,nt,dt⟩:=ht
 unfold Builtin.SmallTypes.nextOf
 refine wpAny_bind (wpAny_callSpecial?_slot (name:=Str.ofString "__next__") ty slot_tupleiter_next (wpAny_call_entry slot_tupleiter_next ty entry_tupleiter_next ?_ (args_tupleiter_next _)))
 show wpAny _ _ (field (.ref j) 0>>=_) _ _ s
 refine wpAny_bind (wpAny_field ej dj (x:= .ref t) rfl ?_)
 show wpAny _ _ (if(Value.ref t==Value.none)=true then _ else _) _ _ _
 rw[if_neg (by intro z;cases z)]
 show wpAny _ _ (field (.ref j) 1>>=_) _ _ s
 refine wpAny_bind (wpAny_field ej dj (x:= .int k 0) rfl ?_)
 show wpAny _ _ (seqItems? (.ref t)>>=_) _ _ _
 refine wpAny_bind (wpAny_seqItems et dt ?_)
 simp only[hv,Int.toNat_natCast]
 refine wpAny_bind (wpAny_setField ej dj (by simp) (wpAny_pure ⟨v,rfl,wpAny_pure (q _ ?_ (Heap.SameBut.update ..))⟩))
 refine⟨_,Heap.get?_update_self _ ej (Obj.isFreed_of_fields (Obj.data_mapFields dj _)),(Obj.cls_mapFields ..).trans cj, ?_⟩
 rw[Obj.data_mapFields dj];simp[rawInt]
theorem Ku {j t:Addr}{k:Nat}{vs:Array Value}{Q:Value->Shared->Prop} (hA:A.handled=none) (hj:IsTupIter s.heap j t k) (ht:IsTup s.heap t vs) (hv:vs[k]? =none)
 (q:∀g b,Heap.ExtBut j s.heap g->(∃ob,g.get? b=some ob/\ob.cls= .type "StopIteration")->E (.ref b) {s with heap:=g}):wpAny (model prog w) A (Builtin.SmallTypes.nextOf (.ref j)) Q E s:=by
 have ty:=hj.typeIs
 obtain⟨oj,ej,cj,dj⟩:=hj
 obtain⟨ot,et,_,nt,dt⟩:=ht
 unfold Builtin.SmallTypes.nextOf
 refine wpAny_bind (wpAny_callSpecial?_slot (name:=Str.ofString "__next__") ty slot_tupleiter_next (wpAny_call_entry slot_tupleiter_next ty entry_tupleiter_next ?_ (args_tupleiter_next _)))
 show wpAny _ _ (field (.ref j) 0>>=_) _ _ s
 refine wpAny_bind (wpAny_field ej dj (x:= .ref t) rfl ?_)
 show wpAny _ _ (if(Value.ref t==Value.none)=true then _ else _) _ _ _
 rw[if_neg (by intro z;cases z)]
 show wpAny _ _ (field (.ref j) 1>>=_) _ _ s
 refine wpAny_bind (wpAny_field ej dj (x:= .int k 0) rfl ?_)
 show wpAny _ _ (seqItems? (.ref t)>>=_) _ _ _
 refine wpAny_bind (wpAny_seqItems et dt ?_)
 simp only[hv,Int.toNat_natCast]
 refine wpAny_bind (wpAny_rule (wpAny_bind (wpAny_setField ej dj (by simp) ?_)))
 show wpAny _ _ (newExc (.type "StopIteration") []>>=_) _ _ _
 refine wpAny_bind ?_
 simp only[newTuple,newExc]
 refine wpAny_bind (wpAny_newObj_type ?_ (by size_fits))
 refine wpAny_bind (m:=firstArgMember _ _) (wpAny_of_eq (a:=Value.none) (by first | rfl | (unfold firstArgMember;rfl)) ?_)
 refine wpAny_newObj_type ?_ (by size_fits)
 simp only[raiseNew]
 refine wpAny_bind (wpAny_handled ?_)
 first | rw[hA] | rw[show A.in1.handled=none from hA]
 exact wpAny_bind (wpAny_pure (wpAny_throw (q _ _ (((Heap.SameBut.update ..).extBut.push _).push _) ⟨_,Heap.get?_push_size _ rfl,rfl⟩)))
theorem Oh {z TI TO i j a b:Addr}{k:Nat}{xs ys:Array Value}{x y p q:Value}{Q:Value->Shared->Prop} (D:ZipApart z TI TO i j a b)
 (ez:IsZip s.heap z TI TO .none) (eI:IsPair s.heap TI (.ref i) (.ref j)) (eO:IsPair s.heap TO p q) (ei:IsTupIter s.heap i a k) (ej:IsTupIter s.heap j b k) (ea:IsTup s.heap a xs) (eb:IsTup s.heap b ys)
 (hx:xs[k]? =some x) (hy:ys[k]? =some y)
 (r:∀g,IsZip g z TI TO (rawInt s.heap.objs.size)->IsPair g TO x y->IsTupIter g i a (k+1)->IsTupIter g j b (k+1)->IsPair g s.heap.objs.size x y->g.objs.size=s.heap.objs.size+1->
   (∀c o,c∉[z,TO,i,j]->s.heap.get? c=some o->g.get? c=some o)->Q (.ref s.heap.objs.size) {s with heap:=g}):
 wpAny (model prog w) A (Builtin.«zip.__next__» ⟨[.ref z],[]⟩) (fun f s'=>∃v,f= .done (.ret v)/\Q v s') E s:=by
 show wpAny _ _ (field (.ref z) 2>>=_) _ _ s
 refine wpAny_bind (wpAny_field ez rfl (x:= .bool false) rfl ?_)
 show wpAny _ _ (field (.ref z) 3>>=_) _ _ s
 refine wpAny_bind (wpAny_field ez rfl (x:= .ref TI) rfl (wpAny_bind (wpAny_seqItems eI rfl ?_)))
 show wpAny _ _ (Builtin.SmallTypes.ownedTupleIsFree (.ref z)>>=_) _ _ s
 refine wpAny_bind ?_
 unfold Builtin.SmallTypes.ownedTupleIsFree;refine wpAny_bind (wpAny_field ez rfl (x:= .none) rfl (wpAny_pure ?_))
 simp only[if_true]
 refine wpAny_bind (wpAny_rule (wpAny_bind (wpAny_field ez rfl (x:= .ref TO) rfl (wpAny_bind (wpAny_setField_rec ez (by simp) fun g1 z1 b1=> ?_)))))
 have z1':IsZip g1 z TI TO .ellipsis:=z1
 refine wpAny_bind ?_
 simp only[List.forIn_cons,List.forIn_nil,List.zipIdx_cons,List.zipIdx_nil]
 refine wpAny_bind (wpAny_bind (wpAny_onRaise ?_))
 show wpAny _ _ (Builtin.SmallTypes.nextOf (.ref i)>>=_) _ _ _
 refine wpAny_bind (FJ (ei.extBut b1.extBut D.i1z) (ea.extBut b1.extBut D.l1z) hx fun g2 i2 b2=>wpAny_pure ?_)
 have o2:IsPair g2 TO p q:=b2.extBut _ _ D.TOi1 (b1.extBut _ _ D.TOz eO)
 refine wpAny_bind (wpAny_seqItems o2 rfl (wpAny_bind (wpAny_updateSeq_pair o2 fun g3 o3 b3=> ?_)))
 have o3':IsPair g3 TO x q:=o3
 refine wpAny_bind (wpAny_letGo (wpAny_pure (wpAny_bind (wpAny_bind (wpAny_onRaise ?_)))))
 show wpAny _ _ (Builtin.SmallTypes.nextOf (.ref j)>>=_) _ _ _
 refine wpAny_bind (FJ (((ej.extBut b1.extBut D.i2z).extBut b2.extBut D.i12.symm).extBut b3.extBut D.TOi2.symm) (((eb.extBut b1.extBut D.l2z).extBut b2.extBut D.l2i1).extBut b3.extBut D.l2TO) hy fun g4 j4 b4=>wpAny_pure ?_)
 have o4:IsPair g4 TO x q:=b4.extBut _ _ D.TOi2 o3'
 refine wpAny_bind (wpAny_seqItems o4 rfl (wpAny_bind (wpAny_updateSeq_pair o4 fun g5 o5 b5=> ?_)))
 have o5':IsPair g5 TO x y:=o5
 refine wpAny_bind (wpAny_letGo (wpAny_pure (wpAny_pure (wpAny_bind (wpAny_seqItems o5' rfl (wpAny_bind (wpAny_newTuple ?_)))))))
 have sz:g5.objs.size=s.heap.objs.size:=by rw[b5.1,b4.1,b3.1,b2.1,b1.1]
 have z5:IsZip g5 z TI TO .ellipsis:=b5.extBut _ _ D.TOz.symm (b4.extBut _ _ D.i2z.symm (b3.extBut _ _ D.TOz.symm (b2.extBut _ _ D.i1z.symm z1')))
 have k5:∀c o,c∉[z,TO,i,j]->s.heap.get? c=some o->g5.get? c=some o:=fun c o hc e=>by
  simp only[List.mem_cons,List.not_mem_nil,or_false,not_or] at hc
  exact b5.extBut _ _ hc.2.1 (b4.extBut _ _ hc.2.2.2 (b3.extBut _ _ hc.2.1 (b2.extBut _ _ hc.2.2.1 (b1.extBut _ _ hc.1 e))))
 have i5:IsTupIter g5 i a (k+1):=((i2.extBut b3.extBut D.TOi1.symm).extBut b4.extBut D.i12).extBut b5.extBut D.TOi1.symm
 have j5:IsTupIter g5 j b (k+1):=j4.extBut b5.extBut D.TOi2.symm
 have lz:g5.objs.size≠z:=Nat.ne_of_gt (Heap.lt_size z5)
 show wpAny _ _ (Builtin.SmallTypes.ownedTupleHandOut (.ref z) (.ref g5.objs.size)>>=_) _ _ _
 refine wpAny_bind ?_
 unfold Builtin.SmallTypes.ownedTupleHandOut;refine wpAny_bind (wpAny_setField_rec (Heap.get?_push_of_some _ z5) (by simp) fun g7 z7 b7=> ?_)
 have z7':IsZip g7 z TI TO (rawInt g5.objs.size):=z7
 refine wpAny_setField_rec z7' (by simp) fun g8 z8 b8=> ?_
 have z8':IsZip g8 z TI TO (rawInt g5.objs.size):=z8
 have up:∀c o,c≠z->g5.get? c=some o->g8.get? c=some o:=fun c o hc e=>b8.extBut _ _ hc (b7.extBut _ _ hc (Heap.get?_push_of_some _ e))
 have t8:IsPair g8 g5.objs.size x y:=b8.extBut _ _ lz (b7.extBut _ _ lz (Heap.get?_push_size _ rfl))
 have s8:g8.objs.size=g5.objs.size+1:=by rw[b8.1,b7.1,Heap.size_push]
 rw[sz] at z8' t8 s8
 refine wpAny_pure ⟨_,rfl, ?_⟩
 show Q (.ref g5.objs.size) _
 rw[sz]
 obtain⟨oi,qi,ri⟩:=i5
 obtain⟨oj,qj,rj⟩:=j5
 exact r g8 z8' (up _ _ D.TOz o5') ⟨oi,up _ _ D.i1z qi,ri⟩ ⟨oj,up _ _ D.i2z qj,rj⟩ t8 s8 fun c o hc e=>up c o (fun h=>hc (by simp[h])) (k5 c o hc e)
theorem Oi {z TI TO i j a b:Addr}{k:Nat}{xs ys:Array Value}{p q:Value}{Q:Fin->Shared->Prop} (hA:A.handled=none) (D:ZipApart z TI TO i j a b)
 (ez:IsZip s.heap z TI TO .none) (eI:IsPair s.heap TI (.ref i) (.ref j)) (eO:IsPair s.heap TO p q) (ei:IsTupIter s.heap i a k) (ej:IsTupIter s.heap j b k) (ea:IsTup s.heap a xs) (eb:IsTup s.heap b ys)
 (hend:xs[k]? =none\/ys[k]? =none)
 (r:∀g u,(∀c o,c∉[z,TO,i,j]->s.heap.get? c=some o->g.get? c=some o)->(∃o,g.get? u=some o/\o.cls= .type "StopIteration")->E (.ref u) {s with heap:=g}):
 wpAny (model prog w) A (Builtin.«zip.__next__» ⟨[.ref z],[]⟩) Q E s:=by
 show wpAny _ _ (field (.ref z) 2>>=_) _ _ s
 refine wpAny_bind (wpAny_field ez rfl (x:= .bool false) rfl ?_)
 show wpAny _ _ (field (.ref z) 3>>=_) _ _ s
 refine wpAny_bind (wpAny_field ez rfl (x:= .ref TI) rfl (wpAny_bind (wpAny_seqItems eI rfl ?_)))
 show wpAny _ _ (Builtin.SmallTypes.ownedTupleIsFree (.ref z)>>=_) _ _ s
 refine wpAny_bind ?_
 unfold Builtin.SmallTypes.ownedTupleIsFree;refine wpAny_bind (wpAny_field ez rfl (x:= .none) rfl (wpAny_pure ?_))
 simp only[if_true]
 refine wpAny_bind (wpAny_rule (wpAny_bind (wpAny_field ez rfl (x:= .ref TO) rfl (wpAny_bind (wpAny_setField_rec ez (by simp) fun g1 z1 b1=> ?_)))))
 have z1':IsZip g1 z TI TO .ellipsis:=z1
 refine wpAny_bind ?_
 simp only[List.forIn_cons,List.forIn_nil,List.zipIdx_cons,List.zipIdx_nil]
 refine wpAny_bind (wpAny_bind (wpAny_onRaise ?_))
 show wpAny _ _ (Builtin.SmallTypes.nextOf (.ref i)>>=_) _ _ _
 have nz:∀{g:Heap}{u o},IsZip g z TI TO .ellipsis->g.get? u=some o->o.cls= .type "StopIteration"->u≠z:=fun hz hu hc h=>by subst h;rw[hz] at hu;cases hu;simp at hc
 cases hx:xs[k]? with
 | none=>
   refine wpAny_bind (Ku hA (ei.extBut b1.extBut D.i1z) (ea.extBut b1.extBut D.l1z) hx fun g2 u b2 ⟨ou,hou,hcu⟩=> ?_)
   have z2:IsZip g2 z TI TO .ellipsis:=b2 _ _ D.i1z.symm z1'
   refine wpAny_setField_rec z2 (by simp) fun g3 _ b3=>r g3 u (fun c o hc e=> ?_) ⟨ou,b3.extBut _ _ (nz z2 hou hcu) hou,hcu⟩
   simp only[List.mem_cons,List.not_mem_nil,or_false,not_or] at hc
   exact b3.extBut _ _ hc.1 (b2 _ _ hc.2.2.1 (b1.extBut _ _ hc.1 e))
 | some x=>
   have hy:ys[k]? =none:=by rcases hend with h | h;exact absurd (hx.symm.trans h) (by simp);exact h
   refine wpAny_bind (FJ (ei.extBut b1.extBut D.i1z) (ea.extBut b1.extBut D.l1z) hx fun g2 i2 b2=>wpAny_pure ?_)
   have o2:IsPair g2 TO p q:=b2.extBut _ _ D.TOi1 (b1.extBut _ _ D.TOz eO)
   refine wpAny_bind (wpAny_seqItems o2 rfl (wpAny_bind (wpAny_updateSeq_pair o2 fun g3 o3 b3=> ?_)))
   refine wpAny_bind (wpAny_letGo (wpAny_pure (wpAny_bind (wpAny_bind (wpAny_onRaise ?_)))))
   show wpAny _ _ (Builtin.SmallTypes.nextOf (.ref j)>>=_) _ _ _
   refine wpAny_bind (Ku hA (((ej.extBut b1.extBut D.i2z).extBut b2.extBut D.i12.symm).extBut b3.extBut D.TOi2.symm) (((eb.extBut b1.extBut D.l2z).extBut b2.extBut D.l2i1).extBut b3.extBut D.l2TO) hy fun g4 u b4 ⟨ou,hou,hcu⟩=> ?_)
   have z4:IsZip g4 z TI TO .ellipsis:=b4 _ _ D.i2z.symm (b3.extBut _ _ D.TOz.symm (b2.extBut _ _ D.i1z.symm z1'))
   refine wpAny_setField_rec z4 (by simp) fun g5 _ b5=>r g5 u (fun c o hc e=> ?_) ⟨ou,b5.extBut _ _ (nz z4 hou hcu) hou,hcu⟩
   simp only[List.mem_cons,List.not_mem_nil,or_false,not_or] at hc
   exact b5.extBut _ _ hc.1 (b4 _ _ hc.2.2.2 (b3.extBut _ _ hc.2.1 (b2.extBut _ _ hc.2.2.1 (b1.extBut _ _ hc.1 e))))
end
end L2
set_option maxRecDepth 100000
namespace L2
open PySem PySem.Spec PyProof.Rows
abbrev tzA (g:Heap) (a:Addr):Heap:=g.push {cls:= .type "tuple_iterator",data:= .fields #[.ref a, .int 0 0]}
abbrev tzB (g:Heap) (a b:Addr):Heap:=(tzA g a).push {cls:= .type "tuple_iterator",data:= .fields #[.ref b, .int 0 0]}
abbrev tzC (g:Heap) (a b:Addr):Heap:=(tzB g a b).push {cls:= .type "tuple",data:= .seq #[.ref g.objs.size, .ref (tzA g a).objs.size]}
abbrev tzD (g:Heap) (a b:Addr):Heap:=(tzC g a b).push {cls:= .type "tuple",data:= .seq #[.none, .none]}
abbrev tzE (g:Heap) (a b:Addr):Heap:=(tzD g a b).push {cls:= .type "zip",data:= .fields #[.none, .bool false, .bool false, .ref (tzB g a b).objs.size, .ref (tzC g a b).objs.size]}
theorem Oj (a b:Addr) (xs ys:Array Value):
 Meets (Builtin.«zip.__new__» ⟨[.type "zip", .ref a, .ref b],[]⟩) (fun _ R s=>IsTup s.heap a xs/\IsTup s.heap b ys/\
  R (.ok (.ret (.ref (tzD s.heap a b).objs.size))) {s with heap:=tzE s.heap a b}):=
 .of_wp fun prog w A R s h=>by
   obtain⟨hp,g,d,tk,os⟩:=s;obtain⟨ha,hb,h⟩:=h
   have hsub:=sub_zip
   have h1:IsTup (Shared.heap ⟨hp,g,d,tk,os⟩) a xs:=ha
   have h2:IsTup (Shared.heap ⟨hp.push {cls:= .type "tuple_iterator",data:= .fields #[.ref a, .int 0 0]},g,d,tk,os⟩) b ys:=hb.push _
   wp_walk using iter_tuple h1,iter_tuple h2
   exact⟨_,rfl,h⟩
section
variable {prog:Program}{w:World}{A:Around}{E:Value->Shared->Prop}{s:Shared}
theorem RD {a b:Addr}{xs ys:Array Value}{Q:Value->Shared->Prop} (ha:IsTup s.heap a xs) (hb:IsTup s.heap b ys)
 (q:∀g n,n=s.heap.objs.size->IsZip g (n+4) (n+2) (n+3) .none->IsPair g (n+2) (.ref n) (.ref (n+1))->
   IsPair g (n+3) .none .none->IsTupIter g n a 0->IsTupIter g (n+1) b 0->
   (∀c o,s.heap.get? c=some o->g.get? c=some o)->Q (.ref (n+4)) {s with heap:=g}):
 wpAny (model prog w) A (call (.type "zip") [.ref a, .ref b]) Q E s:=by
 refine callType_new F.called_zip (by decide) (F.typeCall_zip_2 _ _) (F.newCall_zip_2 _ _) (fun obj=>F.args_object_init_3 obj _ _) F.entry_zip_new
  (Oj a b xs ys) ⟨ha,hb, ?_⟩
 have n1:(tzA s.heap a).objs.size=s.heap.objs.size+1:=Heap.size_push ..
 have n2:(tzB s.heap a b).objs.size=s.heap.objs.size+2:=by rw[Heap.size_push,n1]
 have n3:(tzC s.heap a b).objs.size=s.heap.objs.size+3:=by rw[Heap.size_push,n2]
 have n4:(tzD s.heap a b).objs.size=s.heap.objs.size+4:=by rw[Heap.size_push,n3]
 have e5:(tzE s.heap a b).get? (tzD s.heap a b).objs.size=some _:=Heap.get?_push_size _ rfl
 have e4:(tzE s.heap a b).get? (tzC s.heap a b).objs.size=some _:=Heap.get?_push_of_some _ (Heap.get?_push_size _ rfl)
 have e3:(tzE s.heap a b).get? (tzB s.heap a b).objs.size=some _:=Heap.get?_push_of_some _ (Heap.get?_push_of_some _ (Heap.get?_push_size _ rfl))
 have e2:(tzE s.heap a b).get? (tzA s.heap a).objs.size=some _:=Heap.get?_push_of_some _ (Heap.get?_push_of_some _ (Heap.get?_push_of_some _ (Heap.get?_push_size _ rfl)))
 have e1:(tzE s.heap a b).get? s.heap.objs.size=some _:=Heap.get?_push_of_some _ (Heap.get?_push_of_some _ (Heap.get?_push_of_some _ (Heap.get?_push_of_some _ (Heap.get?_push_size _ rfl))))
 show _/\_
 rw[n2,n3,n4] at e5
 rw[n3] at e4
 rw[n1,n2] at e3
 rw[n1] at e2
 rw[n4]
 exact⟨⟨_,e5,rfl⟩,q _ _ rfl e5 e3 e4 ⟨_,e1,rfl,rfl⟩ ⟨_,e2,rfl,rfl⟩ fun c o x=>
  Heap.get?_push_of_some _ (Heap.get?_push_of_some _ (Heap.get?_push_of_some _ (Heap.get?_push_of_some _ (Heap.get?_push_of_some _ x))))⟩
theorem RG {z TI TO i j a b:Addr}{k:Nat}{xs ys:Array Value}{x y p q:Value}{Q:Option Value->Shared->Prop} (D:ZipApart z TI TO i j a b)
 (ez:IsZip s.heap z TI TO .none) (eI:IsPair s.heap TI (.ref i) (.ref j)) (eO:IsPair s.heap TO p q) (ei:IsTupIter s.heap i a k) (ej:IsTupIter s.heap j b k) (ea:IsTup s.heap a xs) (eb:IsTup s.heap b ys)
 (hx:xs[k]? =some x) (hy:ys[k]? =some y)
 (r:∀g,IsZip g z TI TO (rawInt s.heap.objs.size)->IsPair g TO x y->IsTupIter g i a (k+1)->IsTupIter g j b (k+1)->IsPair g s.heap.objs.size x y->g.objs.size=s.heap.objs.size+1->
   (∀c o,c∉[z,TO,i,j]->s.heap.get? c=some o->g.get? c=some o)->Q (some (.ref s.heap.objs.size)) {s with heap:=g}):
 wpAny (model prog w) A (pyNext (.ref z)) Q E s:=by
 have ty:s.TypeIs (.ref z) "zip":=⟨_,ez,rfl⟩
 unfold pyNext
 exact wpAny_bind (wpAny_attempt (wpAny_callSpecial?_slot (name:=Str.ofString "__next__") ty F.slot_zip_next (wpAny_call_entry F.slot_zip_next ty F.entry_zip_next
  (Oh D ez eI eO ei ej ea eb hx hy fun g a1 a2 a3 a4 a5 a6 a7=>wpAny_pure (r g a1 a2 a3 a4 a5 a6 a7)) (F.args_zip_next_1 _))))
theorem Xv {z TI TO i j a b:Addr}{k:Nat}{xs ys:Array Value}{p q:Value}{Q:Option Value->Shared->Prop} (hA:A.handled=none) (D:ZipApart z TI TO i j a b)
 (ez:IsZip s.heap z TI TO .none) (eI:IsPair s.heap TI (.ref i) (.ref j)) (eO:IsPair s.heap TO p q) (ei:IsTupIter s.heap i a k) (ej:IsTupIter s.heap j b k) (ea:IsTup s.heap a xs) (eb:IsTup s.heap b ys)
 (hend:xs[k]? =none\/ys[k]? =none)
 (r:∀g,(∀c o,c∉[z,TO,i,j]->s.heap.get? c=some o->g.get? c=some o)->Q none {s with heap:=g}):
 wpAny (model prog w) A (pyNext (.ref z)) Q E s:=by
 have ty:s.TypeIs (.ref z) "zip":=⟨_,ez,rfl⟩
 unfold pyNext
 refine wpAny_bind (wpAny_attempt (wpAny_callSpecial?_slot (name:=Str.ofString "__next__") ty F.slot_zip_next (wpAny_call_entry F.slot_zip_next ty F.entry_zip_next
  (Oi hA D ez eI eO ei ej ea eb hend fun g u hk ⟨o,ho,hc⟩=> ?_) (F.args_zip_next_1 _))))
 exact wpAny_bind (wpAny_isInstance (T:="StopIteration") (b:=true) ⟨o,ho,hc⟩ isSubtype_stop (wpAny_pure (r _ hk)))
end
def Xw (K:PySem.W.Frag) (l1 l2:Addr):It:=
 ⟨fun i H=>∃xs ys x y,SqT K H l1 xs/\SqT K H l2 ys/\xs[i]? =some x/\ys[i]? =some y,
  fun i H v H'=>∃T x y,v= .ref T/\H T=none/\H'=upd H T (.tup [x,y])/\(∀xs,SqT K H l1 xs->xs[i]? =some x)/\∀ys,SqT K H l2 ys->ys[i]? =some y,
  fun i H=>∃xs ys,SqT K H l1 xs/\SqT K H l2 ys/\min xs.length ys.length=i⟩
theorem RJ {P:Program}{w:World}{K:PySem.W.Frag}{elts:List Expr}{k:Nat}{pos:Pos} (z TI TO i1 i2 l1 l2:Addr) (D:ZipApart z TI TO i1 i2 l1 l2):
 Turn P w K (.Tuple elts k pos) (Xw K l1 l2) [z,TI,TO,i1,i2] z (fun i h=>IsZip h z TI TO .none/\IsPair h TI (.ref i1) (.ref i2)/\(∃a b,IsPair h TO a b)/\IsTupIter h i1 l1 i/\IsTupIter h i2 l2 i) where
 mem:=by simp
 obj:=fun i h st b hb=>by
  obtain⟨h1,h2,⟨a,c,h3⟩,⟨o4,e4,_,d4⟩,⟨o5,e5,_,d5⟩⟩:=st
  have hb':b=z\/b=TI\/b=TO\/b=i1\/b=i2:=by simpa using hb
  rcases hb' with rfl | rfl | rfl | rfl | rfl
  ·exact⟨_,h1,fun v e=>by cases e⟩
  ·exact⟨_,h2,fun v e=>by cases e⟩
  ·exact⟨_,h3,fun v e=>by cases e⟩
  ·exact⟨o4,e4,fun v e=>by rw[d4] at e;cases e⟩
  ·exact⟨o5,e5,fun v e=>by rw[d5] at e;cases e⟩
 keep:=fun i h h' st kp=>by
  obtain⟨h1,h2,⟨a,c,h3⟩,⟨o4,e4,r4⟩,⟨o5,e5,r5⟩⟩:=st
  exact⟨kp z (by simp) _ h1,kp TI (by simp) _ h2,⟨a,c,kp TO (by simp) _ h3⟩,⟨o4,kp i1 (by simp) _ e4,r4⟩,⟨o5,kp i2 (by simp) _ e5,r5⟩⟩
 item:=by
  intro X hP hw hK hc i pins s σ H E I hf st hg
  subst hP hw hK
  obtain⟨xs,ys,x,y,hq1,hq2,hx,hy⟩:=hg
  obtain⟨aaL,rv1,p1,hz1⟩:=I.tuple hq1
  obtain⟨its2,rv2,p2,hz2⟩:=I.tuple hq2
  obtain⟨u1,hu1,ru1⟩:=rv1.get hx
  obtain⟨u2,hu2,ru2⟩:=rv2.get hy
  obtain⟨s1,s2,⟨a3,b3,s3⟩,s4,s5⟩:=st
  refine RG D s1 s2 s3 s4 s5 p1 p2 (x:=u1) (y:=u2) (by simpa using hu1) (by simpa using hu2) fun g t1 t3 t4 t5 isT sz kp=> ?_
  have sub:∀c∈[z,TO,i1,i2],c∈[z,TI,TO,i1,i2]:=fun c hc=>by
   have:c=z\/c=TO\/c=i1\/c=i2:=by simpa using hc
   rcases this with rfl | rfl | rfl | rfl<;>simp
  have tI:IsPair g TI (.ref i1) (.ref i2):=kp TI _ (by simp[D.TIz,D.TITO,D.TIi1,D.TIi2]) s2
  refine⟨.ref s.heap.objs.size,rfl,wpAny_letOwnedTupleGo_zip t1 fun h3 t1' b3'=> ?_⟩
  have kp3:∀c o,c∉[z,TO,i1,i2]->s.heap.get? c=some o->h3.get? c=some o:=fun c o hc e=>b3'.extBut _ _ (fun h=>hc (by simp[h])) (kp c o hc e)
  have J:Inv X pins σ H {s with heap:=h3,toks:=s.toks}:=I.Kl (ch:=[z,TO,i1,i2]) (fun b hb=>hf b (sub b hb)) kp3
  have hT0:H s.heap.objs.size=none:=I.hok.fresh (Nat.le_refl _)
  have nT:s.heap.objs.size∉[z,TI,TO,i1,i2]:=fun hm=>by
   obtain⟨o,e⟩:∃o,s.heap.get? s.heap.objs.size=some o:=by
    have:s.heap.objs.size=z\/s.heap.objs.size=TI\/s.heap.objs.size=TO\/s.heap.objs.size=i1\/s.heap.objs.size=i2:=by simpa using hm
    obtain⟨o4,e4,_⟩:=s4
    obtain⟨o5,e5,_⟩:=s5
    rcases this with h | h | h | h | h
    ·exact⟨_,h▸s1⟩
    ·exact⟨_,h▸s2⟩
    ·exact⟨_,h▸s3⟩
    ·exact⟨_,h▸e4⟩
    ·exact⟨_,h▸e5⟩
   exact absurd (Heap.lt_size e) (Nat.lt_irrefl _)
  have aeg:IsTup h3 s.heap.objs.size #[u1,u2]:=⟨_,b3'.extBut _ _ (fun h=>nT (by simp[h])) isT,rfl,_,rfl⟩
  have fp:=I.Il (H':=H) (Nat.le_refl _) hT0
  refine⟨.ref s.heap.objs.size,upd H s.heap.objs.size (.tup [x,y]),J.track hT0 ?_ fp.2.1 fp.2.2.2.2.1 fp.2.2.2.2.2 ?_,rfl,⟨_,x,y,rfl,hT0,rfl,fun zs hs=>by rw[I.DN hs hq1];exact hx,fun zs hs=>by rw[I.DN hs hq2];exact hy⟩,
   ⟨t1',b3'.extBut _ _ D.TIz tI,⟨_,_,b3'.extBut _ _ D.TOz t3⟩,t4.extBut b3'.extBut D.i1z,t5.extBut b3'.extBut D.i2z⟩,fun b hb=> ?_⟩
  ·cases e:X.s₀.heap.get? s.heap.objs.size with
   | none=>rfl
   | some o=>exact absurd (Heap.lt_size e) (Nat.not_lt.mpr I.sz)
  ·exact⟨by show 2<=sizeLine;rw[sizeLine_eq];decide,[u1,u2], .cons ru1 (.cons ru2 .nil),aeg⟩
  ·have nb:b≠s.heap.objs.size:=fun e=>nT (by rw[<-e];exact hb)
   rw[ao nb];exact(hf b hb).1
 done:=by
  intro X hP hw hK hc i pins s σ H E I hf st hg
  subst hP hw hK
  obtain⟨xs,ys,hq1,hq2,hi⟩:=hg
  obtain⟨aaL,rv1,p1,hz1⟩:=I.tuple hq1
  obtain⟨its2,rv2,p2,hz2⟩:=I.tuple hq2
  obtain⟨s1,s2,⟨a3,b3,s3⟩,s4,s5⟩:=st
  have e1:=rv1.length
  have e2:=rv2.length
  refine Xv (I.ok.hd hc) D s1 s2 s3 s4 s5 p1 p2 ?_ fun g kp=>⟨rfl,I.Kl (t':=s.toks) (ch:=[z,TO,i1,i2]) (fun b hb=>hf b ?_) kp⟩
  ·rcases Nat.le_total xs.length ys.length with h | h
   ·exact .inl (by simp;omega)
   ·exact .inr (by simp;omega)
  ·have:b=z\/b=TO\/b=i1\/b=i2:=by simpa using hb
   rcases this with rfl | rfl | rfl | rfl<;>simp
 self:=fun _ _ _ _ _ st h=>wpAny_pyIter_zip st.1 h
def U4 (K:PySem.W.Frag) (ta:TA):TI:=fun σ H R=>ta σ H fun vs H1=>∃l1 l2,vs=[.ref l1, .ref l2]/\(∃xs,SqT K H1 l1 xs)/\(∃ys,SqT K H1 l2 ys)/\R (Xw K l1 l2) H1
theorem RK {X:Cx}{elts:List Expr}{k:Nat}{tp:Pos}{a b:Expr}{ta:TA}{p pos:Pos} (hg:Gl X "zip") (hm:X.mg "zip"=none) (ha:PA X [a,b] ta) (hs:starEach [a,b] X.env=[(false,eval a X.env),(false,eval b X.env)]:=by rfl) (hs2:starEach [b] X.env=[(false,eval b X.env)]:=by rfl):
 PI X (.Tuple elts k tp) (.Call (.Name "zip" p) [a,b] [] pos) (U4 X.K ta):=by
 intro pins s σ H R I h
 refine Call_ (yU I hg hm W3 (PyProof.Rows.callWith_type1 (thn (ha pos pins s σ H _ I h) fun us s1 ⟨vs,H1,I1,r1,q1⟩=> ?_) (by rw[hs,hs2]) (by rw[hs2];rfl)))
 obtain⟨l1,l2,rfl,⟨xs,hq1⟩,⟨ys,hq2⟩,q⟩:=q1
 obtain⟨u,v,rfl,ru,rv⟩:=vals2 r1
 cases ru
 cases rv
 obtain⟨aaL,_,p1,_⟩:=I1.tuple hq1
 obtain⟨its2,_,p2,_⟩:=I1.tuple hq2
 have D:=PySem.W.ktu_apart s1.heap.objs.size l1 l2 p1.lt p2.lt
 refine RD p1 p2 fun h5 n en hz hTI hTO hi1 hi2 kp=> ?_
 subst en
 refine wpAny_pyIter_zip hz ?_
 have I2:Inv X pins σ H1 {s1 with heap:=h5}:=I1.kept (t':=s1.toks) kp
 refine⟨s1.heap.objs.size+4,[s1.heap.objs.size+4,s1.heap.objs.size+2,s1.heap.objs.size+3,s1.heap.objs.size,s1.heap.objs.size+1],_,_,H1,rfl,I2,RJ _ _ _ _ _ l1 l2 D,⟨hz,hTI,⟨_,_,hTO⟩,hi1,hi2⟩,fun b hb=> ?_,q⟩
 have hle:s1.heap.objs.size<=b:=by
  have:b=s1.heap.objs.size+4\/b=s1.heap.objs.size+2\/b=s1.heap.objs.size+3\/b=s1.heap.objs.size\/b=s1.heap.objs.size+1:=by simpa using hb
  rcases this with rfl | rfl | rfl | rfl | rfl<;>first | exact Nat.le_refl _ | exact Nat.le_add_right _ _
 exact I1.Il hle (I1.hok.fresh hle)
theorem RL {X:Cx}{elts:List Expr}{k:Nat}{tp:Pos}{a b:Expr}{ta:TA}{p pos:Pos} (hg:Gl X "zip") (hm:X.mg "zip"=none) (ha:QA X [a,b] ta) (hs:starEach [a,b] X.env=[(false,eval a X.env),(false,eval b X.env)]:=by rfl) (hs2:starEach [b] X.env=[(false,eval b X.env)]:=by rfl):
 QI X (.Tuple elts k tp) (.Call (.Name "zip" p) [a,b] [] pos) (U4 X.K ta):=⟨RK hg hm ha.h hs hs2⟩
theorem Ly {K:PySem.W.Frag}{a b:Addr}{xs ys:List V}{g:TG}{tc:TT}{te:TE}{σ:St}{H:Hp}{D:Addr}{Q:VK} (Pv:Nat->St->Hp->Prop) (hxy:xs.length=ys.length) (h0:Pv 0 σ (upd H D (.lst [])))
 (hl:∀i σ H,i<=xs.length->Pv i σ H->SqT K H a xs/\SqT K H b ys)
 (hs:∀i x y T σ' H',xs[i]? =some x->ys[i]? =some y->Pv i σ' H'->H' T=none->g (.ref T) σ' (upd H' T (.tup [x,y])) fun σ3 H3=>tc σ3 H3 fun b H4=>
   if b=true then te σ3 H4 fun y H5=>∃ys,H5 D=some (.lst ys)/\ys.length<sizeLine/\Pv (i+1) σ3 (upd H5 D (.lst (ys++[y]))) else Pv (i+1) σ3 H4) (hd:∀σ' H',Pv xs.length σ' H'->Q (.ref D) H'):
 Eg (Xw K a b) g tc te D σ (upd H D (.lst [])) Q:=by
 refine⟨fun i m σ H=>m=xs.length - i/\i<=xs.length/\Pv i σ H,⟨xs.length,by simp,Nat.zero_le _,h0⟩, ?_⟩
 rintro i m σ H ⟨rfl,hi,p⟩
 have q:=hl i σ H hi p
 by_cases hlt:i<xs.length
 ·refine .inr ⟨⟨xs,ys,xs[i],ys[i]'(hxy▸hlt),q.1,q.2,by simp[hlt],by simp[hxy▸hlt]⟩,Pv (i+1),fun σ' H' p'=>⟨xs.length - (i+1),by omega,rfl,hlt,p'⟩,fun v H' y=> ?_⟩
  obtain⟨T,x,y',rfl,hT,rfl,y1,y2⟩:=y
  exact hs i x y' T σ _ (y1 xs q.1) (y2 ys q.2) p hT
 ·have e:i=xs.length:=by omega
  subst e
  exact .inl ⟨⟨xs,ys,q.1,q.2,by omega⟩,hd σ H p⟩
end L2
set_option maxRecDepth 100000
namespace RB
open PySem PySem.Spec PyProof.Rows L2
mutual
def cY:Th->Th->Bool
 | .tup xs, .tup ys=>jn xs ys
 | .int i, .int j=>decide (i=j)
 | .str x, .str y=>decide (x=y)
 | _,_=>false
def jn:List Th->List Th->Bool
 |[],[]=>true
 | x::xs,y::ys=>cY x y&&jn xs ys
 | _,_=>false
end
def DpT:Nat->Th->Prop
 | 0, .tup _=>False
 | d+1, .tup ts=>ts.length<=1000/\∀t∈ts,DpT d t
 | _,_=>True
theorem BZ:∀{xs ys:List Th},xs.length≠ys.length->jn xs ys=false
 |[],[],h=>absurd rfl h
 |[],_::_,_=>by simp[jn]
 | _::_,[],_=>by simp[jn]
 | x::xs,y::ys,h=>by
   have:jn xs ys=false:=BZ (by simpa using h)
   simp[jn,this]
theorem Ca:∀{xs ys:List Th},xs.length=ys.length->jn xs ys=((List.zipWith cY xs ys).all id)
 |[],[],_=>by simp[jn]
 | x::xs,y::ys,h=>by
   have:jn xs ys=((List.zipWith cY xs ys).all id):=Ca (by simpa using h)
   simp[jn,this]
def FN (K:PySem.W.Frag) (d:Nat):Sp:=fun vs H Q _=>∃v t v' t',vs=[v,v']/\m6 K H v t/\m6 K H v' t'/\DpT d t/\∀H',aN H H'->Q (.bl (cY t t')) H'
theorem lK.at {K:PySem.W.Frag}{H:Hp}{vs:List V}{ts:List Th}{i:Nat}{v:V} (h:lK K H vs ts) (e:vs[i]? =some v):∃(hi:i<ts.length),m6 K H v ts[i]:=by
 obtain⟨t,et,r⟩:=h.get e
 obtain⟨hi,rfl⟩:=List.getElem?_eq_some_iff.mp et
 exact⟨hi,r⟩
theorem Lz {α β γ:Type} (f:α->β->γ) {xs:List α}{ys:List β}{i:Nat} (h1:i<xs.length) (h2:i<ys.length):(List.zipWith f xs ys).take i++[f xs[i] ys[i]]=(List.zipWith f xs ys).take (i+1):=by
 rw[List.take_add_one,List.getElem?_eq_getElem (by simp;omega),List.getElem_zipWith];rfl
end RB
set_option maxRecDepth 100000
namespace RB
open PySem L2 PySem.Spec PyProof.Rows
theorem DpT.mono:∀{d e:Nat}{t:Th},d<=e->DpT d t->DpT e t
 | 0,0,_,_,h=>h
 | 0,e+1,t,_,h=>by cases t<;>first | trivial | exact h.elim
 | d+1,0,_,hl,_=>absurd hl (by omega)
 | d+1,e+1,t,hl,h=>by
   cases t with
   | tup ts=>exact⟨h.1,fun t ht=>DpT.mono (by omega) (h.2 t ht)⟩
   | _=>trivial
theorem vK {d:Nat}{x:Str}:DpT d (.str x):=by cases d<;>trivial
theorem RM {d:Nat}{i:Int}:DpT d (.int i):=by cases d<;>trivial
theorem R.dpT:∀(r:R),r.G8->DpT (r.depth+1) r.d9
 | .num n,_=>⟨by simp,fun t ht=>by
   have:t= .str "number"\/t= .int n:=by simpa using ht
   rcases this with rfl | rfl<;>first | exact vK | exact RM⟩
 | .rd x,_=>⟨by simp,fun t ht=>by
   have:t= .str "read"\/t= .str x:=by simpa using ht
   rcases this with rfl | rfl<;>exact vK⟩
 | .bin op a b,h=>⟨by simp,fun t ht=>by
   have:t= .str op.word\/t=a.d9\/t=b.d9:=by simpa using ht
   have hd:(R.bin op a b).depth=max a.depth b.depth+1:=rfl
   rcases this with rfl | rfl | rfl
   ·exact vK
   ·exact(R.dpT a h.1).mono (by omega)
   ·exact(R.dpT b h.2).mono (by omega)⟩
 | .pick a b c,h=>⟨by simp,fun t ht=>by
   have:t= .str "pick"\/t=a.d9\/t=b.d9\/t=c.d9:=by simpa using ht
   have hd:(R.pick a b c).depth=max a.depth (max b.depth c.depth)+1:=rfl
   rcases this with rfl | rfl | rfl | rfl
   ·exact vK
   ·exact(R.dpT a h.1).mono (by omega)
   ·exact(R.dpT b h.2.1).mono (by omega)
   ·exact(R.dpT c h.2.2).mono (by omega)⟩
 | .cho a ns,h=>⟨by simp,fun t ht=>by
   have:t= .str "choose"\/t=a.d9\/t= .tup (ns.map Th.str):=by simpa using ht
   have hd:(R.cho a ns).depth=a.depth+1:=rfl
   rcases this with rfl | rfl | rfl
   ·exact vK
   ·exact(R.dpT a h.1).mono (by omega)
   ·refine⟨by have:=h.2;simp at *;omega,fun t ht=> ?_⟩
    obtain⟨x,_,rfl⟩:=List.mem_map.mp ht
    exact vK⟩
end RB
set_option maxRecDepth 100000
namespace RB
open PySem L2 PySem.Spec PyProof.Rows
mutual
theorem Ho:∀{t u:Th},cY t u=true->t=u
 | .tup xs, .tup ys,h=>by rw[cY] at h;rw[En h]
 | .int i, .int j,h=>by rw[cY] at h;rw[of_decide_eq_true h]
 | .str x, .str y,h=>by rw[cY] at h;rw[of_decide_eq_true h]
 | .tup _, .non,h=>by simp[cY] at h
 | .tup _, .bl _,h=>by simp[cY] at h
 | .tup _, .int _,h=>by simp[cY] at h
 | .tup _, .str _,h=>by simp[cY] at h
 | .tup _, .oth _,h=>by simp[cY] at h
 | .int _, .non,h=>by simp[cY] at h
 | .int _, .bl _,h=>by simp[cY] at h
 | .int _, .tup _,h=>by simp[cY] at h
 | .int _, .str _,h=>by simp[cY] at h
 | .int _, .oth _,h=>by simp[cY] at h
 | .str _, .non,h=>by simp[cY] at h
 | .str _, .bl _,h=>by simp[cY] at h
 | .str _, .tup _,h=>by simp[cY] at h
 | .str _, .int _,h=>by simp[cY] at h
 | .str _, .oth _,h=>by simp[cY] at h
 | .non,u,h=>by simp[cY] at h
 | .bl _,u,h=>by simp[cY] at h
 | .oth _,u,h=>by simp[cY] at h
theorem En:∀{ts us:List Th},jn ts us=true->ts=us
 |[],[],_=>rfl
 | x::xs,y::ys,h=>by
   rw[jn,Bool.and_eq_true] at h
   rw[Ho h.1,En h.2]
 |[],_::_,h=>by simp[jn] at h
 | _::_,[],h=>by simp[jn] at h
end
inductive PlT:Th->Prop where
 | int (i:Int):PlT (.int i)
 | str (x:Str):PlT (.str x)
 | tup {ts:List Th} (h:∀t∈ts,PlT t):PlT (.tup ts)
theorem zY:∀{ts:List Th},(∀t∈ts,cY t t=true)->jn ts ts=true
 |[],_=>by simp[jn]
 | x::xs,h=>by
   rw[jn,h x (by simp),zY fun t ht=>h t (by simp[ht])];rfl
theorem PlT.refl {t:Th} (h:PlT t):cY t t=true:=by
 induction h with
 | int i=>simp[cY]
 | str x=>simp[cY]
 | tup h ih=>rw[cY];exact zY ih
theorem R.plT:∀(r:R),PlT r.d9
 | .num n=> .tup fun t ht=>by
   have:t= .str "number"\/t= .int n:=by simpa using ht
   rcases this with rfl | rfl<;>constructor
 | .rd x=> .tup fun t ht=>by
   have:t= .str "read"\/t= .str x:=by simpa using ht
   rcases this with rfl | rfl<;>constructor
 | .bin op a b=> .tup fun t ht=>by
   have:t= .str op.word\/t=a.d9\/t=b.d9:=by simpa using ht
   rcases this with rfl | rfl | rfl
   ·constructor
   ·exact R.plT a
   ·exact R.plT b
 | .pick a b c=> .tup fun t ht=>by
   have:t= .str "pick"\/t=a.d9\/t=b.d9\/t=c.d9:=by simpa using ht
   rcases this with rfl | rfl | rfl | rfl
   ·constructor
   ·exact R.plT a
   ·exact R.plT b
   ·exact R.plT c
 | .cho a ns=> .tup fun t ht=>by
   have:t= .str "choose"\/t=a.d9\/t= .tup (ns.map Th.str):=by simpa using ht
   rcases this with rfl | rfl | rfl
   ·constructor
   ·exact R.plT a
   ·refine .tup fun t ht=> ?_
    obtain⟨x,_,rfl⟩:=List.mem_map.mp ht
    constructor
theorem JB:∀{o o':Op},o.word=o'.word->o=o':=by
 intro o o' h;cases o<;>cases o'<;>first | rfl | exact absurd h (by decide)
theorem Eo (o:Op):o.word≠"choose":=by cases o<;>decide
theorem R.wW:∀{r s:R},r.d9=s.d9->r=s
 | .num n, .num m,h=>by simp[R.d9] at h;rw[h]
 | .rd x, .rd y,h=>by simp[R.d9] at h;rw[h]
 | .bin o a b, .bin o' a' b',h=>by
   simp only[R.d9,Th.tup.injEq,List.cons.injEq,Th.str.injEq,and_true] at h
   rw[JB h.1,R.wW h.2.1,R.wW h.2.2]
 | .pick a b c, .pick a' b' c',h=>by
   simp only[R.d9,Th.tup.injEq,List.cons.injEq,and_true,true_and] at h
   rw[R.wW h.1,R.wW h.2.1,R.wW h.2.2]
 | .cho a ns, .cho a' ms,h=>by
   simp only[R.d9,Th.tup.injEq,List.cons.injEq,and_true,true_and] at h
   rw[R.wW h.1,(List.map_inj_right (fun x y e=>by cases e;rfl)).mp h.2]
 | .num n, .rd y,h=>by simp[R.d9] at h
 | .num n, .bin _ _ _,h=>by simp[R.d9] at h
 | .num n, .pick _ _ _,h=>by simp[R.d9] at h
 | .num n, .cho _ _,h=>by simp[R.d9] at h
 | .rd n, .num y,h=>by simp[R.d9] at h
 | .rd n, .bin _ _ _,h=>by simp[R.d9] at h
 | .rd n, .pick _ _ _,h=>by simp[R.d9] at h
 | .rd n, .cho _ _,h=>by simp[R.d9] at h
 | .bin _ _ _, .num y,h=>by simp[R.d9] at h
 | .bin _ _ _, .rd y,h=>by simp[R.d9] at h
 | .bin _ _ _, .pick _ _ _,h=>by simp[R.d9] at h
 | .bin o _ _, .cho _ _,h=>by
   simp only[R.d9,Th.tup.injEq,List.cons.injEq,Th.str.injEq,and_true] at h
   exact absurd h.1 (Eo o)
 | .pick _ _ _, .num y,h=>by simp[R.d9] at h
 | .pick _ _ _, .rd y,h=>by simp[R.d9] at h
 | .pick _ _ _, .bin _ _ _,h=>by simp[R.d9] at h
 | .pick _ _ _, .cho _ _,h=>by simp[R.d9] at h
 | .cho _ _, .num y,h=>by simp[R.d9] at h
 | .cho _ _, .rd y,h=>by simp[R.d9] at h
 | .cho _ _, .bin o _ _,h=>by
   simp only[R.d9,Th.tup.injEq,List.cons.injEq,Th.str.injEq,and_true] at h
   exact absurd h.1.symm (Eo o)
 | .cho _ _, .pick _ _ _,h=>by simp[R.d9] at h
theorem RN {r s:R} (e:r=s):cY r.d9 s.d9=true:=by rw[e];exact s.plT.refl
theorem RP {r s:R} (e:r≠s):cY r.d9 s.d9=false:=by
 cases h:cY r.d9 s.d9 with
 | false=>rfl
 | true=>exact absurd (R.wW (Ho h)) e
end RB
set_option maxRecDepth 100000
namespace L2
open PySem PySem.Spec PyProof.Rows
end L2
set_option maxRecDepth 100000
namespace RB
open PySem L2 PySem.Spec PyProof.Rows
theorem kh:∀{r:R},r.Good->r.G8
 | .num _,_=>trivial
 | .rd x,h=>⟨h.2.1,fun c hc=>by have:=h.2.2 c hc;unfold Kg at this;omega⟩
 | .bin _ a b,h=>⟨kh h.1,kh h.2⟩
 | .pick a b c,h=>⟨kh h.1,kh h.2.1,kh h.2.2⟩
 | .cho a ns,h=>⟨kh h.1,h.2⟩
end RB
set_option maxRecDepth 100000
namespace RB
open PySem L2 PySem.Spec PyProof.Rows
end RB
set_option maxRecDepth 100000
namespace RB
open PySem L2 PySem.Spec PyProof.Rows
end RB
set_option maxRecDepth 100000
namespace RB
open PySem L2 PySem.Spec PyProof.Rows
end RB
set_option maxRecDepth 100000
namespace L2
open PySem PySem.Spec PyProof.Rows RB
section
variable {prog:Program}{w:World}{A:Around}{E:Value->Shared->Prop}{s:Shared}
end
end L2
namespace RB
open PySem L2 PySem.Spec PyProof.Rows
end RB
set_option maxRecDepth 100000
namespace L2
open PySem PySem.Spec PyProof.Rows RB
end L2
set_option maxRecDepth 100000
namespace RB
open PySem L2 PySem.Spec PyProof.Rows
section
variable {p h hg hc h2 g2 c2 rcd r2 wd w2 hd:Addr}{o:Obj}{n:Nat}{gv:Kn}{rc:Rn}{kg kc kr kw:List (Key×V)}{rm:Rm}{H H':Hp}
end
end RB
set_option maxRecDepth 100000
namespace RB
open PySem L2 PySem.Spec PyProof.Rows
theorem Ol {kn:Kn}{d:List Rdp} (h:Rows kn d) {x:Str}{v:Int} (hx:kn x=some v) (m:(x,v)∈d):tV d x v=d:=by
 unfold tV
 rw[if_pos (List.any_eq_true.mpr ⟨(x,v),m,by simp⟩)]
 have:∀p∈d,(if p.1=x then(p.1,v) else p)=p:=fun p hp=>by
  by_cases z:p.1=x
  ·rw[if_pos z]
   have:=h.s p hp
   rw[z,hx] at this
   rw[Option.some.inj this]
  ·rw[if_neg z]
 rw[List.map_congr_left this]
 exact List.map_id _
theorem Om {kn:Kn}{d:List Rdp} (h:Rows kn d) {x:Str}{v:Int} (hx:kn x=some v) (m:(x,v)∉d):tV d x v=d++[(x,v)]:=by
 unfold tV
 rw[if_neg]
 intro z
 obtain⟨p,hp,e⟩:=List.any_eq_true.mp z
 have e:=of_decide_eq_true e
 have:=h.s p hp
 rw[e,hx] at this
 exact m (by rw[<-e,Option.some.inj this];exact hp)
def uC (kn:Kn) (r:R) (t:List Stp) (f:List Int) (d:List Rdp):Prop:=match ev kn r with
 | .inr v=>∃n us,StN kn n ⟨t++[.r r],f,d⟩ ⟨t,f++[v],d++us⟩/\oH r (kn0.puts d) us v/\Rows kn (d++us)
 | .inl x=>∃n t' f' us,StN kn n ⟨t++[.r r],f,d⟩ ⟨t'++[.r (.rd x)],f',d++us⟩/\kn x=none/\Chn r (kn0.puts d) us/\ev (kn0.puts (d++us)) r= .inl x/\Rows kn (d++us)
theorem LC {kn:Kn}{d:List Rdp} (h:Rows kn d) {x:Str} (hx:kn x=none):kn0.puts d x=none:=by
 cases e:kn0.puts d x with
 | none=>rfl
 | some u=>
   rcases yr e with z | z
   ·have:=h.s _ z
    rw[hx] at this;cases this
   ·cases z
theorem Hq {kn:Kn}{x:Str}{t:List Stp}{f:List Int}{d:List Rdp} (hd:Rows kn d):uC kn (.rd x) t f d:=by
 unfold uC
 show match look kn x with
  | .inr v=>_
  | .inl y=>_
 unfold look
 cases e:kn x with
 | none=>
   refine⟨0,t,f,[], ?_,e,trivial, ?_,by rw[List.append_nil];exact hd⟩
   ·rw[List.append_nil];exact .zero
   ·rw[List.append_nil]
    show look _ x=_
    unfold look
    rw[LC hd e]
 | some v=>
   have hl:=hd.look e
   by_cases m:(x,v)∈d
   ·rw[if_pos m] at hl
    refine⟨1,[], .succ (.rd e) ?_,hl,by rw[List.append_nil];exact hd⟩
    rw[Ol hd e m,List.append_nil];exact .zero
   ·rw[if_neg m] at hl
    refine⟨1,[(x,v)], .succ (.rd e) ?_,hl.1,hl.2⟩
    rw[Om hd e m];exact .zero
theorem Cd {kn:Kn}:∀(r:R),r.T3->∀t f d,Rows kn d->uC kn r t f d
 | .num n,_,t,f,d,hd=>⟨1,[], .succ .num (by rw[List.append_nil];exact .zero),Rv,by rw[List.append_nil];exact hd⟩
 | .rd x,_,t,f,d,hd=>Hq hd
 | .bin op a b,h,t,f,d,hd=>by
   have ua:∀kn' x,ev kn' a= .inl x->ev kn' (.bin op a b)= .inl x:=fun kn' x e=>by simp only[ev];rw[e]
   have ha:=Cd (kn:=kn) a h.1 (t++[.join op, .r b]) f d hd
   unfold uC at ha ⊢
   rw[List.append_assoc] at ha
   simp only[ev]
   cases ea:ev kn a with
   | inl x=>
     rw[ea] at ha
     obtain⟨n,t',f',us,s,hx,c,e,hr⟩:=ha
     exact⟨n+1,t',f',us, .succ .bin s,hx,c.up fun kn' x _ e=>ua kn' x e,ua _ _ e,hr⟩
   | inr u=>
     rw[ea] at ha
     obtain⟨n,us,s,g,hr⟩:=ha
     have hb:=Cd (kn:=kn) b h.2.1 (t++[.join op]) (f++[u]) (d++us) hr
     unfold uC at hb
     rw[List.append_assoc] at hb
     have ub:∀kn' x,Kn.Le ((kn0.puts d).puts us) kn'->ev kn' b= .inl x->ev kn' (.bin op a b)= .inl x:=fun kn' x l e=>by simp only[ev];rw[mC l g.e];simp only;rw[e]
     cases eb:ev kn b with
     | inl x=>
       rw[eb] at hb
       obtain⟨m,t',f',vs,s2,hx,c,e,hr2⟩:=hb
       rw[Kn.gm] at c
       rw[List.append_assoc] at s2 e hr2
       refine⟨n+m+1,t',f',us++vs, .succ .bin (s.add s2),hx,(g.c.up fun kn' x _ e=>ua kn' x e).app (c.up ub), ?_,hr2⟩
       refine ub _ _ ?_ e
       rw[Kn.gm,Kn.gm]
       exact c.le
     | inr v=>
       rw[eb] at hb
       obtain⟨m,vs,s2,g2,hr2⟩:=hb
       rw[Kn.gm] at g2
       rw[List.append_assoc] at s2 hr2
       refine⟨n+(m+1)+1,us++vs, .succ .bin (s.add (s2.add (.succ ?_ .zero))),Ry g g2,hr2⟩
       rw[List.append_assoc]
       exact .join fun z=> .inr (by
        obtain⟨k,rfl,h1,h2⟩:=h.2.2 z
        cases eb
        omega)
 | .pick a b c,h,t,f,d,hd=>by
   have ua:∀kn' x,ev kn' a= .inl x->ev kn' (.pick a b c)= .inl x:=fun kn' x e=>by simp only[ev];rw[e]
   have ha:=Cd (kn:=kn) a h.1 (t++[.branch b c]) f d hd
   unfold uC at ha ⊢
   rw[List.append_assoc] at ha
   simp only[ev]
   cases ea:ev kn a with
   | inl x=>
     rw[ea] at ha
     obtain⟨n,t',f',us,s,hx,c,e,hr⟩:=ha
     exact⟨n+1,t',f',us, .succ .pick s,hx,c.up fun kn' x _ e=>ua kn' x e,ua _ _ e,hr⟩
   | inr u=>
     rw[ea] at ha
     obtain⟨n,us,s,g,hr⟩:=ha
     have hb:uC kn (if u>0 then b else c) t f (d++us):=by
      split
      ·exact Cd b h.2.1 t f _ hr
      ·exact Cd c h.2.2 t f _ hr
     unfold uC at hb
     simp only
     have e:(if u>0 then ev kn b else ev kn c)=ev kn (if u>0 then b else c):=by split<;>rfl
     rw[e]
     have up:∀kn':Kn,Kn.Le ((kn0.puts d).puts us) kn'->ev kn' (.pick a b c)=ev kn' (if u>0 then b else c):=fun kn' l=>by
      simp only[ev];rw[mC l g.e];simp only;split<;>rfl
     cases eb:ev kn (if u>0 then b else c) with
     | inl x=>
       rw[eb] at hb
       obtain⟨m,t',f',vs,s2,hx,c2,e2,hr2⟩:=hb
       rw[Kn.gm] at c2
       rw[List.append_assoc] at s2 e2 hr2
       refine⟨n+(m+1)+1,t',f',us++vs, .succ .pick (s.add (.succ .branch s2)),hx,(g.c.up fun kn' x _ e=>ua kn' x e).app (c2.up fun kn' x l z=>by rw[up kn' l];exact z), ?_,hr2⟩
       rw[<-e2]
       have hl:=c2.le
       have:=up (kn0.puts (d++(us++vs))) (by rw[Kn.gm,Kn.gm];exact hl)
       simp only[ev] at this
       exact this
     | inr v=>
       rw[eb] at hb
       obtain⟨m,vs,s2,g2,hr2⟩:=hb
       rw[Kn.gm] at g2
       rw[List.append_assoc] at s2 hr2
       exact⟨n+(m+1)+1,us++vs, .succ .pick (s.add (.succ .branch s2)),Oe g g2,hr2⟩
 | .cho a ns,h,t,f,d,hd=>by
   have ua:∀kn' x,ev kn' a= .inl x->ev kn' (.cho a ns)= .inl x:=fun kn' x e=>by simp only[ev];rw[e]
   have ha:=Cd (kn:=kn) a h.1 (t++[.among ns]) f d hd
   unfold uC at ha ⊢
   rw[List.append_assoc] at ha
   simp only[ev]
   cases ea:ev kn a with
   | inl x=>
     rw[ea] at ha
     obtain⟨n,t',f',us,s,hx,c,e,hr⟩:=ha
     exact⟨n+1,t',f',us, .succ .cho s,hx,c.up fun kn' x _ e=>ua kn' x e,ua _ _ e,hr⟩
   | inr u=>
     rw[ea] at ha
     obtain⟨n,us,s,g,hr⟩:=ha
     obtain⟨y,ey⟩:=Lx h.2 u
     simp only
     rw[ey]
     have hb:=Hq (kn:=kn) (x:=y) (t:=t) (f:=f) hr
     unfold uC at hb
     simp only[ev] at hb
     simp only
     have up:∀kn':Kn,Kn.Le ((kn0.puts d).puts us) kn'->ev kn' (.cho a ns)=ev kn' (.rd y):=fun kn' l=>by
      simp only[ev];rw[mC l g.e];simp only;rw[ey]
     cases eb:look kn y with
     | inl x=>
       rw[eb] at hb
       obtain⟨m,t',f',vs,s2,hx,c2,e2,hr2⟩:=hb
       rw[Kn.gm] at c2
       rw[List.append_assoc] at s2 e2 hr2
       refine⟨n+(m+1)+1,t',f',us++vs, .succ .cho (s.add (.succ (.among ey) s2)),hx,(g.c.up fun kn' x _ e=>ua kn' x e).app (c2.up fun kn' x l z=>by rw[up kn' l];exact z), ?_,hr2⟩
       have hl:=c2.le
       have:=up (kn0.puts (d++(us++vs))) (by rw[Kn.gm,Kn.gm];exact hl)
       exact this.trans e2
     | inr v=>
       rw[eb] at hb
       obtain⟨m,vs,s2,g2,hr2⟩:=hb
       rw[Kn.gm] at g2
       rw[List.append_assoc] at s2 hr2
       exact⟨n+(m+1)+1,us++vs, .succ .cho (s.add (.succ (.among ey) s2)),Rz g ey g2,hr2⟩
def tL (kn:Kn) (r:R) (x:Str):Prop:=∃ps,Chn r kn0 ps/\ev (kn0.puts ps) r= .inl x/\Rows kn ps
def Goes (kn:Kn) (r:R) (c:Cf):Prop:=match ev kn r with
 | .inr v=>c.todo=[]/\c.found=[v]/\oH r kn0 c.rds v/\Rows kn c.rds
 | .inl x=>(∃t,c.todo=t++[.r (.rd x)])/\kn x=none/\tL kn r x
theorem Oo {kn:Kn}:Rows kn []:=⟨by simp,by simp⟩
theorem Reach.aaM {kn:Kn}{r:R} (hr:r.T3) {c:Cf} (g:Reach kn r c):∃n c',StN kn n c c'/\Halt kn c'/\Reach kn r c'/\Goes kn r c':=by
 have h:=Cd (kn:=kn) r hr [] [] [] Oo
 unfold uC at h
 unfold Goes
 obtain⟨m,g⟩:=g
 cases e:ev kn r with
 | inr v=>
   rw[e] at h
   obtain⟨n,us,s,gg,hr⟩:=h
   obtain⟨k,t⟩:=g.rest s (.inl rfl)
   exact⟨k,_,t, .inl rfl,⟨n,s⟩,rfl,rfl,gg,hr⟩
 | inl x=>
   rw[e] at h
   obtain⟨n,t',f',us,s,hx,c1,e1,hr⟩:=h
   have hh:Halt kn ⟨t'++[.r (.rd x)],f',[]++us⟩:= .inr ⟨t',x,rfl,hx⟩
   obtain⟨k,t⟩:=g.rest s hh
   exact⟨k,_,t,hh,⟨n,s⟩,⟨t',rfl⟩,hx,us,c1,e1,hr⟩
theorem LK:∀r:R,1<=r.depth
 | .num _=>Nat.le_refl _
 | .rd _=>Nat.le_refl _
 | .bin _ a b=>by show 1<=max a.depth b.depth+1;omega
 | .pick a b c=>by show 1<=max a.depth (max b.depth c.depth)+1;omega
 | .cho a _=>by show 1<=a.depth+1;omega
theorem Ce:∀(r:R) (d:Nat),r.depth<=d->wR r+2<=3 ^ d
 | r,0,h=>absurd (LK r) (by omega)
 | .num _,d+1,_=>by
   have:1<=3 ^ d:=Nat.one_le_pow _ _ (by decide)
   show 1+2<=3 ^(d+1)
   rw[Nat.pow_succ];omega
 | .rd _,d+1,_=>by
   have:1<=3 ^ d:=Nat.one_le_pow _ _ (by decide)
   show 1+2<=3 ^(d+1)
   rw[Nat.pow_succ];omega
 | .bin _ a b,d+1,h=>by
   have h:max a.depth b.depth+1<=d+1:=h
   have h1:=Ce a d (by omega)
   have h2:=Ce b d (by omega)
   show wR a+wR b+2+2<=3 ^(d+1)
   rw[Nat.pow_succ];omega
 | .pick a b c,d+1,h=>by
   have h:max a.depth (max b.depth c.depth)+1<=d+1:=h
   have h1:=Ce a d (by omega)
   have h2:=Ce b d (by omega)
   have h3:=Ce c d (by omega)
   show wR a+wR b+wR c+2+2<=3 ^(d+1)
   rw[Nat.pow_succ];omega
 | .cho a _,d+1,h=>by
   have h:a.depth+1<=d+1:=h
   have h1:=Ce a d (by omega)
   show wR a+3+2<=3 ^(d+1)
   rw[Nat.pow_succ];omega
end RB
set_option maxRecDepth 100000
namespace L2
open PySem PySem.Spec PyProof.Rows
theorem FP {X:Cx}{e:Expr}{f:Str}{pos:Pos}{ta:TE}{K:PySem.W.Frag} (eK:X.K=K) (he:QE X e ta) (hb:attributeBase e f X.env (eval e X.env)=eval e X.env:=by rfl):QE X (.Attribute e f pos) (Wo K ta f):=eK▸bw he hb
end L2
namespace RB
open PySem L2 PySem.Spec PyProof.Rows
structure NrC (K:PySem.W.Frag) (C:Addr):Prop where
 cl:Cls K C
 nB:iu K C "by_name"
def nrF (rcd:Addr):List (Str×V):=[("by_name", .ref rcd)]
def Cg (C:Addr):Sp:=fun vs H Q _=>∃(a dx rcd:Addr),vs=[.ref a, .ref rcd]/\H a=some (.ins C dx [])/\∀H',But [a] H H'->H' a=some (.ins C dx (nrF rcd))->Q .non H'
def Ep (rm:Rm) (y:Str) (r:R) (kn:Kn):Prop:=∀r' ps v,rm y=some (r',ps,v)->r'≠r\/∃p∈ps,∃u,kn p.1=some u/\u≠p.2
theorem Ep.le {rm:Rm}{y:Str}{r:R}{kn kn':Kn} (h:Ep rm y r kn) (l:Kn.Le kn kn'):Ep rm y r kn':=fun r' ps v e=>(h r' ps v e).imp id fun⟨p,hp,u,hu,hn⟩=>⟨p,hp,u,l _ _ hu,hn⟩
def Hr (H:Hp) (fl:Addr) (kr:List (Key×V)) (rm:Rm) (y:Str) (r:R) (kn:Kn) (k:Nat):Prop:=
 (∃rb ps v,H fl=some (.lst [.ref rb])/\cG kr (.inr y)=some (.ref rb)/\rm y=some (r,ps,v)/\k<=ps.length/\∀(j:Nat) p,j<k->ps[j]? =some p->kn p.1=some p.2)\/(H fl=some (.lst [])/\Ep rm y r kn)
theorem Hr.le {H:Hp}{fl:Addr}{kr:List (Key×V)}{rm:Rm}{y:Str}{r:R}{kn kn':Kn}{k:Nat} (h:Hr H fl kr rm y r kn k) (l:Kn.Le kn kn'):Hr H fl kr rm y r kn' k:=
 h.imp (fun⟨rb,ps,v,a,b,c,d,e⟩=>⟨rb,ps,v,a,b,c,d,fun j p hj hp=>l _ _ (e j p hj hp)⟩) fun⟨a,b⟩=>⟨a,b.le l⟩
theorem Hr.at {H H':Hp}{fl:Addr}{kr:List (Key×V)}{rm:Rm}{y:Str}{r:R}{kn:Kn}{k:Nat} (h:Hr H fl kr rm y r kn k) (f:∀o,H fl=some o->H' fl=some o):Hr H' fl kr rm y r kn k:=
 h.imp (fun⟨rb,ps,v,a,b⟩=>⟨rb,ps,v,f _ a,b⟩) fun⟨a,b⟩=>⟨f _ a,b⟩
def Oq (C:Addr):Sp:=fun vs H Q _=>∃(o dx rcd b:Addr) (kr:List (Key×V)) (n:Nat) (rm:Rm) (y:Str) (r:R),vs=[.ref o, .str y, .ref b]/\H o=some (.ins C dx (nrF rcd))/\H rcd=some (.dK kr)/\oJ H kr n rm/\IsR H b r/\r.Good/\r.depth<=8/\
 ∀fl H',aN H H'->H fl=none->(∀kn,Hr H' fl kr rm y r kn 0)->Q (.ref fl) H'
def U5:Sp:=fun vs H Q _=>(∃v w,vs=[v,w])/\Q .non H
structure SeD where
 s:Addr
 dx:Addr
 b:Addr
 fl:Addr
 rk:Addr
 dxr:Addr
 a1:Addr
 a2:Addr
 a3:Addr
 k:Nat
def SeD.ft (A:SeD):List Addr:=[A.s,A.fl,A.rk,A.a1,A.a2,A.a3]
def seF (b fl:Addr) (k:Nat) (rk:Addr):List (Str×V):=[("recipe", .ref b),("fitting", .ref fl),("place", .int k),("reckoning", .ref rk)]
structure SeC (K:PySem.W.Frag) (C:Addr):Prop where
 cl:Cls K C
 nR:iu K C "recipe"
 nF:iu K C "fitting"
 nP:iu K C "place"
 nK:iu K C "reckoning"
theorem vL (b fl:Addr) (k:Nat) (rk:Addr):List.lookup ("recipe":Str) (seF b fl k rk)=some (.ref b):=rfl
theorem rT (b fl:Addr) (k:Nat) (rk:Addr):List.lookup ("fitting":Str) (seF b fl k rk)=some (.ref fl):=rfl
theorem vM (b fl:Addr) (k:Nat) (rk:Addr):List.lookup ("place":Str) (seF b fl k rk)=some (.int k):=rfl
theorem m9 (b fl:Addr) (k:Nat) (rk:Addr):List.lookup ("reckoning":Str) (seF b fl k rk)=some (.ref rk):=rfl
theorem fQ (b fl:Addr) (k:Nat) (rk:Addr):List.lookup ("lacking":Str) (seF b fl k rk)=none/\List.lookup ("fit_on":Str) (seF b fl k rk)=none/\List.lookup ("was_reckoned":Str) (seF b fl k rk)=none/\List.lookup ("new_record":Str) (seF b fl k rk)=none:=⟨rfl,rfl,rfl,rfl⟩
structure rW (CS CR:Addr) (kr:List (Key×V)) (rm:Rm) (y:Str) (r:R) (kn:Kn) (A:SeD) (H:Hp):Prop where
 e:H A.s=some (.ins CS A.dx (seF A.b A.fl A.k A.rk))
 hr:IsR H A.b r
 c:∃c,RcAt H A.rk CR A.dxr A.a1 A.a2 A.a3 c/\Reach kn r c
 f:Hr H A.fl kr rm y r kn A.k
 n1:A.s≠A.rk
 n2:A.fl≠A.a1
 n3:A.fl≠A.a2
theorem RcAt.move {S:List Addr}{H H':Hp}{a C dx a1 a2 a3:Addr}{c:Cf} (h:RcAt H a C dx a1 a2 a3 c) (b:But S H H') (t:mR H H') (hs:∀z∈[a,a1,a2,a3],z∉S):RcAt H' a C dx a1 a2 a3 c:=by
 obtain⟨e,⟨ws,e1,hw⟩,e2,e3,ne,w⟩:=h
 exact⟨b _ _ (hs _ (by simp)) e,⟨ws,b _ _ (hs _ (by simp)) e1,hw.tups t⟩,b _ _ (hs _ (by simp)) e2,b _ _ (hs _ (by simp)) e3,ne,w⟩
section
variable {CS CR:Addr}{kr:List (Key×V)}{rm:Rm}{y:Str}{r:R}{kn kn':Kn}{A:SeD}{H H':Hp}
theorem rW.move {S:List Addr} (h:rW CS CR kr rm y r kn A H) (b:But S H H') (t:mR H H') (hs:∀z∈A.ft,z∉S):rW CS CR kr rm y r kn A H':=by
 obtain⟨c,h1,h2⟩:=h.c
 exact⟨b _ _ (hs _ (by simp[SeD.ft])) h.e,h.hr.tups t,⟨c,h1.move b t fun z hz=>hs z (by
  have:z=A.rk\/z=A.a1\/z=A.a2\/z=A.a3:=by simpa using hz
  unfold SeD.ft
  rcases this with rfl | rfl | rfl | rfl<;>simp),h2⟩,h.f.at fun o e=>b _ _ (hs _ (by simp[SeD.ft])) e,h.n1,h.n2,h.n3⟩
theorem rW.le (h:rW CS CR kr rm y r kn A H) (l:Kn.Le kn kn'):rW CS CR kr rm y r kn' A H:=by
 obtain⟨c,h1,h2⟩:=h.c
 exact⟨h.e,h.hr,⟨c,h1,h2.le l⟩,h.f.le l,h.n1,h.n2,h.n3⟩
def Ot (H:Hp) (CR:Addr) (kr:List (Key×V)) (rm:Rm) (y:Str) (r:R) (kn:Kn) (A:SeD):Prop:=
 (∃rb ps v,H A.fl=some (.lst [.ref rb])/\cG kr (.inr y)=some (.ref rb)/\rm y=some (r,ps,v)/\∀p∈ps,kn p.1=some p.2)\/
 (H A.fl=some (.lst [])/\Ep rm y r kn/\∃c v,RcAt H A.rk CR A.dxr A.a1 A.a2 A.a3 c/\c.found=[v]/\oH r kn0 c.rds v/\Rows kn c.rds)
end
def Hs (CS CR:Addr):Sp:=fun vs H Q _=>∃(a dx b fl:Addr) (r:R),vs=[.ref a, .ref b, .ref fl]/\H a=some (.ins CS dx [])/\IsR H b r/\wR r<=4000/\
 ∀(A:SeD) H',But [a] H H'->A.s=a->A.b=b->A.fl=fl->A.k=0->H' a=some (.ins CS A.dx (seF b fl 0 A.rk))->RcAt H' A.rk CR A.dxr A.a1 A.a2 A.a3 ⟨[.r r],[],[]⟩->(∀z∈[A.rk,A.a1,A.a2,A.a3],H z=none)->Q .non H'
def U6 (CS:Addr):Sp:=fun vs H Q _=>∃(s dx b fl rk rb br l:Addr) (k:Nat) (as:List Addr) (ps:List Rdp) (v w u:Int) (x:Str),vs=[.ref s, .int w]/\H s=some (.ins CS dx (seF b fl k rk))/\H fl=some (.lst [.ref rb])/\H rb=some (.tup [.ref br, .ref l, .int v])/\H l=some (.lst (as.map V.ref))/\kO H as ps/\ps[k]? =some (x,u)/\
 ∀fl' H',But [s] H H'->H fl'=none->H' s=some (.ins CS dx (seF b fl' (k+1) rk))->H' fl'=some (.lst (if u=w then [.ref rb] else []))->Q .non H'
def Ht (CS CR:Addr):Sp:=fun vs H Q _=>∃(A:SeD) (d:Addr) (kr:List (Key×V)) (n:Nat) (rm:Rm) (y:Str) (r:R) (kn:Kn),vs=[.ref A.s, .ref d]/\rW CS CR kr rm y r kn A H/\oJ H kr n rm/\n<=17/\Oa H d kn/\d≠A.a3/\r.T3/\
 ∀(A':SeD) H',But A.ft H H'->A'.s=A.s->A'.b=A.b->A'.rk=A.rk->A'.a1=A.a1->A'.a2=A.a2->A'.a3=A.a3->(A'.fl=A.fl\/H A'.fl=none)->rW CS CR kr rm y r kn A' H'->
  (Ot H' CR kr rm y r kn A'->Q .non H')/\∀x,kn x=none->tL kn r x->Q (.str x) H'
theorem Hu {r:R}:∀{ps:List Rdp}{kn:Kn}{k:Nat}{x:Str}{u:Int},Chn r kn ps->ps[k]? =some (x,u)->Chn r kn (ps.take k)/\ev (kn.puts (ps.take k)) r= .inl x
 |[],_,_,_,_,_,h=>by simp at h
 | p::ps,kn,0,x,u,c,h=>by cases h;exact⟨trivial,c.1⟩
 | p::ps,kn,k+1,x,u,c,h=>by
   obtain⟨h1,h2⟩:=Hu (ps:=ps) (k:=k) c.2 (by simpa using h)
   exact⟨⟨c.1,h1⟩,h2⟩
theorem JC {r:R}{ps:List Rdp}{kn:Kn}{k:Nat}{x:Str}{u:Int} (c:Chn r kn0 ps) (h:ps[k]? =some (x,u)) (he:∀(j:Nat) p,j<k->ps[j]? =some p->kn p.1=some p.2):tL kn r x:=by
 obtain⟨h1,h2⟩:=Hu c h
 refine⟨ps.take k,h1,h2,fun p hp=> ?_, ?_⟩
 ·obtain⟨j,hj⟩:=List.getElem?_of_mem hp
  rw[List.getElem?_take] at hj
  split at hj
  ·exact he j p (by assumption) hj
  ·cases hj
 ·rw[List.map_take]
  exact((vJ c).2).sublist (List.take_sublist _ _)
theorem Hv {H:Hp}:∀{as:List Addr}{ps:List Rdp},as.length=ps.length->(∀(j:Nat) (b:Addr) (p:Rdp),as[j]? =some b->ps[j]? =some p->H b=some (.tup (rdV p)))->kO H as ps
 |[],[],_,_=> .nil
 | a::as,p::ps,hl,h=> .cons (h 0 a p rfl rfl) (Hv (by simpa using hl) fun j b q h1 h2=>h (j+1) b q (by simpa using h1) (by simpa using h2))
 |[],_::_,hl,_=>by simp at hl
 | _::_,[],hl,_=>by simp at hl
def Rcd (rm:Rm) (y:Str) (r:R) (kn:Kn) (ps:List Rdp) (v:Int) (made:Bool):Prop:=
 oH r kn0 ps v/\Rows kn ps/\if made=true then Ep rm y r kn else rm y=some (r,ps,v)
def Ou (CS CR:Addr):Sp:=fun vs H Q _=>∃(A:SeD) (kr:List (Key×V)) (n:Nat) (rm:Rm) (y:Str) (r:R) (kn:Kn),vs=[.ref A.s]/\H A.s=some (.ins CS A.dx (seF A.b A.fl A.k A.rk))/\oJ H kr n rm/\n<=17/\Ot H CR kr rm y r kn A/\
 ∀(rb l:Addr) (as:List Addr) (ps:List Rdp) (v:Int) (made:Bool) (H':Hp),aN H H'->H' rb=some (.tup [.ref A.b, .ref l, .int v])->H l=none->H' l=some (.lst (as.map V.ref))->kO H' as ps->Rcd rm y r kn ps v made->(∃xs,H' A.fl=some (.lst xs)/\decide (xs.length=0)=made)->Q (.ref rb) H'
end RB
set_option maxRecDepth 100000
namespace L2
open PySem PySem.Spec PyProof.Rows RB
theorem Hw {P:Program}{w:World} (d:Addr) (od:Obj) (hl:(d==sysModules)=false) (hc:od.cls= .type "dict"):
 MeetsIn P w (Builtin.«dict.items» ⟨[.ref d],[]⟩)
  (fun A R s=>s.heap.get? d=some od/\R (.ok (.ret (.ref s.heap.objs.size))) ⟨s.heap.push {cls:= .type "dict_items",data:= .fields #[.ref d]},s.gens,s.drawn,s.toks,s.os⟩):=by
 intro A R s z
 obtain⟨hp,g,dr,tk,os⟩:=s
 obtain⟨z1,z⟩:=z
 obtain⟨c,dd,da,sl⟩:=od
 simp only at hc
 subst hc
 wp_walk
 exact z
theorem Inv.more {X:Cx}{pins:List (Addr×Obj)}{σ:St}{H H':Hp}{s:Shared}{h':Heap}{t':Nat} (I:Inv X pins σ H s) (k:∀b u,s.heap.get? b=some u->h'.get? b=some u) (sm:aN H H')
 (new:∀a o,H' a=some o->H a=some o\/(s.heap.objs.size<=a/\eN X.prog X.w H' h' a o)):Inv X pins σ H' {s with heap:=h',toks:=t'}:=by
 refine I.un ⟨fun b u q _ _ _=>k b u q,fun b u q _ _ _=>⟨u.slots,k b u q⟩,fun b u q n _=> ?_,fun b u q _=>⟨u,k b u q⟩,fun b xs q=>sm _ _ q,fun b u xs q=>sm _ _ q,fun b ps q=>⟨#[],by rw[sm _ _ q];simp⟩⟩ fun a o e=> ?_
 ·cases e:H' b with
  | none=>rfl
  | some o=>
    rcases new b o e with z | ⟨z,_⟩
    ·rw[n] at z;cases z
    ·exact absurd (Nat.lt_of_lt_of_le (Heap.lt_size q) z) (Nat.lt_irrefl _)
 ·rcases new a o e with z | ⟨_,z⟩
  ·exact(I.hok a o z).stay (fun c v _ q=>k c v q) (fun c q=>sm _ _ q) fun c xs q=>sm _ _ q
  ·exact z
def mkH:List Addr->List (Key×V)->Hp->Hp
 | a::as,kv::kvs,H=>upd (mkH as kvs H) a (.tup [kV kv.1,kv.2])
 | _,_,H=>H
theorem Kv:∀{as:List Addr}{kvs:List (Key×V)}{H:Hp}{b:Addr},b∉as->mkH as kvs H b=H b
 |[],_,_,_,_=>by cases ‹List (Key×V)›<;>rfl
 | a::as,[],_,_,_=>rfl
 | a::as,kv::kvs,H,b,h=>by
   show upd (mkH as kvs H) a _ b=_
   rw[ao (fun z=>h (by simp[z]))]
   exact Kv fun z=>h (by simp[z])
theorem Ov:∀{as:List Addr}{kvs:List (Key×V)}{H:Hp}{j:Nat}{a:Addr}{kv:Key×V},as.Nodup->as[j]? =some a->kvs[j]? =some kv->mkH as kvs H a=some (.tup [kV kv.1,kv.2])
 |[],_,_,_,_,_,_,h,_=>by simp at h
 | a::as,[],_,_,_,_,_,_,h=>by simp at h
 | a::as,kv::kvs,H,0,b,kv',_,h1,h2=>by
   cases h1;cases h2
   exact ak
 | a::as,kv::kvs,H,j+1,b,kv',nd,h1,h2=>by
   rw[List.nodup_cons] at nd
   have hb:b∈as:=List.mem_of_getElem? (by simpa using h1)
   show upd (mkH as kvs H) a _ b=_
   rw[ao (fun z:b=a=>nd.1 (by rw[<-z];exact hb))]
   exact Ov nd.2 (by simpa using h1) (by simpa using h2)
theorem Kw:∀{as:List Addr}{kvs:List (Key×V)}{H:Hp}{b:Addr}{o:HO},as.Nodup->mkH as kvs H b=some o->(b∉as/\H b=some o)\/(∃(j:Nat) (kv:Key×V),as[j]? =some b/\kvs[j]? =some kv/\o= .tup [kV kv.1,kv.2])\/(H b=some o)
 |[],kvs,H,b,o,_,h=> .inl ⟨by simp,by cases kvs<;>exact h⟩
 | a::as,[],H,b,o,_,h=> .inr (.inr h)
 | a::as,kv::kvs,H,b,o,nd,h=>by
   rw[List.nodup_cons] at nd
   have h:upd (mkH as kvs H) a _ b=some o:=h
   by_cases z:b=a
   ·subst z
    rw[ak] at h;cases h
    exact .inr (.inl ⟨0,kv,rfl,rfl,rfl⟩)
   ·rw[ao z] at h
    rcases Kw nd.2 h with⟨h1,h2⟩ | ⟨j,kv',h1,h2,h3⟩ | h1
    ·exact .inl ⟨by simp[z,h1],h2⟩
    ·exact .inr (.inl ⟨j+1,kv',by simpa using h1,by simpa using h2,h3⟩)
    ·exact .inr (.inr h1)
def aaN (to:TE):TE:=fun σ H Q=>to σ H fun x H1=>∃a kvs,x= .ref a/\H1 a=some (.dK kvs)/\∀(l:Addr) (as:List Addr) (H':Hp),aN H1 H'->H1 l=none->H' l=some (.lst (as.map V.ref))->as.length=kvs.length->(∀(j:Nat) (b:Addr) (kv:Key×V),as[j]? =some b->kvs[j]? =some kv->H' b=some (.tup [kV kv.1,kv.2]))->Q (.ref l) H'
theorem Xx {X:Cx}{o:Expr}{to:TE}{p apos cpos pos:Pos} (hc:X.calm=true) (ho:PE X o to) (hg:Gl X "list") (hm:X.mg "list"=none) (hv:bootBuiltins "list"=some (.type "list"))
 (hbase:attributeBase o "items" X.env (eval o X.env)=eval o X.env:=by rfl) (hline:(apos.endLine==cpos.line)=true:=by rfl)
 (he:starEach [.Call (.Attribute o "items" apos) [] [] cpos] X.env=(false,eval (.Call (.Attribute o "items" apos) [] [] cpos) X.env)::starEach [] X.env:=by rfl) (hpl:(backTo pos (starEach [] X.env)).any (·.1)=false:=by rfl):
 PE X (.Call (.Name "list" p) [.Call (.Attribute o "items" apos) [] [] cpos] [] pos) (aaN to):=by
 intro pins s σ H Q I h
 refine wpAny_Call_Name_kw (yU I hg hm hv ?_ (by decide) (by decide))
 refine PyProof.Rows.callWith_type1 ?_ he hpl
 rw[he]
 show wpAny _ _ (spliced ((false,eval (.Call (.Attribute o "items" apos) [] [] cpos) X.env)::backTo pos (starEach [] X.env))) _ _ s
 refine Calls.spliced_cons ?_
 refine wpAny_Call_method0_late hbase hline (thn (ho pins s σ H _ I h) fun v s1 ⟨x,H1,I1,r1,a,kvs,ex,ha,q⟩=> ?_)
 subst ex
 obtain rfl:v=Value.ref a:=r1
 obtain⟨t1,t2,hlo⟩:=Nh I1 (.inl ⟨kvs, .inl ha⟩)
 refine⟨"dict","dict.items",PySem.F.plainAttrs_dict,PySem.F.slot_dict_items,PySem.F.type_dict_items,t1,t2,Calls.callWith_builtin rfl (PySem.evalArgs_none ?_)⟩
 obtain⟨hz,_,vs,hkv,hd⟩:=GF I1.hok ha
 obtain⟨ep,hat⟩:=hd.dictAt
 obtain⟨od,hod,hocls⟩:=id t1
 refine call_meetsIn PySem.F.slot_dict_items t1 PySem.F.entry_dict_items (PySem.F.args_dict_items_1 _) (Hw a od hlo hocls) ⟨hod, ?_⟩
 show wpAny (model X.prog X.w) X.A (spliced []) _ X.xe _
 refine Calls.spliced_nil ?_
 have hk1:∀b u,s1.heap.get? b=some u->(s1.heap.push {cls:= .type "dict_items",data:= .fields #[.ref a]}).get? b=some u:=fun b u e=>Heap.get?_push_of_some _ e
 have hsz:(s1.heap.push {cls:= .type "dict_items",data:= .fields #[.ref a]}).objs.size=s1.heap.objs.size+1:=by simp[Heap.push]
 obtain⟨_,_,vs',hkv',hd'⟩:=GF (I1.hok.kept hk1) ha
 obtain⟨ep',hat'⟩:=hd'.dictAt
 obtain⟨hvl,hvk⟩:=yq hkv'
 have hview:(s1.heap.push {cls:= .type "dict_items",data:= .fields #[.ref a]}).IsItemsView s1.heap.objs.size a:=⟨_,Heap.get?_push_size _ rfl,rfl,rfl⟩
 refine PySem.W.kdx_call (I1.ok.hd hc) hview hat' (by rw[<-hvl];exact hz) fun h' tk acc c as kp e hlen hG hacc=> ?_
 have hal:as.length=kvs.length:=hlen.trans hvl.symm
 have hnd:as.Nodup:=hG.rise.imp fun z=>Nat.ne_of_lt z
 have hlow:∀b∈as,s1.heap.objs.size+1<b:=fun b hb=>by rw[<-hsz];exact hG.above b hb
 have hfresh:∀{b:Addr}{o:HO},H1 b=some o->@LT.lt Nat _ b s1.heap.objs.size:=fun{b o} e=>I1.hok.lt e
 have hl:(s1.heap.push {cls:= .type "dict_items",data:= .fields #[.ref a]}).objs.size∉as:=fun z=>by have:=hlow _ z;rw[hsz] at this;exact absurd this (Nat.lt_irrefl _)
 have sm:aN H1 (upd (mkH as kvs H1) (s1.heap.push {cls:= .type "dict_items",data:= .fields #[.ref a]}).objs.size (.lst (as.map V.ref))):=fun b o eb=>by
  have h1:@LT.lt Nat _ b s1.heap.objs.size:=hfresh eb
  have n1:b∉as:=fun z=>absurd (Nat.lt_trans h1 (Nat.lt_of_succ_lt (hlow b z))) (Nat.lt_irrefl _)
  rw[ao (by rw[hsz];exact Nat.ne_of_lt (Nat.lt_succ_of_lt h1)),Kv n1];exact eb
 have hpairs:∀(j:Nat) (b:Addr) (kv:Key×V),as[j]? =some b->kvs[j]? =some kv->mkH as kvs H1 b=some (.tup [kV kv.1,kv.2]):=fun j b kv h1 h2=>Ov hnd h1 h2
 have hne:∀{b:Addr},b∈as->b≠(s1.heap.push {cls:= .type "dict_items",data:= .fields #[.ref a]}).objs.size:=fun hb z=>hl (z▸hb)
 refine⟨.ref _,_,I1.more (t':=tk) (fun b u eb=>kp b u (hk1 b u eb)) sm (fun b o eb=> ?_),rfl,q _ as _ sm (I1.hok.fresh (by rw[hsz];omega)) ak hal fun j b kv h1 h2=> ?_⟩
 ·by_cases z:b=(s1.heap.push {cls:= .type "dict_items",data:= .fields #[.ref a]}).objs.size
  ·subst z
   rw[ak] at eb;cases eb
   refine .inr ⟨by rw[hsz];omega,by rw[List.length_map,hal];exact hz,acc.toList,c, ?_,by simpa using e⟩
   rw[hacc]
   clear e hacc q sm hpairs hG hlow hnd hal hlen hl hne
   induction as with
   | nil=>exact .nil
   | cons x as ih=>exact .cons rfl ih
  ·rw[ao z] at eb
   rcases Kw hnd eb with⟨_,h2⟩ | ⟨j,kv,h1,h2,h3⟩ | h1
   ·exact .inl h2
   ·subst h3
    have hbm:=List.mem_of_getElem? h1
    have:=hlow b hbm
    obtain⟨key,k,x,e1,e2,e3⟩:=hG.pairs j b h1
    obtain⟨y,ey,ry⟩:=Oc hkv' j k x e1
    rw[h2] at ey
    cases ey
    exact .inr ⟨by omega,by show 2<=sizeLine;decide,[key,x], .cons (Ax e2) (.cons ry .nil),⟨_,e3,rfl,_,rfl⟩⟩
   ·exact .inl h1
 ·rw[ao (hne (List.mem_of_getElem? h1))]
  exact hpairs j b kv h1 h2
theorem Xy {X:Cx}{o:Expr}{to:TE}{p apos cpos pos:Pos} (hc:X.calm=true) (ho:QE X o to) (hg:Gl X "list") (hm:X.mg "list"=none)
 (hbase:attributeBase o "items" X.env (eval o X.env)=eval o X.env:=by rfl) (hline:(apos.endLine==cpos.line)=true:=by rfl)
 (he:starEach [.Call (.Attribute o "items" apos) [] [] cpos] X.env=(false,eval (.Call (.Attribute o "items" apos) [] [] cpos) X.env)::starEach [] X.env:=by rfl) (hpl:(backTo pos (starEach [] X.env)).any (·.1)=false:=by rfl):
 QE X (.Call (.Name "list" p) [.Call (.Attribute o "items" apos) [] [] cpos] [] pos) (aaN to):=⟨Xx hc ho.h hg hm yl hbase hline he hpl⟩
end L2
set_option maxRecDepth 100000
namespace RB
open PySem L2 PySem.Spec PyProof.Rows
theorem Ky {kn kn':Kn}{x y:Str} (e:look kn x= .inl y) (h:kn' y=none):look kn' x= .inl y:=by
 obtain⟨rfl,_⟩:=qt e
 unfold look
 rw[h]
theorem Ci {kn kn':Kn} (hk:Kn.Le kn kn'):∀{r:R}{x:Str},ev kn r= .inl x->kn' x=none->ev kn' r= .inl x
 | .num n,x,h,_=>by cases h
 | .rd y,x,h,hx=>Ky h hx
 | .bin op a b,x,h,hx=>by
   simp only[ev] at h ⊢
   cases ea:ev kn a with
   | inl y=>rw[ea] at h;cases h;rw[Ci hk ea hx]
   | inr u=>
     rw[ea] at h
     rw[mC hk ea]
     simp only at h ⊢
     cases eb:ev kn b with
     | inl y=>rw[eb] at h;cases h;rw[Ci hk eb hx]
     | inr v=>rw[eb] at h;cases h
 | .pick a b c,x,h,hx=>by
   simp only[ev] at h ⊢
   cases ea:ev kn a with
   | inl y=>rw[ea] at h;cases h;rw[Ci hk ea hx]
   | inr u=>
     rw[ea] at h
     rw[mC hk ea]
     simp only at h ⊢
     by_cases hu:u>0
     ·rw[if_pos hu] at h ⊢;exact Ci hk h hx
     ·rw[if_neg hu] at h ⊢;exact Ci hk h hx
 | .cho a ns,x,h,hx=>by
   simp only[ev] at h ⊢
   cases ea:ev kn a with
   | inl y=>rw[ea] at h;cases h;rw[Ci hk ea hx]
   | inr u=>
     rw[ea] at h
     rw[mC hk ea]
     simp only at h ⊢
     cases ep:tK ns u with
     | none=>rw[ep] at h;cases h
     | some y=>rw[ep] at h;exact Ky h hx
theorem FQ:∀{ps:List Rdp}{k kn:Kn},Kn.Le k kn->(∀p∈ps,kn p.1=some p.2)->Kn.Le (k.puts ps) kn
 |[],k,kn,h,_=>h
 | p::ps,k,kn,h,hp=>by
   refine FQ (ps:=ps) (k:=k.put p.1 p.2) (fun x v e=> ?_) fun q hq=>hp q (by simp[hq])
   unfold Kn.put at e
   by_cases z:x=p.1
   ·rw[if_pos z] at e;cases e;rw[z];exact hp p (by simp)
   ·rw[if_neg z] at e;exact h x v e
theorem Ow {kn:Kn}:Kn.Le kn0 kn:=fun x v e=>by cases e
theorem tL.ev {kn:Kn}{r:R}{x:Str} (h:tL kn r x) (hx:kn x=none):ev kn r= .inl x:=let ⟨ps,_,b,c⟩:=h;Ci (FQ Ow c.s) b hx
theorem Xz {kn:Kn}{r:R}{ps:List Rdp}{v:Int} (g:oH r kn0 ps v) (c:Rows kn ps):RB.ev kn r= .inr v:=mC (FQ Ow c.s) g.2
abbrev Ms:Type:=List Str×Kn×List Str
def mv (gv:Kn) (rc:Rn):Ms->Option Ms
 | ([],_,_)=>none
 | (x::p,kn,od)=>match kn x with
   | some _=>some (p,kn,od)
   | none=>match gv x with
     | some v=>some (x::p,kn.put x v,od)
     | none=>match rc x with
       | none=>none
       | some r=>match ev kn r with
         | .inl y=>some (y::x::p,kn,od)
         | .inr v=>some (x::p,kn.put x v,od++[x])
def itM (gv:Kn) (rc:Rn):Nat->Ms->Option Ms
 | 0,s=>some s
 | k+1,s=>match mv gv rc s with
   | none=>none
   | some t=>itM gv rc k t
def Mvs (gv:Kn) (rc:Rn) (s t:Ms):Prop:=∃k,itM gv rc k s=some t
section
variable {gv:Kn}{rc:Rn}
theorem XC {x:Str}{p od:List Str}{kn:Kn}{v:Int} (h2:kn x=none) (h:gv x=some v):mv gv rc (x::p,kn,od)=some (x::p,kn.put x v,od):=by unfold mv;simp only[h,h2]
theorem XD {x:Str}{p od:List Str}{kn:Kn} (h2:kn x≠none):mv gv rc (x::p,kn,od)=some (p,kn,od):=by
 unfold mv
 cases e:kn x with
 | none=>exact absurd e h2
 | some v=>simp only[e]
theorem RQ {x y:Str}{p od:List Str}{kn:Kn}{r:R} (h:gv x=none) (h2:kn x=none) (h3:rc x=some r) (h4:ev kn r= .inl y):mv gv rc (x::p,kn,od)=some (y::x::p,kn,od):=by unfold mv;simp only[h,h2,h3,h4]
theorem Ox {x:Str}{p od:List Str}{kn:Kn}{r:R}{v:Int} (h:gv x=none) (h2:kn x=none) (h3:rc x=some r) (h4:ev kn r= .inr v):mv gv rc (x::p,kn,od)=some (x::p,kn.put x v,od++[x]):=by unfold mv;simp only[h,h2,h3,h4]
theorem Mvs.refl (s:Ms):Mvs gv rc s s:=⟨0,rfl⟩
theorem Hx:∀{k:Nat}{s t u:Ms},itM gv rc k s=some t->mv gv rc t=some u->itM gv rc (k+1) s=some u
 | 0,s,t,u,h,h2=>by cases h;show(match mv gv rc s with | none=>none | some t=>itM gv rc 0 t)=some u;rw[h2];rfl
 | k+1,s,t,u,h,h2=>by
   unfold itM at h ⊢
   cases e:mv gv rc s with
   | none=>rw[e] at h;cases h
   | some w=>rw[e] at h;exact Hx (k:=k) h h2
theorem Mvs.snoc {s t u:Ms} (h:Mvs gv rc s t) (h2:mv gv rc t=some u):Mvs gv rc s u:=let ⟨k,e⟩:=h;⟨k+1,Hx e h2⟩
theorem Kz:∀{k:Nat}{l:Nat}{s t u:Ms},itM gv rc k s=some t->itM gv rc l t=some u->itM gv rc (k+l) s=some u
 | 0,l,s,t,u,h,h2=>by cases h;rw[Nat.zero_add];exact h2
 | k+1,l,s,t,u,h,h2=>by
   rw[Nat.add_right_comm]
   unfold itM at h ⊢
   cases e:mv gv rc s with
   | none=>rw[e] at h;cases h
   | some w=>rw[e] at h;exact Kz (k:=k) h h2
theorem Mvs.trans {s t u:Ms} (h:Mvs gv rc s t) (h2:Mvs gv rc t u):Mvs gv rc s u:=let ⟨k,e⟩:=h;let ⟨l,e2⟩:=h2;⟨k+l,Kz e e2⟩
theorem KC:∀{k l:Nat}{s t u:Ms},itM gv rc k s=some t->mv gv rc t=none->itM gv rc l s=some u->mv gv rc u=none->t=u
 | 0,0,s,t,u,h,_,h2,_=>by cases h;cases h2;rfl
 | 0,l+1,s,t,u,h,n,h2,_=>by
   cases h
   unfold itM at h2
   rw[n] at h2;cases h2
 | k+1,0,s,t,u,h,_,h2,n=>by
   cases h2
   unfold itM at h
   rw[n] at h;cases h
 | k+1,l+1,s,t,u,h,n,h2,n2=>by
   unfold itM at h h2
   cases e:mv gv rc s with
   | none=>rw[e] at h;cases h
   | some w=>rw[e] at h h2;exact KC h n h2 n2
theorem Mvs.det {s:Ms}{a b:Kn×List Str} (h:Mvs gv rc s ([],a)) (h2:Mvs gv rc s ([],b)):a=b:=by
 obtain⟨k,e⟩:=h
 obtain⟨l,e2⟩:=h2
 have:=KC e rfl e2 rfl
 cases this;rfl
end
def Runs (gv:Kn) (rc:Rn):List Str->Kn×List Str->Kn×List Str->Prop
 |[],a,b=>a=b
 | x::ws,a,b=>∃c,Mvs gv rc ([x],a) ([],c)/\Runs gv rc ws c b
theorem Runs.det {gv:Kn}{rc:Rn}:∀{ws:List Str}{a b c:Kn×List Str},Runs gv rc ws a b->Runs gv rc ws a c->b=c
 |[],a,b,c,h,h2=>by cases h;cases h2;rfl
 | x::ws,a,b,c,⟨d,h,g⟩,⟨d',h',g'⟩=>by
   have:=h.det h'
   cases this
   exact Runs.det g g'
theorem Runs.snoc {gv:Kn}{rc:Rn}:∀{ws:List Str}{x:Str}{a b c:Kn×List Str},Runs gv rc ws a b->Mvs gv rc ([x],b) ([],c)->Runs gv rc (ws++[x]) a c
 |[],x,a,b,c,h,h2=>by cases h;exact⟨c,h2,rfl⟩
 | y::ws,x,a,b,c,⟨d,h,g⟩,h2=>⟨d,h,Runs.snoc g h2⟩
def stk (is:List Nat):List Str:=is.reverse.map az
theorem vN (js:List Nat) (i:Nat):stk (js++[i])=az i::stk js:=by unfold stk;rw[List.reverse_append];rfl
end RB
set_option maxRecDepth 100000
namespace RB
open PySem L2 PySem.Spec PyProof.Rows
structure SrD where
 so:Addr
 dx:Addr
 g:Addr
 c:Addr
 o:Addr
 dxo:Addr
 rcd:Addr
 kd:Addr
 sd:Addr
 rd:Addr
def srF (g c o kd sd rd:Addr):List (Str×V):=[("given", .ref g),("recipes", .ref c),("old", .ref o),("known", .ref kd),("settled", .ref sd),("reckoned", .ref rd)]
structure SrC (K:PySem.W.Frag) (C:Addr):Prop where
 cl:Cls K C
 nG:iu K C "given"
 nR:iu K C "recipes"
 nO:iu K C "old"
 nK:iu K C "known"
 nS:iu K C "settled"
 nM:iu K C "reckoned"
theorem uD (g c o kd sd rd:Addr):List.lookup ("given":Str) (srF g c o kd sd rd)=some (.ref g):=rfl
theorem oK (g c o kd sd rd:Addr):List.lookup ("recipes":Str) (srF g c o kd sd rd)=some (.ref c):=rfl
theorem Cj (g c o kd sd rd:Addr):List.lookup ("old":Str) (srF g c o kd sd rd)=some (.ref o):=rfl
theorem uE (g c o kd sd rd:Addr):List.lookup ("known":Str) (srF g c o kd sd rd)=some (.ref kd):=rfl
theorem oM (g c o kd sd rd:Addr):List.lookup ("settled":Str) (srF g c o kd sd rd)=some (.ref sd):=rfl
theorem mD (g c o kd sd rd:Addr):List.lookup ("reckoned":Str) (srF g c o kd sd rd)=some (.ref rd):=rfl
theorem fU (g c o kd sd rd:Addr):List.lookup ("begin":Str) (srF g c o kd sd rd)=none/\List.lookup ("end":Str) (srF g c o kd sd rd)=none/\List.lookup ("made":Str) (srF g c o kd sd rd)=none/\List.lookup ("kept":Str) (srF g c o kd sd rd)=none/\List.lookup ("settle":Str) (srF g c o kd sd rd)=none:=⟨rfl,rfl,rfl,rfl,rfl⟩
theorem zm (rcd:Addr):List.lookup ("records_for":Str) (nrF rcd)=none/\List.lookup ("put_made":Str) (nrF rcd)=none:=⟨rfl,rfl⟩
def Mu (H:Hp) (z:Addr):Prop:=∃o,H z=some o/\∀xs,o≠ .tup xs
def aaO:Option HO->Option HO->Option HO
 | some (.tup xs),_=>some (.tup xs)
 | _,d=>d
def grow (Hf H H1:Hp):Hp:=fun a=>if H a=none then H1 a else aaO (H1 a) (Hf a)
theorem RT {Hf H H1:Hp} (s0:aN Hf H) (s1:aN H H1):aN Hf (grow Hf H H1):=fun a o e=>by
 have h0:=s0 _ _ e
 have h1:=s1 _ _ h0
 unfold grow
 rw[if_neg (by rw[h0];simp),h1]
 cases o<;>first | exact e | rfl
theorem RV {Hf H H1:Hp} (s0:aN Hf H) (s1:aN H H1):aN (grow Hf H H1) H1:=fun a o e=>by
 unfold grow at e
 split at e
 ·exact e
 ·cases h1:H1 a with
  | none=>
    rw[h1] at e
    have e:Hf a=some o:=e
    have:=s1 _ _ (s0 _ _ e)
    rw[h1] at this;cases this
  | some u=>
    rw[h1] at e
    cases u with
    | tup xs=>exact e
    | _=>
      have e:Hf a=some o:=e
      have:=s1 _ _ (s0 _ _ e)
      rw[h1] at this;exact this
theorem LQ {Hf H H1:Hp}:mR H1 (grow Hf H H1):=fun a xs e=>by
 unfold grow
 split
 ·exact e
 ·rw[e];rfl
theorem Oz {Hf H H1:Hp}{a:Addr} (h:H a=none):grow Hf H H1 a=H1 a:=by unfold grow;rw[if_pos h]
theorem Az {Hf H H1:Hp} (s1:aN H H1) {z:Addr} (m:Mu H z) (hz:Hf z=none):grow Hf H H1 z=none:=by
 obtain⟨o,e,n⟩:=m
 have h1:=s1 _ _ e
 unfold grow
 rw[if_neg (by rw[e];simp),h1]
 cases o with
 | tup xs=>exact absurd rfl (n xs)
 | _=>exact hz
structure SrH (CSe CN:Addr) (D:SrD) (n:Nat) (gv:Kn) (rc:Rn) (kg kc kr:List (Key×V)) (rm:Rm) (Hf:Hp):Prop where
 e:Hf D.so=some (.ins CSe D.dx (srF D.g D.c D.o D.kd D.sd D.rd))
 eg:Hf D.g=some (.dK kg)
 ec:Hf D.c=some (.dK kc)
 bd:Bld Hf kg kc n gv rc
 eo:Hf D.o=some (.ins CN D.dxo (nrF D.rcd))
 er:Hf D.rcd=some (.dK kr)
 rD:oJ Hf kr n rm
 n17:n<=17
 ne:D.kd≠D.sd/\D.kd≠D.rd/\D.sd≠D.rd
theorem SrH.same {CSe CN:Addr}{D:SrD}{n:Nat}{gv:Kn}{rc:Rn}{kg kc kr:List (Key×V)}{rm:Rm}{Hf H:Hp} (h:SrH CSe CN D n gv rc kg kc kr rm Hf) (s:aN Hf H):SrH CSe CN D n gv rc kg kc kr rm H:=
 ⟨s _ _ h.e,s _ _ h.eg,s _ _ h.ec,h.bd.tups (aN.tups s),s _ _ h.eo,s _ _ h.er,h.rD.map fun _ _ z=>z.same s,h.n17,h.ne⟩
structure qu (D:SrD) (n:Nat) (gv:Kn) (rc:Rn) (rm:Rm) (kn:Kn) (rmN:Rm) (rkn:Str->Bool) (od:List Str) (Hf H:Hp):Prop where
 sm:aN Hf H
 fk:Hf D.kd=none
 fs:Hf D.sd=none
 fr:Hf D.rd=none
 ek:∃kw ws,H D.kd=some (.dK kw)/\gH kw ws/\∀x,cG kw (.inr x)=(kn x).map V.int
 es:∃ks,H D.sd=some (.dK ks)/\oJ Hf ks n rmN/\gH ks od
 er:∃kk rs,H D.rd=some (.dK kk)/\gH kk rs/\(∀x,cG kk (.inr x)=if rkn x=true then some (.bl true) else none)/\∀x,rkn x=true->rmN x≠none
 ok:Ds n gv rc kn rmN
 md:∀x r ps v,rmN x=some (r,ps,v)->Rcd rm x r kn ps v (rkn x)
theorem Rcd.le {rm:Rm}{y:Str}{r:R}{kn kn':Kn}{ps:List Rdp}{v:Int}{m:Bool} (h:Rcd rm y r kn ps v m) (l:Kn.Le kn kn'):Rcd rm y r kn' ps v m:=by
 obtain⟨h1,h2,h3⟩:=h
 refine⟨h1,h2.le l, ?_⟩
 cases m with
 | true=>rw[if_pos rfl] at h3 ⊢;exact h3.le l
 | false=>exact h3
theorem qu.kl {D:SrD}{n:Nat}{gv:Kn}{rc:Rn}{rm:Rm}{kn:Kn}{rmN:Rm}{rkn:Str->Bool}{od:List Str}{Hf H:Hp} (h:qu D n gv rc rm kn rmN rkn od Hf H) {kw:List (Key×V)}{ws:List Str} (k:gH kw ws) (hk:∀x,cG kw (.inr x)=(kn x).map V.int):kw.length<=n:=by
 rw[k.len,<-jH n]
 refine jj k.nd fun x hx=> ?_
 cases e:kn x with
 | none=>exact absurd hx (k.none.mp (by rw[hk,e];rfl))
 | some v=>exact(h.ok.a x v e).1
inductive Rch (gv:Kn) (rc:Rn) (kn:Kn) (x:Str):Str->Prop where
 | refl:Rch gv rc kn x x
 | step {y z:Str}{r:R} (h:Rch gv rc kn x y) (hg:gv y=none) (hr:rc y=some r) (hs:tL kn r z):Rch gv rc kn x z
theorem tL.le {kn kn':Kn}{r:R}{x:Str} (h:tL kn r x) (l:Kn.Le kn kn'):tL kn' r x:=let ⟨ps,a,b,c⟩:=h;⟨ps,a,b,c.le l⟩
theorem Rch.le {gv:Kn}{rc:Rn}{kn kn':Kn}{x y:Str} (h:Rch gv rc kn x y) (l:Kn.Le kn kn'):Rch gv rc kn' x y:=by
 induction h with
 | refl=>exact .refl
 | step _ hg hr hs ih=>exact .step ih hg hr (hs.le l)
def Hy (CSe:Addr):Sp:=fun vs H Q _=>∃(a dx h g c o:Addr),vs=[.ref a, .ref h, .ref o]/\H a=some (.ins CSe dx [])/\H h=some (.tup [.ref g, .ref c])/\
 ∀kd sd rd H',But [a] H H'->H' a=some (.ins CSe dx (srF g c o kd sd rd))->H kd=none->H sd=none->H rd=none->kd≠sd->kd≠rd->sd≠rd->H' kd=some (.dK [])->H' sd=some (.dK [])->H' rd=some (.dK [])->Q .non H'
def KD (CSe CN CS CR:Addr):Sp:=fun vs H Q _=>∃(D:SrD) (n:Nat) (gv:Kn) (rc:Rn) (kg kc kr:List (Key×V)) (rm:Rm) (y:Str) (r:R),vs=[.ref D.so, .str y]/\SrH CSe CN D n gv rc kg kc kr rm H/\rc y=some r/\
 ∀(A:SeD) H',aN H H'->(∀z∈A.ft,H z=none)->(∀kn,rW CS CR kr rm y r kn A H')->Q (.ref A.s) H'
def OD (CSe CN CS CR:Addr):Sp:=fun vs H Q _=>∃(D:SrD) (n:Nat) (gv:Kn) (rc:Rn) (kg kc kr:List (Key×V)) (rm:Rm) (kn:Kn) (rmN:Rm) (rkn:Str->Bool) (od:List Str) (Hf:Hp) (A:SeD) (y:Str) (r:R),vs=[.ref D.so, .str y, .ref A.s]/\SrH CSe CN D n gv rc kg kc kr rm Hf/\qu D n gv rc rm kn rmN rkn od Hf H/\
 H A.s=some (.ins CS A.dx (seF A.b A.fl A.k A.rk))/\IsR H A.b r/\Ot H CR kr rm y r kn A/\kn y=none/\gv y=none/\rc y=some r/\y∈nmK n/\(∀z∈A.ft,z∉[D.kd,D.sd,D.rd])/\
 ∀(v:Int) (ps:List Rdp) (made:Bool) (Hf' H':Hp),But [D.kd,D.sd,D.rd] H H'->aN Hf Hf'->(∀z,Mu H z->Hf z=none->Hf' z=none)->qu D n gv rc rm (kn.put y v) (rmN.put y (r,ps,v)) (fun x=>if x=y then made else rkn x) (od++[y]) Hf' H'->ev kn r= .inr v->Q .non H'
def Hz (CSe CN:Addr):Sp:=fun vs H Q _=>∃(D:SrD) (n:Nat) (gv:Kn) (rc:Rn) (kg kc kr:List (Key×V)) (rm:Rm) (kn:Kn) (rmN:Rm) (rkn:Str->Bool) (od:List Str) (Hf:Hp) (x:Str),vs=[.ref D.so, .str x]/\SrH CSe CN D n gv rc kg kc kr rm Hf/\qu D n gv rc rm kn rmN rkn od Hf H/\x∈nmK n/\
 ∀(kn':Kn) (HB:Rm) (rkn':Str->Bool) (od':List Str) (Hf' H':Hp),But [D.kd,D.sd,D.rd] H H'->aN Hf Hf'->(∀z,Mu H z->Hf z=none->Hf' z=none)->qu D n gv rc rm kn' HB rkn' od' Hf' H'->Mvs gv rc ([x],kn,od) ([],kn',od')->Kn.Le kn kn'->kn' x≠none->(∀y,kn' y≠none->kn y≠none\/Rch gv rc kn' x y)->Q .non H'
def JD (kn:Kn) (n:Nat):Nat:=((List.range n).filter fun i=>(kn (az i)).isNone).length
theorem Er {p p':Nat->Bool}:∀{l:List Nat},(∀j∈l,p' j=true->p j=true)->∀{i:Nat},i∈l->p i=true->p' i=false->(l.filter p').length+1<=(l.filter p).length
 |[],_,i,hi,_,_=>by cases hi
 | a::l,h,i,hi,h1,h2=>by
   have hle:∀l:List Nat,(∀j∈l,p' j=true->p j=true)->(l.filter p').length<=(l.filter p).length:=by
    intro l
    induction l with
    | nil=>intro _;exact Nat.le_refl _
    | cons b l ih=>
      intro h
      have ih:=ih fun j hj=>h j (by simp[hj])
      rw[List.filter_cons,List.filter_cons]
      by_cases hb:p' b=true
      ·rw[if_pos hb,if_pos (h b (by simp) hb)];simp;exact ih
      ·rw[if_neg hb]
       split
       ·simp;omega
       ·exact ih
   rcases List.mem_cons.mp hi with z | z
   ·subst z
    rw[List.filter_cons,List.filter_cons,if_neg (by rw[h2];decide),if_pos h1]
    have:=hle l fun j hj=>h j (by simp[hj])
    simp;exact this
   ·have ih:=Er (l:=l) (fun j hj=>h j (by simp[hj])) z h1 h2
    rw[List.filter_cons,List.filter_cons]
    by_cases hb:p' a=true
    ·rw[if_pos hb,if_pos (h a (by simp) hb)];simp;exact ih
    ·rw[if_neg hb]
     split
     ·simp;omega
     ·exact ih
theorem Ck {kn:Kn}{n i:Nat}{v:Int} (hi:i<n) (h:kn (az i)=none):JD (kn.put (az i) v) n+1<=JD kn n:=by
 refine Er (fun j _ hj=> ?_) (List.mem_range.mpr hi) (by simp only[h];rfl) ?_
 ·unfold Kn.put at hj
  by_cases z:az j=az i
  ·rw[if_pos z] at hj;cases hj
  ·rw[if_neg z] at hj;exact hj
 ·unfold Kn.put;rw[if_pos rfl];rfl
end RB
set_option maxRecDepth 100000
namespace RB
open PySem L2 PySem.Spec PyProof.Rows
theorem HD {S:List Addr}{H H':Hp} (b:But S H H') (m:∀z∈S,Mu H z):mR H H':=fun p xs e=>b p _ (fun w=>by
 obtain⟨o,h1,h2⟩:=m p w
 rw[e] at h1;cases h1;exact h2 _ rfl) e
theorem Mu.but {S:List Addr}{H H':Hp}{z:Addr} (m:Mu H z) (b:But S H H') (hz:z∉S):Mu H' z:=let ⟨o,h1,h2⟩:=m;⟨o,b _ _ hz h1,h2⟩
theorem Mu.some {H:Hp}{z:Addr} (m:Mu H z):H z≠none:=let ⟨o,h1,_⟩:=m;by rw[h1];simp
theorem qu.but {D:SrD}{n:Nat}{gv:Kn}{rc:Rn}{rm:Rm}{kn:Kn}{rmN:Rm}{rkn:Str->Bool}{od:List Str}{Hf H H':Hp}{S:List Addr} (h:qu D n gv rc rm kn rmN rkn od Hf H) (b:But S H H') (hf:∀z∈S,Hf z=none) (hk:D.kd∉S) (hs:D.sd∉S) (hr:D.rd∉S):qu D n gv rc rm kn rmN rkn od Hf H':=by
 obtain⟨sm,fk,fs,fr,⟨kw,ws,e1,r1⟩,⟨ks,e2,r2⟩,⟨kk,rs,e3,r3⟩,ok,md⟩:=h
 exact⟨fun z o e=>b z o (fun w=>by rw[hf z w] at e;cases e) (sm z o e),fk,fs,fr,⟨kw,ws,b _ _ hk e1,r1⟩,⟨ks,b _ _ hs e2,r2⟩,⟨kk,rs,b _ _ hr e3,r3⟩,ok,md⟩
theorem qu.same {D:SrD}{n:Nat}{gv:Kn}{rc:Rn}{rm:Rm}{kn:Kn}{rmN:Rm}{rkn:Str->Bool}{od:List Str}{Hf H H':Hp} (h:qu D n gv rc rm kn rmN rkn od Hf H) (s:aN H H'):qu D n gv rc rm kn rmN rkn od Hf H':=h.but (S:=[]) (But.of_same s) (by simp) (by simp) (by simp) (by simp)
structure BgI (CS CR:Addr) (D:SrD) (pth bgd:Addr) (n:Nat) (gv:Kn) (rc:Rn) (kr:List (Key×V)) (rm:Rm) (kn:Kn) (bg:Str->Option SeD) (Hf H:Hp):Prop where
 e:∃kb ks,H bgd=some (.dK kb)/\gH kb ks/\∀y,cG kb (.inr y)=(bg y).map fun A=>V.ref A.s
 nm:∀y,bg y≠none->y∈nmK n
 ok:∀y A,bg y=some A->kn y=none->∃r,rc y=some r/\gv y=none/\rW CS CR kr rm y r kn A H
 al:∀y A,bg y=some A->∀z∈A.ft,Mu H z/\Hf z=none/\z∉[pth,bgd,D.kd,D.sd,D.rd]
 dj:∀y y' A A',y≠y'->bg y=some A->bg y'=some A'->∀z∈A.ft,z∉A'.ft
section
variable {CS CR:Addr}{D:SrD}{pth bgd:Addr}{n:Nat}{gv:Kn}{rc:Rn}{kr:List (Key×V)}{rm:Rm}{kn kn':Kn}{bg:Str->Option SeD}{Hf Hf' H H':Hp}
theorem BgI.but {S:List Addr} (h:BgI CS CR D pth bgd n gv rc kr rm kn bg Hf H) (b:But S H H') (t:mR H H') (hb:bgd∉S) (hS:∀y A,bg y=some A->∀z∈A.ft,z∉S):BgI CS CR D pth bgd n gv rc kr rm kn bg Hf H':=by
 obtain⟨⟨kb,ks,e1,e2,e3⟩,nm,ok,al,dj⟩:=h
 exact⟨⟨kb,ks,b _ _ hb e1,e2,e3⟩,nm,fun y A h1 h2=>let ⟨r,a1,a2,a3⟩:=ok y A h1 h2;⟨r,a1,a2,a3.move b t (hS y A h1)⟩,fun y A h1 z hz=>⟨(al y A h1 z hz).1.but b (hS y A h1 z hz),(al y A h1 z hz).2⟩,dj⟩
theorem BgI.same (h:BgI CS CR D pth bgd n gv rc kr rm kn bg Hf H) (s:aN H H'):BgI CS CR D pth bgd n gv rc kr rm kn bg Hf H':=h.but (S:=[]) (But.of_same s) (aN.tups s) (by simp) (by simp)
theorem BgI.off {S:List Addr} (h:BgI CS CR D pth bgd n gv rc kr rm kn bg Hf H) (b:But S H H') (m:∀z∈S,Mu H z) (hS:∀z∈S,z∈[pth,D.kd,D.sd,D.rd]) (hb:bgd∉S):BgI CS CR D pth bgd n gv rc kr rm kn bg Hf H':=
 h.but b (HD b m) hb fun y A h1 z hz w=>(h.al y A h1 z hz).2.2 (by
   have:=hS z w
   simp only[List.mem_cons,List.not_mem_nil,or_false] at this ⊢
   rcases this with q | q | q | q
   ·exact .inl q
   ·exact .inr (.inr (.inl q))
   ·exact .inr (.inr (.inr (.inl q)))
   ·exact .inr (.inr (.inr (.inr q))))
theorem BgI.le (h:BgI CS CR D pth bgd n gv rc kr rm kn bg Hf H) (l:Kn.Le kn kn'):BgI CS CR D pth bgd n gv rc kr rm kn' bg Hf H:=
 ⟨h.e,h.nm,fun y A h1 h2=>by
   have h0:kn y=none:=by
    cases z:kn y with
    | none=>rfl
    | some v=>rw[l y v z] at h2;cases h2
   obtain⟨r,a1,a2,a3⟩:=h.ok y A h1 h0
   exact⟨r,a1,a2,a3.le l⟩,h.al,h.dj⟩
theorem BgI.hf (h:BgI CS CR D pth bgd n gv rc kr rm kn bg Hf H) (f:∀z,Mu H z->Hf z=none->Hf' z=none):BgI CS CR D pth bgd n gv rc kr rm kn bg Hf' H:=
 ⟨h.e,h.nm,h.ok,fun y A h1 z hz=>let ⟨a,b,c⟩:=h.al y A h1 z hz;⟨a,f z a b,c⟩,h.dj⟩
theorem rW.mu {y:Str}{r:R}{A:SeD} (h:rW CS CR kr rm y r kn A H):∀z∈A.ft,Mu H z:=fun z hz=>by
 obtain⟨c,rc',_⟩:=h.c
 have hz:z=A.s\/z=A.fl\/z=A.rk\/z=A.a1\/z=A.a2\/z=A.a3:=by simpa [SeD.ft] using hz
 rcases hz with rfl | rfl | rfl | rfl | rfl | rfl
 ·exact⟨_,h.e,by simp⟩
 ·rcases h.f with⟨rb,ps,v,w1,_⟩ | ⟨w1,_⟩
  ·exact⟨_,w1,by simp⟩
  ·exact⟨_,w1,by simp⟩
 ·exact⟨_,rc'.e,by simp⟩
 ·obtain⟨ws,w1,_⟩:=rc'.e1
  exact⟨_,w1,by simp⟩
 ·exact⟨_,rc'.e2,by simp⟩
 ·exact⟨_,rc'.e3,by simp⟩
def jO (bg:Str->Option SeD) (y:Str) (A:SeD):Str->Option SeD:=fun x=>if x=y then some A else bg x
theorem BgI.new {H1:Hp}{y:Str}{r:R}{A:SeD}{kb:List (Key×V)} (h:BgI CS CR D pth bgd n gv rc kr rm kn bg Hf H) (s:aN H H1) (hA:∀z∈A.ft,H z=none) (so:rW CS CR kr rm y r kn A H1) (hr:rc y=some r) (hg:gv y=none) (hy:y∈nmK n) (hb:bg y=none)
 (ebd:H bgd=some (.dK kb)) (sf:aN Hf H) (al:∀z∈[pth,bgd,D.kd,D.sd,D.rd],H z≠none):BgI CS CR D pth bgd n gv rc kr rm kn (jO bg y A) Hf (upd H1 bgd (.dK (putK kb (.inr y) (.ref A.s)))):=by
 have h1:=h.same s
 have eb1:=s _ _ ebd
 have b1:But [bgd] H1 (upd H1 bgd (.dK (putK kb (.inr y) (.ref A.s)))):=But.set _ (by simp)
 have t1:mR H1 (upd H1 bgd (.dK (putK kb (.inr y) (.ref A.s)))):=RC eb1
 have nA:∀z∈A.ft,z∉[pth,bgd,D.kd,D.sd,D.rd]:=fun z hz w=>al z w (hA z hz)
 have nb:∀z∈A.ft,z∉[bgd]:=fun z hz w=>nA z hz (by simp at w ⊢;exact .inr (.inl w))
 obtain⟨⟨kb',ks,e1,e2,e3⟩,nm,ok,al1,dj⟩:=h1
 rw[eb1] at e1;cases e1
 have hyk:y∉ks:=e2.none.mp (by rw[e3,hb];rfl)
 refine⟨⟨_,_,ak,e2.rR hyk _,fun x=> ?_⟩,fun x hx=> ?_,fun x B h1 h2=> ?_,fun x B h1 z hz=> ?_,fun x x' B B' hne h1 h2 z hz=> ?_⟩
 ·rw[lq]
  unfold jO
  by_cases z:x=y
  ·rw[if_pos (by rw[z]),if_pos z];rfl
  ·rw[if_neg (BV z),if_neg z];exact e3 x
 ·unfold jO at hx
  by_cases z:x=y
  ·rw[z];exact hy
  ·rw[if_neg z] at hx;exact nm x hx
 ·unfold jO at h1
  by_cases z:x=y
  ·rw[if_pos z] at h1;cases h1
   rw[z];exact⟨r,hr,hg,so.move b1 t1 nb⟩
  ·rw[if_neg z] at h1
   obtain⟨r',a1,a2,a3⟩:=ok x B h1 h2
   exact⟨r',a1,a2,a3.move b1 t1 fun w hw q=>(al1 x B h1 w hw).2.2 (by simp at q ⊢;exact .inr (.inl q))⟩
 ·unfold jO at h1
  by_cases w:x=y
  ·rw[if_pos w] at h1;cases h1
   refine⟨(so.mu z hz).but b1 (nb z hz), ?_,nA z hz⟩
   cases q:Hf z with
   | none=>rfl
   | some o=>have:=sf _ _ q;rw[hA z hz] at this;cases this
  ·rw[if_neg w] at h1
   obtain⟨a1,a2,a3⟩:=al1 x B h1 z hz
   exact⟨a1.but b1 (fun q=>a3 (by simp at q ⊢;exact .inr (.inl q))),a2,a3⟩
 ·unfold jO at h1 h2
  by_cases w:x=y
  ·rw[if_pos w] at h1;cases h1
   rw[if_neg (fun q=>hne (w.trans q.symm))] at h2
   exact fun q=>((h.al x' B' h2 z q).1.some) (hA z hz)
  ·rw[if_neg w] at h1
   by_cases w':x'=y
   ·rw[if_pos w'] at h2;cases h2
    exact fun q=>((h.al x B h1 z hz).1.some) (hA z q)
   ·rw[if_neg w'] at h2
    exact dj x x' B B' hne h1 h2 z hz
theorem BgI.set {y:Str}{r:R}{A A':SeD} (h:BgI CS CR D pth bgd n gv rc kr rm kn bg Hf H) (hy:bg y=some A) (b:But A.ft H H') (so:rW CS CR kr rm y r kn A' H') (hr:rc y=some r) (hg:gv y=none)
 (es:A'.s=A.s) (erk:A'.rk=A.rk) (e1:A'.a1=A.a1) (e2:A'.a2=A.a2) (e3:A'.a3=A.a3) (efl:A'.fl=A.fl\/H A'.fl=none) (sf:aN Hf H) (al:∀z∈[pth,bgd,D.kd,D.sd,D.rd],H z≠none):BgI CS CR D pth bgd n gv rc kr rm kn (jO bg y A') Hf H':=by
 have hin:∀z∈A'.ft,z∈A.ft\/H z=none:=fun z hz=>by
  have hz:z=A'.s\/z=A'.fl\/z=A'.rk\/z=A'.a1\/z=A'.a2\/z=A'.a3:=by simpa [SeD.ft] using hz
  rcases hz with w | w | w | w | w | w
  ·exact .inl (by rw[w,es];simp[SeD.ft])
  ·rcases efl with q | q
   ·exact .inl (by rw[w,q];simp[SeD.ft])
   ·exact .inr (by rw[w];exact q)
  ·exact .inl (by rw[w,erk];simp[SeD.ft])
  ·exact .inl (by rw[w,e1];simp[SeD.ft])
  ·exact .inl (by rw[w,e2];simp[SeD.ft])
  ·exact .inl (by rw[w,e3];simp[SeD.ft])
 have mA:∀z∈A.ft,Mu H z:=fun z hz=>(h.al y A hy z hz).1
 have t:=HD b mA
 have nbg:bgd∉A.ft:=fun z=>(h.al y A hy _ z).2.2 (by simp)
 obtain⟨⟨kb,ks,f1,f2,f3⟩,nm,ok,al1,dj⟩:=h
 refine⟨⟨kb,ks,b _ _ nbg f1,f2,fun x=> ?_⟩,fun x hx=> ?_,fun x B h1 h2=> ?_,fun x B h1 z hz=> ?_,fun x x' B B' hne h1 h2 z hz=> ?_⟩
 ·rw[f3]
  unfold jO
  by_cases z:x=y
  ·rw[if_pos z,z,hy];show some (V.ref A.s)=some (V.ref A'.s);rw[es]
  ·rw[if_neg z]
 ·unfold jO at hx
  by_cases z:x=y
  ·rw[z];exact nm y (by rw[hy];simp)
  ·rw[if_neg z] at hx;exact nm x hx
 ·unfold jO at h1
  by_cases z:x=y
  ·rw[if_pos z] at h1;cases h1
   rw[z];exact⟨r,hr,hg,so⟩
  ·rw[if_neg z] at h1
   obtain⟨r',a1,a2,a3⟩:=ok x B h1 h2
   exact⟨r',a1,a2,a3.move b t fun w hw=>dj x y B A z h1 hy w hw⟩
 ·unfold jO at h1
  by_cases w:x=y
  ·rw[if_pos w] at h1;cases h1
   refine⟨so.mu z hz, ?_, ?_⟩
   ·rcases hin z hz with q | q
    ·exact(al1 y A hy z q).2.1
    ·cases q':Hf z with
     | none=>rfl
     | some o=>have:=sf _ _ q';rw[q] at this;cases this
   ·rcases hin z hz with q | q
    ·exact(al1 y A hy z q).2.2
    ·exact fun w'=>al z w' q
  ·rw[if_neg w] at h1
   obtain⟨a1,a2,a3⟩:=al1 x B h1 z hz
   exact⟨a1.but b (dj x y B A w h1 hy z hz),a2,a3⟩
 ·unfold jO at h1 h2
  by_cases w:x=y
  ·rw[if_pos w] at h1;cases h1
   rw[if_neg (fun q=>hne (w.trans q.symm))] at h2
   rcases hin z hz with q | q
   ·exact dj y x' A B' (fun e=>hne (w.trans e)) hy h2 z q
   ·exact fun w'=>((al1 x' B' h2 z w').1.some) q
  ·rw[if_neg w] at h1
   by_cases w':x'=y
   ·rw[if_pos w'] at h2;cases h2
    intro q
    rcases hin z q with q' | q'
    ·exact dj x y B A w h1 hy z hz q'
    ·exact((al1 x B h1 z hz).1.some) q'
   ·rw[if_neg w'] at h2
    exact dj x x' B B' hne h1 h2 z hz
end
end RB
set_option maxRecDepth 100000
namespace RB
open PySem L2 PySem.Spec PyProof.Rows
theorem KH:∀{is:List Nat}{n:Nat},is.Pairwise (fun a b=>b<a)->(∀i∈is,i<n)->is.length<=n
 |[],n,_,_=>Nat.zero_le _
 | a::l,n,h,hl=>by
   rw[List.pairwise_cons] at h
   have:=KH (is:=l) (n:=a) h.2 h.1
   have:=hl a (by simp)
   simp;omega
theorem tL.in {kn:Kn}{r:R}{x:Str}{ns:List Str} (h:tL kn r x) (hi:r.In ns):x∈ns:=by
 obtain⟨ps,_,e,_⟩:=h
 exact zX hi e
def zZ (n:Nat) (kn:Kn) (is:List Nat):Nat:=match is.getLast? with
 | none=>0
 | some i=>if(kn (az i)).isNone=true then 60 * JD kn n+20 - is.length else 60 * JD kn n+30
theorem mF {n:Nat}{kn:Kn}{js:List Nat}{i:Nat} (h:kn (az i)=none):zZ n kn (js++[i])=60 * JD kn n+20 - (js.length+1):=by
 unfold zZ
 rw[List.getLast?_concat]
 simp only[h]
 rw[List.length_append];rfl
theorem vO {n:Nat}{kn:Kn}{js:List Nat}{i:Nat} (h:kn (az i)≠none):zZ n kn (js++[i])=60 * JD kn n+30:=by
 unfold zZ
 rw[List.getLast?_concat]
 simp only
 rw[if_neg]
 intro z
 exact h (Option.isNone_iff_eq_none.mp z)
structure LpI (CSe CN CS CR:Addr) (D:SrD) (pth bgd:Addr) (n:Nat) (gv:Kn) (rc:Rn) (kg kc kr:List (Key×V)) (rm:Rm) (knI:Kn) (odI:List Str) (HfI HI:Hp) (x:Str) (k0:Nat) (is:List Nat) (kn:Kn) (rmN:Rm) (rkn:Str->Bool) (od:List Str) (bg:Str->Option SeD) (Hf H:Hp):Prop where
 b:But [D.kd,D.sd,D.rd] HI H
 sf:aN HfI Hf
 fm:∀z,Mu HI z->HfI z=none->Hf z=none
 sh:SrH CSe CN D n gv rc kg kc kr rm Hf
 so:qu D n gv rc rm kn rmN rkn od Hf H
 ep:H pth=some (.lst (is.map fun i=>V.str (az i)))
 fp:Hf pth=none
 fb:Hf bgd=none
 ip:HI pth=none
 ib:HI bgd=none
 np:pth∉[D.kd,D.sd,D.rd]
 nb:bgd∉[D.kd,D.sd,D.rd]
 nn:pth≠bgd
 dec:is.Pairwise (fun a b=>b<a)
 lt:∀i∈is,i<n
 un:∀i∈is.dropLast,kn (az i)=none
 rch:∀i∈is,Rch gv rc kn x (az i)
 le:Kn.Le knI kn
 new:∀y,kn y≠none->knI y≠none\/Rch gv rc kn x y
 bgi:BgI CS CR D pth bgd n gv rc kr rm kn bg Hf H
 hd:is.head?=some k0\/(is=[]/\kn x≠none)
 fr:∀y A,bg y=some A->∀z∈A.ft,HI z=none
 mv:Mvs gv rc ([x],knI,odI) (stk is,kn,od)
section
variable {CSe CN CS CR:Addr}{D:SrD}{pth bgd:Addr}{n:Nat}{gv:Kn}{rc:Rn}{kg kc kr:List (Key×V)}{rm:Rm}{knI:Kn}{odI od:List Str}{HfI HI:Hp}{x:Str}{k0:Nat}{is js:List Nat}{i:Nat}{kn:Kn}{rmN:Rm}{rkn:Str->Bool}{bg:Str->Option SeD}{Hf H H':Hp}
theorem LpI.len (h:LpI CSe CN CS CR D pth bgd n gv rc kg kc kr rm knI odI HfI HI x k0 is kn rmN rkn od bg Hf H):is.length<=17:=Nat.le_trans (KH h.dec h.lt) h.sh.n17
theorem LpI.al (h:LpI CSe CN CS CR D pth bgd n gv rc kg kc kr rm knI odI HfI HI x k0 is kn rmN rkn od bg Hf H):∀z∈[pth,bgd,D.kd,D.sd,D.rd],Mu H z:=fun z hz=>by
 obtain⟨kb,ks,e1,_⟩:=h.bgi.e
 obtain⟨kw,ws,e2,_⟩:=h.so.ek
 obtain⟨ks',e3,_⟩:=h.so.es
 obtain⟨kk,rs,e4,_⟩:=h.so.er
 have hz:z=pth\/z=bgd\/z=D.kd\/z=D.sd\/z=D.rd:=by simpa using hz
 rcases hz with rfl | rfl | rfl | rfl | rfl
 ·exact⟨_,h.ep,by simp⟩
 ·exact⟨_,e1,by simp⟩
 ·exact⟨_,e2,by simp⟩
 ·exact⟨_,e3,by simp⟩
 ·exact⟨_,e4,by simp⟩
theorem LpI.path {is':List Nat} (h:LpI CSe CN CS CR D pth bgd n gv rc kg kc kr rm knI odI HfI HI x k0 is kn rmN rkn od bg Hf H) (dec:is'.Pairwise (fun a b=>b<a)) (lt:∀i∈is',i<n) (un:∀i∈is'.dropLast,kn (az i)=none) (rch:∀i∈is',Rch gv rc kn x (az i)) (hd:is'.head?=some k0\/(is'=[]/\kn x≠none)) (hm:RB.mv gv rc (stk is,kn,od)=some (stk is',kn,od)):
 LpI CSe CN CS CR D pth bgd n gv rc kg kc kr rm knI odI HfI HI x k0 is' kn rmN rkn od bg Hf (upd H pth (.lst (is'.map fun i=>V.str (az i)))):=by
 have hb:But [pth] H (upd H pth (.lst (is'.map fun i=>V.str (az i)))):=But.set _ (by simp)
 have np:=h.np
 simp only[List.mem_cons,List.not_mem_nil,or_false,not_or] at np
 refine⟨h.b.upd _ h.ip,h.sf,h.fm,h.sh,h.so.but hb (fun z hz=> ?_) (fun z=>np.1 (List.mem_singleton.mp z).symm) (fun z=> ?_) (fun z=> ?_),ak,h.fp,h.fb,h.ip,h.ib,h.np,h.nb,h.nn,dec,lt,un,rch,h.le,h.new,h.bgi.off hb (fun z hz=> ?_) (fun z hz=> ?_) (fun z=> ?_),hd,h.fr,h.mv.snoc hm⟩
 ·have:z=pth:=by simpa using hz
  rw[this];exact h.fp
 ·exact np.2.1 (by have:D.sd=pth:=by simpa using z
                   exact this.symm)
 ·exact np.2.2 (by have:D.rd=pth:=by simpa using z
                   exact this.symm)
 ·have:z=pth:=by simpa using hz
  rw[this];exact h.al pth (by simp)
 ·have:z=pth:=by simpa using hz
  rw[this];simp
 ·exact h.nn (by have:bgd=pth:=by simpa using z
                 exact this.symm)
theorem LpI.pop (h:LpI CSe CN CS CR D pth bgd n gv rc kg kc kr rm knI odI HfI HI x k0 (js++[i]) kn rmN rkn od bg Hf H) (hk:kn (az i)≠none) (ex:x=az k0):LpI CSe CN CS CR D pth bgd n gv rc kg kc kr rm knI odI HfI HI x k0 js kn rmN rkn od bg Hf (upd H pth (.lst (js.map fun i=>V.str (az i)))):=by
 have un:=h.un
 rw[List.dropLast_concat] at un
 refine h.path (h.dec.sublist (List.sublist_append_left _ _)) (fun j hj=>h.lt j (by simp[hj])) (fun j hj=>un j ((List.dropLast_sublist _).subset hj)) (fun j hj=>h.rch j (by simp[hj])) ?_ (by rw[vN];exact XD hk)
 rcases h.hd with z | ⟨z,_⟩
 ·cases js with
  | nil=>
    right
    have:i=k0:=by simpa using z
    exact⟨rfl,by rw[ex,<-this];exact hk⟩
  | cons a js=>left;simpa using z
 ·simp at z
theorem LpI.push {j:Nat}{r:R} (h:LpI CSe CN CS CR D pth bgd n gv rc kg kc kr rm knI odI HfI HI x k0 (js++[i]) kn rmN rkn od bg Hf H) (hk:kn (az i)=none) (hji:j<i) (hg:gv (az i)=none) (hr:rc (az i)=some r) (hs:tL kn r (az j)) (hz:kn (az j)=none):LpI CSe CN CS CR D pth bgd n gv rc kg kc kr rm knI odI HfI HI x k0 (js++[i]++[j]) kn rmN rkn od bg Hf (upd H pth (.lst ((js++[i]++[j]).map fun i=>V.str (az i)))):=by
 have hi:=h.lt i (by simp)
 have un:=h.un
 rw[List.dropLast_concat] at un
 have dec:=h.dec
 rw[List.pairwise_append] at dec
 refine h.path ?_ (fun k hk=> ?_) (fun k hk'=> ?_) (fun k hk'=> ?_) ?_ (by rw[vN (js++[i]),vN];exact RQ hg hk hr (hs.ev hz))
 ·rw[List.pairwise_append]
  refine⟨h.dec,by simp,fun a ha b hb=> ?_⟩
  have hb:b=j:=by simpa using hb
  rw[hb]
  rcases List.mem_append.mp ha with z | z
  ·exact Nat.lt_trans hji (dec.2.2 a z i (by simp))
  ·have:a=i:=by simpa using z
   rw[this];exact hji
 ·rcases List.mem_append.mp hk with z | z
  ·exact h.lt k z
  ·have:k=j:=by simpa using z
   rw[this];omega
 ·rw[List.dropLast_concat] at hk'
  rcases List.mem_append.mp hk' with z | z
  ·exact un k z
  ·have:k=i:=by simpa using z
   rw[this];exact hk
 ·rcases List.mem_append.mp hk' with z | z
  ·exact h.rch k z
  ·have:k=j:=by simpa using z
   rw[this];exact .step (h.rch i (by simp)) hg hr hs
 ·left
  rcases h.hd with z | ⟨z,_⟩
  ·cases js with
   | nil=>simpa using z
   | cons a js=>simpa using z
  ·simp at z
theorem LpI.know {kn':Kn}{HB:Rm}{rkn':Str->Bool}{od':List Str}{Hf':Hp} (h:LpI CSe CN CS CR D pth bgd n gv rc kg kc kr rm knI odI HfI HI x k0 (js++[i]) kn rmN rkn od bg Hf H) (b:But [D.kd,D.sd,D.rd] H H') (sf:aN Hf Hf') (fm:∀z,Mu H z->Hf z=none->Hf' z=none) (so:qu D n gv rc rm kn' HB rkn' od' Hf' H') (le:Kn.Le kn kn') (hn:∀y,kn' y≠none->kn y≠none\/y=az i) (hun:∀y,y≠az i->kn y=none->kn' y=none) (n26:n<=26) (hm:Mvs gv rc (stk (js++[i]),kn,od) (stk (js++[i]),kn',od')):LpI CSe CN CS CR D pth bgd n gv rc kg kc kr rm knI odI HfI HI x k0 (js++[i]) kn' HB rkn' od' bg Hf' H':=by
 have hal:=h.al
 have hmu:∀z∈[D.kd,D.sd,D.rd],Mu H z:=fun z hz=>hal z (by simp at hz ⊢;rcases hz with q | q | q<;>simp[q])
 have un:=h.un
 rw[List.dropLast_concat] at un
 have dec:=h.dec
 rw[List.pairwise_append] at dec
 refine⟨h.b.trans b,h.sf.trans sf,fun z m hz=> ?_,h.sh.same sf,so,b _ _ h.np h.ep,fm _ (hal _ (by simp)) h.fp,fm _ (hal _ (by simp)) h.fb,h.ip,h.ib,h.np,h.nb,h.nn,h.dec,h.lt,fun j hj=> ?_,fun j hj=>(h.rch j hj).le le,h.le.trans le,fun y hy=> ?_,((h.bgi.hf fm).off b hmu (fun z hz=>by simp at hz ⊢;rcases hz with q | q | q<;>simp[q]) h.nb).le le, ?_,h.fr,h.mv.trans hm⟩
 ·have hz':=h.fm z m hz
  by_cases hS:z∈[D.kd,D.sd,D.rd]
  ·exact fm z (hmu z hS) hz'
  ·exact fm z (m.but h.b hS) hz'
 ·rw[List.dropLast_concat] at hj
  have hlt:i<j:=dec.2.2 j hj i (by simp)
  have hjn:=h.lt j (by simp[hj])
  exact hun _ (fun z=>by
   have:=kW (show j<26 by omega) (show i<26 by omega) z
   omega) (un j hj)
 ·rcases hn y hy with z | z
  ·exact(h.new y z).imp id fun w=>w.le le
  ·right;rw[z];exact(h.rch i (by simp)).le le
 ·exact h.hd.imp id fun⟨a,_⟩=>by simp at a
theorem LpI.bgs {S:List Addr}{bg':Str->Option SeD} (h:LpI CSe CN CS CR D pth bgd n gv rc kg kc kr rm knI odI HfI HI x k0 is kn rmN rkn od bg Hf H) (b:But S H H') (hS:∀z∈S,HI z=none/\Hf z=none/\z∉[pth,D.kd,D.sd,D.rd]) (hb:BgI CS CR D pth bgd n gv rc kr rm kn bg' Hf H') (hf:∀y A,bg' y=some A->∀z∈A.ft,HI z=none):LpI CSe CN CS CR D pth bgd n gv rc kg kc kr rm knI odI HfI HI x k0 is kn rmN rkn od bg' Hf H':=by
 refine⟨fun c o hc e=>b c o (fun w=>by rw[(hS c w).1] at e;cases e) (h.b c o hc e),h.sf,h.fm,h.sh,h.so.but b (fun z hz=>(hS z hz).2.1) (fun z=>(hS _ z).2.2 (by simp)) (fun z=>(hS _ z).2.2 (by simp)) (fun z=>(hS _ z).2.2 (by simp)),b _ _ (fun z=>(hS _ z).2.2 (by simp)) h.ep,h.fp,h.fb,h.ip,h.ib,h.np,h.nb,h.nn,h.dec,h.lt,h.un,h.rch,h.le,h.new,hb,h.hd,hf,h.mv⟩
theorem LpI.free (h:LpI CSe CN CS CR D pth bgd n gv rc kg kc kr rm knI odI HfI HI x k0 is kn rmN rkn od bg Hf H) {z:Addr} (hz:H z=none):HI z=none/\Hf z=none:=by
 refine⟨gR h.b hz fun w=>(h.al z (by simp at w ⊢;rcases w with q | q | q<;>simp[q])).some hz, ?_⟩
 cases q:Hf z with
 | none=>rfl
 | some o=>have:=h.so.sm _ _ q;rw[hz] at this;cases this
theorem LpI.begun {H1:Hp}{y:Str}{r:R}{A:SeD}{kb:List (Key×V)} (h:LpI CSe CN CS CR D pth bgd n gv rc kg kc kr rm knI odI HfI HI x k0 is kn rmN rkn od bg Hf H) (s:aN H H1) (hA:∀z∈A.ft,H z=none) (so:rW CS CR kr rm y r kn A H1) (hr:rc y=some r) (hg:gv y=none) (hy:y∈nmK n) (hb:bg y=none) (ebd:H bgd=some (.dK kb)):
 LpI CSe CN CS CR D pth bgd n gv rc kg kc kr rm knI odI HfI HI x k0 is kn rmN rkn od (jO bg y A) Hf (upd H1 bgd (.dK (putK kb (.inr y) (.ref A.s)))):=by
 have nb:=h.nb
 refine h.bgs (S:=[bgd]) ((But.of_same s).trans (But.set _ (by simp))) (fun z hz=> ?_) (h.bgi.new s hA so hr hg hy hb ebd h.so.sm fun z hz=>(h.al z hz).some) (fun x B hB z hz=> ?_)
 ·have:z=bgd:=by simpa using hz
  rw[this]
  exact⟨h.ib,h.fb,fun w=>by
   rcases List.mem_cons.mp w with q | q
   ·exact h.nn q.symm
   ·exact nb q⟩
 ·unfold jO at hB
  by_cases w:x=y
  ·rw[if_pos w] at hB;cases hB
   exact(h.free (hA z hz)).1
  ·rw[if_neg w] at hB;exact h.fr x B hB z hz
theorem LpI.gone {y:Str}{r:R}{A A':SeD} (h:LpI CSe CN CS CR D pth bgd n gv rc kg kc kr rm knI odI HfI HI x k0 is kn rmN rkn od bg Hf H) (hy:bg y=some A) (b:But A.ft H H') (so:rW CS CR kr rm y r kn A' H') (hr:rc y=some r) (hg:gv y=none)
 (es:A'.s=A.s) (erk:A'.rk=A.rk) (e1:A'.a1=A.a1) (e2:A'.a2=A.a2) (e3:A'.a3=A.a3) (efl:A'.fl=A.fl\/H A'.fl=none):LpI CSe CN CS CR D pth bgd n gv rc kg kc kr rm knI odI HfI HI x k0 is kn rmN rkn od (jO bg y A') Hf H':=by
 refine h.bgs (S:=A.ft) b (fun z hz=> ?_) (h.bgi.set hy b so hr hg es erk e1 e2 e3 efl h.so.sm fun z hz=>(h.al z hz).some) (fun x B hB z hz=> ?_)
 ·obtain⟨a1,a2,a3⟩:=h.bgi.al y A hy z hz
  exact⟨h.fr y A hy z hz,a2,fun w=>a3 (by
   simp only[List.mem_cons,List.not_mem_nil,or_false] at w ⊢
   rcases w with q | q | q | q
   ·exact .inl q
   ·exact .inr (.inr (.inl q))
   ·exact .inr (.inr (.inr (.inl q)))
   ·exact .inr (.inr (.inr (.inr q))))⟩
 ·unfold jO at hB
  by_cases w:x=y
  ·rw[if_pos w] at hB;cases hB
   have hz:z=A'.s\/z=A'.fl\/z=A'.rk\/z=A'.a1\/z=A'.a2\/z=A'.a3:=by simpa [SeD.ft] using hz
   rcases hz with q | q | q | q | q | q
   ·rw[q,es];exact h.fr y A hy _ (by simp[SeD.ft])
   ·rcases efl with w | w
    ·rw[q,w];exact h.fr y A hy _ (by simp[SeD.ft])
    ·rw[q];exact(h.free w).1
   ·rw[q,erk];exact h.fr y A hy _ (by simp[SeD.ft])
   ·rw[q,e1];exact h.fr y A hy _ (by simp[SeD.ft])
   ·rw[q,e2];exact h.fr y A hy _ (by simp[SeD.ft])
   ·rw[q,e3];exact h.fr y A hy _ (by simp[SeD.ft])
  ·rw[if_neg w] at hB;exact h.fr x B hB z hz
theorem qu.giv {y:Str}{v:Int}{kw:List (Key×V)}{ws:List Str} (h:qu D n gv rc rm kn rmN rkn od Hf H) (ek:H D.kd=some (.dK kw)) (kk:gH kw ws) (hk:∀x,cG kw (.inr x)=(kn x).map V.int) (hy:y∈nmK n) (hg:gv y=some v) (ne:D.kd≠D.sd/\D.kd≠D.rd/\D.sd≠D.rd):qu D n gv rc rm (kn.put y v) rmN rkn od Hf (upd H D.kd (.dK (putK kw (.inr y) (.int v))))/\Kn.Le kn (kn.put y v):=by
 have hn:kn y=none\/kn y=some v:=by
  cases z:kn y with
  | none=>exact .inl rfl
  | some u=>
    rcases(h.ok.a y u z).2 with w | ⟨w,_⟩
    ·rw[hg] at w;cases w;exact .inr rfl
    ·rw[hg] at w;cases w
 obtain⟨sm,fk,fs,fr,_,⟨ks,e2,r2⟩,⟨kk',rs,e3,r3⟩,ok,md⟩:=h
 have hs:aN Hf (upd H D.kd (.dK (putK kw (.inr y) (.int v)))):=fun z o e=>(ao (fun w=>by rw[w,fk] at e;cases e)).trans (sm z o e)
 rcases hn with z | z
 ·have le:=Kn.oE (v:=v) z
  have hyw:y∉ws:=kk.none.mp (by rw[hk,z];rfl)
  exact⟨⟨hs,fk,fs,fr,⟨_,_,ak,kk.rR hyw _,Ay hk y v⟩,⟨ks,(ao (Ne.symm ne.1)).trans e2,r2⟩,⟨kk',rs,(ao (Ne.symm ne.2.1)).trans e3,r3⟩,ok.aee hy z hg,fun x r ps u e=>(md x r ps u e).le le⟩,le⟩
 ·have hyw:y∈ws:=Decidable.byContradiction fun w=>by
   have:=kk.none.mpr w
   rw[hk,z] at this;cases this
  have eq:kn.put y v=kn:=by
   funext x
   unfold Kn.put
   by_cases w:x=y
   ·rw[if_pos w,w,z]
   ·rw[if_neg w]
  rw[eq]
  refine⟨⟨hs,fk,fs,fr,⟨_,_,ak,kk.Fz hyw _,fun x=> ?_⟩,⟨ks,(ao (Ne.symm ne.1)).trans e2,r2⟩,⟨kk',rs,(ao (Ne.symm ne.2.1)).trans e3,r3⟩,ok,md⟩,Kn.Le.refl _⟩
  have:=Ay hk y v x
  rw[eq] at this;exact this
theorem HF (hl:js.length<=17) (h:∀j∈js,kn (az j)=none):zZ n kn js<=60 * JD kn n+20 - js.length:=by
 rcases List.eq_nil_or_concat js with z | ⟨ks,j,z⟩
 ·subst z;exact Nat.zero_le _
 ·rw[List.concat_eq_append] at z
  subst z
  rw[mF (h j (by simp)),List.length_append]
  exact Nat.le_refl _
end
end RB
set_option maxRecDepth 100000
namespace L2
open PySem PySem.Spec PyProof.Rows RB
section
variable {X:Cx}{tg:Expr}
def OJ (tl:TE):TI:=fun σ H R=>tl σ H fun x H1=>∃a o kvs,x= .ref a/\H1 a=some (.frz o (.dK kvs))/\R (Itd a o kvs) H1
theorem O1 {l:Expr}{tl:TE} (hl:PE X l tl):PI X tg l (OJ tl):=by
 intro pins s σ H R I h
 refine thn (hl pins s σ H _ I h) fun v s1 ⟨x,H1,I1,r1,q1⟩=> ?_
 obtain⟨a,o,kvs,e,hq,q⟩:=q1
 subst e
 cases r1
 obtain⟨ho,hz,lo,vs,hkv,hd⟩:=(show eN X.prog X.w H1 s1.heap a (.frz o (.dK kvs)) from I1.hok a _ hq)
 obtain⟨o',es,ep,ho',hx,hdat,hk,hp,hn⟩:=id hd
 rw[ho] at ho'
 cases ho'
 have hl:=(yq hkv).1
 refine wpAny_pyIter_dict lo ⟨o,es,ho,hx,hdat,hk,hp,hn⟩ ?_
 have hlt:a<s1.heap.objs.size:=Heap.lt_size ho
 rw[<-hl]
 refine⟨s1.heap.objs.size,[s1.heap.objs.size],_,_,_,rfl,I1.kept (t':=s1.toks) fun b o e=>Heap.get?_push_of_some _ e,El (Nat.ne_of_lt hlt) hkv hx hdat hk hp hn,⟨_,Heap.get?_push_size _ rfl,rfl,rfl⟩,fun b hb=> ?_,q⟩
 have e:b=s1.heap.objs.size:=by simpa using hb
 subst e
 exact I1.Il (Nat.le_refl _) (I1.hok.fresh (Nat.le_refl _))
theorem O2 {l:Expr}{tl:TE} (hl:QE X l tl):QI X tg l (OJ tl):=⟨O1 hl.h⟩
end
theorem Es {a:Addr}{o:Obj}{kvs:List (Key×V)}{g:TG}{tc:TT}{te:TE}{σ:St}{H:Hp}{D:Addr}{Q:VK} (Pv:Nat->St->Hp->Prop) (h0:Pv 0 σ (upd H D (.lst []))) (hl:∀i σ H,i<=kvs.length->Pv i σ H->H a=some (.frz o (.dK kvs)))
 (hs:∀i k v σ' H',kvs[i]? =some (k,v)->Pv i σ' H'->g (kV k) σ' H' fun σ3 H3=>tc σ3 H3 fun b H4=>
   if b=true then te σ3 H4 fun y H5=>∃ys,H5 D=some (.lst ys)/\ys.length<sizeLine/\Pv (i+1) σ3 (upd H5 D (.lst (ys++[y]))) else Pv (i+1) σ3 H4) (hd:∀σ' H',Pv kvs.length σ' H'->Q (.ref D) H'):
 Eg (Itd a o kvs) g tc te D σ (upd H D (.lst [])) Q:=by
 refine⟨fun i m σ H=>m=kvs.length - i/\i<=kvs.length/\Pv i σ H,⟨kvs.length,by simp,Nat.zero_le _,h0⟩, ?_⟩
 rintro i m σ H ⟨rfl,hi,p⟩
 have q:=hl i σ H hi p
 by_cases hlt:i<kvs.length
 ·refine .inr ⟨⟨hlt,q⟩,Pv (i+1),fun σ' H' p'=>⟨kvs.length - (i+1),by omega,rfl,hlt,p'⟩,fun x H' y=> ?_⟩
  obtain⟨e,k,v,hk,ex⟩:=y
  subst e ex
  exact hs i k v σ _ hk p
 ·have e:i=kvs.length:=by omega
  subst e
  exact .inl ⟨⟨Nat.le_refl _,q⟩,hd σ H p⟩
end L2
namespace RB
open PySem L2 PySem.Spec PyProof.Rows
def O3 (CSe:Addr):Sp:=fun vs H Q _=>∃(D:SrD) (ks kk:List (Key×V)) (ss:List Str) (rkn:Str->Bool),vs=[.ref D.so]/\H D.so=some (.ins CSe D.dx (srF D.g D.c D.o D.kd D.sd D.rd))/\H D.sd=some (.dK ks)/\gH ks ss/\ss.length<=100/\D.sd≠D.rd/\H D.rd=some (.dK kk)/\(∀x,cG kk (.inr x)=if rkn x=true then some (.bl true) else none)/\
 ∀(l:Addr) (o:Obj) (H':Hp),But [D.sd] H H'->H' D.sd=some (.frz o (.dK ks))->H l=none->H' l=some (.lst ((ss.filter rkn).map V.str))->Q (.ref l) H'
def O4 (CSe:Addr):Sp:=fun vs H Q _=>∃(D:SrD) (o:Obj) (ks kk:List (Key×V)) (ss:List Str) (rkn:Str->Bool),vs=[.ref D.so]/\H D.so=some (.ins CSe D.dx (srF D.g D.c D.o D.kd D.sd D.rd))/\H D.sd=some (.frz o (.dK ks))/\gH ks ss/\ss.length<=100/\H D.rd=some (.dK kk)/\(∀x,cG kk (.inr x)=if rkn x=true then some (.bl true) else none)/\
 ∀(l:Addr) (H':Hp),aN H H'->H l=none->H' l=some (.lst ((ss.filter fun x=> !rkn x).map V.str))->Q (.ref l) H'
def wX (CSe CN:Addr):Sp:=fun vs H Q _=>∃(h g c o dxo rcd wl:Addr) (n:Nat) (gv:Kn) (rc:Rn) (kg kc kr:List (Key×V)) (rm:Rm) (ws:List Str),vs=[.ref h, .ref o, .ref wl]/\H h=some (.tup [.ref g, .ref c])/\H g=some (.dK kg)/\H c=some (.dK kc)/\Bld H kg kc n gv rc/\n<=17/\H o=some (.ins CN dxo (nrF rcd))/\H rcd=some (.dK kr)/\oJ H kr n rm/\H wl=some (.lst (ws.map V.str))/\(∀x∈ws,x∈nmK n)/\
 ∀(D:SrD) (kn:Kn) (rmN:Rm) (rkn:Str->Bool) (od:List Str) (Hf H':Hp),aN H H'->aN H Hf->SrH CSe CN D n gv rc kg kc kr rm Hf->qu D n gv rc rm kn rmN rkn od Hf H'->Runs gv rc ws (kn0,[]) (kn,od)->H D.kd=none->H D.sd=none->H D.rd=none->(∀x∈ws,kn x≠none)->(∀y,kn y≠none->∃x∈ws,Rch gv rc kn x y)->Q (.ref D.so) H'
structure Built (n:Nat) (gv:Kn) (rc:Rn) (rm:Rm) (ws:List Str) (kn:Kn) (rmN:Rm) (rkn:Str->Bool):Prop where
 ok:Ds n gv rc kn rmN
 md:∀x r ps v,rmN x=some (r,ps,v)->Rcd rm x r kn ps v (rkn x)
 w:∀x∈ws,kn x≠none
 r:∀y,kn y≠none->∃x∈ws,Rch gv rc kn x y
 rn:∀x,rkn x=true->rmN x≠none
def FT:Sp:=fun vs H Q _=>∃(h g c rcd wl:Addr) (n:Nat) (gv:Kn) (rc:Rn) (kr:List (Key×V)) (rm:Rm) (ws:List Str),vs=[.ref h, .ref rcd, .ref wl]/\oG H h g c n gv rc/\n<=17/\H rcd=some (.dK kr)/\oJ H kr n rm/\H wl=some (.lst (ws.map V.str))/\(∀x∈ws,x∈nmK n)/\
 ∀(t kd sd lm lk:Addr) (kw ks:List (Key×V)) (wn sn:List Str) (kn:Kn) (rmN:Rm) (rkn:Str->Bool) (o:Obj) (H':Hp),aN H H'->H' t=some (.tup [.ref kd, .ref sd, .ref lm, .ref lk])->H kd=none->H sd=none->H lm=none->H lk=none->kd≠sd->lm≠lk->H' kd=some (.dK kw)->gH kw wn->(∀x,cG kw (.inr x)=(kn x).map V.int)->H' sd=some (.frz o (.dK ks))->gH ks sn->oJ H' ks n rmN->H' lm=some (.lst ((sn.filter rkn).map V.str))->H' lk=some (.lst ((sn.filter fun x=> !rkn x).map V.str))->Built n gv rc rm ws kn rmN rkn->Runs gv rc ws (kn0,[]) (kn,sn)->Q (.ref t) H'
def Cm:Sp:=fun vs H Q _=>∃(h g c wl:Addr) (n:Nat) (gv:Kn) (rc:Rn) (ws:List Str),vs=[.ref h, .ref wl]/\oG H h g c n gv rc/\n<=17/\H wl=some (.lst (ws.map V.str))/\(∀x∈ws,x∈nmK n)/\
 ∀(t kd sd l:Addr) (kw ks:List (Key×V)) (wn sn:List Str) (kn:Kn) (rmN:Rm) (H':Hp),aN H H'->H' t=some (.tup [.ref kd, .ref sd, .ref l])->H kd=none->H sd=none->H l=none->kd≠sd->H' kd=some (.dK kw)->gH kw wn->(∀x,cG kw (.inr x)=(kn x).map V.int)->H' sd=some (.dK ks)->gH ks sn->oJ H' ks n rmN->H' l=some (.lst (sn.map V.str))->Built n gv rc (fun _=>none) ws kn rmN (fun x=>(rmN x).isSome)->Runs gv rc ws (kn0,[]) (kn,sn)->Q (.ref t) H'
end RB
set_option maxRecDepth 100000
namespace L2
open PySem PySem.Spec PyProof.Rows RB
section
variable {X:Cx}{A:Around}{E:Value->Shared->Prop}{pins:List (Addr×Obj)}{σ:St}{H:Hp}{s:Shared}{a b:Addr}{kvs more:List (Key×V)}
theorem O5 {Q:Value->Shared->Prop} (I:Inv X pins σ H s) (e:H a=some (.dK kvs)) (e2:Rd H b (.dK more)) (hne:a≠b) (hz:kvs.length+more.length<=sizeLine) (h:∀s',Inv X pins σ (upd H a (.dK (gJ kvs more))) s'->Q .none s'):wpAny (model X.prog X.w) A (call (.builtin "dict.update") [.ref a, .ref b]) Q E s:=by
 obtain⟨z,hd,vs,rel,dd⟩:=GF I.hok e
 obtain⟨z2,hd2,ws,aaP,dd2⟩:=zV I.hok e2
 refine call_meetsIn PySem.F.slot_dict_update dd.typeIs PySem.F.entry_dict_update (PySem.F.args_dict_update_2 _ _) (meets_dict_update (cW X.prog X.w) a b hne hd2) ⟨vs,ws,dd,dd2,by rw[<-rel.length,<-aaP.length];exact hz,fun h' dd' _ hs=>h _ ?_⟩
 have he:∃q,h'.get? a=some q:=let ⟨q,_,_,hq,_⟩:=dd';⟨q,hq⟩
 exact Av (t':=s.toks) I (by rw[e];exact True.intro) hs he (Jb (Nat.le_trans (pK _ _) hz) hd (KV.merge aaP rel) dd')
end
def U7 (td ty:TE):TE:=fun σ H Q=>td σ H fun x H1=>∃a,x= .ref a/\IsD H1 a/\ty σ H1 fun y H2=>∃b kvs more,H2 a=some (.dK kvs)/\y= .ref b/\Rd H2 b (.dK more)/\a≠b/\kvs.length+more.length<=sizeLine/\Q .non (upd H2 a (.dK (gJ kvs more)))
section
variable {X:Cx}{o e:Expr}{td ty:TE}{apos cpos:Pos}
theorem RW (ho:PE X o td) (he:PE X e ty) (m:M1 X o "update" apos e cpos):PE X (.Call (.Attribute o "update" apos) [e] [] cpos) (U7 td ty):=by
 intro pins s σ H Q I h
 refine wpAny_Call_method m.base m.few m.line PySem.F.plainAttrs_dict PySem.F.slot_dict_update PySem.F.type_dict_update (thn (ho pins s σ H _ I h) fun u s1 ⟨x,H1,I1,rx,a,ex,d,q1⟩=> ?_)
 subst ex
 obtain rfl:u=Value.ref a:=rx
 obtain⟨t1,t2,_⟩:=Nh I1 d
 refine⟨t1,t2, ?_⟩
 rw[m.trees]
 refine Calls.callWith_builtin rfl (Calls.evalArgs_plain (Calls.spliced_cons (thn (he pins s1 σ H1 _ I1 q1) fun iv s2 ⟨y,H2,I2,ry,b,kvs,more,ea,ey,eb,hne,hz,q2⟩=>Calls.spliced_nil ?_)))
 subst ey
 obtain rfl:iv=Value.ref b:=ry
 exact O5 I2 ea eb hne hz fun s3 I3=>⟨.non,_,I3,rfl,q2⟩
theorem KJ (ho:QE X o td) (he:QE X e ty) (m:M1 X o "update" apos e cpos):QE X (.Call (.Attribute o "update" apos) [e] [] cpos) (U7 td ty):=⟨RW ho.h he.h m⟩
end
end L2
namespace RB
open PySem L2 PySem.Spec PyProof.Rows
def Kn.over (a b:Kn):Kn:=fun x=>match b x with
 | some v=>some v
 | none=>a x
theorem Cp:∀{more kvs:List (Key×V)},(more.map (·.1)).Nodup->∀j,cG (gJ kvs more) j=(match cG more j with | some v=>some v | none=>cG kvs j)
 |[],kvs,_,j=>by rw[nY];rfl
 | p::more,kvs,hn,j=>by
   rw[List.map_cons,List.nodup_cons] at hn
   have ih:=Cp (kvs:=putK kvs p.1 p.2) hn.2 j
   show cG (gJ (putK kvs p.1 p.2) more) j=_
   rw[ih,lq]
   by_cases z:p.1=j
   ·have:cG more j=none:=by
     cases e:cG more j with
     | none=>rfl
     | some v=>exact absurd (z▸QZ e) hn.1
    rw[this,jf z,if_pos z.symm]
   ·rw[jg z]
    cases e:cG more j with
    | none=>simp only;rw[if_neg (Ne.symm z)]
    | some v=>rfl
theorem gH.nd1 {kvs:List (Key×V)}{ks:List Str} (h:gH kvs ks):(kvs.map (·.1)).Nodup:=by
 rw[h.k]
 exact(List.pairwise_map.mpr (h.nd.imp fun hab z=>hab (Sum.inr.inj z)))
theorem gH.merge:∀{more kvs:List (Key×V)}{ns gs:List Str},gH kvs gs->more.map (·.1)=ns.map Sum.inr->(∀x∈ns,x∈gs)->gH (gJ kvs more) gs
 |[],kvs,ns,gs,h,_,_=>h
 | p::more,kvs,[],gs,h,hk,_=>by simp at hk
 | (k,v)::more,kvs,y::ns,gs,h,hk,hi=>by
   simp only[List.map_cons,List.cons.injEq] at hk
   obtain⟨rfl,h2⟩:=hk
   exact gH.merge (more:=more) (kvs:=putK kvs (.inr y) v) (ns:=ns) (h.Fz (hi y (by simp)) v) h2 fun x hx=>hi x (by simp[hx])
theorem O6 {kg kc:List (Key×V)}{gv ch:Kn}{ns:List Str} (hg:∀x,cG kg (.inr x)=(gv x).map V.int) (hc:∀x,cG kc (.inr x)=(ch x).map V.int) (k:gH kc ns):∀x,cG (gJ kg kc) (.inr x)=(gv.over ch x).map V.int:=fun x=>by
 rw[Cp k.nd1,hc,hg]
 unfold Kn.over
 cases ch x<;>rfl
end RB
set_option maxRecDepth 100000
namespace L2
open PySem PySem.Spec PyProof.Rows RB
theorem zp {xs:List V}{its:List Value} (r:Vals xs its):∀idx:List Nat,Vals (idx.filterMap (xs[·]?)) (idx.filterMap (its[·]?))
 |[]=> .nil
 | i::idx=>by
   rw[List.filterMap_cons,List.filterMap_cons]
   cases e:xs[i]? with
   | none=>
     have:its[i]? =none:=by
      rw[List.getElem?_eq_none_iff] at e ⊢
      rw[<-r.length];exact e
     rw[this];exact zp r idx
   | some x=>
     obtain⟨u,hu,ru⟩:=r.get e
     rw[hu]
     exact .cons ru (zp r idx)
def aaQ (K:PySem.W.Frag) (te tl th ts:TE):TE:=fun σ H Q=>te σ H fun x H1=>tl σ H1 fun y H2=>th σ H2 fun z H3=>ts σ H3 fun u H4=>∃a xs i j k,x= .ref a/\y= .int i/\z= .int j/\u= .int k/\k≠0/\SqL K H4 a xs/\∀p ys,H4 p=none->(∀v∈ys,v∈xs)->ys.length<=xs.length->Q (.ref p) (upd H4 p (.lst ys))
section
variable {X:Cx}{e lo hi st:Expr}{te tl th ts:TE}{pos p2:Pos}
theorem RX (he:PE X e te) (hl:PE X lo tl) (hh:PE X hi th) (hst:PE X st ts):PE X (.Subscript e (.Slice (some lo) (some hi) (some st) p2) pos) (aaQ X.K te tl th ts):=by
 intro pins s σ H Q I h
 refine Subscript_ (thn (he pins s σ H _ I h) fun v s1 ⟨x,H1,I1,r1,q1⟩=> ?_)
 refine wpAny_Slice ?_
 rw[evalPart_some]
 refine thn (hl pins s1 σ H1 _ I1 q1) fun vl s2 ⟨y,H2,I2,r2,q2⟩=> ?_
 rw[evalPart_some]
 refine thn (hh pins s2 σ H2 _ I2 q2) fun vh s3 ⟨z,H3,I3,r3,q3⟩=> ?_
 rw[evalPart_some]
 refine thn (hst pins s3 σ H3 _ I3 q3) fun vs s4 ⟨u,H4,I4,r4,q4⟩=> ?_
 obtain⟨a,xs,i,j,k,rfl,rfl,rfl,rfl,hk,hx,q⟩:=q4
 obtain⟨t2,rfl⟩:=r2
 obtain⟨t3,rfl⟩:=r3
 obtain⟨t4,rfl⟩:=r4
 cases r1
 have I5:Inv X pins σ H4 {s4 with heap:=s4.heap.push {cls:= .type "slice",data:= .fields #[.int i t2, .int j t3, .int k t4]}}:=I4.kept (t':=s4.toks) fun b ob q=>Heap.get?_push_of_some _ q
 obtain⟨its,r,ht,hz⟩:=I5.list hx
 have hlen:=r.length
 show wpAny (model X.prog X.w) X.A (subscriptTail e (.Slice (some lo) (some hi) (some st) p2) (.ref a) (.ref s4.heap.objs.size)) (EP X pins σ Q) X.xe {s4 with heap:=s4.heap.push {cls:= .type "slice",data:= .fields #[.int i t2, .int j t3, .int k t4]}}
 refine tail_any (ops:=[.ref a, .ref s4.heap.objs.size]) ht.isList.typeIs slot_list_getitem.lookup ?_ (by with_unfolding_all rfl)
 refine wpAny_getItem_list_slice ht.isList (Heap.IsSliceOf.new ..) (.int i t2) (.int j t3) (.int k t4) (by simpa using hk) ?_ (by rw[List.size_toArray]<;>omega)
 have hp:=slicePick_size_le its.toArray (some i) (some j) (some k)
 have vp:=zp r (sliceRange (sliceBounds (some i) (some j) (some k) its.toArray.size).1 (sliceBounds (some i) (some j) (some k) its.toArray.size).2.1 (sliceBounds (some i) (some j) (some k) its.toArray.size).2.2)
 unfold slicePick at hp ⊢
 simp only[List.getElem?_toArray] at hp ⊢
 generalize sliceRange (sliceBounds (some i) (some j) (some k) its.toArray.size).1 (sliceBounds (some i) (some j) (some k) its.toArray.size).2.1 (sliceBounds (some i) (some j) (some k) its.toArray.size).2.2=idx at *
 have hl':=vp.length
 rw[List.size_toArray,List.size_toArray] at hp
 refine⟨.ref _,_,I5.laid (t':=s4.toks) (o:= .lst (idx.filterMap (xs[·]?))) (fun b ob q=>Heap.get?_push_of_some _ q) (Nat.le_refl _) ⟨by omega,_,0,vp,Heap.get?_push_size _ rfl⟩,rfl,q _ _ (I5.hok.fresh (Nat.le_refl _)) (fun v hv=> ?_) (by omega)⟩
 obtain⟨i,_,hi⟩:=List.mem_filterMap.mp hv
 exact List.mem_of_getElem? hi
theorem RZ (he:QE X e te) (hl:QE X lo tl) (hh:QE X hi th) (hs:QE X st ts):QE X (.Subscript e (.Slice (some lo) (some hi) (some st) p2) pos) (aaQ X.K te tl th ts):=⟨RX he.h hl.h hh.h hs.h⟩
theorem FW:nW X (.builtin "sorted") (fun xs H Q=>∃(a:Addr) (ts:List Str),xs=[.ref a]/\SqL X.K H a (ts.map V.str)/\ts.length<64/\∀(p:Addr) (us:List Str),H p=none->us.Perm ts->sortedS us=true->Q (.ref p) (upd H p (.lst (us.map V.str)))):=by
 intro pins s σ H xs us Q I r h
 obtain⟨a,ts,rfl,ha,hl,q⟩:=h
 obtain⟨u,rfl,rx⟩:=vals1 r
 cases rx
 obtain⟨its,rv,pl,_⟩:=I.list ha
 have hli:its.length=ts.length:=by have:=rv.length;rw[List.length_map] at this;exact this.symm
 refine sorted_strs pl.isList (wV rv) (by omega) fun out ss h1 h2 h3=> ?_
 obtain⟨e,he⟩:=sortedAll_at s.heap its out
 have hfr:H (s.heap.objs.size+1)=none:=I.hok.fresh (Nat.le_succ _)
 have hsl:=h2.length_eq
 have hz:(ss.map V.str).length<=sizeLine:=by rw[List.length_map,hsl,sizeLine_eq];omega
 exact⟨.ref (s.heap.objs.size+1),_,I.laid (t':=s.toks) (o:= .lst (ss.map V.str)) (fun b u e=>sortedAll_old e) (Nat.le_succ _) ⟨hz,out.toList,e,vI h1,by simpa [seqObj] using he⟩,rfl,q _ ss hfr h2 h3⟩
theorem Cq:n8 X (.builtin "sorted") (fun xs H Q=>∃(a:Addr) (ts:List Str),xs=[.ref a]/\SqL X.K H a (ts.map V.str)/\ts.length<64/\∀(p:Addr) (us:List Str),H p=none->us.Perm ts->sortedS us=true->Q (.ref p) (upd H p (.lst (us.map V.str)))):=⟨FW⟩
end
end L2
set_option maxRecDepth 100000
namespace L2
open PySem PySem.Spec PyProof.Rows
theorem LR {X:Cx} (hc:X.calm=true):nW X (.builtin "sum") (fun xs H Q=>∃(p:Addr) (ns:List Int),xs=[V.ref p]/\SqL X.K H p (ns.map V.int)/\Q (.int ns.sum) H):=by
 intro pins s σ H xs us Q I r h
 obtain⟨p,ns,rfl,hp,q⟩:=h
 obtain⟨u,rfl,ru⟩:=Vals.one r
 cases(show u=Value.ref p from ru)
 obtain⟨its,rv,pl,hz⟩:=I.list hp
 have hi:=intsAre_of rv
 have hall:=hi.allInts
 have hnum:numsOf its.toArray.toList=ns:=by rw[show its.toArray.toList=its from rfl,hi.numsOf]
 have hl:=pl.isList
 obtain⟨xs,ex⟩:=hall.items
 rw[ex] at hl hnum
 rw[nums_intItems] at hnum
 subst hnum
 refine sum_intListG (I.ok.hd hc) hl fun h' tk t' hk=> ?_
 rw[preSum_eq,List.take_of_length_le (by simp)]
 exact⟨.int _,H,I.kept (t':=tk) hk,⟨t',rfl⟩,q⟩
theorem R0 {X:Cx} (hc:X.calm=true):n8 X (.builtin "sum") (fun xs H Q=>∃(p:Addr) (ns:List Int),xs=[V.ref p]/\SqL X.K H p (ns.map V.int)/\Q (.int ns.sum) H):=⟨LR hc⟩
end L2
set_option maxRecDepth 100000
namespace RB
open PySem L2 PySem.Spec PyProof.Rows
section
variable {n:Nat}{gv:Kn}{rc:Rn}{kn1 kn2:Kn}{rm1 rm2:Rm}{ws:List Str}
end
end RB
set_option maxRecDepth 100000
namespace L2
open PySem PySem.Spec PyProof.Rows RB
end L2
set_option maxRecDepth 100000
namespace L2
open PySem PySem.Spec PyProof.Rows RB
section
variable {X:Cx}
end
end L2
namespace RB
open PySem L2 PySem.Spec PyProof.Rows
section
variable {H H':Hp}{kp kq:List (Key×V)}{gv:Kn}{rc:Rn}{rm:Rm}{kn:Kn}{ks qs:List Str}
end
end RB
set_option maxRecDepth 100000
namespace RB
open PySem L2 PySem.Spec PyProof.Rows
namespace SJ
theorem aeh:typeLookup (.type "dict") "__len__"=pure (some (.builtin "dict.__len__")):=by
 rw[typeLookup_type,builtinLookup_eq_fast]
 kernel_rfl
theorem aei:isSubtype (.type "dict") (.type "dict")=pure true:=by
 rw[isSubtype_type]
 kernel_rfl
end SJ
section
variable {prog:Program}{w:World}{A:Around}{E:Value->Shared->Prop}{s:Shared}
theorem O7 {a:Addr}{vs:List (Key×Value)}{ep:Nat}{Q:List Value->Shared->Prop} (hh:A.handled=none) (hlo:(a==sysModules)=false) (hD:s.heap.DictAt (cW prog w) a vs ep) (hz:vs.length<=sizeLine)
 (q:∀(us:List Value) (h':Heap) (tk:Nat),us.length=vs.length->(∀(i:Nat) u,us[i]? =some u->∃k x,vs[i]? =some (k,x)/\(cW prog w).is k u=true)->(∀b o,s.heap.get? b=some o->h'.get? b=some o)->s.heap.objs.size<h'.objs.size->Q us {s with heap:=h',toks:=tk}):
 wpAny (model prog w) A (collect (.ref a)) Q E s:=by
 obtain⟨o,es,ho,hx,hdat,hk,hp,hn⟩:=id hD
 have hlt:=Heap.lt_size ho
 unfold collect
 refine wpAny_bind (wpAny_runValue (codeAny_builtin PySem.F.entry_proto_collect ?_))
 rw[Around.under_plainId PySem.F.plain_proto_collect _]
 show wpAny _ A.in1 (newList []>>=fun l=>PySem.again (.builtin "list.__iadd__" ⟨[l, .ref a],[]⟩)) _ _ s
 refine wpAny_bind (wpAny_newObj_type (wpAny_pure ⟨plainId_quiet PySem.F.plain_list_iadd _,codeAny_builtin PySem.F.entry_list_iadd ?_⟩))
 rw[Around.under_plainId PySem.F.plain_list_iadd _]
 show wpAny _ A.in1 (Builtin.List.listExtendWith (.ref s.heap.objs.size) (.ref a) (.ref s.heap.objs.size)) _ _ _
 unfold Builtin.List.listExtendWith
 have hD1:(s.heap.push {cls:= .type "list",data:= .seq ([]:List Value).toArray}).DictAt (cW prog w) a vs ep:=hD.push _
 have hT:Shared.TypeIs {s with heap:=s.heap.push {cls:= .type "list",data:= .seq ([]:List Value).toArray}} (.ref a) "dict":=hD1.dictOf.typeIs
 refine wpAny_bind (wpAny_typeOf hT ?_)
 have e1:Builtin.List.listSameRef (.ref s.heap.objs.size) (.ref a)=false:=by simpa [Builtin.List.listSameRef] using Nat.ne_of_gt hlt
 rw[if_neg (by rw[e1];decide)]
 refine wpAny_bind (wpAny_pyIter_dict (knd:=cW prog w) hlo hD1 ?_)
 refine wpAny_bind (wpAny_holding ?_)
 unfold Builtin.List.listLengthHint
 have hD2:((s.heap.push {cls:= .type "list",data:= .seq ([]:List Value).toArray}).push {cls:= .type "dict_keyiterator",data:= .fields #[.ref a, .int 0 0, .int vs.length 0, .int ep 0]}).DictAt (cW prog w) a vs ep:=hD1.push _
 have hT2:Shared.TypeIs {s with heap:=(s.heap.push {cls:= .type "list",data:= .seq ([]:List Value).toArray}).push {cls:= .type "dict_keyiterator",data:= .fields #[.ref a, .int 0 0, .int vs.length 0, .int ep 0]}} (.ref a) "dict":=hD2.dictOf.typeIs
 refine wpAny_bind (wpAny_specialOf hT2 SJ.aeh ?_)
 generalize hid:("dict.__len__":String)=id0
 (fail_if_success (clear hid id0))
 wp_delta
 rw[show splitId id0=some ("dict","__len__") from by subst hid;decide +kernel]
 subst hid
 refine wpAny_bind (wpAny_isInstance (b:=true) hT2 SJ.aei ?_)
 rw[if_neg (by decide),if_pos (by decide)]
 refine wpAny_bind (wpAny_typeOf hT2 (wpAny_pure ?_))
 rw[if_pos (by decide)]
 refine wpAny_bind (wpAny_rule ?_)
 have hS1:((s.heap.push {cls:= .type "list",data:= .seq ([]:List Value).toArray}).push {cls:= .type "dict_keyiterator",data:= .fields #[.ref a, .int 0 0, .int vs.length 0, .int ep 0]}).get? s.heap.objs.size=some {cls:= .type "list",dict:=none,data:= .seq #[] 0,slots:= #[]}:=Heap.get?_push_of_some _ (Heap.get?_push_size _ rfl)
 have hsz:(s.heap.push {cls:= .type "list",data:= .seq ([]:List Value).toArray}).objs.size=s.heap.objs.size+1:=Heap.size_push _ _
 have hIt:((s.heap.push {cls:= .type "list",data:= .seq ([]:List Value).toArray}).push {cls:= .type "dict_keyiterator",data:= .fields #[.ref a, .int 0 0, .int vs.length 0, .int ep 0]}).IsKeyIter (s.heap.push {cls:= .type "list",data:= .seq ([]:List Value).toArray}).objs.size a 0 vs.length ep:=⟨_,Heap.get?_push_size _ rfl,rfl,rfl⟩
 have hk2:∀b o,s.heap.get? b=some o->((s.heap.push {cls:= .type "list",data:= .seq ([]:List Value).toArray}).push {cls:= .type "dict_keyiterator",data:= .fields #[.ref a, .int 0 0, .int vs.length 0, .int ep 0]}).get? b=some o:=fun b o z=>Heap.get?_push_of_some _ (Heap.get?_push_of_some _ z)
 have W:=Walks.dictKeys (prog:=prog) (w:=w) (A:=A.in1) (knd:=cW prog w) hh (s.heap.push {cls:= .type "list",data:= .seq ([]:List Value).toArray}).objs.size a (by rw[hsz];exact Nat.ne_of_lt (Nat.lt_succ_of_lt hlt)) vs ep
 have hSf:s.heap.objs.size∉[(s.heap.push {cls:= .type "list",data:= .seq ([]:List Value).toArray}).objs.size,a]:=fun z=>by
  rw[hsz] at z
  rcases List.mem_cons.mp z with y | y
  ·exact absurd y (Nat.ne_of_lt (Nat.lt_succ_self _))
  ·exact absurd (List.mem_singleton.mp y) (Nat.ne_of_gt hlt)
 show wpAny _ A.in1 (Builtin.List.listTouch (.ref s.heap.objs.size)>>=fun _=>PySem.again (.builtin "list.extend.loop" ⟨[.ref s.heap.objs.size, .ref (s.heap.push {cls:= .type "list",data:= .seq ([]:List Value).toArray}).objs.size, .ref s.heap.objs.size],[]⟩)) _ _ _
 generalize (s.heap.push {cls:= .type "list",data:= .seq ([]:List Value).toArray}).push {cls:= .type "dict_keyiterator",data:= .fields #[.ref a, .int 0 0, .int vs.length 0, .int ep 0]}=h2 at *
 generalize hI:(s.heap.push {cls:= .type "list",data:= .seq ([]:List Value).toArray}).objs.size=I at *
 refine wpAny_bind ?_
 show wpAny _ A.in1 (updateSeq s.heap.objs.size (·.push .none)>>=fun _=>updateSeq s.heap.objs.size (·.pop)) _ _ {s with heap:=h2}
 refine wpAny_bind (wpAny_updateSeq hS1 rfl (wpAny_updateSeq (Heap.get?_update_self (Obj.mapSeq (·.push Value.none)) hS1 rfl) rfl ?_))
 have hS3:=Heap.get?_update_self (Obj.mapSeq (·.pop)) (Heap.get?_update_self (Obj.mapSeq (·.push Value.none)) hS1 rfl) rfl
 have oth:∀b o,b≠s.heap.objs.size->h2.get? b=some o->((h2.update s.heap.objs.size (Obj.mapSeq (·.push Value.none))).update s.heap.objs.size (Obj.mapSeq (·.pop))).get? b=some o:=
  fun b o hb e=>(Heap.get?_update_other _ _ (Ne.symm hb)).trans ((Heap.get?_update_other _ _ (Ne.symm hb)).trans e)
 have Wc:=W.toS
 refine wpAny_pure ⟨plainId_quiet PySem.F.plain_extend_loop _,codeAny_extend_loopS Wc hz _ hSf _ vs.length 0 _ _ _ rfl (Nat.zero_le _) (Wc.frame 0 {s with heap:=h2} _ s.toks ⟨hIt,hD2⟩ (Nat.le_refl _) fun b hb o e=>oth b o (fun y=>hSf (y▸hb)) e) hS3 (ItemsOf.nil _) fun s3 ac c' mv hS' hit=> ?_⟩
 show wpAny _ A (load s.heap.objs.size>>=_) _ _ s3
 refine wpAny_bind (wpAny_load hS' ?_)
 obtain⟨h5,g5,d5,tk5,os5⟩:=s3
 have g1:g5=s.gens:=mv.gens
 have g2:d5=s.drawn:=mv.drawn
 have g3:os5=s.os:=mv.os
 subst g1 g2 g3
 refine wpAny_pure (q ac.toList h5 tk5 (by rw[Array.length_toList];exact hit.1) (fun i u hu=> ?_) (fun b o' z=> ?_) (Heap.lt_size hS'))
 ·rw[Array.getElem?_toList] at hu
  exact hit.2 i u hu
 ·have hbl:=Heap.lt_size z
  refine mv.heap b o' (fun y=> ?_) (oth b o' (Nat.ne_of_lt hbl) (hk2 b o' z))
  rcases List.mem_cons.mp y with y | y
  ·exact Nat.lt_irrefl _ (y▸hbl)
  ·rw[List.mem_singleton.mp y,hsz] at hbl
   exact Nat.lt_irrefl _ (Nat.lt_of_succ_lt hbl)
end
end RB
namespace L2
open PySem PySem.Spec PyProof.Rows RB
section
variable {prog:Program}{w:World}{A:Around}{E:Value->Shared->Prop}{s:Shared}{κ:PyProof.Rows.KeyKind}
theorem HH (hO:κ.OneLt) {v:Value}{Q:Value->Shared->Prop}
 (hc:∀A',A'.handled=A.handled->wpAny (model prog w) A' (collect v) (fun vs s1=>KeysOf κ (pairsOf vs)/\(∀x y r,vs=x::y::r->keyKind' (x::y::r).toArray=pure oneType')/\vs.length<64/\
   ∀t:SortSt,(arrOf t).Perm (pairsOf vs)->SortedToK κ (arrOf t) (pairsOf vs).size->Q (.ref s1.heap.objs.size) {s1 with heap:=sortedHeap (s1.heap.push (seqObj "list" vs.toArray 0)) s1.heap.objs.size vs ((arrOf t).map (·.2))}) E s):
 wpAny (model prog w) A (call (.builtin "sorted") [v]) Q E s:=by
 refine Calls.call_function_entry kind_sorted plain_sorted entry_sorted (args_sorted1 _) ?_
 unfold Builtin.«sorted»
 refine wpAny_bind (m:=checkCount "sorted" 1 1 _) (wpAny_pure ?_)
 refine wpAny_bind (wpAny_mono (hc _ ?_) (fun vs s1 h=> ?_) fun _ _ e=>e)
 ·simp
 obtain⟨h0,hkk,hz,h⟩:=h
 refine wpAny_bind (wpAny_newList ?_)
 have hoL:(s1.heap.push (seqObj "list" vs.toArray 0)).get? s1.heap.objs.size=some (seqObj "list" vs.toArray 0):=Heap.get?_push_size _ rfl
 refine wpAny_bind (wpAny_holding (wpAny_call_entry slot_list_sort ⟨_,hoL,rfl⟩ entry_list_sort (list_sort_treeK (κ:=κ) hO hoL h0 hkk hz fun t t1 t2=>⟨_,rfl, ?_⟩) (args_list_sort _)))
 exact wpAny_pure ⟨_,rfl,h t t1 t2⟩
end
section
variable {X:Cx}{pins:List (Addr×Obj)}{σ:St}{H:Hp}{s:Shared}
theorem HJ {vs:List Value}{ss:List Str}{ts:List Str}{Q:VK}{h1:Heap}{tk:Nat} (I:Inv X pins σ H s) (hk:∀b o,s.heap.get? b=some o->h1.get? b=some o) (hsz:s.heap.objs.size<=h1.objs.size) (hS:StrsAre vs ss) (hp:ss.Perm ts) (hz:ts.length<=sizeLine)
 (q:∀(p:Addr) (us:List Str),H p=none->us.Perm ts->sortedS us=true->Q (.ref p) (upd H p (.lst (us.map V.str)))) (t:SortSt) (t1:(arrOf t).Perm (pairsOf vs)) (t2:SortedToK PyProof.Rows.strKind (arrOf t) (pairsOf vs).size):
 EP X pins σ Q (.ref h1.objs.size) {s with heap:=sortedHeap (h1.push (seqObj "list" vs.toArray 0)) h1.objs.size vs ((arrOf t).map (·.2)),toks:=tk}:=by
 obtain⟨us,u1,u2,u3⟩:=sorted_out_str hS t1 t2
 have hn:(h1.push (seqObj "list" vs.toArray 0)).get? h1.objs.size=some (seqObj "list" vs.toArray 0):=Heap.get?_push_size _ rfl
 obtain⟨e,he⟩:=sortedHeap_at (out:=(arrOf t).map (·.2)) hn
 have kk:∀b o,s.heap.get? b=some o->(sortedHeap (h1.push (seqObj "list" vs.toArray 0)) h1.objs.size vs ((arrOf t).map (·.2))).get? b=some o:=fun b o z=>by
  have hb:=Heap.lt_size (hk b o z)
  rw[sortedHeap_old (Nat.ne_of_lt hb) (by rw[Heap.size_push];exact Nat.lt_succ_of_lt hb)]
  exact Heap.get?_push_of_some _ (hk b o z)
 have hl:(us.map V.str).length<=sizeLine:=by rw[List.length_map,u2.length_eq,hp.length_eq];exact hz
 exact⟨.ref h1.objs.size,_,(I.laid (t':=tk) (o:= .lst (us.map V.str)) kk hsz ⟨hl,_,e,vI u1,by rw[Array.toArray_toList];exact he⟩),rfl,q _ us (I.hok.fresh hsz) (u2.trans hp) u3⟩
end
section
variable {X:Cx}
theorem FZ (hc:X.calm=true):nW X (.builtin "sorted") (fun xs H Q=>∃(a:Addr) (kvs:List (Key×V)) (ts:List Str),xs=[.ref a]/\Rd H a (.dK kvs)/\kvs.length<64/\kvs.map (·.1)=ts.map Sum.inr/\∀(p:Addr) (us:List Str),H p=none->us.Perm ts->sortedS us=true->Q (.ref p) (upd H p (.lst (us.map V.str)))):=by
 intro pins s σ H xs us Q I r h
 obtain⟨a,kvs,ts,rfl,ha,h64,hts,q⟩:=h
 obtain⟨u,rfl,rx⟩:=vals1 r
 cases rx
 obtain⟨hz,lo,vs,hkv,hd⟩:=zV I.hok ha
 obtain⟨ep,hat⟩:=hd.dictAt
 obtain⟨hl,hvk⟩:=yq hkv
 have htl:ts.length=kvs.length:=by have:=congrArg List.length hts;simpa using this.symm
 refine HH (κ:=PyProof.Rows.strKind) strKind_oneLt fun A' hA=>O7 (hA.trans (I.ok.hd hc)) lo hat (by rw[<-hl];exact hz) fun us h1 tk hul hus hk hlt=> ?_
 have hS:StrsAre us ts:=by
  refine wV (wU (by rw[List.length_map,hul,<-hl,htl]) fun i v hv=> ?_)
  obtain⟨k,x,hx,hkk⟩:=hus i v hv
  obtain⟨y,hy⟩:=hvk i k x hx
  have e1:(kvs.map (·.1))[i]? =some k:=by rw[List.getElem?_map,hy];rfl
  rw[hts,List.getElem?_map] at e1
  cases ht:ts[i]? with
  | none=>rw[ht] at e1;cases e1
  | some t=>
    rw[ht] at e1
    have ek:k=Sum.inr t:=(Option.some.inj e1).symm
    subst ek
    exact⟨.str t,by rw[List.getElem?_map,ht];rfl,Ax (k:=Sum.inr t) (v:=v) (show zR (Sum.inr t) v=true from hkk)⟩
 have hvl:us.length=ts.length:=by rw[hul,<-hl,htl]
 have hz':ts.length<=sizeLine:=by rw[htl];exact hz
 refine⟨hS.keysOf,fun x y r e=>keyKind_strs (by rw[<-e];exact hS),by rw[hvl,htl];exact h64,fun t t1 t2=> ?_⟩
 exact HJ I hk (Nat.le_of_lt hlt) hS (List.Perm.refl _) hz' q t t1 t2
theorem JF (hc:X.calm=true):n8 X (.builtin "sorted") (fun xs H Q=>∃(a:Addr) (kvs:List (Key×V)) (ts:List Str),xs=[.ref a]/\Rd H a (.dK kvs)/\kvs.length<64/\kvs.map (·.1)=ts.map Sum.inr/\∀(p:Addr) (us:List Str),H p=none->us.Perm ts->sortedS us=true->Q (.ref p) (upd H p (.lst (us.map V.str)))):=⟨FZ hc⟩
end
end L2
set_option maxRecDepth 100000
namespace L2
open PySem PySem.Spec PyProof.Rows RB
def XF (K:PySem.W.Frag):R2:=fun x y H Q=>∃a b xs,x= .ref a/\y= .ref b/\SqL K H a xs/\SqL K H b []/\Q (.bl (!xs.isEmpty)) H
theorem Ma {X:Cx} (hu:X.A.units+64<cLine):QOp X (compareOp .NotEq) (XF X.K):=⟨fun pins s σ H x y v u Q I rx ry h=>by
 obtain⟨a,b,xs,rfl,rfl,ha,hb,q⟩:=h
 cases xs with
 | nil=>exact Jg hu pins s σ H _ _ v u Q I rx ry ⟨.list [], .list [], .lst ha .nil, .lst hb .nil,shaped_ints [],shaped_ints [],q⟩
 | cons x r=>
   cases rx
   cases ry
   obtain⟨its,rv,pl,_⟩:=I.list ha
   obtain⟨its',rv',pl',_⟩:=I.list hb
   cases rv
   cases rv'
   exact PySem.SeqAt.RcNeAt.lists_lengths pl.isList pl'.isList rfl (by omega) _ _ _ _ ⟨.bl true,H,I,rfl,q⟩⟩
end L2
namespace RB
open PySem L2 PySem.Spec PyProof.Rows
section
variable {n:Nat}{gv gv':Kn}{rc:Rn}{kn kn':Kn}{rm rm' rm1 rm2:Rm}
end
def unl (kn:Kn) (ps:List Rdp):List Str:=(ps.filter fun p=>decide (kn p.1≠some p.2)).map (·.1)
theorem R6 (kn:Kn) (ps:List Rdp):(unl kn ps).length<=ps.length:=by
 unfold unl
 rw[List.length_map]
 exact List.length_filter_le _ _
theorem Ga (kn:Kn) (ps qs:List Rdp):unl kn (ps++qs)=unl kn ps++unl kn qs:=by
 unfold unl
 rw[List.filter_append,List.map_append]
theorem R7 {kn:Kn}{p:Rdp} (h:kn p.1≠some p.2):unl kn [p]=[p.1]:=by simp[unl,h]
theorem O8 {kn:Kn}{p:Rdp} (h:kn p.1=some p.2):unl kn [p]=[]:=by simp[unl,h]
theorem Gb {kn:Kn}:∀{ps:List Rdp},(∀p∈ps,kn p.1=some p.2)->unl kn ps=[]
 |[],_=>rfl
 | p::ps,h=>by
   rw[show p::ps=[p]++ps from rfl,Ga,O8 (h p (by simp)),Gb fun q hq=>h q (by simp[hq])];rfl
theorem O9 {z:Str}{cs:List Str} (h:z∈cs):inV (.str z) (cs.map V.str)=true:=by
 unfold inV
 rw[List.any_map,List.any_eq_true]
 exact⟨z,h,by show(z==z)=true;exact beq_self_eq_true z⟩
theorem Mf (cs:List Str):(cs.map V.str).all um=true:=by
 rw[List.all_map,List.all_eq_true]
 exact fun _ _=>rfl
end RB
set_option maxRecDepth 100000
namespace L2
open PySem PySem.Spec PyProof.Rows RB
end L2
namespace RB
open PySem L2 PySem.Spec PyProof.Rows
theorem Ah.like {n:Nat}{gv gv':Kn}{rc:Rn} (h:Ah n gv rc) (e:∀x,gv' x=none ↔ gv x=none):Ah n gv' rc:=
 ⟨fun k hk=>(h.dom k hk).imp (fun z w=>z ((e _).mp w)) id,fun x hx=>h.gk x (fun w=>hx ((e x).mpr w)),h.rk,fun x hx=>h.dj x (fun w=>hx ((e x).mpr w)),fun h0 w=>h.g0 h0 ((e _).mp w)⟩
theorem oJ.mem {H:Hp}{ks:List (Key×V)}{n:Nat}{rm:Rm} (h:oJ H ks n rm) {rs:List Str} (k:gH ks rs) (x:Str):x∈rs ↔ rm x≠none:=by
 constructor
 ·intro hx z
  exact k.none.mp (h.w x z) hx
 ·intro hx
  cases e:rm x with
  | none=>exact absurd e hx
  | some q=>
    obtain⟨b,hb,_⟩:=h.v x q e
    refine Decidable.byContradiction fun z=> ?_
    rw[k.none.mpr z] at hb;cases hb
theorem XH {z:Str}{cs:List Str} (h:z∉cs):inV (.str z) (cs.map V.str)=false:=by
 unfold inV
 rw[List.any_map,List.any_eq_false]
 intro y hy w
 have w:(y==z)=true:=w
 exact h (by rw[<-eq_of_beq w];exact hy)
end RB
set_option maxRecDepth 100000
namespace RB
open PySem L2 PySem.Spec PyProof.Rows
def slJ (a b:Str):Prop:=a.cps.toList<b.cps.toList
theorem Gd (a:Str):¬slJ a a:=List.lt_irrefl _
theorem Et {a b c:Str} (h1:slJ a b) (h2:slJ b c):slJ a c:=List.lt_trans h1 h2
theorem Pa {a b:Str} (h:a.cps.toList=b.cps.toList):a=b:=by
 obtain⟨a⟩:=a;obtain⟨b⟩:=b
 exact congrArg Str.mk (Array.toList_inj.mp h)
theorem R8 {a b:Str} (h1:¬slJ a b) (h2:¬slJ b a):a=b:=Pa (List.le_antisymm (List.not_lt.mp h2) (List.not_lt.mp h1))
theorem JG {a b:Str} (h:¬slJ b a):a=b\/slJ a b:=by
 by_cases c:slJ a b
 ·exact .inr c
 ·exact .inl (R8 c h)
theorem yt:∀{us vs:List Str},us.Pairwise slJ->vs.Pairwise slJ->(∀x,x∈us ↔ x∈vs)->us=vs
 |[],[],_,_,_=>rfl
 |[],v::vs,_,_,h=>absurd ((h v).mpr List.mem_cons_self) (by simp)
 | u::us,[],_,_,h=>absurd ((h u).mp List.mem_cons_self) (by simp)
 | u::us,v::vs,hu,hv,h=>by
   have hu':=List.pairwise_cons.mp hu
   have hv':=List.pairwise_cons.mp hv
   have e:u=v:=by
    rcases List.mem_cons.mp ((h u).mp List.mem_cons_self) with z | z
    ·exact z
    ·rcases List.mem_cons.mp ((h v).mpr List.mem_cons_self) with y | y
     ·exact y.symm
     ·exact absurd (Et (hu'.1 v y) (hv'.1 u z)) (Gd u)
   subst e
   congr 1
   refine yt hu'.2 hv'.2 fun x=>⟨fun z=> ?_,fun z=> ?_⟩
   ·rcases List.mem_cons.mp ((h x).mp (List.mem_cons_of_mem _ z)) with y | y
    ·subst y;exact absurd (hu'.1 x z) (Gd x)
    ·exact y
   ·rcases List.mem_cons.mp ((h x).mpr (List.mem_cons_of_mem _ z)) with y | y
    ·subst y;exact absurd (hv'.1 x z) (Gd x)
    ·exact y
theorem Cr:∀(l:List Str) (p:Str),risingS p l=true->(∀x∈l,¬slJ x p)/\l.Pairwise fun a b=>¬slJ b a
 |[],p,_=>⟨fun x hx=>absurd hx (by simp),List.Pairwise.nil⟩
 | y::l,p,h=>by
   have h':(!ltCps y.cps.toList p.cps.toList&&risingS y l)=true:=h
   rw[Bool.and_eq_true] at h'
   have hy:¬slJ y p:=by
    have:=h'.1
    rw[ltCps_eq] at this
    simpa [slJ] using this
   obtain⟨k1,k2⟩:=Cr l y h'.2
   refine⟨fun x hx=> ?_,List.pairwise_cons.mpr ⟨k1,k2⟩⟩
   rcases List.mem_cons.mp hx with rfl | hx
   ·exact hy
   ·intro z
    rcases JG hy with e | e
    ·rw[e] at z;exact k1 x hx z
    ·exact k1 x hx (Et z e)
theorem Cu {l:List Str} (h:sortedS l=true):l.Pairwise fun a b=>¬slJ b a:=by
 cases l with
 | nil=>exact List.Pairwise.nil
 | cons p l=>
   obtain⟨k1,k2⟩:=Cr l p h
   exact List.pairwise_cons.mpr ⟨k1,k2⟩
theorem JH {us vs ts ws:List Str} (h1:us.Perm ts) (s1:sortedS us=true) (h2:vs.Perm ws) (s2:sortedS vs=true) (n1:ts.Nodup) (n2:ws.Nodup) (e:∀x,x∈ts ↔ x∈ws):us=vs:=by
 have hn1:us.Nodup:=h1.nodup_iff.mpr n1
 have hn2:vs.Nodup:=h2.nodup_iff.mpr n2
 refine yt (((Cu s1).and hn1).imp fun h=> ?_) (((Cu s2).and hn2).imp fun h=> ?_) fun x=>(h1.mem_iff.trans (e x)).trans h2.mem_iff.symm
 ·rcases JG h.1 with z | z
  ·exact absurd z h.2
  ·exact z
 ·rcases JG h.1 with z | z
  ·exact absurd z h.2
  ·exact z
end RB
set_option maxRecDepth 100000
namespace RB
open PySem L2 PySem.Spec PyProof.Rows
open Classical in
def qw (rm:Rm) (rc:Rn) (kn:Kn) (x:Str):Bool:=match rm x with
 | none=>true
 | some q=>decide (rc x≠some q.1)||q.2.1.any fun p=>decide (kn p.1≠some p.2)
def vR (rm:Rm) (kn:Kn) (x:Str):Bool:=match rm x with
 | none=>false
 | some q=>decide (kn x≠some q.2.2)
open Classical in
theorem Built.rk {n:Nat}{gv:Kn}{rc:Rn}{rm rmN:Rm}{ws:List Str}{kn:Kn}{rkn:Str->Bool} (b:Built n gv rc rm ws kn rmN rkn) {x:Str} (h:rmN x≠none):rkn x=qw rm rc kn x:=by
 cases e:rmN x with
 | none=>exact absurd e h
 | some q=>
   obtain⟨r,ps,v⟩:=q
   obtain⟨hrc,_,_,_,_⟩:=b.ok.b _ _ _ _ e
   obtain⟨_,rows,md⟩:=b.md _ _ _ _ e
   unfold qw
   cases hk:rkn x with
   | true=>
     rw[hk,if_pos rfl] at md
     cases e2:rm x with
     | none=>rfl
     | some q2=>
       obtain⟨r2,ps2,v2⟩:=q2
       simp only
       rcases md _ _ _ e2 with z | ⟨p,hp,u,hu,hne⟩
       ·symm
        rw[Bool.or_eq_true]
        left
        rw[hrc]
        exact decide_eq_true fun w=>z (Option.some.inj w).symm
       ·symm
        rw[Bool.or_eq_true]
        right
        rw[List.any_eq_true]
        exact⟨p,hp,by rw[hu];simpa using hne⟩
   | false=>
     rw[hk,if_neg (by decide)] at md
     rw[md]
     symm
     simp only
     rw[Bool.or_eq_false_iff]
     refine⟨by rw[hrc];simp, ?_⟩
     rw[List.any_eq_false]
     intro p hp
     rw[rows.s p hp];simp
theorem zq {gv ch:Kn} (h:∀x,ch x≠none->gv x≠none) (x:Str):gv.over ch x=none ↔ gv x=none:=by
 unfold Kn.over
 cases e:ch x with
 | none=>exact Iff.rfl
 | some v=>exact⟨fun z=>(nomatch z),fun z=>absurd z (h x (by rw[e];simp))⟩
def Ge:Sp:=fun vs H Q _=>∃(h g c rcd wl cd:Addr) (n:Nat) (gv ch:Kn) (rc:Rn) (kr kch:List (Key×V)) (rm:Rm) (ws ns:List Str),vs=[.ref h, .ref rcd, .ref wl, .ref cd]/\oG H h g c n gv rc/\n<=17/\H rcd=some (.dK kr)/\oJ H kr n rm/\H wl=some (.lst (ws.map V.str))/\(∀x∈ws,x∈nmK n)/\H cd=some (.dK kch)/\gH kch ns/\(∀x,cG kch (.inr x)=(ch x).map V.int)/\(∀x,ch x≠none->gv x≠none)/\
 ∀(t lm lo:Addr) (kn:Kn) (rmN:Rm) (rkn:Str->Bool) (sn:List Str) (H':Hp),aN H H'->H' t=some (.tup [.ref lm, .ref lo])->H lm=none->H lo=none->lm≠lo->H' lm=some (.lst ((sn.filter (qw rm rc kn)).map V.str))->H' lo=some (.lst (((sn.filter (qw rm rc kn)).filter (vR rm kn)).map V.str))->Built n (gv.over ch) rc rm ws kn rmN rkn->sn.Nodup->(∀x,x∈sn ↔ rmN x≠none)->Runs (gv.over ch) rc ws (kn0,[]) (kn,sn)->Q (.ref t) H'
theorem Cv {H H':Hp}{kg kc kch:List (Key×V)}{n:Nat}{gv ch:Kn}{rc:Rn}{ns:List Str} (bd:Bld H kg kc n gv rc) (s:aN H H') (k:gH kch ns) (hc:∀x,cG kch (.inr x)=(ch x).map V.int) (hs:∀x,ch x≠none->gv x≠none):Bld H' (gJ kg kch) kc n (gv.over ch) rc:=by
 have b:=bd.tups (aN.tups s)
 obtain⟨gs,cs,kg1,kc1,hl⟩:=b.k
 refine⟨b.ok.like (zq hs),⟨gs,cs,kg1.merge k.k fun x hx=> ?_,kc1,hl⟩,O6 b.g hc k,b.r,b.rn⟩
 refine Decidable.byContradiction fun w=> ?_
 have:=kg1.none.mpr w
 rw[b.g] at this
 cases e:gv x with
 | some v=>rw[e] at this;cases this
 | none=>
   cases e2:ch x with
   | some v=>exact hs x (by rw[e2];simp) e
   | none=>exact k.none.mp (by rw[hc,e2];rfl) hx
def Pb:Sp:=fun vs H Q _=>∃(h g c ft kd sd ol nl cd:Addr) (n:Nat) (gv ch:Kn) (rc:Rn) (kw ks kch:List (Key×V)) (kn:Kn) (rm:Rm) (us sn ns:List Str),vs=[.ref h, .ref ft, .ref nl, .ref cd]/\oG H h g c n gv rc/\n<=17/\H ft=some (.tup [.ref kd, .ref sd, .ref ol])/\H kd=some (.dK kw)/\(∀x,cG kw (.inr x)=(kn x).map V.int)/\H sd=some (.dK ks)/\oJ H ks n rm/\gH ks sn/\H ol=some (.lst (sn.map V.str))/\Ds n gv rc kn rm/\(∀x∈nmK n,kn x≠none)/\H nl=some (.lst (us.map V.str))/\(∀x,x∈us ↔ x∈nmK n)/\H cd=some (.dK kch)/\gH kch ns/\(∀x,cG kch (.inr x)=(ch x).map V.int)/\(∀x,ch x≠none->gv x≠none)/\∀H',aN H H'->Q (.bl true) H'
theorem HN {n:Nat}{gv:Kn}{rc:Rn}{kn kn2:Kn}{rm:Rm} (s:Ds n gv rc kn rm) {x:Str}{r:R}{ps:List Rdp}{v:Int} (e:rm x=some (r,ps,v)):qw rm rc kn2 x= !(unl kn2 ps).isEmpty:=by
 have hrc:=(s.b _ _ _ _ e).1
 rw[Bool.eq_iff_iff]
 unfold qw
 rw[e]
 simp only[hrc,ne_eq,not_true_eq_false,decide_false,Bool.false_or,List.any_eq_true,decide_eq_true_eq,Bool.not_eq_true',List.isEmpty_eq_false_iff]
 constructor
 ·rintro⟨p,hp,hne⟩ z
  unfold unl at z
  rw[List.map_eq_nil_iff,List.filter_eq_nil_iff] at z
  exact z p hp (by simpa using hne)
 ·intro z
  refine Classical.byContradiction fun w=>z (Gb fun p hp=> ?_)
  exact Classical.byContradiction fun q=>w ⟨p,hp,q⟩
theorem ints_of {zs:List Int}:∀{ys:List V},(∀v∈ys,v∈zs.map V.int)->∃ns:List Int,ys=ns.map V.int
 |[],_=>⟨[],rfl⟩
 | y::ys,h=>by
   obtain⟨ns,e⟩:=ints_of (ys:=ys) fun v hv=>h v (by simp[hv])
   obtain⟨z,_,hz⟩:=List.mem_map.mp (h y (by simp))
   exact⟨z::ns,by rw[List.map_cons,<-e,hz]⟩
theorem Pg {kvs:List (Key×V)}{ns:List Str} (h:gH kvs ns) (x:Str) (v:V):∃ns',gH (putK kvs (.inr x) v) ns':=by
 by_cases z:x∈ns
 ·exact⟨_,h.Fz z v⟩
 ·exact⟨_,h.rR z v⟩
end RB
set_option maxHeartbeats 4000000
namespace K41
open PySem L2 PySem.Spec PyProof.Rows RB
local macro_rules | `(tactic| walk_at "ne") => `(tactic| first | assumption | exact Ne.symm (by assumption) | exact aF (by assumption) (by assumption) | exact Ne.symm (aF (by assumption) (by assumption)))
local macro_rules | `(tactic| walk_at "heap") => `(tactic| first | assumption | exact ak | (refine (ao (by walk_at "ne")).trans ?_; walk_at "heap"))
local macro_rules | `(tactic| walk_at "side") => `(tactic| first | with_reducible rfl | rfl | assumption | exact SqL.of (by walk_at "heap") | exact SqT.of (by walk_at "heap") | exact Or.inl (SqL.of (by walk_at "heap")) | exact Or.inr (SqT.of (by walk_at "heap")) | exact pJ.str _ | exact pJ.int _ | exact pJ.bl _ | exact pJ.tup (by walk_at "heap") | exact Or.inl ⟨rfl, _, SqL.of (by walk_at "heap")⟩ | exact Or.inl ⟨_, SqL.of (by walk_at "heap"), rfl⟩ | exact aaR _ | exact Or.inl (by assumption) | exact Or.inr (by assumption) | walk_at "heap" | omega | (show _ ≤ sizeLine; decide) | (show _ < sizeLine; decide) | exact Or.inr ⟨by decide, by decide⟩ | exact Or.inl ⟨by decide, by decide⟩ | exact Or.inl ⟨by omega, by omega⟩ | exact Or.inr ⟨by omega, by omega⟩ | exact ⟨by omega, by decide⟩ | exact ⟨by omega, by assumption⟩ | exact ⟨by decide, by decide, by decide⟩ | exact ⟨_, SqT.of (by walk_at "heap")⟩ | exact ⟨_, SqL.of (by walk_at "heap")⟩ | (intro z; exact absurd (show (1 : Nat) = 0 from z.1) (by decide)) | (show Nat.log2 _ < 9000; decide +kernel) | ((rw [sizeLine_eq]); (try simp only [len_app]); omega) | exact Nat.le_of_lt (bN (by (simp only [List.length_cons, List.length_nil]); omega)) | decide +kernel)
local macro_rules | `(tactic| walk_at "v") => `(tactic| first
 | ((apply Exists.intro); (repeat apply Exists.intro); (refine And.intro ?_ ?_); walk_at "side")
 | ((refine And.intro ?_ ?_); walk_at "side"))
local macro_rules | `(tactic| walk_at "vs") => `(tactic| repeat walk_at "v")
def top (i:Nat):Stmt:=PySem.Challenge.pw_madeagain_k41_whole_reach_of_changes.main.body.getD i (.Pass ⟨0,0,0,0⟩)
def uF (i j:Nat):Stmt:=match top i with
 | .ClassDef _ _ _ b _ _ _ _ _ _ _=>b.getD j (.Pass ⟨0,0,0,0⟩)
 | _=> .Pass ⟨0,0,0,0⟩
section
local macro_rules | `(tactic| walk_at "side") => `(tactic| first | exact Fw _ _ _ | exact BJ _ _ _ | exact BK _ _ _ | exact UT _ _ _ | exact yp _ _ _ | exact Nat.le_of_ble_eq_true rfl)
variable {P:Program}{w:World}{K:PySem.W.Frag}{mg:Str->Option Value}{base:Heap}{C:Addr}
abbrev jx:Stmt:=top 5
theorem Mg:bR ["kind","r","s"] ["kind","r","s"] (aa jx):=⟨rfl,rfl,rfl,by decide +kernel,rfl,by decide +kernel,by decide +kernel⟩
theorem oN:aG (aa jx) "kind":=by decide +kernel
theorem pC:aG (aa jx) "r":=by decide +kernel
theorem pD:aG (aa jx) "s":=by decide +kernel
theorem Dt:(aa jx).names.lookup ("max":Str)=some NameKind.globalImplicit:=by decide +kernel
theorem Du:("max":Str)≠"__name__":=by decide +kernel
theorem Dv:(("max":Str)==("__debug__":Str))=false:=by decide +kernel
theorem Mh {f:Addr}{fd:FuncData} (mG:FnT K mg "joined" jx ["kind","r","s"] f fd) (T:Blt mg):bx P w K mg base CX0 1 f fd ["kind","r","s"] Kp:=by
 refine mG.F.okQ Mg (fun vs H Q E h=> ?_) (fun cdv A outer s H vs Q E hr h=> ?_)
 ·obtain⟨op,u,v,rfl,_⟩:=h
  rfl
 obtain⟨op,u,v,rfl,hm,q⟩:=h
 refine⟨_,(au (dO (cH gj (aj 0 oN) cU (bB _)) (aD (bU (cV lu (aj 1 pC) (aj 2 pD)))) cT)
  (au (dO (cH gj (aj 0 oN) cU (bB _)) (aD (bU (cV lW (aj 1 pC) (aj 2 pD)))) cT)
  (au (dO (cH gj (aj 0 oN) cU (bB _)) (aD (bU (cV rQ (aj 1 pC) (aj 2 pD)))) cT)
  (aD (bU (dF (Rh rfl) Dt T.aax WX (aU (aj 1 pC) (aU (aj 2 pD) aq)) Du Dv)))))), ?_⟩
 cases op with
 | plus=>walk_at "vs";exact q
 | minus=>walk_at "vs";exact q
 | times=>
   have hm:=hm rfl
   walk_at "vs";exact q
 | most=>walk_at "vs";exact q
abbrev bW:Stmt:=uF 6 0
theorem tW:bR ["self","r"] ["self","r"] (aa bW):=⟨rfl,rfl,rfl,by decide +kernel,rfl,by decide +kernel,by decide +kernel⟩
theorem gn:aG (aa bW) "self":=by decide +kernel
theorem qx:aG (aa bW) "r":=by decide +kernel
theorem tX {f:Addr}{fd:FuncData} (dN:fH K C "__init__" "Reckoning.__init__" bW ["self","r"] f fd) (rc:RkC K C):bx P w K mg base CX0 1 f fd ["self","r"] (Hj C):=by
 refine dN.F.okQ tW (fun vs H Q E h=> ?_) (fun cdv A outer s H vs Q E hr h=> ?_)
 ·obtain⟨a,dx,b,r,rfl,_⟩:=h
  rfl
 obtain⟨a,dx,b,r,rfl,e,hR,hw,q⟩:=h
 have kj:=rc.cl
 have nT:=rc.nT
 have nF:=rc.nF
 have nR:=rc.nR
 refine⟨_,(au (jQ (aj 0 gn) (gh (aU (aj 1 qx) aq)))
  (au (jQ (aj 0 gn) (gh aq))
  (aD (jQ (aj 0 gn) jU)))), ?_⟩
 walk_at "vs"
 intro a1 h1
 have e1:upd H a1 (.lst [V.ref b]) a=some (.ins C dx []):=(ao (aF e h1)).trans e
 walk_at "vs"
 intro a2 h2
 obtain⟨n2a,h2⟩:=fJ h2
 obtain⟨n21,h2⟩:=fJ h2
 have e2:upd (upd (upd H a1 (.lst [V.ref b])) a (.ins C dx (aM "todo" (.ref a1) []))) a2 (.lst []) a=some (.ins C dx (aM "todo" (.ref a1) [])):=(ao (Ne.symm n2a)).trans ak
 walk_at "vs"
 intro a3 h3
 obtain⟨n3a,h3⟩:=fJ h3
 obtain⟨n32,h3⟩:=fJ h3
 obtain⟨_,h3⟩:=fJ h3
 obtain⟨n31,h3⟩:=fJ h3
 have e3:upd (upd (upd (upd (upd H a1 (.lst [V.ref b])) a (.ins C dx (aM "todo" (.ref a1) []))) a2 (.lst [])) a (.ins C dx (aM "found" (.ref a2) (aM "todo" (.ref a1) [])))) a3 (.dK []) a=some (.ins C dx (aM "found" (.ref a2) (aM "todo" (.ref a1) []))):=(ao (Ne.symm n3a)).trans ak
 walk_at "vs"
 have n1a:a1≠a:=fun z=>by rw[z,e] at h1;cases h1
 refine q a1 a2 a3 _ (fun p o hp z=> ?_) h1 h2 h3 ⟨ak,⟨[.ref b], ?_, .cons (.r ?_) .nil⟩, ?_, ?_,Ne.symm n21, ?_⟩
 ·have hp:p≠a:=by simpa using hp
  rw[ao hp,ao (aF z h3),ao hp,ao (aF z h2),ao hp,ao (aF z h1)];exact z
 ·rw[ao n1a,ao (Ne.symm n31),ao n1a,ao (Ne.symm n21),ao n1a];exact ak
 ·refine hR.tups fun p xs z=> ?_
  have hp:p≠a:=fun y=>by rw[y,e] at z;cases z
  rw[ao hp,ao (aF z h3),ao hp,ao (aF z h2),ao hp,ao (aF z h1)];exact z
 ·rw[ao n2a,ao (Ne.symm n32),ao n2a];exact ak
 ·rw[ao n3a];exact ak
 ·show 0+0+2 *(wR r+0)<=10000;omega
abbrev aH:Stmt:=uF 6 2
theorem gq:bR ["self","step","kind","names","s","r"] ["self","step"] (aa aH):=⟨rfl,rfl,rfl,by decide +kernel,rfl,by decide +kernel,by decide +kernel⟩
theorem qy:Loc (aa aH) "kind":=by decide +kernel
theorem aJ:aG (aa aH) "step":=by decide +kernel
theorem cA:aG (aa aH) "kind":=by decide +kernel
theorem aO:aG (aa aH) "self":=by decide +kernel
theorem pM:Loc (aa aH) "names":=by decide +kernel
theorem jV:aG (aa aH) "names":=by decide +kernel
theorem rY:(aa aH).names.lookup ("len":Str)=some NameKind.globalImplicit:=by decide +kernel
theorem rZ:("len":Str)≠"__name__":=by decide +kernel
theorem su:(("len":Str)==("__debug__":Str))=false:=by decide +kernel
theorem uG:Loc (aa aH) "s":=by decide +kernel
theorem uH:Loc (aa aH) "r":=by decide +kernel
theorem o6:(aa aH).names.lookup ("joined":Str)=some NameKind.globalImplicit:=by decide +kernel
theorem uI:aG (aa aH) "s":=by decide +kernel
theorem uJ:aG (aa aH) "r":=by decide +kernel
theorem o7:(("joined":Str)==("__debug__":Str))=false:=by decide +kernel
theorem wY {f g:Addr}{fd gd:FuncData} (dR:fH K C "go_on" "Reckoning.go_on" aH ["self","step"] f fd) (mG:FnT K mg "joined" jx ["kind","r","s"] g gd) (Ph:bx P w K mg base CX0 1 g gd ["kind","r","s"] Kp)
 (T:Blt mg) (rc:RkC K C):bx P w K mg base CX0 2 f fd ["self","step"] (aaK C):=by
 refine dR.F.okQ gq (fun vs H Q E h=> ?_) (fun cdv A outer s H vs Q E hr h=> ?_)
 ·obtain⟨a,dx,a1,a2,a3,v,s,t,f,d,kn,c,rfl,_⟩:=h
  rfl
 obtain⟨a,dx,a1,a2,a3,v,st,t,fo,d,kn,c,rfl,rca,hst,hno,h1,hw,q⟩:=h
 have kj:=rc.cl
 have nT:=rc.nT
 have nF:=rc.nF
 have nR:=rc.nR
 have n13:=rca.n13
 have n23:=rca.n23
 obtain⟨e,⟨ws,e1,hws⟩,e2,e3,ne,hw0⟩:=id rca
 have e2:H a2=some (.lst (fo.map V.int)):=e2
 have e3:H a3=some (.dK (rdK d)):=e3
 refine⟨_,(au (cg (i:=2) gq.nd rfl qy (bz aL (aj 1 aJ) aA))
  (aD (dO (cH gj (aj 2 cA) cU (bB _)) (aD (fK (tH PySem.F.plainAttrs_list PySem.F.slot_list_append PySem.F.type_list_append iU (bw (aj 0 aO)) (jm (bz aL (aj 1 aJ) aA) aq)))) (aD (dO (cH gj (aj 2 cA) cU (bB _)) (aD (fK (tH PySem.F.plainAttrs_list PySem.F.slot_list_extend PySem.F.type_list_extend wO (bw (aj 0 aO)) (Hg (gh (G9 (gK (jl cU (jm (bz aL (aj 1 aJ) aA) (jm (bz aL (aj 1 aJ) aA) aq)))) (jm (bz aL (aj 1 aJ) aA) aq))) aq)))) (aD (dO (cH gj (aj 2 cA) cU (bB _)) (aD (fK (tH PySem.F.plainAttrs_list PySem.F.slot_list_extend PySem.F.type_list_extend wO (bw (aj 0 aO)) (Hg (gh (G9 (gK (jl cU (jm (bz aL (aj 1 aJ) aA) aq))) (jm (bz aL (aj 1 aJ) aA) aq))) aq)))) (aD (dO (cH gj (aj 2 cA) cU (bB _)) (aD (fK (tH PySem.F.plainAttrs_list PySem.F.slot_list_append PySem.F.type_list_append iU (bw (aj 0 aO)) (aeb (Nu (cH W7 (yZ PySem.F.plainAttrs_list PySem.F.slot_list_pop PySem.F.type_list_pop vG (bw (aj 0 aO))) aA (bB _)) (bz aL (aj 1 aJ) aA) (bz aL (aj 1 aJ) aA)) aq)))) (aD (dO (cH gj (aj 2 cA) cU (bB _)) (au (cg (i:=3) gq.nd rfl pM (bz aL (aj 1 aJ) aA))
  (aD (fK (tH PySem.F.plainAttrs_list PySem.F.slot_list_append PySem.F.type_list_append iU (bw (aj 0 aO)) (G9 (gK (jl cU (jm (bz aL (aj 3 jV) (cV lX (yZ PySem.F.plainAttrs_list PySem.F.slot_list_pop PySem.F.type_list_pop vG (bw (aj 0 aO))) (dF jw rY T.zW ux (aU (aj 3 jV) aq) rZ su))) aq))) aq))))) (aD (dO (cH gj (aj 2 cA) cU (bB _)) (au (cg (i:=4) gq.nd rfl uG (yZ PySem.F.plainAttrs_list PySem.F.slot_list_pop PySem.F.type_list_pop vG (bw (aj 0 aO))))
  (au (cg (i:=5) gq.nd rfl uH (yZ PySem.F.plainAttrs_list PySem.F.slot_list_pop PySem.F.type_list_pop vG (bw (aj 0 aO))))
  (aD (fK (tH PySem.F.plainAttrs_list PySem.F.slot_list_append PySem.F.type_list_append iU (bw (aj 0 aO)) (uA (aY (Ph.mono (by omega)) hr o6 mG.m mG.F.kp mG.b .nil bM (jm (bz aL (aj 1 aJ) aA) (aU (aj 5 uJ) (aU (aj 4 uI) aq))) o7) aq)))))) (aD (fK (tH PySem.F.plainAttrs_list PySem.F.slot_list_extend PySem.F.type_list_extend wO (bw (aj 0 aO)) (Hg (gh (G9 (gK (jl cU (aU (aj 2 cA) aq))) (jm (bz aL (aj 1 aJ) aA) (jm (bz aL (aj 1 aJ) aA) aq)))) aq))))))))))))))))), ?_⟩
 have hi:=h1.inv _ _ rfl
 have hlw:ws.length=t.length:=hws.length
 have hlt:=Ju t
 have hw1:d.length+fo.length+2 * wT t<=10000:=hw0
 cases hst with
 | @r b r hr'=>
   cases hr' with
   | @num _ n eb=>
     have hi:c=⟨t,fo++[n],d⟩:=hi
     have hz:(fo.map V.int).length<sizeLine:=by rw[List.length_map,sizeLine_eq];omega
     subst hi
     walk_at "vs"
     have b:But [a1,a2,a3] H (upd H a2 (.lst (fo.map V.int++[V.int n]))):=But.set _ (by simp)
     exact q _ b (rca.next b ((ao ne).trans e1) (hws.tups (rca.lists b)) (by rw[ak,List.map_append];rfl) ((ao (Ne.symm n23)).trans e3) hw)
   | rd eb=>exact absurd rfl (hno _)
   | @bin _ x y op ra rb eb hx hy=>
     have hi:c=⟨t++[.join op, .r rb, .r ra],fo,d⟩:=hi
     subst hi
     have hz:∀p:Addr,ws.length+[V.ref p,V.ref y,V.ref x].length<=sizeLine:=fun p=>by rw[sizeLine_eq];show ws.length+3<=_;omega
     have agl:atI [V.str op.word,V.ref x,V.ref y] 0=some (.str op.word):=iR (j:=0) rfl
     have agm:atI [V.str op.word,V.ref x,V.ref y] 1=some (.ref x):=iR (j:=1) rfl
     have agn:atI [V.str op.word,V.ref x,V.ref y] 2=some (.ref y):=iR (j:=2) rfl
     have fin:∀p1 p2,H p1=none->upd H p1 (.tup [V.str "join",V.str op.word]) p2=none->Q .non (upd (upd (upd H p1 (.tup [V.str "join",V.str op.word])) p2 (.lst [V.ref p1,V.ref y,V.ref x])) a1 (.lst (ws++[V.ref p1,V.ref y,V.ref x]))):=fun p1 p2 h1 h2=>by
      have b:But [a1,a2,a3] H (upd (upd (upd H p1 (.tup [V.str "join",V.str op.word])) p2 (.lst [V.ref p1,V.ref y,V.ref x])) a1 (.lst (ws++[V.ref p1,V.ref y,V.ref x]))):=(But.new _ h1).trans ((But.new _ h2).trans (But.set _ (by simp)))
      have tp:=rca.lists b
      have n1:p1≠a1:=fun z=>by rw[z,e1] at h1;cases h1
      have n2:p1≠p2:=fun z=>by rw[<-z,ak] at h2;cases h2
      have h2':=(fJ h2).2
      refine q _ b (rca.next b ak ((hws.tups tp).app (.cons (.join ?_) (.cons (.r (hy.tups tp)) (.cons (.r (hx.tups tp)) .nil)))) ?_ ?_ hw)
      ·rw[ao n1,ao n2];exact ak
      ·rw[ao (Ne.symm ne),ao (aF e2 h2'),ao (aF e2 h1)];exact e2
      ·rw[ao (Ne.symm n13),ao (aF e3 h2'),ao (aF e3 h1)];exact e3
     have ex1:∀p1,H p1=none->upd H p1 (.tup [V.str "join",V.str op.word]) a1=some (.lst ws):=fun p1 h1=>(ao (aF e1 h1)).trans e1
     have ex2:∀p1 p2,H p1=none->upd H p1 (.tup [V.str "join",V.str op.word]) p2=none->upd (upd H p1 (.tup [V.str "join",V.str op.word])) p2 (.lst [V.ref p1,V.ref y,V.ref x]) a1=some (.lst ws):=fun p1 p2 h1 h2=>(ao (aF (ex1 p1 h1) h2)).trans (ex1 p1 h1)
     have ez:∀p1,H p1=none->upd H p1 (.tup [V.str "join",V.str op.word]) b=some (.tup [V.str op.word,V.ref x,V.ref y]):=fun p1 h1=>(ao (aF eb h1)).trans eb
     cases op with
     | plus=>
       walk_at "vs"
       intro p1 h1
       have ez1:=ez p1 h1
       walk_at "vs"
       intro p2 h2
       have ex:=ex2 p1 p2 h1 h2
       have hz1:=hz p1
       walk_at "vs"
       exact fin p1 p2 h1 h2
     | minus=>
       walk_at "vs"
       intro p1 h1
       have ez1:=ez p1 h1
       walk_at "vs"
       intro p2 h2
       have ex:=ex2 p1 p2 h1 h2
       have hz1:=hz p1
       walk_at "vs"
       exact fin p1 p2 h1 h2
     | times=>
       walk_at "vs"
       intro p1 h1
       have ez1:=ez p1 h1
       walk_at "vs"
       intro p2 h2
       have ex:=ex2 p1 p2 h1 h2
       have hz1:=hz p1
       walk_at "vs"
       exact fin p1 p2 h1 h2
     | most=>
       walk_at "vs"
       intro p1 h1
       have ez1:=ez p1 h1
       walk_at "vs"
       intro p2 h2
       have ex:=ex2 p1 p2 h1 h2
       have hz1:=hz p1
       walk_at "vs"
       exact fin p1 p2 h1 h2
   | @pick _ x y z ra rb rc eb hx hy hz0=>
     have hi:c=⟨t++[.branch rb rc, .r ra],fo,d⟩:=hi
     subst hi
     have hz:∀p:Addr,ws.length+[V.ref p,V.ref x].length<=sizeLine:=fun p=>by rw[sizeLine_eq];show ws.length+2<=_;omega
     walk_at "vs"
     intro p1 h1
     have ez1:upd H p1 (.tup [V.str "branch",V.ref y,V.ref z]) b=some (.tup [V.str "pick",V.ref x,V.ref y,V.ref z]):=(ao (aF eb h1)).trans eb
     walk_at "vs"
     intro p2 h2
     have ex:upd (upd H p1 (.tup [V.str "branch",V.ref y,V.ref z])) p2 (.lst [V.ref p1,V.ref x]) a1=some (.lst ws):=(ao (aF e1 (fJ h2).2)).trans ((ao (aF e1 h1)).trans e1)
     have hz1:=hz p1
     walk_at "vs"
     have b:But [a1,a2,a3] H (upd (upd (upd H p1 (.tup [V.str "branch",V.ref y,V.ref z])) p2 (.lst [V.ref p1,V.ref x])) a1 (.lst (ws++[V.ref p1,V.ref x]))):=(But.new _ h1).trans ((But.new _ h2).trans (But.set _ (by simp)))
     have tp:=rca.lists b
     have n1:p1≠a1:=fun z=>by rw[z,e1] at h1;cases h1
     have n2:p1≠p2:=fun z=>by rw[<-z,ak] at h2;cases h2
     have h2':=(fJ h2).2
     refine q _ b (rca.next b ak ((hws.tups tp).app (.cons (.branch (by rw[ao n1,ao n2];exact ak) (hy.tups tp) (hz0.tups tp)) (.cons (.r (hx.tups tp)) .nil))) ?_ ?_ hw)
     ·rw[ao (Ne.symm ne),ao (aF e2 h2'),ao (aF e2 h1)];exact e2
     ·rw[ao (Ne.symm n13),ao (aF e3 h2'),ao (aF e3 h1)];exact e3
   | @cho _ x y ra ns eb hx hy=>
     have hi:c=⟨t++[.among ns, .r ra],fo,d⟩:=hi
     subst hi
     have hz:∀p:Addr,ws.length+[V.ref p,V.ref x].length<=sizeLine:=fun p=>by rw[sizeLine_eq];show ws.length+2<=_;omega
     walk_at "vs"
     intro p1 h1
     have ez1:upd H p1 (.tup [V.str "among",V.ref y]) b=some (.tup [V.str "choose",V.ref x,V.ref y]):=(ao (aF eb h1)).trans eb
     walk_at "vs"
     intro p2 h2
     have ex:upd (upd H p1 (.tup [V.str "among",V.ref y])) p2 (.lst [V.ref p1,V.ref x]) a1=some (.lst ws):=(ao (aF e1 (fJ h2).2)).trans ((ao (aF e1 h1)).trans e1)
     have hz1:=hz p1
     walk_at "vs"
     have b:But [a1,a2,a3] H (upd (upd (upd H p1 (.tup [V.str "among",V.ref y])) p2 (.lst [V.ref p1,V.ref x])) a1 (.lst (ws++[V.ref p1,V.ref x]))):=(But.new _ h1).trans ((But.new _ h2).trans (But.set _ (by simp)))
     have tp:=rca.lists b
     have n1:p1≠a1:=fun z=>by rw[z,e1] at h1;cases h1
     have n2:p1≠p2:=fun z=>by rw[<-z,ak] at h2;cases h2
     have h2':=(fJ h2).2
     refine q _ b (rca.next b ak ((hws.tups tp).app (.cons (.among (by rw[ao n1,ao n2];exact ak) (tp _ _ hy)) (.cons (.r (hx.tups tp)) .nil))) ?_ ?_ hw)
     ·rw[ao (Ne.symm ne),ao (aF e2 h2'),ao (aF e2 h1)];exact e2
     ·rw[ao (Ne.symm n13),ao (aF e3 h2'),ao (aF e3 h1)];exact e3
 | @branch b x y ra rb eb hx hy=>
   obtain⟨g,v,hf,hi⟩:=hi
   have hf:fo=g++[v]:=hf
   subst hf
   subst hi
   have hl:((g++[v]).map V.int)[((g++[v]).map V.int).length - 1]? =some (.int v):=by rw[List.map_append,List.length_append];exact List.getElem?_concat_length
   have hd:((g++[v]).map V.int).dropLast=g.map V.int:=by rw[List.map_append];exact List.dropLast_concat
   have hz:ws.length<sizeLine:=by rw[sizeLine_eq];omega
   walk_at "vs"
   rw[hd]
   have nb:b≠a2:=fun z=>by rw[z,e2] at eb;cases eb
   have eb1:upd H a2 (.lst (g.map V.int)) b=some (.tup [V.str "branch",V.ref x,V.ref y]):=(ao nb).trans eb
   have e11:upd H a2 (.lst (g.map V.int)) a1=some (.lst ws):=(ao ne).trans e1
   have fin:∀(z:Addr) (rz:R),IsR H z rz->rz=(if v>0 then ra else rb)->Q .non (upd (upd H a2 (.lst (g.map V.int))) a1 (.lst (ws++[V.ref z]))):=fun z rz hz1 hz2=>by
    subst hz2
    have b:But [a1,a2,a3] H (upd (upd H a2 (.lst (g.map V.int))) a1 (.lst (ws++[V.ref z]))):=(But.set _ (by simp)).trans (But.set _ (by simp))
    have tp:=rca.lists b
    exact q _ b (rca.next b ak ((hws.tups tp).app (.cons (.r (hz1.tups tp)) .nil)) ((ao (Ne.symm ne)).trans ak) ((ao (Ne.symm n13)).trans ((ao (Ne.symm n23)).trans e3)) hw)
   by_cases hv:0<v
   ·refine aaA hv ?_
    walk_at "vs"
    exact fin x ra hx (if_pos hv).symm
   ·refine aaB hv ?_
    walk_at "vs"
    exact fin y rb hy (if_neg hv).symm
 | @among b x ns eb hx=>
   obtain⟨g,v,y,hf,hy,hi⟩:=hi
   have hf:fo=g++[v]:=hf
   subst hf
   subst hi
   have hl:((g++[v]).map V.int)[((g++[v]).map V.int).length - 1]? =some (.int v):=by rw[List.map_append,List.length_append];exact List.getElem?_concat_length
   have hd:((g++[v]).map V.int).dropLast=g.map V.int:=by rw[List.map_append];exact List.dropLast_concat
   have hz:ws.length<sizeLine:=by rw[sizeLine_eq];omega
   have hln:(ns.map V.str).length=ns.length:=List.length_map _
   have hpos:0<((ns.map V.str).length:Int):=by
    rw[hln]
    cases ns with
    | nil=>simp[tK] at hy
    | cons n ns=>simp only[List.length_cons];omega
   have hat:atI (ns.map V.str) (v % ((ns.map V.str).length:Int))=some (.str y):=by
    rw[hln] at hpos ⊢
    have z0:=Int.emod_nonneg v (show(ns.length:Int)≠0 by omega)
    obtain⟨k,hk⟩:=Int.eq_ofNat_of_zero_le z0
    unfold tK at hy
    rw[hk] at hy ⊢
    exact iR (by rw[List.getElem?_map,show ns[k]? =some y from hy];rfl)
   have nx:x≠a2:=fun z=>by rw[z,e2] at hx;cases hx
   have ex1:upd H a2 (.lst (((g++[v]).map V.int).dropLast)) x=some (.tup (ns.map V.str)):=(ao nx).trans hx
   have e11:upd H a2 (.lst (((g++[v]).map V.int).dropLast)) a1=some (.lst ws):=(ao ne).trans e1
   walk_at "vs"
   intro p1 h1
   have e12:upd (upd H a2 (.lst (((g++[v]).map V.int).dropLast))) p1 (.tup [V.str "read",V.str y]) a1=some (.lst ws):=(ao (aF e11 h1)).trans e11
   walk_at "vs"
   have n1:p1≠a1:=fun z=>by rw[z,e11] at h1;cases h1
   obtain⟨n2,h1'⟩:=fJ h1
   have b:But [a1,a2,a3] H (upd (upd (upd H a2 (.lst (((g++[v]).map V.int).dropLast))) p1 (.tup [V.str "read",V.str y])) a1 (.lst (ws++[V.ref p1]))):=(But.set _ (by simp)).trans ((But.new _ h1).trans (But.set _ (by simp)))
   have tp:=rca.lists b
   refine q _ b (rca.next b ak ((hws.tups tp).app (.cons (.r (.rd ((ao n1).trans ak))) .nil)) ?_ ?_ hw)
   ·rw[ao (Ne.symm ne),ao (Ne.symm n2),ak,hd]
   ·rw[ao (Ne.symm n13),ao (aF e3 h1'),ao (Ne.symm n23)];exact e3
 | @join b op eb=>
   obtain⟨g,u,v,hf,hm,hi⟩:=hi
   have hf:fo=g++[u,v]:=hf
   subst hf
   subst hi
   have hl:((g++[u,v]).map V.int)[((g++[u,v]).map V.int).length - 1]? =some (.int v):=by simp
   have hd:((g++[u,v]).map V.int).dropLast=(g++[u]).map V.int:=by simp
   have hl2:((g++[u]).map V.int)[((g++[u]).map V.int).length - 1]? =some (.int u):=by simp
   have hd2:((g++[u]).map V.int).dropLast=g.map V.int:=by simp
   have hz:(g.map V.int).length<sizeLine:=by
    rw[List.length_map,sizeLine_eq]
    have:(g++[u,v]).length=g.length+2:=by rw[List.length_append];rfl
    omega
   have nb:b≠a2:=fun z=>by rw[z,e2] at eb;cases eb
   have na2:a≠a2:=fun z=>rca.ins (by simp[z])
   have hl3:(((g++[u,v]).map V.int).dropLast)[(((g++[u,v]).map V.int).dropLast).length - 1]? =some (.int u):=by rw[hd];exact hl2
   have hd3:(((g++[u,v]).map V.int).dropLast).dropLast=g.map V.int:=by rw[hd];exact hd2
   have hz3:((((g++[u,v]).map V.int).dropLast).dropLast).length<sizeLine:=by rw[hd3];exact hz
   walk_at "vs"
   have b:But [a1,a2,a3] H (upd H a2 (.lst (g.map V.int++[V.int (op.ap u v)]))):=But.set _ (by simp)
   have q1:=q _ b (rca.next b ((ao ne).trans e1) (hws.tups (rca.lists b)) (by rw[ak,List.map_append];rfl) ((ao (Ne.symm n23)).trans e3) hw)
   have eq:upd (upd (upd H a2 (.lst (((g++[u,v]).map V.int).dropLast))) a2 (.lst ((((g++[u,v]).map V.int).dropLast).dropLast))) a2 (.lst ((((g++[u,v]).map V.int).dropLast).dropLast++[V.int (op.ap u v)]))=upd H a2 (.lst (g.map V.int++[V.int (op.ap u v)])):=by rw[rK,rK,hd3]
   show Q .non (upd (upd (upd H a2 (.lst (((g++[u,v]).map V.int).dropLast))) a2 (.lst ((((g++[u,v]).map V.int).dropLast).dropLast))) a2 (.lst ((((g++[u,v]).map V.int).dropLast).dropLast++[V.int (op.ap u v)])))
   rw[eq]
   exact q1
end
section
local macro_rules | `(tactic| walk_at "side") => `(tactic| first | exact Fw _ _ _ | exact BJ _ _ _ | exact BK _ _ _ | exact UT _ _ _ | exact yp _ _ _ | exact Nat.le_of_ble_eq_true rfl)
variable {P:Program}{w:World}{K:PySem.W.Frag}{mg:Str->Option Value}{base:Heap}{C:Addr}
abbrev bI:Stmt:=uF 6 1
theorem mH:bR ["self","known","step"] ["self","known"] (aa bI):=⟨rfl,rfl,rfl,by decide +kernel,rfl,by decide +kernel,by decide +kernel⟩
theorem cF:aG (aa bI) "self":=by decide +kernel
theorem o8:Loc (aa bI) "step":=by decide +kernel
theorem bG:aG (aa bI) "step":=by decide +kernel
theorem gw:aG (aa bI) "known":=by decide +kernel
theorem uK {f g:Addr}{fd gd:FuncData} (cZ:fH K C "lacking" "Reckoning.lacking" bI ["self","known"] f fd) (dR:fH K C "go_on" "Reckoning.go_on" aH ["self","step"] g gd) (yu:bx P w K mg base CX0 2 g gd ["self","step"] (aaK C))
 (T:Blt mg) (rc:RkC K C):bx P w K mg base CX0 3 f fd ["self","known"] (Ob C):=by
 refine cZ.F.okQ mH (fun vs H Q E h=> ?_) (fun cdv A outer s H vs Q E hr h=> ?_)
 ·obtain⟨a,dx,a1,a2,a3,d,kn,n,c,c',rfl,_⟩:=h
  rfl
 obtain⟨a,dx,a1,a2,a3,dd,kn,n0,c0,c',rfl,XJ,⟨kvs,ed,hkn⟩,nd3,hn0,hhalt,q⟩:=h
 have kj:=rc.cl
 have nT:=rc.nT
 have nF:=rc.nF
 have nR:=rc.nR
 have hdS:dd∉[a1,a2,a3]:=fun z=>by
  obtain⟨ws,e1,_⟩:=XJ.e1
  have z:dd=a1\/dd=a2\/dd=a3:=by simpa using z
  rcases z with z | z | z
  ·rw[z,e1] at ed;cases ed
  ·rw[z,XJ.e2] at ed;cases ed
  ·exact nd3 z
 refine⟨_,(au (Bq PassesOwn.never (Bp (bw (aj 0 cF))) (au (cg (i:=2) mH.nd rfl o8 (yZ PySem.F.plainAttrs_list PySem.F.slot_list_pop PySem.F.type_list_pop vG (bw (aj 0 cF))))
  (aD (dO (cH zb (bz aL (aj 2 bG) aA) cU (bB _)) (aD (fK (m7 (aj 0 cF) kj dR.m (yu.mono (by omega)) hr dR.b .nil bM (aU (aj 2 bG) aq)))) (aD (dO (zg (dB hr) (bz aL (aj 2 bG) aA) (aj 1 gw)) (au (j9 (dB hr) (bw (aj 0 cF)) (bz aL (aj 2 bG) aA) (eF (dB hr) (aj 1 gw) (bz aL (aj 2 bG) aA)))
  (aD (fK (tH PySem.F.plainAttrs_list PySem.F.slot_list_append PySem.F.type_list_append iU (bw (aj 0 cF)) (jm (eF (dB hr) (aj 1 gw) (bz aL (aj 2 bG) aA)) aq))))) (au (fK (tH PySem.F.plainAttrs_list PySem.F.slot_list_append PySem.F.type_list_append iU (bw (aj 0 cF)) (aU (aj 2 bG) aq)))
  (aD (bU (bz aL (aj 2 bG) aA))))))))))
  (aD (bU Jh))), ?_⟩
 refine⟨fun n σ H'=>∃c t,σ=[some (.ref a),some (.ref dd),t]/\But [a1,a2,a3] H H'/\RcAt H' a C dx a1 a2 a3 c/\StN kn n c c',
  ⟨n0,c0,none,rfl,But.refl _ _,XJ,hn0⟩, ?_⟩
 rintro n σ H1 ⟨c,t0,rfl,b1,rca,hst⟩
 have n13:=rca.n13
 have n23:=rca.n23
 have na:a∉[a1,a2,a3]:=rca.ins
 have na1:a≠a1:=fun z=>na (by simp[z])
 have na2:a≠a2:=fun z=>na (by simp[z])
 have na3:a≠a3:=fun z=>na (by simp[z])
 obtain⟨e,⟨ws,e1,hws⟩,e2,e3,ne,hw0⟩:=id rca
 have ed1:=b1 _ _ hdS ed
 rcases List.eq_nil_or_concat c.todo with hnil | ⟨t,st,hs⟩
 ·rw[hnil] at hws
  cases hws
  have ec:=hst.halt (.inl hnil)
  subst ec
  walk_at "vs"
  exact(q H1 b1 rca).1 hnil
 ·rw[List.concat_eq_append] at hs
  rw[hs] at hws
  obtain⟨us,v,rfl,hus,hv⟩:=hws.snoc
  have hlu:=hus.length
  have hlt:=Ju t
  have hw1:c.rds.length+c.found.length+2 * wT (t++[st])<=10000:=by have:=hw0;unfold Cf.w at this;rw[hs] at this;exact this
  rw[lA] at hw1
  have hl:(us++[v])[(us++[v]).length - 1]? =some v:=by simp
  have hd:(us++[v]).dropLast=us:=List.dropLast_concat
  have hne:(us++[v]).isEmpty=false:=by simp
  have hz:us.length<sizeLine:=by rw[sizeLine_eq];omega
  refine⟨_,rfl,a,C,dx,_, .ref a1,rfl,e,kj,nT,Fw _ _ _,true, .inl ⟨us++[v],SqL.of e1,by simp⟩, ?_⟩
  refine(if_pos (rfl:true=true)).mpr ?_
  cases hst with
  | zero=>
    rcases hhalt with h | ⟨t',x,h,hx⟩
    ·rw[hs] at h;simp at h
    ·rw[hs] at h
     obtain⟨rfl,rfl⟩:=jh h
     refine⟨fun _ _=>False,fun _ _ z=>z.elim, ?_⟩
     cases hv with
     | @r p _ hr'=>
     cases hr' with
     | rd ep=>
     have np:p≠a1:=fun z=>by rw[z,e1] at ep;cases ep
     have nda:dd≠a1:=fun z=>hdS (by simp[z])
     have g1:cI (upd H1 a1 (.lst (us++[V.ref p]).dropLast)) dd (.str x) none:=by
      have:=cI.k (H:=upd H1 a1 (.lst (us++[V.ref p]).dropLast)) (k:= .inr x) ((ao nda).trans ed1)
      rw[hkn,hx] at this
      exact this
     have hzd:((us++[V.ref p]).dropLast).length<sizeLine:=by rw[hd];exact hz
     walk_at "vs"
     have hq:=(q H1 b1 rca).2 _ x hs
     have eq:upd (upd H1 a1 (.lst (us++[V.ref p]).dropLast)) a1 (.lst ((us++[V.ref p]).dropLast++[V.ref p]))=H1:=by rw[rK,hd,Xr e1]
     show Q (.str x) (upd (upd H1 a1 (.lst (us++[V.ref p]).dropLast)) a1 (.lst ((us++[V.ref p]).dropLast++[V.ref p])))
     rw[eq]
     exact hq
  | @succ n _ c1 _ h1 ht=>
    have hi:=h1.inv _ _ hs
    refine⟨fun σ' H'=>Wr (∃c t,σ'=[some (.ref a),some (.ref dd),t]/\But [a1,a2,a3] H H'/\RcAt H' a C dx a1 a2 a3 c/\StN kn n c c'), ?_, ?_⟩
    ·rintro σ' H' ⟨h⟩
     exact⟨n,by omega,h⟩
    by_cases hrd:∃x,st= .r (.rd x)
    ·obtain⟨x,rfl⟩:=hrd
     obtain⟨val,hx,rfl⟩:=hi
     cases hv with
     | @r p _ hr'=>
     cases hr' with
     | rd ep=>
     have np:p≠a1:=fun z=>by rw[z,e1] at ep;cases ep
     have np3:p≠a3:=fun z=>by rw[z,e3] at ep;cases ep
     have nda:dd≠a1:=fun z=>hdS (by simp[z])
     have aej:dd≠a3:=fun z=>hdS (by simp[z])
     have ne2:a2≠a1:=Ne.symm ne
     have aek:a3≠a1:=Ne.symm n13
     have ael:a3≠a2:=Ne.symm n23
     have hv0:cG kvs (.inr x)=some (.int val):=by rw[hkn,hx];rfl
     have ed2:upd H1 a1 (.lst (us++[V.ref p]).dropLast) dd=some (.dK kvs):=(ao nda).trans ed1
     have e32:upd H1 a1 (.lst (us++[V.ref p]).dropLast) a3=some (.dK (rdK c.rds)):=(ao aek).trans e3
     have g1:cI (upd H1 a1 (.lst (us++[V.ref p]).dropLast)) dd (.str x) (some (.int val)):=by
      have:=cI.k (k:= .inr x) ed2
      rw[hv0] at this
      exact this
     have hlr:(rdK c.rds).length<sizeLine:=by rw[show(rdK c.rds).length=c.rds.length from List.length_map _,sizeLine_eq];omega
     have pt:lJ (upd H1 a1 (.lst (us++[V.ref p]).dropLast)) a3 (.str x) (.int val) (upd (upd H1 a1 (.lst (us++[V.ref p]).dropLast)) a3 (.dK (rdK (tV c.rds x val)))):=by
      have:=lJ.k (k:= .inr x) (v:= .int val) e32 hlr
      rw[Rp] at this
      exact this
     have ed3:upd (upd H1 a1 (.lst (us++[V.ref p]).dropLast)) a3 (.dK (rdK (tV c.rds x val))) dd=some (.dK kvs):=(ao aej).trans ed2
     have g2:cI (upd (upd H1 a1 (.lst (us++[V.ref p]).dropLast)) a3 (.dK (rdK (tV c.rds x val)))) dd (.str x) (some (.int val)):=by
      have:=cI.k (k:= .inr x) ed3
      rw[hv0] at this
      exact this
     have hzf:(c.found.map V.int).length<sizeLine:=by rw[List.length_map,sizeLine_eq];omega
     walk_at "vs"
     have b2:But [a1,a2,a3] H1 (upd (upd (upd H1 a1 (.lst (us++[V.ref p]).dropLast)) a3 (.dK (rdK (tV c.rds x val)))) a2 (.lst (c.found.map V.int++[V.int val]))):=(But.set _ (by simp)).trans ((But.set _ (by simp)).trans (But.set _ (by simp)))
     have tp:=rca.lists b2
     refine⟨⟨⟨t,c.found++[val],tV c.rds x val⟩,_,rfl,b1.trans b2,rca.next b2 (ws:=us) ?_ (hus.tups tp) ?_ ?_ (Nat.le_trans h1.w hw0),ht⟩⟩
     ·rw[ao ne,ao n13,ak,hd]
     ·rw[ak,List.map_append];rfl
     ·rw[ao ael,ak]
    ·have hno:∀x,st≠ .r (.rd x):=fun x z=>hrd ⟨x,z⟩
     obtain⟨p,k,xs,rfl,ep,hk⟩:=hv.hd hno
     have np:p≠a1:=fun z=>by rw[z,e1] at ep;cases ep
     have at0:atI (V.str k::xs) 0=some (.str k):=iR (j:=0) rfl
     walk_at "vs"
     refine aaC (fun z=>hk (V.str.inj z)) ?_
     have b2:But [a1,a2,a3] H1 (upd H1 a1 (.lst (us++[V.ref p]).dropLast)):=But.set _ (by simp)
     have tp:=rca.lists b2
     have rc2:RcAt (upd H1 a1 (.lst (us++[V.ref p]).dropLast)) a C dx a1 a2 a3 ⟨t,c.found,c.rds⟩:=rca.next b2 (ws:=us) (by rw[ak,hd]) (hus.tups tp) ((ao (Ne.symm ne)).trans e2) ((ao (Ne.symm n13)).trans e3) (by show c.rds.length+c.found.length+2 * wT t<=10000;omega)
     have h1':St1 kn ⟨t++[st],c.found,c.rds⟩ c1:=by rw[<-hs];exact h1
     have hv2:=hv.tups tp
     have hwc:=Nat.le_trans h1.w hw0
     walk_at "vs"
     intro H3 b3 rc3
     exact⟨⟨c1,_,rfl,b1.trans (b2.trans b3),rc3,ht⟩⟩
end
section
variable {P:Program}{w:World}{K:PySem.W.Frag}{mg:Str->Option Value}{base:Heap}
abbrev bO:Stmt:=top 8
theorem wZ:bR ["thing"] ["thing"] (aa bO):=⟨rfl,rfl,rfl,by decide +kernel,rfl,by decide +kernel,by decide +kernel⟩
theorem iJ:(aa bO).names.lookup ("isinstance":Str)=some NameKind.globalImplicit:=by decide +kernel
theorem qz:(aa bO).names.lookup ("bool":Str)=some NameKind.globalImplicit:=by decide +kernel
theorem qC:("bool":Str)≠"__name__":=by decide +kernel
theorem qD:(("bool":Str)==("__debug__":Str))=false:=by decide +kernel
theorem jW:aG (aa bO) "thing":=by decide +kernel
theorem iK:("isinstance":Str)≠"__name__":=by decide +kernel
theorem iM:(("isinstance":Str)==("__debug__":Str))=false:=by decide +kernel
theorem sy:(aa bO).names.lookup ("int":Str)=some NameKind.globalImplicit:=by decide +kernel
theorem sE:("int":Str)≠"__name__":=by decide +kernel
theorem sG:(("int":Str)==("__debug__":Str))=false:=by decide +kernel
theorem w6 {f:Addr}{fd:FuncData} (aV:FnT K mg "is_whole_number" bO ["thing"] f fd) (T:Blt mg) (kd:Kinds K):bx P w K mg base CX0 1 f fd ["thing"] (Fq K):=by
 refine aV.F.okQ wZ (fun vs H Q E h=> ?_) (fun cdv A outer s H vs Q E hr h=> ?_)
 ·obtain⟨v,t,rfl,_⟩:=h
  rfl
 obtain⟨v,t,rfl,ht,q⟩:=h
 refine⟨_,(aD (bU (Ff (dF zc iJ T.jG ji (aU (aj 0 jW) (aU (vD (v:= .ty "int") sy T.aau W2 rfl sE sG) aq)) iK iM) (Jj (W4 (dF zc iJ T.jG ji (aU (aj 0 jW) (aU (vD (v:= .ty "bool") qz T.W8 Q4 rfl qC qD) aq)) iK iM)))))), ?_⟩
 have h1:=ht.ty
 have h2:=ht.isi kd (c:="int") (by simp[tys])
 have h3:=ht.isi kd (c:="bool") (by simp[tys])
 walk_at "vs"
 cases ht with
 | bl b=>walk_at "vs";exact q
 | int i=>walk_at "vs";exact q
 | non=>exact q
 | str x=>exact q
 | tup e h=>exact q
 | oth h hT k=>rcases hT with rfl | rfl<;>exact q
abbrev dD:Stmt:=top 9
theorem JK:bR ["told","thing"] ["told","thing"] (aa dD):=⟨rfl,rfl,rfl,by decide +kernel,rfl,by decide +kernel,by decide +kernel⟩
theorem gC:(aa dD).names.lookup ("isinstance":Str)=some NameKind.globalImplicit:=by decide +kernel
theorem qF:(aa dD).names.lookup ("tuple":Str)=some NameKind.globalImplicit:=by decide +kernel
theorem qG:("tuple":Str)≠"__name__":=by decide +kernel
theorem qH:(("tuple":Str)==("__debug__":Str))=false:=by decide +kernel
theorem fV:aG (aa dD) "told":=by decide +kernel
theorem gD:("isinstance":Str)≠"__name__":=by decide +kernel
theorem gF:(("isinstance":Str)==("__debug__":Str))=false:=by decide +kernel
theorem uL:(aa dD).names.lookup ("len":Str)=some NameKind.globalImplicit:=by decide +kernel
theorem uM:("len":Str)≠"__name__":=by decide +kernel
theorem uN:(("len":Str)==("__debug__":Str))=false:=by decide +kernel
theorem eZ:aG (aa dD) "thing":=by decide +kernel
theorem Cw:(aa dD).names.lookup ("all":Str)=some NameKind.globalImplicit:=by decide +kernel
theorem Cy:(aa dD).names.lookup ("zip":Str)=some NameKind.globalImplicit:=by decide +kernel
theorem xg:(("is_same":Str)==("__debug__":Str))=false:=by decide +kernel
theorem Cz:("all":Str)≠"__name__":=by decide +kernel
theorem CG:(("all":Str)==("__debug__":Str))=false:=by decide +kernel
theorem jy:(aa dD).names.lookup ("is_whole_number":Str)=some NameKind.globalImplicit:=by decide +kernel
theorem jz:(("is_whole_number":Str)==("__debug__":Str))=false:=by decide +kernel
theorem uO:(aa dD).names.lookup ("str":Str)=some NameKind.globalImplicit:=by decide +kernel
theorem uP:("str":Str)≠"__name__":=by decide +kernel
theorem uQ:(("str":Str)==("__debug__":Str))=false:=by decide +kernel
theorem yw {d:Nat}{f g0:Addr}{fd gd0:FuncData} (fc:FnT K mg "is_same" dD ["told","thing"] f fd) (zu:bx P w K mg base CX0 (d+1) f fd ["told","thing"] (fun vs H Q E=>0<d/\FN K (d - 1) vs H Q E))
 (aV:FnT K mg "is_whole_number" bO ["thing"] g0 gd0) (fL:bx P w K mg base CX0 1 g0 gd0 ["thing"] (Fq K)) (T:Blt mg) (kd:Kinds K):
 bx P w K mg base CX0 (d+2) f fd ["told","thing"] (FN K d):=by
 refine fc.F.okQ JK (fun vs H Q E h=> ?_) (fun cdv A outer s H vs Q E hr h=> ?_)
 ·obtain⟨v,t,v',t',rfl,_⟩:=h
  rfl
 obtain⟨v,t,v',t',rfl,ht,hu,hd,q⟩:=h
 refine⟨_,(au (dO (uy (dF zc gC T.jG ji (aU (aj 0 fV) (aU (vD (v:= .ty "tuple") qF T.Fp Bl rfl qG qH) aq)) gD gF)) (au (dO (Dq (Eh (Ji (uy (dF zc gC T.jG ji (aU (aj 1 eZ) (aU (vD (v:= .ty "tuple") qF T.Fp Bl rfl qG qH) aq)) gD gF))) (yX (cH zb (dF jw uL T.zW ux (aU (aj 0 fV) aq) uM uN) (dF jw uL T.zW ux (aU (aj 1 eZ) aq) uM uN) (bB _))))) (aD (bU Bm)) cT)
  (aD (bU (dF (Rg rfl) Cw T.aaw W0 (aaH (pA rfl (n:=2) (fr:=[]) (N:=["part","other"]) (yh (scX:=aa dD) (NX:=["told","thing"]) rfl rfl (by decide +kernel)) (RL Cy T.aay (aU (aj 0 fV) (aU (aj 1 eZ) aq))) (fun _ _ _ _ _=>(Km (K:=K) (n:=2) rfl rfl (qp (qgx (i:=0) (show List.Nodup (α:=Str) ["part","other"] by decide) (Bk (by decide +kernel))) (qp (qgx (i:=1) (show List.Nodup (α:=Str) ["part","other"] by decide) (Bk (by decide +kernel))) Fi)))) (fun _ _ _ _ _=>Nx) (fun _ _ _ _ _=>(aY (zu.mono (by omega)) hr (glC (by decide +kernel)) fc.m fc.F.kp fc.b .nil bM (aU (aj 0 (ir.ok (by decide +kernel))) (aU (aj 1 (ir.ok (by decide +kernel))) aq)) xg))) aq) Cz CG)))) cT)
  (au (dO (uy (aY (fL.mono (by omega)) hr jy aV.m aV.F.kp aV.b .nil bM (aU (aj 0 fV) aq) jz)) (aD (bU (Ff (aY (fL.mono (by omega)) hr jy aV.m aV.F.kp aV.b .nil bM (aU (aj 1 eZ) aq) jz) (Jj (Bo gj (aj 0 fV) (aj 1 eZ) (bB _)))))) cT)
  (aD (bU (Ff (dF zc gC T.jG ji (aU (aj 0 fV) (aU (vD (v:= .ty "str") uO T.Uz Nr rfl uP uQ) aq)) gD gF) (Ff (dF zc gC T.jG ji (aU (aj 1 eZ) (aU (vD (v:= .ty "str") uO T.Uz Nr rfl uP uQ) aq)) gD gF) (Jj (Bo gj (aj 0 fV) (aj 1 eZ) (bB _))))))))), ?_⟩
 have h1:=ht.ty
 have h2:=ht.isi kd (c:="tuple") (by simp[tys])
 have h3:=ht.isi kd (c:="str") (by simp[tys])
 have g1:=hu.ty
 have g2:=hu.isi kd (c:="tuple") (by simp[tys])
 have g3:=hu.isi kd (c:="str") (by simp[tys])
 walk_at "vs"
 have ht2:=ht
 cases ht2 with
 | @tup a vs ts ea ha=>
   have ct:NK (G7 (.tup ts)) "tuple"=true:=rfl
   rw[ct]
   walk_at "vs"
   have hu2:=hu
   cases hu2 with
   | @tup b us rs eb hb=>
     have cu:NK (G7 (.tup rs)) "tuple"=true:=rfl
     rw[cu]
     walk_at "vs"
     have l1:=ha.length
     have l2:=hb.length
     by_cases hl:vs.length=us.length
     ·refine aaE (by rw[hl];simp) ?_
      walk_at "vs"
      intro D hD
      have hd0:0<d:=by
       cases d with
       | zero=>exact absurd hd (by simp[DpT])
       | succ d=>omega
      obtain⟨d,rfl⟩:∃e,d=e+1:=⟨d - 1,by omega⟩
      obtain⟨hd1,hd2⟩:ts.length<=1000/\∀t∈ts,DpT d t:=hd
      have nDa:a≠D:=fun z=>by rw[z,hD] at ea;cases ea
      have nDb:b≠D:=fun z=>by rw[z,hD] at eb;cases eb
      refine Ly (fun i σ' H'=>(∃t1 t2,σ'=[t1,t2])/\H' D=some (.lst (((List.zipWith cY ts rs).take i).map V.bl))/\aN H H') hl ?_ ?_ ?_ ?_
      ·exact⟨⟨none,none,rfl⟩,ak,aC _ hD⟩
      ·intro i σ' H' hi hP
       exact⟨SqT.of (hP.2.2 _ _ ea),SqT.of (hP.2.2 _ _ eb)⟩
      ·intro i x y T0 σ' H' hx hy hP hT
       obtain⟨⟨t1,t2,rfl⟩,eD,kp⟩:=hP
       obtain⟨hi1,tx⟩:=ha.at hx
       obtain⟨hi2,ty⟩:=hb.at hy
       have S0:=kp.trans (aC (.tup [x,y]) hT)
       have tx0:=tx.same S0
       have ty0:=ty.same S0
       have dx:=hd2 _ (List.getElem_mem hi1)
       have eT:upd H' T0 (.tup [x,y]) T0=some (.tup [x,y]):=ak
       have eD0:=(aC (.tup [x,y]) hT) _ _ eD
       generalize upd H' T0 (.tup [x,y])=H0 at *
       walk_at "vs"
       intro H5 S5
       have eD5:=S5 _ _ eD0
       refine⟨_,eD5, ?_,⟨_,_,rfl⟩, ?_, ?_⟩
       ·rw[List.length_map,List.length_take];exact bN (by omega)
       ·rw[ak,<-Lz cY hi1 hi2,List.map_append];rfl
       ·exact d7 _ hD (S0.trans S5)
      ·intro σ' H' hP
       obtain⟨_,eD,kp⟩:=hP
       rw[List.take_of_length_le (by simp;omega)] at eD
       have eq:cY (.tup ts) (.tup rs)=((List.zipWith cY ts rs).all id):=by rw[cY];exact Ca (by omega)
       rw[eq] at q
       walk_at "vs"
       exact q _ kp
     ·refine aaD (by simp;omega) ?_
      rw[show cY (.tup ts) (.tup rs)=false from by rw[cY];exact BZ (by omega)] at q
      walk_at "vs"
      exact q _ (aN.refl _)
   | non=>walk_at "vs";exact q _ (aN.refl _)
   | bl b=>walk_at "vs";exact q _ (aN.refl _)
   | int i=>walk_at "vs";exact q _ (aN.refl _)
   | str x=>walk_at "vs";exact q _ (aN.refl _)
   | oth h hT k=>rcases hT with rfl | rfl<;>walk_at "vs"<;>exact q _ (aN.refl _)
 | non=>walk_at "vs";exact q _ (aN.refl _)
 | bl b=>walk_at "vs";exact q _ (aN.refl _)
 | int i=>
   walk_at "vs"
   have hu2:=hu
   cases hu2 with
   | int j=>
     have ej:cY (.int i) (.int j)=decide (V.int i=V.int j):=by simp[cY]
     rw[ej] at q
     walk_at "vs";exact q _ (aN.refl _)
   | non=>walk_at "vs";exact q _ (aN.refl _)
   | bl b=>walk_at "vs";exact q _ (aN.refl _)
   | str x=>walk_at "vs";exact q _ (aN.refl _)
   | tup e h=>walk_at "vs";exact q _ (aN.refl _)
   | oth h hT k=>rcases hT with rfl | rfl<;>walk_at "vs"<;>exact q _ (aN.refl _)
 | str x=>
   walk_at "vs"
   have hu2:=hu
   cases hu2 with
   | str y=>
     have ej:cY (.str x) (.str y)=decide (V.str x=V.str y):=by simp[cY]
     rw[ej] at q
     walk_at "vs";exact q _ (aN.refl _)
   | non=>walk_at "vs";exact q _ (aN.refl _)
   | bl b=>walk_at "vs";exact q _ (aN.refl _)
   | int j=>walk_at "vs";exact q _ (aN.refl _)
   | tup e h=>walk_at "vs";exact q _ (aN.refl _)
   | oth h hT k=>rcases hT with rfl | rfl<;>walk_at "vs"<;>exact q _ (aN.refl _)
 | oth h hT k=>rcases hT with rfl | rfl<;>walk_at "vs"<;>exact q _ (aN.refl _)
theorem CJ {f g0:Addr}{fd gd0:FuncData} (fc:FnT K mg "is_same" dD ["told","thing"] f fd)
 (aV:FnT K mg "is_whole_number" bO ["thing"] g0 gd0) (fL:bx P w K mg base CX0 1 g0 gd0 ["thing"] (Fq K)) (T:Blt mg) (kd:Kinds K):
 ∀d,bx P w K mg base CX0 (d+2) f fd ["told","thing"] (FN K d)
 | 0=>yw fc (never fun vs H Q E h=>absurd h.1 (by omega)) aV fL T kd
 | d+1=>yw fc ((CJ fc aV fL T kd d).imp fun vs H Q E h=>h.2) aV fL T kd
end
section
local macro_rules | `(tactic| walk_at "side") => `(tactic| first | exact vL _ _ _ _ | exact rT _ _ _ _ | exact vM _ _ _ _ | exact m9 _ _ _ _ | exact (fQ _ _ _ _).1 | exact (fQ _ _ _ _).2.1 | exact (fQ _ _ _ _).2.2.1 | exact (fQ _ _ _ _).2.2.2 | exact Nat.le_of_ble_eq_true rfl)
variable {P:Program}{w:World}{K:PySem.W.Frag}{mg:Str->Option Value}{base:Heap}{CN CS CR:Addr}
abbrev bh:Stmt:=uF 11 0
theorem pN:bR ["self","records"] ["self","records"] (aa bh):=⟨rfl,rfl,rfl,by decide +kernel,rfl,by decide +kernel,by decide +kernel⟩
theorem mJ:aG (aa bh) "self":=by decide +kernel
theorem lB:aG (aa bh) "records":=by decide +kernel
theorem pO {f:Addr}{fd:FuncData} (bC:fH K CN "__init__" "NamedRecords.__init__" bh ["self","records"] f fd) (nc:NrC K CN):bx P w K mg base CX0 1 f fd ["self","records"] (Cg CN):=by
 refine bC.F.okQ pN (fun vs H Q E h=> ?_) (fun cdv A outer s H vs Q E hr h=> ?_)
 ·obtain⟨a,dx,rcd,rfl,_⟩:=h
  rfl
 obtain⟨a,dx,rcd,rfl,e,q⟩:=h
 have jX:=nc.cl
 have nB:=nc.nB
 refine⟨_,(aD (jQ (aj 0 mJ) (aj 1 lB))), ?_⟩
 walk_at "vs"
 exact q _ (But.set _ (by simp)) ak
abbrev cB:Stmt:=uF 11 2
theorem pP:bR ["self","record"] ["self","record"] (aa cB):=⟨rfl,rfl,rfl,by decide +kernel,rfl,by decide +kernel,by decide +kernel⟩
theorem pQ {f:Addr}{fd:FuncData} (cC:fH K CN "put_made" "NamedRecords.put_made" cB ["self","record"] f fd):bx P w K mg base CX0 1 f fd ["self","record"] U5:=by
 refine cC.F.okQ pP (fun vs H Q E h=> ?_) (fun cdv A outer s H vs Q E hr h=> ?_)
 ·obtain⟨⟨v,w,rfl⟩,_⟩:=h
  rfl
 obtain⟨⟨v,w,rfl⟩,q⟩:=h
 refine⟨_,(aD Q9), ?_⟩
 exact q
abbrev aK:Stmt:=uF 11 1
theorem ni:bR ["self","name","r"] ["self","name","r"] (aa aK):=⟨rfl,rfl,rfl,by decide +kernel,rfl,by decide +kernel,by decide +kernel⟩
theorem jY:(aa aK).names.lookup ("is_same":Str)=some NameKind.globalImplicit:=by decide +kernel
theorem dU:aG (aa aK) "self":=by decide +kernel
theorem dW:aG (aa aK) "name":=by decide +kernel
theorem mK:aG (aa aK) "r":=by decide +kernel
theorem jZ:(("is_same":Str)==("__debug__":Str))=false:=by decide +kernel
theorem nj {f g0:Addr}{fd gd0:FuncData} (bQ:fH K CN "records_for" "NamedRecords.records_for" aK ["self","name","r"] f fd)
 (fc:FnT K mg "is_same" dD ["told","thing"] g0 gd0) (zu:bx P w K mg base CX0 12 g0 gd0 ["told","thing"] (FN K 10)) (T:Blt mg) (nc:NrC K CN):bx P w K mg base CX0 13 f fd ["self","name","r"] (Oq CN):=by
 refine bQ.F.okQ ni (fun vs H Q E h=> ?_) (fun cdv A outer s H vs Q E hr h=> ?_)
 ·obtain⟨o,dx,rcd,b,kr,n,rm,y,r,rfl,_⟩:=h
  rfl
 obtain⟨o,dx,rcd,b,kr,n,rm,y,r,rfl,eo,er,rD,hR,hg,hdp,q⟩:=h
 have jX:=nc.cl
 have nB:=nc.nB
 have lkB:List.lookup ("by_name":Str) (nrF rcd)=some (.ref rcd):=rfl
 refine⟨_,(au (dO (Dq (Fe (zg (dB hr) (aj 1 dW) (bw (aj 0 dU))) (Aw (uy (aY (zu.mono (by omega)) hr jY fc.m fc.F.kp fc.b .nil bM (aU (aj 2 mK) (jm (bz aL (eF (dB hr) (bw (aj 0 dU)) (aj 1 dW)) aA) aq)) jZ))))) (aD (bU (gh (jm (eF (dB hr) (bw (aj 0 dU)) (aj 1 dW)) aq)))) cT)
  (aD (bU (gh aq)))), ?_⟩
 have dr:cI H rcd (.str y) (cG kr (.inr y)):=cI.k (k:= .inr y) er
 cases erm:rm y with
 | none=>
   rw[rD.w y erm] at dr
   walk_at "vs"
   intro fl hfl
   exact q fl _ (aC _ hfl) hfl fun kn=> .inr ⟨ak,fun r' ps v e=>by rw[erm] at e;cases e⟩
 | some qq=>
   obtain⟨r',ps,v'⟩:=qq
   obtain⟨bb,hbb,br,l,as,e1,R1,el,hRs,_⟩:=rD.v y _ erm
   rw[hbb] at dr
   have e1:H bb=some (.tup [.ref br, .ref l, .int v']):=e1
   have R1:IsR H br r':=R1
   have hat:atI [V.ref br, .ref l, .int v'] 0=some (.ref br):=rfl
   have t1:m6 K H (.ref b) r.d9:=hR.aaF
   have t2:m6 K H (.ref br) r'.d9:=R1.aaF
   have dp:DpT 10 r.d9:=(r.dpT (kh hg)).mono (by omega)
   walk_at "vs"
   intro H1 s1
   have dr1:cI H1 rcd (.str y) (some (.ref bb)):=by rw[<-hbb];exact cI.k (k:= .inr y) (s1 _ _ er)
   have eo1:=s1 _ _ eo
   by_cases hrr:r=r'
   ·rw[RN hrr]
    subst hrr
    walk_at "vs"
    intro fl hfl
    exact q fl _ (s1.trans (aC _ hfl)) (same_none s1 hfl) fun kn=> .inl ⟨bb,ps,v',ak,hbb,erm,Nat.zero_le _,fun j p hj=>by omega⟩
   ·rw[RP hrr]
    walk_at "vs"
    intro fl hfl
    exact q fl _ (s1.trans (aC _ hfl)) (same_none s1 hfl) fun kn=> .inr ⟨ak,fun r2 ps2 v2 e=>by
     rw[erm] at e;cases e;exact .inl (Ne.symm hrr)⟩
abbrev bJ:Stmt:=uF 12 0
theorem uR:bR ["self","r","records"] ["self","r","records"] (aa bJ):=⟨rfl,rfl,rfl,by decide +kernel,rfl,by decide +kernel,by decide +kernel⟩
theorem eG:aG (aa bJ) "self":=by decide +kernel
theorem lC:aG (aa bJ) "r":=by decide +kernel
theorem mU:aG (aa bJ) "records":=by decide +kernel
theorem lQ:(aa bJ).names.lookup ("Reckoning":Str)=some NameKind.globalImplicit:=by decide +kernel
theorem lR:(("Reckoning":Str)==("__debug__":Str))=false:=by decide +kernel
theorem uT {f g0:Addr}{fd gd0:FuncData} (d8:fH K CS "__init__" "Settling.__init__" bJ ["self","r","records"] f fd)
 (dN:fH K CR "__init__" "Reckoning.__init__" bW ["self","r"] g0 gd0) (uU:bx P w K mg base CX0 1 g0 gd0 ["self","r"] (Hj CR))
 (uV:Mk K CR g0) (uW:mg "Reckoning"=some (.ref CR)) (sc:SeC K CS):bx P w K mg base CX0 3 f fd ["self","r","records"] (Hs CS CR):=by
 refine d8.F.okQ uR (fun vs H Q E h=> ?_) (fun cdv A outer s H vs Q E hr h=> ?_)
 ·obtain⟨a,dx,b,fl,r,rfl,_⟩:=h
  rfl
 obtain⟨a,dx,b,fl,r,rfl,e,hR,hw,q⟩:=h
 have iy:=sc.cl
 have nR:=sc.nR
 have nF:=sc.nF
 have nP:=sc.nP
 have nK:=sc.nK
 refine⟨_,(au (jQ (aj 0 eG) (aj 1 lC))
  (au (jQ (aj 0 eG) (aj 2 mU))
  (au (jQ (aj 0 eG) aA)
  (aD (jQ (aj 0 eG) (yo uV (uU.mono (by omega)) hr lQ uW dN.b .nil bM (aU (aj 1 lC) aq) lR)))))), ?_⟩
 walk_at "vs"
 have F3:upd (upd (upd H a (.ins CS dx (aM "recipe" (.ref b) []))) a (.ins CS dx (aM "fitting" (.ref fl) (aM "recipe" (.ref b) [])))) a (.ins CS dx (aM "place" (.int 0) (aM "fitting" (.ref fl) (aM "recipe" (.ref b) []))))=upd H a (.ins CS dx (aM "place" (.int 0) (aM "fitting" (.ref fl) (aM "recipe" (.ref b) [])))):=by rw[rK,rK]
 rw[F3]
 have b1:But [a] H (upd H a (.ins CS dx (aM "place" (.int 0) (aM "fitting" (.ref fl) (aM "recipe" (.ref b) []))))):=But.set _ (by simp)
 have t1:mR H (upd H a (.ins CS dx (aM "place" (.int 0) (aM "fitting" (.ref fl) (aM "recipe" (.ref b) []))))):=fun p xs z=>(ao (fun y=>by rw[y,e] at z;cases z)).trans z
 have e1:upd H a (.ins CS dx (aM "place" (.int 0) (aM "fitting" (.ref fl) (aM "recipe" (.ref b) [])))) a=some (.ins CS dx (aM "place" (.int 0) (aM "fitting" (.ref fl) (aM "recipe" (.ref b) [])))):=ak
 have n1:∀{z},upd H a (.ins CS dx (aM "place" (.int 0) (aM "fitting" (.ref fl) (aM "recipe" (.ref b) [])))) z=none->H z=none:=fun z=>(fJ z).2
 generalize upd H a (.ins CS dx (aM "place" (.int 0) (aM "fitting" (.ref fl) (aM "recipe" (.ref b) []))))=H1 at *
 intro rk dxr hrk hdxr hne
 have aem:(upd H1 dxr (.own rk)) rk=none:=(ao (Ne.symm hne)).trans hrk
 have S1:=(aC (.own rk) hdxr).trans (aC (.ins CR dxr []) aem)
 refine⟨rk,dxr,b,r,rfl,ak,(hR.tups t1).same S1,hw,fun a1 a2 a3 H2 b2 h1 h2 h3 rc2=>⟨rfl, ?_⟩⟩
 have h1:=same_none S1 h1
 have h2:=same_none S1 h2
 have h3:=same_none S1 h3
 have S2:aN H1 H2:=gQ S1 (fun p hp=>by
  have:p=rk:=by simpa using hp
  rw[this];exact hrk) b2
 have e2:=S2 _ _ e1
 have nak:a≠rk:=fun z=>by rw[<-z,e1] at hrk;cases hrk
 have na1:a≠a1:=fun z=>by rw[<-z,e1] at h1;cases h1
 have na2:a≠a2:=fun z=>by rw[<-z,e1] at h2;cases h2
 have na3:a≠a3:=fun z=>by rw[<-z,e1] at h3;cases h3
 walk_at "vs"
 have t3:mR H2 (upd H2 a (.ins CS dx (aM "reckoning" (.ref rk) (aM "place" (.int 0) (aM "fitting" (.ref fl) (aM "recipe" (.ref b) [])))))):=fun p xs z=>(ao (fun y=>by rw[y,e2] at z;cases z)).trans z
 refine q ⟨a,dx,b,fl,rk,dxr,a1,a2,a3,0⟩ _ ((b1.trans (But.of_same S2)).trans (But.set _ (by simp))) rfl rfl rfl rfl ak (rc2.move (S:=[a]) (But.set _ (by simp)) t3 ?_) ?_
 ·intro z hz w
  have w:z=a:=by simpa using w
  have hz:z=rk\/z=a1\/z=a2\/z=a3:=by simpa using hz
  rcases hz with y | y | y | y
  ·exact nak (w.symm.trans y)
  ·exact na1 (w.symm.trans y)
  ·exact na2 (w.symm.trans y)
  ·exact na3 (w.symm.trans y)
 ·intro z hz
  have hz:z=rk\/z=a1\/z=a2\/z=a3:=by simpa using hz
  rcases hz with rfl | rfl | rfl | rfl
  ·exact n1 hrk
  ·exact n1 h1
  ·exact n1 h2
  ·exact n1 h3
end
section
local macro_rules | `(tactic| walk_at "side") => `(tactic| first | exact vL _ _ _ _ | exact rT _ _ _ _ | exact vM _ _ _ _ | exact m9 _ _ _ _ | exact (fQ _ _ _ _).1 | exact (fQ _ _ _ _).2.1 | exact (fQ _ _ _ _).2.2.1 | exact (fQ _ _ _ _).2.2.2 | exact yp _ _ _ | exact Nat.le_of_ble_eq_true rfl)
variable {P:Program}{w:World}{K:PySem.W.Frag}{mg:Str->Option Value}{base:Heap}{CN CS CR:Addr}
abbrev bu:Stmt:=uF 12 3
theorem pR:bR ["self"] ["self"] (aa bu):=⟨rfl,rfl,rfl,by decide +kernel,rfl,by decide +kernel,by decide +kernel⟩
theorem mV:(aa bu).names.lookup ("len":Str)=some NameKind.globalImplicit:=by decide +kernel
theorem mL:aG (aa bu) "self":=by decide +kernel
theorem mW:("len":Str)≠"__name__":=by decide +kernel
theorem mX:(("len":Str)==("__debug__":Str))=false:=by decide +kernel
def Pj (CS:Addr):Sp:=fun vs H Q _=>∃(s dx b fl rk:Addr) (k:Nat) (xs:List V),vs=[.ref s]/\H s=some (.ins CS dx (seF b fl k rk))/\H fl=some (.lst xs)/\Q (.bl (decide (xs.length=0))) H
theorem pU {f:Addr}{fd:FuncData} (aP:fH K CS "was_reckoned" "Settling.was_reckoned" bu ["self"] f fd) (T:Blt mg) (sc:SeC K CS):bx P w K mg base CX0 1 f fd ["self"] (Pj CS):=by
 refine aP.F.okQ pR (fun vs H Q E h=> ?_) (fun cdv A outer s H vs Q E hr h=> ?_)
 ·obtain⟨a,dx,b,fl,rk,k,xs,rfl,_⟩:=h
  rfl
 obtain⟨a,dx,b,fl,rk,k,xs,rfl,e,ef,q⟩:=h
 have iy:=sc.cl
 have nF:=sc.nF
 refine⟨_,(aD (bU (Bo gj (dF jw mV T.zW ux (Ft (bw (aj 0 mL)) aq) mW mX) aA (bB _)))), ?_⟩
 walk_at "vs"
 have:decide (V.int (xs.length:Int)=V.int 0)=decide (xs.length=0):=by
  by_cases z:xs.length=0
  ·rw[decide_eq_true z,z];rfl
  ·rw[decide_eq_false z]
   exact decide_eq_false fun w=>z (by have:=V.int.inj w;omega)
 rw[this]
 exact q
abbrev cQ:Stmt:=uF 12 2
theorem xj:bR ["self","worth"] ["self","worth"] (aa cQ):=⟨rfl,rfl,rfl,by decide +kernel,rfl,by decide +kernel,by decide +kernel⟩
theorem fM:aG (aa cQ) "self":=by decide +kernel
theorem xm {f:Addr}{fd:FuncData} (dX:fH K CS "fit_on" "Settling.fit_on" cQ ["self","worth"] f fd) (sc:SeC K CS):bx P w K mg base CX0 1 f fd ["self","worth"] (U6 CS):=by
 refine dX.F.okQ xj (fun vs H Q E h=> ?_) (fun cdv A outer s H vs Q E hr h=> ?_)
 ·obtain⟨a,dx,b,fl,rk,rb,br,l,k,as,ps,v,w',u,x,rfl,_⟩:=h
  rfl
 obtain⟨a,dx,b,fl,rk,rb,br,l,k,as,ps,v,w',u,x,rfl,e,ef,erb,el,hRs,hk,q⟩:=h
 have iy:=sc.cl
 have nF:=sc.nF
 have nP:=sc.nP
 refine⟨_,(au (jQ (aj 0 fM) (pA rfl (n:=1) (fr:=[1,0]) (N:=["record","worth","self"]) (yh (scX:=aa cQ) (NX:=["self","worth"]) rfl rfl (by decide +kernel)) (pB (bw (aj 0 fM))) (fun _ _ _ _ _=>(qgx (i:=0) (show List.Nodup (α:=Str) ["record","worth","self"] by decide) (Bk (by decide +kernel)))) (fun _ _ _ _ _=>(wN (cH gj (bz (uz (K:=K) rfl) (bz (Ei (K:=K) rfl) (bz (uz (K:=K) rfl) (aj 0 (ir.ok (by decide +kernel))) aA) (FP (K:=K) rfl (aj 2 (ir.ok (by decide +kernel))))) aA) (aj 1 (ir.ok (by decide +kernel))) (bB _)))) (fun _ _ _ _ _=>(aj 0 (ir.ok (by decide +kernel))))))
  (aD (jQ (aj 0 fM) (cV lu (bw (aj 0 fM)) aA)))), ?_⟩
 have hkl:k<ps.length:=(List.getElem?_eq_some_iff.mp hk).1
 have hka:k<as.length:=by rw[hRs.length];exact hkl
 have hae:as[k]? =some as[k]:=List.getElem?_eq_getElem hka
 obtain⟨p,hp,ep⟩:=hRs.get k _ hae
 rw[hk] at hp
 cases hp
 have ep:H as[k]=some (.tup [.str x, .int u]):=ep
 have a1:atI [V.ref br, .ref l, .int v] 1=some (.ref l):=rfl
 have a2:atI (as.map V.ref) (k:Int)=some (.ref as[k]):=iR (by rw[List.getElem?_map,hae];rfl)
 have a3:atI [V.str x, .int u] 1=some (.int u):=rfl
 walk_at "vs"
 intro D hD
 have sD:=aC (.lst []) hD
 refine qm (xs:=[.ref rb]) (fun i σ' H'=>(∃t,σ'=[t,some (.int w'),some (.ref a)])/\aN H H'/\H' D=some (.lst (if i=0 then [] else if u=w' then [.ref rb] else []))) ?_ ?_ ?_ ?_
 ·exact⟨⟨none,rfl⟩,sD,ak⟩
 ·intro i σ' H' _ hP
  exact SqL.of (hP.2.1 _ _ ef)
 ·intro i y σ' H' hy hP
  obtain⟨⟨t,rfl⟩,S1,eD⟩:=hP
  obtain⟨rfl,rfl⟩:i=0/\y= .ref rb:=by
   match i,hy with
   | 0,hy=>exact⟨rfl,(Option.some.inj hy).symm⟩
   | i+1,hy=>simp at hy
  rw[if_pos rfl] at eD
  have e1:=S1 _ _ e
  have ago:=S1 _ _ erb
  have el1:=S1 _ _ el
  have ep1:=S1 _ _ ep
  have hz:([]:List V).length<sizeLine:=bN (by simp)
  walk_at "vs"
  refine wM (fun c=> ?_) (fun c=> ?_)
  ·have c:u=w':=V.int.inj (of_decide_eq_true c)
   walk_at "vs"
   refine⟨⟨_,rfl⟩,d7 _ hD S1, ?_⟩
   rw[if_neg (by decide),if_pos c];exact ak
  ·have c:¬u=w':=fun z=>c (decide_eq_true (by rw[z]))
   refine⟨⟨_,rfl⟩,S1, ?_⟩
   rw[if_neg (by decide),if_neg c];exact eD
 ·intro σ' H1 hP
  obtain⟨_,S1,eD⟩:=hP
  rw[show(if([V.ref rb]:List V).length=0 then([]:List V) else if u=w' then [.ref rb] else [])=if u=w' then [.ref rb] else [] from if_neg (by simp)] at eD
  have e1:=S1 _ _ e
  have naD:a≠D:=fun z=>by rw[z,hD] at e;cases e
  walk_at "vs"
  refine q D _ ((But.of_same S1).trans ((But.set _ (by simp)).trans (But.set _ (by simp)))) hD ak ?_
  rw[ao (Ne.symm naD),ao (Ne.symm naD)];exact eD
end
section
local macro_rules | `(tactic| walk_at "side") => `(tactic| first | exact vL _ _ _ _ | exact rT _ _ _ _ | exact vM _ _ _ _ | exact m9 _ _ _ _ | exact (fQ _ _ _ _).1 | exact (fQ _ _ _ _).2.1 | exact (fQ _ _ _ _).2.2.1 | exact (fQ _ _ _ _).2.2.2 | exact yp _ _ _ | exact Nat.le_of_ble_eq_true rfl)
variable {P:Program}{w:World}{K:PySem.W.Frag}{mg:Str->Option Value}{base:Heap}{CN CS CR:Addr}
abbrev aW:Stmt:=uF 12 1
theorem jR:bR ["self","known","reads","name"] ["self","known"] (aa aW):=⟨rfl,rfl,rfl,by decide +kernel,rfl,by decide +kernel,by decide +kernel⟩
theorem cL:aG (aa aW) "self":=by decide +kernel
theorem o9:Loc (aa aW) "reads":=by decide +kernel
theorem qI:(aa aW).names.lookup ("len":Str)=some NameKind.globalImplicit:=by decide +kernel
theorem jP:aG (aa aW) "reads":=by decide +kernel
theorem qJ:("len":Str)≠"__name__":=by decide +kernel
theorem qK:(("len":Str)==("__debug__":Str))=false:=by decide +kernel
theorem pW:Loc (aa aW) "name":=by decide +kernel
theorem gY:aG (aa aW) "name":=by decide +kernel
theorem gM:aG (aa aW) "known":=by decide +kernel
theorem vU {f g0 g1:Addr}{fd gd0 gd1:FuncData} (dJ:fH K CS "lacking" "Settling.lacking" aW ["self","known"] f fd)
 (dX:fH K CS "fit_on" "Settling.fit_on" cQ ["self","worth"] g0 gd0) (yx:bx P w K mg base CX0 1 g0 gd0 ["self","worth"] (U6 CS))
 (cZ:fH K CR "lacking" "Reckoning.lacking" bI ["self","known"] g1 gd1) (vV:bx P w K mg base CX0 3 g1 gd1 ["self","known"] (Ob CR))
 (T:Blt mg) (sc:SeC K CS) (rcC:RkC K CR):bx P w K mg base CX0 4 f fd ["self","known"] (Ht CS CR):=by
 refine dJ.F.okQ jR (fun vs H Q E h=> ?_) (fun cdv A0 outer s H vs Q E hr h=> ?_)
 ·obtain⟨A,d,kr,n,rm,y,r,kn,rfl,_⟩:=h
  rfl
 obtain⟨A,d,kr,n,rm,y,r,kn,rfl,se,rD,n17,⟨kvs,ed,hkn⟩,nd3,hT3,q⟩:=h
 have iy:=sc.cl
 have nR:=sc.nR
 have nF:=sc.nF
 have nP:=sc.nP
 have nK:=sc.nK
 have kj:=rcC.cl
 refine⟨_,(au (Bq PassesOwn.never (Bp (bw (aj 0 cL))) (au (cg (i:=2) jR.nd rfl o9 (bz aL (bz iw (bw (aj 0 cL)) aA) aA))
  (au (dO (cH gj (bw (aj 0 cL)) (dF jw qI T.zW ux (aU (aj 2 jP) aq) qJ qK) (bB _)) (aD (bU Jh)) cT)
  (au (cg (i:=3) jR.nd rfl pW (bz aL (bz iw (aj 2 jP) (bw (aj 0 cL))) aA))
  (au (dO (vH (dB hr) (aj 3 gY) (aj 1 gM)) (aD (bU (aj 3 gY))) cT)
  (aD (fK (m7 (aj 0 cL) iy dX.m (yx.mono (by omega)) hr dX.b .nil bM (jm (eF (dB hr) (aj 1 gM) (aj 3 gY)) aq)))))))))
  (aD (bU (m7 (bw (aj 0 cL)) kj cZ.m (vV.mono (by omega)) hr cZ.b .nil bM (aU (aj 1 gM) aq))))), ?_⟩
 have nds:d∉[A.s]:=fun z=>by
  have z:d=A.s:=by simpa using z
  have:=se.e
  rw[<-z,ed] at this;cases this
 refine⟨fun m σ H'=>∃(A1:SeD) (t1 t2:Option V),σ=[some (.ref A.s),some (.ref d),t1,t2]/\But [A.s] H H'/\rW CS CR kr rm y r kn A1 H'/\A1.s=A.s/\A1.b=A.b/\A1.rk=A.rk/\A1.a1=A.a1/\A1.a2=A.a2/\A1.a3=A.a3/\A1.dx=A.dx/\(A1.fl=A.fl\/H A1.fl=none)/\m=1000 - A1.k,
  ⟨_,A,none,none,rfl,But.refl _ _,se,rfl,rfl,rfl,rfl,rfl,rfl,rfl, .inl rfl,rfl⟩, ?_⟩
 rintro m σ H1 ⟨A1,t1,t2,rfl,b1,se1,es,eb,erk,ea1,ea2,ea3,edx,efl,rfl⟩
 have e1:=se1.e
 rw[es] at e1
 have tp1:mR H H1:=fun p xs z=>b1 p _ (fun w=>by
  have w:p=A.s:=by simpa using w
  have:=se.e
  rw[<-w,z] at this;cases this) z
 have ed1:=b1 _ _ nds ed
 have rD1:oJ H1 kr n rm:=rD.map fun b' q' z=>z.but b1 tp1 (fun y hy=> .inr fun xs w=>by
  have w':y=A.s:=by simpa using hy
  have:=se.e
  rw[<-w',w] at this;cases this)
 have fin:∀H2,But [A.s] H1 H2->But A.ft H H2:=fun H2 b=>(b1.trans b).mono (by simp[SeD.ft])
 rcases se1.f with⟨rb,ps,v,Dw,hval,hrm,hkle,hall⟩ | ⟨Dw,nof⟩
 ·obtain⟨bb,hbb,br,l,as,f1,R1,el,hRs,_⟩:=rD1.v y _ hrm
  rw[hval] at hbb
  cases hbb
  have f1:H1 rb=some (.tup [.ref br, .ref l, .int v]):=f1
  have hRs:kO H1 as ps:=hRs
  obtain⟨got,k0,hk0,ek0,rk0⟩:=rD1.ok y r ps v hrm
  have hpl:ps.length<=k0:=Ks got.c rk0.i
  have a0:atI [V.ref rb] 0=some (.ref rb):=rfl
  have a1:atI [V.ref br, .ref l, .int v] 1=some (.ref l):=rfl
  have hlm:(as.map V.ref).length=ps.length:=by rw[List.length_map];exact hRs.length
  walk_at "vs"
  refine⟨fun σ' H'=>∃(A2:SeD) (t1 t2:Option V),σ'=[some (.ref A.s),some (.ref d),t1,t2]/\But [A.s] H H'/\rW CS CR kr rm y r kn A2 H'/\A2.s=A.s/\A2.b=A.b/\A2.rk=A.rk/\A2.a1=A.a1/\A2.a2=A.a2/\A2.a3=A.a3/\A2.dx=A.dx/\(A2.fl=A.fl\/H A2.fl=none)/\A2.k=A1.k+1,fun σ' H' ⟨A2,t1,t2,z1,z2,z3,z4,z5,z6,z7,z8,z9,z10,z11,z12⟩=>⟨1000 - A2.k,by omega,A2,t1,t2,z1,z2,z3,z4,z5,z6,z7,z8,z9,z10,z11,rfl⟩, ?_⟩
  walk_at "vs"
  refine wM (fun c=> ?_) (fun c=> ?_)
  ·have c:A1.k=ps.length:=by have:=V.int.inj (of_decide_eq_true c);omega
   walk_at "vs"
   refine(q A1 H1 (fin H1 (But.refl _ _)) es eb erk ea1 ea2 ea3 efl se1).1 (.inl ⟨rb,ps,v,Dw,hval,hrm,fun p hp=> ?_⟩)
   obtain⟨j,hj⟩:=List.getElem?_of_mem hp
   exact hall j p (by rw[c];exact(List.getElem?_eq_some_iff.mp hj).1) hj
  ·have c:A1.k<ps.length:=by
    have:¬A1.k=ps.length:=fun z=>c (decide_eq_true (by rw[hlm,z]))
    omega
   have hka:A1.k<as.length:=by rw[hRs.length];exact c
   have hae:as[A1.k]? =some as[A1.k]:=List.getElem?_eq_getElem hka
   obtain⟨⟨x,u⟩,hp,ep⟩:=hRs.get A1.k _ hae
   have ep:H1 as[A1.k]=some (.tup [.str x, .int u]):=ep
   have a2:atI (as.map V.ref) (A1.k:Int)=some (.ref as[A1.k]):=iR (by rw[List.getElem?_map,hae];rfl)
   have a3:atI [V.str x, .int u] 0=some (.str x):=rfl
   have dw:cI H1 d (.str x) ((kn x).map V.int):=by rw[<-hkn];exact cI.k (k:= .inr x) ed1
   cases ekn:kn x with
   | none=>
     rw[ekn] at dw
     have dw:cI H1 d (.str x) none:=dw
     walk_at "vs"
     exact(q A1 H1 (fin H1 (But.refl _ _)) es eb erk ea1 ea2 ea3 efl se1).2 x ekn (JC got.c hp hall)
   | some w'=>
     rw[ekn] at dw
     have dw:cI H1 d (.str x) (some (.int w')):=dw
     walk_at "vs"
     intro fl' H2 b2 hfl' e2 Mi
     have hs1:∀xs,H1 A.s≠some (.lst xs):=fun xs z=>by rw[e1] at z;cases z
     have tp2:mR H1 H2:=fun p xs z=>b2 p _ (fun w=>by
      have w:p=A.s:=by simpa using w
      rw[w,e1] at z;cases z) z
     obtain⟨cf,rc1,rch⟩:=se1.c
     have hns:∀{z:Addr},z≠A.s->z∉[A.s]:=fun h w=>h (by simpa using w)
     have nrk:A1.rk≠A.s:=fun z=>se1.n1 (by rw[es,z])
     have n1:A1.a1≠A.s:=fun z=>by obtain⟨ws,w1,_⟩:=rc1.e1;rw[z,e1] at w1;cases w1
     have n2:A1.a2≠A.s:=fun z=>by have w1:=rc1.e2;rw[z,e1] at w1;cases w1
     have n3:A1.a3≠A.s:=fun z=>by have w1:=rc1.e3;rw[z,e1] at w1;cases w1
     have f1n:fl'≠A1.a1:=fun z=>by obtain⟨ws,w1,_⟩:=rc1.e1;rw[<-z,hfl'] at w1;cases w1
     have f2n:fl'≠A1.a2:=fun z=>by have w1:=rc1.e2;rw[<-z,hfl'] at w1;cases w1
     refine⟨⟨A.s,A1.dx,A1.b,fl',A1.rk,A1.dxr,A1.a1,A1.a2,A1.a3,A1.k+1⟩,_,_,rfl,b1.trans b2,⟨e2,se1.hr.tups tp2,⟨cf,rc1.move b2 tp2 (fun z hz=> ?_),rch⟩, ?_,fun z=>nrk z.symm,f1n,f2n⟩,rfl,eb,erk,ea1,ea2,ea3,edx, .inr ?_,rfl⟩
     ·have hz:z=A1.rk\/z=A1.a1\/z=A1.a2\/z=A1.a3:=by simpa using hz
      rcases hz with rfl | rfl | rfl | rfl
      ·exact hns nrk
      ·exact hns n1
      ·exact hns n2
      ·exact hns n3
     ·by_cases huw:u=w'
      ·rw[if_pos huw] at Mi
       refine .inl ⟨rb,ps,v,Mi,hval,hrm,c,fun j p hj hpj=> ?_⟩
       have hj:j<A1.k+1:=hj
       by_cases hjk:j=A1.k
       ·rw[hjk,hp] at hpj;cases hpj
        rw[ekn,huw]
       ·exact hall j p (by omega) hpj
      ·rw[if_neg huw] at Mi
       refine .inr ⟨Mi,fun r2 ps2 v2 e=> ?_⟩
       rw[hrm] at e;cases e
       exact .inr ⟨(x,u),List.mem_of_getElem? hp,w',ekn,fun z=>huw z.symm⟩
     ·exact gR b1 hfl' (hns (show fl'≠A.s from fun z=>by rw[z,e1] at hfl';cases hfl'))
 ·obtain⟨cf,rc1,rch⟩:=se1.c
  have agp:=rc1.e
  obtain⟨nn,cf',hst,hhalt,rch',gg⟩:=rch.aaM hT3
  have knA:Oa H1 d kn:=⟨kvs,ed1,hkn⟩
  have agq:d≠A1.a3:=by rw[ea3];exact nd3
  walk_at "vs"
  intro H2 b2 rc2
  have tp2:=rc1.lists b2
  have nss:A1.s∉[A1.a1,A1.a2,A1.a3]:=fun z=>by
   have e1:=se1.e
   have z:A1.s=A1.a1\/A1.s=A1.a2\/A1.s=A1.a3:=by simpa using z
   rcases z with z | z | z
   ·obtain⟨ws,w1,_⟩:=rc1.e1;rw[z,w1] at e1;cases e1
   ·rw[z,rc1.e2] at e1;cases e1
   ·rw[z,rc1.e3] at e1;cases e1
  have nfl:A1.fl∉[A1.a1,A1.a2,A1.a3]:=fun z=>by
   have z:A1.fl=A1.a1\/A1.fl=A1.a2\/A1.fl=A1.a3:=by simpa using z
   rcases z with z | z | z
   ·exact se1.n2 z
   ·exact se1.n3 z
   ·rw[z,rc1.e3] at Dw;cases Dw
  have se2:rW CS CR kr rm y r kn A1 H2:=⟨b2 _ _ nss se1.e,se1.hr.tups tp2,⟨cf',rc2,rch'⟩, .inr ⟨b2 _ _ nfl Dw,nof⟩,se1.n1,se1.n2,se1.n3⟩
  have bb:But A.ft H H2:=(b1.mono (by simp[SeD.ft])).trans (b2.mono (by rw[ea1,ea2,ea3];simp[SeD.ft]))
  have qq:=q A1 H2 bb es eb erk ea1 ea2 ea3 efl se2
  unfold Goes at gg
  cases eev:ev kn r with
  | inr v=>
    rw[eev] at gg
    obtain⟨g1,g2,g3,g4⟩:=gg
    exact⟨fun _=>qq.1 (.inr ⟨b2 _ _ nfl Dw,nof,cf',v,rc2,g2,g3,g4⟩),fun t x z=>by rw[g1] at z;simp at z⟩
  | inl x=>
    rw[eev] at gg
    obtain⟨⟨t,g1⟩,g2,g3⟩:=gg
    refine⟨fun z=>by rw[g1] at z;simp at z,fun t' x' z=> ?_⟩
    rw[g1] at z
    obtain⟨_,z⟩:=jh z
    cases z
    exact qq.2 x g2 g3
end
section
local macro_rules | `(tactic| walk_at "side") => `(tactic| first | exact vL _ _ _ _ | exact rT _ _ _ _ | exact vM _ _ _ _ | exact m9 _ _ _ _ | exact (fQ _ _ _ _).1 | exact (fQ _ _ _ _).2.1 | exact (fQ _ _ _ _).2.2.1 | exact (fQ _ _ _ _).2.2.2 | exact yp _ _ _ | exact BJ _ _ _ | exact BK _ _ _ | exact Nat.le_of_ble_eq_true rfl)
variable {P:Program}{w:World}{K:PySem.W.Frag}{mg:Str->Option Value}{base:Heap}{CN CS CR:Addr}
abbrev bT:Stmt:=uF 12 4
theorem sH:bR ["self"] ["self"] (aa bT):=⟨rfl,rfl,rfl,by decide +kernel,rfl,by decide +kernel,by decide +kernel⟩
theorem bK:aG (aa bT) "self":=by decide +kernel
theorem jq:(aa bT).names.lookup ("list":Str)=some NameKind.globalImplicit:=by decide +kernel
theorem nq:("list":Str)≠"__name__":=by decide +kernel
theorem nu:(("list":Str)==("__debug__":Str))=false:=by decide +kernel
theorem sI {f g0:Addr}{fd gd0:FuncData} (cO:fH K CS "new_record" "Settling.new_record" bT ["self"] f fd)
 (aP:fH K CS "was_reckoned" "Settling.was_reckoned" bu ["self"] g0 gd0) (iz:bx P w K mg base CX0 1 g0 gd0 ["self"] (Pj CS))
 (T:Blt mg) (sc:SeC K CS) (rcC:RkC K CR):bx P w K mg base CX0 2 f fd ["self"] (Ou CS CR):=by
 refine cO.F.okQ sH (fun vs H Q E h=> ?_) (fun cdv A0 outer s H vs Q E hr h=> ?_)
 ·obtain⟨A,kr,n,rm,y,r,kn,rfl,_⟩:=h
  rfl
 obtain⟨A,kr,n,rm,y,r,kn,rfl,e,rD,n17,se,q⟩:=h
 have iy:=sc.cl
 have nR:=sc.nR
 have nF:=sc.nF
 have nP:=sc.nP
 have nK:=sc.nK
 have kj:=rcC.cl
 have nFo:=rcC.nF
 have nRe:=rcC.nR
 refine⟨_,(au (dO (uy (uB (aj 0 bK) iy aP.m (iz.mono (by omega)) hr aP.b .nil bM)) (aD (bU (gK (Ft (bw (aj 0 bK)) (uA (Xy rfl (bw (bw (aj 0 bK))) jq T.Bt) (jm (bz iw (bw (bw (aj 0 bK))) aA) aq)))))) cT)
  (aD (bU (gK (Ft (bw (aj 0 bK)) (uA (kJ Jm jq T.Bt yl (jm (bz aL (bz iw (bw (aj 0 bK)) aA) aA) aq) nq nu) (jm (bz aL (bz iw (bw (aj 0 bK)) aA) aA) aq))))))), ?_⟩
 rcases se with⟨rb,ps,v,efl,hval,hrm,hall⟩ | ⟨efl,nof,c,v,rc1,hfo,got,rows⟩
 ·obtain⟨bb,hbb,br,l,as,f1,R1,el,hRs,_⟩:=rD.v y _ hrm
  rw[hval] at hbb
  cases hbb
  have f1:H rb=some (.tup [.ref br, .ref l, .int v]):=f1
  have hRs:kO H as ps:=hRs
  obtain⟨got,k0,hk0,ek0,rk0⟩:=rD.ok y r ps v hrm
  have hpl:ps.length<=k0:=Ks got.c rk0.i
  have a0:atI [V.ref rb] 0=some (.ref rb):=rfl
  have a1:atI [V.ref br, .ref l, .int v] 1=some (.ref l):=rfl
  have a2:atI [V.ref br, .ref l, .int v] 2=some (.int v):=rfl
  walk_at "vs"
  intro l' hl'
  have s1:=aC (.lst (as.map V.ref)) hl'
  have el1:upd H l' (.lst (as.map V.ref)) l'=some (.lst (as.map V.ref)):=ak
  have e1:=s1 _ _ e
  have Dw:=s1 _ _ efl
  have f11:=s1 _ _ f1
  generalize upd H l' (.lst (as.map V.ref))=H1 at *
  walk_at "vs"
  intro rb' hrb'
  have s2:=aC (.tup [.ref A.b, .ref l', .int v]) hrb'
  exact q rb' l' as ps v false _ (s1.trans s2) ak hl' (s2 _ _ el1) (hRs.same (s1.trans s2)) ⟨got,⟨hall,(vJ got.c).2⟩,hrm⟩ ⟨_,s2 _ _ Dw,rfl⟩
 ·have e1:=rc1.e
  have e2:=rc1.e2
  rw[hfo] at e2
  have e3:=rc1.e3
  have a0:atI [V.int v] 0=some (.int v):=rfl
  walk_at "vs"
  intro l' as H1 s1 hl' el1 hal hit
  have e1':=s1 _ _ e1
  have e2':H1 A.a2=some (.lst [.int v]):=s1 _ _ e2
  have eS:=s1 _ _ e
  have Dw:=s1 _ _ efl
  walk_at "vs"
  intro rb' hrb'
  have s2:=aC (.tup [.ref A.b, .ref l', .int v]) hrb'
  have hR:kO H1 as c.rds:=Hv (by rw[hal];unfold rdK;rw[List.length_map]) fun j b p h1 h2=>by
   have h3:(rdK c.rds)[j]? =some (.inr p.1, .int p.2):=by unfold rdK;rw[List.getElem?_map,h2];rfl
   exact hit j b _ h1 h3
  exact q rb' l' as c.rds v true _ (s1.trans s2) ak hl' (s2 _ _ el1) (hR.same s2) ⟨got,rows,nof⟩ ⟨_,s2 _ _ Dw,rfl⟩
end
section
local macro_rules | `(tactic| walk_at "side") => `(tactic| first | exact uD _ _ _ _ _ _ | exact oK _ _ _ _ _ _ | exact Cj _ _ _ _ _ _ | exact uE _ _ _ _ _ _ | exact oM _ _ _ _ _ _ | exact mD _ _ _ _ _ _ | exact (fU _ _ _ _ _ _).1 | exact (fU _ _ _ _ _ _).2.1 | exact (fU _ _ _ _ _ _).2.2.1 | exact (fU _ _ _ _ _ _).2.2.2.1 | exact (fU _ _ _ _ _ _).2.2.2.2 | exact (zm _).1 | exact (zm _).2 | exact (fQ _ _ _ _).1 | exact (fQ _ _ _ _).2.2.1 | exact (fQ _ _ _ _).2.2.2 | exact Nat.le_of_ble_eq_true rfl)
variable {P:Program}{w:World}{K:PySem.W.Frag}{mg:Str->Option Value}{base:Heap}{CSe CN CS CR:Addr}
abbrev cD:Stmt:=uF 13 0
theorem xq:bR ["self","house","old"] ["self","house","old"] (aa cD):=⟨rfl,rfl,rfl,by decide +kernel,rfl,by decide +kernel,by decide +kernel⟩
theorem cR:aG (aa cD) "self":=by decide +kernel
theorem j0:aG (aa cD) "house":=by decide +kernel
theorem sJ:aG (aa cD) "old":=by decide +kernel
theorem xr {f:Addr}{fd:FuncData} (fO:fH K CSe "__init__" "Search.__init__" cD ["self","house","old"] f fd) (sc:SrC K CSe):bx P w K mg base CX0 1 f fd ["self","house","old"] (Hy CSe):=by
 refine fO.F.okQ xq (fun vs H Q E h=> ?_) (fun cdv A outer s H vs Q E hr h=> ?_)
 ·obtain⟨a,dx,h,g,c,o,rfl,_⟩:=h
  rfl
 obtain⟨a,dx,h,g,c,o,rfl,e,eh,q⟩:=h
 have jJ:=sc.cl
 have nG:=sc.nG
 have nR:=sc.nR
 have nO:=sc.nO
 have nK:=sc.nK
 have nS:=sc.nS
 have nM:=sc.nM
 refine⟨_,(au (jQ (aj 0 cR) (bz aL (aj 1 j0) aA))
  (au (jQ (aj 0 cR) (bz aL (aj 1 j0) aA))
  (au (jQ (aj 0 cR) (aj 2 sJ))
  (au (jQ (aj 0 cR) jU)
  (au (jQ (aj 0 cR) jU)
  (aD (jQ (aj 0 cR) jU))))))), ?_⟩
 have nha:h≠a:=fun z=>by rw[z,e] at eh;cases eh
 have a0:atI [V.ref g, .ref c] 0=some (.ref g):=rfl
 have a1:atI [V.ref g, .ref c] 1=some (.ref c):=rfl
 walk_at "vs"
 rw[rK,rK]
 have b1:But [a] H (upd H a (.ins CSe dx (aM "old" (.ref o) (aM "recipes" (.ref c) (aM "given" (.ref g) []))))):=But.set _ (by simp)
 have e1:upd H a (.ins CSe dx (aM "old" (.ref o) (aM "recipes" (.ref c) (aM "given" (.ref g) [])))) a=some (.ins CSe dx (aM "old" (.ref o) (aM "recipes" (.ref c) (aM "given" (.ref g) [])))):=ak
 have n1:∀{z},upd H a (.ins CSe dx (aM "old" (.ref o) (aM "recipes" (.ref c) (aM "given" (.ref g) [])))) z=none->H z=none:=fun z=>(fJ z).2
 generalize upd H a (.ins CSe dx (aM "old" (.ref o) (aM "recipes" (.ref c) (aM "given" (.ref g) []))))=H1 at *
 walk_at "vs"
 intro kd hkd
 have s2:=aC (.dK []) hkd
 have ek2:upd H1 kd (.dK []) kd=some (.dK []):=ak
 have e2:=s2 _ _ e1
 generalize upd H1 kd (.dK [])=H2 at *
 have nka:kd≠a:=fun z=>by rw[z,e2] at ek2;cases ek2
 walk_at "vs"
 have b3:But [a] H2 (upd H2 a (.ins CSe dx (aM "known" (.ref kd) (aM "old" (.ref o) (aM "recipes" (.ref c) (aM "given" (.ref g) [])))))):=But.set _ (by simp)
 have e3:upd H2 a (.ins CSe dx (aM "known" (.ref kd) (aM "old" (.ref o) (aM "recipes" (.ref c) (aM "given" (.ref g) []))))) a=some (.ins CSe dx (aM "known" (.ref kd) (aM "old" (.ref o) (aM "recipes" (.ref c) (aM "given" (.ref g) []))))):=ak
 have ek3:upd H2 a (.ins CSe dx (aM "known" (.ref kd) (aM "old" (.ref o) (aM "recipes" (.ref c) (aM "given" (.ref g) []))))) kd=some (.dK []):=(ao nka).trans ek2
 have n3:∀{z},upd H2 a (.ins CSe dx (aM "known" (.ref kd) (aM "old" (.ref o) (aM "recipes" (.ref c) (aM "given" (.ref g) []))))) z=none->H2 z=none:=fun z=>(fJ z).2
 generalize upd H2 a (.ins CSe dx (aM "known" (.ref kd) (aM "old" (.ref o) (aM "recipes" (.ref c) (aM "given" (.ref g) [])))))=H3 at *
 intro sd hsd
 have s4:=aC (.dK []) hsd
 have es4:upd H3 sd (.dK []) sd=some (.dK []):=ak
 have nks:kd≠sd:=fun z=>by rw[<-z,ek3] at hsd;cases hsd
 have ek4:=s4 _ _ ek3
 have e4:=s4 _ _ e3
 generalize upd H3 sd (.dK [])=H4 at *
 have nsa:sd≠a:=fun z=>by rw[z,e4] at es4;cases es4
 walk_at "vs"
 have b5:But [a] H4 (upd H4 a (.ins CSe dx (aM "settled" (.ref sd) (aM "known" (.ref kd) (aM "old" (.ref o) (aM "recipes" (.ref c) (aM "given" (.ref g) []))))))):=But.set _ (by simp)
 have e5:upd H4 a (.ins CSe dx (aM "settled" (.ref sd) (aM "known" (.ref kd) (aM "old" (.ref o) (aM "recipes" (.ref c) (aM "given" (.ref g) [])))))) a=some (.ins CSe dx (aM "settled" (.ref sd) (aM "known" (.ref kd) (aM "old" (.ref o) (aM "recipes" (.ref c) (aM "given" (.ref g) [])))))):=ak
 have ek5:upd H4 a (.ins CSe dx (aM "settled" (.ref sd) (aM "known" (.ref kd) (aM "old" (.ref o) (aM "recipes" (.ref c) (aM "given" (.ref g) [])))))) kd=some (.dK []):=(ao nka).trans ek4
 have es5:upd H4 a (.ins CSe dx (aM "settled" (.ref sd) (aM "known" (.ref kd) (aM "old" (.ref o) (aM "recipes" (.ref c) (aM "given" (.ref g) [])))))) sd=some (.dK []):=(ao nsa).trans es4
 have n5:∀{z},upd H4 a (.ins CSe dx (aM "settled" (.ref sd) (aM "known" (.ref kd) (aM "old" (.ref o) (aM "recipes" (.ref c) (aM "given" (.ref g) [])))))) z=none->H4 z=none:=fun z=>(fJ z).2
 generalize upd H4 a (.ins CSe dx (aM "settled" (.ref sd) (aM "known" (.ref kd) (aM "old" (.ref o) (aM "recipes" (.ref c) (aM "given" (.ref g) []))))))=H5 at *
 intro rd hrd
 have s6:=aC (.dK []) hrd
 have er6:upd H5 rd (.dK []) rd=some (.dK []):=ak
 have nkr:kd≠rd:=fun z=>by rw[<-z,ek5] at hrd;cases hrd
 have nsr:sd≠rd:=fun z=>by rw[<-z,es5] at hrd;cases hrd
 have ek6:=s6 _ _ ek5
 have es6:=s6 _ _ es5
 have e6:=s6 _ _ e5
 generalize upd H5 rd (.dK [])=H6 at *
 have nra:rd≠a:=fun z=>by rw[z,e6] at er6;cases er6
 walk_at "vs"
 have hk0:H kd=none:=n1 hkd
 have hs0:H sd=none:=n1 (same_none s2 (n3 hsd))
 have hr0:H rd=none:=n1 (same_none s2 (n3 (same_none s4 (n5 hrd))))
 exact q kd sd rd _ ((b1.trans (But.of_same s2)).trans (b3.trans ((But.of_same s4).trans (b5.trans ((But.of_same s6).trans (But.set _ (by simp))))))) ak hk0 hs0 hr0 nks nkr nsr ((ao nka).trans ek6) ((ao nsa).trans es6) ((ao nra).trans er6)
abbrev cJ:Stmt:=uF 13 1
theorem tM:bR ["self","name","r"] ["self","name"] (aa cJ):=⟨rfl,rfl,rfl,by decide +kernel,rfl,by decide +kernel,by decide +kernel⟩
theorem jA:aG (aa cJ) "name":=by decide +kernel
theorem jB:aG (aa cJ) "self":=by decide +kernel
theorem yz:Loc (aa cJ) "r":=by decide +kernel
theorem pX:(aa cJ).names.lookup ("Settling":Str)=some NameKind.globalImplicit:=by decide +kernel
theorem pF:aG (aa cJ) "r":=by decide +kernel
theorem pY:(("Settling":Str)==("__debug__":Str))=false:=by decide +kernel
theorem Ai {f g0 g1:Addr}{fd gd0 gd1:FuncData} (gA:fH K CSe "begin" "Search.begin" cJ ["self","name"] f fd)
 (bQ:fH K CN "records_for" "NamedRecords.records_for" aK ["self","name","r"] g0 gd0) (oO:bx P w K mg base CX0 13 g0 gd0 ["self","name","r"] (Oq CN))
 (d8:fH K CS "__init__" "Settling.__init__" bJ ["self","r","records"] g1 gd1) (vW:bx P w K mg base CX0 3 g1 gd1 ["self","r","records"] (Hs CS CR))
 (xu:Mk K CS g1) (xx:mg "Settling"=some (.ref CS)) (T:Blt mg) (sc:SrC K CSe) (nc:NrC K CN):bx P w K mg base CX0 14 f fd ["self","name"] (KD CSe CN CS CR):=by
 refine gA.F.okQ tM (fun vs H Q E h=> ?_) (fun cdv A0 outer s H vs Q E hr h=> ?_)
 ·obtain⟨D,n,gv,rc,kg,kc,kr,rm,y,r,rfl,_⟩:=h
  rfl
 obtain⟨D,n,gv,rc,kg,kc,kr,rm,y,r,rfl,sh,hrc,q⟩:=h
 have jJ:=sc.cl
 have nR:=sc.nR
 have nO:=sc.nO
 have jX:=nc.cl
 have e:=sh.e
 have ec:=sh.ec
 have eo:=sh.eo
 have er:=sh.er
 have rD:=sh.rD
 obtain⟨br,hbr,hR⟩:=sh.bd.r y r hrc
 obtain⟨k0,hk0,ek0,rk0⟩:=sh.bd.ok.rk y r hrc
 have hg:=rk0.g
 have hd8:r.depth<=8:=by have:=rk0.d;omega
 have hw:wR r<=4000:=by
  have:=Ce r 4 rk0.d
  have:(3:Nat)^ 4=81:=by decide
  omega
 have dc:cI H D.c (.str y) (some (.ref br)):=by rw[<-hbr];exact cI.k (k:= .inr y) ec
 refine⟨_,(au (dO (vH (dB hr) (aj 1 jA) (bw (aj 0 jB))) (aD Hh) cT)
  (au (cg (i:=2) tM.nd rfl yz (eF (dB hr) (bw (aj 0 jB)) (aj 1 jA)))
  (aD (bU (yo xu (vW.mono (by omega)) hr pX xx d8.b .nil bM (aU (aj 2 pF) (uA (m7 (bw (aj 0 jB)) jX bQ.m (oO.mono (by omega)) hr bQ.b .nil bM (aU (aj 1 jA) (aU (aj 2 pF) aq))) aq)) pY))))), ?_⟩
 walk_at "vs"
 intro fl H1 s1 hfl fit
 have hR1:=hR.same s1
 walk_at "vs"
 intro a dx ha hdx hne
 have haH:(upd H1 dx (.own a)) a=none:=(ao (Ne.symm hne)).trans ha
 have S1:=(aC (.own a) hdx).trans (aC (.ins CS dx []) haH)
 refine⟨a,dx,br,fl,r,rfl,ak,hR1.same S1,hw,fun A H2 b2 eA eb efl ek e2 rc2 hfr=>⟨rfl, ?_⟩⟩
 have S2:aN H1 H2:=gQ S1 (fun p hp=>by
  have:p=a:=by simpa using hp
  rw[this];exact ha) b2
 have Mj:∀z∈[A.rk,A.a1,A.a2,A.a3],H1 z=none:=fun z hz=>same_none S1 (hfr z hz)
 have aaS:H1 fl≠none:=fun z=>by
  rcases fit kn0 with⟨rb,ps,v,w1,_⟩ | ⟨w1,_⟩
  ·rw[z] at w1;cases w1
  ·rw[z] at w1;cases w1
 rw[<-eA]
 refine q A H2 (s1.trans S2) (fun z hz=> ?_) (fun kn=>⟨?_, ?_,⟨_,rc2,⟨0, .zero⟩⟩, ?_,fun z=> ?_,fun z=> ?_,fun z=> ?_⟩)
 ·have hz:z=A.s\/z=A.fl\/z=A.rk\/z=A.a1\/z=A.a2\/z=A.a3:=by simpa [SeD.ft] using hz
  rcases hz with w | w | w | w | w | w
  ·rw[w,eA];exact same_none s1 ha
  ·rw[w,efl];exact hfl
  ·exact same_none s1 (Mj z (by simp[w]))
  ·exact same_none s1 (Mj z (by simp[w]))
  ·exact same_none s1 (Mj z (by simp[w]))
  ·exact same_none s1 (Mj z (by simp[w]))
 ·rw[eA,eb,efl,ek];exact e2
 ·rw[eb];exact hR1.same S2
 ·rw[efl,ek];exact(fit kn).at fun o e=>S2 _ _ e
 ·have:=hfr A.rk (by simp)
  rw[<-z,eA,ak] at this;cases this
 ·exact aaS (by rw[<-efl,z];exact Mj _ (by simp))
 ·exact aaS (by rw[<-efl,z];exact Mj _ (by simp))
end
section
local macro_rules | `(tactic| walk_at "side") => `(tactic| first | exact uD _ _ _ _ _ _ | exact oK _ _ _ _ _ _ | exact Cj _ _ _ _ _ _ | exact uE _ _ _ _ _ _ | exact oM _ _ _ _ _ _ | exact mD _ _ _ _ _ _ | exact (fU _ _ _ _ _ _).1 | exact (fU _ _ _ _ _ _).2.1 | exact (fU _ _ _ _ _ _).2.2.1 | exact (fU _ _ _ _ _ _).2.2.2.1 | exact (fU _ _ _ _ _ _).2.2.2.2 | exact (zm _).1 | exact (zm _).2 | exact (fQ _ _ _ _).1 | exact (fQ _ _ _ _).2.2.1 | exact (fQ _ _ _ _).2.2.2 | exact Nat.le_of_ble_eq_true rfl)
variable {P:Program}{w:World}{K:PySem.W.Frag}{mg:Str->Option Value}{base:Heap}{CSe CN CS CR:Addr}
abbrev dH:Stmt:=uF 13 2
theorem wG:bR ["self","name","settling","record"] ["self","name","settling"] (aa dH):=⟨rfl,rfl,rfl,by decide +kernel,rfl,by decide +kernel,by decide +kernel⟩
theorem uX:Loc (aa dH) "record":=by decide +kernel
theorem lD:aG (aa dH) "settling":=by decide +kernel
theorem iV:aG (aa dH) "self":=by decide +kernel
theorem kE:aG (aa dH) "name":=by decide +kernel
theorem jC:aG (aa dH) "record":=by decide +kernel
theorem Dy {f g0 g1 g2:Addr}{fd gd0 gd1 gd2:FuncData} (iW:fH K CSe "end" "Search.end" dH ["self","name","settling"] f fd)
 (cO:fH K CS "new_record" "Settling.new_record" bT ["self"] g0 gd0) (tY:bx P w K mg base CX0 2 g0 gd0 ["self"] (Ou CS CR))
 (aP:fH K CS "was_reckoned" "Settling.was_reckoned" bu ["self"] g1 gd1) (iz:bx P w K mg base CX0 1 g1 gd1 ["self"] (Pj CS))
 (cC:fH K CN "put_made" "NamedRecords.put_made" cB ["self","record"] g2 gd2) (qL:bx P w K mg base CX0 1 g2 gd2 ["self","record"] U5)
 (T:Blt mg) (sr:SrC K CSe) (sc:SeC K CS) (nc:NrC K CN):bx P w K mg base CX0 3 f fd ["self","name","settling"] (OD CSe CN CS CR):=by
 refine iW.F.okQ wG (fun vs H Q E h=> ?_) (fun cdv A0 outer s H vs Q E hr h=> ?_)
 ·obtain⟨D,n,gv,rc,kg,kc,kr,rm,kn,rmN,rkn,od,Hf,A,y,r,rfl,_⟩:=h
  rfl
 obtain⟨D,n,gv,rc,kg,kc,kr,rm,kn,rmN,rkn,od,Hf,A,y,r,rfl,sh,so,e,hR,se,hkn,hgv,hrc,hy,hft,q⟩:=h
 have jJ:=sr.cl
 have nK:=sr.nK
 have nS:=sr.nS
 have nM:=sr.nM
 have nO:=sr.nO
 have iy:=sc.cl
 have jX:=nc.cl
 obtain⟨e0,_,_,_,eo0,_,rD0,n17,nks,nkr,nsr⟩:=sh.same so.sm
 refine⟨_,(au (cg (i:=3) wG.nd rfl uX (uB (aj 2 lD) iy cO.m (tY.mono (by omega)) hr cO.b .nil bM))
  (au (j9 (dB hr) (bw (aj 0 iV)) (aj 1 kE) (bz aL (aj 3 jC) aA))
  (au (j9 (dB hr) (bw (aj 0 iV)) (aj 1 kE) (aj 3 jC))
  (aD (dO (uy (uB (aj 2 lD) iy aP.m (iz.mono (by omega)) hr aP.b .nil bM)) (au (j9 (dB hr) (bw (aj 0 iV)) (aj 1 kE) Bm)
  (aD (fK (m7 (bw (aj 0 iV)) jX cC.m (qL.mono (by omega)) hr cC.b .nil bM (aU (aj 3 jC) aq))))) cT))))), ?_⟩
 walk_at "vs"
 intro rb l as ps v made H1 s1 erb hl el hRs rcd ⟨xs,efl,exs⟩
 obtain⟨kw,ws,ek,kk1,hkw⟩:=so.ek
 obtain⟨ks,es,rDs,kod⟩:=so.es
 obtain⟨kk,rs,er,kk3,hkk,hrn⟩:=so.er
 have hkl:kw.length<=n:=so.kl kk1 hkw
 have hsl:ks.length<=n:=rDs.len
 have hrm:rmN y=none:=by
  cases z:rmN y with
  | none=>rfl
  | some q'=>
    obtain⟨r1,ps1,v1⟩:=q'
    have:=(so.ok.b y r1 ps1 v1 z).2.2.1
    rw[hkn] at this;cases this
 have hry:rkn y=false:=by
  cases z:rkn y with
  | false=>rfl
  | true=>exact absurd hrm (hrn y z)
 have hrl:kk.length<=n:=by
  rw[kk3.len,<-jH n]
  refine jj kk3.nd fun x hx=> ?_
  cases z:rmN x with
  | none=>
    have:rkn x=false:=by
     cases w:rkn x with
     | false=>rfl
     | true=>exact absurd z (hrn x w)
    exact absurd hx (kk3.none.mp (by rw[hkk,this];rfl))
  | some q'=>
    obtain⟨r1,ps1,v1⟩:=q'
    exact(so.ok.a x v1 (so.ok.b x r1 ps1 v1 z).2.2.1).1
 have e1:=s1 _ _ e
 have e01:=s1 _ _ e0
 have ek1:=s1 _ _ ek
 have es1:=s1 _ _ es
 have er1:=s1 _ _ er
 have eo1:=s1 _ _ eo0
 have a2:atI [V.ref A.b, .ref l, .int v] 2=some (.int v):=rfl
 obtain⟨H2,eH2⟩:∃H2,H2=upd H1 D.kd (.dK (putK kw (.inr y) (.int v))):=⟨_,rfl⟩
 have dp1:lJ H1 D.kd (.str y) (.int v) H2:=by rw[eH2];exact lJ.k (k:= .inr y) ek1 (bN (by omega))
 have k2:∀{z:Addr}{o:HO},z≠D.kd->H1 z=some o->H2 z=some o:=fun h h'=>by rw[eH2];exact(ao h).trans h'
 have j2:∀{z:Addr}{o:HO},H1 z=some o->(∀ks',o≠ .dK ks')->H2 z=some o:=fun{z o} h1 h2=>k2 (fun w=>by rw[w,ek1] at h1;cases h1;exact h2 _ rfl) h1
 have ek2:H2 D.kd=some (.dK (putK kw (.inr y) (.int v))):=by rw[eH2];exact ak
 have es2:=k2 (Ne.symm nks) es1
 have er2:=k2 (Ne.symm nkr) er1
 have b2:But [D.kd,D.sd,D.rd] H1 H2:=by rw[eH2];exact But.set _ (by simp)
 have e02:=j2 e01 (by simp)
 have e2:=j2 e1 (by simp)
 have eo2:=j2 eo1 (by simp)
 have Mi:=j2 efl (by simp)
 have agr:=j2 erb (by simp)
 clear eH2
 obtain⟨H3,eH3⟩:∃H3,H3=upd H2 D.sd (.dK (putK ks (.inr y) (.ref rb))):=⟨_,rfl⟩
 have dp2:lJ H2 D.sd (.str y) (.ref rb) H3:=by rw[eH3];exact lJ.k (k:= .inr y) es2 (bN (by omega))
 have k3:∀{z:Addr}{o:HO},z≠D.sd->H2 z=some o->H3 z=some o:=fun h h'=>by rw[eH3];exact(ao h).trans h'
 have j3:∀{z:Addr}{o:HO},H2 z=some o->(∀ks',o≠ .dK ks')->H3 z=some o:=fun{z o} h1 h2=>k3 (fun w=>by rw[w,es2] at h1;cases h1;exact h2 _ rfl) h1
 have es3:H3 D.sd=some (.dK (putK ks (.inr y) (.ref rb))):=by rw[eH3];exact ak
 have ek3:=k3 nks ek2
 have er3:=k3 (Ne.symm nsr) er2
 have b3:But [D.kd,D.sd,D.rd] H2 H3:=by rw[eH3];exact But.set _ (by simp)
 have e03:=j3 e02 (by simp)
 have e3:=j3 e2 (by simp)
 have eo3:=j3 eo2 (by simp)
 have ags:=j3 Mi (by simp)
 have B3:But [D.kd,D.sd,D.rd] H H3:=(But.of_same s1).trans (b2.trans b3)
 clear eH3
 have gs:=RT so.sm s1
 have gi:=RV so.sm s1
 have gt:mR H1 (grow Hf H H1):=LQ
 have gk:=Az (Hf:=Hf) s1 ⟨_,ek,by simp⟩ so.fk
 have gss:=Az (Hf:=Hf) s1 ⟨_,es,by simp⟩ so.fs
 have gr:=Az (Hf:=Hf) s1 ⟨_,er,by simp⟩ so.fr
 have gl:grow Hf H H1 l=some (.lst (as.map V.ref)):=(Oz hl).trans el
 have ra:BX [] (grow Hf H H1) rb (r,ps,v):=⟨A.b,l,as,gt _ _ erb,(hR.same s1).tups gt,gl,hRs.tups gt,by simp⟩
 have hgot:=rcd.1
 have hrows:=rcd.2.1
 obtain⟨k0,hk0,ek0,rk0⟩:=sh.bd.ok.rk y r hrc
 have rD':=(rDs.map (H':=grow Hf H H1) fun _ _ z=>z.same gs).put hy ra ⟨hgot,k0,hk0,ek0,rk0⟩
 have ok':=so.ok.tV hy hkn hgv hrc hgot hrows
 have lek:Kn.Le kn (kn.put y v):=Kn.oE hkn
 have md':∀x r1 ps1 v1,(rmN.put y (r,ps,v)) x=some (r1,ps1,v1)->Rcd rm x r1 (kn.put y v) ps1 v1 (if x=y then made else rkn x):=fun x r1 ps1 v1 h=>by
  unfold Rm.put at h
  by_cases z:x=y
  ·rw[if_pos z] at h ⊢
   cases h
   rw[z];exact rcd.le lek
  ·rw[if_neg z] at h ⊢
   exact(so.md x r1 ps1 v1 h).le lek
 have hev:=Xz hgot hrows
 have hyo:y∉od:=kod.none.mp (rDs.w y hrm)
 have hyw:y∉ws:=kk1.none.mp (by rw[hkw,hkn];rfl)
 have hyr:y∉rs:=kk3.none.mp (by rw[hkk,hry];rfl)
 have aaT:∀{H'},But [D.kd,D.sd,D.rd] H1 H'->aN (grow Hf H H1) H':=fun b z o h=>b z o (fun w=>by
  have w:z=D.kd\/z=D.sd\/z=D.rd:=by simpa using w
  rcases w with w | w | w
  ·rw[w,gk] at h;cases h
  ·rw[w,gss] at h;cases h
  ·rw[w,gr] at h;cases h) (gi z o h)
 have fin:∀H' kk' rs',But [D.kd,D.sd,D.rd] H1 H'->H' D.kd=some (.dK (putK kw (.inr y) (.int v)))->H' D.sd=some (.dK (putK ks (.inr y) (.ref rb)))->H' D.rd=some (.dK kk')->gH kk' rs'->(∀x,cG kk' (.inr x)=if(if x=y then made else rkn x)=true then some (.bl true) else none)->Q .non H':=fun H' kk' rs' bb h1 h2 h3 h4 h5=>by
  refine q v ps made (grow Hf H H1) H' ((But.of_same s1).trans bb) gs (fun z m hz=>Az s1 m hz) ⟨aaT bb,gk,gss,gr,⟨_,_,h1,kk1.rR hyw _,Ay hkw y v⟩,⟨_,h2,rD',kod.rR hyo _⟩,⟨_,_,h3,h4,h5,fun x hx=> ?_⟩,ok',md'⟩ hev
  unfold Rm.put
  by_cases z:x=y
  ·rw[if_pos z];simp
  ·rw[if_neg z] at hx ⊢;exact hrn x hx
 cases hm:made with
 | false=>
   rw[hm] at exs
   have hxs:decide (xs.length=0)=false:=exs
   walk_at "vs"
   rw[hxs]
   walk_at "vs"
   refine fin H3 kk rs (b2.trans b3) ek3 es3 er3 kk3 fun x=> ?_
   rw[hkk,hm]
   by_cases z:x=y
   ·rw[if_pos z,z,hry]
   ·rw[if_neg z]
 | true=>
   rw[hm] at exs
   have hxs:decide (xs.length=0)=true:=exs
   obtain⟨H4,eH4⟩:∃H4,H4=upd H3 D.rd (.dK (putK kk (.inr y) (.bl true))):=⟨_,rfl⟩
   have dp3:lJ H3 D.rd (.str y) (.bl true) H4:=by rw[eH4];exact lJ.k (k:= .inr y) er3 (bN (by omega))
   have k4:∀{z:Addr}{o:HO},z≠D.rd->H3 z=some o->H4 z=some o:=fun h h'=>by rw[eH4];exact(ao h).trans h'
   have j4:∀{z:Addr}{o:HO},H3 z=some o->(∀ks',o≠ .dK ks')->H4 z=some o:=fun{z o} h1 h2=>k4 (fun w=>by rw[w,er3] at h1;cases h1;exact h2 _ rfl) h1
   have er4:H4 D.rd=some (.dK (putK kk (.inr y) (.bl true))):=by rw[eH4];exact ak
   have ek4:=k4 nkr ek3
   have es4:=k4 nsr es3
   have b4:But [D.kd,D.sd,D.rd] H3 H4:=by rw[eH4];exact But.set _ (by simp)
   have e04:=j4 e03 (by simp)
   have eo4:=j4 eo3 (by simp)
   clear eH4
   walk_at "vs"
   rw[hxs]
   walk_at "vs"
   refine⟨⟨_,_,rfl⟩, ?_⟩
   refine fin H4 _ _ (b2.trans (b3.trans b4)) ek4 es4 er4 (kk3.rR hyr _) fun x=> ?_
   rw[lq,hm]
   by_cases z:x=y
   ·rw[if_pos (by rw[z]),if_pos z];rfl
   ·rw[if_neg (BV z),if_neg z];exact hkk x
end
section
local macro_rules | `(tactic| walk_at "side") => `(tactic| first | exact uD _ _ _ _ _ _ | exact oK _ _ _ _ _ _ | exact Cj _ _ _ _ _ _ | exact uE _ _ _ _ _ _ | exact oM _ _ _ _ _ _ | exact mD _ _ _ _ _ _ | exact (fU _ _ _ _ _ _).1 | exact (fU _ _ _ _ _ _).2.1 | exact (fU _ _ _ _ _ _).2.2.1 | exact (fU _ _ _ _ _ _).2.2.2.1 | exact (fU _ _ _ _ _ _).2.2.2.2 | exact (zm _).1 | exact (zm _).2 | exact (fQ _ _ _ _).1 | exact (fQ _ _ _ _).2.2.1 | exact (fQ _ _ _ _).2.2.2 | exact Nat.le_of_ble_eq_true rfl)
variable {P:Program}{w:World}{K:PySem.W.Frag}{mg:Str->Option Value}{base:Heap}{CSe CN CS CR:Addr}
abbrev aZ:Stmt:=uF 13 5
theorem iB:bR ["self","name","path","begun","last","other"] ["self","name"] (aa aZ):=⟨rfl,rfl,rfl,by decide +kernel,rfl,by decide +kernel,by decide +kernel⟩
theorem tZ:Loc (aa aZ) "path":=by decide +kernel
theorem t7:aG (aa aZ) "name":=by decide +kernel
theorem sO:Loc (aa aZ) "begun":=by decide +kernel
theorem eU:aG (aa aZ) "path":=by decide +kernel
theorem uc:Loc (aa aZ) "last":=by decide +kernel
theorem bD:aG (aa aZ) "last":=by decide +kernel
theorem cP:aG (aa aZ) "self":=by decide +kernel
theorem fZ:aG (aa aZ) "begun":=by decide +kernel
theorem sS:Loc (aa aZ) "other":=by decide +kernel
theorem iY:aG (aa aZ) "other":=by decide +kernel
theorem zx {f g0 g1 g2:Addr}{fd gd0 gd1 gd2:FuncData} (fW:fH K CSe "settle" "Search.settle" aZ ["self","name"] f fd)
 (gA:fH K CSe "begin" "Search.begin" cJ ["self","name"] g0 gd0) (CP:bx P w K mg base CX0 14 g0 gd0 ["self","name"] (KD CSe CN CS CR))
 (dJ:fH K CS "lacking" "Settling.lacking" aW ["self","known"] g1 gd1) (xF:bx P w K mg base CX0 4 g1 gd1 ["self","known"] (Ht CS CR))
 (iW:fH K CSe "end" "Search.end" dH ["self","name","settling"] g2 gd2) (Gf:bx P w K mg base CX0 3 g2 gd2 ["self","name","settling"] (OD CSe CN CS CR))
 (T:Blt mg) (sr:SrC K CSe) (sc:SeC K CS):bx P w K mg base CX0 15 f fd ["self","name"] (Hz CSe CN):=by
 refine fW.F.okQ iB (fun vs H Q E h=> ?_) (fun cdv A0 outer s H vs Q E hr h=> ?_)
 ·obtain⟨D,n,gv,rc,kg,kc,kr,rm,kn,rmN,rkn,od,Hf,x,rfl,_⟩:=h
  rfl
 obtain⟨D,n,gv,rc,kg,kc,kr,rm,knI,aaU,aaV,odI,HfI,x,rfl,shI,soI,hx,q⟩:=h
 obtain⟨k0,hk0,ex⟩:=lY.mp hx
 have jJ:=sr.cl
 have nG:=sr.nG
 have nK:=sr.nK
 have iy:=sc.cl
 have n17:=shI.n17
 have e0:=soI.sm _ _ shI.e
 refine⟨_,(au (cg (i:=2) iB.nd rfl tZ (gh (aU (aj 1 t7) aq)))
  (au (cg (i:=3) iB.nd rfl sO jU)
  (aD (Bq PassesOwn.never (Bp (aj 2 eU)) (au (cg (i:=4) iB.nd rfl uc (bz iw (aj 2 eU) (Nt Fl aA)))
  (au (dO (zg (dB hr) (aj 4 bD) (bw (aj 0 cP))) (aD (j9 (dB hr) (bw (aj 0 cP)) (aj 4 bD) (eF (dB hr) (bw (aj 0 cP)) (aj 4 bD)))) cT)
  (au (dO (zg (dB hr) (aj 4 bD) (bw (aj 0 cP))) (au (fK (yZ PySem.F.plainAttrs_list PySem.F.slot_list_pop PySem.F.type_list_pop vG (aj 2 eU)))
  (aD GX)) cT)
  (au (dO (vH (dB hr) (aj 4 bD) (aj 3 fZ)) (aD (j9 (dB hr) (aj 3 fZ) (aj 4 bD) (m7 (aj 0 cP) jJ gA.m (CP.mono (by omega)) hr gA.b .nil bM (aU (aj 4 bD) aq)))) cT)
  (au (cg (i:=5) iB.nd rfl sS (m7 (eF (dB hr) (aj 3 fZ) (aj 4 bD)) iy dJ.m (xF.mono (by omega)) hr dJ.b .nil bM (Ft (bw (aj 0 cP)) aq)))
  (aD (dO (cH Rb (aj 5 iY) Jh (bB _)) (aD (fK (m7 (aj 0 cP) jJ iW.m (Gf.mono (by omega)) hr iW.b .nil bM (aU (aj 4 bD) (jm (eF (dB hr) (aj 3 fZ) (aj 4 bD)) aq))))) (aD (dO (cH Jl (aj 5 iY) (aj 2 eU) rfl) (aD Hh) (aD (fK (tH PySem.F.plainAttrs_list PySem.F.slot_list_append PySem.F.type_list_append iU (aj 2 eU) (aU (aj 5 iY) aq))))))))))))))))), ?_⟩
 walk_at "vs"
 intro pth hpth
 have s1:=aC (.lst [.str x]) hpth
 have ep1:upd H pth (.lst [.str x]) pth=some (.lst [.str x]):=ak
 have so1:=soI.same s1
 generalize upd H pth (.lst [.str x])=H1 at *
 walk_at "vs"
 intro bgd hbgd
 have s2:=aC (.dK []) hbgd
 have eb2:upd H1 bgd (.dK []) bgd=some (.dK []):=ak
 have so2:=so1.same s2
 have ep2:=s2 _ _ ep1
 have S2:=s1.trans s2
 have nn:pth≠bgd:=fun z=>by rw[<-z,ep1] at hbgd;cases hbgd
 have fI:∀{z:Addr},H z=none->HfI z=none:=fun{z} h=>by
  cases q':HfI z with
  | none=>rfl
  | some o=>have:=soI.sm _ _ q';rw[h] at this;cases this
 have hb0:=same_none s1 hbgd
 have alI:∀z∈[D.kd,D.sd,D.rd],H z≠none:=fun z hz=>by
  obtain⟨kw,ws,e2,_⟩:=soI.ek
  obtain⟨ks',e3,_⟩:=soI.es
  obtain⟨kk,rs,e4,_⟩:=soI.er
  have hz:z=D.kd\/z=D.sd\/z=D.rd:=by simpa using hz
  rcases hz with rfl | rfl | rfl
  ·rw[e2];simp
  ·rw[e3];simp
  ·rw[e4];simp
 generalize upd H1 bgd (.dK [])=H2 at *
 have lp0:LpI CSe CN CS CR D pth bgd n gv rc kg kc kr rm knI odI HfI H x k0 [k0] knI aaU aaV odI (fun _=>none) HfI H2:=
  ⟨But.of_same S2,aN.refl _,fun _ _ z=>z,shI,so2,by rw[ex] at ep2;exact ep2,fI hpth,fI hb0,hpth,hb0,fun z=>alI _ z hpth,fun z=>alI _ z hb0,nn,by simp,by simpa using hk0,by simp,fun i hi=>by
    have:i=k0:=by simpa using hi
    rw[this,<-ex];exact .refl,Kn.Le.refl _,fun y hy=> .inl hy,⟨⟨[],[],eb2,⟨rfl,by simp⟩,fun y=>by rw[nY];rfl⟩,fun y hy=>absurd rfl hy,fun y A hy=>(nomatch hy),fun y A hy=>(nomatch hy),fun y y' A A' _ hy=>(nomatch hy)⟩, .inl rfl,fun y A hy=>(nomatch hy),by rw[ex];exact Mvs.refl _⟩
 refine⟨fun m σ H'=>∃(is:List Nat) (kn:Kn) (rmN:Rm) (rkn:Str->Bool) (od:List Str) (bg:Str->Option SeD) (Hf:Hp) (t1 t2:Option V),σ=[some (.ref D.so),some (.str x),some (.ref pth),some (.ref bgd),t1,t2]/\LpI CSe CN CS CR D pth bgd n gv rc kg kc kr rm knI odI HfI H x k0 is kn rmN rkn od bg Hf H'/\m=zZ n kn is,
  ⟨_,[k0],knI,aaU,aaV,odI,fun _=>none,HfI,none,none,rfl,lp0,rfl⟩, ?_⟩
 rintro m σ H3 ⟨is,kn,rmN,rkn,od,bg,Hf,t1,t2,rfl,lp,rfl⟩
 have ep:=lp.ep
 have e3:=lp.so.sm _ _ lp.sh.e
 have hlen:=lp.len
 rcases List.eq_nil_or_concat is with hnil | ⟨js,i,his⟩
 ·subst hnil
  have ep:H3 pth=some (.lst []):=ep
  walk_at "vs"
  have hkx:kn x≠none:=by
   rcases lp.hd with z | ⟨_,z⟩
   ·cases z
   ·exact z
  exact q kn rmN rkn od Hf H3 lp.b lp.sf lp.fm lp.so lp.mv lp.le hkx lp.new
 ·rw[List.concat_eq_append] at his
  subst his
  have hi:i<n:=lp.lt i (by simp)
  have hne:((js++[i]).map fun i=>V.str (az i)).isEmpty=false:=by simp
  have hla:atI ((js++[i]).map fun i=>V.str (az i)) (-1)=some (.str (az i)):=Ri (by rw[List.map_append];rfl)
  have hdl:((js++[i]).map fun i=>V.str (az i)).dropLast=js.map fun i=>V.str (az i):=by rw[List.map_append];exact List.dropLast_concat
  have hll:((js++[i]).map fun i=>V.str (az i))[((js++[i]).map fun i=>V.str (az i)).length - 1]? =some (.str (az i)):=by simp
  have hjl:js.length+1<=17:=by rw[List.length_append] at hlen;exact hlen
  have un:=lp.un
  rw[List.dropLast_concat] at un
  refine⟨_,rfl,true, .inl ⟨_,SqL.of ep,by simp⟩, ?_⟩
  refine(if_pos (rfl:true=true)).mpr ?_
  refine⟨fun σ' H'=>Wr (∃(is:List Nat) (kn':Kn) (rmN:Rm) (rkn:Str->Bool) (od:List Str) (bg:Str->Option SeD) (Hf:Hp) (t1 t2:Option V),σ'=[some (.ref D.so),some (.str x),some (.ref pth),some (.ref bgd),t1,t2]/\LpI CSe CN CS CR D pth bgd n gv rc kg kc kr rm knI odI HfI H x k0 is kn' rmN rkn od bg Hf H'/\zZ n kn' is<zZ n kn (js++[i])),fun σ' H' ⟨⟨is',kn',HB,rkn',od',bg',Hf',t1',t2',z1,z2,z3⟩⟩=>⟨_,z3,is',kn',HB,rkn',od',bg',Hf',t1',t2',z1,z2,rfl⟩, ?_⟩
  obtain⟨kw,ws,ek,kkw,hkw⟩:=lp.so.ek
  have hkl:=lp.so.kl kkw hkw
  have eg3:=lp.so.sm _ _ lp.sh.eg
  have hbd:=lp.sh.bd
  have hy:az i∈nmK n:=lY.mpr ⟨i,hi,rfl⟩
  have dg:cI H3 D.g (.str (az i)) ((gv (az i)).map V.int):=by rw[<-hbd.g];exact cI.k (k:= .inr (az i)) eg3
  have np:=lp.np
  simp only[List.mem_cons,List.not_mem_nil,or_false,not_or] at np
  cases hgv:gv (az i) with
  | some v=>
    rw[hgv] at dg
    have dg:cI H3 D.g (.str (az i)) (some (.int v)):=dg
    obtain⟨so4,le4⟩:=lp.so.giv ek kkw hkw hy hgv lp.sh.ne
    have b4:But [D.kd,D.sd,D.rd] H3 (upd H3 D.kd (.dK (putK kw (.inr (az i)) (.int v)))):=But.set _ (by simp)
    obtain⟨H4,eH4⟩:∃H4,H4=upd H3 D.kd (.dK (putK kw (.inr (az i)) (.int v))):=⟨_,rfl⟩
    have dp:lJ H3 D.kd (.str (az i)) (.int v) H4:=by rw[eH4];exact lJ.k (k:= .inr (az i)) ek (bN (by omega))
    rw[<-eH4] at so4 b4
    have hmv:Mvs gv rc (stk (js++[i]),kn,od) (stk (js++[i]),kn.put (az i) v,od):=by
     cases hkn:kn (az i) with
     | none=>exact(Mvs.refl _).snoc (by rw[vN];exact XC hkn hgv)
     | some u=>
       have e:kn.put (az i) v=kn:=by
        have:=le4 _ _ hkn
        unfold Kn.put at this
        rw[if_pos rfl] at this
        funext y
        unfold Kn.put
        by_cases w:y=az i
        ·rw[if_pos w,w,hkn,this]
        ·rw[if_neg w]
       rw[e];exact Mvs.refl _
    have lp4:=lp.know b4 (aN.refl _) (fun _ _ z=>z) so4 le4 (fun y hy=>by
     unfold Kn.put at hy
     by_cases w:y=az i
     ·exact .inr w
     ·rw[if_neg w] at hy;exact .inl hy) (fun y hne h=>by unfold Kn.put;rw[if_neg hne];exact h) (by omega) hmv
    have e4:=lp4.so.sm _ _ lp4.sh.e
    have ep4:=lp4.ep
    have dk4:cI H4 D.kd (.str (az i)) (some (.int v)):=by
     obtain⟨kw4,ws4,ek4,_,hk4⟩:=lp4.so.ek
     have:cG kw4 (.inr (az i))=some (.int v):=by rw[hk4];unfold Kn.put;rw[if_pos rfl];rfl
     rw[<-this];exact cI.k (k:= .inr (az i)) ek4
    have hk4:(kn.put (az i) v) (az i)≠none:=by unfold Kn.put;rw[if_pos rfl];simp
    have lp5:=lp4.pop hk4 ex
    have un4:=lp4.un
    rw[List.dropLast_concat] at un4
    have hm:=HF (n:=n) (js:=js) (by omega) un4
    walk_at "vs"
    rw[hdl]
    refine⟨js,_,_,_,_,_,_,_,_,rfl,lp5, ?_⟩
    cases hkn:kn (az i) with
    | none=>
      have hu:=Ck (v:=v) hi hkn
      rw[mF hkn]
      omega
    | some u=>
      have e:kn.put (az i) v=kn:=by
       have:=le4 _ _ hkn
       unfold Kn.put at this
       rw[if_pos rfl] at this
       funext y
       unfold Kn.put
       by_cases w:y=az i
       ·rw[if_pos w,w,hkn,this]
       ·rw[if_neg w]
      rw[e] at hm ⊢
      rw[vO (by rw[hkn];simp)]
      omega
  | none=>
    rw[hgv] at dg
    have dg:cI H3 D.g (.str (az i)) none:=dg
    cases hkn:kn (az i) with
    | some u=>
      have hk4:kn (az i)≠none:=by rw[hkn];simp
      have dk4:cI H3 D.kd (.str (az i)) (some (.int u)):=by
       have:cG kw (.inr (az i))=some (.int u):=by rw[hkw,hkn];rfl
       rw[<-this];exact cI.k (k:= .inr (az i)) ek
      have lp5:=lp.pop hk4 ex
      have hm:=HF (n:=n) (js:=js) (by omega) un
      walk_at "vs"
      rw[hdl]
      refine⟨js,_,_,_,_,_,_,_,_,rfl,lp5, ?_⟩
      rw[vO hk4]
      omega
    | none=>
      have dk4:cI H3 D.kd (.str (az i)) none:=by
       have:cG kw (.inr (az i))=none:=by rw[hkw,hkn];rfl
       rw[<-this];exact cI.k (k:= .inr (az i)) ek
      obtain⟨r,hrc⟩:∃r,rc (az i)=some r:=by
       rcases hbd.ok.dom i hi with z | z
       ·exact absurd hgv z
       ·cases w:rc (az i) with
        | none=>exact absurd w z
        | some r=>exact⟨r,rfl⟩
      obtain⟨k',hk',ek',rk'⟩:=hbd.ok.rk _ _ hrc
      have hik:i=k':=kW (by omega) (by omega) ek'
      subst hik
      have rki:=rk'.i
      have hT3:=rk'.t
      obtain⟨kb,ks,eb,kkb,hkb⟩:=lp.bgi.e
      cases hA:bg (az i) with
      | some A=>
        have db:cI H3 bgd (.str (az i)) (some (.ref A.s)):=by
         have:cG kb (.inr (az i))=some (.ref A.s):=by rw[hkb,hA];rfl
         rw[<-this];exact cI.k (k:= .inr (az i)) eb
        have lp6:=lp
        obtain⟨kb6,ks6,eb6,kk6,XM⟩:=lp6.bgi.e
        obtain⟨r',hr',_,seo⟩:=lp6.bgi.ok (az i) A hA hkn
        rw[hrc] at hr'
        cases hr'
        have e6:=lp6.so.sm _ _ lp6.sh.e
        have rD6:=lp6.sh.rD.map fun _ _ z=>z.same lp6.so.sm
        obtain⟨kw6,ws6,ek6,aen,XN⟩:=lp6.so.ek
        have knA:Oa H3 D.kd kn:=⟨kw6,ek6,XN⟩
        have nd3:D.kd≠A.a3:=fun z=>(lp6.bgi.al (az i) A hA A.a3 (by simp[SeD.ft])).2.2 (by rw[<-z];simp)
        have db6:cI H3 bgd (.str (az i)) (some (.ref A.s)):=by
         have:cG kb6 (.inr (az i))=some (.ref A.s):=by rw[XM,hA];rfl
         rw[<-this];exact cI.k (k:= .inr (az i)) eb6
        have eA6:=seo.e
        walk_at "vs"
        intro A' H7 b7 es eb' erk e1' e2' e3' efl so7
        have lp7:=lp6.gone hA b7 so7 hrc hgv es erk e1' e2' e3' efl
        have e7:=lp7.so.sm _ _ lp7.sh.e
        have ep7:=lp7.ep
        refine⟨fun hend=> ?_,fun z hzn hsk=> ?_⟩
        ·obtain⟨kb7,ks7,eb7,kk7,XQ⟩:=lp7.bgi.e
         have db7:cI H7 bgd (.str (az i)) (some (.ref A'.s)):=by
          have:cG kb7 (.inr (az i))=some (.ref A'.s):=by rw[XQ];unfold jO;rw[if_pos rfl];rfl
          rw[<-this];exact cI.k (k:= .inr (az i)) eb7
         have aeo:=lp7.so
         have sh7:=lp7.sh
         have eA7:=so7.e
         have hR7:=so7.hr
         have hy:az i∈nmK n:=lY.mpr ⟨i,hi,rfl⟩
         have hft:∀z∈A'.ft,z∉[D.kd,D.sd,D.rd]:=fun z hz w=>(lp7.bgi.al (az i) A' (by unfold jO;rw[if_pos rfl]) z hz).2.2 (by
          simp only[List.mem_cons,List.not_mem_nil,or_false] at w ⊢
          rcases w with q | q | q
          ·exact .inr (.inr (.inl q))
          ·exact .inr (.inr (.inr (.inl q)))
          ·exact .inr (.inr (.inr (.inr q))))
         walk_at "vs"
         intro v ps made Hf' H8 b8 sf8 fm8 so8 hev
         have lp8:=lp7.know b8 sf8 fm8 so8 (Kn.oE hkn) (fun y hy=>by
          unfold Kn.put at hy
          by_cases w:y=az i
          ·exact .inr w
          ·rw[if_neg w] at hy;exact .inl hy) (fun y hne h=>by unfold Kn.put;rw[if_neg hne];exact h) (by omega) ((Mvs.refl _).snoc (by rw[vN];exact Ox hgv hkn hrc hev))
         walk_at "vs"
         refine⟨_,_,_,_,_,_,_,_,_,rfl,lp8, ?_⟩
         have hu:=Ck (v:=v) hi hkn
         rw[mF hkn,vO (by unfold Kn.put;rw[if_pos rfl];simp)]
         omega
        ·obtain⟨j,hj,ez⟩:=lY.mp (hsk.in rki)
         subst ez
         have hin:inV (.str (az j)) ((js++[i]).map fun i=>V.str (az i))=false:=by
          unfold inV
          rw[List.any_eq_false]
          intro u hu
          obtain⟨k,hk,rfl⟩:=List.mem_map.mp hu
          have hkn':=lp7.lt k hk
          have hki:i<=k:=by
           rcases List.mem_append.mp hk with z | z
           ·have dec:=lp7.dec
            rw[List.pairwise_append] at dec
            exact Nat.le_of_lt (dec.2.2 k z i (by simp))
           ·have:k=i:=by simpa using z
            omega
          intro z
          have z:(az k==az j)=true:=z
          have:=kW (show k<26 by omega) (show j<26 by omega) (eq_of_beq z)
          omega
         have hfl:((js++[i]).map fun i=>V.str (az i)).all um=true:=by
          rw[List.all_eq_true]
          intro u hu
          obtain⟨k,hk,rfl⟩:=List.mem_map.mp hu
          rfl
         have hsz:((js++[i]).map fun i=>V.str (az i)).length<sizeLine:=by rw[List.length_map];exact bN (by omega)
         walk_at "vs"
         rw[hin]
         walk_at "vs"
         have em:((js++[i]).map fun i=>V.str (az i))++[V.str (az j)]=(js++[i]++[j]).map fun i=>V.str (az i):=by rw[List.map_append (l₁:=js++[i])];rfl
         rw[em]
         refine⟨js++[i]++[j],_,_,_,_,_,_,_,_,rfl,lp7.push hkn hj hgv hrc hsk hzn, ?_⟩
         rw[mF hkn,mF hzn,List.length_append]
         simp only[List.length_cons,List.length_nil]
         omega
      | none=>
        have db:cI H3 bgd (.str (az i)) none:=by
         have:cG kb (.inr (az i))=none:=by rw[hkb,hA];rfl
         rw[<-this];exact cI.k (k:= .inr (az i)) eb
        have sh3:=lp.sh.same lp.so.sm
        have hkbl:kb.length<=n:=by
         rw[kkb.len,<-jH n]
         refine jj kkb.nd fun y hy=>lp.bgi.nm y fun z=> ?_
         exact kkb.none.mp (by rw[hkb,z];rfl) hy
        walk_at "vs"
        intro A H4 s4 hA4 so4
        have lp6:=lp.begun s4 hA4 (so4 kn) hrc hgv hy hA eb
        have dpb:lJ H4 bgd (.str (az i)) (.ref A.s) (upd H4 bgd (.dK (putK kb (.inr (az i)) (.ref A.s)))):=lJ.k (k:= .inr (az i)) (s4 _ _ eb) (bN (by omega))
        have hA:jO bg (az i) A (az i)=some A:=by unfold jO;rw[if_pos rfl]
        generalize upd H4 bgd (.dK (putK kb (.inr (az i)) (.ref A.s)))=H5 at *
        obtain⟨kb6,ks6,eb6,kk6,XM⟩:=lp6.bgi.e
        obtain⟨r',hr',_,seo⟩:=lp6.bgi.ok (az i) A hA hkn
        rw[hrc] at hr'
        cases hr'
        have e6:=lp6.so.sm _ _ lp6.sh.e
        have rD6:=lp6.sh.rD.map fun _ _ z=>z.same lp6.so.sm
        obtain⟨kw6,ws6,ek6,aen,XN⟩:=lp6.so.ek
        have knA:Oa H5 D.kd kn:=⟨kw6,ek6,XN⟩
        have nd3:D.kd≠A.a3:=fun z=>(lp6.bgi.al (az i) A hA A.a3 (by simp[SeD.ft])).2.2 (by rw[<-z];simp)
        have db6:cI H5 bgd (.str (az i)) (some (.ref A.s)):=by
         have:cG kb6 (.inr (az i))=some (.ref A.s):=by rw[XM,hA];rfl
         rw[<-this];exact cI.k (k:= .inr (az i)) eb6
        have eA6:=seo.e
        walk_at "vs"
        intro A' H7 b7 es eb' erk e1' e2' e3' efl so7
        have lp7:=lp6.gone hA b7 so7 hrc hgv es erk e1' e2' e3' efl
        have e7:=lp7.so.sm _ _ lp7.sh.e
        have ep7:=lp7.ep
        refine⟨fun hend=> ?_,fun z hzn hsk=> ?_⟩
        ·obtain⟨kb7,ks7,eb7,kk7,XQ⟩:=lp7.bgi.e
         have db7:cI H7 bgd (.str (az i)) (some (.ref A'.s)):=by
          have:cG kb7 (.inr (az i))=some (.ref A'.s):=by rw[XQ];unfold jO;rw[if_pos rfl];rfl
          rw[<-this];exact cI.k (k:= .inr (az i)) eb7
         have aeo:=lp7.so
         have sh7:=lp7.sh
         have eA7:=so7.e
         have hR7:=so7.hr
         have hy:az i∈nmK n:=lY.mpr ⟨i,hi,rfl⟩
         have hft:∀z∈A'.ft,z∉[D.kd,D.sd,D.rd]:=fun z hz w=>(lp7.bgi.al (az i) A' (by unfold jO;rw[if_pos rfl]) z hz).2.2 (by
          simp only[List.mem_cons,List.not_mem_nil,or_false] at w ⊢
          rcases w with q | q | q
          ·exact .inr (.inr (.inl q))
          ·exact .inr (.inr (.inr (.inl q)))
          ·exact .inr (.inr (.inr (.inr q))))
         walk_at "vs"
         intro v ps made Hf' H8 b8 sf8 fm8 so8 hev
         have lp8:=lp7.know b8 sf8 fm8 so8 (Kn.oE hkn) (fun y hy=>by
          unfold Kn.put at hy
          by_cases w:y=az i
          ·exact .inr w
          ·rw[if_neg w] at hy;exact .inl hy) (fun y hne h=>by unfold Kn.put;rw[if_neg hne];exact h) (by omega) ((Mvs.refl _).snoc (by rw[vN];exact Ox hgv hkn hrc hev))
         walk_at "vs"
         refine⟨_,_,_,_,_,_,_,_,_,rfl,lp8, ?_⟩
         have hu:=Ck (v:=v) hi hkn
         rw[mF hkn,vO (by unfold Kn.put;rw[if_pos rfl];simp)]
         omega
        ·obtain⟨j,hj,ez⟩:=lY.mp (hsk.in rki)
         subst ez
         have hin:inV (.str (az j)) ((js++[i]).map fun i=>V.str (az i))=false:=by
          unfold inV
          rw[List.any_eq_false]
          intro u hu
          obtain⟨k,hk,rfl⟩:=List.mem_map.mp hu
          have hkn':=lp7.lt k hk
          have hki:i<=k:=by
           rcases List.mem_append.mp hk with z | z
           ·have dec:=lp7.dec
            rw[List.pairwise_append] at dec
            exact Nat.le_of_lt (dec.2.2 k z i (by simp))
           ·have:k=i:=by simpa using z
            omega
          intro z
          have z:(az k==az j)=true:=z
          have:=kW (show k<26 by omega) (show j<26 by omega) (eq_of_beq z)
          omega
         have hfl:((js++[i]).map fun i=>V.str (az i)).all um=true:=by
          rw[List.all_eq_true]
          intro u hu
          obtain⟨k,hk,rfl⟩:=List.mem_map.mp hu
          rfl
         have hsz:((js++[i]).map fun i=>V.str (az i)).length<sizeLine:=by rw[List.length_map];exact bN (by omega)
         walk_at "vs"
         rw[hin]
         walk_at "vs"
         have em:((js++[i]).map fun i=>V.str (az i))++[V.str (az j)]=(js++[i]++[j]).map fun i=>V.str (az i):=by rw[List.map_append (l₁:=js++[i])];rfl
         rw[em]
         refine⟨js++[i]++[j],_,_,_,_,_,_,_,_,rfl,lp7.push hkn hj hgv hrc hsk hzn, ?_⟩
         rw[mF hkn,mF hzn,List.length_append]
         simp only[List.length_cons,List.length_nil]
         omega
end
section
local macro_rules | `(tactic| walk_at "side") => `(tactic| first | exact uD _ _ _ _ _ _ | exact oK _ _ _ _ _ _ | exact Cj _ _ _ _ _ _ | exact uE _ _ _ _ _ _ | exact oM _ _ _ _ _ _ | exact mD _ _ _ _ _ _ | exact (fU _ _ _ _ _ _).1 | exact (fU _ _ _ _ _ _).2.1 | exact (fU _ _ _ _ _ _).2.2.1 | exact (fU _ _ _ _ _ _).2.2.2.1 | exact (fU _ _ _ _ _ _).2.2.2.2 | exact Nat.le_of_ble_eq_true rfl)
variable {P:Program}{w:World}{K:PySem.W.Frag}{mg:Str->Option Value}{base:Heap}{CSe CN CS CR:Addr}
abbrev fD:Stmt:=uF 13 3
theorem CQ:bR ["self"] ["self"] (aa fD):=⟨rfl,rfl,rfl,by decide +kernel,rfl,by decide +kernel,by decide +kernel⟩
theorem vX:aG (aa fD) "self":=by decide +kernel
theorem CT {f:Addr}{fd:FuncData} (gZ:fH K CSe "made" "Search.made" fD ["self"] f fd) (T:Blt mg) (sr:SrC K CSe):bx P w K mg base CX0 1 f fd ["self"] (O3 CSe):=by
 refine gZ.F.okQ CQ (fun vs H Q E h=> ?_) (fun cdv A outer s H vs Q E hr h=> ?_)
 ·obtain⟨D,ks,kk,ss,rkn,rfl,_⟩:=h
  rfl
 obtain⟨D,ks,kk,ss,rkn,rfl,e,es,hks,hsl,nsr,er,hkk,q⟩:=h
 have jJ:=sr.cl
 have nS:=sr.nS
 have nM:=sr.nM
 refine⟨_,(aD (bU (pA rfl (n:=1) (fr:=[0]) (N:=["name","self"]) (yh (scX:=aa fD) (NX:=["self"]) rfl rfl (by decide +kernel)) (Rr (bw (aj 0 vX))) (fun _ _ _ _ _=>(qgx (i:=0) (show List.Nodup (α:=Str) ["name","self"] by decide) (Bk (by decide +kernel)))) (fun _ _ _ _ _=>(wN (zg (dB hr) (aj 0 (ir.ok (by decide +kernel))) (FP (K:=K) rfl (aj 1 (ir.ok (by decide +kernel))))))) (fun _ _ _ _ _=>(aj 0 (ir.ok (by decide +kernel))))))), ?_⟩
 walk_at "vs"
 intro o
 have b1:But [D.sd] H (upd H D.sd (.frz o (.dK ks))):=But.set _ (by simp)
 have e1:upd H D.sd (.frz o (.dK ks)) D.so=some (.ins CSe D.dx (srF D.g D.c D.o D.kd D.sd D.rd)):=(ao (fun z=>by rw[z,es] at e;cases e)).trans e
 have er1:upd H D.sd (.frz o (.dK ks)) D.rd=some (.dK kk):=(ao (Ne.symm nsr)).trans er
 have es1:upd H D.sd (.frz o (.dK ks)) D.sd=some (.frz o (.dK ks)):=ak
 have n1:∀{z},upd H D.sd (.frz o (.dK ks)) z=none->H z=none:=fun z=>(fJ z).2
 generalize upd H D.sd (.frz o (.dK ks))=H1 at *
 intro L hL
 refine Es (fun i σ' H'=>(∃t,σ'=[t,some (.ref D.so)])/\aN H1 H'/\H' L=some (.lst (((ss.take i).filter rkn).map V.str))) ?_ ?_ ?_ ?_
 ·exact⟨⟨none,rfl⟩,aC _ hL,ak⟩
 ·intro i σ' H' _ hP
  exact hP.2.1 _ _ es1
 ·intro i k v σ' H' hkv hP
  obtain⟨⟨t,rfl⟩,S2,eL⟩:=hP
  obtain⟨x,rfl,hxi⟩:=hks.at hkv
  have hi:i<ss.length:=(List.getElem?_eq_some_iff.mp hxi).1
  have e2:=S2 _ _ e1
  have dg:cI H' D.rd (.str x) (if rkn x=true then some (.bl true) else none):=by rw[<-hkk];exact cI.k (k:= .inr x) (S2 _ _ er1)
  have hz:(((ss.take i).filter rkn).map V.str).length<sizeLine:=by
   rw[List.length_map]
   have h1:=List.length_filter_le (rkn) (ss.take i)
   have h2:=List.length_take_le i ss
   exact bN (by omega)
  have ht:ss.take (i+1)=ss.take i++[x]:=by rw[List.take_add_one,hxi];rfl
  cases hrx:rkn x with
  | true=>
    rw[hrx,if_pos rfl] at dg
    walk_at "vs"
    refine⟨⟨_,rfl⟩,d7 _ hL S2, ?_⟩
    rw[ht,List.filter_append,List.map_append,ak]
    simp[List.filter_cons,hrx]
    rfl
  | false=>
    rw[hrx,if_neg (by decide)] at dg
    walk_at "vs"
    refine⟨⟨_,rfl⟩,S2, ?_⟩
    rw[ht,List.filter_append,eL]
    simp[List.filter_cons,hrx]
 ·intro σ' H' hP
  obtain⟨_,S2,eL⟩:=hP
  rw[show ss.take ks.length=ss by rw[hks.len];exact List.take_length] at eL
  exact q L o H' (b1.trans (But.of_same S2)) (S2 _ _ es1) (n1 hL) eL
abbrev fG:Stmt:=uF 13 4
theorem CV:bR ["self"] ["self"] (aa fG):=⟨rfl,rfl,rfl,by decide +kernel,rfl,by decide +kernel,by decide +kernel⟩
theorem vY:aG (aa fG) "self":=by decide +kernel
theorem CW {f:Addr}{fd:FuncData} (ie:fH K CSe "kept" "Search.kept" fG ["self"] f fd) (T:Blt mg) (sr:SrC K CSe):bx P w K mg base CX0 1 f fd ["self"] (O4 CSe):=by
 refine ie.F.okQ CV (fun vs H Q E h=> ?_) (fun cdv A outer s H vs Q E hr h=> ?_)
 ·obtain⟨D,o,ks,kk,ss,rkn,rfl,_⟩:=h
  rfl
 obtain⟨D,o,ks,kk,ss,rkn,rfl,e,es,hks,hsl,er,hkk,q⟩:=h
 have jJ:=sr.cl
 have nS:=sr.nS
 have nM:=sr.nM
 refine⟨_,(aD (bU (pA rfl (n:=1) (fr:=[0]) (N:=["name","self"]) (yh (scX:=aa fG) (NX:=["self"]) rfl rfl (by decide +kernel)) (O2 (bw (aj 0 vY))) (fun _ _ _ _ _=>(qgx (i:=0) (show List.Nodup (α:=Str) ["name","self"] by decide) (Bk (by decide +kernel)))) (fun _ _ _ _ _=>(wN (vH (dB hr) (aj 0 (ir.ok (by decide +kernel))) (FP (K:=K) rfl (aj 1 (ir.ok (by decide +kernel))))))) (fun _ _ _ _ _=>(aj 0 (ir.ok (by decide +kernel))))))), ?_⟩
 have e1:=e
 have er1:=er
 have es1:=es
 walk_at "vs"
 intro L hL
 refine Es (fun i σ' H'=>(∃t,σ'=[t,some (.ref D.so)])/\aN H H'/\H' L=some (.lst (((ss.take i).filter (fun x=> !rkn x)).map V.str))) ?_ ?_ ?_ ?_
 ·exact⟨⟨none,rfl⟩,aC _ hL,ak⟩
 ·intro i σ' H' _ hP
  exact hP.2.1 _ _ es1
 ·intro i k v σ' H' hkv hP
  obtain⟨⟨t,rfl⟩,S2,eL⟩:=hP
  obtain⟨x,rfl,hxi⟩:=hks.at hkv
  have hi:i<ss.length:=(List.getElem?_eq_some_iff.mp hxi).1
  have e2:=S2 _ _ e1
  have dg:cI H' D.rd (.str x) (if rkn x=true then some (.bl true) else none):=by rw[<-hkk];exact cI.k (k:= .inr x) (S2 _ _ er1)
  have hz:(((ss.take i).filter (fun x=> !rkn x)).map V.str).length<sizeLine:=by
   rw[List.length_map]
   have h1:=List.length_filter_le ((fun x=> !rkn x)) (ss.take i)
   have h2:=List.length_take_le i ss
   exact bN (by omega)
  have ht:ss.take (i+1)=ss.take i++[x]:=by rw[List.take_add_one,hxi];rfl
  cases hrx:rkn x with
  | true=>
    rw[hrx,if_pos rfl] at dg
    walk_at "vs"
    refine⟨⟨_,rfl⟩,S2, ?_⟩
    rw[ht,List.filter_append,eL]
    simp[List.filter_cons,hrx]
  | false=>
    rw[hrx,if_neg (by decide)] at dg
    walk_at "vs"
    refine⟨⟨_,rfl⟩,d7 _ hL S2, ?_⟩
    rw[ht,List.filter_append,List.map_append,ak]
    simp[List.filter_cons,hrx]
    rfl
 ·intro σ' H' hP
  obtain⟨_,S2,eL⟩:=hP
  rw[show ss.take ks.length=ss by rw[hks.len];exact List.take_length] at eL
  exact q L H' S2 hL eL
end
section
local macro_rules | `(tactic| walk_at "side") => `(tactic| first | exact uD _ _ _ _ _ _ | exact oK _ _ _ _ _ _ | exact Cj _ _ _ _ _ _ | exact uE _ _ _ _ _ _ | exact oM _ _ _ _ _ _ | exact mD _ _ _ _ _ _ | exact (fU _ _ _ _ _ _).1 | exact (fU _ _ _ _ _ _).2.1 | exact (fU _ _ _ _ _ _).2.2.1 | exact (fU _ _ _ _ _ _).2.2.2.1 | exact (fU _ _ _ _ _ _).2.2.2.2 | exact Nat.le_of_ble_eq_true rfl)
variable {P:Program}{w:World}{K:PySem.W.Frag}{mg:Str->Option Value}{base:Heap}{CSe CN CS CR:Addr}
abbrev dh:Stmt:=top 14
theorem uY:bR ["house","old","wishes","search","name"] ["house","old","wishes"] (aa dh):=⟨rfl,rfl,rfl,by decide +kernel,rfl,by decide +kernel,by decide +kernel⟩
theorem xG:Loc (aa dh) "search":=by decide +kernel
theorem xH:(aa dh).names.lookup ("Search":Str)=some NameKind.globalImplicit:=by decide +kernel
theorem Aj:aG (aa dh) "old":=by decide +kernel
theorem yC:aG (aa dh) "house":=by decide +kernel
theorem xJ:(("Search":Str)==("__debug__":Str))=false:=by decide +kernel
theorem xK:aG (aa dh) "wishes":=by decide +kernel
theorem zy:Loc (aa dh) "name":=by decide +kernel
theorem oR:aG (aa dh) "search":=by decide +kernel
theorem zA:aG (aa dh) "name":=by decide +kernel
theorem HQ {f g0 g1:Addr}{fd gd0 gd1:FuncData} (fj:FnT K mg "searched" dh ["house","old","wishes"] f fd)
 (fO:fH K CSe "__init__" "Search.__init__" cD ["self","house","old"] g0 gd0) (yD:bx P w K mg base CX0 1 g0 gd0 ["self","house","old"] (Hy CSe))
 (fW:fH K CSe "settle" "Search.settle" aZ ["self","name"] g1 gd1) (Ak:bx P w K mg base CX0 15 g1 gd1 ["self","name"] (Hz CSe CN))
 (CZ:Mk K CSe g0) (Dc:mg "Search"=some (.ref CSe)) (T:Blt mg) (sr:SrC K CSe):bx P w K mg base CX0 16 f fd ["house","old","wishes"] (wX CSe CN):=by
 refine fj.F.okQ uY (fun vs H Q E h=> ?_) (fun cdv A outer s H vs Q E hr h=> ?_)
 ·obtain⟨h,g,c,o,dxo,rcd,wl,n,gv,rc,kg,kc,kr,rm,ws,rfl,_⟩:=h
  rfl
 obtain⟨h,g,c,o,dxo,rcd,wl,n,gv,rc,kg,kc,kr,rm,ws,rfl,eh,eg,ec,bd,n17,eo,er,rD,ewl,hws,q⟩:=h
 have jJ:=sr.cl
 refine⟨_,(au (cg (i:=3) uY.nd rfl xG (yo CZ (yD.mono (by omega)) hr xH Dc fO.b .nil bM (aU (aj 0 yC) (aU (aj 1 Aj) aq)) xJ))
  (au (Br PassesOwn.never rfl (pB (aj 2 xK)) (rP (i:=4) uY.nd rfl zy) (aD (fK (m7 (aj 3 oR) jJ fW.m (Ak.mono (by omega)) hr fW.b .nil bM (aU (aj 4 zA) aq)))))
  (aD (bU (aj 3 oR))))), ?_⟩
 walk_at "vs"
 intro a dx ha hdx hne
 have haH:(upd H dx (.own a)) a=none:=(ao (Ne.symm hne)).trans ha
 have S1:=(aC (.own a) hdx).trans (aC (.ins CSe dx []) haH)
 refine⟨a,dx,h,g,c,o,rfl,ak,S1 _ _ eh,fun kd sd rd H2 b2 e2 hk hs hr' nks nkr nsr ek2 es2 er2=>⟨rfl, ?_⟩⟩
 have hk0:=same_none S1 hk
 have hs0:=same_none S1 hs
 have hr0:=same_none S1 hr'
 have S2:aN H H2:=gQ S1 (fun p hp=>by
  have:p=a:=by simpa using hp
  rw[this];exact ha) b2
 have nka:kd≠a:=fun z=>by rw[z,ak] at hk;cases hk
 have nsa:sd≠a:=fun z=>by rw[z,ak] at hs;cases hs
 have nra:rd≠a:=fun z=>by rw[z,ak] at hr';cases hr'
 have sf0:aN H (upd H a (.ins CSe dx (srF g c o kd sd rd))):=aC _ ha
 have sm0:aN (upd H a (.ins CSe dx (srF g c o kd sd rd))) H2:=fun z ob e=>by
  by_cases w:z=a
  ·subst w;rw[ak] at e;cases e;exact e2
  ·rw[ao w] at e;exact S2 _ _ e
 have shf:SrH CSe CN ⟨a,dx,g,c,o,dxo,rcd,kd,sd,rd⟩ n gv rc kg kc kr rm (upd H a (.ins CSe dx (srF g c o kd sd rd))):=
  ⟨ak,sf0 _ _ eg,sf0 _ _ ec,bd.tups (aN.tups sf0),sf0 _ _ eo,sf0 _ _ er,rD.map fun _ _ z=>z.same sf0,n17,nks,nkr,nsr⟩
 have so2:qu ⟨a,dx,g,c,o,dxo,rcd,kd,sd,rd⟩ n gv rc rm kn0 (fun _=>none) (fun _=>false) [] (upd H a (.ins CSe dx (srF g c o kd sd rd))) H2:=
  ⟨sm0,(ao nka).trans hk0,(ao nsa).trans hs0,(ao nra).trans hr0,⟨[],[],ek2,⟨rfl,by simp⟩,fun x=>by rw[nY];rfl⟩,⟨[],es2,⟨⟨[],⟨rfl,by simp⟩,by simp⟩,fun x q e=>(nomatch e),fun x _=>nY,fun x r ps v e=>(nomatch e)⟩,⟨rfl,by simp⟩⟩,⟨[],[],er2,⟨rfl,by simp⟩,fun x=>by rw[nY];rfl,fun x h=>(nomatch h)⟩,⟨fun x v e=>(nomatch e),fun x r ps v e=>(nomatch e)⟩,fun x r ps v e=>(nomatch e)⟩
 have aaW:=S2 _ _ ewl
 walk_at "vs"
 refine Bb (xs:=ws.map V.str) (fun i σ H'=>∃(kn:Kn) (rmN:Rm) (rkn:Str->Bool) (od:List Str) (Hf:Hp) (t:Option V),σ=[some (.ref h),some (.ref o),some (.ref wl),some (.ref a),t]/\aN H H'/\aN H Hf/\SrH CSe CN ⟨a,dx,g,c,o,dxo,rcd,kd,sd,rd⟩ n gv rc kg kc kr rm Hf/\qu ⟨a,dx,g,c,o,dxo,rcd,kd,sd,rd⟩ n gv rc rm kn rmN rkn od Hf H'/\Runs gv rc (ws.take i) (kn0,[]) (kn,od)/\(∀x∈ws.take i,kn x≠none)/\∀y,kn y≠none->∃x∈ws,Rch gv rc kn x y) ?_ ?_ ?_ ?_
 ·exact⟨_,_,_,_,_,none,rfl,S2,sf0,shf,so2,rfl,by simp,fun y hy=>absurd rfl hy⟩
 ·rintro i σ H' _ ⟨kn,rmN,rkn,od,Hf,t,_,S3,_⟩
  exact SqL.of (S3 _ _ ewl)
 ·rintro i v σ H3 hv ⟨kn,rmN,rkn,od,Hf,t,rfl,S3,sf3,sh3,so3,ru3,hw3,hr3⟩
  obtain⟨x,hxi,rfl⟩:∃x,ws[i]? =some x/\v=V.str x:=by
   rw[List.getElem?_map] at hv
   cases e:ws[i]? with
   | none=>rw[e] at hv;cases hv
   | some x=>rw[e] at hv;exact⟨x,rfl,(Option.some.inj hv).symm⟩
  have hxm:x∈ws:=List.mem_of_getElem? hxi
  have hxn:=hws x hxm
  have e3:H3 a=some (.ins CSe dx (srF g c o kd sd rd)):=so3.sm _ _ sh3.e
  walk_at "vs"
  refine⟨⟨a,dx,g,c,o,dxo,rcd,kd,sd,rd⟩,n,gv,rc,kg,kc,kr,rm,kn,rmN,rkn,od,Hf,x,rfl,sh3,so3,hxn,fun kn' HB rkn' od' Hf' H4 b4 sf4 fm4 so4 mv4 le4 hx4 hr4=> ?_⟩
  refine⟨kn',HB,rkn',od',Hf',_,rfl,gQ S3 (fun p hp=> ?_) b4,sf3.trans sf4,sh3.same sf4,so4,by rw[List.take_add_one,hxi];exact ru3.snoc mv4,fun y hy=> ?_,fun y hy=> ?_⟩
  ·have hp:p=kd\/p=sd\/p=rd:=by simpa using hp
   rcases hp with rfl | rfl | rfl
   ·exact hk0
   ·exact hs0
   ·exact hr0
  ·rw[List.take_add_one,hxi] at hy
   rcases List.mem_append.mp hy with z | z
   ·intro w
    cases e:kn y with
    | none=>exact hw3 y z e
    | some u=>rw[le4 y u e] at w;cases w
   ·have:y=x:=by simpa using z
    rw[this];exact hx4
  ·rcases hr4 y hy with z | z
   ·obtain⟨x',hx',r'⟩:=hr3 y z
    exact⟨x',hx',r'.le le4⟩
   ·exact⟨x,hxm,z⟩
 ·rintro σ H3 ⟨kn,rmN,rkn,od,Hf,t,rfl,S3,sf3,sh3,so3,ru3,hw3,hr3⟩
  walk_at "vs"
  rw[show ws.take (ws.map V.str).length=ws by rw[List.length_map];exact List.take_length] at hw3 ru3
  exact q ⟨a,dx,g,c,o,dxo,rcd,kd,sd,rd⟩ kn rmN rkn od Hf H3 S3 sf3 sh3 so3 ru3 hk0 hs0 hr0 hw3 hr3
abbrev bY:Stmt:=top 16
theorem uZ:bR ["house","records","wishes","search"] ["house","records","wishes"] (aa bY):=⟨rfl,rfl,rfl,by decide +kernel,rfl,by decide +kernel,by decide +kernel⟩
theorem ud:Loc (aa bY) "search":=by decide +kernel
theorem qM:(aa bY).names.lookup ("searched":Str)=some NameKind.globalImplicit:=by decide +kernel
theorem ue:aG (aa bY) "wishes":=by decide +kernel
theorem nC:(aa bY).names.lookup ("NamedRecords":Str)=some NameKind.globalImplicit:=by decide +kernel
theorem sU:aG (aa bY) "records":=by decide +kernel
theorem nH:(("NamedRecords":Str)==("__debug__":Str))=false:=by decide +kernel
theorem u5:aG (aa bY) "house":=by decide +kernel
theorem qN:(("searched":Str)==("__debug__":Str))=false:=by decide +kernel
theorem gG:aG (aa bY) "search":=by decide +kernel
theorem Dd {f g0 g1 g2 g3:Addr}{fd gd0 gd1 gd2 gd3:FuncData} (cM:FnT K mg "build_again" bY ["house","records","wishes"] f fd)
 (fj:FnT K mg "searched" dh ["house","old","wishes"] g0 gd0) (xM:bx P w K mg base CX0 16 g0 gd0 ["house","old","wishes"] (wX CSe CN))
 (bC:fH K CN "__init__" "NamedRecords.__init__" bh ["self","records"] g1 gd1) (iC:bx P w K mg base CX0 1 g1 gd1 ["self","records"] (Cg CN))
 (iD:Mk K CN g1) (iG:mg "NamedRecords"=some (.ref CN))
 (gZ:fH K CSe "made" "Search.made" fD ["self"] g2 gd2) (Dz:bx P w K mg base CX0 1 g2 gd2 ["self"] (O3 CSe))
 (ie:fH K CSe "kept" "Search.kept" fG ["self"] g3 gd3) (DG:bx P w K mg base CX0 1 g3 gd3 ["self"] (O4 CSe))
 (T:Blt mg) (sr:SrC K CSe):bx P w K mg base CX0 17 f fd ["house","records","wishes"] FT:=by
 refine cM.F.okQ uZ (fun vs H Q E h=> ?_) (fun cdv A outer s H vs Q E hr h=> ?_)
 ·obtain⟨h,g,c,rcd,wl,n,gv,rc,kr,rm,ws,rfl,_⟩:=h
  rfl
 obtain⟨h,g,c,rcd,wl,n,gv,rc,kr,rm,ws,rfl,⟨kg,kc,eh,eg,ec,bd⟩,n17,er,rD,ewl,hws,q⟩:=h
 have jJ:=sr.cl
 have nK:=sr.nK
 have nS:=sr.nS
 refine⟨_,(au (cg (i:=3) uZ.nd rfl ud (aY (xM.mono (by omega)) hr qM fj.m fj.F.kp fj.b .nil bM (aU (aj 0 u5) (uA (yo iD (iC.mono (by omega)) hr nC iG bC.b .nil bM (aU (aj 1 sU) aq) nH) (aU (aj 2 ue) aq))) qN))
  (aD (bU (gK (Ft (bw (aj 3 gG)) (Ft (bw (aj 3 gG)) (uA (uB (aj 3 gG) jJ gZ.m (Dz.mono (by omega)) hr gZ.b .nil bM) (uA (uB (aj 3 gG) jJ ie.m (DG.mono (by omega)) hr ie.b .nil bM) aq)))))))), ?_⟩
 walk_at "vs"
 intro o dxo ho hdxo hne
 have hoH:(upd H dxo (.own o)) o=none:=(ao (Ne.symm hne)).trans ho
 have S1:=(aC (.own o) hdxo).trans (aC (.ins CN dxo []) hoH)
 refine⟨o,dxo,rcd,rfl,ak,fun H2 b2 e2=>⟨rfl, ?_⟩⟩
 have S2:aN H H2:=gQ S1 (fun p hp=>by
  have:p=o:=by simpa using hp
  rw[this];exact ho) b2
 have eh2:=S2 _ _ eh
 have eg2:=S2 _ _ eg
 have ec2:=S2 _ _ ec
 have bd2:=bd.tups (aN.tups S2)
 have er2:=S2 _ _ er
 have rD2:=rD.map fun _ _ z=>z.same S2
 have aaW:=S2 _ _ ewl
 walk_at "vs"
 intro D kn rmN rkn sn Hf H3 s3 sf3 sh3 so3 ru3 hk3 hs3 hr3 hw3 hrch
 have S3:=S2.trans s3
 have e3:=so3.sm _ _ sh3.e
 obtain⟨kw,wn,ek,kkw,hkw⟩:=so3.ek
 obtain⟨ks,es,rDs,kks⟩:=so3.es
 obtain⟨kk,rs,er3,kkr,hkk,hrn⟩:=so3.er
 have hsl:sn.length<=100:=by
  have:=rDs.len
  rw[kks.len] at this;omega
 obtain⟨nks,nkr,nsr⟩:=sh3.ne
 have hk0:=same_none S2 hk3
 have hs0:=same_none S2 hs3
 have hr0:=same_none S2 hr3
 walk_at "vs"
 intro lm o' H4 b4 es4 hlm elm
 have k4:∀{z:Addr}{u:HO},z≠D.sd->H3 z=some u->H4 z=some u:=fun h e=>b4 _ _ (by simpa using h) e
 have e4:=k4 (fun z=>by rw[z,es] at e3;cases e3) e3
 have er4:=k4 (Ne.symm nsr) er3
 have ek4:=k4 nks ek
 have sf4:aN Hf H4:=fun z u e=>k4 (fun w=>by rw[w,so3.fs] at e;cases e) (so3.sm _ _ e)
 walk_at "vs"
 intro lk H5 s5 hlk elk
 have aep:=s5 _ _ elm
 have es5:=s5 _ _ es4
 have ek5:=s5 _ _ ek4
 have hnl:lm≠lk:=fun z=>by rw[<-z,elm] at hlk;cases hlk
 walk_at "vs"
 intro t ht
 have s6:=aC (.tup [.ref D.kd, .ref D.sd, .ref lm, .ref lk]) ht
 have S4:aN H H4:=gQ S3 (fun p hp=>by
  have:p=D.sd:=by simpa using hp
  rw[this];exact hs0) b4
 have aeq:=same_none S3 hlm
 have aer:=same_none S4 hlk
 exact q t D.kd D.sd lm lk kw ks wn sn kn rmN rkn o' _ (S4.trans (s5.trans s6)) ak hk0 hs0 aeq aer nks hnl (s6 _ _ ek5) kkw hkw (s6 _ _ es5) kks (rDs.map fun _ _ z=>z.same (sf4.trans (s5.trans s6))) (s6 _ _ aep) (s6 _ _ elk) ⟨so3.ok,so3.md,hw3,hrch,hrn⟩ ru3
abbrev bZ:Stmt:=top 20
theorem u6:bR ["house","wishes","search"] ["house","wishes"] (aa bZ):=⟨rfl,rfl,rfl,by decide +kernel,rfl,by decide +kernel,by decide +kernel⟩
theorem uf:Loc (aa bZ) "search":=by decide +kernel
theorem qO:(aa bZ).names.lookup ("searched":Str)=some NameKind.globalImplicit:=by decide +kernel
theorem ug:aG (aa bZ) "wishes":=by decide +kernel
theorem nJ:(aa bZ).names.lookup ("NamedRecords":Str)=some NameKind.globalImplicit:=by decide +kernel
theorem nQ:(("NamedRecords":Str)==("__debug__":Str))=false:=by decide +kernel
theorem u9:aG (aa bZ) "house":=by decide +kernel
theorem qP:(("searched":Str)==("__debug__":Str))=false:=by decide +kernel
theorem vZ:(aa bZ).names.lookup ("list":Str)=some NameKind.globalImplicit:=by decide +kernel
theorem jo:aG (aa bZ) "search":=by decide +kernel
theorem v5:("list":Str)≠"__name__":=by decide +kernel
theorem v7:(("list":Str)==("__debug__":Str))=false:=by decide +kernel
theorem De {f g0 g1:Addr}{fd gd0 gd1:FuncData} (cN:FnT K mg "fresh_build" bZ ["house","wishes"] f fd)
 (fj:FnT K mg "searched" dh ["house","old","wishes"] g0 gd0) (xM:bx P w K mg base CX0 16 g0 gd0 ["house","old","wishes"] (wX CSe CN))
 (bC:fH K CN "__init__" "NamedRecords.__init__" bh ["self","records"] g1 gd1) (iC:bx P w K mg base CX0 1 g1 gd1 ["self","records"] (Cg CN))
 (iD:Mk K CN g1) (iG:mg "NamedRecords"=some (.ref CN))
 (T:Blt mg) (sr:SrC K CSe):bx P w K mg base CX0 17 f fd ["house","wishes"] Cm:=by
 refine cN.F.okQ u6 (fun vs H Q E h=> ?_) (fun cdv A outer s H vs Q E hr h=> ?_)
 ·obtain⟨h,g,c,wl,n,gv,rc,ws,rfl,_⟩:=h
  rfl
 obtain⟨h,g,c,wl,n,gv,rc,ws,rfl,⟨kg,kc,eh,eg,ec,bd⟩,n17,ewl,hws,q⟩:=h
 have jJ:=sr.cl
 have nK:=sr.nK
 have nS:=sr.nS
 refine⟨_,(au (cg (i:=2) u6.nd rfl uf (aY (xM.mono (by omega)) hr qO fj.m fj.F.kp fj.b .nil bM (aU (aj 0 u9) (uA (yo iD (iC.mono (by omega)) hr nJ iG bC.b .nil bM (aaG jU aq) nQ) (aU (aj 1 ug) aq))) qP))
  (aD (bU (gK (Ft (bw (aj 2 jo)) (Ft (bw (aj 2 jo)) (uA (kJ (BL rfl) vZ T.Bt yl (Ft (bw (aj 2 jo)) aq) v5 v7) aq))))))), ?_⟩
 walk_at "vs"
 intro rcd hrcd
 have S0:=aC (.dK []) hrcd
 have er0:upd H rcd (.dK []) rcd=some (.dK []):=ak
 generalize upd H rcd (.dK [])=H0 at *
 walk_at "vs"
 intro o dxo ho hdxo hne
 have hoH:(upd H0 dxo (.own o)) o=none:=(ao (Ne.symm hne)).trans ho
 have S1:=(aC (.own o) hdxo).trans (aC (.ins CN dxo []) hoH)
 refine⟨o,dxo,rcd,rfl,ak,fun H2 b2 e2=>⟨rfl, ?_⟩⟩
 have S2':aN H0 H2:=gQ S1 (fun p hp=>by
  have:p=o:=by simpa using hp
  rw[this];exact ho) b2
 have S2:=S0.trans S2'
 have eh2:=S2 _ _ eh
 have eg2:=S2 _ _ eg
 have ec2:=S2 _ _ ec
 have bd2:=bd.tups (aN.tups S2)
 have er2:=S2' _ _ er0
 have rD2:oJ H2 [] n (fun _=>none):=⟨⟨[],⟨rfl,by simp⟩,by simp⟩,fun x q e=>(nomatch e),fun x _=>nY,fun x r ps v e=>(nomatch e)⟩
 have aaW:=S2 _ _ ewl
 walk_at "vs"
 intro D kn rmN rkn sn Hf H3 s3 sf3 sh3 so3 ru3 hk3 hs3 hr3 hw3 hrch
 have S3:=S2.trans s3
 have e3:=so3.sm _ _ sh3.e
 obtain⟨kw,wn,ek,kkw,hkw⟩:=so3.ek
 obtain⟨ks,es,rDs,kks⟩:=so3.es
 obtain⟨kk,rs,er3,kkr,hkk,hrn⟩:=so3.er
 obtain⟨nks,nkr,nsr⟩:=sh3.ne
 have hk0:=same_none S2 hk3
 have hs0:=same_none S2 hs3
 walk_at "vs"
 intro l hl
 rw[zj kks.k]
 have s4:=aC (.lst (sn.map V.str)) hl
 have el4:upd H3 l (.lst (sn.map V.str)) l=some (.lst (sn.map V.str)):=ak
 have ek4:=s4 _ _ ek
 have es4:=s4 _ _ es
 generalize upd H3 l (.lst (sn.map V.str))=H4 at *
 walk_at "vs"
 intro t ht
 have s6:=aC (.tup [.ref D.kd, .ref D.sd, .ref l]) ht
 have hrk:∀x,rkn x=(rmN x).isSome:=fun x=>by
  cases e:rmN x with
  | none=>
    cases w:rkn x with
    | false=>rfl
    | true=>exact absurd e (hrn x w)
  | some qq=>
    obtain⟨r,ps,v⟩:=qq
    have h3:=(so3.md x r ps v e).2.2
    cases w:rkn x with
    | true=>rfl
    | false=>rw[w,if_neg (by decide)] at h3;cases h3
 exact q t D.kd D.sd l kw ks wn sn kn rmN _ (S3.trans (s4.trans s6)) ak hk0 hs0 (same_none S3 hl) nks (s6 _ _ ek4) kkw hkw (s6 _ _ es4) kks (rDs.map fun _ _ z=>z.same (so3.sm.trans (s4.trans s6))) (s6 _ _ el4) ⟨so3.ok,fun x r ps v e=>by rw[<-hrk];exact so3.md x r ps v e,hw3,hrch,fun x hx z=>by rw[z] at hx;cases hx⟩ ru3
end
section
variable {P:Program}{w:World}{K:PySem.W.Frag}{mg:Str->Option Value}{base:Heap}
abbrev dG:Stmt:=top 22
theorem Df:bR ["script","k"] ["script","k"] (aa dG):=⟨rfl,rfl,rfl,by decide +kernel,rfl,by decide +kernel,by decide +kernel⟩
theorem qQ:aG (aa dG) "k":=by decide +kernel
theorem xN:(aa dG).names.lookup ("len":Str)=some NameKind.globalImplicit:=by decide +kernel
theorem lO:aG (aa dG) "script":=by decide +kernel
theorem xO:("len":Str)≠"__name__":=by decide +kernel
theorem xP:(("len":Str)==("__debug__":Str))=false:=by decide +kernel
theorem Dg {f:Addr}{fd:FuncData} (bV:FnT K mg "_law_cell_at" dG ["script","k"] f fd) (T:Blt mg):bx P w K mg base CX0 1 f fd ["script","k"] (Jr K):=by
 refine bV.F.okQ Df (fun vs H Q E h=> ?_) (fun cdv A outer s H vs Q E hr h=> ?_)
 ·obtain⟨a,ns,k,rfl,_⟩:=h
  rfl
 obtain⟨a,ns,k,rfl,hS,h0,q⟩:=h
 refine⟨_,(au (dO (cH Nz (aj 1 qQ) (dF jw xN T.zW ux (aU (aj 0 lO) aq) xO xP) (bB _)) (aD (bU (bz iw (aj 0 lO) (aj 1 qQ)))) cT)
  (aD (bU aA))), ?_⟩
 walk_at "vs"
 refine wM (fun c1=> ?_) (fun c1=> ?_)
 ·have c1':k<((ns.map V.int).length:Int):=by simpa using c1
  obtain⟨v,j,hv,_⟩:=aaz h0 c1'
  walk_at "vs"
  exact q _
 ·walk_at "vs"
  exact q _
abbrev gB:Stmt:=top 23
theorem HR:bR ["script","k"] ["script","k"] (aa gB):=⟨rfl,rfl,rfl,by decide +kernel,rfl,by decide +kernel,by decide +kernel⟩
theorem wH:aG (aa gB) "k":=by decide +kernel
theorem j6:(aa gB).names.lookup ("_law_cell_at":Str)=some NameKind.globalImplicit:=by decide +kernel
theorem oU:aG (aa gB) "script":=by decide +kernel
theorem j7:(("_law_cell_at":Str)==("__debug__":Str))=false:=by decide +kernel
theorem HS {f g:Addr}{fd gd:FuncData} (di:FnT K mg "_law_pool" gB ["script","k"] f fd) (bV:FnT K mg "_law_cell_at" dG ["script","k"] g gd) (lZ:bx P w K mg base CX0 1 g gd ["script","k"] (Jr K)) (T:Blt mg):
 bx P w K mg base CX0 2 f fd ["script","k"] (Js K):=by
 refine di.F.okQ HR (fun vs H Q E h=> ?_) (fun cdv A outer s H vs Q E hr h=> ?_)
 ·obtain⟨a,ns,k,rfl,_⟩:=h
  rfl
 obtain⟨a,ns,k,rfl,hS,h0,h1,q⟩:=h
 refine⟨_,(aD (bU (Q8 (Fg cU (aY (lZ.mono (by omega)) hr j6 bV.m bV.F.kp bV.b .nil bM (aU (aj 0 oU) (aU (aj 1 wH) aq)) j7) (Fg cU (Bo gj (cV lX (aY (lZ.mono (by omega)) hr j6 bV.m bV.F.kp bV.b .nil bM (aU (aj 0 oU) (jl aA aq)) j7) aA) aA (bB _)) (Fg cU (cV lu aA (cV rQ aA (aj 1 wH))) W5)))))), ?_⟩
 walk_at "vs"
 intro p hp
 have s1:=aC (.dK []) hp
 have hS1:=SqL.same s1 hS
 have e1:upd H p (.dK []) p=some (.dK []):=ak
 generalize upd H p (.dK [])=H1 at *
 walk_at "vs"
 intro n1
 walk_at "vs"
 intro n2
 walk_at "vs"
 refine⟨oA n1 (decide (V.int (n2 % 2)=V.int 1)) (3+5 * k),rfl,by show 3<=15;decide, ?_⟩
 have em:gJ [] (oA n1 (decide (V.int (n2 % 2)=V.int 1)) (3+5 * k))=oA n1 (decide (V.int (n2 % 2)=V.int 1)) (3+5 * k):=rfl
 rw[em]
 exact q p _ (d7 _ hp s1) hp ⟨_,_,_,ak,by omega,by omega⟩
abbrev dm:Stmt:=top 24
theorem mO:bR ["pool","many","rest"] ["pool","many"] (aa dm):=⟨rfl,rfl,rfl,by decide +kernel,rfl,by decide +kernel,by decide +kernel⟩
theorem jK:Loc (aa dm) "rest":=by decide +kernel
theorem fu:aG (aa dm) "pool":=by decide +kernel
theorem cX:aG (aa dm) "rest":=by decide +kernel
theorem lU:aG (aa dm) "many":=by decide +kernel
theorem HW {f:Addr}{fd:FuncData} (aB:FnT K mg "_law_take" dm ["pool","many"] f fd) (T:Blt mg):bx P w K mg base CX0 1 f fd ["pool","many"] wQ:=by
 refine aB.F.okQ mO (fun vs H Q E h=> ?_) (fun cdv A outer s H vs Q E hr h=> ?_)
 ·obtain⟨p,c,many,rfl,_⟩:=h
  rfl
 obtain⟨p,c,many,rfl,⟨rest,mixed,count,e,h0,h1⟩,hc,hm,hlg,q⟩:=h
 refine⟨_,(au (cg (i:=2) mO.nd rfl jK (eF (dB hr) (aj 0 fu) cU))
  (au (dO (Ji (uy (eF (dB hr) (aj 0 fu) cU))) (au (j9 (dB hr) (aj 0 fu) cU (cV GZ (aj 2 cX) (aj 1 lU)))
  (aD (bU (cV lX (aj 2 cX) (aj 1 lU))))) cT)
  (au (j9 (dB hr) (aj 0 fu) cU (cV lu (eF (dB hr) (aj 0 fu) cU) aA))
  (au (cg (i:=2) mO.nd rfl jK (cV lu (cV lX (aj 2 cX) aA) (cV rQ aA (eF (dB hr) (aj 0 fu) cU))))
  (au (cg (i:=2) mO.nd rfl jK (cV lX (cV rQ (aj 2 cX) (cV lu (aj 2 cX) aA)) aA))
  (au (cg (i:=2) mO.nd rfl jK (cV lX (cV rQ (aj 2 cX) (aj 2 cX)) aA))
  (au (j9 (dB hr) (aj 0 fu) cU (aj 2 cX))
  (aD (bU (cV lX (cV GZ (aj 2 cX) aA) (aj 1 lU))))))))))), ?_⟩
 have d1:=Ek e
 have d2:=Jt e
 have d3:=Bx e
 walk_at "vs"
 cases mixed with
 | false=>
   walk_at "vs"
   refine And.intro (wF e _) ?_
   walk_at "vs"
   exact q _ _ (Int.emod_nonneg _ (by omega)) (Int.emod_lt_of_pos _ hm) (But.set _ (by simp)) ⟨_,_,_,ak,h0,by omega⟩
 | true=>
   walk_at "vs"
   refine And.intro (By e _) ?_
   have e2:upd H p (.dK (oA rest true (count+1))) p=some (.dK (oA rest true (count+1))):=ak
   have b2:But [p] H (upd H p (.dK (oA rest true (count+1)))):=But.set _ (by simp)
   clear d1 d2 d3
   generalize upd H p (.dK (oA rest true (count+1)))=H2 at *
   have d1:=Ek e2
   have d3:=Bx e2
   have r0:=Int.emod_nonneg rest (show(1000000000163:Int)≠0 by decide)
   have r1:=Int.emod_lt_of_pos rest (show(0:Int)<1000000000163 by decide)
   have m1:Bc 70001 (count+1):= .inl ⟨by decide,by decide⟩
   have m2:Bc (rest % 1000000000163+70001 *(count+1)) (rest % 1000000000163+70001 *(count+1)+29):= .inl ⟨by omega,by omega⟩
   have z1:=Int.emod_nonneg ((rest % 1000000000163+70001 *(count+1))*(rest % 1000000000163+70001 *(count+1)+29)) (show(1000000000193:Int)≠0 by decide)
   have z2:=Int.emod_lt_of_pos ((rest % 1000000000163+70001 *(count+1))*(rest % 1000000000163+70001 *(count+1)+29)) (show(0:Int)<1000000000193 by decide)
   walk_at "vs"
   refine And.intro (wF e2 _) ?_
   walk_at "vs"
   exact q _ _ (Int.emod_nonneg _ (by omega)) (Int.emod_lt_of_pos _ hm) (b2.trans (But.set _ (by simp))) ⟨_,_,_,ak,by omega,by omega⟩
abbrev ig:Stmt:=top 25
theorem Aa:bR ["k","letters"] ["k"] (aa ig):=⟨rfl,rfl,rfl,by decide +kernel,rfl,by decide +kernel,by decide +kernel⟩
theorem v8:Loc (aa ig) "letters":=by decide +kernel
theorem mY:aG (aa ig) "letters":=by decide +kernel
theorem pZ:aG (aa ig) "k":=by decide +kernel
theorem HX {f:Addr}{fd:FuncData} (dY:FnT K mg "_law_name" ig ["k"] f fd) (T:Blt mg):bx P w K mg base CX0 1 f fd ["k"] Hi:=by
 refine dY.F.okQ Aa (fun vs H Q E h=> ?_) (fun cdv A outer s H vs Q E hr h=> ?_)
 ·obtain⟨k,rfl,_⟩:=h
  rfl
 obtain⟨k,rfl,hk,q⟩:=h
 refine⟨_,(au (cg (i:=1) Aa.nd rfl v8 cU)
  (aD (bU (cV G3 (bz Kf (aj 1 mY) (cV lX (aj 0 pZ) aA)) (cV N6 (bz Kf (aj 1 mY) (cV lX (cV rQ (aj 0 pZ) aA) aA)) (cV lX (cV rQ (aj 0 pZ) aA) aA)))))), ?_⟩
 have l1:=N7 (n:=(k:Int) % 26) (i:=k % 26) (by omega) (by omega)
 have l2:=N7 (n:=(k:Int)* 7 % 26) (i:=k * 7 % 26) (by omega) (by omega)
 have zl:("abcdefghijklmnopqrstuvwxyz":Str).length<=sizeLine:=by decide +kernel
 have m1:Bc (k:Int) 7:= .inr ⟨by decide,by decide⟩
 have m2:Bc (k:Int) 5:= .inr ⟨by decide,by decide⟩
 have n0:0<=(k:Int)* 5 % 8:=by omega
 have n1:(k:Int)* 5 % 8<=1000:=by omega
 have o1:(⟨#[k * 7 % 26+97]⟩:Str).length<=1000:=by show 1<=1000;decide
 have en:((k:Int)* 5 % 8).toNat=k * 5 % 8:=by omega
 have q':Q (.str (ltr (k % 26)++Bw (ltr (k * 7 % 26)) ((k:Int)* 5 % 8).toNat)) H:=by rw[en];exact q
 have zz:(⟨#[k % 26+97]⟩:Str).length+(Bw (⟨#[k * 7 % 26+97]⟩:Str) ((k:Int)* 5 % 8).toNat).length<=sizeLine:=by
  rw[Rk,en,sizeLine_eq]
  show 1+k * 5 % 8 * 1<=_
  omega
 walk_at "vs"
 exact q'
end
section
variable {P:Program}{w:World}{K:PySem.W.Frag}{mg:Str->Option Value}{base:Heap}
abbrev fB:Stmt:=top 26
theorem HY:bR ["pool","names"] ["pool","names"] (aa fB):=⟨rfl,rfl,rfl,by decide +kernel,rfl,by decide +kernel,by decide +kernel⟩
theorem eV:(aa fB).names.lookup ("_law_take":Str)=some NameKind.globalImplicit:=by decide +kernel
theorem iH:aG (aa fB) "pool":=by decide +kernel
theorem eX:(("_law_take":Str)==("__debug__":Str))=false:=by decide +kernel
theorem lE:aG (aa fB) "names":=by decide +kernel
theorem Al:(aa fB).names.lookup ("len":Str)=some NameKind.globalImplicit:=by decide +kernel
theorem Am:("len":Str)≠"__name__":=by decide +kernel
theorem An:(("len":Str)==("__debug__":Str))=false:=by decide +kernel
theorem Ia {f g:Addr}{fd gd:FuncData} (dZ:FnT K mg "_law_leaf" fB ["pool","names"] f fd) (aB:FnT K mg "_law_take" dm ["pool","many"] g gd) (bF:bx P w K mg base CX0 1 g gd ["pool","many"] wQ) (T:Blt mg):
 bx P w K mg base CX0 2 f fd ["pool","names"] Kr:=by
 refine dZ.F.okQ HY (fun vs H Q E h=> ?_) (fun cdv A outer s H vs Q E hr h=> ?_)
 ·obtain⟨p,l,c,ns,rfl,_⟩:=h
  rfl
 obtain⟨p,l,c,ns,rfl,hp,hc,el,hn1,hn9,hg,q⟩:=h
 refine⟨_,(au (dO (Dq (Eh (cH (Rc hr.units) (aj 1 lE) (gh aq) (bB _)) (yX (cH gj (aY (bF.mono (by omega)) hr eV aB.m aB.F.kp aB.b .nil bM (aU (aj 0 iH) (jl aA aq)) eX) aA (bB _))))) (aD (bU (gK (jl cU (jm (bz iw (gh (zf (cV lW (aY (bF.mono (by omega)) hr eV aB.m aB.F.kp aB.b .nil bM (aU (aj 0 iH) (jl aA aq)) eX) aA) (zf (cV lW (aY (bF.mono (by omega)) hr eV aB.m aB.F.kp aB.b .nil bM (aU (aj 0 iH) (zf (cV Fj aA aA) aq)) eX) (cV Fj aA aA)) aq))) (aY (bF.mono (by omega)) hr eV aB.m aB.F.kp aB.b .nil bM (aU (aj 0 iH) (jl aA aq)) eX)) aq))))) cT)
  (aD (bU (gK (jl cU (jm (bz iw (aj 1 lE) (aY (bF.mono (by omega)) hr eV aB.m aB.F.kp aB.b .nil bM (aU (aj 0 iH) (uA (dF jw Al T.zW ux (aU (aj 1 lE) aq) Am An) aq)) eX)) aq)))))), ?_⟩
 have nlp:=hp.nel el
 have cp1:Qo 10 20:=⟨by decide,by decide,by decide⟩
 have cp2:Qo 10 19:=⟨by decide,by decide,by decide⟩
 have p20:(10:Int)^(20:Int).toNat=100000000000000000000:=by decide +kernel
 have p19:(10:Int)^(19:Int).toNat=10000000000000000000:=by decide +kernel
 have hq0:0<(10:Int)^(20:Int).toNat:=by rw[p20];omega
 have hql:((10:Int)^(20:Int).toNat).natAbs.log2<9000:=by rw[p20];decide +kernel
 walk_at "vs"
 intro pe hpe
 have npe:pe∉[p]:=fun z=>hp.ne hpe (by simpa using z)
 have S1:=aC (.lst []) hpe
 have B1:But [p] H (upd H pe (.lst [])):=But.of_same S1
 have pl1:=hp.same S1
 have el1:=S1 _ _ el
 have e1:upd H pe (.lst []) pe=some (.lst []):=ak
 generalize upd H pe (.lst [])=H1 at *
 refine⟨_,_, .lst (SqL.of el1) (iT _), .lst (SqL.of e1) .nil,oF hg,by decide, ?_⟩
 rw[Kq hn1]
 walk_at "vs"
 intro n2 H2 n20 n21 b2 pl2
 have B2:=B1.trans b2
 have el2:=B2 _ _ nlp el
 walk_at "vs"
 refine wM (fun c1=> ?_) (fun c1=> ?_)
 ·walk_at "vs"
  intro n3 H3 n30 n31 b3 pl3
  walk_at "vs"
  intro n4 H4 n40 n41 b4 pl4
  have aes:n4<(10:Int)^(20:Int).toNat:=n41
  rw[p20] at aes
  have B4:=B2.trans (b3.trans b4)
  walk_at "vs"
  intro ps hps
  have nps:ps∉[p]:=fun z=>pl4.ne hps (by simpa using z)
  have aet:=gR B4 hps nps
  have S5:=aC (.lst [V.int (n3 - 4),V.int (n4 - (10:Int)^(19:Int).toNat)]) hps
  have e5:upd H4 ps (.lst [V.int (n3 - 4),V.int (n4 - (10:Int)^(19:Int).toNat)]) ps=some (.lst [V.int (n3 - 4),V.int (n4 - 10000000000000000000)]):=by rw[p19];exact ak
  have B5:But [p] H (upd H4 ps (.lst [V.int (n3 - 4),V.int (n4 - (10:Int)^(19:Int).toNat)])):=B4.upd _ aet
  have pl5:=pl4.same S5
  generalize upd H4 ps (.lst [V.int (n3 - 4),V.int (n4 - (10:Int)^(19:Int).toNat)])=H5 at *
  walk_at "vs"
  intro n6 H6 n60 n61 b6 pl6
  have B6:=B5.trans b6
  have e6:=b6 _ _ nps e5
  obtain⟨v,hv,hv1⟩:∃v:Int,atI [V.int (n3 - 4),V.int (n4 - 10000000000000000000)] n6=some (.int v)/\v.natAbs<10 ^ 40:=by
   have:n6=0\/n6=1:=by omega
   rcases this with rfl | rfl
   ·exact⟨n3 - 4,rfl,by omega⟩
   ·exact⟨n4 - 10000000000000000000,rfl,by omega⟩
  walk_at "vs"
  intro p8 hp8
  have aeu:=gR B6 hp8 (fun z=>pl6.ne hp8 (by simpa using z))
  exact q p8 (.num v) _ (B6.upd _ aeu) ((pl6.same (aC _ hp8)).mono (by omega)) (.num ak) ⟨hv1,trivial,trivial,Nat.le_refl _⟩
 ·have hlm:(ns.map V.str).length=ns.length:=List.length_map _
  have hl0:0<((ns.map V.str).length:Int):=by rw[hlm];omega
  have hlog:((ns.map V.str).length:Int).natAbs.log2<9000:=by
   rw[hlm]
   exact Nat.lt_of_le_of_lt (Nat.log2_le_self _) (by omega)
  walk_at "vs"
  intro n6 H8 n60 n61 b8 pl8
  have B8:=B2.trans b8
  have el8:=B8 _ _ nlp el
  obtain⟨x,hx,hxm⟩:∃x,atI (ns.map V.str) n6=some (.str x)/\x∈ns:=by
   obtain⟨j,rfl⟩:=Int.eq_ofNat_of_zero_le n60
   have hj:j<ns.length:=by rw[hlm] at n61;omega
   exact⟨ns[j],iR (by rw[List.getElem?_map,List.getElem?_eq_getElem hj];rfl),List.getElem_mem hj⟩
  walk_at "vs"
  intro p9 hp9
  have Gg:=gR B8 hp9 (fun z=>pl8.ne hp9 (by simpa using z))
  exact q p9 (.rd x) _ (B8.upd _ Gg) ((pl8.same (aC _ hp9)).mono (by omega)) (.rd ak) ⟨hg x hxm,trivial,hxm,Nat.le_refl _⟩
end
section
variable {P:Program}{w:World}{K:PySem.W.Frag}{mg:Str->Option Value}{base:Heap}
abbrev aQ:Stmt:=top 27
theorem mj:bR ["pool","names","deep","way","one","other"] ["pool","names","deep"] (aa aQ):=⟨rfl,rfl,rfl,by decide +kernel,rfl,by decide +kernel,by decide +kernel⟩
theorem yE:Loc (aa aQ) "way":=by decide +kernel
theorem iI:(aa aQ).names.lookup ("_law_take":Str)=some NameKind.globalImplicit:=by decide +kernel
theorem dM:aG (aa aQ) "pool":=by decide +kernel
theorem fP:(("_law_take":Str)==("__debug__":Str))=false:=by decide +kernel
theorem gU:aG (aa aQ) "way":=by decide +kernel
theorem iZ:aG (aa aQ) "deep":=by decide +kernel
theorem qR:(aa aQ).names.lookup ("_law_leaf":Str)=some NameKind.globalImplicit:=by decide +kernel
theorem fX:aG (aa aQ) "names":=by decide +kernel
theorem qT:(("_law_leaf":Str)==("__debug__":Str))=false:=by decide +kernel
theorem yF:Loc (aa aQ) "one":=by decide +kernel
theorem gO:(aa aQ).names.lookup ("_law_recipe":Str)=some NameKind.globalImplicit:=by decide +kernel
theorem gP:(("_law_recipe":Str)==("__debug__":Str))=false:=by decide +kernel
theorem jr:aG (aa aQ) "one":=by decide +kernel
theorem v9:(aa aQ).names.lookup ("tuple":Str)=some NameKind.globalImplicit:=by decide +kernel
theorem wg:(aa aQ).names.lookup ("range":Str)=some NameKind.globalImplicit:=by decide +kernel
theorem yG:("len":Str)≠"__name__":=by decide +kernel
theorem yH:(("len":Str)==("__debug__":Str))=false:=by decide +kernel
theorem wj:("tuple":Str)≠"__name__":=by decide +kernel
theorem wk:(("tuple":Str)==("__debug__":Str))=false:=by decide +kernel
theorem wu:Loc (aa aQ) "other":=by decide +kernel
theorem mZ:aG (aa aQ) "other":=by decide +kernel
theorem tO {d:Nat}{f g0 g1:Addr}{fd gd0 gd1:FuncData} (aX:FnT K mg "_law_recipe" aQ ["pool","names","deep"] f fd) (aB:FnT K mg "_law_take" dm ["pool","many"] g0 gd0) (bF:bx P w K mg base CX0 1 g0 gd0 ["pool","many"] wQ)
 (dZ:FnT K mg "_law_leaf" fB ["pool","names"] g1 gd1) (kI:bx P w K mg base CX0 2 g1 gd1 ["pool","names"] Kr) (lF:bx P w K mg base CX0 (d+2) f fd ["pool","names","deep"] (aec d)) (T:Blt mg):
 bx P w K mg base CX0 (d+3) f fd ["pool","names","deep"] (Od d):=by
 refine aX.F.okQ mj (fun vs H Q E h=> ?_) (fun cdv A outer s H vs Q E hr h=> ?_)
 ·obtain⟨p,l,c,ns,deep,rfl,_⟩:=h
  rfl
 obtain⟨p,l,c,ns,deep,rfl,hdeep,hd3,hp,hc,el,hn1,hn9,hg,q⟩:=h
 refine⟨_,(au (cg (i:=3) mj.nd rfl yE (aY (bF.mono (by omega)) hr iI aB.m aB.F.kp aB.b .nil bM (aU (aj 0 dM) (jl aA aq)) fP))
  (au (dO (Dq (Eh (cH gj (aj 2 iZ) aA (bB _)) (yX (cH gj (aj 3 gU) aA (bB _))))) (aD (bU (aY (kI.mono (by omega)) hr qR dZ.m dZ.F.kp dZ.b .nil bM (aU (aj 0 dM) (aU (aj 1 fX) aq)) qT))) cT)
  (au (cg (i:=4) mj.nd rfl yF (aY (lF.mono (by omega)) hr gO aX.m aX.F.kp aX.b .nil bM (aU (aj 0 dM) (aU (aj 1 fX) (zf (cV lW (aj 2 iZ) aA) aq))) gP))
  (au (dO (cH gj (aj 3 gU) aA (bB _)) (aD (bU (gK (jl cU (aU (aj 4 jr) (G9 (gK (jl cU (zf (cV lW (aY (bF.mono (by omega)) hr iI aB.m aB.F.kp aB.b .nil bM (aU (aj 0 dM) (jl aA aq)) fP) aA) aq))) aq)))))) cT)
  (au (dO (Dq (Fe (cH gj (aj 3 gU) aA (bB _)) (Aw (cH (Rf hr.units) (aj 1 fX) (gh aq) (bB _))))) (aD (bU (gK (jl cU (aU (aj 4 jr) (uA (kJ G4 v9 T.Fp Bl (aaH (pA rfl (n:=1) (fr:=[1,0]) (N:=["k","names","pool"]) (yh (scX:=aa aQ) (NX:=["pool","names","deep","way","one","other"]) rfl rfl (by decide +kernel)) (za wg T.Fo (zf (cV lu aA (aY (bF.mono (by omega)) hr iI aB.m aB.F.kp aB.b .nil bM (aU (aj 0 dM) (jl aA aq)) fP)) aq)) (fun _ _ _ _ _=>(qgx (i:=0) (show List.Nodup (α:=Str) ["k","names","pool"] by decide) (Bk (by decide +kernel)))) (fun _ _ _ _ _=>Nx) (fun _ _ _ _ _=>(bz (Ei (K:=K) rfl) (aj 1 (ir.ok (by decide +kernel))) (aY (bF.mono (by omega)) hr (glC (by decide +kernel)) aB.m aB.F.kp aB.b .nil bM (aU (aj 2 (ir.ok (by decide +kernel))) (uA (dF (G5 (K:=K) rfl) (glC (by decide +kernel)) T.zW ux (aU (aj 1 (ir.ok (by decide +kernel))) aq) yG yH) aq)) fP)))) aq) wj wk) aq)))))) cT)
  (au (cg (i:=5) mj.nd rfl wu (aY (lF.mono (by omega)) hr gO aX.m aX.F.kp aX.b .nil bM (aU (aj 0 dM) (aU (aj 1 fX) (zf (cV lW (aj 2 iZ) aA) aq))) gP))
  (au (dO (cH Nz (aj 3 gU) aA (bB _)) (aD (bU (gK (jl cU (aU (aj 4 jr) (aU (aj 5 mZ) (uA (aY (lF.mono (by omega)) hr gO aX.m aX.F.kp aX.b .nil bM (aU (aj 0 dM) (aU (aj 1 fX) (zf (cV lW (aj 2 iZ) aA) aq))) gP) aq))))))) cT)
  (aD (bU (gK (jm (bz iw (gh (jl cU (jl cU (jl cU (jl cU aq))))) (cV lW (aj 3 gU) aA)) (aU (aj 4 jr) (aU (aj 5 mZ) aq))))))))))))), ?_⟩
 have ht:=Rt d
 have nlp:=hp.nel el
 walk_at "vs"
 intro kind H1 k0 k1 b1 pl1
 have el1:=b1 _ _ nlp el
 have leafq:∀a r H',But [p] H1 H'->eE H' p (c+1+6)->IsR H' a r->Rk3 ns 1 r->Q (.ref a) H':=fun a r H' b pl R ok=>
  q a r H' (b1.trans b) (pl.mono (by omega)) R ⟨ok.g,ok.t,ok.i,by have:=ok.d;omega⟩
 cases d with
 | zero=>
   have hdeep:deep=0:=hdeep
   subst hdeep
   walk_at "vs"
   exact leafq
 | succ d=>
   have hdeep:deep=(d:Int)+1:=hdeep
   have hnd:¬(deep=0):=by omega
   walk_at "vs"
   refine wM (fun c0=>absurd (V.int.inj (of_decide_eq_true c0)) hnd) (fun _=> ?_)
   walk_at "vs"
   refine wM (fun c0=> ?_) (fun c0=> ?_)
   ·walk_at "vs"
    exact leafq
   ·have c0':¬(kind=0):=fun z=>c0 (by rw[z];rfl)
    walk_at "vs"
    intro a1 r1 H2 b2 pl2 R1 ok1
    have B2:=b1.trans b2
    have el2:=B2 _ _ nlp el
    have htd:tk3 d<=170:=by
     have:d=0\/d=1\/d=2:=by omega
     rcases this with rfl | rfl | rfl<;>decide
    have et:tk3 (d+1)=3 * tk3 d+20:=rfl
    have od1:=ok1.d
    walk_at "vs"
    refine wM (fun c1=> ?_) (fun c1=> ?_)
    ·walk_at "vs"
     intro n3 H3 n30 n31 b3 pl3
     have B3:=B2.trans b3
     have R13:=R1.tups (pl2.tups b3)
     walk_at "vs"
     intro p4 hp4
     have aev:=gR B3 hp4 (fun z=>pl3.ne hp4 (by simpa using z))
     have S4:=aC (.tup [V.str "number",V.int (n3 - 3)]) hp4
     have R4:IsR (upd H3 p4 (.tup [V.str "number",V.int (n3 - 3)])) p4 (.num (n3 - 3)):= .num ak
     have B4:But [p] H (upd H3 p4 (.tup [V.str "number",V.int (n3 - 3)])):=B3.upd _ aev
     have pl4:=pl3.same S4
     have R14:=R13.same S4
     generalize upd H3 p4 (.tup [V.str "number",V.int (n3 - 3)])=H4 at *
     walk_at "vs"
     intro p9 hp9
     have Gg:=gR B4 hp9 (fun z=>pl4.ne hp9 (by simpa using z))
     have S:=aC (.tup [V.str "times", .ref a1, .ref p4]) hp9
     exact q p9 (.bin .times r1 (.num (n3 - 3))) _ (B4.upd _ Gg) ((pl4.same S).mono (by omega)) (.bin ak (R14.same S) (R4.same S)) ⟨⟨ok1.g,show(n3 - 3).natAbs<10 ^ 40 by omega⟩,⟨ok1.t,trivial,fun _=>⟨_,rfl,by omega,by omega⟩⟩,⟨ok1.i,trivial⟩,by show max r1.depth 1+1<=_;omega⟩
    ·have c1':¬(kind=1):=fun z=>c1 (by rw[z];rfl)
     have rest:∀(a2:Addr) (r2:R) (H3:Hp),But [p] H H3->eE H3 p (c+1+tk3 d+tk3 d)->IsR H3 a1 r1->IsR H3 a2 r2->Rk3 ns (d+1) r2->∀(op:Op),op≠ .times->∀p9,H3 p9=none->Q (.ref p9) (upd H3 p9 (.tup [.str op.word, .ref a1, .ref a2])):=by
      intro a2 r2 H3 b3 pl3 R1 R2 ok2 op hop p9 hp9
      have Gg:=gR b3 hp9 (fun z=>pl3.ne hp9 (by simpa using z))
      have S:=aC (.tup [.str op.word, .ref a1, .ref a2]) hp9
      have od2:=ok2.d
      exact q p9 (.bin op r1 r2) _ (b3.upd _ Gg) ((pl3.same S).mono (by omega)) (.bin ak (R1.same S) (R2.same S)) ⟨⟨ok1.g,ok2.g⟩,⟨ok1.t,ok2.t,fun z=>absurd z hop⟩,⟨ok1.i,ok2.i⟩,by show max r1.depth r2.depth+1<=_;omega⟩
     walk_at "vs"
     refine wM (fun c2=> ?_) (fun c2=> ?_)
     ·walk_at "vs"
      intro pe hpe
      have npe:pe∉[p]:=fun z=>pl2.ne hpe (by simpa using z)
      have aew:=gR B2 hpe npe
      have S2:=aC (.lst []) hpe
      have B3:But [p] H (upd H2 pe (.lst [])):=B2.upd _ aew
      have pl3:=pl2.same S2
      have el3:=S2 _ _ el2
      have R13:=R1.same S2
      have e3:upd H2 pe (.lst []) pe=some (.lst []):=ak
      generalize upd H2 pe (.lst [])=H3 at *
      refine⟨_,_, .lst (SqL.of el3) (iT _), .lst (SqL.of e3) .nil,oF hg,by decide, ?_⟩
      rw[Kq hn1]
      walk_at "vs"
      intro n9 H4 n90 n91 b4 pl4
      have B4:=B3.trans b4
      have el4:=B4 _ _ nlp el
      have R14:=R13.tups (pl3.tups b4)
      walk_at "vs"
      have hlm:(ns.map V.str).length=ns.length:=List.length_map _
      have hl0:0<((ns.map V.str).length:Int):=by rw[hlm];omega
      have hlog:((ns.map V.str).length:Int).natAbs.log2<9000:=by
       rw[hlm]
       exact Nat.lt_of_le_of_lt (Nat.log2_le_self _) (by omega)
      intro D hD
      have nD:D∉[p]:=fun z=>pl4.ne hD (by simpa using z)
      have nDp:D≠p:=by simpa using nD
      have hD0:=gR B4 hD nD
      refine Jf (fun i σ' H'=>(∃t,σ'=t::[some (.ref l),some (.ref p)])/\∃ts:List Str,H' D=some (.lst (ts.map V.str))/\ts.length=i/\(∀x∈ts,x∈ns)/\But [p] H H'/\eE H' p (c+1+tk3 d+1+i)/\IsR H' a1 r1) ?_ ?_ ?_
      ·exact⟨⟨none,rfl⟩,[],ak,rfl,by simp,B4.upd _ hD0,pl4.same (aC _ hD),R14.same (aC _ hD)⟩
      ·intro i σ' H' hi hP
       obtain⟨⟨t,rfl⟩,ts,e,et',ho,hb,hpl,hR⟩:=hP
       have elH:=hb _ _ nlp el
       have hi9:(i:Int)<10:=by omega
       walk_at "vs"
       intro n6 H5 n60 n61 b5 pl5
       have hb5:=hb.trans b5
       have el5:=hb5 _ _ nlp el
       have e5:=b5 _ _ nD e
       have R5:=hR.tups (hpl.tups b5)
       obtain⟨x,hx,hxm⟩:∃x,atI (ns.map V.str) n6=some (.str x)/\x∈ns:=by
        obtain⟨j,rfl⟩:=Int.eq_ofNat_of_zero_le n60
        have hj:j<ns.length:=by rw[hlm] at n61;omega
        exact⟨ns[j],iR (by rw[List.getElem?_map,List.getElem?_eq_getElem hj];rfl),List.getElem_mem hj⟩
       have hz:(ts.map V.str).length<sizeLine:=by rw[List.length_map];exact bN (by omega)
       walk_at "vs"
       have aex:mR H5 (upd H5 D (.lst (ts.map V.str++[.str x]))):=fun q xs e'=>(ao (fun z=>by rw[z,e5] at e';cases e')).trans e'
       refine⟨⟨_,rfl⟩,ts++[x], ?_,by rw[List.length_append,et'];rfl, ?_,hb5.upd _ hD0,pl5.keep (But.set _ (by simp)) (S:=[D]) (by simpa using Ne.symm nDp),R5.tups aex⟩
       ·rw[List.map_append];exact ak
       ·intro y hy
        rcases List.mem_append.mp hy with z | z
        ·exact ho y z
        ·have:y=x:=by simpa using z
         rw[this];exact hxm
      ·intro σ' H' hP
       obtain⟨_,ts,e,et',ho,hb,hpl,hR⟩:=hP
       walk_at "vs"
       intro pt hpt
       have aey:=gR hb hpt (fun z=>hpl.ne hpt (by simpa using z))
       have S5:=aC (.tup (ts.map V.str)) hpt
       walk_at "vs"
       intro p9 hp9
       have hb5:=hb.upd (.tup (ts.map V.str)) aey
       have pl5:=hpl.same S5
       have Gg:=gR hb5 hp9 (fun z=>pl5.ne hp9 (by simpa using z))
       have S6:=aC (.tup [.str "choose", .ref a1, .ref pt]) hp9
       exact q p9 (.cho r1 ts) _ (hb5.upd _ Gg) ((pl5.same S6).mono (by omega)) (.cho ak ((hR.same S5).same S6) (S6 _ _ ak)) ⟨⟨ok1.g,by omega,by omega,fun x hx=>hg x (ho x hx)⟩,⟨ok1.t,by omega⟩,⟨ok1.i,ho⟩,by show r1.depth+1<=_;omega⟩
     ·walk_at "vs"
      intro a2 r2 H3 b3 pl3 R2 ok2
      have B3:=B2.trans b3
      have el3:=B3 _ _ nlp el
      have R13:=R1.tups (pl2.tups b3)
      have od2:=ok2.d
      walk_at "vs"
      refine wM (fun c3=> ?_) (fun c3=> ?_)
      ·walk_at "vs"
       intro a3 r3 H4 b4 pl4 R3 ok3
       have B4:=B3.trans b4
       have R14:=R13.tups (pl3.tups b4)
       have R24:=R2.tups (pl3.tups b4)
       have od3:=ok3.d
       walk_at "vs"
       intro p9 hp9
       have Gg:=gR B4 hp9 (fun z=>pl4.ne hp9 (by simpa using z))
       have S:=aC (.tup [.str "pick", .ref a1, .ref a2, .ref a3]) hp9
       exact q p9 (.pick r1 r2 r3) _ (B4.upd _ Gg) ((pl4.same S).mono (by omega)) (.pick ak (R14.same S) (R24.same S) (R3.same S)) ⟨⟨ok1.g,ok2.g,ok3.g⟩,⟨ok1.t,ok2.t,ok3.t⟩,⟨ok1.i,ok2.i,ok3.i⟩,by show max r1.depth (max r2.depth r3.depth)+1<=_;omega⟩
      ·have c3':¬kind<5:=by simpa using c3
       obtain⟨op,hop,hat⟩:∃op:Op,op≠ .times/\atI [V.str "plus",V.str "minus",V.str "most",V.str "plus"] (kind - 5)=some (.str op.word):=by
        have hm:kind - 5=0\/kind - 5=1\/kind - 5=2\/kind - 5=3:=by omega
        rcases hm with hm | hm | hm | hm
        ·rw[hm];exact⟨.plus,by decide,rfl⟩
        ·rw[hm];exact⟨.minus,by decide,rfl⟩
        ·rw[hm];exact⟨.most,by decide,rfl⟩
        ·rw[hm];exact⟨.plus,by decide,rfl⟩
       walk_at "vs"
       intro pz hpz
       have npz:pz∉[p]:=fun z=>pl3.ne hpz (by simpa using z)
       have aez:=gR B3 hpz npz
       have S3:=aC (.lst [.str "plus", .str "minus", .str "most", .str "plus"]) hpz
       walk_at "vs"
       exact rest a2 r2 _ (B3.upd _ aez) (pl3.same S3) (R13.same S3) (R2.same S3) ok2 op hop
theorem wI {f g0 g1:Addr}{fd gd0 gd1:FuncData} (aX:FnT K mg "_law_recipe" aQ ["pool","names","deep"] f fd) (aB:FnT K mg "_law_take" dm ["pool","many"] g0 gd0) (bF:bx P w K mg base CX0 1 g0 gd0 ["pool","many"] wQ)
 (dZ:FnT K mg "_law_leaf" fB ["pool","names"] g1 gd1) (kI:bx P w K mg base CX0 2 g1 gd1 ["pool","names"] Kr) (T:Blt mg):∀d,bx P w K mg base CX0 (d+3) f fd ["pool","names","deep"] (Od d)
 | 0=>tO aX aB bF dZ kI (never fun vs H Q E h=>h) T
 | d+1=>tO aX aB bF dZ kI (wI aX aB bF dZ kI T d) T
theorem Dh {f g0 g1:Addr}{fd gd0 gd1:FuncData} (aX:FnT K mg "_law_recipe" aQ ["pool","names","deep"] f fd) (aB:FnT K mg "_law_take" dm ["pool","many"] g0 gd0) (bF:bx P w K mg base CX0 1 g0 gd0 ["pool","many"] wQ)
 (dZ:FnT K mg "_law_leaf" fB ["pool","names"] g1 gd1) (kI:bx P w K mg base CX0 2 g1 gd1 ["pool","names"] Kr) (T:Blt mg):bx P w K mg base CX0 6 f fd ["pool","names","deep"] U0:=by
 have ok:=wI aX aB bF dZ kI T
 refine⟨fun vs H Q E h=> ?_,fun A outer s H args us vs Q E hr he hb hv hs=> ?_⟩
 ·obtain⟨p,l,c,ns,deep,rfl,_⟩:=h
  rfl
 ·obtain⟨p,l,c,ns,deep,rfl,h0,h4,hp,hc,el,hn1,hn9,hg,q⟩:=hs
  obtain⟨d,rfl⟩:=Int.eq_ofNat_of_zero_le h0
  have hd:d=0\/d=1\/d=2\/d=3:=by omega
  have ht:tk3 d<=530:=by rcases hd with rfl | rfl | rfl | rfl<;>decide
  exact((ok d).mono (by omega)).run A outer s H args us _ Q E hr he hb hv ⟨p,l,c,ns,_,rfl,rfl,by omega,hp,by omega,el,hn1,hn9,hg,fun a r H' b pl R o=>q a r H' b (pl.mono (by omega)) R ⟨o.g,o.t,o.i,by have:=o.d;omega⟩⟩
end
section
variable {P:Program}{w:World}{K:PySem.W.Frag}{mg:Str->Option Value}{base:Heap}
abbrev bf:Stmt:=top 28
theorem jL:bR ["script","start","many","given","recipes","names","k","pool"] ["script","start","many"] (aa bf):=⟨rfl,rfl,rfl,by decide +kernel,rfl,by decide +kernel,by decide +kernel⟩
theorem xQ:Loc (aa bf) "given":=by decide +kernel
theorem vd:Loc (aa bf) "recipes":=by decide +kernel
theorem xR:Loc (aa bf) "names":=by decide +kernel
theorem xT:(aa bf).names.lookup ("range":Str)=some NameKind.globalImplicit:=by decide +kernel
theorem yI:aG (aa bf) "many":=by decide +kernel
theorem Di:Loc (aa bf) "k":=by decide +kernel
theorem yJ:Loc (aa bf) "pool":=by decide +kernel
theorem sV:(aa bf).names.lookup ("_law_pool":Str)=some NameKind.globalImplicit:=by decide +kernel
theorem xU:aG (aa bf) "start":=by decide +kernel
theorem jD:aG (aa bf) "k":=by decide +kernel
theorem wz:aG (aa bf) "script":=by decide +kernel
theorem sW:(("_law_pool":Str)==("__debug__":Str))=false:=by decide +kernel
theorem jb:(aa bf).names.lookup ("_law_take":Str)=some NameKind.globalImplicit:=by decide +kernel
theorem jt:aG (aa bf) "pool":=by decide +kernel
theorem jc:(("_law_take":Str)==("__debug__":Str))=false:=by decide +kernel
theorem oV:aG (aa bf) "given":=by decide +kernel
theorem jd:(aa bf).names.lookup ("_law_name":Str)=some NameKind.globalImplicit:=by decide +kernel
theorem je:(("_law_name":Str)==("__debug__":Str))=false:=by decide +kernel
theorem mQ:aG (aa bf) "recipes":=by decide +kernel
theorem p6:(aa bf).names.lookup ("_law_recipe":Str)=some NameKind.globalImplicit:=by decide +kernel
theorem oW:aG (aa bf) "names":=by decide +kernel
theorem p7:(("_law_recipe":Str)==("__debug__":Str))=false:=by decide +kernel
theorem Gh {f g0 g1 g2 g3:Addr}{fd gd0 gd1 gd2 gd3:FuncData} (iQ:FnT K mg "_law_house" bf ["script","start","many"] f fd) (aB:FnT K mg "_law_take" dm ["pool","many"] g0 gd0) (bF:bx P w K mg base CX0 1 g0 gd0 ["pool","many"] wQ)
 (di:FnT K mg "_law_pool" gB ["script","k"] g1 gd1) (sX:bx P w K mg base CX0 2 g1 gd1 ["script","k"] (Js K)) (dY:FnT K mg "_law_name" ig ["k"] g2 gd2) (xV:bx P w K mg base CX0 1 g2 gd2 ["k"] Hi)
 (aX:FnT K mg "_law_recipe" aQ ["pool","names","deep"] g3 gd3) (lF:bx P w K mg base CX0 6 g3 gd3 ["pool","names","deep"] U0) (T:Blt mg):bx P w K mg base CX0 7 f fd ["script","start","many"] (U3 K):=by
 refine iQ.F.okQ jL (fun vs H Q E h=> ?_) (fun cdv A outer s H vs Q E hr h=> ?_)
 ·obtain⟨a,zs,start,many,rfl,_⟩:=h
  rfl
 obtain⟨a,zs,start,many,rfl,hS,h0,h50,hm,q⟩:=h
 refine⟨_,(au (cg (i:=3) jL.nd rfl xQ jU)
  (au (cg (i:=4) jL.nd rfl vd jU)
  (au (cg (i:=5) jL.nd rfl xR (gh aq))
  (au (Br PassesOwn.never rfl (za xT T.Fo (aU (aj 2 yI) aq)) (rP (i:=6) jL.nd rfl Di) (au (cg (i:=7) jL.nd rfl yJ (aY (sX.mono (by omega)) hr sV di.m di.F.kp di.b .nil bM (aU (aj 0 wz) (zf (cV lu (aj 1 xU) (aj 6 jD)) aq)) sW))
  (au (dO (Dq (Eh (cH gj (aj 6 jD) aA (bB _)) (yX (cH gj (aY (bF.mono (by omega)) hr jb aB.m aB.F.kp aB.b .nil bM (aU (aj 7 jt) (jl aA aq)) jc) aA (bB _))))) (aD (j9 (dB hr) (aj 3 oV) (aY (xV.mono (by omega)) hr jd dY.m dY.F.kp dY.b .nil bM (aU (aj 6 jD) aq) je) (cV lW (aY (bF.mono (by omega)) hr jb aB.m aB.F.kp aB.b .nil bM (aU (aj 7 jt) (jl aA aq)) jc) aA))) (aD (j9 (dB hr) (aj 4 mQ) (aY (xV.mono (by omega)) hr jd dY.m dY.F.kp dY.b .nil bM (aU (aj 6 jD) aq) je) (aY (lF.mono (by omega)) hr p6 aX.m aX.F.kp aX.b .nil bM (aU (aj 7 jt) (jm (Nv NB (aj 5 oW) (Q7 (Nt Fl aA)) Q6) (jm (bz iw (gh (jl aA (jl aA (jl aA aq)))) (aY (bF.mono (by omega)) hr jb aB.m aB.F.kp aB.b .nil bM (aU (aj 7 jt) (jl aA aq)) jc)) aq))) p7))))
  (aD (fK (tH PySem.F.plainAttrs_list PySem.F.slot_list_append PySem.F.type_list_append iU (aj 5 oW) (uA (aY (xV.mono (by omega)) hr jd dY.m dY.F.kp dY.b .nil bM (aU (aj 6 jD) aq) je) aq)))))))
  (aD (bU (gK (aU (aj 3 oV) (aU (aj 4 mQ) aq))))))))), ?_⟩
 walk_at "vs"
 intro g hg0
 have s1:=aC (.dK []) hg0
 have e1:upd H g (.dK []) g=some (.dK []):=ak
 generalize upd H g (.dK [])=H1 at *
 walk_at "vs"
 intro c hc1
 have s2:=aC (.dK []) hc1
 have e12:=s2 _ _ e1
 have e2:upd H1 c (.dK []) c=some (.dK []):=ak
 have ngc:g≠c:=fun z=>by rw[<-z,e1] at hc1;cases hc1
 have hc0:=same_none s1 hc1
 have S2:=s1.trans s2
 generalize upd H1 c (.dK [])=H2 at *
 walk_at "vs"
 intro l hl2
 have s3:=aC (.lst []) hl2
 have e13:=s3 _ _ e12
 have e23:=s3 _ _ e2
 have e3:upd H2 l (.lst []) l=some (.lst ((nmK 0).map V.str)):=ak
 have hl0:=same_none S2 hl2
 have S3:=S2.trans s3
 generalize upd H2 l (.lst [])=H3 at *
 clear s1 s2 s3 S2 e12 e1 e2 hc1 hl2
 refine⟨_,rfl,_,rfl,by omega,by omega, ?_⟩
 refine DP (fun i σ H'=>(∃t u,σ=[some (.ref a),some (.int start),some (.int many),some (.ref g),some (.ref c),some (.ref l),t,u])/\aN H H'/\∃gv rc kg kc,H' g=some (.dK kg)/\H' c=some (.dK kc)/\H' l=some (.lst ((nmK i).map V.str))/\Bld H' kg kc i gv rc) ?_ ?_ ?_
 ·exact⟨⟨none,none,rfl⟩,S3,kn0,fun _=>none,[],[],e13,e23,e3,⟨fun k hk=>by omega,fun x hx=>absurd rfl hx,fun x r e=>(by cases e),fun x hx=>absurd rfl hx,fun z=>by omega⟩,⟨[],[],⟨rfl,by simp⟩,⟨rfl,by simp⟩,rfl⟩,fun x=>rfl,fun x r e=>(by cases e),fun x _=>rfl⟩
 ·intro i σ H4 hi hP
  obtain⟨⟨t,u,rfl⟩,S4,gv,rc,kg,kc,eg4,ec4,el4,bd⟩:=hP
  have agt:i<17:=by
   have:i<(many:Int).toNat:=hi
   omega
  have hS4:=SqL.same S4 hS
  have ei:(0+(i:Int))=(i:Int):=by omega
  obtain⟨gs,cs,kgk,kck,hlen⟩:=bd.k
  have lg:=kgk.len
  have lc:=kck.len
  rw[ei]
  walk_at "vs"
  intro p H5 s5 hp5 pl5
  have S5:=S4.trans s5
  have hp0:=same_none S4 hp5
  have eg5:=s5 _ _ eg4
  have ec5:=s5 _ _ ec4
  have el5:=s5 _ _ el4
  have bd5:=bd.tups (aN.tups s5)
  have fr:∀y∈[p],H y=none:=fun y hy=>by
   have:y=p:=by simpa using hy
   rw[this];exact hp0
  have ngp:g∉[p]:=fun z=>by
   have:g=p:=by simpa using z
   rw[<-this,eg4] at hp5;cases hp5
  have ncp:c∉[p]:=fun z=>by
   have:c=p:=by simpa using z
   rw[<-this,ec4] at hp5;cases hp5
  have nlp:=pl5.nel el5
  have ngl:g≠l:=fun z=>by rw[z,el5] at eg5;cases eg5
  have ncl:c≠l:=fun z=>by rw[z,el5] at ec5;cases ec5
  have hzl:((nmK i).map V.str).length<sizeLine:=by rw[List.length_map,jH];exact bN (by omega)
  have done:∀(H6:Hp) (σ6:L2.St) gv rc kg kc,(∃t u,σ6=[some (.ref a),some (.int start),some (.int many),some (.ref g),some (.ref c),some (.ref l),t,u])->aN H H6->H6 g=some (.dK kg)->H6 c=some (.dK kc)->H6 l=some (.lst ((nmK i).map V.str))->Bld H6 kg kc (i+1) gv rc->
   (∃t u,σ6=[some (.ref a),some (.int start),some (.int many),some (.ref g),some (.ref c),some (.ref l),t,u])/\aN H (upd H6 l (.lst ((nmK i).map V.str++[.str (az i)])))/\∃gv rc kg kc,(upd H6 l (.lst ((nmK i).map V.str++[.str (az i)]))) g=some (.dK kg)/\(upd H6 l (.lst ((nmK i).map V.str++[.str (az i)]))) c=some (.dK kc)/\(upd H6 l (.lst ((nmK i).map V.str++[.str (az i)]))) l=some (.lst ((nmK (i+1)).map V.str))/\Bld (upd H6 l (.lst ((nmK i).map V.str++[.str (az i)]))) kg kc (i+1) gv rc:=by
   intro H6 σ6 gv rc kg kc hσ S6 e1 e2 e3 b
   refine⟨hσ,d7 _ hl0 S6,gv,rc,kg,kc,(ao ngl).trans e1,(ao ncl).trans e2, ?_,b.tups fun y xs z=>(ao (fun w=>by rw[w,e3] at z;cases z)).trans z⟩
   rw[ak,BR,List.map_append];rfl
  walk_at "vs"
  refine wM (fun c1=> ?_) (fun c1=> ?_)
  ·walk_at "vs"
   intro n7 H7 n70 n71 b7 pl7
   have B7:=b7
   have S7:=gQ S5 fr B7
   have eg7:=B7 _ _ ngp eg5
   have ec7:=B7 _ _ ncp ec5
   have el7:=B7 _ _ nlp el5
   have bd7:=bd5.tups (pl5.tups B7)
   have dp:lJ H7 g (.str (az i)) (.int (n7 - 6)) (upd H7 g (.dK (putK kg (.inr (az i)) (.int (n7 - 6))))):=lJ.k (k:= .inr (az i)) eg7 (bN (by omega))
   walk_at "vs"
   have t8:mR H7 (upd H7 g (.dK (putK kg (.inr (az i)) (.int (n7 - 6))))):=fun y xs z=>(ao (fun w=>by rw[w,eg7] at z;cases z)).trans z
   have el8:upd H7 g (.dK (putK kg (.inr (az i)) (.int (n7 - 6)))) l=some (.lst ((nmK i).map V.str)):=(ao (Ne.symm ngl)).trans el7
   have ec8:upd H7 g (.dK (putK kg (.inr (az i)) (.int (n7 - 6)))) c=some (.dK kc):=(ao (Ne.symm ngc)).trans ec7
   have S8:=d7 (.dK (putK kg (.inr (az i)) (.int (n7 - 6)))) hg0 S7
   have eg8:upd H7 g (.dK (putK kg (.inr (az i)) (.int (n7 - 6)))) g=some (.dK (putK kg (.inr (az i)) (.int (n7 - 6)))):=ak
   have bd8:=(bd7.tups t8).Ru (by omega) (n7 - 6)
   exact done _ _ _ _ _ _ ⟨_,_,rfl⟩ S8 eg8 ec8 el8 bd8
  ·have c1':0<i:=by
    rcases Nat.eq_zero_or_pos i with z | z
    ·subst z;exact absurd rfl c1
    ·exact z
   walk_at "vs"
   intro n6 H6 n60 n61 b6 pl6
   walk_at "vs"
   refine wM (fun c2=> ?_) (fun c2=> ?_)
   ·walk_at "vs"
    intro n7 H7 n70 n71 b7 pl7
    have B7:=b6.trans b7
    have S7:=gQ S5 fr B7
    have eg7:=B7 _ _ ngp eg5
    have ec7:=B7 _ _ ncp ec5
    have el7:=B7 _ _ nlp el5
    have bd7:=bd5.tups (pl5.tups B7)
    have dp:lJ H7 g (.str (az i)) (.int (n7 - 6)) (upd H7 g (.dK (putK kg (.inr (az i)) (.int (n7 - 6))))):=lJ.k (k:= .inr (az i)) eg7 (bN (by omega))
    walk_at "vs"
    have t8:mR H7 (upd H7 g (.dK (putK kg (.inr (az i)) (.int (n7 - 6))))):=fun y xs z=>(ao (fun w=>by rw[w,eg7] at z;cases z)).trans z
    have el8:upd H7 g (.dK (putK kg (.inr (az i)) (.int (n7 - 6)))) l=some (.lst ((nmK i).map V.str)):=(ao (Ne.symm ngl)).trans el7
    have ec8:upd H7 g (.dK (putK kg (.inr (az i)) (.int (n7 - 6)))) c=some (.dK kc):=(ao (Ne.symm ngc)).trans ec7
    have S8:=d7 (.dK (putK kg (.inr (az i)) (.int (n7 - 6)))) hg0 S7
    have eg8:upd H7 g (.dK (putK kg (.inr (az i)) (.int (n7 - 6)))) g=some (.dK (putK kg (.inr (az i)) (.int (n7 - 6)))):=ak
    have bd8:=(bd7.tups t8).Ru (by omega) (n7 - 6)
    exact done _ _ _ _ _ _ ⟨_,_,rfl⟩ S8 eg8 ec8 el8 bd8
   ·have el6:=b6 _ _ nlp el5
    obtain⟨ns,ecut,hn1,hn9,hns⟩:=aed c1'
    have hgn:∀x∈ns,mz x:=fun x hx=>Hl (by omega) x (hns x hx)
    walk_at "vs"
    intro pc hpc
    rw[ecut]
    have s7:=aC (.lst (ns.map V.str)) hpc
    have e7:upd H6 pc (.lst (ns.map V.str)) pc=some (.lst (ns.map V.str)):=ak
    have pl7:=pl6.same s7
    have B7:But [p] H5 (upd H6 pc (.lst (ns.map V.str))):=b6.trans (But.of_same s7)
    have npc:pc∉[p]:=fun z=>pl6.ne hpc (by simpa using z)
    generalize upd H6 pc (.lst (ns.map V.str))=H7 at *
    walk_at "vs"
    intro pz hpz
    have npz:pz∉[p]:=fun z=>pl7.ne hpz (by simpa using z)
    have s8:=aC (.lst [V.int 1,V.int 2,V.int 3]) hpz
    have e8:upd H7 pz (.lst [V.int 1,V.int 2,V.int 3]) pz=some (.lst [V.int 1,V.int 2,V.int 3]):=ak
    have e78:=s8 _ _ e7
    have pl8:=pl7.same s8
    have B8:=B7.trans (But.of_same (S:=[p]) s8)
    generalize upd H7 pz (.lst [V.int 1,V.int 2,V.int 3])=H8 at *
    walk_at "vs"
    intro n9 H9 n90 n91 b9 pl9
    have e9:=b9 _ _ npz e8
    have e79:=b9 _ _ npc e78
    obtain⟨dd,hdd,hd0,hd1⟩:∃dd:Int,atI [V.int 1,V.int 2,V.int 3] n9=some (.int dd)/\0<=dd/\dd<4:=by
     have:n9=0\/n9=1\/n9=2:=by omega
     rcases this with rfl | rfl | rfl
     ·exact⟨1,rfl,by omega,by omega⟩
     ·exact⟨2,rfl,by omega,by omega⟩
     ·exact⟨3,rfl,by omega,by omega⟩
    walk_at "vs"
    intro br r H10 b10 agu R10 aeA
    have B10:=B8.trans (b9.trans b10)
    have S10:=gQ S5 fr B10
    have aeB:=B10 _ _ ngp eg5
    have aaX:=B10 _ _ ncp ec5
    have aeC:=B10 _ _ nlp el5
    have aeD:=bd5.tups (pl5.tups B10)
    have dp:lJ H10 c (.str (az i)) (.ref br) (upd H10 c (.dK (putK kc (.inr (az i)) (.ref br)))):=lJ.k (k:= .inr (az i)) aaX (bN (by omega))
    walk_at "vs"
    have t11:mR H10 (upd H10 c (.dK (putK kc (.inr (az i)) (.ref br)))):=fun y xs z=>(ao (fun w=>by rw[w,aaX] at z;cases z)).trans z
    have aeE:upd H10 c (.dK (putK kc (.inr (az i)) (.ref br))) l=some (.lst ((nmK i).map V.str)):=(ao (Ne.symm ncl)).trans aeC
    have aeF:upd H10 c (.dK (putK kc (.inr (az i)) (.ref br))) g=some (.dK kg):=(ao ngc).trans aeB
    have S11:=d7 (.dK (putK kc (.inr (az i)) (.ref br))) hc0 S10
    have aeG:upd H10 c (.dK (putK kc (.inr (az i)) (.ref br))) c=some (.dK (putK kc (.inr (az i)) (.ref br))):=ak
    have aeH:=(aeD.tups t11).Xu (by omega) c1' (aeA.mono hns) (R10.tups t11)
    exact done _ _ _ _ _ _ ⟨_,_,rfl⟩ S11 aeF aeG aeE aeH
 ·intro σ H4 hP
  obtain⟨⟨t,u,rfl⟩,S4,gv,rc,kg,kc,eg4,ec4,el4,bd⟩:=hP
  have em:(many:Int).toNat=many:=by omega
  rw[em] at bd
  walk_at "vs"
  intro h hh
  have s5:=aC (.tup [.ref g, .ref c]) hh
  exact q h g c gv rc _ (S4.trans s5) (same_none S4 hh) hg0 hc0 ⟨kg,kc,ak,s5 _ _ eg4,s5 _ _ ec4,bd.tups (aN.tups s5)⟩
end
section
variable {P:Program}{w:World}{K:PySem.W.Frag}{mg:Str->Option Value}{base:Heap}
abbrev bL:Stmt:=top 18
theorem kY:bR ["house","records","wishes","changes","given","build","worths","made","other"] ["house","records","wishes","changes"] (aa bL):=⟨rfl,rfl,rfl,by decide +kernel,rfl,by decide +kernel,by decide +kernel⟩
theorem yK:Loc (aa bL) "given":=by decide +kernel
theorem zB:(aa bL).names.lookup ("dict":Str)=some NameKind.globalImplicit:=by decide +kernel
theorem pG:aG (aa bL) "house":=by decide +kernel
theorem zE:("dict":Str)≠"__name__":=by decide +kernel
theorem zF:(("dict":Str)==("__debug__":Str))=false:=by decide +kernel
theorem pH:aG (aa bL) "given":=by decide +kernel
theorem wA:aG (aa bL) "changes":=by decide +kernel
theorem yL:Loc (aa bL) "build":=by decide +kernel
theorem qU:(aa bL).names.lookup ("build_again":Str)=some NameKind.globalImplicit:=by decide +kernel
theorem xW:aG (aa bL) "wishes":=by decide +kernel
theorem wB:aG (aa bL) "records":=by decide +kernel
theorem qW:(("build_again":Str)==("__debug__":Str))=false:=by decide +kernel
theorem xX:Loc (aa bL) "worths":=by decide +kernel
theorem pI:aG (aa bL) "build":=by decide +kernel
theorem zG:Loc (aa bL) "made":=by decide +kernel
theorem yM:Loc (aa bL) "other":=by decide +kernel
theorem qX:aG (aa bL) "made":=by decide +kernel
theorem yN:aG (aa bL) "other":=by decide +kernel
theorem Ib {f g0:Addr}{fd gd0:FuncData} (dz:FnT K mg "reach_of" bL ["house","records","wishes","changes"] f fd)
 (cM:FnT K mg "build_again" bY ["house","records","wishes"] g0 gd0) (qb:bx P w K mg base CX0 17 g0 gd0 ["house","records","wishes"] FT)
 (T:Blt mg):bx P w K mg base CX0 18 f fd ["house","records","wishes","changes"] Ge:=by
 refine dz.F.okQ kY (fun vs H Q E h=> ?_) (fun cdv A outer s H vs Q E hr h=> ?_)
 ·obtain⟨h,g,c,rcd,wl,cd,n,gv,ch,rc,kr,kch,rm,ws,ns,rfl,_⟩:=h
  rfl
 obtain⟨h,g,c,rcd,wl,cd,n,gv,ch,rc,kr,kch,rm,ws,ns,rfl,ho,n17,er,rD,ewl,hws,ecd,kkc,hch,hsub,q⟩:=h
 refine⟨_,(au (cg (i:=4) kY.nd rfl yK (kJ BP zB T.Jo Fd (jm (bz aL (aj 0 pG) aA) aq) zE zF))
  (au (fK (KJ (aj 4 pH) (aj 3 wA) ⟨rfl,rfl,rfl,rfl⟩))
  (au (cg (i:=5) kY.nd rfl yL (aY (qb.mono (by omega)) hr qU cM.m cM.F.kp cM.b .nil bM (G9 (gK (aU (aj 4 pH) (jm (bz aL (aj 0 pG) aA) aq))) (aU (aj 1 wB) (aU (aj 2 xW) aq))) qW))
  (au (cg (i:=6) kY.nd rfl xX (bz aL (aj 5 pI) aA))
  (au (cg (i:=7) kY.nd rfl zG (bz aL (aj 5 pI) aA))
  (au (Jk (i:=8) rfl kY.nd rfl yM (n:=1) (fr:=[1,6]) (N:=["name","records","worths"]) (yh (scX:=aa bL) (NX:=["house","records","wishes","changes","given","build","worths","made","other"]) rfl rfl (by decide +kernel)) (pB (aj 7 qX)) (fun _ _ _ _ _=>(qgx (i:=0) (show List.Nodup (α:=Str) ["name","records","worths"] by decide) (Bk (by decide +kernel)))) (fun _ _ _ _ _=>(wN (Dq (Fe (zg (dB hr) (aj 0 (ir.ok (by decide +kernel))) (aj 1 (ir.ok (by decide +kernel)))) (Aw (cH zb (bz (uz (K:=K) rfl) (eF (dB hr) (aj 1 (ir.ok (by decide +kernel))) (aj 0 (ir.ok (by decide +kernel)))) aA) (eF (dB hr) (aj 2 (ir.ok (by decide +kernel))) (aj 0 (ir.ok (by decide +kernel)))) (bB _))))))) (fun _ _ _ _ _=>(aj 0 (ir.ok (by decide +kernel)))) rfl)
  (aD (bU (gK (aU (aj 7 qX) (aU (aj 8 yN) aq))))))))))), ?_⟩
 obtain⟨kg,kc,eh,eg,ec,bd⟩:=id ho
 have rg:Rd H g (.dK kg):= .inl eg
 walk_at "vs"
 intro gd hgd
 have s1:=aC (.dK kg) hgd
 have egd:upd H gd (.dK kg) gd=some (.dK kg):=ak
 have aaY:=s1 _ _ ecd
 have ncd:gd≠cd:=fun z=>by rw[z,ecd] at hgd;cases hgd
 generalize upd H gd (.dK kg)=H1 at *
 have isd:IsD H1 gd:= .inl ⟨_, .inl egd⟩
 have hns:∀x∈ns,gv x≠none:=fun x hx=>hsub x fun z=>kkc.none.mp (by rw[hch,z];rfl) hx
 have hz:kg.length+kch.length<=sizeLine:=by
  obtain⟨gs,cs,k1,k2,hl⟩:=bd.k
  have h1:kch.length<=n:=by
   rw[kkc.len,<-jH n]
   exact jj kkc.nd fun x hx=>bd.ok.gk x (hns x hx)
  have h2:=k1.len
  exact Nat.le_of_lt (bN (by omega))
 walk_at "vs"
 have XR:upd H1 gd (.dK (gJ kg kch)) gd=some (.dK (gJ kg kch)):=ak
 have S2:aN H (upd H1 gd (.dK (gJ kg kch))):=d7 _ hgd s1
 generalize upd H1 gd (.dK (gJ kg kch))=H2 at *
 have eh2:=S2 _ _ eh
 walk_at "vs"
 intro h2 hh2
 have s3:=aC (.tup [.ref gd, .ref c]) hh2
 have eh3:upd H2 h2 (.tup [.ref gd, .ref c]) h2=some (.tup [.ref gd, .ref c]):=ak
 have S3:=S2.trans s3
 have R9:=s3 _ _ XR
 generalize upd H2 h2 (.tup [.ref gd, .ref c])=H3 at *
 have ho3:oG H3 h2 gd c n (gv.over ch) rc:=⟨_,_,eh3,R9,S3 _ _ ec,Cv bd S3 kkc hch hsub⟩
 have er3:=S3 _ _ er
 have rD3:=rD.map fun b q z=>z.same S3
 have agv:=S3 _ _ ewl
 walk_at "vs"
 intro t kd sd lm lk kw ks wn sn kn rmN rkn o H4 s4 et hkd hsd hlm hlk nks nll ekd kkw hkw esd kks rDs elm elk bt ru
 have S4:=S3.trans s4
 have er4:=S4 _ _ er
 have rD4:=rD.map fun b q z=>z.same S4
 have efil:sn.filter rkn=sn.filter (qw rm rc kn):=List.filter_congr fun x hx=>bt.rk ((rDs.mem kks x).mp hx)
 rw[efil] at elm
 have hsnl:sn.length<=n:=by
  have:=rDs.len
  rw[kks.len] at this;exact this
 have hml:(sn.filter (qw rm rc kn)).length<=n:=Nat.le_trans (List.length_filter_le _ _) hsnl
 have hmem:∀x∈sn.filter (qw rm rc kn),rmN x≠none:=fun x hx=>(rDs.mem kks x).mp (List.mem_filter.mp hx).1
 generalize hM:sn.filter (qw rm rc kn)=M at *
 walk_at "vs"
 intro D hD
 refine qm (xs:=M.map V.str) (fun i σ' H'=>(∃a,σ'=[a,some (.ref rcd),some (.ref kd)])/\H' D=some (.lst (((M.take i).filter (vR rm kn)).map V.str))/\aN H4 H') ?_ ?_ ?_ ?_
 ·exact⟨⟨none,rfl⟩,ak,aC _ hD⟩
 ·intro j σ' H' _ hP
  exact SqL.of (hP.2.2 _ _ elm)
 ·intro j v σ' H5 hv hP
  obtain⟨⟨a1,rfl⟩,eD,S5⟩:=hP
  obtain⟨x,hxi,rfl⟩:∃x,M[j]? =some x/\v=V.str x:=by
   rw[List.getElem?_map] at hv
   cases e:M[j]? with
   | none=>rw[e] at hv;cases hv
   | some x=>rw[e] at hv;exact⟨x,rfl,(Option.some.inj hv).symm⟩
  have hxm:=hmem x (List.mem_of_getElem? hxi)
  obtain⟨r,ps,v0,hrm⟩:∃r ps v0,rmN x=some (r,ps,v0):=by
   cases e:rmN x with
   | none=>exact absurd e hxm
   | some qq=>exact⟨qq.1,qq.2.1,qq.2.2,rfl⟩
  have hkx:kn x=some v0:=(bt.ok.b _ _ _ _ hrm).2.2.1
  have hil:j<M.length:=(List.getElem?_eq_some_iff.mp hxi).1
  have ht:M.take (j+1)=M.take j++[x]:=by rw[List.take_add_one,hxi];rfl
  have hzl:(((M.take j).filter (vR rm kn)).map V.str).length<sizeLine:=by
   rw[List.length_map]
   have h1:=List.length_filter_le (vR rm kn) (M.take j)
   have h2:=List.length_take_le j M
   exact bN (by omega)
  have er5:=S5 _ _ er4
  have dw:cI H5 kd (.str x) (some (.int v0)):=by
   have:cG kw (.inr x)=some (.int v0):=by rw[hkw,hkx];rfl
   rw[<-this];exact cI.k (k:= .inr x) (S5 _ _ ekd)
  cases hr0:rm x with
  | none=>
    have dr:cI H5 rcd (.str x) none:=by rw[<-rD4.w x hr0];exact cI.k (k:= .inr x) er5
    walk_at "vs"
    refine⟨⟨_,rfl⟩, ?_,S5⟩
    rw[ht,List.filter_append,eD]
    simp[List.filter_cons,vR,hr0]
  | some q0=>
    obtain⟨r0,ps0,u0⟩:=q0
    obtain⟨rb,hrb,br,l,as,eb,hR,el,hRs,_⟩:=rD4.v x _ hr0
    have dr:cI H5 rcd (.str x) (some (.ref rb)):=by rw[<-hrb];exact cI.k (k:= .inr x) er5
    have eb5:=S5 _ _ eb
    have a2:atI [V.ref br, .ref l, .int u0] 2=some (.int u0):=rfl
    walk_at "vs"
    refine wM (fun c1=> ?_) (fun c1=> ?_)
    ·walk_at "vs"
     refine⟨⟨_,rfl⟩, ?_,d7 _ hD S5⟩
     rw[ak,ht,List.filter_append,List.map_append]
     have:vR rm kn x=true:=by
      unfold vR;rw[hr0,hkx]
      simp at c1 ⊢
      exact fun z=>c1 z.symm
     simp[List.filter_cons,this]
    ·walk_at "vs"
     refine⟨⟨_,rfl⟩, ?_,S5⟩
     rw[eD,ht,List.filter_append]
     have:vR rm kn x=false:=by
      unfold vR;rw[hr0,hkx]
      simp at c1 ⊢
      exact c1.symm
     simp[List.filter_cons,this]
 ·intro σ' H5 hP
  obtain⟨_,eD,S5⟩:=hP
  rw[show M.take (M.map V.str).length=M by rw[List.length_map];exact List.take_length] at eD
  walk_at "vs"
  intro tt htt
  have s6:=aC (.tup [.ref lm, .ref D]) htt
  have nlD:lm≠D:=fun z=>by rw[<-z,elm] at hD;cases hD
  subst hM
  exact q tt lm D kn rmN rkn sn _ (S4.trans (S5.trans s6)) ak (same_none S3 hlm) (same_none S4 hD) nlD (s6 _ _ (S5 _ _ elm)) (s6 _ _ eD) bt kks.nd (rDs.mem kks) ru
end
section
variable {P:Program}{w:World}{K:PySem.W.Frag}{mg:Str->Option Value}{base:Heap}
abbrev aR:Stmt:=top 35
theorem jE:bR ["house","first","names","changes","given","now","made","other","due","name"] ["house","first","names","changes"] (aa aR):=⟨rfl,rfl,rfl,by decide +kernel,rfl,by decide +kernel,by decide +kernel⟩
theorem yO:Loc (aa aR) "given":=by decide +kernel
theorem qY:(aa aR).names.lookup ("dict":Str)=some NameKind.globalImplicit:=by decide +kernel
theorem ju:aG (aa aR) "house":=by decide +kernel
theorem qZ:("dict":Str)≠"__name__":=by decide +kernel
theorem rA:(("dict":Str)==("__debug__":Str))=false:=by decide +kernel
theorem lG:aG (aa aR) "given":=by decide +kernel
theorem m5:aG (aa aR) "changes":=by decide +kernel
theorem Ao:Loc (aa aR) "now":=by decide +kernel
theorem rB:(aa aR).names.lookup ("fresh_build":Str)=some NameKind.globalImplicit:=by decide +kernel
theorem lH:aG (aa aR) "names":=by decide +kernel
theorem rC:(("fresh_build":Str)==("__debug__":Str))=false:=by decide +kernel
theorem vf:(aa aR).names.lookup ("reach_of":Str)=some NameKind.globalImplicit:=by decide +kernel
theorem gW:aG (aa aR) "first":=by decide +kernel
theorem vg:(("reach_of":Str)==("__debug__":Str))=false:=by decide +kernel
theorem yP:Loc (aa aR) "other":=by decide +kernel
theorem zH:Loc (aa aR) "made":=by decide +kernel
theorem Aq:Loc (aa aR) "due":=by decide +kernel
theorem zJ:Loc (aa aR) "name":=by decide +kernel
theorem rE:aG (aa aR) "name":=by decide +kernel
theorem tQ:aG (aa aR) "due":=by decide +kernel
theorem lV:aG (aa aR) "made":=by decide +kernel
theorem rF:(aa aR).names.lookup ("build_again":Str)=some NameKind.globalImplicit:=by decide +kernel
theorem rG:(("build_again":Str)==("__debug__":Str))=false:=by decide +kernel
theorem oX:(aa aR).names.lookup ("sorted":Str)=some NameKind.globalImplicit:=by decide +kernel
theorem oY:("sorted":Str)≠"__name__":=by decide +kernel
theorem oZ:(("sorted":Str)==("__debug__":Str))=false:=by decide +kernel
theorem yQ:aG (aa aR) "other":=by decide +kernel
theorem Ie {f g0 g1 g2:Addr}{fd gd0 gd1 gd2:FuncData} (jF:FnT K mg "_law_good" aR ["house","first","names","changes"] f fd)
 (cN:FnT K mg "fresh_build" bZ ["house","wishes"] g0 gd0) (qd:bx P w K mg base CX0 17 g0 gd0 ["house","wishes"] Cm)
 (cM:FnT K mg "build_again" bY ["house","records","wishes"] g1 gd1) (qb:bx P w K mg base CX0 17 g1 gd1 ["house","records","wishes"] FT)
 (dz:FnT K mg "reach_of" bL ["house","records","wishes","changes"] g2 gd2) (sY:bx P w K mg base CX0 18 g2 gd2 ["house","records","wishes","changes"] Ge)
 (T:Blt mg):bx P w K mg base CX0 19 f fd ["house","first","names","changes"] Pb:=by
 refine jF.F.okQ jE (fun vs H Q E h=> ?_) (fun cdv A outer s H vs Q E hr h=> ?_)
 ·obtain⟨h,g,c,ft,kd,sd,ol,nl,cd,n,gv,ch,rc,kw,ks,kch,kn,rm,us,sn,ns,rfl,_⟩:=h
  rfl
 obtain⟨h,g,c,ft,kd,sd,ol,nl,cd,n,gv,ch,rc,kw,ks,kch,kn,rm,us,sn,ns,rfl,ho,n17,eft,ekd,hkw,esd,rD,kks,eol,sok,hall,enl,hus,ecd,kkc,hch,hsub,q⟩:=h
 refine⟨_,(au (cg (i:=4) jE.nd rfl yO (kJ BP qY T.Jo Fd (jm (bz aL (aj 0 ju) aA) aq) qZ rA))
  (au (fK (KJ (aj 4 lG) (aj 3 m5) ⟨rfl,rfl,rfl,rfl⟩))
  (au (cg (i:=5) jE.nd rfl Ao (bz aL (aY (qd.mono (by omega)) hr rB cN.m cN.F.kp cN.b .nil bM (G9 (gK (aU (aj 4 lG) (jm (bz aL (aj 0 ju) aA) aq))) (aU (aj 2 lH) aq)) rC) aA))
  (au (W6 (aY (sY.mono (by omega)) hr vf dz.m dz.F.kp dz.b .nil bM (aU (aj 0 ju) (jm (bz aL (aj 1 gW) aA) (aU (aj 2 lH) (uA (kJ BP qY T.Jo Fd (aU (aj 3 m5) aq) qZ rA) aq)))) vg) (Ny rfl (qp (rP (i:=6) jE.nd rfl zH) (qp (rP (i:=7) jE.nd rfl yP) Fi))))
  (au (cg (i:=8) jE.nd rfl Aq (gh aq))
  (au (Br PassesOwn.never rfl (pB (bz aL (aj 1 gW) aA)) (rP (i:=9) jE.nd rfl zJ) (aD (dO (cH (Ma hr.units) (pA rfl (n:=2) (fr:=[5]) (N:=["read","number","now"]) (yh (scX:=aa aR) (NX:=["house","first","names","changes","given","now","made","other","due","name"]) rfl rfl (by decide +kernel)) (pB (bz aL (eF (dB hr) (bz aL (aj 1 gW) aA) (aj 9 rE)) aA)) (fun _ _ _ _ _=>(Km (K:=K) (n:=2) rfl rfl (qp (qgx (i:=0) (show List.Nodup (α:=Str) ["read","number","now"] by decide) (Bk (by decide +kernel))) (qp (qgx (i:=1) (show List.Nodup (α:=Str) ["read","number","now"] by decide) (Bk (by decide +kernel))) Fi)))) (fun _ _ _ _ _=>(wN (cH zb (eF (dB hr) (aj 2 (ir.ok (by decide +kernel))) (aj 0 (ir.ok (by decide +kernel)))) (aj 1 (ir.ok (by decide +kernel))) (bB _)))) (fun _ _ _ _ _=>(aj 0 (ir.ok (by decide +kernel))))) (gh aq) (bB _)) (aD (fK (tH PySem.F.plainAttrs_list PySem.F.slot_list_append PySem.F.type_list_append iU (aj 8 tQ) (aU (aj 9 rE) aq)))) cT)))
  (au (dO (Dq (Eh (cH (oh hr.units) (dF Cq oX T.ym vC (aU (aj 6 lV) aq) oY oZ) (dF Cq oX T.ym vC (aU (aj 8 tQ) aq) oY oZ) (bB _)) (yX (cH (oh hr.units) (aj 6 lV) (bz aL (aY (qb.mono (by omega)) hr rF cM.m cM.F.kp cM.b .nil bM (G9 (gK (aU (aj 4 lG) (jm (bz aL (aj 0 ju) aA) aq))) (jm (bz aL (aj 1 gW) aA) (aU (aj 2 lH) aq))) rG) aA) (bB _))))) (aD (bU Bm)) cT)
  (au (dO (cH (oh hr.units) (aj 7 yQ) (pA rfl (n:=1) (fr:=[5,1]) (N:=["name","now","first"]) (yh (scX:=aa aR) (NX:=["house","first","names","changes","given","now","made","other","due","name"]) rfl rfl (by decide +kernel)) (pB (aj 6 lV)) (fun _ _ _ _ _=>(qgx (i:=0) (show List.Nodup (α:=Str) ["name","now","first"] by decide) (Bk (by decide +kernel)))) (fun _ _ _ _ _=>(wN (cH zb (eF (dB hr) (aj 1 (ir.ok (by decide +kernel))) (aj 0 (ir.ok (by decide +kernel)))) (eF (dB hr) (bz (uz (K:=K) rfl) (aj 2 (ir.ok (by decide +kernel))) aA) (aj 0 (ir.ok (by decide +kernel)))) (bB _)))) (fun _ _ _ _ _=>(aj 0 (ir.ok (by decide +kernel))))) (bB _)) (aD (bU Bm)) cT)
  (aD (bU (Bo (Lr hr.units) (pA rfl (n:=1) (fr:=[6,5,1]) (N:=["name","made","now","first"]) (yh (scX:=aa aR) (NX:=["house","first","names","changes","given","now","made","other","due","name"]) rfl rfl (by decide +kernel)) (pB (bz aL (aj 1 gW) aA)) (fun _ _ _ _ _=>(qgx (i:=0) (show List.Nodup (α:=Str) ["name","made","now","first"] by decide) (Bk (by decide +kernel)))) (fun _ _ _ _ _=>(wN (Dq (Fe (cH (Bs (K:=K) rfl) (aj 0 (ir.ok (by decide +kernel))) (aj 1 (ir.ok (by decide +kernel))) rfl) (Aw (cH zb (eF (dB hr) (aj 2 (ir.ok (by decide +kernel))) (aj 0 (ir.ok (by decide +kernel)))) (eF (dB hr) (bz (uz (K:=K) rfl) (aj 3 (ir.ok (by decide +kernel))) aA) (aj 0 (ir.ok (by decide +kernel)))) (bB _))))))) (fun _ _ _ _ _=>(aj 0 (ir.ok (by decide +kernel))))) (gh aq) (bB _)))))))))))), ?_⟩
 obtain⟨kg,kc,eh,eg,ec,bd⟩:=id ho
 have hws:∀x∈us,x∈nmK n:=fun x hx=>(hus x).mp hx
 have rg:Rd H g (.dK kg):= .inl eg
 walk_at "vs"
 intro gd hgd
 have s1:=aC (.dK kg) hgd
 have egd:upd H gd (.dK kg) gd=some (.dK kg):=ak
 have aaY:=s1 _ _ ecd
 have ncd:gd≠cd:=fun z=>by rw[z,ecd] at hgd;cases hgd
 generalize upd H gd (.dK kg)=H1 at *
 have isd:IsD H1 gd:= .inl ⟨_, .inl egd⟩
 have hns:∀x∈ns,gv x≠none:=fun x hx=>hsub x fun z=>kkc.none.mp (by rw[hch,z];rfl) hx
 have hz:kg.length+kch.length<=sizeLine:=by
  obtain⟨gs,cs,k1,k2,hl⟩:=bd.k
  have h1:kch.length<=n:=by
   rw[kkc.len,<-jH n]
   exact jj kkc.nd fun x hx=>bd.ok.gk x (hns x hx)
  have h2:=k1.len
  exact Nat.le_of_lt (bN (by omega))
 walk_at "vs"
 have XR:upd H1 gd (.dK (gJ kg kch)) gd=some (.dK (gJ kg kch)):=ak
 have S2:aN H (upd H1 gd (.dK (gJ kg kch))):=d7 _ hgd s1
 generalize upd H1 gd (.dK (gJ kg kch))=H2 at *
 have eh2:=S2 _ _ eh
 walk_at "vs"
 intro h2 hh2
 have s3:=aC (.tup [.ref gd, .ref c]) hh2
 have eh3:upd H2 h2 (.tup [.ref gd, .ref c]) h2=some (.tup [.ref gd, .ref c]):=ak
 have S3:=S2.trans s3
 have R9:=s3 _ _ XR
 generalize upd H2 h2 (.tup [.ref gd, .ref c])=H3 at *
 have ho3:oG H3 h2 gd c n (gv.over ch) rc:=⟨_,_,eh3,R9,S3 _ _ ec,Cv bd S3 kkc hch hsub⟩
 have agw:=S3 _ _ enl
 walk_at "vs"
 intro t4 kdN sdN lN kwN ksN wnN snN knN rmN H4 s4 et4 agx agy hlN agz XS agA XX agB aeI aeJ elN btN ruN
 have S4:=S3.trans s4
 have aeK:=s4 _ _ R9
 have rc4:Rd H4 cd (.dK kch):= .inl (S4 _ _ ecd)
 have agC:=S4 _ _ eft
 walk_at "vs"
 intro cd2 aeL
 have s5:=aC (.dK kch) aeL
 have agD:upd H4 cd2 (.dK kch) cd2=some (.dK kch):=ak
 have S5:=S4.trans s5
 generalize upd H4 cd2 (.dK kch)=H5 at *
 have ho5:=ho.same S5
 have agE:=S5 _ _ esd
 have rD5:=rD.map fun b q z=>z.same S5
 have agF:=S5 _ _ enl
 walk_at "vs"
 intro t6 lm lo kn2 rm2 rk2 sn2 H6 s6 et6 hlm hlo nml elm elo bt2 nd2 hm2 ru2
 have e2:=ru2.det ruN
 cases e2
 have S6:=S5.trans s6
 have hk2:∀x,x∈nmK n->knN x≠none:=fun x hx=>btN.w x ((hus x).mpr hx)
 have hknn:∀x,kn x≠none->x∈nmK n:=fun x hx=>by
  cases z:kn x with
  | none=>exact absurd z hx
  | some u=>exact(sok.a x u z).1
 have hsm:=rD.mem kks
 have hrr:∀x,rm x≠none ↔ rm2 x≠none:=fun x=>by
  constructor
  ·intro hx
   obtain⟨r,ps,v0,e⟩:∃r ps v0,rm x=some (r,ps,v0):=by
    cases e:rm x with
    | none=>exact absurd e hx
    | some qq=>exact⟨qq.1,qq.2.1,qq.2.2,rfl⟩
   obtain⟨b1,b2,b3,b4,b5⟩:=sok.b _ _ _ _ e
   have hn:=(sok.a _ _ b3).1
   cases e2:knN x with
   | none=>exact absurd e2 (hk2 x hn)
   | some u=>
     rcases(bt2.ok.a _ _ e2).2 with z | ⟨_,r2,ps2,h1,h2⟩
     ·rw[(zq hsub x).mpr b2] at z;cases z
     ·rw[h2];simp
  ·intro hx
   obtain⟨r,ps,v0,e⟩:∃r ps v0,rm2 x=some (r,ps,v0):=by
    cases e:rm2 x with
    | none=>exact absurd e hx
    | some qq=>exact⟨qq.1,qq.2.1,qq.2.2,rfl⟩
   obtain⟨b1,b2,b3,b4,b5⟩:=bt2.ok.b _ _ _ _ e
   have hn:=(bt2.ok.a _ _ b3).1
   cases e2:kn x with
   | none=>exact absurd e2 (hall x hn)
   | some u=>
     rcases(sok.a _ _ e2).2 with z | ⟨_,r2,ps2,h1,h2⟩
     ·rw[(zq hsub x).mp b2] at z;cases z
     ·rw[h2];simp
 have af2:sn.length<=17:=by
  have:=rD.len
  rw[kks.len] at this;omega
 have aeM:snN.length<=17:=by
  have:=aeJ.len
  rw[aeI.len] at this;omega
 have hg2:∀x∈snN,mz x:=fun x hx=>by
  have:=(hm2 x).mp hx
  cases e:rm2 x with
  | none=>exact absurd e this
  | some qq=>
    obtain⟨r,ps,v⟩:=qq
    exact Hl (by omega) x (bt2.ok.a _ _ (bt2.ok.b _ _ _ _ e).2.2.1).1
 generalize hM:snN.filter (qw rm rc knN)=M at *
 have aaZ:∀x∈M,x∈snN:=fun x hx=>by rw[<-hM] at hx;exact(List.mem_filter.mp hx).1
 have hMl:M.length<=17:=by
  rw[<-hM]
  exact Nat.le_trans (List.length_filter_le _ _) aeM
 have hMg:∀x∈M,mz x:=fun x hx=>hg2 x (aaZ x hx)
 have hMn:M.Nodup:=by rw[<-hM];exact nd2.sublist List.filter_sublist
 walk_at "vs"
 intro dl hdl
 have s7:=aC (.lst []) hdl
 have edl:upd H6 dl (.lst []) dl=some (.lst (([]:List Str).map V.str)):=ak
 have S7:=S6.trans s7
 generalize upd H6 dl (.lst [])=H7 at *
 have agG:=S7 _ _ eft
 have agH:=S7 _ _ eol
 walk_at "vs"
 refine Bb (xs:=sn.map V.str) (fun i σ H'=>(∃t,σ=[some (.ref h),some (.ref ft),some (.ref nl),some (.ref cd),some (.ref gd),some (.ref kdN),some (.ref lm),some (.ref lo),some (.ref dl),t])/\aN H6 H'/\H' dl=some (.lst (((sn.take i).filter (qw rm rc knN)).map V.str))) ?_ ?_ ?_ ?_
 ·exact⟨⟨_,rfl⟩,s7,edl⟩
 ·intro i σ H' _ hP
  exact SqL.of ((S6.trans hP.2.1) _ _ eol)
 ·intro i v σ H8 hv hP
  obtain⟨⟨t,rfl⟩,S8',Sd⟩:=hP
  have S8:=S6.trans S8'
  obtain⟨x,hxi,rfl⟩:∃x,sn[i]? =some x/\v=V.str x:=by
   rw[List.getElem?_map] at hv
   cases e:sn[i]? with
   | none=>rw[e] at hv;cases hv
   | some x=>rw[e] at hv;exact⟨x,rfl,(Option.some.inj hv).symm⟩
  have hxm:=(hsm x).mp (List.mem_of_getElem? hxi)
  obtain⟨r,ps,v0,hrm⟩:∃r ps v0,rm x=some (r,ps,v0):=by
   cases e:rm x with
   | none=>exact absurd e hxm
   | some qq=>exact⟨qq.1,qq.2.1,qq.2.2,rfl⟩
  have rows:=(sok.b _ _ _ _ hrm).2.2.2.2
  have hil:i<sn.length:=(List.getElem?_eq_some_iff.mp hxi).1
  have ht:sn.take (i+1)=sn.take i++[x]:=by rw[List.take_add_one,hxi];rfl
  have rD8:=rD.map fun b q z=>z.same S8
  obtain⟨rb,hrb,br,l,as,eb,hR,el,hRs,_⟩:=rD8.v x _ hrm
  have dr:cI H8 sd (.str x) (some (.ref rb)):=by rw[<-hrb];exact cI.k (k:= .inr x) (S8 _ _ esd)
  have agI:=S8 _ _ eft
  have hpsl:ps.length<=n:=by
   have:=jj rows.nd (ns:=nmK n) fun y hy=>by
    obtain⟨p,hp,rfl⟩:=List.mem_map.mp hy
    exact hknn _ (by rw[rows.s p hp];simp)
   rw[List.length_map,jH] at this
   exact this
  have aeN:H8 kdN=some (.dK kwN):=(s5.trans (s6.trans S8')) _ _ XS
  have a1:atI [V.ref br, .ref l, .int v0] 1=some (.ref l):=rfl
  walk_at "vs"
  intro D hD
  refine qm (xs:=as.map V.ref) (fun i σ' H'=>(∃a b,σ'=[a,b,some (.ref kdN)])/\H' D=some (.lst ((unl knN (ps.take i)).map V.str))/\aN H8 H') ?_ ?_ ?_ ?_
  ·exact⟨⟨none,none,rfl⟩,ak,aC _ hD⟩
  ·intro i σ' H' _ hP
   exact SqL.of (hP.2.2 _ _ el)
  ·intro i v σ' H9 hv hP
   obtain⟨⟨a1,a2,rfl⟩,eD,S9⟩:=hP
   obtain⟨ai,hae,ey⟩:=Xo hv
   subst ey
   obtain⟨pp,hp,ep⟩:=hRs.get i _ hae
   have ep9:H9 ai=some (.tup [.str pp.1, .int pp.2]):=S9 _ _ ep
   obtain⟨u2,hu2⟩:∃u2,knN pp.1=some u2:=by
    cases z:knN pp.1 with
    | none=>exact absurd z (hk2 _ (hknn _ (by rw[rows.s pp (List.mem_of_getElem? hp)];simp)))
    | some u=>exact⟨u,rfl⟩
   have dw:cI H9 kdN (.str pp.1) (some (.int u2)):=by
    have:cG kwN (.inr pp.1)=some (.int u2):=by rw[XX,hu2];rfl
    rw[<-this];exact cI.k (k:= .inr pp.1) (S9 _ _ aeN)
   have hil:i<ps.length:=(List.getElem?_eq_some_iff.mp hp).1
   have hz:((unl knN (ps.take i)).map V.str).length<sizeLine:=by
    have:=R6 knN (ps.take i)
    have h2:=List.length_take_le i ps
    rw[List.length_map]
    exact bN (by omega)
   walk_at "vs"
   refine wM (fun c1=> ?_) (fun c1=> ?_)
   ·walk_at "vs"
    refine⟨⟨_,_,rfl⟩, ?_,d7 _ hD S9⟩
    rw[ak,List.take_add_one,hp]
    rw[show ps.take i++(some pp).toList=ps.take i++[pp] from rfl,Ga,R7 (by rw[hu2];simpa using c1),List.map_append]
    rfl
   ·walk_at "vs"
    refine⟨⟨_,_,rfl⟩, ?_,S9⟩
    rw[eD,List.take_add_one,hp]
    rw[show ps.take i++(some pp).toList=ps.take i++[pp] from rfl,Ga,O8 (by
     rw[hu2]
     by_cases z:u2=pp.2
     ·rw[z]
     ·exact absurd (by simpa using z) c1),List.append_nil]
  ·intro σ' H9 hP
   obtain⟨_,eD,S9⟩:=hP
   rw[show ps.take (as.map V.ref).length=ps by rw[List.length_map,hRs.length];exact List.take_length] at eD
   have hcu:=HN (kn2:=knN) sok hrm
   have aa0:=S9 _ _ Sd
   have hz:(((sn.take i).filter (qw rm rc knN)).map V.str).length<sizeLine:=by
    rw[List.length_map]
    have h1:=List.length_filter_le (qw rm rc knN) (sn.take i)
    have h2:=List.length_take_le i sn
    exact bN (by omega)
   walk_at "vs"
   intro le hle
   have s10:=aC (.lst []) hle
   have S10:=S8'.trans (S9.trans s10)
   have aa1:=s10 _ _ aa0
   refine⟨D,le,_,rfl,rfl,SqL.of (s10 _ _ eD),SqL.of ak, ?_⟩
   generalize upd H9 le (.lst [])=H10 at *
   have hem:(!((unl knN ps).map V.str).isEmpty)=qw rm rc knN x:=by
    rw[hcu]
    cases unl knN ps<;>rfl
   rw[hem]
   cases hc:qw rm rc knN x with
   | true=>
     walk_at "vs"
     refine⟨⟨_,rfl⟩,d7 _ hdl S10, ?_⟩
     rw[ak,ht,List.filter_append,List.map_append]
     simp[List.filter_cons,hc]
   | false=>
     walk_at "vs"
     refine⟨⟨_,rfl⟩,S10, ?_⟩
     rw[aa1,ht,List.filter_append]
     simp[List.filter_cons,hc]
 ·intro σ H8 hP
  obtain⟨⟨t,rfl⟩,S8',Sd⟩:=hP
  rw[show sn.take (sn.map V.str).length=sn by rw[List.length_map];exact List.take_length] at Sd
  have S8:=S6.trans S8'
  have agJ:=S8' _ _ elm
  have af3:(sn.filter (qw rm rc knN)).length<64:=by
   have:=List.length_filter_le (qw rm rc knN) sn
   omega
  have agK:M.length<64:=by omega
  walk_at "vs"
  intro l9 us9 hl9 hp9 hs9
  have s9:=aC (.lst (us9.map V.str)) hl9
  have e9:upd H8 l9 (.lst (us9.map V.str)) l9=some (.lst (us9.map V.str)):=ak
  have aa0:=s9 _ _ Sd
  have S9:=S8.trans s9
  have T9:=S8'.trans s9
  generalize upd H8 l9 (.lst (us9.map V.str))=H9 at *
  walk_at "vs"
  intro l10 Pk aeO aeP aeQ
  have s10:=aC (.lst (Pk.map V.str)) aeO
  have e10:upd H9 l10 (.lst (Pk.map V.str)) l10=some (.lst (Pk.map V.str)):=ak
  have aeR:=s10 _ _ e9
  have S10:=S9.trans s10
  have T10:=T9.trans s10
  generalize upd H9 l10 (.lst (Pk.map V.str))=H10 at *
  have eus:Pk=us9:=JH aeP aeQ hp9 hs9 (kks.nd.sublist List.filter_sublist) hMn fun x=>by
   rw[<-hM,List.mem_filter,List.mem_filter,hsm,hm2,hrr]
  subst eus
  refine⟨_, .lst (SqL.of aeR) (iT _), .lst (SqL.of e10) (iT _),oF (fun x hx=>hMg x (hp9.mem_iff.mp hx)), ?_⟩
  have agL:=S10 _ _ eh
  have aa2:H10 gd=some (.dK (gJ kg kch)):=(s5.trans (s6.trans T10)) _ _ aeK
  walk_at "vs"
  intro h3 hh3
  have s11:=aC (.tup [.ref gd, .ref c]) hh3
  have aeS:upd H10 h3 (.tup [.ref gd, .ref c]) h3=some (.tup [.ref gd, .ref c]):=ak
  have S11:=S10.trans s11
  have T11:=T10.trans s11
  have aa3:=s11 _ _ aa2
  generalize upd H10 h3 (.tup [.ref gd, .ref c])=H11 at *
  have agM:oG H11 h3 gd c n (gv.over ch) rc:=⟨_,_,aeS,aa3,S11 _ _ ec,Cv bd S11 kkc hch hsub⟩
  have af4:=S11 _ _ enl
  have af5:=S11 _ _ eft
  have af6:=S11 _ _ esd
  have agN:=rD.map fun b q z=>z.same S11
  walk_at "vs"
  intro t3 kd3 sd3 lm3 lk3 kw3 ks3 wn3 sn3 kn3 rm3 rk3 o3 H12 s12 et3 agO agP agQ agR agS agT agU agV agW agX aeT rD3 aa4 agY bt3 ru3
  have e3:=ru3.det ruN
  cases e3
  have efil:snN.filter rk3=M:=by
   rw[<-hM]
   exact List.filter_congr fun x hx=>bt3.rk ((rD3.mem aeT x).mp hx)
  rw[efil] at aa4
  have S12:=S11.trans s12
  have T12:=T11.trans s12
  have U8:=T12 _ _ elm
  walk_at "vs"
  refine⟨_, .lst (SqL.of U8) (iT _), .lst (SqL.of aa4) (iT _),oF hMg, ?_⟩
  have aa5:=T12 _ _ elo
  have U9:=S12 _ _ eft
  walk_at "vs"
  intro D hD
  refine qm (xs:=M.map V.str) (fun i σ' H'=>(∃a,σ'=[a,some (.ref kdN),some (.ref ft)])/\H' D=some (.lst (((M.take i).filter (vR rm knN)).map V.str))/\aN H12 H') ?_ ?_ ?_ ?_
  ·exact⟨⟨none,rfl⟩,ak,aC _ hD⟩
  ·intro j σ' H' _ hP
   exact SqL.of (hP.2.2 _ _ U8)
  ·intro j v σ' H13 hv hP
   obtain⟨⟨a1,rfl⟩,eD,S13⟩:=hP
   obtain⟨x,hxi,rfl⟩:∃x,M[j]? =some x/\v=V.str x:=by
    rw[List.getElem?_map] at hv
    cases e:M[j]? with
    | none=>rw[e] at hv;cases hv
    | some x=>rw[e] at hv;exact⟨x,rfl,(Option.some.inj hv).symm⟩
   obtain⟨r,ps,u0,hrm⟩:∃r ps v0,rm x=some (r,ps,v0):=by
    have:=(hrr x).mpr ((hm2 x).mp (aaZ x (List.mem_of_getElem? hxi)))
    cases e:rm x with
    | none=>exact absurd e this
    | some qq=>exact⟨qq.1,qq.2.1,qq.2.2,rfl⟩
   have hkx:kn x=some u0:=(sok.b _ _ _ _ hrm).2.2.1
   obtain⟨v0,hvx⟩:∃v0,knN x=some v0:=by
    cases z:knN x with
    | none=>exact absurd z (hk2 x (sok.a _ _ hkx).1)
    | some u=>exact⟨u,rfl⟩
   have hil:j<M.length:=(List.getElem?_eq_some_iff.mp hxi).1
   have ht:M.take (j+1)=M.take j++[x]:=by rw[List.take_add_one,hxi];rfl
   have hzl:(((M.take j).filter (vR rm knN)).map V.str).length<sizeLine:=by
    rw[List.length_map]
    have h1:=List.length_filter_le (vR rm knN) (M.take j)
    have h2:=List.length_take_le j M
    exact bN (by omega)
   have dw:cI H13 kdN (.str x) (some (.int v0)):=by
    have:cG kwN (.inr x)=some (.int v0):=by rw[XX,hvx];rfl
    rw[<-this];exact cI.k (k:= .inr x) ((s5.trans (s6.trans (T12.trans S13))) _ _ XS)
   have df:cI H13 kd (.str x) (some (.int u0)):=by
    have:cG kw (.inr x)=some (.int u0):=by rw[hkw,hkx];rfl
    rw[<-this];exact cI.k (k:= .inr x) ((S12.trans S13) _ _ ekd)
   have Va:=S13 _ _ U9
   walk_at "vs"
   refine wM (fun c1=> ?_) (fun c1=> ?_)
   ·walk_at "vs"
    refine⟨⟨_,rfl⟩, ?_,d7 _ hD S13⟩
    rw[ak,ht,List.filter_append,List.map_append]
    have:vR rm knN x=true:=by
     unfold vR;rw[hrm,hvx]
     simpa using c1
    simp[List.filter_cons,this]
   ·walk_at "vs"
    refine⟨⟨_,rfl⟩, ?_,S13⟩
    rw[eD,ht,List.filter_append]
    have:vR rm knN x=false:=by
     unfold vR;rw[hrm,hvx]
     simpa using c1
    simp[List.filter_cons,this]
  ·intro σ' H13 hP
   obtain⟨_,eD,S13⟩:=hP
   rw[show M.take (M.map V.str).length=M by rw[List.length_map];exact List.take_length] at eD
   refine⟨_, .lst (SqL.of (S13 _ _ aa5)) (iT _), .lst (SqL.of eD) (iT _),oF (fun x hx=>hMg x (List.mem_filter.mp hx).1), ?_⟩
   have Va:=S13 _ _ U9
   have X3:=S12.trans S13
   have aa6:=X3 _ _ eol
   walk_at "vs"
   intro D2 hD2
   refine qm (xs:=sn.map V.str) (fun i σ' H'=>(∃a,σ'=[a,some (.ref lm),some (.ref kdN),some (.ref ft)])/\H' D2=some (.lst [])/\aN H13 H') ?_ ?_ ?_ ?_
   ·exact⟨⟨none,rfl⟩,ak,aC _ hD2⟩
   ·intro j σ' H' _ hP
    exact SqL.of (hP.2.2 _ _ aa6)
   ·intro j v σ' H14 hv hP
    obtain⟨⟨a1,rfl⟩,eD2,S14⟩:=hP
    obtain⟨x,hxi,rfl⟩:∃x,sn[j]? =some x/\v=V.str x:=by
     rw[List.getElem?_map] at hv
     cases e:sn[j]? with
     | none=>rw[e] at hv;cases hv
     | some x=>rw[e] at hv;exact⟨x,rfl,(Option.some.inj hv).symm⟩
    have hxm:=(hsm x).mp (List.mem_of_getElem? hxi)
    obtain⟨r,ps,u0,hrm⟩:∃r ps v0,rm x=some (r,ps,v0):=by
     cases e:rm x with
     | none=>exact absurd e hxm
     | some qq=>exact⟨qq.1,qq.2.1,qq.2.2,rfl⟩
    have hkx:kn x=some u0:=(sok.b _ _ _ _ hrm).2.2.1
    have U14:=X3.trans S14
    have KN:=(T12.trans (S13.trans S14)) _ _ elm
    have hfl:=Mf M
    by_cases hin:x∈M
    ·have hiv:=O9 hin
     walk_at "vs"
     rw[hiv]
     walk_at "vs"
     exact⟨⟨_,rfl⟩,eD2,S14⟩
    ·have hiv:=XH hin
     have hx2:=(hrr x).mp hxm
     have hrk:rk2 x=false:=by
      cases z:rk2 x with
      | false=>rfl
      | true=>
        refine absurd ?_ hin
        rw[<-hM,List.mem_filter]
        exact⟨(hm2 x).mpr hx2,by rw[<-bt2.rk hx2];exact z⟩
     obtain⟨r2,ps2,v2,aa7⟩:∃r ps v0,rm2 x=some (r,ps,v0):=by
      cases e:rm2 x with
      | none=>exact absurd e hx2
      | some qq=>exact⟨qq.1,qq.2.1,qq.2.2,rfl⟩
     have md:=(bt2.md _ _ _ _ aa7).2.2
     rw[hrk,if_neg (by decide),hrm] at md
     cases md
     have hvx:knN x=some u0:=(bt2.ok.b _ _ _ _ aa7).2.2.1
     have dw:cI H14 kdN (.str x) (some (.int u0)):=by
      have:cG kwN (.inr x)=some (.int u0):=by rw[XX,hvx];rfl
      rw[<-this];exact cI.k (k:= .inr x) ((s5.trans (s6.trans (T12.trans (S13.trans S14)))) _ _ XS)
     have df:cI H14 kd (.str x) (some (.int u0)):=by
      have:cG kw (.inr x)=some (.int u0):=by rw[hkw,hkx];rfl
      rw[<-this];exact cI.k (k:= .inr x) (U14 _ _ ekd)
     have af7:=S14 _ _ Va
     walk_at "vs"
     rw[hiv]
     walk_at "vs"
     rw[show(!decide (V.int u0=V.int u0))=false by simp]
     walk_at "vs"
     exact⟨⟨_,rfl⟩,eD2,S14⟩
   ·intro σ' H14 hP
    obtain⟨_,eD2,S14⟩:=hP
    walk_at "vs"
    intro ll hll
    have s15:=aC (.lst []) hll
    exact⟨D2,ll,[],rfl,rfl,SqL.of (s15 _ _ eD2),SqL.of ak,q _ (X3.trans (S14.trans s15))⟩
end
section
variable {P:Program}{w:World}{K:PySem.W.Frag}{mg:Str->Option Value}{base:Heap}
abbrev eY:Stmt:=top 36
theorem sZ:bR ["script","pool","house","names","first","changes","k","cells","name"] ["script"] (aa eY):=⟨rfl,rfl,rfl,by decide +kernel,rfl,by decide +kernel,by decide +kernel⟩
theorem Ig:Loc (aa eY) "pool":=by decide +kernel
theorem rH:(aa eY).names.lookup ("_law_pool":Str)=some NameKind.globalImplicit:=by decide +kernel
theorem mq:aG (aa eY) "script":=by decide +kernel
theorem rJ:(("_law_pool":Str)==("__debug__":Str))=false:=by decide +kernel
theorem Gi:Loc (aa eY) "house":=by decide +kernel
theorem yR:(aa eY).names.lookup ("_law_house":Str)=some NameKind.globalImplicit:=by decide +kernel
theorem jM:(aa eY).names.lookup ("_law_take":Str)=some NameKind.globalImplicit:=by decide +kernel
theorem Ih:aG (aa eY) "pool":=by decide +kernel
theorem jN:(("_law_take":Str)==("__debug__":Str))=false:=by decide +kernel
theorem yS:(("_law_house":Str)==("__debug__":Str))=false:=by decide +kernel
theorem Gj:Loc (aa eY) "names":=by decide +kernel
theorem wJ:(aa eY).names.lookup ("sorted":Str)=some NameKind.globalImplicit:=by decide +kernel
theorem Ab:(aa eY).names.lookup ("list":Str)=some NameKind.globalImplicit:=by decide +kernel
theorem gb:aG (aa eY) "house":=by decide +kernel
theorem Ac:("list":Str)≠"__name__":=by decide +kernel
theorem Ad:(("list":Str)==("__debug__":Str))=false:=by decide +kernel
theorem wK:("sorted":Str)≠"__name__":=by decide +kernel
theorem wL:(("sorted":Str)==("__debug__":Str))=false:=by decide +kernel
theorem Gk:Loc (aa eY) "first":=by decide +kernel
theorem xY:(aa eY).names.lookup ("fresh_build":Str)=some NameKind.globalImplicit:=by decide +kernel
theorem nU:aG (aa eY) "names":=by decide +kernel
theorem xZ:(("fresh_build":Str)==("__debug__":Str))=false:=by decide +kernel
theorem tR:(aa eY).names.lookup ("reach_of":Str)=some NameKind.globalImplicit:=by decide +kernel
theorem tu:aG (aa eY) "first":=by decide +kernel
theorem tU:(("reach_of":Str)==("__debug__":Str))=false:=by decide +kernel
theorem Dj:Loc (aa eY) "changes":=by decide +kernel
theorem Gm:(aa eY).names.lookup ("range":Str)=some NameKind.globalImplicit:=by decide +kernel
theorem Pn:Loc (aa eY) "k":=by decide +kernel
theorem Gn:Loc (aa eY) "cells":=by decide +kernel
theorem JL:(aa eY).names.lookup ("sum":Str)=some NameKind.globalImplicit:=by decide +kernel
theorem Ii:aG (aa eY) "k":=by decide +kernel
theorem JM:("sum":Str)≠"__name__":=by decide +kernel
theorem JN:(("sum":Str)==("__debug__":Str))=false:=by decide +kernel
theorem wC:(aa eY).names.lookup ("_law_cell_at":Str)=some NameKind.globalImplicit:=by decide +kernel
theorem wD:(("_law_cell_at":Str)==("__debug__":Str))=false:=by decide +kernel
theorem Ij:Loc (aa eY) "name":=by decide +kernel
theorem tD:aG (aa eY) "cells":=by decide +kernel
theorem vm:aG (aa eY) "changes":=by decide +kernel
theorem Ae:aG (aa eY) "name":=by decide +kernel
theorem zK:(aa eY).names.lookup ("_law_good":Str)=some NameKind.globalImplicit:=by decide +kernel
theorem zL:(("_law_good":Str)==("__debug__":Str))=false:=by decide +kernel
theorem X4 {f g1 g2 g3 g4 g5 g6 g7:Addr}{fd gd1 gd2 gd3 gd4 gd5 gd6 gd7:FuncData} (Pq:FnT K mg "law" eY ["script"] f fd)
 (di:FnT K mg "_law_pool" gB ["script","k"] g1 gd1) (sX:bx P w K mg base CX0 2 g1 gd1 ["script","k"] (Js K))
 (aB:FnT K mg "_law_take" dm ["pool","many"] g2 gd2) (bF:bx P w K mg base CX0 1 g2 gd2 ["pool","many"] wQ)
 (iQ:FnT K mg "_law_house" bf ["script","start","many"] g3 gd3) (Ik:bx P w K mg base CX0 7 g3 gd3 ["script","start","many"] (U3 K))
 (cN:FnT K mg "fresh_build" bZ ["house","wishes"] g4 gd4) (qd:bx P w K mg base CX0 17 g4 gd4 ["house","wishes"] Cm)
 (dz:FnT K mg "reach_of" bL ["house","records","wishes","changes"] g5 gd5) (sY:bx P w K mg base CX0 18 g5 gd5 ["house","records","wishes","changes"] Ge)
 (jF:FnT K mg "_law_good" aR ["house","first","names","changes"] g6 gd6) (JP:bx P w K mg base CX0 19 g6 gd6 ["house","first","names","changes"] Pb)
 (bV:FnT K mg "_law_cell_at" dG ["script","k"] g7 gd7) (lZ:bx P w K mg base CX0 1 g7 gd7 ["script","k"] (Jr K))
 (T:Blt mg):bx P w K mg base CX0 20 f fd ["script"] (Kh K):=by
 refine Pq.F.okQ sZ (fun vs H Q E h=> ?_) (fun cdv A outer s H vs Q E hr h=> ?_)
 ·obtain⟨a,ns,rfl,_⟩:=h
  rfl
 obtain⟨a,zs,rfl,hS,h63,q⟩:=h
 refine⟨_,(au (cg (i:=1) sZ.nd rfl Ig (aY (sX.mono (by omega)) hr rH di.m di.F.kp di.b .nil bM (aU (aj 0 mq) (jl aA aq)) rJ))
  (au (cg (i:=2) sZ.nd rfl Gi (aY (Ik.mono (by omega)) hr yR iQ.m iQ.F.kp iQ.b .nil bM (aU (aj 0 mq) (jl aA (zf (cV lu aA (aY (bF.mono (by omega)) hr jM aB.m aB.F.kp aB.b .nil bM (aU (aj 1 Ih) (jl aA aq)) jN)) aq))) yS))
  (au (cg (i:=3) sZ.nd rfl Gj (dF Jx wJ T.ym vC (zf (cV Ra (kJ (BL rfl) Ab T.Bt yl (jm (bz aL (aj 2 gb) aA) aq) Ac Ad) (kJ (BL rfl) Ab T.Bt yl (jm (bz aL (aj 2 gb) aA) aq) Ac Ad)) aq) wK wL))
  (au (cg (i:=4) sZ.nd rfl Gk (aY (qd.mono (by omega)) hr xY cN.m cN.F.kp cN.b .nil bM (aU (aj 2 gb) (aU (aj 3 nU) aq)) xZ))
  (au (dO (Dq (Eh (cH (oh hr.units) (aY (sY.mono (by omega)) hr tR dz.m dz.F.kp dz.b .nil bM (aU (aj 2 gb) (jm (bz aL (aj 4 tu) aA) (aU (aj 3 nU) (aaG jU aq)))) tU) (gK (Hg (gh aq) (Hg (gh aq) aq))) (bB _)) (yX (cH (oh hr.units) (aY (sY.mono (by omega)) hr tR dz.m dz.F.kp dz.b .nil bM (aU (aj 2 gb) (jm (bz aL (aj 4 tu) aA) (aU (aj 3 nU) (jm (bz aL (aj 2 gb) aA) aq)))) tU) (gK (Hg (gh aq) (Hg (gh aq) aq))) (bB _))))) (aD (bU Bm)) cT)
  (au (cg (i:=5) sZ.nd rfl Dj jU)
  (au (Br PassesOwn.never rfl (za Gm T.Fo (jl aA aq)) (rP (i:=6) sZ.nd rfl Pn) (au (cg (i:=7) sZ.nd rfl Gn (aY (sX.mono (by omega)) hr rH di.m di.F.kp di.b .nil bM (Hg (gh (uA (aY (lZ.mono (by omega)) hr wC bV.m bV.F.kp bV.b .nil bM (aU (aj 0 mq) (jl aA aq)) wD) (uA (dF (R0 rfl) JL T.aav WY (jm (RZ (aj 0 mq) (cV lu (aj 6 Ii) aA) aA aA) aq) JM JN) aq))) (jl aA aq)) rJ))
  (au (Br PassesOwn.never rfl (pB (dF (JF rfl) wJ T.ym vC (jm (bz aL (aj 2 gb) aA) aq) wK wL)) (rP (i:=8) sZ.nd rfl Ij) (aD (dO (cH gj (aY (bF.mono (by omega)) hr jM aB.m aB.F.kp aB.b .nil bM (aU (aj 7 tD) (jl aA aq)) jN) (aj 6 Ii) (bB _)) (aD (j9 (dB hr) (aj 5 vm) (aj 8 Ae) (cV lu (eF (dB hr) (bz aL (aj 2 gb) aA) (aj 8 Ae)) (bz iw (gh (jl aA (aea (Nt Fl aA) (jl aA (zf (cV lW aA (aY (bF.mono (by omega)) hr jM aB.m aB.F.kp aB.b .nil bM (aU (aj 7 tD) (zf (cV Fj aA aA) aq)) jN)) aq))))) (aY (bF.mono (by omega)) hr jM aB.m aB.F.kp aB.b .nil bM (aU (aj 7 tD) (jl aA aq)) jN))))) cT)))
  (aD (dO (Ji (uy (aY (JP.mono (by omega)) hr zK jF.m jF.F.kp jF.b .nil bM (aU (aj 2 gb) (aU (aj 4 tu) (aU (aj 3 nU) (aU (aj 5 vm) aq)))) zL))) (aD (bU Bm)) cT)))))
  (aD (bU Bm))))))))), ?_⟩
 walk_at "vs"
 intro p H1 s1 hp0 pl1
 have fr:∀y∈[p],H y=none:=fun y hy=>by
  have:y=p:=by simpa using hy
  rw[this];exact hp0
 have hS1:=SqL.same s1 hS
 walk_at "vs"
 intro n2 H2 n20 n21 b2 pl2
 have S2:=gQ s1 fr b2
 have hS2:=SqL.same S2 hS
 obtain⟨m,rfl⟩:=Int.eq_ofNat_of_zero_le n20
 have em:(2+(m:Int))=((2+m:Nat):Int):=by omega
 have hm:m<15:=by omega
 refine⟨2,(m:Int),rfl,rfl, ?_⟩
 obtain⟨n,hn⟩:∃n,n=2+m:=⟨_,rfl⟩
 have n17:n<=17:=by omega
 have n1:1<=n:=by omega
 refine⟨a,zs,1,n,by show [V.ref a,V.int 1,V.int (2+(m:Int))]=_;rw[em,hn],hS2,by omega,by omega,n17,fun h hg hc gv rc H3 s3 hh3 hg3 hc3 ho3=> ?_⟩
 have S3:=S2.trans s3
 obtain⟨kg,kc,eh,eg,ec,bd⟩:=id ho3
 obtain⟨gs,cs,kgk,kck,hlen⟩:=bd.k
 walk_at "vs"
 intro l1 hl1
 rw[zj kgk.k]
 have s4:=aC (.lst (gs.map V.str)) hl1
 have e4:upd H3 l1 (.lst (gs.map V.str)) l1=some (.lst (gs.map V.str)):=ak
 have eh4:=s4 _ _ eh
 have ec4:=s4 _ _ ec
 generalize upd H3 l1 (.lst (gs.map V.str))=H4 at *
 walk_at "vs"
 intro l2 hl2
 rw[zj kck.k]
 have s5:=aC (.lst (cs.map V.str)) hl2
 have e45:=s5 _ _ e4
 have e5:upd H4 l2 (.lst (cs.map V.str)) l2=some (.lst (cs.map V.str)):=ak
 have T5:=s4.trans s5
 generalize upd H4 l2 (.lst (cs.map V.str))=H5 at *
 have hz:(gs.map V.str).length+(cs.map V.str).length<=sizeLine:=by rw[List.length_map,List.length_map];exact Nat.le_of_lt (bN (by omega))
 walk_at "vs"
 intro l3 hl3
 rw[<-List.map_append]
 have s6:=aC (.lst ((gs++cs).map V.str)) hl3
 have e6:upd H5 l3 (.lst ((gs++cs).map V.str)) l3=some (.lst ((gs++cs).map V.str)):=ak
 have T6:=T5.trans s6
 generalize upd H5 l3 (.lst ((gs++cs).map V.str))=H6 at *
 refine⟨l3,gs++cs,rfl,SqL.of e6,by rw[List.length_append];omega,fun l4 us hl4 hperm=> ?_⟩
 have s7:=aC (.lst (us.map V.str)) hl4
 have e7:upd H6 l4 (.lst (us.map V.str)) l4=some (.lst (us.map V.str)):=ak
 have T7:=T6.trans s7
 generalize upd H6 l4 (.lst (us.map V.str))=H7 at *
 have hus:∀x,x∈us ↔ x∈nmK n:=fun x=>by
  constructor
  ·intro hx
   rcases List.mem_append.mp (hperm.mem_iff.mp hx) with z | z
   ·refine bd.ok.gk x fun e=> ?_
    exact kgk.none.mp (by rw[bd.g,e];rfl) z
   ·cases e:rc x with
    | none=>exact absurd z (kck.none.mp (bd.rn x e))
    | some r=>
      obtain⟨k,hk,ek,_⟩:=bd.ok.rk x r e
      exact lY.mpr ⟨k,hk,ek⟩
  ·intro hx
   refine hperm.mem_iff.mpr (List.mem_append.mpr ?_)
   obtain⟨k,hk,rfl⟩:=lY.mp hx
   rcases bd.ok.dom k hk with z | z
   ·left
    refine Decidable.byContradiction fun w=>z ?_
    have:=kgk.none.mpr w
    rw[bd.g] at this
    cases e:gv (az k) with
    | none=>rfl
    | some u=>rw[e] at this;cases this
   ·right
    refine Decidable.byContradiction fun w=>z ?_
    have:=kck.none.mpr w
    cases e:rc (az k) with
    | none=>rfl
    | some r=>
      obtain⟨b,hb,_⟩:=bd.r _ _ e
      rw[hb] at this;cases this
 have hws:∀x∈us,x∈nmK n:=fun x hx=>(hus x).mp hx
 have ho7:=ho3.same T7
 clear s4 s5 s6 s7 T5 T6 e4 eh4 ec4 e45 e5 e6 hl1 hl2 hl3 hz
 walk_at "vs"
 intro t kd sd ol kw ks wn sn kn rm H8 s8 et hkd hsd hol nks ekd kkw hkw esd kks rDs eol bt ru
 have T8:=T7.trans s8
 have SH8:aN H H8:=S3.trans T8
 have eh8:=T8 _ _ eh
 have ho8:=ho3.same T8
 have sok:=bt.ok
 have hall:∀x∈nmK n,kn x≠none:=fun x hx=>bt.w x ((hus x).mpr hx)
 have X5:H8 l4=some (.lst (us.map V.str)):=s8 _ _ e7
 have nochg:∀x∈sn,qw rm rc kn x=false:=fun x hx=>by
  have hx:=(rDs.mem kks x).mp hx
  cases e:rm x with
  | none=>exact absurd e hx
  | some qq=>
    obtain⟨r,ps,v⟩:=qq
    rw[HN sok e,Gb fun p hp=>(sok.b _ _ _ _ e).2.2.2.2.s p hp];rfl
 have nofil:sn.filter (qw rm rc kn)=[]:=by
  rw[List.filter_eq_nil_iff]
  intro x hx
  rw[nochg x hx];decide
 walk_at "vs"
 intro cd1 aeU
 have s9:=aC (.dK []) aeU
 have aaY:upd H8 cd1 (.dK []) cd1=some (.dK []):=ak
 generalize upd H8 cd1 (.dK [])=H9 at *
 have T9:=T8.trans s9
 have ho9:=ho3.same T9
 have agZ:=s9 _ _ esd
 have rD9:=rDs.map fun b q z=>z.same s9
 have ag0:=s9 _ _ X5
 have kk0:gH [] []:=⟨rfl,by simp⟩
 have aeV:∀x,cG ([]:List (Key×V)) (.inr x)=((kn0:Kn) x).map V.int:=fun x=>by rw[nY];rfl
 have aa8:∀x,(kn0:Kn) x≠none->gv x≠none:=fun x hx=>absurd rfl hx
 have eov:gv.over kn0=gv:=rfl
 walk_at "vs"
 intro t10 ag1 ag2 ag3 ag4 ag5 ag6 H10 s10 aa9 af8 af9 aga Pr Pu ag7 ag8 ag9 aba
 rw[eov] at aba
 have e10:=aba.det ru
 cases e10
 rw[nofil] at Pr Pu
 have kil:∀{H':Hp}{q1 q2 l1' l2':Addr}{t1' t2':Addr},H' t1'=some (.tup [.ref q1, .ref q2])->H' q1=some (.lst ([]:List V))->H' q2=some (.lst ([]:List V))->H' t2'=some (.tup [.ref l1', .ref l2'])->H' l1'=some (.lst ([]:List V))->H' l2'=some (.lst ([]:List V))->vQ K H' (.ref t1') (.tuple [.list [], .list []])/\vQ K H' (.ref t2') (.tuple [.list [], .list []]):=fun h1 h2 h3 h4 h5 h6=>⟨.tup (SqT.of h1) (.cons (.lst (SqL.of h2) .nil) (.cons (.lst (SqL.of h3) .nil) .nil)), .tup (SqT.of h4) (.cons (.lst (SqL.of h5) .nil) (.cons (.lst (SqL.of h6) .nil) .nil))⟩
 walk_at "vs"
 intro la hla
 have s11:=aC (.lst []) hla
 have ela:upd H10 la (.lst []) la=some (.lst []):=ak
 generalize upd H10 la (.lst [])=H11 at *
 walk_at "vs"
 intro lb hlb
 have s12:=aC (.lst []) hlb
 have elb:upd H11 lb (.lst []) lb=some (.lst []):=ak
 have Vb:=s12 _ _ ela
 generalize upd H11 lb (.lst [])=H12 at *
 walk_at "vs"
 intro tb htb
 have s13:=aC (.tup [.ref la, .ref lb]) htb
 have etb:upd H12 tb (.tup [.ref la, .ref lb]) tb=some (.tup [.ref la, .ref lb]):=ak
 generalize upd H12 tb (.tup [.ref la, .ref lb])=H13 at *
 have Z13:=s11.trans (s12.trans s13)
 obtain⟨dd1,dd2⟩:=kil (Z13 _ _ aa9) (Z13 _ _ Pr) (Z13 _ _ Pu) etb (s13 _ _ Vb) (s13 _ _ elb)
 refine⟨_,dd1,dd2,rfl, ?_⟩
 have U13:aN H8 H13:=s9.trans (s10.trans Z13)
 have aeW:=ho8.same U13
 have aeX:=U13 _ _ eh8
 have aeY:=U13 _ _ et
 have abb:=U13 _ _ esd
 have aeZ:=rDs.map fun b q z=>z.same U13
 have abd:=U13 _ _ X5
 have ae0:=(T8.trans U13) _ _ eg
 have ae1:gv.over gv=gv:=by
  funext x
  unfold Kn.over
  cases gv x<;>rfl
 have hsub1:∀x,gv x≠none->gv x≠none:=fun x hx=>hx
 have hcg:=bd.g
 walk_at "vs"
 intro t14 aha ahb ahc ahd ahe ahf H14 s14 abe agb agc agd KN Px ahg ahh ahi abf
 rw[ae1] at abf
 have e14:=abf.det ru
 cases e14
 rw[nofil] at KN Px
 walk_at "vs"
 intro lc hlc
 have s15:=aC (.lst []) hlc
 have elc:upd H14 lc (.lst []) lc=some (.lst []):=ak
 generalize upd H14 lc (.lst [])=H15 at *
 walk_at "vs"
 intro ld hld
 have s16:=aC (.lst []) hld
 have eld:upd H15 ld (.lst []) ld=some (.lst []):=ak
 have Vc:=s16 _ _ elc
 generalize upd H15 ld (.lst [])=H16 at *
 walk_at "vs"
 intro td htd
 have s17:=aC (.tup [.ref lc, .ref ld]) htd
 have etd:upd H16 td (.tup [.ref lc, .ref ld]) td=some (.tup [.ref lc, .ref ld]):=ak
 generalize upd H16 td (.tup [.ref lc, .ref ld])=H17 at *
 have Z17:=s15.trans (s16.trans s17)
 obtain⟨dd3,dd4⟩:=kil (Z17 _ _ abe) (Z17 _ _ KN) (Z17 _ _ Px) etd (s17 _ _ Vc) (s17 _ _ eld)
 refine⟨_,dd3,dd4,rfl, ?_⟩
 have U17:aN H8 H17:=U13.trans (s14.trans Z17)
 clear dd1 dd2 dd3 dd4 s9 s10 s11 s12 s13 s14 s15 s16 s17 Z13 Z17 Vc eld elc etd abe KN Px ela elb etb Vb aa9 Pr Pu htd hld hlc htb hlb hla U13 aeW aeX aeY abb aeZ abd ae0
 walk_at "vs"
 intro cd hcd
 have s18:=aC (.dK []) hcd
 have ecd:upd H17 cd (.dK []) cd=some (.dK []):=ak
 have U18:=U17.trans s18
 have ae2:=same_none U17 hcd
 generalize upd H17 cd (.dK [])=H18 at *
 walk_at "vs"
 refine DP (fun i σ H'=>(∃t1 t2 t3,σ=[some (.ref a),some (.ref p),some (.ref h),some (.ref l4),some (.ref t),some (.ref cd),t1,t2,t3])/\aN H8 H'/\∃(kch:List (Key×V)) (ch:Kn) (ns:List Str),H' cd=some (.dK kch)/\gH kch ns/\(∀x,cG kch (.inr x)=(ch x).map V.int)/\(∀x,ch x≠none->gv x≠none)) ?_ ?_ ?_
 ·exact⟨⟨none,none,none,rfl⟩,U18,[],kn0,[],ecd,kk0,aeV,aa8⟩
 ·intro i σ H19 hi hP
  obtain⟨⟨t1,t2,t3,rfl⟩,U19,kch,ch,ns,abg,kkc,hch,hsub⟩:=hP
  have ahj:=SqL.same (SH8.trans U19) hS
  have hi3:i<3:=hi
  walk_at "vs"
  intro cz
  walk_at "vs"
  intro sl ys hsl hys hyl
  obtain⟨yn,rfl⟩:=ints_of hys
  have s20:=aC (.lst (yn.map V.int)) hsl
  have esl:upd H19 sl (.lst (yn.map V.int)) sl=some (.lst (yn.map V.int)):=ak
  have U20:=U19.trans s20
  have abh:=s20 _ _ abg
  generalize upd H19 sl (.lst (yn.map V.int))=H20 at *
  refine⟨sl,yn,rfl,SqL.of esl, ?_⟩
  walk_at "vs"
  intro lp hlp
  have s21:=aC (.lst [.int cz, .int yn.sum]) hlp
  have elp:upd H20 lp (.lst [.int cz, .int yn.sum]) lp=some (.lst ([cz,yn.sum].map V.int)):=ak
  have U21:=U20.trans s21
  have Vd:=s21 _ _ abh
  generalize upd H20 lp (.lst [.int cz, .int yn.sum])=H21 at *
  have hSp:=SqL.of (K:=K) elp
  walk_at "vs"
  intro pc H22 s22 hpc plc
  have U22:=U21.trans s22
  have Ve:=s22 _ _ Vd
  have ae3:=same_none U21 hpc
  have fr8:∀y∈[pc],H8 y=none:=fun y hy=>by
   have:y=pc:=by simpa using hy
   rw[this];exact ae3
  have npd:cd∉[pc]:=fun z=>by
   have:cd=pc:=by simpa using z
   rw[<-this,Vd] at hpc;cases hpc
  have ahk:Rd H22 hg (.dK kg):= .inl ((T8.trans U22) _ _ eg)
  have ahl:=U22 _ _ eh8
  have h64:kg.length<64:=by rw[kgk.len];omega
  have hgk:=kgk.k
  walk_at "vs"
  intro lso us2 hlso Py _
  have s23:=aC (.lst (us2.map V.str)) hlso
  have eso:upd H22 lso (.lst (us2.map V.str)) lso=some (.lst (us2.map V.str)):=ak
  have U23:=U22.trans s23
  have abi:=s23 _ _ Ve
  have abj:=plc.same s23
  have nso:lso∉[pc]:=fun z=>plc.ne hlso (by simpa using z)
  have nsd:lso≠cd:=fun z=>by rw[z,Ve] at hlso;cases hlso
  generalize upd H22 lso (.lst (us2.map V.str))=H23 at *
  have ahm:us2.length<=17:=by rw[Py.length_eq];omega
  walk_at "vs"
  refine Bb (xs:=us2.map V.str) (fun j σ H'=>(∃t3,σ=[some (.ref a),some (.ref p),some (.ref h),some (.ref l4),some (.ref t),some (.ref cd),some (.int (0+(i:Int))),some (.ref pc),t3])/\aN H8 H'/\H' lso=some (.lst (us2.map V.str))/\eE H' pc (503+3 * j)/\∃(kch:List (Key×V)) (ch:Kn) (ns:List Str),H' cd=some (.dK kch)/\gH kch ns/\(∀x,cG kch (.inr x)=(ch x).map V.int)/\(∀x,ch x≠none->gv x≠none)) ?_ ?_ ?_ ?_
  ·exact⟨⟨_,rfl⟩,U23,eso,abj,kch,ch,ns,abi,kkc,hch,hsub⟩
  ·intro j σ H' _ hP
   exact SqL.of hP.2.2.1
  ·intro j v σ H24 hv hP
   obtain⟨⟨t3,rfl⟩,U24,Vf,abk,kch,ch,ns,Pz,kkc,hch,hsub⟩:=hP
   obtain⟨x,hxi,rfl⟩:∃x,us2[j]? =some x/\v=V.str x:=by
    rw[List.getElem?_map] at hv
    cases e:us2[j]? with
    | none=>rw[e] at hv;cases hv
    | some x=>rw[e] at hv;exact⟨x,rfl,(Option.some.inj hv).symm⟩
   have hjl:j<us2.length:=(List.getElem?_eq_some_iff.mp hxi).1
   have hxg:x∈gs:=Py.mem_iff.mp (List.mem_of_getElem? hxi)
   obtain⟨g0,hg0⟩:∃g0,gv x=some g0:=by
    cases e:gv x with
    | none=>exact absurd hxg (kgk.none.mp (by rw[bd.g,e];rfl))
    | some u=>exact⟨u,rfl⟩
   have hj5:503+3 * j<=100000:=by omega
   walk_at "vs"
   intro n25 H25 ahn n251 b25 abl
   have U25:=gQ U24 fr8 b25
   have Vg:=b25 _ _ npd Pz
   have Vh:=b25 _ _ nso Vf
   walk_at "vs"
   have aho:=U25 _ _ eh8
   have ahp:cI H25 hg (.str x) (some (.int g0)):=by
    have:cG kg (.inr x)=some (.int g0):=by rw[bd.g,hg0];rfl
    rw[<-this];exact cI.k (k:= .inr x) ((T8.trans U25) _ _ eg)
   refine wM (fun c1=> ?_) (fun c1=> ?_)
   ·walk_at "vs"
    intro n26 H26 n260 n261 b26 Vi
    have U26:=gQ U25 fr8 b26
    have abm:=b26 _ _ npd Vg
    have abn:=b26 _ _ nso Vh
    walk_at "vs"
    intro lst hlst
    have s27:=aC (.lst [.int 1, .int (-1), .int 0, .int (7 - n26)]) hlst
    have els:upd H26 lst (.lst [.int 1, .int (-1), .int 0, .int (7 - n26)]) lst=some (.lst [.int 1, .int (-1), .int 0, .int (7 - n26)]):=ak
    have U27:=U26.trans s27
    have abo:=s27 _ _ abm
    have abp:=s27 _ _ abn
    have age:=Vi.same s27
    have nls:lst∉[pc]:=fun z=>Vi.ne hlst (by simpa using z)
    generalize upd H26 lst (.lst [.int 1, .int (-1), .int 0, .int (7 - n26)])=H27 at *
    walk_at "vs"
    intro n28 H28 ahq n281 b28 abq
    have U28:=gQ U27 fr8 b28
    have abr:=b28 _ _ npd abo
    have abt:=b28 _ _ nso abp
    have agf:=b28 _ _ nls els
    obtain⟨st,hst⟩:∃st:Int,atI [V.int 1,V.int (-1),V.int 0,V.int (7 - n26)] n28=some (.int st):=by
     have:n28=0\/n28=1\/n28=2\/n28=3:=by omega
     rcases this with rfl | rfl | rfl | rfl
     ·exact⟨_,iR (j:=0) rfl⟩
     ·exact⟨_,iR (j:=1) rfl⟩
     ·exact⟨_,iR (j:=2) rfl⟩
     ·exact⟨_,iR (j:=3) rfl⟩
    have hkl:kch.length<=17:=by
     have:kch.length<=n:=by
      rw[kkc.len,<-jH n]
      exact jj kkc.nd fun y hy=>bd.ok.gk y (hsub y fun z=>kkc.none.mp (by rw[hch,z];rfl) hy)
     omega
    have dput:lJ H28 cd (.str x) (.int (g0+st)) (upd H28 cd (.dK (putK kch (.inr x) (.int (g0+st))))):=lJ.k (k:= .inr x) abr (bN (by omega))
    walk_at "vs"
    obtain⟨ns',kkc'⟩:=Pg kkc x (.int (g0+st))
    refine⟨⟨_,rfl⟩,d7 _ ae2 U28,(ao nsd).trans abt, ?_,_,ch.put x (g0+st),ns',ak,kkc',Ay hch x (g0+st),fun y hy=> ?_⟩
    ·have p28:=abq.keep (S:=[cd]) (But.set (p:=cd) (.dK (putK kch (.inr x) (.int (g0+st)))) (by simp)) (fun z=>npd (by simpa using(List.mem_singleton.mp z).symm))
     exact(show 503+3 * j+1+1+1=503+3 *(j+1) by omega)▸p28
    ·unfold Kn.put at hy
     by_cases z:y=x
     ·rw[z,hg0];simp
     ·rw[if_neg z] at hy;exact hsub y hy
   ·walk_at "vs"
    obtain⟨r1,r2,r3,r4,r5,r6⟩:=abl
    exact⟨⟨_,rfl⟩,U25,Vh,⟨r1,r2,r3,r4,r5,by omega⟩,kch,ch,ns,Vg,kkc,hch,hsub⟩
  ·intro σ H24 hP
   obtain⟨⟨t3,rfl⟩,U24,Vf,abk,kch,ch,ns,Pz,kkc,hch,hsub⟩:=hP
   have ahr:=ho8.same U24
   have ahs:=U24 _ _ et
   have agg:=U24 _ _ ekd
   have agh:=U24 _ _ esd
   have aht:=rDs.map fun b q z=>z.same U24
   have agi:=U24 _ _ eol
   have agj:=U24 _ _ X5
   walk_at "vs"
   intro H25 s25
   walk_at "vs"
   exact⟨⟨_,_,_,rfl⟩,U24.trans s25,kch,ch,ns,s25 _ _ Pz,kkc,hch,hsub⟩
 ·intro σ H19 hP
  obtain⟨⟨t1,t2,t3,rfl⟩,_⟩:=hP
  walk_at "vs"
  exact q _
end
theorem jT {K:PySem.W.Frag}{h:Heap}{mg:Str->Option Value} (X:K.In h) (G:h.Ns mainGlobals mg) {x:Str}{st:Stmt}{ps:List Str}{f:Addr}{oc:Value}{od an:Option Addr}{osl:Array (Option Value)}{kV doc pm cdv ct:Value}
 (a:PySem.W.nsIn K mainGlobals x=some (some (.ref f))) (l:K.lookup f=some ⟨oc,od, .func (PySem.W.fnOf x x (bH st) (bA st) (aa st) .none kV doc pm an cdv ct),osl⟩) (c:PySem.W.codeIn K cdv x=true) (k:PySem.W.keepIn K (.ref f)=true)
 (hb:∀us:List Value,us.length=ps.length->bindArgs (PySem.W.fnOf x x (bH st) (bA st) (aa st) .none kV doc pm an cdv ct) ⟨us,[]⟩=pure (ps.zip us)):
 FnT K mg x st ps f (PySem.W.fnOf x x (bH st) (bA st) (aa st) .none kV doc pm an cdv ct):=
 ⟨jk l c k,Binds.all hb,PySem.W.mg_of X G a⟩
theorem len0 {p:List Value->Prop} (h:p []) (us:List Value) (hl:us.length=0):p us:=by
 obtain rfl:=List.eq_nil_of_length_eq_zero hl;exact h
theorem JQ {p:List Value->Prop} (h:∀x0,p [x0]) (us:List Value) (hl:us.length=1):p us:=by
 match us,hl with |[x0],_=>exact h x0
theorem yc {p:List Value->Prop} (h:∀x0 x1,p [x0,x1]) (us:List Value) (hl:us.length=2):p us:=by
 match us,hl with |[x0,x1],_=>exact h x0 x1
theorem Gp {p:List Value->Prop} (h:∀x0 x1 x2,p [x0,x1,x2]) (us:List Value) (hl:us.length=3):p us:=by
 match us,hl with |[x0,x1,x2],_=>exact h x0 x1 x2
theorem abu {p:List Value->Prop} (h:∀x0 x1 x2 x3,p [x0,x1,x2,x3]) (us:List Value) (hl:us.length=4):p us:=by
 match us,hl with |[x0,x1,x2,x3],_=>exact h x0 x1 x2 x3
theorem ahu {p:List Value->Prop} (h:∀x0 x1 x2 x3 x4,p [x0,x1,x2,x3,x4]) (us:List Value) (hl:us.length=5):p us:=by
 match us,hl with |[x0,x1,x2,x3,x4],_=>exact h x0 x1 x2 x3 x4
theorem ahv {p:List Value->Prop} (h:∀x0 x1 x2 x3 x4 x5,p [x0,x1,x2,x3,x4,x5]) (us:List Value) (hl:us.length=6):p us:=by
 match us,hl with |[x0,x1,x2,x3,x4,x5],_=>exact h x0 x1 x2 x3 x4 x5
theorem all_mk {l:PySem.W.OpenLaw}{w:World}{K:PySem.W.Frag}{h:Heap}{mg:Str->Option Value}{fa f1 f2 f3 f4 f5 f6 f7 f8 f9 f10 f11 f12 f13 f14 f15 f16:Addr} (X:K.In h) (G:h.Ns mainGlobals mg) (hfa:mg "law"=some (.ref fa))
 {od1 an1 od2 an2 od3 an3 od4 an4 od5 an5 od6 an6 od7 an7 od8 an8 od9 an9 ae4 ae5 ae6 ae7 ae8 ae9 afa afb afc afd afe afg afh abv:Option Addr}{sl1 sl2 sl3 sl4 sl5 sl6 sl7 sl8 sl9 afi afj afk afl afm afn afo:Array (Option Value)}{oc1 kV1 dc1 pm1 cd1 ct1 oc2 kV2 dc2 pm2 cd2 ct2 oc3 kV3 dc3 pm3 cd3 ct3 oc4 kV4 dc4 pm4 cd4 ct4 oc5 kV5 dc5 pm5 cd5 ct5 oc6 kV6 dc6 pm6 cd6 ct6 oc7 kV7 dc7 pm7 cd7 ct7 oc8 kV8 dc8 pm8 cd8 ct8 oc9 kV9 dc9 pm9 cd9 ct9 afp afq afr afs abw aft afu afv afw afx abx afy afz afA afB afC aby afD afE afF afG afH abz afI afJ afK afL afM abA afN afO afP afQ afR abB afS afT abC abD abE X6 abF:Value}
 (a1:PySem.W.nsIn K mainGlobals "joined"=some (some (.ref f1))) (l1:K.lookup f1=some ⟨oc1,od1, .func (PySem.W.fnOf "joined" "joined" (bH jx) (bA jx) (aa jx) .none kV1 dc1 pm1 an1 cd1 ct1),sl1⟩) (c1:PySem.W.codeIn K cd1 "joined"=true) (k1:PySem.W.keepIn K (.ref f1)=true)
 (a2:PySem.W.nsIn K mainGlobals "is_whole_number"=some (some (.ref f2))) (l2:K.lookup f2=some ⟨oc2,od2, .func (PySem.W.fnOf "is_whole_number" "is_whole_number" (bH bO) (bA bO) (aa bO) .none kV2 dc2 pm2 an2 cd2 ct2),sl2⟩) (c2:PySem.W.codeIn K cd2 "is_whole_number"=true) (k2:PySem.W.keepIn K (.ref f2)=true)
 (a3:PySem.W.nsIn K mainGlobals "is_same"=some (some (.ref f3))) (l3:K.lookup f3=some ⟨oc3,od3, .func (PySem.W.fnOf "is_same" "is_same" (bH dD) (bA dD) (aa dD) .none kV3 dc3 pm3 an3 cd3 ct3),sl3⟩) (c3:PySem.W.codeIn K cd3 "is_same"=true) (k3:PySem.W.keepIn K (.ref f3)=true)
 (a4:PySem.W.nsIn K mainGlobals "searched"=some (some (.ref f4))) (l4:K.lookup f4=some ⟨oc4,od4, .func (PySem.W.fnOf "searched" "searched" (bH dh) (bA dh) (aa dh) .none kV4 dc4 pm4 an4 cd4 ct4),sl4⟩) (c4:PySem.W.codeIn K cd4 "searched"=true) (k4:PySem.W.keepIn K (.ref f4)=true)
 (a5:PySem.W.nsIn K mainGlobals "build_again"=some (some (.ref f5))) (l5:K.lookup f5=some ⟨oc5,od5, .func (PySem.W.fnOf "build_again" "build_again" (bH bY) (bA bY) (aa bY) .none kV5 dc5 pm5 an5 cd5 ct5),sl5⟩) (c5:PySem.W.codeIn K cd5 "build_again"=true) (k5:PySem.W.keepIn K (.ref f5)=true)
 (a6:PySem.W.nsIn K mainGlobals "fresh_build"=some (some (.ref f6))) (l6:K.lookup f6=some ⟨oc6,od6, .func (PySem.W.fnOf "fresh_build" "fresh_build" (bH bZ) (bA bZ) (aa bZ) .none kV6 dc6 pm6 an6 cd6 ct6),sl6⟩) (c6:PySem.W.codeIn K cd6 "fresh_build"=true) (k6:PySem.W.keepIn K (.ref f6)=true)
 (a7:PySem.W.nsIn K mainGlobals "reach_of"=some (some (.ref f7))) (l7:K.lookup f7=some ⟨oc7,od7, .func (PySem.W.fnOf "reach_of" "reach_of" (bH bL) (bA bL) (aa bL) .none kV7 dc7 pm7 an7 cd7 ct7),sl7⟩) (c7:PySem.W.codeIn K cd7 "reach_of"=true) (k7:PySem.W.keepIn K (.ref f7)=true)
 (a8:PySem.W.nsIn K mainGlobals "_law_cell_at"=some (some (.ref f8))) (l8:K.lookup f8=some ⟨oc8,od8, .func (PySem.W.fnOf "_law_cell_at" "_law_cell_at" (bH dG) (bA dG) (aa dG) .none kV8 dc8 pm8 an8 cd8 ct8),sl8⟩) (c8:PySem.W.codeIn K cd8 "_law_cell_at"=true) (k8:PySem.W.keepIn K (.ref f8)=true)
 (a9:PySem.W.nsIn K mainGlobals "_law_pool"=some (some (.ref f9))) (l9:K.lookup f9=some ⟨oc9,od9, .func (PySem.W.fnOf "_law_pool" "_law_pool" (bH gB) (bA gB) (aa gB) .none kV9 dc9 pm9 an9 cd9 ct9),sl9⟩) (c9:PySem.W.codeIn K cd9 "_law_pool"=true) (k9:PySem.W.keepIn K (.ref f9)=true)
 (a10:PySem.W.nsIn K mainGlobals "_law_take"=some (some (.ref f10))) (l10:K.lookup f10=some ⟨afp,ae4, .func (PySem.W.fnOf "_law_take" "_law_take" (bH dm) (bA dm) (aa dm) .none afq afr afs ae5 abw aft),afi⟩) (c10:PySem.W.codeIn K abw "_law_take"=true) (k10:PySem.W.keepIn K (.ref f10)=true)
 (a11:PySem.W.nsIn K mainGlobals "_law_name"=some (some (.ref f11))) (l11:K.lookup f11=some ⟨afu,ae6, .func (PySem.W.fnOf "_law_name" "_law_name" (bH ig) (bA ig) (aa ig) .none afv afw afx ae7 abx afy),afj⟩) (c11:PySem.W.codeIn K abx "_law_name"=true) (k11:PySem.W.keepIn K (.ref f11)=true)
 (a12:PySem.W.nsIn K mainGlobals "_law_leaf"=some (some (.ref f12))) (l12:K.lookup f12=some ⟨afz,ae8, .func (PySem.W.fnOf "_law_leaf" "_law_leaf" (bH fB) (bA fB) (aa fB) .none afA afB afC ae9 aby afD),afk⟩) (c12:PySem.W.codeIn K aby "_law_leaf"=true) (k12:PySem.W.keepIn K (.ref f12)=true)
 (a13:PySem.W.nsIn K mainGlobals "_law_recipe"=some (some (.ref f13))) (l13:K.lookup f13=some ⟨afE,afa, .func (PySem.W.fnOf "_law_recipe" "_law_recipe" (bH aQ) (bA aQ) (aa aQ) .none afF afG afH afb abz afI),afl⟩) (c13:PySem.W.codeIn K abz "_law_recipe"=true) (k13:PySem.W.keepIn K (.ref f13)=true)
 (a14:PySem.W.nsIn K mainGlobals "_law_house"=some (some (.ref f14))) (l14:K.lookup f14=some ⟨afJ,afc, .func (PySem.W.fnOf "_law_house" "_law_house" (bH bf) (bA bf) (aa bf) .none afK afL afM afd abA afN),afm⟩) (c14:PySem.W.codeIn K abA "_law_house"=true) (k14:PySem.W.keepIn K (.ref f14)=true)
 (a15:PySem.W.nsIn K mainGlobals "_law_good"=some (some (.ref f15))) (l15:K.lookup f15=some ⟨afO,afe, .func (PySem.W.fnOf "_law_good" "_law_good" (bH aR) (bA aR) (aa aR) .none afP afQ afR afg abB afS),afn⟩) (c15:PySem.W.codeIn K abB "_law_good"=true) (k15:PySem.W.keepIn K (.ref f15)=true)
 (a16:PySem.W.nsIn K mainGlobals "law"=some (some (.ref f16))) (l16:K.lookup f16=some ⟨afT,afh, .func (PySem.W.fnOf "law" "law" (bH eY) (bA eY) (aa eY) .none abC abD abE abv X6 abF),afo⟩) (c16:PySem.W.codeIn K X6 "law"=true) (k16:PySem.W.keepIn K (.ref f16)=true)
 (kd:Kinds K)
 {CK:Addr} (ACK:PySem.W.nsIn K mainGlobals "Reckoning"=some (some (.ref CK)))
 {Sg:Addr}{abG abH:Option Addr}{abI:Array (Option Value)}{abJ abK abL abM Vj abN:Value}
 (Sh:PySem.W.findIn K (.ref CK) "__init__"=some (some (.ref Sg))) (Sq:PySem.W.isFn K (.ref Sg)=true) (X7:K.lookup Sg=some ⟨abJ,abG, .func (PySem.W.fnOf "__init__" "Reckoning.__init__" (bH bW) (bA bW) (aa bW) .none abK abL abM abH Vj abN),abI⟩) (X8:PySem.W.codeIn K Vj "Reckoning.__init__"=true) (Ss:PySem.W.keepIn K (.ref Sg)=true)
 {Su:Addr}{abO abP:Option Addr}{abQ:Array (Option Value)}{abR abS abT abU Vk abV:Value}
 (Yb:PySem.W.findIn K (.ref CK) "lacking"=some (some (.ref Su))) (Yc:PySem.W.isFn K (.ref Su)=true) (Yd:K.lookup Su=some ⟨abR,abO, .func (PySem.W.fnOf "lacking" "Reckoning.lacking" (bH bI) (bA bI) (aa bI) .none abS abT abU abP Vk abV),abQ⟩) (Ye:PySem.W.codeIn K Vk "Reckoning.lacking"=true) (Sv:PySem.W.keepIn K (.ref Su)=true)
 {Sw:Addr}{abW abX:Option Addr}{abY:Array (Option Value)}{abZ ab0 ab1 ab2 Vl ab3:Value}
 (Yg:PySem.W.findIn K (.ref CK) "go_on"=some (some (.ref Sw))) (Yh:PySem.W.isFn K (.ref Sw)=true) (Yi:K.lookup Sw=some ⟨abZ,abW, .func (PySem.W.fnOf "go_on" "Reckoning.go_on" (bH aH) (bA aH) (aa aH) .none ab0 ab1 ab2 abX Vl ab3),abY⟩) (Yj:PySem.W.codeIn K Vl "Reckoning.go_on"=true) (Sx:PySem.W.keepIn K (.ref Sw)=true)
 (Yk:PySem.W.plainGet K CK Str.empty=true) (Yl:PySem.W.hasDictIn K CK=true) (Ym:PySem.W.plainOver K CK=true) (Yn:PySem.W.findIn K (.ref CK) "__setattr__"=some (some (.builtin "object.__setattr__"))) (Yo:PySem.W.makesIn K CK=true) (Yp:PySem.W.keepIn K (.ref CK)=true)
 (Dk:PySem.W.findIn K (.ref CK) "todo"=some none)
 (zM:PySem.W.findIn K (.ref CK) "found"=some none)
 (zN:PySem.W.findIn K (.ref CK) "reads"=some none)
 {CN:Addr} (ACN:PySem.W.nsIn K mainGlobals "NamedRecords"=some (some (.ref CN)))
 {Sy:Addr}{ab4 ab5:Option Addr}{ab6:Array (Option Value)}{ab7 ab8 ab9 acd Vm ace:Value}
 (SM:PySem.W.findIn K (.ref CN) "__init__"=some (some (.ref Sy))) (SN:PySem.W.isFn K (.ref Sy)=true) (Yq:K.lookup Sy=some ⟨ab7,ab4, .func (PySem.W.fnOf "__init__" "NamedRecords.__init__" (bH bh) (bA bh) (aa bh) .none ab8 ab9 acd ab5 Vm ace),ab6⟩) (Yr:PySem.W.codeIn K Vm "NamedRecords.__init__"=true) (SQ:PySem.W.keepIn K (.ref Sy)=true)
 {SX:Addr}{acf acg:Option Addr}{ach:Array (Option Value)}{aci acj ack acn Vn aco:Value}
 (Ys:PySem.W.findIn K (.ref CN) "records_for"=some (some (.ref SX))) (Yt:PySem.W.isFn K (.ref SX)=true) (Yu:K.lookup SX=some ⟨aci,acf, .func (PySem.W.fnOf "records_for" "NamedRecords.records_for" (bH aK) (bA aK) (aa aK) .none acj ack acn acg Vn aco),ach⟩) (Yv:PySem.W.codeIn K Vn "NamedRecords.records_for"=true) (Tc:PySem.W.keepIn K (.ref SX)=true)
 {Td:Addr}{acp acq:Option Addr}{acr:Array (Option Value)}{acs acu acv acw Vo acy:Value}
 (Yw:PySem.W.findIn K (.ref CN) "put_made"=some (some (.ref Td))) (Yx:PySem.W.isFn K (.ref Td)=true) (Yy:K.lookup Td=some ⟨acs,acp, .func (PySem.W.fnOf "put_made" "NamedRecords.put_made" (bH cB) (bA cB) (aa cB) .none acu acv acw acq Vo acy),acr⟩) (Yz:PySem.W.codeIn K Vo "NamedRecords.put_made"=true) (Te:PySem.W.keepIn K (.ref Td)=true)
 (YB:PySem.W.plainGet K CN Str.empty=true) (YC:PySem.W.hasDictIn K CN=true) (YD:PySem.W.plainOver K CN=true) (YF:PySem.W.findIn K (.ref CN) "__setattr__"=some (some (.builtin "object.__setattr__"))) (YG:PySem.W.makesIn K CN=true) (YH:PySem.W.keepIn K (.ref CN)=true)
 (vo:PySem.W.findIn K (.ref CN) "by_name"=some none)
 {CS:Addr} (ACS:PySem.W.nsIn K mainGlobals "Settling"=some (some (.ref CS)))
 {Tf:Addr}{acz acA:Option Addr}{acB:Array (Option Value)}{acC acD acE acF Vp acG:Value}
 (Tg:PySem.W.findIn K (.ref CS) "__init__"=some (some (.ref Tf))) (Ti:PySem.W.isFn K (.ref Tf)=true) (YJ:K.lookup Tf=some ⟨acC,acz, .func (PySem.W.fnOf "__init__" "Settling.__init__" (bH bJ) (bA bJ) (aa bJ) .none acD acE acF acA Vp acG),acB⟩) (YK:PySem.W.codeIn K Vp "Settling.__init__"=true) (Tj:PySem.W.keepIn K (.ref Tf)=true)
 {Tn:Addr}{acH acI:Option Addr}{acJ:Array (Option Value)}{acK acL acM acN Vq acO:Value}
 (YL:PySem.W.findIn K (.ref CS) "lacking"=some (some (.ref Tn))) (YM:PySem.W.isFn K (.ref Tn)=true) (YQ:K.lookup Tn=some ⟨acK,acH, .func (PySem.W.fnOf "lacking" "Settling.lacking" (bH aW) (bA aW) (aa aW) .none acL acM acN acI Vq acO),acJ⟩) (YS:PySem.W.codeIn K Vq "Settling.lacking"=true) (Tp:PySem.W.keepIn K (.ref Tn)=true)
 {Tq:Addr}{acP acQ:Option Addr}{acR:Array (Option Value)}{acS acT acU acV Vr acW:Value}
 (YT:PySem.W.findIn K (.ref CS) "fit_on"=some (some (.ref Tq))) (YW:PySem.W.isFn K (.ref Tq)=true) (YX:K.lookup Tq=some ⟨acS,acP, .func (PySem.W.fnOf "fit_on" "Settling.fit_on" (bH cQ) (bA cQ) (aa cQ) .none acT acU acV acQ Vr acW),acR⟩) (YZ:PySem.W.codeIn K Vr "Settling.fit_on"=true) (Tr:PySem.W.keepIn K (.ref Tq)=true)
 {Tt:Addr}{acX acY:Option Addr}{acZ:Array (Option Value)}{ac0 ac1 ac2 ac3 Vs ac4:Value}
 (Y0:PySem.W.findIn K (.ref CS) "was_reckoned"=some (some (.ref Tt))) (Y4:PySem.W.isFn K (.ref Tt)=true) (Y5:K.lookup Tt=some ⟨ac0,acX, .func (PySem.W.fnOf "was_reckoned" "Settling.was_reckoned" (bH bu) (bA bu) (aa bu) .none ac1 ac2 ac3 acY Vs ac4),acZ⟩) (Y6:PySem.W.codeIn K Vs "Settling.was_reckoned"=true) (Tu:PySem.W.keepIn K (.ref Tt)=true)
 {Tv:Addr}{ac5 ac6:Option Addr}{ac7:Array (Option Value)}{ac8 ac9 ada adb Vt ade:Value}
 (Y7:PySem.W.findIn K (.ref CS) "new_record"=some (some (.ref Tv))) (Y8:PySem.W.isFn K (.ref Tv)=true) (Y9:K.lookup Tv=some ⟨ac8,ac5, .func (PySem.W.fnOf "new_record" "Settling.new_record" (bH bT) (bA bT) (aa bT) .none ac9 ada adb ac6 Vt ade),ac7⟩) (Za:PySem.W.codeIn K Vt "Settling.new_record"=true) (Tw:PySem.W.keepIn K (.ref Tv)=true)
 (Zb:PySem.W.plainGet K CS Str.empty=true) (Zc:PySem.W.hasDictIn K CS=true) (Zd:PySem.W.plainOver K CS=true) (Ze:PySem.W.findIn K (.ref CS) "__setattr__"=some (some (.builtin "object.__setattr__"))) (Zf:PySem.W.makesIn K CS=true) (Zg:PySem.W.keepIn K (.ref CS)=true)
 (yd:PySem.W.findIn K (.ref CS) "recipe"=some none)
 (vq:PySem.W.findIn K (.ref CS) "fitting"=some none)
 (zO:PySem.W.findIn K (.ref CS) "place"=some none)
 (qe:PySem.W.findIn K (.ref CS) "reckoning"=some none)
 {CE:Addr} (ACE:PySem.W.nsIn K mainGlobals "Search"=some (some (.ref CE)))
 {Tz:Addr}{adf adg:Option Addr}{adh:Array (Option Value)}{adi adk adl adm Vu adn:Value}
 (TF:PySem.W.findIn K (.ref CE) "__init__"=some (some (.ref Tz))) (TJ:PySem.W.isFn K (.ref Tz)=true) (Zh:K.lookup Tz=some ⟨adi,adf, .func (PySem.W.fnOf "__init__" "Search.__init__" (bH cD) (bA cD) (aa cD) .none adk adl adm adg Vu adn),adh⟩) (Zi:PySem.W.codeIn K Vu "Search.__init__"=true) (TQ:PySem.W.keepIn K (.ref Tz)=true)
 {TV:Addr}{ado adp:Option Addr}{adq:Array (Option Value)}{adt adu adv adw Vv adx:Value}
 (Zj:PySem.W.findIn K (.ref CE) "begin"=some (some (.ref TV))) (Zk:PySem.W.isFn K (.ref TV)=true) (Zm:K.lookup TV=some ⟨adt,ado, .func (PySem.W.fnOf "begin" "Search.begin" (bH cJ) (bA cJ) (aa cJ) .none adu adv adw adp Vv adx),adq⟩) (Zn:PySem.W.codeIn K Vv "Search.begin"=true) (TX:PySem.W.keepIn K (.ref TV)=true)
 {TY:Addr}{ady adz:Option Addr}{adA:Array (Option Value)}{adB adC adD adE Vw adF:Value}
 (Zo:PySem.W.findIn K (.ref CE) "end"=some (some (.ref TY))) (Zq:PySem.W.isFn K (.ref TY)=true) (Zr:K.lookup TY=some ⟨adB,ady, .func (PySem.W.fnOf "end" "Search.end" (bH dH) (bA dH) (aa dH) .none adC adD adE adz Vw adF),adA⟩) (Zt:PySem.W.codeIn K Vw "Search.end"=true) (T4:PySem.W.keepIn K (.ref TY)=true)
 {Ua:Addr}{adG adH:Option Addr}{adI:Array (Option Value)}{adJ adK adL adM Vx adN:Value}
 (Zu:PySem.W.findIn K (.ref CE) "made"=some (some (.ref Ua))) (Zv:PySem.W.isFn K (.ref Ua)=true) (Zw:K.lookup Ua=some ⟨adJ,adG, .func (PySem.W.fnOf "made" "Search.made" (bH fD) (bA fD) (aa fD) .none adK adL adM adH Vx adN),adI⟩) (Zx:PySem.W.codeIn K Vx "Search.made"=true) (Ub:PySem.W.keepIn K (.ref Ua)=true)
 {Uc:Addr}{adO adP:Option Addr}{adQ:Array (Option Value)}{adR adS adT adU Vy adV:Value}
 (Zy:PySem.W.findIn K (.ref CE) "kept"=some (some (.ref Uc))) (Zz:PySem.W.isFn K (.ref Uc)=true) (ZC:K.lookup Uc=some ⟨adR,adO, .func (PySem.W.fnOf "kept" "Search.kept" (bH fG) (bA fG) (aa fG) .none adS adT adU adP Vy adV),adQ⟩) (ZD:PySem.W.codeIn K Vy "Search.kept"=true) (Ud:PySem.W.keepIn K (.ref Uc)=true)
 {Ue:Addr}{adW adX:Option Addr}{adY:Array (Option Value)}{adZ ad0 ad1 ad2 Vz ad3:Value}
 (ZF:PySem.W.findIn K (.ref CE) "settle"=some (some (.ref Ue))) (ZG:PySem.W.isFn K (.ref Ue)=true) (ZJ:K.lookup Ue=some ⟨adZ,adW, .func (PySem.W.fnOf "settle" "Search.settle" (bH aZ) (bA aZ) (aa aZ) .none ad0 ad1 ad2 adX Vz ad3),adY⟩) (ZK:PySem.W.codeIn K Vz "Search.settle"=true) (Ug:PySem.W.keepIn K (.ref Ue)=true)
 (ZL:PySem.W.plainGet K CE Str.empty=true) (ZM:PySem.W.hasDictIn K CE=true) (ZP:PySem.W.plainOver K CE=true) (ZQ:PySem.W.findIn K (.ref CE) "__setattr__"=some (some (.builtin "object.__setattr__"))) (ZR:PySem.W.makesIn K CE=true) (ZS:PySem.W.keepIn K (.ref CE)=true)
 (zP:PySem.W.findIn K (.ref CE) "given"=some none)
 (vz:PySem.W.findIn K (.ref CE) "recipes"=some none)
 (Gq:PySem.W.findIn K (.ref CE) "old"=some none)
 (zQ:PySem.W.findIn K (.ref CE) "known"=some none)
 (vA:PySem.W.findIn K (.ref CE) "settled"=some none)
 (tE:PySem.W.findIn K (.ref CE) "reckoned"=some none)
 (PB:PySem.W.nsIn K mainGlobals "len"=some none)
 (Gr:PySem.W.nsIn K mainGlobals "range"=some none)
 (PJ:PySem.W.nsIn K mainGlobals "str"=some none)
 (PK:PySem.W.nsIn K mainGlobals "int"=some none)
 (JR:PySem.W.nsIn K mainGlobals "list"=some none)
 (Gs:PySem.W.nsIn K mainGlobals "tuple"=some none)
 (tG:PySem.W.nsIn K mainGlobals "isinstance"=some none)
 (JS:PySem.W.nsIn K mainGlobals "bool"=some none)
 (JT:PySem.W.nsIn K mainGlobals "dict"=some none)
 (PL:PySem.W.nsIn K mainGlobals "sum"=some none)
 (PN:PySem.W.nsIn K mainGlobals "all"=some none)
 (PX:PySem.W.nsIn K mainGlobals "any"=some none)
 (P0:PySem.W.nsIn K mainGlobals "max"=some none)
 (Qa:PySem.W.nsIn K mainGlobals "min"=some none)
 (Dl:PySem.W.nsIn K mainGlobals "sorted"=some none)
 (Qc:PySem.W.nsIn K mainGlobals "set"=some none)
 (vB:PySem.W.nsIn K mainGlobals "enumerate"=some none)
 (Qd:PySem.W.nsIn K mainGlobals "zip"=some none)
 (ye:PySem.W.nsIn K mainGlobals "reversed"=some none)
 (Qe:PySem.W.nsIn K mainGlobals "abs"=some none)
 :∃fd:FuncData,(∀(s:Shared) (v:Value),BindsTo s fd ⟨[v],[]⟩ [("script",v)])/\∀base:Heap,K.In base->base.Ns mainGlobals mg->bx l.prog w K mg base CX0 20 fa fd ["script"] (Kh K):=by
 have e:=hfa.symm.trans (PySem.W.mg_of X G a16)
 cases e
 have mG:FnT K mg "joined" jx ["kind","r","s"] _ _:=jT X G a1 l1 c1 k1 (Gp (fun _ _ _=>rfl))
 have aV:FnT K mg "is_whole_number" bO ["thing"] _ _:=jT X G a2 l2 c2 k2 (JQ (fun _=>rfl))
 have fc:FnT K mg "is_same" dD ["told","thing"] _ _:=jT X G a3 l3 c3 k3 (yc (fun _ _=>rfl))
 have fj:FnT K mg "searched" dh ["house","old","wishes"] _ _:=jT X G a4 l4 c4 k4 (Gp (fun _ _ _=>rfl))
 have cM:FnT K mg "build_again" bY ["house","records","wishes"] _ _:=jT X G a5 l5 c5 k5 (Gp (fun _ _ _=>rfl))
 have cN:FnT K mg "fresh_build" bZ ["house","wishes"] _ _:=jT X G a6 l6 c6 k6 (yc (fun _ _=>rfl))
 have dz:FnT K mg "reach_of" bL ["house","records","wishes","changes"] _ _:=jT X G a7 l7 c7 k7 (abu (fun _ _ _ _=>rfl))
 have bV:FnT K mg "_law_cell_at" dG ["script","k"] _ _:=jT X G a8 l8 c8 k8 (yc (fun _ _=>rfl))
 have di:FnT K mg "_law_pool" gB ["script","k"] _ _:=jT X G a9 l9 c9 k9 (yc (fun _ _=>rfl))
 have aB:FnT K mg "_law_take" dm ["pool","many"] _ _:=jT X G a10 l10 c10 k10 (yc (fun _ _=>rfl))
 have dY:FnT K mg "_law_name" ig ["k"] _ _:=jT X G a11 l11 c11 k11 (JQ (fun _=>rfl))
 have dZ:FnT K mg "_law_leaf" fB ["pool","names"] _ _:=jT X G a12 l12 c12 k12 (yc (fun _ _=>rfl))
 have aX:FnT K mg "_law_recipe" aQ ["pool","names","deep"] _ _:=jT X G a13 l13 c13 k13 (Gp (fun _ _ _=>rfl))
 have iQ:FnT K mg "_law_house" bf ["script","start","many"] _ _:=jT X G a14 l14 c14 k14 (Gp (fun _ _ _=>rfl))
 have jF:FnT K mg "_law_good" aR ["house","first","names","changes"] _ _:=jT X G a15 l15 c15 k15 (abu (fun _ _ _ _=>rfl))
 have Pq:FnT K mg "law" eY ["script"] _ _:=jT X G a16 l16 c16 k16 (JQ (fun _=>rfl))
 have dN:fH K CK "__init__" "Reckoning.__init__" bW ["self","r"] _ _:=⟨jk X7 X8 Ss,Binds.all (yc (fun _ _=>rfl)),⟨Sh,Sq,Ss⟩⟩
 have cZ:fH K CK "lacking" "Reckoning.lacking" bI ["self","known"] _ _:=⟨jk Yd Ye Sv,Binds.all (yc (fun _ _=>rfl)),⟨Yb,Yc,Sv⟩⟩
 have dR:fH K CK "go_on" "Reckoning.go_on" aH ["self","step"] _ _:=⟨jk Yi Yj Sx,Binds.all (yc (fun _ _=>rfl)),⟨Yg,Yh,Sx⟩⟩
 have afU:Cls K CK:=⟨Yk,Yl,Ym,Yn⟩
 have uV:Mk K CK _:=⟨Yo,Sh,Sq,Yp⟩
 have uW:=PySem.W.mg_of X G ACK
 have bC:fH K CN "__init__" "NamedRecords.__init__" bh ["self","records"] _ _:=⟨jk Yq Yr SQ,Binds.all (yc (fun _ _=>rfl)),⟨SM,SN,SQ⟩⟩
 have bQ:fH K CN "records_for" "NamedRecords.records_for" aK ["self","name","r"] _ _:=⟨jk Yu Yv Tc,Binds.all (Gp (fun _ _ _=>rfl)),⟨Ys,Yt,Tc⟩⟩
 have cC:fH K CN "put_made" "NamedRecords.put_made" cB ["self","record"] _ _:=⟨jk Yy Yz Te,Binds.all (yc (fun _ _=>rfl)),⟨Yw,Yx,Te⟩⟩
 have afV:Cls K CN:=⟨YB,YC,YD,YF⟩
 have iD:Mk K CN _:=⟨YG,SM,SN,YH⟩
 have iG:=PySem.W.mg_of X G ACN
 have d8:fH K CS "__init__" "Settling.__init__" bJ ["self","r","records"] _ _:=⟨jk YJ YK Tj,Binds.all (Gp (fun _ _ _=>rfl)),⟨Tg,Ti,Tj⟩⟩
 have dJ:fH K CS "lacking" "Settling.lacking" aW ["self","known"] _ _:=⟨jk YQ YS Tp,Binds.all (yc (fun _ _=>rfl)),⟨YL,YM,Tp⟩⟩
 have dX:fH K CS "fit_on" "Settling.fit_on" cQ ["self","worth"] _ _:=⟨jk YX YZ Tr,Binds.all (yc (fun _ _=>rfl)),⟨YT,YW,Tr⟩⟩
 have aP:fH K CS "was_reckoned" "Settling.was_reckoned" bu ["self"] _ _:=⟨jk Y5 Y6 Tu,Binds.all (JQ (fun _=>rfl)),⟨Y0,Y4,Tu⟩⟩
 have cO:fH K CS "new_record" "Settling.new_record" bT ["self"] _ _:=⟨jk Y9 Za Tw,Binds.all (JQ (fun _=>rfl)),⟨Y7,Y8,Tw⟩⟩
 have afW:Cls K CS:=⟨Zb,Zc,Zd,Ze⟩
 have xu:Mk K CS _:=⟨Zf,Tg,Ti,Zg⟩
 have xx:=PySem.W.mg_of X G ACS
 have fO:fH K CE "__init__" "Search.__init__" cD ["self","house","old"] _ _:=⟨jk Zh Zi TQ,Binds.all (Gp (fun _ _ _=>rfl)),⟨TF,TJ,TQ⟩⟩
 have gA:fH K CE "begin" "Search.begin" cJ ["self","name"] _ _:=⟨jk Zm Zn TX,Binds.all (yc (fun _ _=>rfl)),⟨Zj,Zk,TX⟩⟩
 have iW:fH K CE "end" "Search.end" dH ["self","name","settling"] _ _:=⟨jk Zr Zt T4,Binds.all (Gp (fun _ _ _=>rfl)),⟨Zo,Zq,T4⟩⟩
 have gZ:fH K CE "made" "Search.made" fD ["self"] _ _:=⟨jk Zw Zx Ub,Binds.all (JQ (fun _=>rfl)),⟨Zu,Zv,Ub⟩⟩
 have ie:fH K CE "kept" "Search.kept" fG ["self"] _ _:=⟨jk ZC ZD Ud,Binds.all (JQ (fun _=>rfl)),⟨Zy,Zz,Ud⟩⟩
 have fW:fH K CE "settle" "Search.settle" aZ ["self","name"] _ _:=⟨jk ZJ ZK Ug,Binds.all (yc (fun _ _=>rfl)),⟨ZF,ZG,Ug⟩⟩
 have afX:Cls K CE:=⟨ZL,ZM,ZP,ZQ⟩
 have CZ:Mk K CE _:=⟨ZR,TF,TJ,ZS⟩
 have Dc:=PySem.W.mg_of X G ACE
 have T:Blt mg:=⟨PySem.W.mg_none_of X G PB,PySem.W.mg_none_of X G Gr,PySem.W.mg_none_of X G PJ,PySem.W.mg_none_of X G PK,PySem.W.mg_none_of X G JR,PySem.W.mg_none_of X G Gs,PySem.W.mg_none_of X G tG,PySem.W.mg_none_of X G JS,PySem.W.mg_none_of X G JT,PySem.W.mg_none_of X G PL,PySem.W.mg_none_of X G PN,PySem.W.mg_none_of X G PX,PySem.W.mg_none_of X G P0,PySem.W.mg_none_of X G Qa,PySem.W.mg_none_of X G Dl,PySem.W.mg_none_of X G Qc,PySem.W.mg_none_of X G vB,PySem.W.mg_none_of X G Qd,PySem.W.mg_none_of X G ye,PySem.W.mg_none_of X G Qe⟩
 refine⟨PySem.W.fnOf "law" "law" (bH eY) (bA eY) (aa eY) .none abC abD abE abv X6 abF,fun s v=> .of_eq rfl,fun base _ _=> ?_⟩
 have rkc:RkC K CK:=⟨afU,Dk,zM,zN⟩
 have nrc:NrC K CN:=⟨afV,vo⟩
 have sec:SeC K CS:=⟨afW,yd,vq,zO,qe⟩
 have src:SrC K CE:=⟨afX,zP,vz,Gq,zQ,vA,tE⟩
 have D1:=Mh (P:=l.prog) (w:=w) (base:=base) mG T
 have D2:=tX (P:=l.prog) (w:=w) (base:=base) (mg:=mg) dN rkc
 have D3:=wY (P:=l.prog) (w:=w) (base:=base) dR mG D1 T rkc
 have D4:=uK (P:=l.prog) (w:=w) (base:=base) cZ dR D3 T rkc
 have D5:=w6 (P:=l.prog) (w:=w) (base:=base) aV T kd
 have D6:=CJ (P:=l.prog) (w:=w) (base:=base) fc aV D5 T kd 10
 have D7:=pO (P:=l.prog) (w:=w) (base:=base) (mg:=mg) bC nrc
 have D8:=pQ (P:=l.prog) (w:=w) (base:=base) (mg:=mg) cC
 have D9:=nj (P:=l.prog) (w:=w) (base:=base) bQ fc D6 T nrc
 have C1:=uT (P:=l.prog) (w:=w) (base:=base) d8 dN D2 uV uW sec
 have C2:=pU (P:=l.prog) (w:=w) (base:=base) aP T sec
 have C3:=xm (P:=l.prog) (w:=w) (base:=base) (mg:=mg) dX sec
 have C4:=vU (P:=l.prog) (w:=w) (base:=base) dJ dX C3 cZ D4 T sec rkc
 have C5:=sI (P:=l.prog) (w:=w) (base:=base) cO aP C2 T sec rkc
 have C6:=xr (P:=l.prog) (w:=w) (base:=base) (mg:=mg) fO src
 have C7:=Ai (P:=l.prog) (w:=w) (base:=base) gA bQ D9 d8 C1 xu xx T src nrc
 have C8:=Dy (P:=l.prog) (w:=w) (base:=base) iW cO C5 aP C2 cC D8 T src sec nrc
 have C9:=zx (P:=l.prog) (w:=w) (base:=base) fW gA C7 dJ C4 iW C8 T src sec
 have CA:=CT (P:=l.prog) (w:=w) (base:=base) gZ T src
 have CB:=CW (P:=l.prog) (w:=w) (base:=base) ie T src
 have CC:=HQ (P:=l.prog) (w:=w) (base:=base) fj fO C6 fW C9 CZ Dc T src
 have DA:=Dd (P:=l.prog) (w:=w) (base:=base) cM fj CC bC D7 iD iG gZ CA ie CB T src
 have DF:=De (P:=l.prog) (w:=w) (base:=base) cN fj CC bC D7 iD iG T src
 have F1:=Dg (P:=l.prog) (w:=w) (base:=base) bV T
 have F2:=HS (P:=l.prog) (w:=w) (base:=base) di bV F1 T
 have F3:=HW (P:=l.prog) (w:=w) (base:=base) aB T
 have F4:=HX (P:=l.prog) (w:=w) (base:=base) dY T
 have F5:=Ia (P:=l.prog) (w:=w) (base:=base) dZ aB F3 T
 have F6:=Dh (P:=l.prog) (w:=w) (base:=base) aX aB F3 dZ F5 T
 have F7:=Gh (P:=l.prog) (w:=w) (base:=base) iQ aB F3 di F2 dY F4 aX F6 T
 have E5:=Ib (P:=l.prog) (w:=w) (base:=base) dz cM DA T
 have E8:=Ie (P:=l.prog) (w:=w) (base:=base) jF cN DF cM DA dz E5 T
 exact X4 Pq di F2 aB F3 iQ F7 cN DF dz E5 jF E8 bV F1 T
theorem walk {l:PySem.W.OpenLaw}{q:Program}{loose:List Str}{XP:(Str->Option Value)->Heap->Prop}{YP:World->Heap->Prop}{d:DefRec}{K:Params->PySem.W.Frag} (hn:l.most=some 63) (hdf:d.params.defaults=[])
 (hY:∀(w:World) (h:Heap),YP w h->(K w.params).In h)
 (F:∀(w:World) (mg:Str->Option Value) (fa:Addr) (h:Heap),(K w.params).In h->h.Ns mainGlobals mg->mg d.name=some (.ref fa)->
   ∃fd:FuncData,(∀(s:Shared) (u:Value),BindsTo s fd ⟨[u],[]⟩ [("script",u)])/\∀base:Heap,(K w.params).In base->base.Ns mainGlobals mg->bx l.prog w (K w.params) mg base CX0 20 fa fd ["script"] (Kh (K w.params))):
 PySem.W.WalkO q loose XP YP l.row.toRowW d [] (fun f vs=>PySem.call f vs):=
 L2.Kc (n:=63) (k:=20) (x:="script") (CX:=fun _=>CX0) (sp:=fun w=>Kh (K w.params)) hn (by decide) hdf ⟨rfl,by decide,by decide⟩ hY F (fun _ _ a ns hl _ hS=>⟨a,ns,rfl,hS,hl,fun _=>rfl⟩) fun _ _ _ _ _ z=>z
end K41
open PySem PySem.W PyProof.Rows
namespace PySem.W.Fast
def tw18125143604048106153:Nat:=0
def tw14287097302624572555:Nat:=0
def tw10974767455602188369:Nat:=0
def tw10581921664316515705:Nat:=0
def tw6202949680646448454:Nat:=0
def tw11650823562552223359:Nat:=0
def tw8054914309013836180:Nat:=0
def tw7108694984876439430:Nat:=0
def tw3908696082776889445:Nat:=0
def tw12222232127751818705:Nat:=0
def tw4607712523626169513:Nat:=0
def tw13329713964005909922:Nat:=0
def tw6163806362407965540:Nat:=0
def tw5325612860297428000:Nat:=0
def tw4089538189206409900:Nat:=0
def tw5478625749572809353:Nat:=0
def tw8937077642443172810:Nat:=0
def tw14976128697849791726:Nat:=0
def tw11973260801482850886:Nat:=0
def tw16678800654039202740:Nat:=0
def tw1791755809881248703:Nat:=0
def tw4598533908608225951:Nat:=0
def tw6617639102605040921:Nat:=0
def tw2927729593912351971:Nat:=0
def tw6922034699276802910:Nat:=0
def tw4444523291927342859:Nat:=0
def tw15640303785320670562:Nat:=0
def tw3382372422252985239:Nat:=0
def tw1324298436922027546:Nat:=0
def tw18336697433483664005:Nat:=0
def tw3830300087879335584:Nat:=0
def tw7479585508680085718:Nat:=0
def tw8437317494565118257:Nat:=0
def tw2016165186232391592:Nat:=0
def tw2921408267320295490:Nat:=0
def tw12494941374975052157:Nat:=0
def tw366335554065174376:Nat:=0
def tw5592492625418931023:Nat:=0
def tw13204607186998052167:Nat:=0
def tw2829882597124602942:Nat:=0
def tw2525730261079610445:Nat:=0
def tw767072223453588643:Nat:=0
def tw15960059987154897589:Nat:=0
def tw9557682528058636542:Nat:=0
def tw1952616056597981403:Nat:=0
def tw8498958939651070082:Nat:=0
def tw17675069878601347810:Nat:=0
def tw9234359605418413585:Nat:=0
def tw7987008199289686280:Nat:=0
def tw5974092258489304171:Nat:=0
def tw17779158901806459028:Nat:=0
def tw15447796885765775546:Nat:=0
def tw2311919934225407065:Nat:=0
def tw10287568347264864561:Nat:=0
def tw12364488185631132310:Nat:=0
def tw6821119487670857563:Nat:=0
def tw15811359853004918136:Nat:=0
def tw1120199123520127241:Nat:=0
def tw14791881728782657157:Nat:=0
def tw12115787144215894495:Nat:=0
def tw17689026342062225825:Nat:=0
def tw7675529975622467092:Nat:=0
def tw12924693010051831875:Nat:=0
def tw6508396852216496425:Nat:=0
def tw16011238004079734603:Nat:=0
def tw13229683403301455990:Nat:=0
def tw7156187316458025063:Nat:=0
def tw2129412100486985463:Nat:=0
def tw10694328416754686690:Nat:=0
def tw1484851080775710807:Nat:=0
def tw4750818479917124129:Nat:=0
def tw3481254004432119175:Nat:=0
def tw16954861384349049570:Nat:=0
def tw6020038145910810401:Nat:=0
def tw5192519425219652737:Nat:=0
def tw14225652926021949071:Nat:=0
def tw9340649280061088839:Nat:=0
def tw6976388727654681280:Nat:=0
def tw12366202806027095445:Nat:=0
def tw1535530926942086632:Nat:=0
def tw10931192594770448216:Nat:=0
def tw18391329613141953680:Nat:=0
def tw4892984224122971297:Nat:=0
def tw440297181381962786:Nat:=0
def tw17356325581174674923:Nat:=0
def tw16519747635471108527:Nat:=0
def tw6981967718090447143:Nat:=0
def tw5781468535022338400:Nat:=0
def tw12160269393206022503:Nat:=0
def tw16119880317913435735:Nat:=0
def tw12299281144913574134:Nat:=0
def tw15454238719496778883:Nat:=0
def tw15371228993449874429:Nat:=0
def tw17228360093255274831:Nat:=0
def tw6056740071319602157:Nat:=0
def tw7988768513512258466:Nat:=0
def tw922802350769207394:Nat:=0
def tw7889902440331419477:Nat:=0
def tw12212069499071896662:Nat:=0
def tw16176853075626787586:Nat:=0
def tw9968136304121934236:Nat:=0
def tw10646684507799620669:Nat:=0
def tw11704611791485867931:Nat:=0
def tw17230958072503557763:Nat:=0
def tw7617998642371670681:Nat:=0
def tw443874217507038219:Nat:=0
def tw10877864721138194851:Nat:=0
def tw3250360925331891915:Nat:=0
def tw15237923826008748714:Nat:=0
def tw8914974572438143897:Nat:=0
def tw1024347617014767598:Nat:=0
def tw1619668688393504207:Nat:=0
def tw14160991770192232668:Nat:=0
def tw9563424420077334430:Nat:=0
def tw5247756947531134530:Nat:=0
def tw4626036341440721548:Nat:=0
def tw7987392498235359573:Nat:=0
def tw7136232689350011524:Nat:=0
def tw6279549406121868879:Nat:=0
def tw17578481624813090876:Nat:=0
def tw8288717032893638915:Nat:=0
def tw11160224808263188496:Nat:=0
def tw6017897353605997915:Nat:=0
def tw2514704317903696398:Nat:=0
def tw4448187133760703671:Nat:=0
def tw15806343622356504329:Nat:=0
def tw2108043161779282200:Nat:=0
def tw5352198995456663479:Nat:=0
def tw9482081116879424126:Nat:=0
def tw13962880776889859816:Nat:=0
def tw12391487743542564150:Nat:=0
def tw11805422526310236582:Nat:=0
def tw10889190391040393037:Nat:=0
def tw7802068733561395128:Nat:=0
def tw11066110326604878877:Nat:=0
def tw10889966999389424329:Nat:=0
def tw4891273053969340072:Nat:=0
def tw10429539011499200768:Nat:=0
def tw11778865864718167470:Nat:=0
def tw5449234875640350533:Nat:=0
def tw7286407541537341856:Nat:=0
def tw10315074090178010335:Nat:=0
def tw11553562604969579469:Nat:=0
def tw11004467204537133151:Nat:=0
def tw7152594718136630733:Nat:=0
def tw6008594415211656098:Nat:=0
def tw2461730849152917462:Nat:=0
def tw12953534857792242652:Nat:=0
def tw11019545070205436046:Nat:=0
def tw6809243077685919918:Nat:=0
def tw2249517948289168555:Nat:=0
def tw431969020590538600:Nat:=0
def tw17059244657579705169:Nat:=0
def tw14007751008862944745:Nat:=0
def tw11398996276181999692:Nat:=0
def tw9314090111303444264:Nat:=0
def tw15568165948154451516:Nat:=0
def tw29115586639515045:Nat:=0
def tw10837223236659886764:Nat:=0
def tw12580872243592038967:Nat:=0
def tw16586411395381820712:Nat:=0
def tw9583789830165129978:Nat:=0
def tw13880903930601565051:Nat:=0
def tw7266673279439672830:Nat:=0
def tw13219865655634875570:Nat:=0
def tw11209358319518042219:Nat:=0
def tw984284239390257716:Nat:=0
def tw7138425452202650698:Nat:=0
def tw6320680228853824881:Nat:=0
def tw8805409020758520493:Nat:=0
def tw15039883396198159307:Nat:=0
def tw3553467303371647208:Nat:=0
def tw642027841957753110:Nat:=0
def tw7840434858574758773:Nat:=0
def tw5294511684107019951:Nat:=0
def tw12692725781012519720:Nat:=0
def tw2704131143335788719:Nat:=0
def tw9828839219330378940:Nat:=0
def tw709567242497952676:Nat:=0
def tw2249407380381207815:Nat:=0
def tw17813109345963206758:Nat:=0
def tw7241058892101229623:Nat:=0
def tw3009476100576297642:Nat:=0
def tw8735674865849281272:Nat:=0
def tw10788030738320875424:Nat:=0
def tw8993788312379814904:Nat:=0
def tw15601853079327407384:Nat:=0
def tw13605822237594662029:Nat:=0
def tw15348919948793155934:Nat:=0
def tw7864442405095741940:Nat:=0
def tw4741831023007020371:Nat:=0
def tw1292692496557105688:Nat:=0
def tw15593900583804771828:Nat:=0
def tw7692267451807958832:Nat:=0
def tw3312792994268634178:Nat:=0
def tw7216314700904468659:Nat:=0
def tw14617927305863052932:Nat:=0
def tw10072972446823252686:Nat:=0
def tw13627375974159207039:Nat:=0
def tw12520986087655180039:Nat:=0
def tw3078155744261008137:Nat:=0
def tw8330252085903187803:Nat:=0
def tw18419209089326381332:Nat:=0
def tw13897740881266595685:Nat:=0
def tw12628839031428025110:Nat:=0
def tw13653284622140463146:Nat:=0
def tw3928234985629747089:Nat:=0
def tw10343669634946717353:Nat:=0
def tw16125581930914513363:Nat:=0
def tw3247541174071754367:Nat:=0
def tw5049421325548819032:Nat:=0
def tw4524976164998384753:Nat:=0
def tw6338773602340426303:Nat:=0
def tw6613613650084814611:Nat:=0
def tw12969083638128610799:Nat:=0
def tw17153923133362498806:Nat:=0
def tw3623379628909978727:Nat:=0
def tw4420986606998510949:Nat:=0
def tw1829285145596640505:Nat:=0
def tw7281381655481354280:Nat:=0
def tw15352039329671653310:Nat:=0
def tw13327282410893963912:Nat:=0
def tw17877747613494013336:Nat:=0
def tw17756893466704664768:Nat:=0
def tw12620813492352235287:Nat:=0
def tw8642735237734150345:Nat:=0
def tw16560884781981170268:Nat:=0
def tw2458206365867062859:Nat:=0
def tw11888336608597401472:Nat:=0
def tw5861695670040044627:Nat:=0
def tw1562965379808672850:Nat:=0
def tw12817388320838138847:Nat:=0
def tw2708039738902087437:Nat:=0
def tw2982831765420327246:Nat:=0
def tw8033525322778014056:Nat:=0
def tw18015956830295761547:Nat:=0
def tw17100557773582699201:Nat:=0
def tw17830265636229985323:Nat:=0
def tw6757579135018494713:Nat:=0
def tw10892455811602310528:Nat:=0
def tw10023205323426650346:Nat:=0
def tw4792839724102385133:Nat:=0
def tw3956230320309630070:Nat:=0
def tw348823106582197765:Nat:=0
def tw4053822261973098256:Nat:=0
def tw370843632202321167:Nat:=0
def tw17740796540619941670:Nat:=0
def tw17004869998444436429:Nat:=0
def tw7056617261546551269:Nat:=0
def tw10359968039797437220:Nat:=0
def tw8620000502226473507:Nat:=0
def tw7860887651456092369:Nat:=0
def tw18066007686138489158:Nat:=0
def tw2948120004087129346:Nat:=0
def tw14416948853048351058:Nat:=0
def tw14576797705451571807:Nat:=0
def tw1063388126800464354:Nat:=0
def tw14082555482050487665:Nat:=0
def tw5544183044432385155:Nat:=0
def tw9552538666683725463:Nat:=0
def tw4237433821021546920:Nat:=0
def tw12916938492974442427:Nat:=0
def tw15936793618054205339:Nat:=0
def tw3846646067377187030:Nat:=0
def tw12074828956581407222:Nat:=0
def tw3923793347426731427:Nat:=0
def tw10661349945847060675:Nat:=0
def tw5974199764126551193:Nat:=0
def tw12367175351986827151:Nat:=0
def tw16526735659713839241:Nat:=0
def tw17822650978077617559:Nat:=0
def tw13446554212311582799:Nat:=0
def tw10973552101351366341:Nat:=0
def tw16234962417728714448:Nat:=0
def tw8875065170804593252:Nat:=0
def tw3923960157477865062:Nat:=0
def tw344770057610914802:Nat:=0
def tw9923030887351187287:Nat:=0
def tw8334453046366211582:Nat:=0
def tw5928524675606310606:Nat:=0
def tw4510995478010058229:Nat:=0
def tw12716715017245557004:Nat:=0
def tw894961338128221897:Nat:=0
def tw4649473345227432845:Nat:=0
def tw6893065044695643813:Nat:=0
def tw17139913164244169978:Nat:=0
def tw10293461220258400006:Nat:=0
def tw1373889326957008911:Nat:=0
def tw16235977897969532173:Nat:=0
def tw12230282885948827929:Nat:=0
def tw17961644717432031423:Nat:=0
def tw3658350948423123598:Nat:=0
def tw11493846685006157671:Nat:=0
def tw12759081958383108044:Nat:=0
def tw10721759225110610649:Nat:=0
def tw4630959158108411815:Nat:=0
def tw5490123716470895714:Nat:=0
def tw16168453549286477696:Nat:=0
def tw1980296180578090974:Nat:=0
def tw774257899533112884:Nat:=0
def tw2760849949383813408:Nat:=0
def tw11947424821227436467:Nat:=0
def tw4727707992211788154:Nat:=0
def tw5216036317243938093:Nat:=0
def tw8418243873254913547:Nat:=0
def tw11967528845208284692:Nat:=0
def tw1126963869185766376:Nat:=0
def tw16620194383872870995:Nat:=0
def tw6944230851219237878:Nat:=0
def tw3352160558866899782:Nat:=0
def tw14639470214446859381:Nat:=0
def tw7958252446200625503:Nat:=0
def tw15663623164101519254:Nat:=0
def tw2483382799699548718:Nat:=0
def tw16471230821460320260:Nat:=0
def tw697070327473888807:Nat:=0
def tw5753793469851643515:Nat:=0
def tw5717408031078196344:Nat:=0
def tw7126703813840133137:Nat:=0
def tw9775855681581276438:Nat:=0
def tw5961963978216153821:Nat:=0
def tw9028648272800064738:Nat:=0
def tw214341948758859092:Nat:=0
def tw11948709173882824989:Nat:=0
def tw3133834116903968021:Nat:=0
def tw6399293739677161186:Nat:=0
def tw467444708337406302:Nat:=0
def tw5387246815044185270:Nat:=0
def tw4938309521420475794:Nat:=0
def tw9175271474108072732:Nat:=0
def tw10555756852205046704:Nat:=0
def tw9391257657070008556:Nat:=0
def tw12971897050164725444:Nat:=0
def tw6697872503227195036:Nat:=0
def tw17157218891896714779:Nat:=0
def tw3019829627787893363:Nat:=0
def tw3078849866317301223:Nat:=0
def tw16349714330008278456:Nat:=0
def tw13436610261169393324:Nat:=0
def tw14647176406383726079:Nat:=0
def tw14983417281886579414:Nat:=0
def tw3230648457364809367:Nat:=0
def tw15658571561914530308:Nat:=0
def tw8127975060744385555:Nat:=0
def tw18045493160416931708:Nat:=0
def tw14662431811685550629:Nat:=0
def tw12094589546966192758:Nat:=0
def tw741797488921424139:Nat:=0
def tw403343294239260062:Nat:=0
def tw4649230738769223021:Nat:=0
def tw1915904950092926500:Nat:=0
def tw3401263917608111855:Nat:=0
def tw11776232988067144448:Nat:=0
def tw2199976708237910198:Nat:=0
def tw2441943092217317896:Nat:=0
end PySem.W.Fast
set_option maxRecDepth 100000 in
set_option maxHeartbeats 0 in
theorem PySem.Challenge.cw_madeagain_k41_whole_reach_of_changes_holds : PySem.Challenge.rw_madeagain_k41_whole_reach_of_changes.Holds := by
 w_on;o_law;k_head;(case hw=>w_witness2)
 k_fill
 refine K41.walk (l:=PySem.Challenge.rw_madeagain_k41_whole_reach_of_changes) rfl rfl (fun w h Y=>PySem.W.kIn_of Y) ?F
 case F=>
  intro w mg fa h KX G hmg
  refine' K41.all_mk KX G hmg ?a1 ?l1 ?c1 ?k1 ?a2 ?l2 ?c2 ?k2 ?a3 ?l3 ?c3 ?k3 ?a4 ?l4 ?c4 ?k4 ?a5 ?l5 ?c5 ?k5 ?a6 ?l6 ?c6 ?k6 ?a7 ?l7 ?c7 ?k7 ?a8 ?l8 ?c8 ?k8 ?a9 ?l9 ?c9 ?k9 ?a10 ?l10 ?c10 ?k10 ?a11 ?l11 ?c11 ?k11 ?a12 ?l12 ?c12 ?k12 ?a13 ?l13 ?c13 ?k13 ?a14 ?l14 ?c14 ?k14 ?a15 ?l15 ?c15 ?k15 ?a16 ?l16 ?c16 ?k16 ?kd ?ACK ?Sh ?Sq ?X7 ?X8 ?Ss ?Yb ?Yc ?Yd ?Ye ?Sv ?Yg ?Yh ?Yi ?Yj ?Sx ?Yk ?Yl ?Ym ?Yn ?Yo ?Yp ?Dk ?zM ?zN ?ACN ?SM ?SN ?Yq ?Yr ?SQ ?Ys ?Yt ?Yu ?Yv ?Tc ?Yw ?Yx ?Yy ?Yz ?Te ?YB ?YC ?YD ?YF ?YG ?YH ?vo ?ACS ?Tg ?Ti ?YJ ?YK ?Tj ?YL ?YM ?YQ ?YS ?Tp ?YT ?YW ?YX ?YZ ?Tr ?Y0 ?Y4 ?Y5 ?Y6 ?Tu ?Y7 ?Y8 ?Y9 ?Za ?Tw ?Zb ?Zc ?Zd ?Ze ?Zf ?Zg ?yd ?vq ?zO ?qe ?ACE ?TF ?TJ ?Zh ?Zi ?TQ ?Zj ?Zk ?Zm ?Zn ?TX ?Zo ?Zq ?Zr ?Zt ?T4 ?Zu ?Zv ?Zw ?Zx ?Ub ?Zy ?Zz ?ZC ?ZD ?Ud ?ZF ?ZG ?ZJ ?ZK ?Ug ?ZL ?ZM ?ZP ?ZQ ?ZR ?ZS ?zP ?vz ?Gq ?zQ ?vA ?tE ?PB ?Gr ?PJ ?PK ?JR ?Gs ?tG ?JS ?JT ?PL ?PN ?PX ?P0 ?Qa ?Dl ?Qc ?vB ?Qd ?ye ?Qe
  (case a1=>k_is);(case l1=>k_is);(case c1=>k_is);(case k1=>k_is)
  (case a2=>k_is);(case l2=>k_is);(case c2=>k_is);(case k2=>k_is)
  (case a3=>k_is);(case l3=>k_is);(case c3=>k_is);(case k3=>k_is)
  (case a4=>k_is);(case l4=>k_is);(case c4=>k_is);(case k4=>k_is)
  (case a5=>k_is);(case l5=>k_is);(case c5=>k_is);(case k5=>k_is)
  (case a6=>k_is);(case l6=>k_is);(case c6=>k_is);(case k6=>k_is)
  (case a7=>k_is);(case l7=>k_is);(case c7=>k_is);(case k7=>k_is)
  (case a8=>k_is);(case l8=>k_is);(case c8=>k_is);(case k8=>k_is)
  (case a9=>k_is);(case l9=>k_is);(case c9=>k_is);(case k9=>k_is)
  (case a10=>k_is);(case l10=>k_is);(case c10=>k_is);(case k10=>k_is)
  (case a11=>k_is);(case l11=>k_is);(case c11=>k_is);(case k11=>k_is)
  (case a12=>k_is);(case l12=>k_is);(case c12=>k_is);(case k12=>k_is)
  (case a13=>k_is);(case l13=>k_is);(case c13=>k_is);(case k13=>k_is)
  (case a14=>k_is);(case l14=>k_is);(case c14=>k_is);(case k14=>k_is)
  (case a15=>k_is);(case l15=>k_is);(case c15=>k_is);(case k15=>k_is)
  (case a16=>k_is);(case l16=>k_is);(case c16=>k_is);(case k16=>k_is)
  (case kd=>exact RB.NP (by kernel_rfl))
  (case ACK=>k_is);(case Sh=>k_is);(case Sq=>k_is);(case X7=>k_is);(case X8=>k_is);(case Ss=>k_is);(case Yb=>k_is);(case Yc=>k_is);(case Yd=>k_is);(case Ye=>k_is);(case Sv=>k_is);(case Yg=>k_is);(case Yh=>k_is);(case Yi=>k_is);(case Yj=>k_is);(case Sx=>k_is);(case Yk=>k_is);(case Yl=>k_is);(case Ym=>k_is);(case Yn=>k_is);(case Yo=>k_is);(case Yp=>k_is);(case Dk=>k_is);(case zM=>k_is);(case zN=>k_is);(case ACN=>k_is);(case SM=>k_is);(case SN=>k_is);(case Yq=>k_is);(case Yr=>k_is);(case SQ=>k_is);(case Ys=>k_is);(case Yt=>k_is);(case Yu=>k_is);(case Yv=>k_is);(case Tc=>k_is);(case Yw=>k_is);(case Yx=>k_is);(case Yy=>k_is);(case Yz=>k_is);(case Te=>k_is);(case YB=>k_is);(case YC=>k_is);(case YD=>k_is);(case YF=>k_is);(case YG=>k_is);(case YH=>k_is);(case vo=>k_is);(case ACS=>k_is);(case Tg=>k_is);(case Ti=>k_is);(case YJ=>k_is);(case YK=>k_is);(case Tj=>k_is);(case YL=>k_is);(case YM=>k_is);(case YQ=>k_is);(case YS=>k_is);(case Tp=>k_is);(case YT=>k_is);(case YW=>k_is);(case YX=>k_is);(case YZ=>k_is);(case Tr=>k_is);(case Y0=>k_is);(case Y4=>k_is);(case Y5=>k_is);(case Y6=>k_is);(case Tu=>k_is);(case Y7=>k_is);(case Y8=>k_is);(case Y9=>k_is);(case Za=>k_is);(case Tw=>k_is);(case Zb=>k_is);(case Zc=>k_is);(case Zd=>k_is);(case Ze=>k_is);(case Zf=>k_is);(case Zg=>k_is);(case yd=>k_is);(case vq=>k_is);(case zO=>k_is);(case qe=>k_is);(case ACE=>k_is);(case TF=>k_is);(case TJ=>k_is);(case Zh=>k_is);(case Zi=>k_is);(case TQ=>k_is);(case Zj=>k_is);(case Zk=>k_is);(case Zm=>k_is);(case Zn=>k_is);(case TX=>k_is);(case Zo=>k_is);(case Zq=>k_is);(case Zr=>k_is);(case Zt=>k_is);(case T4=>k_is);(case Zu=>k_is);(case Zv=>k_is);(case Zw=>k_is);(case Zx=>k_is);(case Ub=>k_is);(case Zy=>k_is);(case Zz=>k_is);(case ZC=>k_is);(case ZD=>k_is);(case Ud=>k_is);(case ZF=>k_is);(case ZG=>k_is);(case ZJ=>k_is);(case ZK=>k_is);(case Ug=>k_is);(case ZL=>k_is);(case ZM=>k_is);(case ZP=>k_is);(case ZQ=>k_is);(case ZR=>k_is);(case ZS=>k_is);(case zP=>k_is);(case vz=>k_is);(case Gq=>k_is);(case zQ=>k_is);(case vA=>k_is);(case tE=>k_is)
  (case PB=>k_is);(case Gr=>k_is);(case PJ=>k_is);(case PK=>k_is);(case JR=>k_is);(case Gs=>k_is);(case tG=>k_is);(case JS=>k_is);(case JT=>k_is);(case PL=>k_is);(case PN=>k_is);(case PX=>k_is);(case P0=>k_is);(case Qa=>k_is);(case Dl=>k_is);(case Qc=>k_is);(case vB=>k_is);(case Qd=>k_is);(case ye=>k_is);(case Qe=>k_is)
