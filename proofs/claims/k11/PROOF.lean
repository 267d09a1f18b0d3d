import PyProof.Rows.All
import Wide.All
import OpenK.AllK
import Wide.FinOn
import Lean
import PyProof.EqAt
import PyProof.EqKinds
import PyProof.TupleCall
import KE.KTops
import KE.KIntText
import KE.KTryMore
import PyProof.ExcBaseAll.ValueError
import PyProof.ZipIter
import KE.KTurns
import PyProof.Rows.SetFrom
import KE.KxText
import PyProof.Rows.SumGenD
import KE.KDictList
import PyProof.DictWalks
import KE.KEqDict
import KE.KDictOf
import PyProof.Rows.SortStr
import PyProof.Rows.SortWalk
import PyProof.WalksEnum
import PyProof.Rows.SumAny
import KE.KItemsList
import KE.KRevIter
import PyProof.ExcInit
import PyProof.InstStoreFacts
import OpenK.KCls
import KE.IntBitsLaws
import PyProof.Rows.SortRunsK
import PyProof.CollectWalk
import PyProof.DictItems
import Wide.Seal
import PyProof.P3Eq
import PySem.Challenge.RW_madeagain_k11_worths_and_reads
set_option Elab.async false
set_option linter.all false
set_option maxRecDepth 100000
noncomputable section
namespace L2
open PySem PySem.Spec PyProof.Rows
abbrev Key:=Sum Int Str
def Hh:Key->Value->Bool
 | .inl k,v=>Value.isInt k v
 | .inr x,v=>Value.isStrOf x v
def ai5 (w:World):Key->Int
 | .inl k=>hashInt k
 | .inr x=>hashStr w x
theorem iB:∀{k:Key}{v:Value},Hh k v=true->(∃i t,k=Sum.inl i/\v=Value.int i t)\/(∃x t,k=Sum.inr x/\v=Value.str x t)
 | .inl i,v,h=>by
   obtain⟨t,e⟩:=Value.isInt_shape (k:=i) (v:=v) h
   exact .inl ⟨i,t,rfl,e⟩
 | .inr x,v,h=>by
   obtain⟨t,e⟩:=Value.isStrOf_shape (x:=x) (v:=v) h
   exact .inr ⟨x,t,rfl,e⟩
theorem SQ (i:Int) (t:Tok):Hh (.inl i) (.int i t)=true:=by simp[Hh,Value.isInt]
theorem S7 (x:Str) (t:Tok):Hh (.inr x) (.str x t)=true:=by simp[Hh,Value.isStrOf]
theorem abJ (a b:Int):decide ((Sum.inl a:Key)=Sum.inl b)=(a==b):=by
 by_cases e:a=b
 ·subst e;simp
 ·have h:¬(Sum.inl a:Key)=Sum.inl b:=fun q=>e (Sum.inl.inj q)
  rw[decide_eq_false h]
  exact(beq_eq_false_iff_ne.mpr e).symm
theorem abK (a b:Str):decide ((Sum.inr a:Key)=Sum.inr b)=decide (a=b):=by
 by_cases e:a=b
 ·subst e;simp
 ·have h:¬(Sum.inr a:Key)=Sum.inr b:=fun q=>e (Sum.inr.inj q)
  rw[decide_eq_false h,decide_eq_false e]
theorem abL (a:Int) (b:Str):decide ((Sum.inl a:Key)=Sum.inr b)=false:=decide_eq_false (fun q=>nomatch q)
theorem abM (a:Str) (b:Int):decide ((Sum.inr a:Key)=Sum.inl b)=false:=decide_eq_false (fun q=>nomatch q)
def jc (prog:Program) (w:World):PySem.KeyKind prog w Key where
 is:=Hh
 hash:=ai5 w
 inj:=fun v a b ha hb=>by
  rcases iB ha with⟨i,t,rfl,rfl⟩ | ⟨x,t,rfl,rfl⟩
  ·rcases iB hb with⟨j,u,rfl,e⟩ | ⟨y,u,rfl,e⟩
   ·injection e with e1 _;rw[e1]
   ·exact nomatch e
  ·rcases iB hb with⟨j,u,rfl,e⟩ | ⟨y,u,rfl,e⟩
   ·exact nomatch e
   ·injection e with e1 _;rw[e1]
 byValue:=fun k v h=>by
  rcases iB h with⟨i,t,rfl,rfl⟩ | ⟨x,t,rfl,rfl⟩<;>rfl
 pyHash:=fun hv h=>by
  rcases iB hv with⟨i,t,rfl,rfl⟩ | ⟨x,t,rfl,rfl⟩
  ·exact wpAny_pyHash_int h
  ·exact wpAny_pyHash_str h
 eqBool:=fun hu hv h=>by
  rcases iB hu with⟨i,t,rfl,rfl⟩ | ⟨x,t,rfl,rfl⟩
  ·rcases iB hv with⟨j,u,rfl,rfl⟩ | ⟨y,u,rfl,rfl⟩
   ·rw[abJ] at h;exact wpAny_eqBool_int h
   ·rw[abL] at h;exact SeqAt.EqAt.int_str i t y u _ _ _ _ h
  ·rcases iB hv with⟨j,u,rfl,rfl⟩ | ⟨y,u,rfl,rfl⟩
   ·rw[abM] at h;exact SeqAt.EqAt.str_int x t j u _ _ _ _ h
   ·rw[abK] at h;exact wpAny_eqBool_str h
 «strs»:=fun k x t v h=>by
  rcases iB h with⟨i,u,rfl,e⟩ | ⟨y,u,rfl,e⟩
  ·exact nomatch e
  ·injection e with e1 _
   subst e1
   cases v<;>rfl
theorem Ml (prog:Program) (w:World) (i:Int) (t:Tok):(jc prog w).is (.inl i) (.int i t)=true:=SQ i t
theorem Mm (prog:Program) (w:World) (x:Str) (t:Tok):(jc prog w).is (.inr x) (.str x t)=true:=S7 x t
inductive V where
 | non | bl (b:Bool) | int (i:Int) | str (x:Str) | byt (b:Array UInt8) | flt (b:UInt64) | ref (a:Addr) | ty (n:String)
 deriving DecidableEq
def RelV:V->Value->Prop
 | .non,u=>u=Value.none
 | .bl b,u=>u=Value.bool b
 | .int i,u=>∃t,u=Value.int i t
 | .str x,u=>∃t,u=Value.str x t
 | .byt b,u=>∃t,u=Value.bytes b t
 | .flt b,u=>∃t,u=Value.float b t
 | .ref a,u=>u=Value.ref a
 | .ty n,u=>u=Value.type n
abbrev Vals:List V->List Value->Prop:=Paired RelV
theorem Vals.length {xs:List V}{us:List Value} (r:Vals xs us):xs.length=us.length:=Paired.length r
theorem Vals.get:∀{xs:List V}{us:List Value}{i:Nat}{x:V},Vals xs us->xs[i]? =some x->∃u,us[i]? =some u/\RelV x u
 | _,_,_,_, .nil,e=>by simp at e
 | _,_,0,_, .cons r _,e=>by simp at e;subst e;exact⟨_,rfl,r⟩
 | _,_,i+1,x, .cons _ t,e=>by
   obtain⟨u,h1,h2⟩:=Vals.get (i:=i) (x:=x) t (by simpa using e)
   exact⟨u,by simpa using h1,h2⟩
theorem Vals.append:∀{xs ys:List V}{us ws:List Value},Vals xs us->Vals ys ws->Vals (xs++ys) (us++ws)
 | _,_,_,_, .nil,s=>s
 | _,_,_,_, .cons r t,s=> .cons r (Vals.append t s)
theorem Vals.take:∀{xs:List V}{us:List Value} (n:Nat),Vals xs us->Vals (xs.take n) (us.take n)
 | _,_,0,_=> .nil
 | _,_,_+1, .nil=> .nil
 | _,_,n+1, .cons r t=> .cons r (Vals.take n t)
theorem Vals.drop:∀{xs:List V}{us:List Value} (n:Nat),Vals xs us->Vals (xs.drop n) (us.drop n)
 | _,_,0,r=>r
 | _,_,_+1, .nil=> .nil
 | _,_,n+1, .cons _ t=>Vals.drop n t
def wN:Option V->Option Value->Prop
 | some v,some u=>RelV v u
 | none,none=>True
 | _,_=>False
def KV {κ:Type}:List (κ×V)->List (κ×Value)->Prop:=Paired fun(p:κ×V) (q:κ×Value)=>p.1=q.1/\RelV p.2 q.2
def kV:Key->V
 | .inl i=> .int i
 | .inr x=> .str x
inductive HO where
 | lst (xs:List V)
 | tup (xs:List V)
 | dK (kvs:List (Key×V)) | dT (kvs:List (List Key×V))
 | set (S:Int->Bool) (n:Nat)
 | ins (C dx:Addr) (fs:List (Str×V))
 | own (x:Addr)
 | xd (fs:List (Str×V))
 | met (f x:Addr)
 | rng (lo hi:Int)
 | frz (o:Obj) (u:HO)
 | tbl (ps:Array Value)
 | ext (φ:Heap->Prop)
abbrev Hp:=Addr->Option HO
def upd (H:Hp) (a:Addr) (o:HO):Hp:=fun b=>if b=a then some o else H b
theorem ak {H:Hp}{a:Addr}{o:HO}:upd H a o a=some o:=by unfold upd;rw[if_pos rfl]
theorem ao {H:Hp}{a b:Addr}{o:HO} (h:b≠a):upd H a o b=H b:=by unfold upd;rw[if_neg h]
theorem lR {H:Hp}{a:Addr}{o u:HO}:upd (upd H a o) a u=upd H a u:=by
 funext b;unfold upd;split<;>rfl
theorem aaJ {H:Hp}{a b:Addr}{o u:HO} (h:H a=some o) (h':H b=some u) (d:o≠u):a≠b:=by
 intro e;subst e;rw[h] at h';exact d (Option.some.inj h')
theorem aH {H:Hp}{a b:Addr}{o:HO} (h:H a=some o) (h':H b=none):a≠b:=by
 intro e;subst e;rw[h] at h';cases h'
section
variable (P:Program) (w:World)
def d8 (H:Hp) (h:Heap) (a:Addr):HO->Prop
 | .lst xs=>xs.length<=sizeLine/\∃(its:List Value) (n:Nat),Vals xs its/\h.get? a=some {cls:= .type "list",data:= .seq its.toArray n}
 | .tup xs=>xs.length<=sizeLine/\∃its:List Value,Vals xs its/\IsTup h a its.toArray
 | .dK kvs=>kvs.length<=sizeLine/\(a==sysModules)=false/\∃vs,KV kvs vs/\h.DictOf (jc P w) a vs
 | .dT kvs=>kvs.length<=sizeLine/\(a==sysModules)=false/\∃xs:List (List Key×Addr×Value),
     Paired (fun(p:List Key×V) (q:List Key×Addr×Value)=>p.1=q.1/\H q.2.1=some (.tup (p.1.map kV))/\RelV p.2 q.2.2) kvs xs/\
     ∃o es ep,h.get? a=some o/\o.ExactDict/\o.data= .dict es ep/\es.toList=xs.map (entryOfKey (tupleKind (jc P w)))/\(xs.map (·.1)).Nodup
 | .set S n=>h.SetOf (intKind P w) a S n
 | .ins C dx fs=>H dx=some (.own a)/\fs.length<=1000/\dx≠a/\h.get? a=some (PySem.W.instObj C dx)/\
     ∃mA,h.Ns1 dx mA/\(∀f,wN (fs.lookup f) (mA f))/\PySem.Within mA (fs.map (·.1))
 | .own _=>∃o,h.get? a=some o
 | .xd fs=>∃mA,h.Ns1 a mA/\∀f,wN (fs.lookup f) (mA f)
 | .rng lo hi=>∃t u v,h.get? a=some {cls:= .type "range",data:= .fields #[.int lo t, .int hi u, .int 1 v]}
 | .frz o u=>h.get? a=some o/\d8 H h a u
 | .tbl ps=>h.get? a=some {cls:= .none,data:= .fields ps}
 | .met f x=>h.get? a=some (PySem.W.methodObj (.ref f) (.ref x))
 | .ext φ=>φ h/\(∃o,h.get? a=some o)/\∀h1 h2:Heap,φ h1->(∀o,h1.get? a=some o->h2.get? a=some o)->φ h2
def HOk (H:Hp) (h:Heap):Prop:=∀a o,H a=some o->d8 P w H h a o
end
section
variable {P:Program}{w:World}{H H':Hp}{h h':Heap}{a:Addr}{o:HO}
theorem d8.lt (x:d8 P w H h a o):a<h.objs.size:=by
 cases o with
 | lst xs=>obtain⟨_,_,_,_,e⟩:=x;exact Heap.lt_size e
 | tup xs=>obtain⟨_,_,_,p⟩:=x;exact p.lt
 | dK kvs=>obtain⟨_,_,_,_,o,_,_,e,_⟩:=x;exact Heap.lt_size e
 | dT kvs=>obtain⟨_,_,_,_,o,_,_,e,_⟩:=x;exact Heap.lt_size e
 | set S n=>obtain⟨o,_,_,_,e,_⟩:=x;exact Heap.lt_size e
 | ins C dx fs=>obtain⟨_,_,_,e,_⟩:=x;exact Heap.lt_size e
 | own y=>obtain⟨_,e⟩:=x;exact Heap.lt_size e
 | xd fs=>obtain⟨_,⟨_,_,_,e,_⟩,_⟩:=x;exact Heap.lt_size e
 | rng lo hi=>obtain⟨_,_,_,e⟩:=x;exact Heap.lt_size e
 | frz ob u=>obtain⟨e,_⟩:=x;exact Heap.lt_size e
 | tbl ps=>exact Heap.lt_size (show h.get? a=some _ from x)
 | met f y=>exact Heap.lt_size (show h.get? a=some _ from x)
 | ext φ=>obtain⟨_,⟨_,e⟩,_⟩:=x;exact Heap.lt_size e
theorem Paired.abN {α β:Type}{F G:α->β->Prop}:∀{l₁:List α}{l₂:List β},Paired F l₁ l₂->(∀a b,F a b->G a b)->Paired G l₁ l₂
 | _,_, .nil,_=> .nil
 | _,_, .cons r t,f=> .cons (f _ _ r) (Paired.abN t f)
theorem d8.stay (x:d8 P w H h a o) (k:∀b u,(b=a\/H b=some (.own a))->h.get? b=some u->h'.get? b=some u)
 (ho:∀b,H b=some (.own a)->H' b=some (.own a)) (ht:∀b xs,H b=some (.tup xs)->H' b=some (.tup xs)):d8 P w H' h' a o:=by
 induction o with
 | lst xs=>obtain⟨z,its,n,r,e⟩:=x;exact⟨z,its,n,r,k _ _ (.inl rfl) e⟩
 | tup xs=>obtain⟨z,its,r,ob,e,c⟩:=x;exact⟨z,its,r,ob,k _ _ (.inl rfl) e,c⟩
 | dK kvs=>obtain⟨z,y,vs,r,ob,es,ep,e,c⟩:=x;exact⟨z,y,vs,r,ob,es,ep,k _ _ (.inl rfl) e,c⟩
 | dT kvs=>
   obtain⟨z,y,xs,r,ob,es,ep,e,c⟩:=x
   exact⟨z,y,xs,Paired.abN r fun p q z=>⟨z.1,ht _ _ z.2.1,z.2.2⟩,ob,es,ep,k _ _ (.inl rfl) e,c⟩
 | set S n=>obtain⟨ob,es,ep,t,e,c⟩:=x;exact⟨ob,es,ep,t,k _ _ (.inl rfl) e,c⟩
 | ins C dx fs=>
   obtain⟨d,z,ne,e,mA,⟨od,es,ep,e2,c⟩,r⟩:=x
   exact⟨ho _ d,z,ne,k _ _ (.inl rfl) e,mA,⟨od,es,ep,k _ _ (.inr d) e2,c⟩,r⟩
 | own y=>obtain⟨ob,e⟩:=x;exact⟨ob,k _ _ (.inl rfl) e⟩
 | xd fs=>obtain⟨mA,⟨od,es,ep,e,c⟩,r⟩:=x;exact⟨mA,⟨od,es,ep,k _ _ (.inl rfl) e,c⟩,r⟩
 | rng lo hi=>obtain⟨t,u,v,e⟩:=x;exact⟨t,u,v,k _ _ (.inl rfl) e⟩
 | frz ob u ih=>obtain⟨e,q⟩:=x;exact⟨k _ _ (.inl rfl) e,ih q⟩
 | tbl ps=>
   have e:h.get? a=some {cls:= .none,data:= .fields ps}:=x
   show h'.get? a=some {cls:= .none,data:= .fields ps}
   exact k a _ (.inl rfl) e
 | met f y=>
   have e:h.get? a=some (PySem.W.methodObj (.ref f) (.ref y)):=x
   show h'.get? a=some (PySem.W.methodObj (.ref f) (.ref y))
   exact k a _ (.inl rfl) e
 | ext φ=>obtain⟨p,⟨o,e⟩,st⟩:=x;exact⟨st _ _ p fun o q=>k _ _ (.inl rfl) q,⟨o,k _ _ (.inl rfl) e⟩,st⟩
theorem HOk.lt (x:HOk P w H h) (e:H a=some o):a<h.objs.size:=(x a o e).lt
theorem HOk.fresh (x:HOk P w H h) (e:h.objs.size<=a):H a=none:=by
 cases q:H a with
 | none=>rfl
 | some u=>exact absurd (Nat.lt_of_lt_of_le (x.lt q) e) (Nat.lt_irrefl _)
theorem HOk.kept (x:HOk P w H h) (k:∀b u,h.get? b=some u->h'.get? b=some u):HOk P w H h':=fun a o e=>
 (x a o e).stay (fun b u _ q=>k b u q) (fun _ q=>q) fun _ _ q=>q
theorem HOk.laid (x:HOk P w H h) (k:∀b u,h.get? b=some u->h'.get? b=some u) (hp:h.objs.size<=a) (new:d8 P w (upd H a o) h' a o):HOk P w (upd H a o) h':=fun b u e=>by
 have hn:=x.fresh hp
 by_cases hb:b=a
 ·subst hb;rw[ak] at e;cases e;exact new
 ·rw[ao hb] at e
  exact(x b u e).stay (fun c v _ q=>k c v q) (fun c q=>by rw[ao (aH q hn)];exact q) fun c xs q=>by rw[ao (aH q hn)];exact q
end
def Rd (H:Hp) (a:Addr) (u:HO):Prop:=H a=some u\/∃o,H a=some (.frz o u)
theorem Rd.ok {P:Program}{w:World}{H:Hp}{h:Heap}{a:Addr}{u:HO} (r:Rd H a u) (x:HOk P w H h):d8 P w H h a u:=by
 rcases r with r | ⟨o,r⟩
 ·exact x a u r
 ·obtain⟨_,q⟩:=x a _ r
  exact q
def Mut:Option HO->Prop
 | some (.lst _)=>True
 | some (.dK _)=>True
 | some (.dT _)=>True
 | some (.set _ _)=>True
 | some (.ins _ _ _)=>True
 | some (.ext _)=>True
 | _=>False
section
variable {P:Program}{w:World}{H:Hp}{h h':Heap}{x e:Addr}{o':HO}
theorem HOk.write (ok:HOk P w H h) (mu:Mut (H x)) (he:e=x\/H e=some (.own x)) (k:∀b u,b≠e->h.get? b=some u->h'.get? b=some u) (heo:∃u,h'.get? e=some u)
 (new:d8 P w (upd H x o') h' x o'):HOk P w (upd H x o') h':=fun b u q=>by
 have nown:∀c y,H c=some (.own y)->c≠x:=fun c y r z=>by subst z;rw[r] at mu;exact mu
 have ntup:∀c xs,H c=some (.tup xs)->c≠x:=fun c xs r z=>by subst z;rw[r] at mu;exact mu
 by_cases hb:b=x
 ·subst hb;rw[ak] at q;cases q;exact new
 ·rw[ao hb] at q
  by_cases hbe:b=e
  ·have q':H b=some (.own x):=by
    rcases he with z | z
    ·exact absurd (hbe.trans z) hb
    ·rw[hbe];exact z
   rw[q] at q';cases q'
   obtain⟨v,hv⟩:=heo
   exact⟨v,by rw[hbe];exact hv⟩
  ·refine(ok b u q).stay (fun c v hc r=>k c v ?_ r) (fun c r=>by rw[ao (nown c b r)];exact r) fun c xs r=>by rw[ao (ntup c xs r)];exact r
   rcases hc with rfl | hc
   ·exact hbe
   ·rintro rfl
    rcases he with z | z
    ·exact nown c b hc z
    ·rw[hc] at z;cases z;exact hb rfl
end
structure Un (fs ex:List Addr) (H H':Hp) (h h':Heap):Prop where
 keep:∀b o,h.get? b=some o->H b=none->b∉fs->b∉ex->h'.get? b=some o
 slot:∀b o,h.get? b=some o->H b=none->b∈fs->b∉ex->∃sl,h'.get? b=some {o with slots:=sl}
 free:∀b o,h.get? b=some o->H b=none->b∉ex->H' b=none
 there:∀b o,h.get? b=some o->b∉ex->∃o',h'.get? b=some o'
 tups:∀b xs,H b=some (.tup xs)->H' b=some (.tup xs)
 frzs:∀b o u,H b=some (.frz o u)->H' b=some (.frz o u)
 tbls:∀b ps,H b=some (.tbl ps)->∃more,H' b=some (.tbl (ps++more))
section
variable {fs fs' ex ex':List Addr}{H H1 H2:Hp}{h h1 h2 h':Heap}{a x e:Addr}{o:HO}
theorem Un.any (u:Un fs ex H H1 h h1) {b:Addr}{ob:Obj} (q:h.get? b=some ob) (n:H b=none) (hx:b∉ex):∃sl,h1.get? b=some {ob with slots:=sl}:=by
 by_cases hb:b∈fs
 ·exact u.slot b ob q n hb hx
 ·exact⟨ob.slots,u.keep b ob q n hb hx⟩
theorem Un.kept (k:∀b u,h.get? b=some u->h'.get? b=some u):Un fs ex H H h h':=
 ⟨fun b ob q _ _ _=>k b ob q,fun b ob q _ _ _=>⟨ob.slots,k b ob q⟩,fun _ _ _ n _=>n,fun b ob q _=>⟨ob,k b ob q⟩,fun _ _ q=>q,fun _ _ _ q=>q,fun _ ps q=>⟨#[],by rw[q];simp⟩⟩
theorem Un.refl:Un fs ex H H h h:=Un.kept fun _ _ q=>q
theorem Un.laid (k:∀b u,h.get? b=some u->h'.get? b=some u) (hp:h.objs.size<=a) (hn:H a=none):Un fs ex H (upd H a o) h h' where
 keep:=fun b u q _ _ _=>k b u q
 slot:=fun b u q _ _ _=>⟨u.slots,k b u q⟩
 free:=fun b u q n _=>by rw[ao (Nat.ne_of_lt (Nat.lt_of_lt_of_le (Heap.lt_size q) hp))];exact n
 there:=fun b u q _=>⟨u,k b u q⟩
 tups:=fun b xs q=>by rw[ao (aH q hn)];exact q
 frzs:=fun b u xs q=>by rw[ao (aH q hn)];exact q
 tbls:=fun b ps q=>⟨#[],by rw[ao (aH q hn),q];simp⟩
theorem Un.write (mu:Mut (H x)) (he:e=x\/H e=some (.own x)) (k:∀b u,b≠e->h.get? b=some u->h'.get? b=some u) (heo:∃u,h'.get? e=some u):Un fs ex H (upd H x o) h h':=by
 have hx:∀b,H b=none->b≠x:=fun b n z=>by subst z;rw[n] at mu;exact mu
 have hb:∀b,H b=none->b≠e:=fun b n z=>by
  subst z
  rcases he with r | r
  ·exact hx b n r
  ·rw[n] at r;cases r
 have hm:∀b u,H b=some u->¬Mut (some u)->b≠x:=fun b u q nm z=>by subst z;rw[q] at mu;exact nm mu
 refine⟨fun b u q n _ _=>k b u (hb b n) q,fun b u q n _ _=>⟨u.slots,k b u (hb b n) q⟩,fun b u q n _=>by rw[ao (hx b n)];exact n,fun b u q _=> ?_,
  fun b xs q=>by rw[ao (hm b _ q fun z=>z)];exact q,fun b u xs q=>by rw[ao (hm b _ q fun z=>z)];exact q,fun b ps q=>⟨#[],by rw[ao (hm b _ q fun z=>z),q];simp⟩⟩
 by_cases hbe:b=e
 ·subst hbe;exact heo
 ·exact⟨u,k b u hbe q⟩
end
def trk (h:Heap) (H:Hp):List Addr:=(List.range h.objs.size).filter fun a=>(H a).isSome
def Ks (h:Heap) (H:Hp):Heap:=PySem.W.hideAll h (trk h H)
theorem S8 (h:Heap) (H:Hp):(Ks h H).objs.size=h.objs.size:=PySem.W.hideAll_size _ _
theorem UJ {h:Heap}{H:Hp}{b:Addr}{o:Obj} (e:h.get? b=some o) (n:H b=none):(Ks h H).get? b=some o:=
 PySem.W.hideAll_get _ e fun hm=>by
  have q:(H b).isSome=true:=(List.mem_filter.mp hm).2
  rw[n] at q;simp at q
theorem Yi {h:Heap}{H:Hp}{b:Addr}{o:Obj} (e:(Ks h H).get? b=some o):h.get? b=some o/\H b=none:=by
 have e':h.get? b=some o:=PySem.W.of_hideAll (trk h H) e
 refine⟨e', ?_⟩
 cases q:H b with
 | none=>rfl
 | some x=>
   have hm:b∈trk h H:=List.mem_filter.mpr ⟨List.mem_range.mpr (Heap.lt_size e'),by simp[q]⟩
   have z:(Ks h H).get? b=none:=PySem.W.hideAll_none (trk h H) hm
   rw[z] at e;cases e
structure Mod (K:PySem.W.Frag) (mg:Str->Option Value) (base:Heap):Prop where
 kin:K.In base
 glob:base.Ns mainGlobals mg
 blt:∃mb,base.Ns builtinsNs mb/\∀x:Str,x≠"__name__"->mb x=bootBuiltins x
 nolimit:base.NoLimit
structure Cx where
 prog:Program
 w:World
 K:PySem.W.Frag
 mg:Str->Option Value
 base:Heap
 A:Around
 N:List Str
 s₀:Shared
 H₀:Hp
 env:Env
 outer:List Env
 stack:List Env
 ex:List Addr
 fn:Str->Bool
 calm:Bool
 pn:List (Addr×Obj)
 xe:Value->Shared->Prop
def frs (l:List Env):List Addr:=l.filterMap (·.frame)
abbrev Cx.fs (X:Cx):List Addr:=frs X.outer
def Vis (sc:Scope) (x:Str):Prop:=sc.names.lookup x=some .local\/sc.names.lookup x=some .cell\/sc.names.lookup x=some .free
def Loc (sc:Scope) (x:Str):Prop:=sc.names.lookup x=some .local\/sc.names.lookup x=some .cell
def Look (env:Env) (h:Heap) (m:Str->Option Value) (x:Str) (u:Value):Prop:=
 (env.kindOf x=some .local/\m x=some u)\/((env.kindOf x=some .cell\/env.kindOf x=some .free)/\∃c,env.cells.lookup x=some c/\h.IsCell c (some u))
structure Cx.Ok (X:Cx):Prop where
 mod:Mod X.K X.mg X.base
 kind:X.env.scope.kind= .function
 glob:X.env.globals=mainGlobals
 blt:X.env.builtins=builtinsNs
 above:X.s₀.heap.objs.size<=X.env.locals
 inj:∀x y c,X.env.cells.lookup x=some c->X.env.cells.lookup y=some c->x=y
 has:∀x,(X.env.kindOf x=some .cell\/X.env.kindOf x=some .free)->∃c,X.env.cells.lookup x=some c
 cab:∀x c,X.fn x=true->X.env.cells.lookup x=some c->X.s₀.heap.objs.size<=c
 hd:X.calm=true->X.A.handled=none
 frames:X.A.frames=some X.stack
 stk:X.stack=X.outer\/(X.stack=X.env::X.outer/\X.env.frame=some X.env.locals)
 exf:∀b∈X.ex,b≠X.env.locals/\∀x c,X.env.cells.lookup x=some c->c≠b
 bs:∀b o,X.base.get? b=some o->X.s₀.heap.get? b=some o/\X.H₀ b=none
 bsz:X.base.objs.size<=X.s₀.heap.objs.size
 noex:∀b o,X.base.get? b=some o->b∉X.ex
 exfs:∀b∈X.ex,b∉X.fs
 funs:X.s₀.heap.FunFrames X.base X.outer
 frf:∀b∈X.fs,X.H₀ b=none
structure Inv (X:Cx) (pins:List (Addr×Obj)) (σ:List (Option V)) (H:Hp) (s:Shared):Prop where
 ok:X.Ok
 os:s.os=X.s₀.os
 bare:AllBare s.gens
 base:Un X.fs X.ex X.H₀ H X.s₀.heap s.heap
 loc:∃m,s.heap.Ns X.env.locals m/\∀(i:Nat) (x:Str) (v:V),X.N[i]? =some x->σ[i]? =some (some v)->Vis X.env.scope x->∃u,RelV v u/\Look X.env s.heap m x u
 cell:∀x c,X.env.cells.lookup x=some c->∃v,s.heap.IsCell c v
 free:H X.env.locals=none
 p7:∀x c,X.env.cells.lookup x=some c->H c=none
 pin:∀p∈X.pn++pins,s.heap.get? p.1=some p.2/\H p.1=none/\p.1≠X.env.locals/\p.1∉X.fs/\∀v,p.2.data≠ .cell v
 hok:HOk X.prog X.w H s.heap
 len:σ.length=X.N.length
section
variable {X:Cx}{pins:List (Addr×Obj)}{σ:List (Option V)}{H H':Hp}{s:Shared}{h':Heap}
theorem Cx.Ok.nofr (ok:X.Ok) {b:Addr}{o:Obj} (e:X.base.get? b=some o):b∉X.fs:=fun hb=>by
 have:=(ok.funs.mem hb).1
 rw[e] at this;cases this
theorem Inv.bs (I:Inv X pins σ H s):∀b o,X.base.get? b=some o->s.heap.get? b=some o/\H b=none:=fun b o e=>
 ⟨I.base.keep b o (I.ok.bs b o e).1 (I.ok.bs b o e).2 (I.ok.nofr e) (I.ok.noex b o e),I.base.free b o (I.ok.bs b o e).1 (I.ok.bs b o e).2 (I.ok.noex b o e)⟩
theorem Inv.bk (I:Inv X pins σ H s):∀b o,X.base.get? b=some o->s.heap.get? b=some o:=fun b o e=>(I.bs b o e).1
theorem Inv.mod (I:Inv X pins σ H s):Mod X.K X.mg X.base:=I.ok.mod
theorem Inv.kIn (I:Inv X pins σ H s):X.K.In s.heap:=I.ok.mod.kin.keeps I.bk
theorem Inv.lt (I:Inv X pins σ H s):X.env.locals<s.heap.objs.size:=let ⟨_,hn,_⟩:=I.loc;hn.lt
theorem Inv.sz (I:Inv X pins σ H s):X.s₀.heap.objs.size<=s.heap.objs.size:=Nat.le_trans I.ok.above (Nat.le_of_lt I.lt)
theorem Inv.nofs (I:Inv X pins σ H s) {a:Addr} (h:s.heap.objs.size<=a):a∉X.fs:=fun hb=>by
 obtain⟨_,o,ho,_⟩:=I.ok.funs.mem hb
 exact absurd (Nat.lt_of_lt_of_le (Heap.lt_size ho) (Nat.le_trans I.sz h)) (Nat.lt_irrefl _)
theorem Inv.cne (I:Inv X pins σ H s):∀x c,X.env.cells.lookup x=some c->c≠X.env.locals:=fun x c e z=>by
 obtain⟨v,o,ho,hd⟩:=I.cell x c e
 obtain⟨m,⟨o',es,ep,ho',hd',_⟩,_⟩:=I.loc
 rw[z,ho'] at ho;cases ho;rw[hd'] at hd;cases hd
theorem Inv.funs (I:Inv X pins σ H s):s.heap.FunFrames X.base X.outer:=by
 have all:∀(l:List Env),(∀b∈frs l,b∈X.fs)->X.s₀.heap.FunFrames X.base l->s.heap.FunFrames X.base l:=by
  intro l
  induction l with
  | nil=>intro _ _;trivial
  | cons env r ih=>
    intro hs hl
    obtain⟨hk,⟨L,o,hf,hn,ho,hd⟩,hr⟩:=hl
    have hL:L∈X.fs:=hs L (by unfold frs;rw[List.filterMap_cons,hf];exact List.mem_cons_self)
    obtain⟨sl,e⟩:=I.base.slot L o ho (I.ok.frf L hL) hL fun z=>I.ok.exfs L z hL
    exact⟨hk,⟨L,_,hf,hn,e,hd⟩,ih (fun b hb=>hs b (by unfold frs;rw[List.filterMap_cons,hf];exact List.mem_cons_of_mem _ hb)) hr⟩
 exact all X.outer (fun _ hb=>hb) I.ok.funs
theorem Inv.stack (I:Inv X pins σ H s):s.heap.FunFrames X.base X.stack:=by
 rcases I.ok.stk with e | ⟨e,hf⟩
 ·rw[e];exact I.funs
 ·rw[e]
  obtain⟨m,hn,_⟩:=I.loc
  refine .cons (by rw[I.ok.kind];decide) hf hn ?_ I.funs
  exact Heap.get?_none_of_le (Nat.le_trans I.ok.bsz I.ok.above)
theorem Inv.Ku (I:Inv X pins σ H s):∀b∈frs X.stack,b∈X.env.locals::X.fs:=fun b hb=>by
 rcases I.ok.stk with e | ⟨e,hf⟩
 ·rw[e] at hb;exact List.mem_cons_of_mem _ hb
 ·rw[e] at hb
  unfold frs at hb
  rw[List.filterMap_cons,hf] at hb
  exact hb
theorem Inv.Kv (I:Inv X pins σ H s):∀b∈frs X.stack,H b=none:=fun b hb=>by
 rcases List.mem_cons.mp (I.Ku b hb) with e | hb
 ·rw[e];exact I.free
 ·obtain⟨_,o,ho,_⟩:=I.ok.funs.mem hb
  exact I.base.free b o ho (I.ok.frf b hb) fun z=>I.ok.exfs b z hb
theorem Inv.step {g':Array GenState}{t':Nat}{d':Drawn}{ch:List Addr} (I:Inv X pins σ H s)
 (hch:∀b∈ch,(b∈X.ex\/X.s₀.heap.objs.size<=b)/\b≠X.env.locals/\(∀x c,X.env.cells.lookup x=some c->c≠b)/\∀p∈X.pn++pins,p.1≠b)
 (keep:∀b o,b≠X.env.locals->b∉X.fs->b∉ch->s.heap.get? b=some o->H b=none->h'.get? b=some o)
 (slot:∀b o,b≠X.env.locals->b∈X.fs->b∉ch->s.heap.get? b=some o->H b=none->∃sl,h'.get? b=some {o with slots:=sl}) (free:∀b o,b∉ch->s.heap.get? b=some o->H b=none->H' b=none)
 (there:∀b o,b∉ch->s.heap.get? b=some o->∃o',h'.get? b=some o')
 (tups:∀b xs,H b=some (.tup xs)->H' b=some (.tup xs)) (frzs:∀b o u,H b=some (.frz o u)->H' b=some (.frz o u)) (tbls:∀b ps,H b=some (.tbl ps)->∃more,H' b=some (.tbl (ps++more)))
 (ns:∀m,s.heap.Ns X.env.locals m->h'.Ns X.env.locals m) (hok:HOk X.prog X.w H' h') (hg:AllBare g'):
 Inv X pins σ H' {s with heap:=h',gens:=g',drawn:=d',toks:=t'}:=by
 have neL:∀b o,X.s₀.heap.get? b=some o->b≠X.env.locals:=fun b o e=>Nat.ne_of_lt (Nat.lt_of_lt_of_le (Heap.lt_size e) I.ok.above)
 have neC:∀b o,X.s₀.heap.get? b=some o->b∉X.ex->b∉ch:=fun b o e hx hb=>by
  rcases(hch b hb).1 with z | z
  ·exact hx z
  ·exact absurd (Nat.lt_of_lt_of_le (Heap.lt_size e) z) (Nat.lt_irrefl _)
 have cellK:∀x c,X.env.cells.lookup x=some c->∀v,s.heap.IsCell c v->h'.IsCell c v:=fun x c e v ⟨o,ho,hd⟩=>by
  have nch:c∉ch:=fun z=>(hch c z).2.2.1 x c e rfl
  by_cases hc:c∈X.fs
  ·obtain⟨sl,q⟩:=slot c o (I.cne x c e) hc nch ho (I.p7 x c e)
   exact⟨_,q,hd⟩
  ·exact⟨o,keep c o (I.cne x c e) hc nch ho (I.p7 x c e),hd⟩
 refine⟨I.ok,I.os,hg,⟨fun b o e n hb hx=> ?_,fun b o e n hb hx=> ?_,fun b o e n hx=> ?_,fun b o e hx=> ?_,fun b xs e=>tups b xs (I.base.tups b xs e),fun b o xs e=>frzs b o xs (I.base.frzs b o xs e),fun b ps e=> ?_⟩, ?_,fun x c e=> ?_, ?_,fun x c e=> ?_,fun p hp=> ?_,hok,I.len⟩
 ·exact keep b o (neL b o e) hb (neC b o e hx) (I.base.keep b o e n hb hx) (I.base.free b o e n hx)
 ·obtain⟨sl,e1⟩:=I.base.slot b o e n hb hx
  obtain⟨sl',e2⟩:=slot b _ (neL b o e) hb (neC b o e hx) e1 (I.base.free b o e n hx)
  exact⟨sl',e2⟩
 ·obtain⟨o',e1⟩:=I.base.there b o e hx
  exact free b o' (neC b o e hx) e1 (I.base.free b o e n hx)
 ·obtain⟨o',e1⟩:=I.base.there b o e hx
  exact there b o' (neC b o e hx) e1
 ·obtain⟨m1,e1⟩:=I.base.tbls b ps e
  obtain⟨m2,e2⟩:=tbls b _ e1
  exact⟨m1++m2,by rw[e2,Array.append_assoc]⟩
 ·obtain⟨m,hn,hl⟩:=I.loc
  refine⟨m,ns m hn,fun i x v e1 e2 e3=> ?_⟩
  obtain⟨u,r,l⟩:=hl i x v e1 e2 e3
  refine⟨u,r, ?_⟩
  rcases l with l | ⟨k,c,e,z⟩
  ·exact .inl l
  ·exact .inr ⟨k,c,e,cellK x c e _ z⟩
 ·obtain⟨v,z⟩:=I.cell x c e
  exact⟨v,cellK x c e v z⟩
 ·obtain⟨m,⟨o,_,_,ho,_⟩,_⟩:=I.loc
  exact free _ o (fun z=>(hch _ z).2.1 rfl) ho I.free
 ·obtain⟨v,o,ho,hd⟩:=I.cell x c e
  exact free c o (fun z=>(hch c z).2.2.1 x c e rfl) ho (I.p7 x c e)
 ·obtain⟨e,n,ne,nf,d⟩:=I.pin p hp
  have nch:p.1∉ch:=fun z=>(hch p.1 z).2.2.2 p hp rfl
  exact⟨keep p.1 p.2 ne nf nch e n,free p.1 p.2 nch e n,ne,nf,d⟩
theorem Inv.un {t':Nat} (I:Inv X pins σ H s) (u:Un X.fs [] H H' s.heap h') (hok:HOk X.prog X.w H' h'):Inv X pins σ H' {s with heap:=h',toks:=t'}:=by
 obtain⟨m,⟨o,es,ep,ho,r⟩,_⟩:=id I.loc
 obtain⟨sl,hL⟩:=u.any ho I.free (by simp)
 exact I.step (g':=s.gens) (d':=s.drawn) (ch:=[]) (fun _ z=>nomatch z) (fun b o _ hb _ e n=>u.keep b o e n hb (by simp)) (fun b o _ hb _ e n=>u.slot b o e n hb (by simp)) (fun b o _ e n=>u.free b o e n (by simp)) (fun b o _ e=>u.there b o e (by simp)) u.tups u.frzs u.tbls (fun m' hm=>by
  obtain⟨o',es',ep',ho',r'⟩:=hm
  rw[ho] at ho';cases ho'
  exact⟨_,es',ep',hL,r'⟩) hok I.bare
theorem Inv.call {g':Array GenState}{t':Nat}{d':Drawn}{ch:List Addr} (I:Inv X pins σ H s) (u:Un (frs X.stack) ch H H' s.heap h') (hok:HOk X.prog X.w H' h') (hg:AllBare g')
 (hch:∀b∈ch,(b∈X.ex\/X.s₀.heap.objs.size<=b)/\b≠X.env.locals/\(∀x c,X.env.cells.lookup x=some c->c≠b)/\∀p∈X.pn++pins,p.1≠b):
 Inv X pins σ H' {s with heap:=h',gens:=g',drawn:=d',toks:=t'}:=by
 obtain⟨m,⟨o,es,ep,ho,r⟩,_⟩:=id I.loc
 obtain⟨sl,hL⟩:=u.any ho I.free fun z=>(hch _ z).2.1 rfl
 exact I.step (ch:=ch) hch (fun b o hL hb hc e n=>u.keep b o e n (fun z=>(List.mem_cons.mp (I.Ku b z)).elim hL hb) hc) (fun b o _ _ hc e n=>u.any e n hc) (fun b o hc e n=>u.free b o e n hc) (fun b o hc e=>u.there b o e hc) u.tups u.frzs u.tbls (fun m' hm=>by
  obtain⟨o',es',ep',ho',r'⟩:=hm
  rw[ho] at ho';cases ho'
  exact⟨_,es',ep',hL,r'⟩) hok hg
theorem Inv.turned {t':Nat}{it:Addr} (I:Inv X pins σ H s) (k:∀b o,b≠it->s.heap.get? b=some o->h'.get? b=some o) (hn:H it=none) (hL:it≠X.env.locals)
 (h1:it∈X.ex\/X.s₀.heap.objs.size<=it) (h2:∀x c,X.env.cells.lookup x=some c->c≠it) (h3:∀p∈X.pn++pins,p.1≠it):Inv X pins σ H {s with heap:=h',toks:=t'}:=by
 have nit:∀b u,H b=some u->b≠it:=fun b u e z=>by rw[z,hn] at e;cases e
 refine I.step (g':=s.gens) (d':=s.drawn) (ch:=[it]) (fun b hb=> ?_) (fun b o _ _ hc e _=>k b o (fun z=>hc (by simp[z])) e) (fun b o _ _ hc e _=>⟨o.slots,k b o (fun z=>hc (by simp[z])) e⟩) (fun _ _ _ _ n=>n)
  (fun b o hc e=>⟨o,k b o (fun z=>hc (by simp[z])) e⟩) (fun _ _ e=>e) (fun _ _ _ e=>e) (fun b ps e=>⟨#[],by rw[e];simp⟩) (fun m hm=> ?_) (fun b u e=> ?_) I.bare
 ·have e:b=it:=by simpa using hb
  subst e
  exact⟨h1,hL,h2,h3⟩
 ·obtain⟨o,es,ep,ho,r⟩:=hm
  exact⟨o,es,ep,k _ o (Ne.symm hL) ho,r⟩
 ·refine(I.hok b u e).stay (fun c v hc q=>k c v ?_ q) (fun _ q=>q) fun _ _ q=>q
  rcases hc with z | z
  ·rw[z];exact nit b u e
  ·exact nit c _ z
theorem Inv.tok (I:Inv X pins σ H s) (t:Nat):Inv X pins σ H {s with toks:=t}:=I.un (h':=s.heap) (t':=t) Un.refl I.hok
theorem Inv.kept {t':Nat} (I:Inv X pins σ H s) (k:∀b u,s.heap.get? b=some u->h'.get? b=some u):Inv X pins σ H {s with heap:=h',toks:=t'}:=I.un (Un.kept k) (I.hok.kept k)
theorem Inv.laid {a:Addr}{o:HO}{t':Nat} (I:Inv X pins σ H s) (k:∀b u,s.heap.get? b=some u->h'.get? b=some u) (hp:s.heap.objs.size<=a) (new:d8 X.prog X.w (upd H a o) h' a o):
 Inv X pins σ (upd H a o) {s with heap:=h',toks:=t'}:=I.un (Un.laid k hp (I.hok.fresh hp)) (I.hok.laid k hp new)
theorem Inv.write {x e:Addr}{o:HO}{t':Nat} (I:Inv X pins σ H s) (mu:Mut (H x)) (he:e=x\/H e=some (.own x)) (k:∀b u,b≠e->s.heap.get? b=some u->h'.get? b=some u) (heo:∃u,h'.get? e=some u)
 (new:d8 X.prog X.w (upd H x o) h' x o):Inv X pins σ (upd H x o) {s with heap:=h',toks:=t'}:=I.un (Un.write mu he k heo) (I.hok.write mu he k heo new)
theorem Inv.QH {pins':List (Addr×Obj)} (I:Inv X pins σ H s) (h:∀p∈pins',s.heap.get? p.1=some p.2/\H p.1=none/\p.1≠X.env.locals/\p.1∉X.fs/\∀v,p.2.data≠ .cell v):Inv X pins' σ H s:=
 ⟨I.ok,I.os,I.bare,I.base,I.loc,I.cell,I.free,I.p7,fun p hp=>(List.mem_append.mp hp).elim (fun z=>I.pin p (List.mem_append_left _ z)) (h p),I.hok,I.len⟩
theorem Hi {N:List Str} (hN:N.Nodup) {i j:Nat}{x:Str} (a:N[i]? =some x) (b:N[j]? =some x):i=j:=by
 obtain⟨h1,e1⟩:=List.getElem?_eq_some_iff.mp a
 obtain⟨h2,e2⟩:=List.getElem?_eq_some_iff.mp b
 exact(List.getElem_inj hN).mp (e1.trans e2.symm)
theorem S9 {M:Model}{A:Around}{E:Value->Shared->Prop}{i:Nat}{x:Str}{v:V}{u:Value}{Q:Unit->Shared->Prop} (I:Inv X pins σ H s) (hN:X.N.Nodup) (hi:X.N[i]? =some x) (hx:Loc X.env.scope x) (r:RelV v u)
 (h:∀s',Inv X pins (σ.set i (some v)) H s'->(∃a,Heap.SameBut a s.heap s'.heap/\(a=X.env.locals\/X.env.cells.lookup x=some a))->Q () s') (hf:X.fn x=true\/X.env.scope.names.lookup x=some .local:=by first | exact .inl rfl | exact .inr rfl | assumption):wpAny M A (storeName X.env x u) Q E s:=by
 obtain⟨m,hn,hl⟩:=id I.loc
 have hcls:(X.env.scope.kind== .class||(X.env.scope.kind== .module&&X.env.locals !=X.env.globals))=false:=by rw[I.ok.kind];rfl
 have hiσ:i<σ.length:=by rw[I.len];exact(List.getElem?_eq_some_iff.mp hi).1
 have cne:=I.cne
 have tracked:∀{a:Addr}{h':Heap},(∃o,s.heap.get? a=some o/\H a=none)->Heap.SameBut a s.heap h'->HOk X.prog X.w H h':=fun{a h'} ha hs b ob e=>by
  obtain⟨_,_,hfree⟩:=ha
  refine(I.hok b ob e).stay (fun c w' hc q=>(hs.2 c ?_).trans q) (fun _ q=>q) fun _ _ q=>q
  rintro rfl
  rcases hc with rfl | hc
  ·rw[hfree] at e;cases e
  ·rw[hfree] at hc;cases hc
 rcases hx with hk | hk
 ·refine wpAny_storeName_local hk hn (fun h' hn' hs=> ?_) hcls
  obtain⟨oL,_,_,hoL,_⟩:=id hn
  refine h _ ⟨I.ok,I.os,I.bare,⟨fun b o e n hb hx=> ?_,fun b o e n hb hx=> ?_,I.base.free,fun b o e hx=> ?_,I.base.tups,I.base.frzs,I.base.tbls⟩,⟨_,hn',fun j y v' e1 e2 e3=> ?_⟩,fun y c e=> ?_,I.free,I.p7,fun p hp=> ?_,tracked ⟨oL,hoL,I.free⟩ hs,by simpa using I.len⟩ ⟨_,hs, .inl rfl⟩
  ·exact(hs.2 b (Nat.ne_of_lt (Nat.lt_of_lt_of_le (Heap.lt_size e) I.ok.above))).trans (I.base.keep b o e n hb hx)
  ·obtain⟨sl,e1⟩:=I.base.slot b o e n hb hx
   exact⟨sl,(hs.2 b (Nat.ne_of_lt (Nat.lt_of_lt_of_le (Heap.lt_size e) I.ok.above))).trans e1⟩
  ·obtain⟨o',e1⟩:=I.base.there b o e hx
   exact⟨o',(hs.2 b (Nat.ne_of_lt (Nat.lt_of_lt_of_le (Heap.lt_size e) I.ok.above))).trans e1⟩
  ·by_cases hj:j=i
   ·subst hj
    rw[hi] at e1;cases e1
    rw[List.getElem?_set_self hiσ] at e2
    cases e2
    exact⟨u,r, .inl ⟨hk,by simp⟩⟩
   ·rw[List.getElem?_set_ne (Ne.symm hj)] at e2
    obtain⟨u',r',q⟩:=hl j y v' e1 e2 e3
    refine⟨u',r', ?_⟩
    rcases q with⟨k,e⟩ | ⟨k,c,e,z⟩
    ·refine .inl ⟨k, ?_⟩
     have:y≠x:=fun e=>hj (Hi hN e1 (e▸hi))
     simp[this,e]
    ·exact .inr ⟨k,c,e,z.sameBut hs (cne y c e)⟩
  ·obtain⟨w',z⟩:=I.cell y c e
   exact⟨w',z.sameBut hs (cne y c e)⟩
  ·obtain⟨e,n,ne,nf,d⟩:=I.pin p hp
   exact⟨(hs.2 p.1 ne).trans e,n,ne,nf,d⟩
 ·have hfn:X.fn x=true:=by
   rcases hf with z | z
   ·exact z
   ·rw[z] at hk;cases hk
  obtain⟨c,hc⟩:=I.ok.has x (.inl hk)
  obtain⟨w',z⟩:=I.cell x c hc
  refine wpAny_storeName_cell I.ok.kind hk hc z (fun h' hc' hs=> ?_)
  obtain⟨oc,hoc,hocd⟩:=id z
  refine h {s with heap:=h'} ⟨I.ok,I.os,I.bare,⟨fun b o e n hb hx=> ?_,fun b o e n hb hx=> ?_,I.base.free,fun b o e hx=> ?_,I.base.tups,I.base.frzs,I.base.tbls⟩,⟨m,hn.sameBut hs (Ne.symm (cne x c hc)),fun j y v' e1 e2 e3=> ?_⟩,fun y c' e=> ?_,I.free,I.p7,fun p hp=> ?_,tracked ⟨oc,hoc,I.p7 x c hc⟩ hs,by simpa using I.len⟩ ⟨c,hs, .inr hc⟩
  ·exact(hs.2 b (Nat.ne_of_lt (Nat.lt_of_lt_of_le (Heap.lt_size e) (I.ok.cab x c hfn hc)))).trans (I.base.keep b o e n hb hx)
  ·obtain⟨sl,e1⟩:=I.base.slot b o e n hb hx
   exact⟨sl,(hs.2 b (Nat.ne_of_lt (Nat.lt_of_lt_of_le (Heap.lt_size e) (I.ok.cab x c hfn hc)))).trans e1⟩
  ·obtain⟨o',e1⟩:=I.base.there b o e hx
   exact⟨o',(hs.2 b (Nat.ne_of_lt (Nat.lt_of_lt_of_le (Heap.lt_size e) (I.ok.cab x c hfn hc)))).trans e1⟩
  ·by_cases hj:j=i
   ·subst hj
    rw[hi] at e1;cases e1
    rw[List.getElem?_set_self hiσ] at e2
    cases e2
    exact⟨u,r, .inr ⟨.inl hk,c,hc,hc'⟩⟩
   ·rw[List.getElem?_set_ne (Ne.symm hj)] at e2
    obtain⟨u',r',q⟩:=hl j y v' e1 e2 e3
    refine⟨u',r', ?_⟩
    rcases q with q | ⟨k,c',e,z'⟩
    ·exact .inl q
    ·refine .inr ⟨k,c',e,z'.sameBut hs ?_⟩
     rintro rfl
     exact hj (Hi hN e1 (I.ok.inj _ _ _ e hc▸hi))
  ·by_cases hcc:c'=c
   ·subst hcc;exact⟨_,hc'⟩
   ·obtain⟨w2,z2⟩:=I.cell y c' e
    exact⟨w2,z2.sameBut hs hcc⟩
  ·obtain⟨e,n,ne,nf,d⟩:=I.pin p hp
   refine⟨(hs.2 p.1 ?_).trans e,n,ne,nf,d⟩
   intro q
   rw[q,hoc] at e
   have q':oc=p.2:=Option.some.inj e
   exact d w' (by rw[<-q'];exact hocd)
theorem Hj {M:Model}{A:Around}{E:Value->Shared->Prop}{i:Nat}{x:Str}{v:V}{u:Value}{Q:Unit->Shared->Prop} (I:Inv X pins σ H s) (hN:X.N.Nodup) (hi:X.N[i]? =some x) (hx:Loc X.env.scope x) (r:RelV v u)
 (h:∀s',Inv X pins (σ.set i (some v)) H s'->Q () s') (hf:X.fn x=true\/X.env.scope.names.lookup x=some .local:=by first | exact .inl rfl | exact .inr rfl | assumption):wpAny M A (storeName X.env x u) Q E s:=
 S9 I hN hi hx r (fun s' I' _=>h s' I') hf
theorem Inv.call' {s':Shared}{ch:List Addr} (I:Inv X pins σ H s) (ho:s'.os=s.os) (u:Un (frs X.stack) ch H H' s.heap s'.heap) (hok:HOk X.prog X.w H' s'.heap) (hg:AllBare s'.gens)
 (hch:∀b∈ch,(b∈X.ex\/X.s₀.heap.objs.size<=b)/\b≠X.env.locals/\(∀x c,X.env.cells.lookup x=some c->c≠b)/\∀p∈X.pn++pins,p.1≠b):Inv X pins σ H' s':=by
 obtain⟨h',g',d',t',o'⟩:=s'
 have e:o'=s.os:=ho
 subst e
 exact I.call (g':=g') (t':=t') (d':=d') u hok hg hch
end
abbrev XK:=Value->Option Addr->Hp->Prop
abbrev St:=List (Option V)
abbrev VK:=V->Hp->Prop
abbrev TE:=St->Hp->VK->Prop
abbrev TT:=St->Hp->(Bool->Hp->Prop)->Prop
abbrev TA:=St->Hp->(List V->Hp->Prop)->Prop
structure Ends where
 nx:St->Hp->Prop
 rt:VK
 bk:St->Hp->Prop:=fun _ _=>False
 ct:St->Hp->Prop:=fun _ _=>False
abbrev TS:=Ends->St->Hp->Prop
def EP (X:Cx) (pins:List (Addr×Obj)) (σ:St) (Q:VK) (u:Value) (s':Shared):Prop:=∃v H',Inv X pins σ H' s'/\RelV v u/\Q v H'
def TP (X:Cx) (pins:List (Addr×Obj)) (σ:St) (Q:Bool->Hp->Prop) (b:Bool) (s':Shared):Prop:=∃H',Inv X pins σ H' s'/\Q b H'
def AP (X:Cx) (pins:List (Addr×Obj)) (σ:St) (Q:List V->Hp->Prop) (us:List Value) (s':Shared):Prop:=∃vs H',Inv X pins σ H' s'/\Vals vs us/\Q vs H'
def SP (X:Cx) (pins:List (Addr×Obj)) (D:Ends) (f:Flow) (s':Shared):Prop:=
 match f with
 | .next=>∃σ' H',Inv X pins σ' H' s'/\D.nx σ' H'
 | .brk=>∃σ' H',Inv X pins σ' H' s'/\D.bk σ' H'
 | .cont=>∃σ' H',Inv X pins σ' H' s'/\D.ct σ' H'
 | .ret u=>∃v σ' H',Inv X pins σ' H' s'/\RelV v u/\D.rt v H'
def PE (X:Cx) (e:Expr) (t:TE):Prop:=
 ∀(pins:List (Addr×Obj)) (s:Shared) (σ:St) (H:Hp) (Q:VK),Inv X pins σ H s->t σ H Q->wpAny (model X.prog X.w) X.A (eval e X.env) (EP X pins σ Q) X.xe s
def PT (X:Cx) (e:Expr) (t:TT):Prop:=
 ∀(pins:List (Addr×Obj)) (s:Shared) (σ:St) (H:Hp) (Q:Bool->Hp->Prop),Inv X pins σ H s->t σ H Q->wpAny (model X.prog X.w) X.A (isTrue e X.env (eval e X.env)) (TP X pins σ Q) X.xe s
def PW (X:Cx) (e:Expr) (t:TT):Prop:=
 ∀(whole:Sem Value) (pins:List (Addr×Obj)) (s:Shared) (σ:St) (H:Hp) (Q:Bool->Hp->Prop),Inv X pins σ H s->t σ H Q->wpAny (model X.prog X.w) X.A (isTrue e X.env whole) (TP X pins σ Q) X.xe s
theorem PW.pt {X:Cx}{e:Expr}{t:TT} (h:PW X e t):PT X e t:=h _
def PA (X:Cx) (es:List Expr) (t:TA):Prop:=
 ∀(pos:Pos) (pins:List (Addr×Obj)) (s:Shared) (σ:St) (H:Hp) (Q:List V->Hp->Prop),Inv X pins σ H s->t σ H Q->wpAny (model X.prog X.w) X.A (spliced (backTo pos (starEach es X.env))) (AP X pins σ Q) X.xe s
def PS (X:Cx) (st:Stmt) (t:TS):Prop:=
 ∀(pins:List (Addr×Obj)) (s:Shared) (σ:St) (H:Hp) (D:Ends),Inv X pins σ H s->t D σ H->wpAny (model X.prog X.w) X.A (exec st X.env) (SP X pins D) X.xe s
def PSs (X:Cx) (st:List Stmt) (t:TS):Prop:=
 ∀(pins:List (Addr×Obj)) (s:Shared) (σ:St) (H:Hp) (D:Ends),Inv X pins σ H s->t D σ H->wpAny (model X.prog X.w) X.A (execs st X.env) (SP X pins D) X.xe s
theorem thn {α:Type}{t:Sem α}{Q Q':α->Shared->Prop}{M:Model}{A:Around}{E:Value->Shared->Prop}{s:Shared} (h:wpAny M A t Q E s) (hQ:∀a s,Q a s->Q' a s):wpAny M A t Q' E s:=wpAny_mono h hQ fun _ _ x=>x
section
variable {X:Cx}
def abO (i:Nat):TE:=fun σ H Q=>∃v,σ[i]? =some (some v)/\Q v H
def tC (v:V):TE:=fun _ H Q=>Q v H
theorem abP {i:Nat}{x:Str}{pos:Pos} (hN:X.N[i]? =some x) (hv:Vis X.env.scope x) (hd:(x==("__debug__":Str))=false:=by decide) (hcd:(x==("__classdict__":Str))=false:=by decide):PE X (.Name x pos) (abO i):=by
 intro pins s σ H Q I h
 obtain⟨v,e,h⟩:=h
 obtain⟨m,hn,hl⟩:=I.loc
 obtain⟨u,r,l⟩:=hl i x v hN e hv
 have fin:EP X pins σ Q u s:=⟨v,H,I,r,h⟩
 rcases l with⟨hk,hm⟩ | ⟨hk,c,hc,hcell⟩
 ·exact wpAny_Name (wpAny_loadName_local I.ok.kind hk hn hm fin) hd
 ·rcases hk with hk | hk
  ·exact wpAny_Name (wpAny_loadName_cell I.ok.kind hk hc hcell fin) hd
  ·exact wpAny_Name (wpAny_loadName_free I.ok.kind hk hc hcell fin hcd) hd
theorem abQ {i j pos}:PE X (.Constant (.int i) j pos) (tC (.int i)):=fun _ _ _ H _ I h=>wpAny_Constant_int ⟨.int i,H,I.tok _,⟨_,rfl⟩,h⟩
theorem afa {b j pos}:PE X (.Constant (.bool b) j pos) (tC (.bl b)):=fun _ _ _ H _ I h=>Constant_bool ⟨.bl b,H,I,rfl,h⟩
theorem abR {j pos}:PE X (.Constant .none j pos) (tC .non):=fun _ _ _ H _ I h=>Constant_none ⟨.non,H,I,rfl,h⟩
theorem UL {x j pos}:PE X (.Constant (.str x) j pos) (tC (.str x)):=fun _ _ _ H _ I h=>Calls.Constant_str ⟨.str x,H,I.tok _,⟨_,rfl⟩,h⟩
def Gl (X:Cx) (x:Str):Prop:=X.env.kindOf x=some .globalImplicit
theorem sy {E:Value->Shared->Prop}{pins:List (Addr×Obj)}{s:Shared}{σ:St}{H:Hp}{x:Str}{u:Value}{pos:Pos}{Q:Value->Shared->Prop} (I:Inv X pins σ H s) (hg:Gl X x) (hm:X.mg x=some u) (h:Q u s)
 (hd:(x==("__debug__":Str))=false:=by decide):wpAny (model X.prog X.w) X.A (eval (.Name x pos) X.env) Q E s:=
 Calls.Name_function_global I.ok.kind hg (Calls.loadGlobal_global (by rw[I.ok.glob];exact I.mod.glob.keeps I.bk) hm h) hd
theorem Al {E:Value->Shared->Prop}{pins:List (Addr×Obj)}{s:Shared}{σ:St}{H:Hp}{x:Str}{u:Value}{pos:Pos}{Q:Value->Shared->Prop} (I:Inv X pins σ H s) (hg:Gl X x) (hm:X.mg x=none) (hv:bootBuiltins x=some u) (h:Q u s)
 (hn:x≠"__name__":=by decide) (hd:(x==("__debug__":Str))=false:=by decide):wpAny (model X.prog X.w) X.A (eval (.Name x pos) X.env) Q E s:=by
 obtain⟨mb,h1,h2⟩:=I.mod.blt
 exact Calls.Name_function_global I.ok.kind hg (Calls.loadGlobal_builtin (by rw[I.ok.glob];exact I.mod.glob.keeps I.bk) hm (by rw[I.ok.blt];exact h1.keeps I.bk) ((h2 x hn).trans hv) h) hd
theorem Yj {x:Str}{v:V}{u:Value}{pos:Pos} (hg:Gl X x) (hm:X.mg x=some u) (r:RelV v u) (hd:(x==("__debug__":Str))=false:=by decide):PE X (.Name x pos) (tC v):=
 fun _ _ _ H _ I h=>sy I hg hm ⟨v,H,I,r,h⟩ hd
theorem Yk {x:Str}{v:V}{u:Value}{pos:Pos} (hg:Gl X x) (hm:X.mg x=none) (hv:bootBuiltins x=some u) (r:RelV v u) (hn:x≠"__name__":=by decide) (hd:(x==("__debug__":Str))=false:=by decide):PE X (.Name x pos) (tC v):=
 fun _ _ _ H _ I h=>Al I hg hm hv ⟨v,H,I,r,h⟩ hn hd
variable {a b:Expr}{ta tb:TE}{pos:Pos}
def PC (X:Cx) (op:CmpOp) (a b:Expr) (t:TE):Prop:=
 ∀(pins:List (Addr×Obj)) (s:Shared) (σ:St) (H:Hp) (Q:VK),Inv X pins σ H s->t σ H Q->
  wpAny (model X.prog X.w) X.A (eval a X.env) (fun v s₁=>wpAny (model X.prog X.w) X.A (eval b X.env) (fun u s₂=>wpAny (model X.prog X.w) X.A (compareOp op v u) (EP X pins σ Q) X.xe s₂) X.xe s₁) X.xe s
def tB (t:TE):TT:=fun σ H Q=>t σ H fun x H1=>∃c,x= .bl c/\Q c H1
theorem UT {op:CmpOp}{t:TE} (h:PC X op a b t) (h1:behindInMarks op b=false:=by first | exact nobehind _ (by decide) (by decide) | rfl):PT X (.Compare a [op] [b] pos) (tB t):=by
 intro pins s σ H Q I hw
 refine wpAny_isTrue_Compare1 (thn (h pins s σ H _ I hw) fun v s1 h1=>thn h1 fun u s2 h2=>thn h2 fun c s3 ⟨x,H1,I1,r1,q1⟩=> ?_) h1
 obtain⟨d,rfl,q⟩:=q1
 cases r1
 exact wpAny_truthy_bool ⟨H1,I1,q⟩
theorem abS {e:Expr}{t:TE} (h:PE X e t) (he:∀whole,isTrue e X.env whole=(do let v <-whole;standAt e.pos;holding [v] (truthy v)):=by intro _;rfl):PT X e (tB t):=by
 intro pins s σ H Q I hw
 refine isTrue_plain (thn (h pins s σ H _ I hw) fun v s1 ⟨x,H1,I1,r1,q1⟩=> ?_) (he _)
 obtain⟨d,rfl,q⟩:=q1
 cases r1
 exact wpAny_truthy_bool ⟨H1,I1,q⟩
variable {tA tB':TT}{rest:List Expr}
def afb (t u:TT):TT:=fun σ H Q=>t σ H fun c H1=>if c=true then u σ H1 Q else Q false H1
def tOr (t u:TT):TT:=fun σ H Q=>t σ H fun c H1=>if c=true then Q true H1 else u σ H1 Q
def afc (t:TT):TT:=fun σ H Q=>t σ H fun c H1=>Q (!c) H1
theorem Yl (ha:PT X a tA):PW X (.BoolOp .And [a] pos) tA:=by
 intro wh pins s σ H Q I h
 refine isTrue_and (thn (ha pins s σ H Q I h) fun c s1 e=> ?_)
 cases c with
 | true=>exact isTrue_and_nil e
 | false=>exact e
theorem abT (ha:PT X a tA):PW X (.BoolOp .Or [a] pos) tA:=by
 intro wh pins s σ H Q I h
 refine isTrue_or (thn (ha pins s σ H Q I h) fun c s1 e=> ?_)
 cases c with
 | false=>exact isTrue_or_nil e
 | true=>exact e
theorem abU (ha:PT X a tA) (hb:PW X (.BoolOp .And (b::rest) pos) tB'):PW X (.BoolOp .And (a::b::rest) pos) (afb tA tB'):=by
 intro wh pins s σ H Q I h
 refine isTrue_and (thn (ha pins s σ H _ I h) fun c s1 ⟨H1,I1,q1⟩=> ?_)
 cases c with
 | true=>exact hb wh pins s1 σ H1 Q I1 q1
 | false=>exact⟨H1,I1,q1⟩
theorem afd (ha:PT X a tA) (hb:PW X (.BoolOp .Or (b::rest) pos) tB'):PW X (.BoolOp .Or (a::b::rest) pos) (tOr tA tB'):=by
 intro wh pins s σ H Q I h
 refine isTrue_or (thn (ha pins s σ H _ I h) fun c s1 ⟨H1,I1,q1⟩=> ?_)
 cases c with
 | true=>exact⟨H1,I1,q1⟩
 | false=>exact hb wh pins s1 σ H1 Q I1 q1
theorem abV (ha:PT X a tA):PT X (.UnaryOp .Not a pos) (afc tA):=by
 intro pins s σ H Q I h
 exact isTrue_not (ha pins s σ H (fun c H1=>Q (!c) H1) I h)
def aaK (ta tb:TE):TE:=fun σ H Q=>ta σ H fun x H1=>∃c,x= .bl c/\if c=true then tb σ H1 Q else Q (.bl false) H1
def aaL (ta:TE):TE:=fun σ H Q=>ta σ H fun x H1=>∃c,x= .bl c/\Q (.bl (!c)) H1
theorem abW {op}{t:TE} (h:PE X a t):PE X (.BoolOp op [a] pos) t:=fun pins s σ H Q I hw=>BoolOp_one (h pins s σ H Q I hw)
theorem abX (ha:PE X a ta) (hb:PE X (.BoolOp .And (b::rest) pos) tb):PE X (.BoolOp .And (a::b::rest) pos) (aaK ta tb):=by
 intro pins s σ H Q I h
 refine BoolOp_and (thn (ha pins s σ H _ I h) fun v s1 ⟨x,H1,I1,r1,q1⟩=> ?_)
 obtain⟨c,rfl,q1⟩:=q1
 cases r1
 refine wpAny_truthy_bool ?_
 cases c with
 | true=>exact hb pins s1 σ H1 Q I1 q1
 | false=>exact⟨.bl false,H1,I1,rfl,q1⟩
theorem abY (ha:PE X a ta):PE X (.UnaryOp .Not a pos) (aaL ta):=by
 intro pins s σ H Q I h
 refine UnaryOp_ (thn (ha pins s σ H _ I h) fun v s1 ⟨x,H1,I1,r1,q1⟩=> ?_)
 obtain⟨c,rfl,q1⟩:=q1
 cases r1
 exact not_of (wpAny_truthy_bool ⟨.bl (!c),H1,I1,rfl,q1⟩)
def tIf (t:TT) (ta tb:TE):TE:=fun σ H Q=>t σ H fun c H1=>if c=true then ta σ H1 Q else tb σ H1 Q
theorem UW {c:Expr} (hc:PT X c tA) (ha:PE X a ta) (hb:PE X b tb):PE X (.IfExp c a b pos) (tIf tA ta tb):=by
 intro pins s σ H Q I h
 refine wpAny_IfExp (thn (hc pins s σ H _ I h) fun d s1 ⟨H1,I1,q1⟩=> ?_)
 cases d with
 | true=>exact ha pins s1 σ H1 Q I1 q1
 | false=>exact hb pins s1 σ H1 Q I1 q1
end
def SqL (K:PySem.W.Frag) (H:Hp) (a:Addr) (xs:List V):Prop:=
 Rd H a (.lst xs)\/
  ∃(o:Obj) (its:Array Value) (n:Nat),K.lookup a=some o/\o.cls= .type "list"/\o.dict=none/\o.data= .seq its n/\its.size<=sizeLine/\Vals xs its.toList
def SqT (K:PySem.W.Frag) (H:Hp) (a:Addr) (xs:List V):Prop:=
 Rd H a (.tup xs)\/
  ∃(o:Obj) (its:Array Value) (n:Nat),K.lookup a=some o/\o.cls= .type "tuple"/\o.data= .seq its n/\its.size<=sizeLine/\Vals xs its.toList
def ai6:Value->Option V
 | .none=>some .non
 | .bool b=>some (.bl b)
 | .int i _=>some (.int i)
 | .str x _=>some (.str x)
 | .bytes b _=>some (.byt b)
 | .float b _=>some (.flt b)
 | .ref a=>some (.ref a)
 | .type n=>some (.ty n)
 | _=>none
theorem RelV.abs {x:V}{u:Value} (r:RelV x u):ai6 u=some x:=by
 cases x with
 | non=>cases r;rfl
 | bl _=>cases r;rfl
 | int _=>obtain⟨t,rfl⟩:=r;rfl
 | str _=>obtain⟨t,rfl⟩:=r;rfl
 | byt _=>obtain⟨t,rfl⟩:=r;rfl
 | flt _=>obtain⟨t,rfl⟩:=r;rfl
 | ref _=>cases r;rfl
 | ty _=>cases r;rfl
theorem RelV.inj {x y:V}{u:Value} (r:RelV x u) (q:RelV y u):x=y:=Option.some.inj (r.abs.symm.trans q.abs)
theorem Vals.inj:∀{xs ys:List V}{us:List Value},Vals xs us->Vals ys us->xs=ys
 | _,_,_, .nil, .nil=>rfl
 | _,_,_, .cons r t, .cons r' t'=>by rw[r.inj r',Vals.inj t t']
section
variable {X:Cx}{pins:List (Addr×Obj)}{σ:St}{H:Hp}{s:Shared}{a:Addr}{xs ys:List V}
theorem SqL.of {K:PySem.W.Frag} (h:H a=some (.lst xs)):SqL K H a xs:= .inl (.inl h)
theorem SqT.of {K:PySem.W.Frag} (h:H a=some (.tup xs)):SqT K H a xs:= .inl (.inl h)
theorem Inv.list (I:Inv X pins σ H s) (h:SqL X.K H a xs):∃its:List Value,Vals xs its/\PlainL s.heap a its.toArray/\xs.length<=sizeLine:=by
 rcases h with h | ⟨o,its,n,hk,hc,hd,hs,hz,r⟩
 ·obtain⟨z,its,n,r,e⟩:=h.ok I.hok
  exact⟨its,r,⟨_,n,e,rfl,rfl,rfl⟩,z⟩
 ·refine⟨its.toList,r,⟨o,n,I.kIn a o hk,hc,hd,by simpa using hs⟩, ?_⟩
  have e:=r.length
  simp only[Array.length_toList] at e
  omega
theorem Inv.tuple (I:Inv X pins σ H s) (h:SqT X.K H a xs):∃its:List Value,Vals xs its/\IsTup s.heap a its.toArray/\xs.length<=sizeLine:=by
 rcases h with h | ⟨o,its,n,hk,hc,hs,hz,r⟩
 ·obtain⟨z,its,r,p⟩:=h.ok I.hok
  exact⟨its,r,p,z⟩
 ·refine⟨its.toList,r,⟨o,I.kIn a o hk,hc,n,by simpa using hs⟩, ?_⟩
  have e:=r.length
  simp only[Array.length_toList] at e
  omega
theorem Inv.Mp (I:Inv X pins σ H s) (h:SqL X.K H a xs) (h':SqL X.K H a ys):xs=ys:=by
 obtain⟨its,r,⟨o,n,e,_,_,d⟩,_⟩:=I.list h
 obtain⟨its',r',⟨o',n',e',_,_,d'⟩,_⟩:=I.list h'
 rw[e] at e';cases e'
 rw[d] at d'
 injection d' with d1 _
 have:its=its':=by simpa using congrArg Array.toList d1
 subst this
 exact r.inj r'
theorem Inv.JN (I:Inv X pins σ H s) (h:SqT X.K H a xs) (h':SqT X.K H a ys):xs=ys:=by
 obtain⟨its,r,⟨o,e,_,n,d⟩,_⟩:=I.tuple h
 obtain⟨its',r',⟨o',e',_,n',d'⟩,_⟩:=I.tuple h'
 rw[e] at e';cases e'
 rw[d] at d'
 injection d' with d1 _
 have:its=its':=by simpa using congrArg Array.toList d1
 subst this
 exact r.inj r'
end
abbrev Cx.wish (X:Cx) (E:Value->Shared->Prop):Cx:={X with xe:=E}
abbrev Cx.nox (X:Cx):Cx:=X.wish fun _ _=>False
theorem Cx.Ok.wish {X:Cx} (ok:X.Ok) (E:Value->Shared->Prop):(X.wish E).Ok:=
 ⟨ok.mod,ok.kind,ok.glob,ok.blt,ok.above,ok.inj,ok.has,ok.cab,ok.hd,ok.frames,ok.stk,ok.exf,ok.bs,ok.bsz,ok.noex,ok.exfs,ok.funs,ok.frf⟩
theorem Cx.Ok.unwish {X:Cx}{E:Value->Shared->Prop} (ok:(X.wish E).Ok):X.Ok:=
 ⟨ok.mod,ok.kind,ok.glob,ok.blt,ok.above,ok.inj,ok.has,ok.cab,ok.hd,ok.frames,ok.stk,ok.exf,ok.bs,ok.bsz,ok.noex,ok.exfs,ok.funs,ok.frf⟩
section
variable {X:Cx}{pins:List (Addr×Obj)}{σ:St}{H:Hp}{s:Shared}{E:Value->Shared->Prop}
theorem Inv.wish (I:Inv X pins σ H s) (E:Value->Shared->Prop):Inv (X.wish E) pins σ H s:=⟨I.ok.wish E,I.os,I.bare,I.base,I.loc,I.cell,I.free,I.p7,I.pin,I.hok,I.len⟩
theorem Inv.unwish (I:Inv (X.wish E) pins σ H s):Inv X pins σ H s:=⟨I.ok.unwish,I.os,I.bare,I.base,I.loc,I.cell,I.free,I.p7,I.pin,I.hok,I.len⟩
theorem SP.unwish {D:Ends}{f:Flow}{s':Shared} (h:SP (X.wish E) pins D f s'):SP X pins D f s':=by
 cases f with
 | next=>obtain⟨σ',H',I,q⟩:=h;exact⟨σ',H',I.unwish,q⟩
 | brk=>obtain⟨σ',H',I,q⟩:=h;exact⟨σ',H',I.unwish,q⟩
 | cont=>obtain⟨σ',H',I,q⟩:=h;exact⟨σ',H',I.unwish,q⟩
 | ret u=>obtain⟨v,σ',H',I,r,q⟩:=h;exact⟨v,σ',H',I.unwish,r,q⟩
theorem PSs.nox {st:List Stmt}{t:TS} (h:PSs X.nox st t):PSs X st t:=fun pins s σ H D I hw=>
 wpAny_mono (h pins s σ H D (I.wish _) hw) (fun _ _ q=>q.unwish) fun _ _ z=>False.elim z
end
section
variable {X:Cx}{st:Stmt}{rest:List Stmt}{t u:TS}{e:Expr}{te:TE}{pos:Pos}
def QJ:TS:=fun D σ H=>D.nx σ H
def afe (t u:TS):TS:=fun D σ H=>t {D with nx:=u D} σ H
theorem Ym:PSs X [] QJ:=fun _ _ σ H _ I h=>wpAny_execs_nil ⟨σ,H,I,h⟩
theorem U0 (h1:PS X st t) (h2:PSs X rest u):PSs X (st::rest) (afe t u):=by
 intro pins s σ H D I h
 refine wpAny_execs_cons (thn (h1 pins s σ H {D with nx:=u D} I h) fun f s1 q=> ?_)
 cases f with
 | next=>
   obtain⟨σ',H',I',q⟩:=q
   exact h2 pins s1 σ' H' D I' q
 | ret v=>exact q
 | brk=>exact q
 | cont=>exact q
theorem Yn (h1:PS X st t):PSs X [st] t:=by
 intro pins s σ H D I h
 refine wpAny_execs_cons (thn (h1 pins s σ H D I h) fun f s1 q=> ?_)
 cases f with
 | next=>exact wpAny_execs_nil q
 | ret v=>exact q
 | brk=>exact q
 | cont=>exact q
def aaM:TS:=fun D σ H=>D.ct σ H
theorem Yo:PS X (.Pass pos) QJ:=fun _ _ σ H _ I h=>wpAny_Pass ⟨σ,H,I,h⟩
theorem Mq:PS X (.Continue pos) aaM:=fun _ _ σ H _ I h=>wpAny_Continue ⟨σ,H,I,h⟩
theorem Inv.quiet {pins:List (Addr×Obj)}{σ:St}{H:Hp}{s:Shared} (I:Inv X pins σ H s):interactive X.env=false:=by simp[interactive,I.ok.kind]
def aaN (te:TE):TS:=fun D σ H=>te σ H fun _ H1=>D.nx σ H1
theorem Yp (he:PE X e te) (hs:swapsWith e none pos.line X.env=pure false:=by rfl):PS X (.Expr e pos) (aaN te):=by
 intro pins s σ H D I h
 exact wpAny_Expr_any (thn (he pins s σ H _ I h) fun v s1 ⟨x,H1,I1,r1,q1⟩=>⟨σ,H1,I1,q1⟩) I.quiet hs
def afg (te:TE):TS:=fun D σ H=>te σ H D.rt
theorem abZ (he:PE X e te):PS X (.Return (some e) pos) (afg te):=by
 intro pins s σ H D I h
 exact wpAny_Return_some (thn (he pins s σ H _ I h) fun v s1 ⟨x,H1,I1,r1,q1⟩=>⟨x,σ,H1,I1,r1,q1⟩)
def afh (c:TT) (t u:TS):TS:=fun D σ H=>c σ H fun b H1=>if b=true then t D σ H1 else u D σ H1
theorem afi {c:Expr}{a b:List Stmt}{tc:TT} (hc:PT X c tc) (ha:PSs X a t) (hb:PSs X b u):PS X (.If c a b pos) (afh tc t u):=by
 intro pins s σ H D I h
 refine wpAny_If (thn (hc pins s σ H _ I h) fun d s1 ⟨H1,I1,q1⟩=> ?_)
 cases d with
 | true=>exact ha pins s1 σ H1 D I1 q1
 | false=>exact hb pins s1 σ H1 D I1 q1
end
abbrev TG:=V->St->Hp->(St->Hp->Prop)->Prop
abbrev TGs:=List V->St->Hp->(St->Hp->Prop)->Prop
def PG (X:Cx) (target:Expr) (t:TG):Prop:=
 ∀(pins:List (Addr×Obj)) (s:Shared) (σ:St) (H:Hp) (v:V) (u:Value) (Q:St->Hp->Prop),Inv X pins σ H s->RelV v u->t v σ H Q->
  wpAny (model X.prog X.w) X.A (assign target X.env u) (fun _ s'=>∃σ' H',Inv X pins σ' H' s'/\Q σ' H') X.xe s
def PGs (X:Cx) (ts:List Expr) (t:TGs):Prop:=
 ∀(pins:List (Addr×Obj)) (s:Shared) (σ:St) (H:Hp) (vs:List V) (us:List Value) (Q:St->Hp->Prop),Inv X pins σ H s->Vals vs us->t vs σ H Q->
  wpAny (model X.prog X.w) X.A (assignInOrder ((assignEach ts X.env).map (·.2)) us) (fun _ s'=>∃σ' H',Inv X pins σ' H' s'/\Q σ' H') X.xe s
section
variable {X:Cx}{pos:Pos}
def JP (i:Nat):TG:=fun v σ H Q=>Q (σ.set i (some v)) H
theorem QK {i:Nat}{x:Str} (hN:X.N.Nodup) (hi:X.N[i]? =some x) (hx:Loc X.env.scope x) (hf:X.fn x=true\/X.env.scope.names.lookup x=some .local:=by first | exact .inl rfl | exact .inr rfl | assumption):PG X (.Name x pos) (JP i):=by
 intro pins s σ H v u Q I r h
 exact wpAny_assign_Name (Hj I hN hi hx r (fun s' I'=>⟨_,H,I',h⟩) hf)
def afj:TGs:=fun vs σ H Q=>vs=[]/\Q σ H
def aaO (t:TG) (u:TGs):TGs:=fun vs σ H Q=>∃v r,vs=v::r/\t v σ H fun σ' H'=>u r σ' H' Q
theorem Yq:PGs X [] afj:=by
 intro pins s σ H vs us Q I r h
 obtain⟨e,h⟩:=h
 subst e
 cases r
 exact assignInOrder_nil ⟨σ,H,I,h⟩
theorem U3 {e:Expr}{es:List Expr}{t:TG}{u:TGs} (h1:PG X e t) (h2:PGs X es u)
 (hs:(assignEach (e::es) X.env).map (·.2)=assign e X.env::(assignEach es X.env).map (·.2):=by rfl):PGs X (e::es) (aaO t u):=by
 intro pins s σ H vs us Q I r h
 obtain⟨v,vr,e1,h⟩:=h
 subst e1
 cases r with
 | cons r rr=>
   rw[hs]
   refine assignInOrder_cons (thn (h1 pins s σ H _ _ _ I r h) fun _ s1 ⟨σ1,H1,I1,q1⟩=> ?_)
   exact h2 pins s1 σ1 H1 _ _ Q I1 rr q1
def ab0 (K:PySem.W.Frag) (n:Nat) (t:TGs):TG:=fun v σ H Q=>∃a xs,v= .ref a/\SqT K H a xs/\xs.length=n/\t xs σ H Q
theorem ab1 {es:List Expr}{k:Nat}{t:TGs}{n:Nat} (hc:X.calm=true) (h:PGs X es t)
 (hn:(assignEach es X.env).length=n:=by rfl) (hst:(assignEach es X.env).findIdx? (·.1)=none:=by rfl):PG X (.Tuple es k pos) (ab0 X.K n t):=by
 intro pins s σ H v u Q I r hw
 obtain⟨a,xs,e1,hq,hl,hw⟩:=hw
 subst e1
 cases r
 obtain⟨its,rv,ht,hz⟩:=I.tuple hq
 refine assign_Tuple_tuple (I.ok.hd hc) ht (by simp[hn,<-hl,rv.length]) hst fun h' hx=> ?_
 have I1:Inv X pins σ H {s with heap:=h'}:=I.kept (t':=s.toks) fun b o e=>hx b o (Nat.ne_of_lt (Heap.lt_size e)) e
 exact h pins _ σ H xs _ Q I1 (by simpa using rv) hw
def Yr (te:TE) (g:TG):TS:=fun D σ H=>te σ H fun x H1=>g x σ H1 D.nx
theorem ab2 {tg e:Expr}{te:TE}{g:TG} (he:PE X e te) (hg:PG X tg g) (hs:swapsWithSole [tg] e pos.line X.env=pure false:=by rfl) (hw:swappedStores [tg] e X.env=pure none:=by rfl)
 (h1:(assignEach [tg] X.env).map (·.2)=[assign tg X.env]:=by rfl):PS X (.Assign [tg] e pos) (Yr te g):=by
 intro pins s σ H D I h
 refine wpAny_Assign_stores (thn (he pins s σ H _ I h) fun v s1 ⟨x,H1,I1,r1,q1⟩=> ?_) hs hw
 rw[h1]
 exact thn (hg pins s1 σ H1 x v _ I1 r1 q1) fun _ s2 q=>q
theorem ab3 {i:Nat}{x:Str}{e:Expr}{te:TE}{pos':Pos} (hN:X.N.Nodup) (hi:X.N[i]? =some x) (hx:Loc X.env.scope x) (he:PE X e te) (hs:swapsWith e (some (.Name x pos')) pos.line X.env=pure false:=by rfl) (hf:X.fn x=true\/X.env.scope.names.lookup x=some .local:=by first | exact .inl rfl | exact .inr rfl | assumption):
 PS X (.Assign [.Name x pos'] e pos) (Yr te (JP i)):=by
 intro pins s σ H D I h
 refine wpAny_Assign_Name (thn (he pins s σ H _ I h) fun v s1 ⟨y,H1,I1,r1,q1⟩=> ?_) hs
 exact Hj I1 hN hi hx r1 (fun s2 I2=>⟨_,H1,I2,q1⟩) hf
end
section
variable {X:Cx}{pos:Pos}
def U4 (c:TT) (tb:TS):TS:=fun D σ H=>∃W:Nat->St->Hp->Prop,(∃m,W m σ H)/\∀m σ H,W m σ H->
 c σ H fun b H1=>if b=true then∃N:St->Hp->Prop,(∀σ' H',N σ' H'->∃m',m'<m/\W m' σ' H')/\tb {D with nx:=N,ct:=N,bk:=D.nx} σ H1 else D.nx σ H1
theorem U5 {c:Expr}{body:List Stmt}{tc:TT}{tb:TS} (hp:PassesOwn (model X.prog X.w) X.A X.env X.xe) (hc:PT X c tc) (hb:PSs X body tb):PS X (.While c body [] pos) (U4 tc tb):=by
 intro pins s σ H D I h
 obtain⟨W,⟨m0,w0⟩,turn⟩:=h
 refine wpAny_While (codeAny_whileLoop (fun n s'=>∃σ' H',Inv X pins σ' H' s'/\W n σ' H') ?_ m0 ⟨σ,H,I,w0⟩)
 rintro n s1 ⟨σ1,H1,I1,w1⟩
 refine wpAny_passesOwn hp (thn (hc pins s1 σ1 H1 _ I1 (turn n σ1 H1 w1)) fun b s2 ⟨H2,I2,q2⟩=> ?_)
 cases b with
 | true=>
   obtain⟨N,hN,q2⟩:=q2
   rw[if_pos rfl]
   refine wpAny_passesOwn hp (thn (hb pins s2 σ1 H2 _ I2 q2) fun f s3 q3=> ?_)
   cases f with
   | next=>
     obtain⟨σ3,H3,I3,n3⟩:=q3
     obtain⟨m',hm,w3⟩:=hN σ3 H3 n3
     exact⟨m',hm,σ3,H3,I3,w3⟩
   | cont=>
     obtain⟨σ3,H3,I3,n3⟩:=q3
     obtain⟨m',hm,w3⟩:=hN σ3 H3 n3
     exact⟨m',hm,σ3,H3,I3,w3⟩
   | brk=>exact q3
   | ret v=>exact q3
 | false=>
   rw[if_neg Bool.false_ne_true]
   exact wpAny_execs_nil ⟨σ1,H2,I2,q2⟩
end
structure It where
 go:Nat->Hp->Prop
 yld:Nat->Hp->V->Hp->Prop
 stop:Nat->Hp->Prop
def Es (X:Cx) (pins:List (Addr×Obj)) (H:Hp) (b:Addr):Prop:=
 H b=none/\b≠X.env.locals/\b∉X.fs/\(b∈X.ex\/X.s₀.heap.objs.size<=b)/\(∀x c,X.env.cells.lookup x=some c->c≠b)/\∀p∈X.pn++pins,p.1≠b
theorem Inv.O5 {X:Cx}{pins:List (Addr×Obj)}{σ:St}{H H':Hp}{s:Shared}{b:Addr} (I:Inv X pins σ H s) (hb:s.heap.objs.size<=b) (hn:H' b=none):Es X pins H' b:=by
 refine⟨hn,Nat.ne_of_gt (Nat.lt_of_lt_of_le I.lt hb),I.nofs hb, .inr (Nat.le_trans I.sz hb),fun x c e z=> ?_,fun p hp z=> ?_⟩
 ·obtain⟨v,q⟩:=I.cell x c e
  exact absurd (Nat.lt_of_lt_of_le q.lt (by rw[z];exact hb)) (Nat.lt_irrefl _)
 ·exact absurd (Nat.lt_of_lt_of_le (Heap.lt_size (I.pin p hp).1) (by rw[z];exact hb)) (Nat.lt_irrefl _)
structure Turn (P:Program) (w:World) (K:PySem.W.Frag) (tg:Expr) (J:It) (fp:List Addr) (it:Addr) (tn:Nat->Heap->Prop):Prop where
 mem:it∈fp
 obj:∀i h,tn i h->∀b∈fp,∃o,h.get? b=some o/\∀v,o.data≠ .cell v
 keep:∀i h h',tn i h->(∀b∈fp,∀o,h.get? b=some o->h'.get? b=some o)->tn i h'
 item:∀(X:Cx),X.prog=P->X.w=w->X.K=K->X.calm=true->∀(i:Nat) (pins:List (Addr×Obj)) (s:Shared) (σ:St) (H:Hp) (E:Value->Shared->Prop),Inv X pins σ H s->(∀b∈fp,Es X pins H b)->tn i s.heap->J.go i H->
  wpAny (model P w) X.A (pyNext (.ref it)) (fun r s1=>∃u,r=some u/\
   wpAny (model P w) X.A (letOwnedTupleGo tg (.ref it) u) (fun _ s2=>∃x H',Inv X pins σ H' s2/\RelV x u/\J.yld i H x H'/\tn (i+1) s2.heap/\∀b∈fp,H' b=none) E s1) E s
 done:∀(X:Cx),X.prog=P->X.w=w->X.K=K->X.calm=true->∀(i:Nat) (pins:List (Addr×Obj)) (s:Shared) (σ:St) (H:Hp) (E:Value->Shared->Prop),Inv X pins σ H s->(∀b∈fp,Es X pins H b)->tn i s.heap->J.stop i H->
  wpAny (model P w) X.A (pyNext (.ref it)) (fun r s1=>r=none/\Inv X pins σ H s1) E s
 self:∀(A:Around) (i:Nat) (s:Shared) (Q:Value->Shared->Prop) (E:Value->Shared->Prop),tn i s.heap->Q (.ref it) s->wpAny (model P w) A (pyIter (.ref it)) Q E s
abbrev TI:=St->Hp->(It->Hp->Prop)->Prop
def PIE (X:Cx) (pins:List (Addr×Obj)) (σ:St) (tg:Expr) (R:It->Hp->Prop) (itv:Value) (s2:Shared):Prop:=
 ∃(it:Addr) (fp:List Addr) (tn:Nat->Heap->Prop) (J:It) (H':Hp),itv= .ref it/\Inv X pins σ H' s2/\Turn X.prog X.w X.K tg J fp it tn/\tn 0 s2.heap/\(∀b∈fp,Es X pins H' b)/\R J H'
def PI (X:Cx) (tg iter:Expr) (wi:TI):Prop:=
 ∀(pins:List (Addr×Obj)) (s:Shared) (σ:St) (H:Hp) (R:It->Hp->Prop),Inv X pins σ H s->wi σ H R->
  wpAny (model X.prog X.w) X.A (eval iter X.env) (fun v s1=>wpAny (model X.prog X.w) X.A (pyIter v) (PIE X pins σ tg R) X.xe s1) X.xe s
theorem aaP {M:Model}{A:Around}{E:Value->Shared->Prop}{s:Shared}{tg:Expr}{it:Addr}{u:Value}{o:Obj}{n:String}{vs:Array Value}{Q:Unit->Shared->Prop} (ho:s.heap.get? it=some o) (hc:o.cls= .type n) (hd:o.data= .fields vs)
 (hn:["enumerate","zip","dict_itemiterator","dict_reverseitemiterator","odict_iterator","itertools.zip_longest","itertools.pairwise"].contains n=false) (hQ:Q () s):wpAny M A (letOwnedTupleGo tg (.ref it) u) Q E s:=by
 unfold letOwnedTupleGo
 cases tg<;>first
  | exact wpAny_pure hQ
  | (cases u<;>first
      | exact wpAny_pure hQ
      | (refine wpAny_bind (wpAny_load ho ?_)
         rw[hc,hd]
         show wpAny M A (if(["enumerate","zip","dict_itemiterator","dict_reverseitemiterator","odict_iterator","itertools.zip_longest","itertools.pairwise"].contains n&&vs[0]? ==some (rawInt _))=true then _ else _) Q E s
         rw[if_neg (by intro h;rw[hn,Bool.false_and] at h;cases h)]
         exact wpAny_pure hQ))
def Itl (K:PySem.W.Frag) (a:Addr):It:=
 ⟨fun i H=>∃xs x,SqL K H a xs/\xs[i]? =some x,fun i H x H'=>H'=H/\∀xs,SqL K H a xs->xs[i]? =some x,fun i H=>∃xs,SqL K H a xs/\xs.length<=i⟩
def Itr (lo:Int) (n:Nat):It:=⟨fun i _=>i<n,fun i H x H'=>H'=H/\x= .int (lo+i),fun i _=>n<=i⟩
theorem Tc {P:Program}{w:World}{K:PySem.W.Frag}{tg:Expr} (a it:Addr):Turn P w K tg (Itl K a) [it] it (fun i h=>h.IsListIter it a i) where
 mem:=by simp
 obj:=fun i h st b hb=>by
  have e:b=it:=by simpa using hb
  subst e
  obtain⟨o,e,c,d⟩:=st
  exact⟨o,e,fun v z=>by rw[d] at z;cases z⟩
 keep:=fun i h h' st k=>st.at fun o e=>k it (by simp) o e
 item:=by
  intro X hP hw hK hc i pins s σ H E I hf st hg
  subst hP hw hK
  obtain⟨xs,x,hq,hx⟩:=hg
  obtain⟨its,rv,p,hz⟩:=I.list hq
  obtain⟨u,hu,ru⟩:=rv.get hx
  obtain⟨f0,f1,f2,f3,f4,f5⟩:=hf it (by simp)
  refine wpAny_pyNext_list_item st p.isList (x:=u) (by simpa using hu) fun h' st' sb=> ?_
  have I1:Inv X pins σ H {s with heap:=h'}:=I.turned (t':=s.toks) (fun b o hb e=>(sb.2 b hb).trans e) f0 f1 f3 f4 f5
  obtain⟨o,e,c,d⟩:=id st'
  exact⟨u,rfl,aaP (s:={s with heap:=h'}) e c d (by decide) ⟨x,H,I1,ru,⟨rfl,fun ys hy=>by rw[I.Mp hy hq];exact hx⟩,st',fun b hb=>(hf b hb).1⟩⟩
 done:=by
  intro X hP hw hK hc i pins s σ H E I hf st hg
  subst hP hw hK
  obtain⟨xs,hq,hx⟩:=hg
  obtain⟨its,rv,p,hz⟩:=I.list hq
  obtain⟨f0,f1,f2,f3,f4,f5⟩:=hf it (by simp)
  have hl:=rv.length
  exact wpAny_pyNext_list_end (I.ok.hd hc) st p.isList (by simp;omega) fun h' eb=>⟨rfl,I.turned (t':=s.toks) (fun b o hb e=>eb b o hb e) f0 f1 f3 f4 f5⟩
 self:=fun _ _ _ _ _ st h=>wpAny_pyIter_listiter st h
theorem O6 {P:Program}{w:World}{K:PySem.W.Frag}{tg:Expr} (it:Addr) (lo:Int) (n:Nat):Turn P w K tg (Itr lo n) [it] it (fun i h=>IsRangeIter h it (lo+(i:Nat)* 1) ((n:Int) - (i:Nat)) 1) where
 mem:=by simp
 obj:=fun i h st b hb=>by
  have e:b=it:=by simpa using hb
  subst e
  exact⟨_,st,fun v z=>by
   have z':Data.fields _=Data.cell v:=z
   cases z'⟩
 keep:=fun i h h' st k=>k it (by simp) _ st
 item:=by
  intro X hP hw hK hc i pins s σ H E I hf st hg
  subst hP hw hK
  obtain⟨f0,f1,f2,f3,f4,f5⟩:=hf it (by simp)
  have W:=Walks.range (prog:=X.prog) (w:=X.w) (I.ok.hd hc) it lo 1 n
  refine W.item i s _ _ hg st fun v h' tk hv st' kk=> ?_
  obtain⟨t,rfl⟩:=hv
  have I1:Inv X pins σ H {s with heap:=h',toks:=tk}:=I.turned (fun b o hb e=>kk b o (by simpa using hb) e) f0 f1 f3 f4 f5
  refine⟨_,rfl,aaP (s:={s with heap:=h',toks:=tk}) (n:="range_iterator") st' rfl rfl (by decide) ⟨.int (lo+i),H,I1,⟨t, ?_⟩,⟨rfl,rfl⟩,st',fun b hb=>(hf b hb).1⟩⟩
  rw[Int.mul_one]
 done:=by
  intro X hP hw hK hc i pins s σ H E I hf st hg
  subst hP hw hK
  obtain⟨f0,f1,f2,f3,f4,f5⟩:=hf it (by simp)
  exact wpAny_pyNext_range_end (I.ok.hd hc) st (by have:n<=i:=hg;omega) fun h' eb=>⟨rfl,I.turned (t':=s.toks) (fun b o hb e=>eb b o hb e) f0 f1 f3 f4 f5⟩
 self:=fun _ _ _ _ _ st h=>wpAny_pyIter_rangeiter st h
section
variable {X:Cx}{tg:Expr}
def aaQ (K:PySem.W.Frag) (tl:TE):TI:=fun σ H R=>tl σ H fun x H1=>∃a,x= .ref a/\(∃xs,SqL K H1 a xs)/\R (Itl K a) H1
theorem Ys {l:Expr}{tl:TE} (hl:PE X l tl):PI X tg l (aaQ X.K tl):=by
 intro pins s σ H R I h
 refine thn (hl pins s σ H _ I h) fun v s1 ⟨x,H1,I1,r1,q1⟩=> ?_
 obtain⟨a,e,⟨xs,hq⟩,q⟩:=q1
 subst e
 cases r1
 obtain⟨its,rv,p,hz⟩:=I1.list hq
 refine wpAny_pyIter_list p.isList ?_
 refine⟨s1.heap.objs.size,[s1.heap.objs.size],_,_,H1,rfl,I1.kept (t':=s1.toks) fun b o e=>Heap.get?_push_of_some _ e,Tc a _,⟨_,Heap.get?_push_size _ rfl,rfl,rfl⟩,fun b hb=> ?_,q⟩
 have e:b=s1.heap.objs.size:=by simpa using hb
 subst e
 exact I1.O5 (Nat.le_refl _) (I1.hok.fresh (Nat.le_refl _))
theorem U6 {pins:List (Addr×Obj)}{σ:St}{H:Hp}{s:Shared}{R:It->Hp->Prop}{E:Value->Shared->Prop}{lo hi:Int}{t u v:Tok}{tk:Nat} (I:Inv X pins σ H s) (h1: -(2 ^ 62)<=lo) (h2:lo<2 ^ 62) (h3: -(2 ^ 62)<=hi) (h4:hi<2 ^ 62)
 (q:R (Itr lo (hi - lo).toNat) H):wpAny (model X.prog X.w) X.A (pyIter (.ref s.heap.objs.size)) (PIE X pins σ tg R) E {s with heap:=s.heap.push {cls:= .type "range",data:= .fields #[.int lo t, .int hi u, .int 1 v]},toks:=tk}:=by
 refine wpAny_pyIter_range (IsRange.new ..) (small_one h1 h2 h3 h4) ?_
 have I1:Inv X pins σ H {s with heap:=s.heap.push {cls:= .type "range",data:= .fields #[.int lo t, .int hi u, .int 1 v]},toks:=tk}:=I.kept fun b o e=>Heap.get?_push_of_some _ e
 refine⟨(s.heap.push {cls:= .type "range",data:= .fields #[.int lo t, .int hi u, .int 1 v]}).objs.size,[(s.heap.push {cls:= .type "range",data:= .fields #[.int lo t, .int hi u, .int 1 v]}).objs.size],_,_,H,rfl,
  I1.kept (t':=tk) fun b o e=>Heap.get?_push_of_some _ e,O6 _ lo (hi - lo).toNat, ?_,fun b hb=> ?_,q⟩
 ·have e1:lo+((0:Nat):Int)* 1=lo:=by simp
  have e2:(((hi - lo).toNat:Nat):Int) - ((0:Nat):Int)=Builtin.Range.rangeSize lo hi 1:=by rw[rangeSize_one];split<;>omega
  show IsRangeIter _ _ (lo+((0:Nat):Int)* 1) ((((hi - lo).toNat:Nat):Int) - ((0:Nat):Int)) 1
  rw[e1,e2]
  exact Heap.get?_push_size _ rfl
 ·have e:b=(s.heap.push {cls:= .type "range",data:= .fields #[.int lo t, .int hi u, .int 1 v]}).objs.size:=by simpa using hb
  subst e
  exact I1.O5 (Nat.le_refl _) (I1.hok.fresh (Nat.le_refl _))
def aaR (ta:TA):TI:=fun σ H R=>ta σ H fun vs H1=>∃j:Int,vs=[.int j]/\ -(2 ^ 62)<=j/\j<2 ^ 62/\R (Itr 0 j.toNat) H1
theorem Td {a:Expr}{ta:TA}{p pos:Pos} (hg:Gl X "range") (hm:X.mg "range"=none) (ha:PA X [a] ta) (hs:starEach [a] X.env=[(false,eval a X.env)]:=by rfl):PI X tg (.Call (.Name "range" p) [a] [] pos) (aaR ta):=by
 intro pins s σ H R I h
 refine Call_ (Al I hg hm boot_range (PyProof.Rows.callWith_type1 (thn (ha pos pins s σ H _ I h) fun us s1 ⟨vs,H1,I1,r1,q1⟩=> ?_) hs rfl))
 obtain⟨j,e,q1,q2,q⟩:=q1
 subst e
 cases r1 with
 | cons r rr=>
   cases rr
   obtain⟨t,rfl⟩:=r
   exact call_range_1 (U6 I1 (by omega) (by omega) q1 q2 (by simpa using q))
def afk (wi:TI) (g:TG) (tb:TS):TS:=fun D σ H=>wi σ H fun J H1=>∃W:Nat->Nat->St->Hp->Prop,(∃m,W 0 m σ H1)/\∀i m σ H,W i m σ H->
 (J.stop i H/\D.nx σ H)\/(J.go i H/\∃N:St->Hp->Prop,(∀σ' H',N σ' H'->∃m',m'<m/\W (i+1) m' σ' H')/\∀x H',J.yld i H x H'->g x σ H' fun σ2 H2=>tb {D with nx:=N,ct:=N,bk:=D.nx} σ2 H2)
def Hl (fp:List Addr) (h:Heap):List (Addr×Obj):=fp.filterMap fun b=>(h.get? b).map fun o=>(b,o)
theorem vo {fp:List Addr}{h:Heap}{b:Addr}{o:Obj} (hb:b∈fp) (e:h.get? b=some o):(b,o)∈Hl fp h:=List.mem_filterMap.mpr ⟨b,hb,by rw[e];rfl⟩
theorem Te {fp:List Addr}{h:Heap}{p:Addr×Obj} (hp:p∈Hl fp h):p.1∈fp/\h.get? p.1=some p.2:=by
 obtain⟨b,hb,e⟩:=List.mem_filterMap.mp hp
 cases q:h.get? b with
 | none=>rw[q] at e;cases e
 | some o=>
   rw[q] at e
   have e':(b,o)=p:=Option.some.inj e
   subst e'
   exact⟨hb,q⟩
theorem Inv.pinned {pins:List (Addr×Obj)}{σ:St}{H:Hp}{s:Shared}{fp:List Addr} (I:Inv X pins σ H s) (hf:∀b∈fp,Es X pins H b) (ho:∀b∈fp,∃o,s.heap.get? b=some o/\∀v,o.data≠ .cell v):Inv X (pins++Hl fp s.heap) σ H s:=
 I.QH fun p hp=>(List.mem_append.mp hp).elim (fun z=>I.pin p (List.mem_append_right _ z)) fun z=>by
   obtain⟨hb,e⟩:=Te z
   obtain⟨f0,f1,f2,_⟩:=hf p.1 hb
   obtain⟨o,e',d⟩:=ho p.1 hb
   rw[e] at e';cases e'
   exact⟨e,f0,f1,f2,d⟩
theorem Inv.unpinned {pins pl:List (Addr×Obj)}{σ:St}{H:Hp}{s:Shared} (I:Inv X (pins++pl) σ H s):Inv X pins σ H s:=I.QH fun p hp=>I.pin p (List.mem_append_right _ (List.mem_append_left _ hp))
theorem ab4 {iter:Expr}{body:List Stmt}{wi:TI}{g:TG}{tb:TS}{pos:Pos} (hp:PassesOwn (model X.prog X.w) X.A X.env X.xe) (hc:X.calm=true) (hi:PI X tg iter wi) (hg:PG X tg g) (hb:PSs X body tb)
 (hs:∀x,foldedSetIterable iter X.env x=pure x:=by intro _;rfl):PS X (.For tg iter body [] pos) (afk wi g tb):=by
 intro pins s σ H D I h
 refine wpAny_For (thn (hi pins s σ H _ I h) fun v s1 h1=>thn h1 fun itv s2 h2=> ?_) hs
 obtain⟨it,fp,tn,J,H2,e,I2,T,st2,f2,W,⟨m0,w0⟩,turn⟩:=h2
 subst e
 have stat:∀{H':Hp},(∀b∈fp,H' b=none)->∀b∈fp,Es X pins H' b:=fun hn b hb=>⟨hn b hb,(f2 b hb).2⟩
 refine codeAny_forLoop_any (fun n s'=>∃i σ' H',Inv X pins σ' H' s'/\tn i s'.heap/\(∀b∈fp,H' b=none)/\W i n σ' H') ?_ m0 ⟨0,σ,H2,I2,st2,fun b hb=>(f2 b hb).1,w0⟩
 rintro n s3 ⟨i,σ3,H3,I3,st3,fr3,w3⟩
 rcases turn i n σ3 H3 w3 with⟨stop,qn⟩ | ⟨go,N,hN,step⟩
 ·refine wpAny_passesOwn hp (thn (T.done X rfl rfl rfl hc i pins s3 σ3 H3 X.xe I3 (stat fr3) st3 stop) fun r s4 ⟨hr,I4⟩=> ?_)
  subst hr
  exact wpAny_execs_nil ⟨σ3,H3,I4,qn⟩
 ·refine wpAny_passesOwn hp (thn (T.item X rfl rfl rfl hc i pins s3 σ3 H3 X.xe I3 (stat fr3) st3 go) fun r s4 ⟨u,hr,h4⟩=> ?_)
  subst hr
  refine wpAny_passesOwn hp (thn h4 fun _ s5 ⟨x,H5,I5,r5,y5,st5,fr5⟩=> ?_)
  have I5':=I5.pinned (stat fr5) (T.obj _ _ st5)
  refine wpAny_passesOwn hp (thn (hg _ s5 σ3 H5 x u _ I5' r5 (step x H5 y5)) fun _ s6 ⟨σ6,H6,I6,q6⟩=> ?_)
  refine wpAny_passesOwn hp (thn (hb _ s6 σ6 H6 _ I6 q6) fun f s7 q7=> ?_)
  have again:∀{σ7:St}{H7:Hp},Inv X (pins++Hl fp s5.heap) σ7 H7 s7->N σ7 H7->∃m,m<n/\∃i σ' H',Inv X pins σ' H' s7/\tn i s7.heap/\(∀b∈fp,H' b=none)/\W i m σ' H':=fun{σ7 H7} I7 n7=>by
   obtain⟨m',hm,w7⟩:=hN σ7 H7 n7
   refine⟨m',hm,i+1,σ7,H7,I7.unpinned,T.keep _ _ _ st5 fun b hb o e=>(I7.pin (b,o) (List.mem_append_right _ (List.mem_append_right _ (vo hb e)))).1,fun b hb=> ?_,w7⟩
   obtain⟨o,e,d⟩:=T.obj _ _ st5 b hb
   exact(I7.pin (b,o) (List.mem_append_right _ (List.mem_append_right _ (vo hb e)))).2.1
  cases f with
  | next=>obtain⟨σ7,H7,I7,n7⟩:=q7;exact again I7 n7
  | cont=>obtain⟨σ7,H7,I7,n7⟩:=q7;exact again I7 n7
  | brk=>obtain⟨σ7,H7,I7,q7⟩:=q7;exact⟨σ7,H7,I7.unpinned,q7⟩
  | ret v=>obtain⟨x7,σ7,H7,I7,r7,q7⟩:=q7;exact⟨x7,σ7,H7,I7.unpinned,r7,q7⟩
end
theorem Ho {K:PySem.W.Frag}{a:Addr}{xs:List V}{g:TG}{tb:TS}{D:Ends}{σ:St}{H:Hp} (Pv:Nat->St->Hp->Prop) (h0:Pv 0 σ H) (hl:∀i σ H,i<=xs.length->Pv i σ H->SqL K H a xs)
 (hs:∀i x σ H,xs[i]? =some x->Pv i σ H->g x σ H fun σ2 H2=>tb {D with nx:=Pv (i+1),ct:=Pv (i+1),bk:=D.nx} σ2 H2) (hd:∀σ H,Pv xs.length σ H->D.nx σ H):
 ∃W:Nat->Nat->St->Hp->Prop,(∃m,W 0 m σ H)/\∀i m σ H,W i m σ H->
  ((Itl K a).stop i H/\D.nx σ H)\/((Itl K a).go i H/\∃N:St->Hp->Prop,(∀σ' H',N σ' H'->∃m',m'<m/\W (i+1) m' σ' H')/\∀x H',(Itl K a).yld i H x H'->g x σ H' fun σ2 H2=>tb {D with nx:=N,ct:=N,bk:=D.nx} σ2 H2):=by
 refine⟨fun i m σ H=>m=xs.length - i/\i<=xs.length/\Pv i σ H,⟨xs.length,by simp,Nat.zero_le _,h0⟩, ?_⟩
 rintro i m σ H ⟨rfl,hi,p⟩
 have q:=hl i σ H hi p
 by_cases hlt:i<xs.length
 ·refine .inr ⟨⟨xs,xs[i],q,by simp[hlt]⟩,Pv (i+1),fun σ' H' p'=>⟨xs.length - (i+1),by omega,rfl,hlt,p'⟩,fun x H' y=> ?_⟩
  obtain⟨e,y⟩:=y
  subst e
  exact hs i x σ _ (y xs q) p
 ·have e:i=xs.length:=by omega
  subst e
  exact .inl ⟨⟨xs,q,Nat.le_refl _⟩,hd σ H p⟩
theorem Tf {lo:Int}{n:Nat}{g:TG}{tb:TS}{D:Ends}{σ:St}{H:Hp} (Pv:Nat->St->Hp->Prop) (h0:Pv 0 σ H)
 (hs:∀i σ H,i<n->Pv i σ H->g (.int (lo+i)) σ H fun σ2 H2=>tb {D with nx:=Pv (i+1),ct:=Pv (i+1),bk:=D.nx} σ2 H2) (hd:∀σ H,Pv n σ H->D.nx σ H):
 ∃W:Nat->Nat->St->Hp->Prop,(∃m,W 0 m σ H)/\∀i m σ H,W i m σ H->
  ((Itr lo n).stop i H/\D.nx σ H)\/((Itr lo n).go i H/\∃N:St->Hp->Prop,(∀σ' H',N σ' H'->∃m',m'<m/\W (i+1) m' σ' H')/\∀x H',(Itr lo n).yld i H x H'->g x σ H' fun σ2 H2=>tb {D with nx:=N,ct:=N,bk:=D.nx} σ2 H2):=by
 refine⟨fun i m σ H=>m=n - i/\i<=n/\Pv i σ H,⟨n,by simp,Nat.zero_le _,h0⟩, ?_⟩
 rintro i m σ H ⟨rfl,hi,p⟩
 by_cases hlt:i<n
 ·refine .inr ⟨hlt,Pv (i+1),fun σ' H' p'=>⟨n - (i+1),by omega,rfl,hlt,p'⟩,fun x H' y=> ?_⟩
  obtain⟨e,y⟩:=y
  subst e y
  exact hs i σ _ hlt p
 ·have e:i=n:=by omega
  subst e
  exact .inl ⟨Nat.le_refl _,hd σ H p⟩
abbrev R2:=V->V->Hp->VK->Prop
def OpR (X:Cx) (f:Value->Value->Sem Value) (r:R2):Prop:=
 ∀(pins:List (Addr×Obj)) (s:Shared) (σ:St) (H:Hp) (x y:V) (v u:Value) (Q:VK),Inv X pins σ H s->RelV x v->RelV y u->r x y H Q->
  wpAny (model X.prog X.w) X.A (f v u) (EP X pins σ Q) X.xe s
def UnR (X:Cx) (f:Value->Sem Value) (r:V->Hp->VK->Prop):Prop:=
 ∀(pins:List (Addr×Obj)) (s:Shared) (σ:St) (H:Hp) (x:V) (v:Value) (Q:VK),Inv X pins σ H s->RelV x v->r x H Q->
  wpAny (model X.prog X.w) X.A (f v) (EP X pins σ Q) X.xe s
def sG (X:Cx) (f:Value) (r:List V->Hp->VK->Prop):Prop:=
 ∀(pins:List (Addr×Obj)) (s:Shared) (σ:St) (H:Hp) (xs:List V) (us:List Value) (Q:VK),Inv X pins σ H s->Vals xs us->r xs H Q->
  wpAny (model X.prog X.w) X.A (call f us) (EP X pins σ Q) X.xe s
def ai7 (X:Cx) (r:V->Hp->(Bool->Hp->Prop)->Prop):Prop:=
 ∀(pins:List (Addr×Obj)) (s:Shared) (σ:St) (H:Hp) (x:V) (v:Value) (Q:Bool->Hp->Prop),Inv X pins σ H s->RelV x v->r x H Q->
  wpAny (model X.prog X.w) X.A (truthy v) (TP X pins σ Q) X.xe s
def tOp (r:R2) (ta tb:TE):TE:=fun σ H Q=>ta σ H fun x H1=>tb σ H1 fun y H2=>r x y H2 Q
def tUn (r:V->Hp->VK->Prop) (ta:TE):TE:=fun σ H Q=>ta σ H fun x H1=>r x H1 Q
def rI (C:Int->Int->Prop) (g:Int->Int->V):R2:=fun x y H Q=>∃i j,x= .int i/\y= .int j/\C i j/\Q (g i j) H
def rI0 (g:Int->Int->V):R2:=fun x y H Q=>∃i j,x= .int i/\y= .int j/\Q (g i j) H
def rU (g:Int->V):V->Hp->VK->Prop:=fun x H Q=>∃i,x= .int i/\Q (g i) H
section
variable {X:Cx}{a b c:Expr}{ta tb tc:TE}{pos:Pos}
theorem ab5 (ha:PE X a ta) (hb:PE X b tb) {pins:List (Addr×Obj)}{s:Shared}{σ:St}{H:Hp}{R:V->V->Hp->Prop} (I:Inv X pins σ H s)
 (h:ta σ H fun x H1=>tb σ H1 fun y H2=>R x y H2) {Q:Value->Shared->Prop}{f:Value->Value->Sem Value}
 (hf:∀v u s2 x y H2,Inv X pins σ H2 s2->RelV x v->RelV y u->R x y H2->wpAny (model X.prog X.w) X.A (f v u) Q X.xe s2):
 wpAny (model X.prog X.w) X.A (eval a X.env) (fun v s₁=>wpAny (model X.prog X.w) X.A (eval b X.env) (fun u s₂=>wpAny (model X.prog X.w) X.A (f v u) Q X.xe s₂) X.xe s₁) X.xe s:=by
 refine thn (ha pins s σ H _ I h) fun v s1 ⟨x,H1,I1,r1,q1⟩=> ?_
 refine thn (hb pins s1 σ H1 _ I1 q1) fun u s2 ⟨y,H2,I2,r2,q2⟩=> ?_
 exact hf v u s2 x y H2 I2 r1 r2 q2
theorem afl {op:Operator}{r:R2} (ho:OpR X (binaryOp op) r) (ha:PE X a ta) (hb:PE X b tb):PE X (.BinOp a op b pos) (tOp r ta tb):=by
 intro pins s σ H Q I h
 exact wpAny_BinOp (ab5 ha hb I h fun v u s2 x y H2 I2 rx ry q=>ho pins s2 σ H2 x y v u Q I2 rx ry q)
theorem afm {op:UnaryOp}{r:V->Hp->VK->Prop} (ho:UnR X (unaryOp op) r) (ha:PE X a ta):PE X (.UnaryOp op a pos) (tUn r ta):=by
 intro pins s σ H Q I h
 exact UnaryOp_ (thn (ha pins s σ H _ I h) fun v s1 ⟨x,H1,I1,r1,q1⟩=>ho pins s1 σ H1 x v Q I1 r1 q1)
theorem opI {f:Value->Value->Sem Value}{C:Int->Int->Prop}{g:Int->Int->Int}
 (rule:∀(i j:Int) (t u:Tok) (s:Shared) (Q:Value->Shared->Prop) (E:Value->Shared->Prop),C i j->Q (.int (g i j) s.toks) {s with toks:=s.toks+1}->wpAny (model X.prog X.w) X.A (f (.int i t) (.int j u)) Q E s):
 OpR X f (rI C fun i j=> .int (g i j)):=by
 intro pins s σ H x y v u Q I rx ry h
 obtain⟨i,j,rfl,rfl,hc,q⟩:=h
 obtain⟨t,rfl⟩:=rx
 obtain⟨t',rfl⟩:=ry
 exact rule i j t t' s _ _ hc ⟨.int (g i j),H,I.tok _,⟨_,rfl⟩,q⟩
theorem afn {f:Value->Value->Sem Value}{g:Int->Int->Int}
 (rule:∀(i j:Int) (t u:Tok) (s:Shared) (Q:Value->Shared->Prop) (E:Value->Shared->Prop),Q (.int (g i j) s.toks) {s with toks:=s.toks+1}->wpAny (model X.prog X.w) X.A (f (.int i t) (.int j u)) Q E s):
 OpR X f (rI0 fun i j=> .int (g i j)):=by
 intro pins s σ H x y v u Q I rx ry h
 obtain⟨i,j,rfl,rfl,q⟩:=h
 obtain⟨t,rfl⟩:=rx
 obtain⟨t',rfl⟩:=ry
 exact rule i j t t' s _ _ ⟨.int (g i j),H,I.tok _,⟨_,rfl⟩,q⟩
theorem afo {f:Value->Value->Sem Value}{g:Int->Int->Bool}
 (rule:∀(i j:Int) (t u:Tok) (s:Shared) (Q:Value->Shared->Prop) (E:Value->Shared->Prop),Q (.bool (g i j)) s->wpAny (model X.prog X.w) X.A (f (.int i t) (.int j u)) Q E s):
 OpR X f (rI0 fun i j=> .bl (g i j)):=by
 intro pins s σ H x y v u Q I rx ry h
 obtain⟨i,j,rfl,rfl,q⟩:=h
 obtain⟨t,rfl⟩:=rx
 obtain⟨t',rfl⟩:=ry
 exact rule i j t t' s _ _ ⟨.bl (g i j),H,I,rfl,q⟩
def afp (i j:Int):Prop:=0<=j/\j<=1000000/\i.natAbs<2 ^ 64
inductive qR (i j:Int):Prop
 | inl (h: -(2 ^ 64)<i/\i<2 ^ 64)
 | inr (h: -(2 ^ 64)<j/\j<2 ^ 64)
 | big (h:IntMulOk i j)
theorem qR.ok {i j:Int} (h:qR i j):IntMulOk i j:=by
 cases h with
 | inl h=>exact IntMulOk.of_left (intBits_le_64 h.1 h.2)
 | inr h=>exact IntMulOk.of_right (intBits_le_64 h.1 h.2)
 | big h=>exact h
theorem ab6:OpR X (binaryOp .Add) (rI0 fun i j=> .int (i+j)):=afn fun _ _ _ _ _ _ _ q=>add_int q
theorem ab7:OpR X (binaryOp .Sub) (rI0 fun i j=> .int (i - j)):=afn fun _ _ _ _ _ _ _ q=>sub_int q
theorem ab8:OpR X (binaryOp .Mult) (rI qR fun i j=> .int (i * j)):=opI fun _ _ _ _ _ _ _ hc q=>mul_int q hc.ok
theorem ab9:OpR X (binaryOp .Mod) (rI (fun _ j=>0<j) fun i j=> .int (i % j)):=opI fun i j _ _ _ _ _ hc q=>by
 have h1:(0:Int)<j:=hc
 exact mod_int' (by omega) (by rw[Int.fmod_eq_emod_of_nonneg i (by omega)];exact q)
theorem acd:OpR X (binaryOp .Pow) (rI afp fun i j=> .int (i ^ j.toNat)):=opI fun _ _ _ _ _ _ _ hc q=>pow_int_small hc.1 hc.2.1 hc.2.2 q
theorem unI {f:Value->Sem Value}{g:Int->Int}
 (rule:∀(i:Int) (t:Tok) (s:Shared) (Q:Value->Shared->Prop) (E:Value->Shared->Prop),Q (.int (g i) s.toks) {s with toks:=s.toks+1}->wpAny (model X.prog X.w) X.A (f (.int i t)) Q E s):
 UnR X f (rU fun i=> .int (g i)):=by
 intro pins s σ H x v Q I rx h
 obtain⟨i,rfl,q⟩:=h
 obtain⟨t,rfl⟩:=rx
 exact rule i t s _ _ ⟨.int (g i),H,I.tok _,⟨_,rfl⟩,q⟩
theorem ace:UnR X (unaryOp .USub) (rU fun i=> .int (-i)):=unI fun _ _ _ _ _ q=>neg_int q
end
def afq:V->V->Bool
 | .non, .non=>true | .non, .int _=>true | .int _, .non=>true | .non, .bl _=>true | .bl _, .non=>true | .non, .str _=>true | .str _, .non=>true
 | .int _, .int _=>true | .bl _, .bl _=>true | .str _, .str _=>true | .byt _, .byt _=>true
 | .int _, .str _=>true | .str _, .int _=>true | .bl _, .str _=>true | .str _, .bl _=>true
 | _,_=>false
def rEq:R2:=fun x y H Q=>afq x y=true/\Q (.bl (decide (x=y))) H
def rNe:R2:=fun x y H Q=>afq x y=true/\Q (.bl (!decide (x=y))) H
theorem QL {i j:Int}:decide (V.int i=V.int j)=(i==j):=by
 rw[Bool.eq_iff_iff]
 simp
theorem U7 {i j:Bool}:decide (V.bl i=V.bl j)=(i==j):=by
 rw[Bool.eq_iff_iff]
 simp
theorem QM {i j:Str}:decide (V.str i=V.str j)=(i==j):=by
 rw[Bool.eq_iff_iff]
 simp
theorem QV {i j:Array UInt8}:decide (V.byt i=V.byt j)=(i.toList==j.toList):=by
 rw[Bool.eq_iff_iff]
 cases i
 cases j
 simp
section
variable {X:Cx}{a b c:Expr}{ta tb tc:TE}{pos:Pos}
theorem fj {pins:List (Addr×Obj)}{σ:St}{H:Hp}{s:Shared}{Q:VK}{k k':Bool} (I:Inv X pins σ H s) (q:Q (.bl k) H) (e:k=k'):EP X pins σ Q (.bool k') s:=by
 subst e
 exact⟨.bl k,H,I,rfl,q⟩
theorem afr:OpR X (compareOp .Eq) rEq:=by
 intro pins s σ H x y v u Q I rx ry h
 obtain⟨hs,q⟩:=h
 cases x with
 | non=>
   cases rx
   cases y with
   | non=>cases ry;exact PySem.EqNone.eq_none_none (fj I q (by simp))
   | bl j=>cases ry;exact PySem.EqNone.eq_none_bool (fj I q (by simp))
   | int j=>obtain⟨t',rfl⟩:=ry;exact PySem.EqNone.eq_none_int (fj I q (by simp))
   | str j=>obtain⟨t',rfl⟩:=ry;exact PySem.EqNone.eq_none_str (fj I q (by simp))
   | _=>exact absurd (show false=true from hs) Bool.false_ne_true
 | bl i=>
   cases rx
   cases y with
   | non=>cases ry;exact PySem.EqNone.eq_bool_none (fj I q (by simp))
   | bl j=>cases ry;exact eq_bool (fj I q U7)
   | str j=>obtain⟨t',rfl⟩:=ry;exact PySem.EqMixed.eq_bool_str (fj I q (by simp))
   | _=>exact absurd (show false=true from hs) Bool.false_ne_true
 | int i=>
   obtain⟨t,rfl⟩:=rx
   cases y with
   | non=>cases ry;exact PySem.EqNone.eq_int_none (fj I q (by simp))
   | int j=>obtain⟨t',rfl⟩:=ry;exact eq_int (fj I q QL)
   | str j=>obtain⟨t',rfl⟩:=ry;exact PySem.EqMixed.eq_int_str (fj I q (by simp))
   | _=>exact absurd (show false=true from hs) Bool.false_ne_true
 | str i=>
   obtain⟨t,rfl⟩:=rx
   cases y with
   | non=>cases ry;exact PySem.EqNone.eq_str_none (fj I q (by simp))
   | bl j=>cases ry;exact PySem.EqMixed.eq_str_bool (fj I q (by simp))
   | int j=>obtain⟨t',rfl⟩:=ry;exact PySem.EqMixed.eq_str_int (fj I q (by simp))
   | str j=>obtain⟨t',rfl⟩:=ry;exact eq_str (fj I q QM)
   | _=>exact absurd (show false=true from hs) Bool.false_ne_true
 | byt i=>
   obtain⟨t,rfl⟩:=rx
   cases y with
   | byt j=>obtain⟨t',rfl⟩:=ry;exact PySem.W.eq_bytes (fj I q QV)
   | _=>exact absurd (show false=true from hs) Bool.false_ne_true
 | _=>cases y<;>exact absurd (show false=true from hs) Bool.false_ne_true
theorem afs:OpR X (compareOp .NotEq) rNe:=by
 intro pins s σ H x y v u Q I rx ry h
 obtain⟨hs,q⟩:=h
 cases x with
 | non=>
   cases rx
   cases y with
   | non=>cases ry;exact PySem.EqNone.ne_none_none (fj I q (by simp))
   | bl j=>cases ry;exact PySem.EqNone.ne_none_bool (fj I q (by simp))
   | int j=>obtain⟨t',rfl⟩:=ry;exact PySem.EqNone.ne_none_int (fj I q (by simp))
   | str j=>obtain⟨t',rfl⟩:=ry;exact PySem.EqNone.ne_none_str (fj I q (by simp))
   | _=>exact absurd (show false=true from hs) Bool.false_ne_true
 | bl i=>
   cases rx
   cases y with
   | non=>cases ry;exact PySem.EqNone.ne_bool_none (fj I q (by simp))
   | bl j=>cases ry;exact ne_bool (fj I q (congrArg not U7))
   | str j=>obtain⟨t',rfl⟩:=ry;exact PySem.EqMixed.ne_bool_str (fj I q (by simp))
   | _=>exact absurd (show false=true from hs) Bool.false_ne_true
 | int i=>
   obtain⟨t,rfl⟩:=rx
   cases y with
   | non=>cases ry;exact PySem.EqNone.ne_int_none (fj I q (by simp))
   | int j=>obtain⟨t',rfl⟩:=ry;exact ne_int (fj I q (congrArg not QL))
   | str j=>obtain⟨t',rfl⟩:=ry;exact PySem.EqMixed.ne_int_str (fj I q (by simp))
   | _=>exact absurd (show false=true from hs) Bool.false_ne_true
 | str i=>
   obtain⟨t,rfl⟩:=rx
   cases y with
   | non=>cases ry;exact PySem.EqNone.ne_str_none (fj I q (by simp))
   | bl j=>cases ry;exact PySem.EqMixed.ne_str_bool (fj I q (by simp))
   | int j=>obtain⟨t',rfl⟩:=ry;exact PySem.EqMixed.ne_str_int (fj I q (by simp))
   | str j=>obtain⟨t',rfl⟩:=ry;exact ne_str (fj I q (congrArg not QM))
   | _=>exact absurd (show false=true from hs) Bool.false_ne_true
 | byt i=>
   obtain⟨t,rfl⟩:=rx
   cases y with
   | byt j=>obtain⟨t',rfl⟩:=ry;exact PySem.W.ne_bytes (fj I q (congrArg not QV))
   | _=>exact absurd (show false=true from hs) Bool.false_ne_true
 | _=>cases y<;>exact absurd (show false=true from hs) Bool.false_ne_true
theorem aft:OpR X (compareOp .Lt) (rI0 fun i j=> .bl (decide (i<j))):=afo fun _ _ _ _ _ _ _ q=>lt_int q
theorem afu:OpR X (compareOp .Gt) (rI0 fun i j=> .bl (decide (j<i))):=afo fun _ _ _ _ _ _ _ q=>gt_int q
theorem acf:OpR X (compareOp .Is) (fun x y H Q=>y= .non/\Q (.bl (decide (x= .non))) H):=by
 intro pins s σ H x y v u Q I rx ry h
 obtain⟨rfl,q⟩:=h
 cases ry
 refine is_none_gen (fj I q ?_)
 cases x<;>first
  | (cases rx;rfl)
  | (obtain⟨t,rfl⟩:=rx;rfl)
theorem Yt:OpR X (compareOp .IsNot) (fun x y H Q=>y= .non/\Q (.bl (!decide (x= .non))) H):=by
 intro pins s σ H x y v u Q I rx ry h
 obtain⟨rfl,q⟩:=h
 cases ry
 refine isnot_none_gen (fj I q ?_)
 cases x<;>first
  | (cases rx;rfl)
  | (obtain⟨t,rfl⟩:=rx;rfl)
theorem acg (b:Expr) {op:CmpOp} (h:op≠ .In:=by decide) (h2:op≠ .NotIn:=by decide):behindInMarks op b=false:=by
 have e1:(op==CmpOp.In)=false:=by cases op<;>first | rfl | exact absurd rfl h
 have e2:(op==CmpOp.NotIn)=false:=by cases op<;>first | rfl | exact absurd rfl h2
 cases b<;>simp[behindInMarks,e1,e2]
theorem Yu {op:CmpOp}{r:R2} (ho:OpR X (compareOp op) r) (ha:PE X a ta) (hb:PE X b tb) (hm:behindInMarks op b=false):PE X (.Compare a [op] [b] pos) (tOp r ta tb):=by
 intro pins s σ H Q I h
 exact wpAny_Compare1 (ab5 ha hb I h fun v u s2 x y H2 I2 rx ry q=>ho pins s2 σ H2 x y v u Q I2 rx ry q) hm
def aaS (t:TE):TT:=fun σ H Q=>t σ H fun x H'=>∃k,x= .bl k/\Q k H'
theorem Yv {op:CmpOp}{r:R2} (ho:OpR X (compareOp op) r) (ha:PE X a ta) (hb:PE X b tb) (hm:behindInMarks op b=false):PT X (.Compare a [op] [b] pos) (aaS (tOp r ta tb)):=by
 intro pins s σ H Q I h
 refine wpAny_isTrue_Compare1 (thn (ha pins s σ H _ I h) fun v s1 ⟨x,H1,I1,r1,q1⟩=>thn (hb pins s1 σ H1 _ I1 q1) fun u s2 ⟨y,H2,I2,r2,q2⟩=>
  thn (ho pins s2 σ H2 x y v u _ I2 r1 r2 q2) fun c s3 ⟨z,H3,I3,r3,k,e,q3⟩=> ?_) hm
 subst e
 cases r3
 exact wpAny_truthy_bool ⟨H3,I3,q3⟩
def ach (K:PySem.W.Frag) (x:V) (H:Hp) (k:Bool):Prop:=
 match x with
 | .non=>k=false
 | .bl b=>k=b
 | .int i=>k=(i !=0)
 | .str y=>y.length<=sizeLine/\k=((y.length:Int) !=0)
 | .byt y=>y.size<=sizeLine/\k=((y.size:Int) !=0)
 | .ref p=>(∃xs,SqL K H p xs/\k= !xs.isEmpty)\/(∃xs,SqT K H p xs/\k= !xs.isEmpty)\/∃kvs,H p=some (.dK kvs)/\k= !kvs.isEmpty
 | _=>False
theorem O7 {κ:Type}{kvs:List (κ×V)}{vs:List (κ×Value)} (r:KV kvs vs):(!vs.isEmpty)= !kvs.isEmpty:=by
 cases r<;>rfl
theorem Hq {xs:List V}{its:List Value} (r:Vals xs its):(!its.toArray.isEmpty)= !xs.isEmpty:=by
 cases r<;>simp
theorem Hr:(sizeLine:Nat)<2 ^ 63:=by rw[sizeLine_eq];decide
theorem aci:ai7 X (fun x H Q=>∃k,ach X.K x H k/\Q k H):=by
 intro pins s σ H x v Q I rx h
 obtain⟨k,e,q⟩:=h
 have hl:=Hr
 have hs:sizeLine=16777216:=sizeLine_eq
 cases x with
 | non=>
   cases rx
   have e':k=false:=e
   subst e'
   exact truthy_none ⟨H,I,q⟩
 | bl b=>
   cases rx
   have e':k=b:=e
   subst e'
   exact wpAny_truthy_bool ⟨H,I,q⟩
 | int i=>
   obtain⟨t,rfl⟩:=rx
   have e':k=(i !=0):=e
   subst e'
   exact PySem.P.truthy_int ⟨H,I,q⟩
 | str y=>
   obtain⟨t,rfl⟩:=rx
   obtain⟨hy,e'⟩:y.length<=sizeLine/\k=((y.length:Int) !=0):=e
   subst e'
   exact PySem.P.truthy_str (by omega) ⟨H,I.tok _,q⟩
 | byt y=>
   obtain⟨t,rfl⟩:=rx
   obtain⟨hy,e'⟩:y.size<=sizeLine/\k=((y.size:Int) !=0):=e
   subst e'
   exact PySem.W.truthy_bytes (by omega) ⟨H,I.tok _,q⟩
 | ref p=>
   cases rx
   have e':(∃xs,SqL X.K H p xs/\k= !xs.isEmpty)\/(∃xs,SqT X.K H p xs/\k= !xs.isEmpty)\/∃kvs,H p=some (.dK kvs)/\k= !kvs.isEmpty:=e
   rcases e' with⟨xs,hx,e'⟩ | ⟨xs,hx,e'⟩ | ⟨kvs,hx,e'⟩
   ·subst e'
    obtain⟨its,r,pl,hz⟩:=I.list hx
    have hlen:=r.length
    exact wpAny_truthy_list pl.isList (by simp only[List.size_toArray];omega) ⟨H,I.tok _,by rw[Hq r];exact q⟩
   ·subst e'
    obtain⟨its,r,pl,hz⟩:=I.tuple hx
    have hlen:=r.length
    exact truthy_tuple pl (by simp only[List.size_toArray];omega) ⟨H,I.tok _,by rw[Hq r];exact q⟩
   ·subst e'
    obtain⟨hz,hS,vs,r,m⟩:kvs.length<=sizeLine/\(p==sysModules)=false/\∃vs,KV kvs vs/\s.heap.DictOf (jc X.prog X.w) p vs:=I.hok p _ hx
    have hlen:kvs.length=vs.length:=Paired.length r
    exact wpAny_truthy_dict hS m (by omega) ⟨H,I.tok _,by rw[O7 r];exact q⟩
 | _=>exact(show False from e).elim
theorem U8 (ha:PE X a ta) (he:∀whole,isTrue a X.env whole=(do let v <-whole;standAt a.pos;holding [v] (truthy v))):
 PT X a (fun σ H Q=>ta σ H fun x H'=>∃k,ach X.K x H' k/\Q k H'):=by
 intro pins s σ H Q I h
 exact isTrue_plain (thn (ha pins s σ H _ I h) fun v s1 ⟨x,H1,I1,r1,q1⟩=>aci pins s1 σ H1 x v Q I1 r1 q1) (he _)
theorem vals1 {x:V}{us:List Value} (r:Vals [x] us):∃u,us=[u]/\RelV x u:=by
 cases r with
 | cons r1 r2=>cases r2;exact⟨_,rfl,r1⟩
theorem vals2 {x y:V}{us:List Value} (r:Vals [x,y] us):∃u w',us=[u,w']/\RelV x u/\RelV y w':=by
 cases r with
 | cons r1 r2=>
   cases r2 with
   | cons r3 r4=>cases r4;exact⟨_,_,rfl,r1,r3⟩
theorem Tg (hc:X.calm=true):sG X (.builtin "max") (fun xs H Q=>∃i j,xs=[.int i, .int j]/\Q (.int (if j>i then j else i)) H):=by
 intro pins s σ H xs us Q I r h
 obtain⟨i,j,rfl,q⟩:=h
 obtain⟨u,w',rfl,⟨t,rfl⟩,⟨t',rfl⟩⟩:=vals2 r
 refine max_two_ints (I.ok.hd hc) fun h' tk k=>⟨_,H,I.kept k, ?_,q⟩
 by_cases hj:j>i
 ·rw[if_pos hj,if_pos hj];exact⟨_,rfl⟩
 ·rw[if_neg hj,if_neg hj];exact⟨_,rfl⟩
theorem Tj (hc:X.calm=true):sG X (.builtin "min") (fun xs H Q=>∃i j,xs=[.int i, .int j]/\Q (.int (if j<i then j else i)) H):=by
 intro pins s σ H xs us Q I r h
 obtain⟨i,j,rfl,q⟩:=h
 obtain⟨u,w',rfl,⟨t,rfl⟩,⟨t',rfl⟩⟩:=vals2 r
 refine min_two_ints (I.ok.hd hc) fun h' tk k=>⟨_,H,I.kept k, ?_,q⟩
 by_cases hj:j<i
 ·rw[if_pos hj,if_pos hj];exact⟨_,rfl⟩
 ·rw[if_neg hj,if_neg hj];exact⟨_,rfl⟩
theorem Tn:sG X (.type "int") (fun xs H Q=>(∃i,xs=[.int i]/\Q (.int i) H)\/∃k,xs=[.bl k]/\Q (.int (if k then 1 else 0)) H):=by
 intro pins s σ H xs us Q I r h
 rcases h with⟨i,rfl,q⟩ | ⟨k,rfl,q⟩
 ·obtain⟨u,rfl,t,rfl⟩:=vals1 r
  exact call_int_int ⟨.int i,H,I,⟨_,rfl⟩,q⟩
 ·obtain⟨u,rfl,r1⟩:=vals1 r
  cases r1
  exact call_int_bool ⟨.int (if k then 1 else 0),H,I.tok _,⟨_,rfl⟩,q⟩
end
structure O8 (h:Heap) (x dx C:Addr) (mA:Str->Option Value):Prop where
 obj:h.get? x=some (PySem.W.instObj C dx)
 ns:h.Ns1 dx mA
 ne:dx≠x
theorem Tp {h:Heap}{dx:Addr}{mA:Str->Option Value} (n:h.Ns1 dx mA):∃od,h.get? dx=some od/\∀name,PySem.W.lookIn name od=some (mA name):=by
 obtain⟨o,es,ep,ho,hd,hk,_,hm⟩:=n
 refine⟨o,ho,fun name=> ?_⟩
 have e:=hm name
 unfold nsFind findBy at e
 rw[<-Array.find?_toList] at e
 unfold PySem.W.lookIn
 rw[hd]
 dsimp only
 split
 ·rename_i y q
  rw[q] at e
  exact congrArg some e
 ·rename_i q
  rw[q] at e
  have a:es.toList.any (·.refKey)=false:=by
   rw[List.any_eq_false]
   intro y hy
   obtain⟨z,t,hkey⟩:=hk y (Array.mem_toList_iff.mp hy)
   simp[DictEntry.refKey,hkey]
  have a':¬es.toList.any (·.refKey)=true:=by rw[a];exact Bool.false_ne_true
  rw[if_neg a']
  exact congrArg some e
theorem O8.look {h:Heap}{x dx C:Addr}{mA:Str->Option Value} (I:O8 h x dx C mA):∃od,PySem.W.InstAt h x (PySem.W.instObj C dx) C (some od)/\∀name,PySem.W.lookIn name od=some (mA name):=
 let ⟨od,ho,hl⟩:=Tp I.ns
 ⟨od,⟨I.obj,rfl,rfl,ho⟩,hl⟩
section
variable {prog:Program}{w:World}{A:Around}{E:Value->Shared->Prop}{s:Shared}{K:PySem.W.Frag}{x dx C f:Addr}{mA:Str->Option Value}{name:Str}{v:Value}
theorem get_map {expr:Bool}{Q:Value->Shared->Prop} (X:K.In s.heap) (I:O8 s.heap x dx C mA) (hg:PySem.W.plainGet K C name=true) (hh:PySem.W.hasDictIn K C=true)
 (ha:PySem.W.findIn K (.ref C) name=some none) (hv:mA name=some v) (hv':PySem.W.handedIn v=true) (h:Q v {s with toks:=s.toks+1}):
 wpAny (model prog w) A (getAttr (.ref x) name expr) Q E s:=by
 obtain⟨od,J,hl⟩:=I.look
 exact PySem.W.get_value X J (PySem.W.plainGet_of hg).1 (PySem.W.findObj_own hh ha rfl (by rw[hl,hv])) hv' h
theorem U9 {pl:Sem Bool}{Q:Value×List Value->Shared->Prop} (X:K.In s.heap) (I:O8 s.heap x dx C mA) (hg:PySem.W.plainGet K C name=true)
 (hf:PySem.W.findIn K (.ref C) name=some (some (.ref f))) (ht:PySem.W.isFn K (.ref f)=true) (hv:mA name=none) (h:Q (.ref f,[.ref x]) s):
 wpAny (model prog w) A (getMethod (.ref x) name pl) Q E s:=by
 obtain⟨od,J,hl⟩:=I.look
 exact PySem.W.method_fn X J (PySem.W.plainGet_of hg).1 (PySem.W.plainGet_of hg).2 hf (beq_iff_eq.mp ht) (by show(PySem.W.lookIn name od).map (·.isSome)=some false;rw[hl,hv];rfl) h
theorem Yw {ns:List Str}{Q:Unit->Shared->Prop} (X:K.In s.heap) (I:O8 s.heap x dx C mA)
 (hs:PySem.W.findIn K (.ref C) "__setattr__"=some (some (.builtin "object.__setattr__"))) (hp:PySem.W.plainOver K C=true) (ht:PySem.W.takerIn K C name=some none) (hh:PySem.W.hasDictIn K C=true)
 (hw:PySem.Within mA ns) (hsz:ns.length<=sizeLine)
 (h:∀h',O8 h' x dx C (fun y=>if y=name then some v else mA y)->Heap.SameBut dx s.heap h'->Q () {s with heap:=h',toks:=s.toks+2}):
 wpAny (model prog w) A (setAttr (.ref x) name v) Q E s:=by
 obtain⟨od,J,hl⟩:=I.look
 refine PySem.W.set_plain X J hs (PySem.W.osa_open (s:={s with toks:=s.toks+1}) (r:=none) X J hp ht fun b=> ?_)
 obtain⟨cd,hc,hd'⟩:=PySem.W.any_some hh
 have hx:s.heap.get? x=some ⟨.ref C,some dx, .plain, #[]⟩:=I.obj
 refine wpAny_bind (wpAny_pure (wpAny_bind (wpAny_bind (wpAny_loadPart hx (wpAny_bind (PySem.W.Looks.here (s:={s with toks:=s.toks+1}) (PySem.W.looks_clsIn X hc) ?_))))))
 rw[hd']
 refine wpAny_pure (a:=some dx) (wpAny_bind (wpAny_pure (wpAny_bind ?_)))
 refine wpAny_nsSet1 (s:={s with toks:=s.toks+1}) I.ns fun h' hn2 hs2=> ?_
 obtain⟨oD,esD,epD,hoD,hdD,hcD⟩:=hn2.count (PySem.Within.cons name v hw)
 refine wpAny_bind (wpAny_lookBehind hoD (by rw[hdD];exact pastItsLine_dict (Nat.le_trans hcD (by rw[List.length_cons];omega))) ?_)
 exact wpAny_pure (h _ ⟨(hs2.2 _ (Ne.symm I.ne)).trans I.obj,hn2,I.ne⟩ hs2)
theorem Va {R:Result->Shared->Prop}{vs:List Value}{kw:List (Str×Value)} (X:K.In s.heap) (hm:PySem.W.makesIn K C=true)
 (hi:PySem.W.findIn K (.ref C) "__init__"=some (some (.ref f))) (hf:PySem.W.typeIn K (.ref f)=some (.type "function"))
 (h:codeAny (model prog w) (A.under (.builtin "type.__call__" ⟨.ref C::vs,kw⟩)) (.call (.ref f) ⟨.ref (s.heap.objs.size+1)::vs,kw⟩) (PySem.W.InitBack (s.heap.objs.size+1) R)
   {s with heap:=(s.heap.push PySem.W.emptyDict).push (PySem.W.instObj C s.heap.objs.size)}):
 codeAny (model prog w) A (.call (.ref C) ⟨vs,kw⟩) R s:=by
 obtain⟨hh,g,d,t,os⟩:=s
 exact PySem.W.make_core (PySem.W.makes_of X hm) (PySem.W.looks_findIn X hi) (fun self=>PySem.W.bind_fn X self hf) (.inl rfl) h
end
def bf (f:Str) (v:V):List (Str×V)->List (Str×V)
 |[]=>[(f,v)]
 | (g,x)::r=>if g=f then(g,v)::r else(g,x)::bf f v r
theorem Gj (f g:Str) (v:V):∀fs:List (Str×V),(bf f v fs).lookup g=if g=f then some v else fs.lookup g
 |[]=>by
  show List.lookup g [(f,v)]=_
  by_cases h:g=f
  ·have hb:(g==f)=true:=beq_iff_eq.mpr h
   simp only[List.lookup,hb,if_pos h]
  ·have hb:(g==f)=false:=beq_eq_false_iff_ne.mpr h
   simp only[List.lookup,hb,if_neg h]
 | (k,x)::r=>by
   have ih:=Gj f g v r
   rw[show bf f v ((k,x)::r)=(if k=f then(k,v)::r else(k,x)::bf f v r) from rfl]
   by_cases hk:k=f
   ·rw[if_pos hk]
    by_cases h:g=k
    ·have hb:(g==k)=true:=beq_iff_eq.mpr h
     simp only[List.lookup,hb,if_pos (h.trans hk)]
    ·have hb:(g==k)=false:=beq_eq_false_iff_ne.mpr h
     simp only[List.lookup,hb,if_neg (fun e:g=f=>h (e.trans hk.symm))]
   ·rw[if_neg hk]
    by_cases h:g=k
    ·have hb:(g==k)=true:=beq_iff_eq.mpr h
     simp only[List.lookup,hb,if_neg (fun e:g=f=>hk (h.symm.trans e))]
    ·have hb:(g==k)=false:=beq_eq_false_iff_ne.mpr h
     simp only[List.lookup,hb]
     exact ih
theorem Et (f:Str) (v:V):∀fs:List (Str×V),f∈(bf f v fs).map (·.1)/\∀g,g∈fs.map (·.1)->g∈(bf f v fs).map (·.1)
 |[]=>⟨by simp[bf],fun g h=>by simp at h⟩
 | (k,x)::r=>by
   obtain⟨i1,i2⟩:=Et f v r
   rw[show bf f v ((k,x)::r)=(if k=f then(k,v)::r else(k,x)::bf f v r) from rfl]
   by_cases hk:k=f
   ·rw[if_pos hk]
    subst hk
    exact⟨by simp,fun g h=>by simpa using h⟩
   ·rw[if_neg hk]
    refine⟨?_,fun g h=> ?_⟩
    ·rw[List.map_cons]
     exact List.mem_cons_of_mem _ i1
    ·rw[List.map_cons] at h ⊢
     rcases List.mem_cons.mp h with e | e
     ·exact List.mem_cons.mpr (.inl e)
     ·exact List.mem_cons_of_mem _ (i2 g e)
theorem Gk (f:Str) (v:V):∀fs:List (Str×V),(bf f v fs).length<=fs.length+1
 |[]=>by simp[bf]
 | (k,x)::r=>by
   have ih:=Gk f v r
   rw[show bf f v ((k,x)::r)=(if k=f then(k,v)::r else(k,x)::bf f v r) from rfl]
   by_cases hk:k=f
   ·rw[if_pos hk,List.length_cons,List.length_cons];omega
   ·rw[if_neg hk,List.length_cons,List.length_cons];omega
theorem wN.some_of {v:V}{o:Option Value} (r:wN (some v) o):∃u,o=some u/\RelV v u:=by
 cases o with
 | none=>exact(show False from r).elim
 | some u=>exact⟨u,rfl,r⟩
theorem wN.none_of {o:Option Value} (r:wN none o):o=none:=by
 cases o with
 | none=>rfl
 | some u=>exact(show False from r).elim
theorem Tq {v:V}{u:Value} (r:RelV v u):PySem.W.handedIn u=true:=by
 cases v with
 | non=>cases(show u=Value.none from r);rfl
 | bl b=>cases(show u=Value.bool b from r);rfl
 | int i=>obtain⟨t,e⟩:=(show∃t,u=Value.int i t from r);cases e;rfl
 | str x=>obtain⟨t,e⟩:=(show∃t,u=Value.str x t from r);cases e;rfl
 | byt b=>obtain⟨t,e⟩:=(show∃t,u=Value.bytes b t from r);cases e;rfl
 | flt b=>obtain⟨t,e⟩:=(show∃t,u=Value.float b t from r);cases e;rfl
 | ref a=>cases(show u=Value.ref a from r);rfl
 | ty n=>cases(show u=Value.type n from r);rfl
section
variable {P:Program}{w:World}{H H':Hp}{h h':Heap}{a C dx:Addr}{fs fs':List (Str×V)}
theorem G5 (hok:HOk P w H h) (e:H a=some (.ins C dx fs)):∃mA,O8 h a dx C mA/\(∀f,wN (fs.lookup f) (mA f))/\PySem.Within mA (fs.map (·.1))/\fs.length<=1000/\H dx=some (.own a):=by
 obtain⟨d,z,ne,ob,mA,n,r,q⟩:=(show d8 P w H h a (.ins C dx fs) from hok a _ e)
 exact⟨mA,⟨ob,n,ne⟩,r,q,z,d⟩
end
structure Cls (K:PySem.W.Frag) (C:Addr):Prop where
 pg:PySem.W.plainGet K C Str.empty=true
 hd:PySem.W.hasDictIn K C=true
 po:PySem.W.plainOver K C=true
 sa:PySem.W.findIn K (.ref C) "__setattr__"=some (some (.builtin "object.__setattr__"))
theorem Cls.get {K:PySem.W.Frag}{C:Addr} (c:Cls K C) (f:Str):PySem.W.plainGet K C f=true:=c.pg
def jw (K:PySem.W.Frag) (C:Addr) (f:Str):Prop:=PySem.W.findIn K (.ref C) f=some none
theorem jw.taker {K:PySem.W.Frag}{C:Addr}{f:Str} (n:jw K C f):PySem.W.takerIn K C f=some none:=by
 unfold PySem.W.takerIn
 rw[show PySem.W.findIn K (.ref C) f=some none from n]
 rfl
structure Meth (K:PySem.W.Frag) (C:Addr) (m:Str) (f:Addr):Prop where
 at_:PySem.W.findIn K (.ref C) m=some (some (.ref f))
 fn:PySem.W.isFn K (.ref f)=true
 kp:PySem.W.keepIn K (.ref f)=true
section
variable {X:Cx}{pins:List (Addr×Obj)}{σ:St}{H:Hp}{s:Shared}{a C dx:Addr}{fs:List (Str×V)}{f:Str}{v:V}{A:Around}{E:Value->Shared->Prop}
theorem O9 {b:Bool}{Q:Value->Shared->Prop} (I:Inv X pins σ H s) (e:H a=some (.ins C dx fs)) (c:Cls X.K C) (n:jw X.K C f) (l:fs.lookup f=some v)
 (h:∀u s',Inv X pins σ H s'->RelV v u->Q u s'):wpAny (model X.prog X.w) A (getAttr (.ref a) f b) Q E s:=by
 obtain⟨mA,O,r,_,_,_⟩:=G5 I.hok e
 obtain⟨u,hu,ru⟩:=wN.some_of (v:=v) (o:=mA f) (by rw[<-l];exact r f)
 exact get_map I.kIn O (c.get f) c.hd n hu (Tq ru) (h u _ (I.tok _) ru)
theorem Hs {m:Str}{g:Addr}{pl:Sem Bool}{Q:Value×List Value->Shared->Prop} (I:Inv X pins σ H s) (e:H a=some (.ins C dx fs)) (c:Cls X.K C) (k:Meth X.K C m g) (l:fs.lookup m=none)
 (h:Q (.ref g,[.ref a]) s):wpAny (model X.prog X.w) A (getMethod (.ref a) m pl) Q E s:=by
 obtain⟨mA,O,r,_,_,_⟩:=G5 I.hok e
 have hn:mA m=none:=wN.none_of (by rw[<-l];exact r m)
 exact U9 I.kIn O (c.get m) k.at_ k.fn hn h
theorem Pa {y:V}{u:Value}{Q:Unit->Shared->Prop} (I:Inv X pins σ H s) (e:H a=some (.ins C dx fs)) (c:Cls X.K C) (n:jw X.K C f) (hl:fs.length<1000) (ry:RelV y u)
 (h:∀s',Inv X pins σ (upd H a (.ins C dx (bf f y fs))) s'->Q () s'):wpAny (model X.prog X.w) A (setAttr (.ref a) f u) Q E s:=by
 obtain⟨mA,O,r,wi,_,ho⟩:=G5 I.hok e
 have hz:(fs.map (·.1)).length<=sizeLine:=by rw[List.length_map,sizeLine_eq];omega
 refine Yw I.kIn O c.sa c.po n.taker c.hd wi hz fun h' O' sb=>h _ ?_
 have hd:∃o,h'.get? dx=some o:=let ⟨o,_,_,e',_⟩:=O'.ns;⟨o,e'⟩
 refine I.write (x:=a) (e:=dx) (by rw[e];exact True.intro) (.inr ho) (fun b q hb z=>(sb.2 b hb).trans z) hd ?_
 refine⟨by rw[ao O.ne];exact ho, ?_,O.ne,O'.obj,_,O'.ns,fun g=> ?_,fun g hg=> ?_⟩
 ·have:=Gk f y fs;omega
 ·show wN ((bf f y fs).lookup g) (if g=f then some u else mA g)
  rw[Gj]
  by_cases q:g=f
  ·rw[if_pos q,if_pos q];exact ry
  ·rw[if_neg q,if_neg q];exact r g
 ·by_cases q:g=f
  ·rw[q];exact(Et f y fs).1
  ·refine(Et f y fs).2 g (wi g fun z=>hg ?_)
   show(if g=f then some u else mA g)=none
   rw[if_neg q];exact z
theorem Inv.made (I:Inv X pins σ H s):Inv X pins σ (upd (upd H s.heap.objs.size (.own (s.heap.objs.size+1))) (s.heap.objs.size+1) (.ins C s.heap.objs.size []))
 {s with heap:=(s.heap.push PySem.W.emptyDict).push (PySem.W.instObj C s.heap.objs.size)}:=by
 have e1:(s.heap.push PySem.W.emptyDict).get? s.heap.objs.size=some PySem.W.emptyDict:=Heap.get?_push_size s.heap rfl
 have e2:((s.heap.push PySem.W.emptyDict).push (PySem.W.instObj C s.heap.objs.size)).get? (s.heap.objs.size+1)=some (PySem.W.instObj C s.heap.objs.size):=by
  have:=Heap.get?_push_size (s.heap.push PySem.W.emptyDict) (o:=PySem.W.instObj C s.heap.objs.size) rfl
  rwa [Heap.size_push] at this
 have e3:(s.heap.push PySem.W.emptyDict).Ns s.heap.objs.size (fun _=>none):=⟨PySem.W.emptyDict, #[],_,e1,rfl,(fun e he=>absurd he (by simp)),fun _=>rfl⟩
 have I1:=I.laid (a:=s.heap.objs.size) (o:= .own (s.heap.objs.size+1)) (h':=s.heap.push PySem.W.emptyDict) (t':=s.toks) (fun b u q=>Heap.get?_push_of_some _ q) (Nat.le_refl _) ⟨_,e1⟩
 refine I1.laid (a:=s.heap.objs.size+1) (o:= .ins C s.heap.objs.size []) (t':=s.toks) (fun b u q=>Heap.get?_push_of_some _ q) (Nat.le_of_eq (Heap.size_push _ _)) ?_
 have ne:s.heap.objs.size≠s.heap.objs.size+1:=Nat.ne_of_lt (Nat.lt_succ_self _)
 refine⟨by rw[ao ne,ak],Nat.zero_le _,ne,e2,fun _=>none,(Heap.Ns1.of_empty e3).at fun o q=>Heap.get?_push_of_some _ q,fun _=>True.intro,fun y hy=>absurd rfl hy⟩
theorem QX {prog:Program}{w:World}{env:Env}{e:Expr}{f:Str}{pos:Pos}{s:Shared}{Q:Value->Shared->Prop} (hb:attributeBase e f env (eval e env)=eval e env)
 (h:wpAny (model prog w) A (eval e env) (fun o s₁=>wpAny (model prog w) A (getAttr o f true) Q E s₁) E s):wpAny (model prog w) A (eval (.Attribute e f pos) env) Q E s:=
 Attribute_any_ h (by rw[arm_eval_Attribute,hb])
end
def acj (K:PySem.W.Frag) (ta:TE) (f:Str):TE:=fun σ H Q=>ta σ H fun x H1=>∃a C dx fs v,x= .ref a/\H1 a=some (.ins C dx fs)/\Cls K C/\jw K C f/\fs.lookup f=some v/\Q v H1
def afv (K:PySem.W.Frag) (ta tv:TE) (f:Str):TS:=fun D σ H=>tv σ H fun y H1=>ta σ H1 fun x H2=>∃a C dx fs,x= .ref a/\H2 a=some (.ins C dx fs)/\Cls K C/\jw K C f/\fs.length<1000/\
 D.nx σ (upd H2 a (.ins C dx (bf f y fs)))
section
variable {X:Cx}{o e value:Expr}{f:Str}{pos pos' tpos:Pos}{ta tv:TE}
theorem ack (he:PE X e ta) (hb:attributeBase e f X.env (eval e X.env)=eval e X.env):PE X (.Attribute e f pos) (acj X.K ta f):=by
 intro pins s σ H Q I h
 refine QX hb (thn (he pins s σ H _ I h) fun u s1 ⟨x,H1,I1,rx,a,C,dx,fs,v,ex,ea,c,n,l,q⟩=> ?_)
 subst ex
 obtain rfl:u=Value.ref a:=rx
 exact O9 I1 ea c n l fun u' s2 I2 ru=>⟨v,H1,I2,ru,q⟩
theorem acn (ha:PE X o ta) (hv:PE X value tv) (hs:swapsWith value (some (.Attribute o f pos')) pos.line X.env=pure false):PS X (.Assign [.Attribute o f pos'] value pos) (afv X.K ta tv f):=by
 intro pins s σ H D I h
 refine plainObj_wpAny_Assign_Attribute (thn (hv pins s σ H _ I h) fun u s1 ⟨y,H1,I1,ry,q⟩=>thn (ha pins s1 σ H1 _ I1 q) fun ov s2 ⟨x,H2,I2,rx,a,C,dx,fs,ex,ea,c,n,l,q2⟩=> ?_) hs
 subst ex
 obtain rfl:ov=Value.ref a:=rx
 exact Pa I2 ea c n l ry fun s3 I3=>⟨σ,_,I3,q2⟩
end
section
variable {X:Cx}{pins:List (Addr×Obj)}{σ:St}{H:Hp}{s:Shared}{A:Around}{E:Value->Shared->Prop}{Q:Value->Shared->Prop}{c:Value}{b:Bool}
inductive qT (K:PySem.W.Frag) (H:Hp):V->Value->Prop where
 | non:qT K H .non (.type "NoneType")
 | bl (x:Bool):qT K H (.bl x) (.type "bool")
 | int (i:Int):qT K H (.int i) (.type "int")
 | str (x:Str):qT K H (.str x) (.type "str")
 | flt (x:UInt64):qT K H (.flt x) (.type "float")
 | lst {a:Addr}{xs:List V} (e:H a=some (.lst xs)):qT K H (.ref a) (.type "list")
 | frz {a:Addr}{o:Obj}{xs:List V} (e:H a=some (.frz o (.lst xs))):qT K H (.ref a) (.type "list")
 | tup {a:Addr}{xs:List V} (e:H a=some (.tup xs)):qT K H (.ref a) (.type "tuple")
 | dK {a:Addr}{kvs:List (Key×V)} (e:H a=some (.dK kvs)):qT K H (.ref a) (.type "dict")
 | dT {a:Addr}{kvs:List (List Key×V)} (e:H a=some (.dT kvs)):qT K H (.ref a) (.type "dict")
 | ins {a C dx:Addr}{fs:List (Str×V)} (e:H a=some (.ins C dx fs)) (cl:Cls K C) (ha:PySem.W.findIn K (.ref C) "__class__"=some (some (.builtin "object.__class__")))
    (hn:PySem.W.specialIn K (.builtin "object.__class__") "__get__"=some (some (.builtin "getset_descriptor.__get__"))) (htk:PySem.W.takesIn K (.builtin "object.__class__")=some true)
    (hm:PySem.W.mroIn K C (.type "object")=some true):qT K H (.ref a) (.ref C)
theorem Tr {x:V}{u t:Value} (I:Inv X pins σ H s) (rx:RelV x u) (ty:qT X.K H x t) (e:PySem.W.kitOne X.K t c=some b) (h:∀tk,Q (.bool b) {s with toks:=tk}):
 wpAny (model X.prog X.w) A (call (.builtin "isinstance") [u,c]) Q E s:=by
 cases ty with
 | non=>cases(show u=Value.none from rx);exact PySem.W.kia_one PySem.W.kitx_none I.kIn True.intro e (fun z=>nomatch z) h
 | bl y=>cases(show u=Value.bool y from rx);exact PySem.W.kia_one PySem.W.kitx_bool I.kIn True.intro e (fun z=>nomatch z) h
 | int i=>obtain⟨t,q⟩:=(show∃t,u=Value.int i t from rx);cases q;exact PySem.W.kia_one PySem.W.kitx_int I.kIn True.intro e (fun z=>nomatch z) h
 | str y=>obtain⟨t,q⟩:=(show∃t,u=Value.str y t from rx);cases q;exact PySem.W.kia_one PySem.W.kitx_str I.kIn True.intro e (fun z=>nomatch z) h
 | flt y=>obtain⟨t,q⟩:=(show∃t,u=Value.float y t from rx);cases q;exact PySem.W.kia_one PySem.W.kitx_float I.kIn True.intro e (fun z=>nomatch z) h
 | @lst a xs ea=>
   cases(show u=Value.ref a from rx)
   obtain⟨_,_,n,_,h1⟩:=(show d8 X.prog X.w H s.heap a (.lst xs) from I.hok a _ ea)
   exact PySem.W.kia_one PySem.W.kitx_list I.kIn ⟨_,h1,rfl⟩ e (fun z=>nomatch z) h
 | @frz a ob xs ea=>
   cases(show u=Value.ref a from rx)
   obtain⟨_,_,_,n,_,h1⟩:=(show d8 X.prog X.w H s.heap a (.frz ob (.lst xs)) from I.hok a _ ea)
   exact PySem.W.kia_one PySem.W.kitx_list I.kIn ⟨_,h1,rfl⟩ e (fun z=>nomatch z) h
 | @tup a xs ea=>
   cases(show u=Value.ref a from rx)
   obtain⟨_,_,_,p⟩:=(show d8 X.prog X.w H s.heap a (.tup xs) from I.hok a _ ea)
   obtain⟨o,h1,h2,_⟩:=p
   exact PySem.W.kia_one PySem.W.kitx_tuple I.kIn ⟨o,h1,h2⟩ e (fun z=>nomatch z) h
 | @dK a kvs ea=>
   cases(show u=Value.ref a from rx)
   obtain⟨_,_,vs,_,p⟩:=(show d8 X.prog X.w H s.heap a (.dK kvs) from I.hok a _ ea)
   obtain⟨o,es,ep,h1,h2,_⟩:=p
   exact PySem.W.kia_one PySem.W.kitx_dict I.kIn ⟨o,h1,h2.1⟩ e (fun z=>nomatch z) h
 | @dT a kvs ea=>
   cases(show u=Value.ref a from rx)
   obtain⟨_,_,xs,_,o,es,ep,h1,h2,_⟩:=(show d8 X.prog X.w H s.heap a (.dT kvs) from I.hok a _ ea)
   exact PySem.W.kia_one PySem.W.kitx_dict I.kIn ⟨o,h1,h2.1⟩ e (fun z=>nomatch z) h
 | @ins a C dx fs ea cl ha hn htk hm=>
   cases(show u=Value.ref a from rx)
   obtain⟨mA,O,_⟩:=G5 I.hok ea
   obtain⟨od,J,_⟩:=O.look
   exact PySem.W.kia_one (PySem.W.kitx_own (cl.get _) cl.hd ha hn htk hm) I.kIn J e (fun z=>nomatch z) h
end
structure jV (k:Nat) (A:Around):Prop where
 hd:A.handled=none
 dp:A.depth+3 * k+5<recursionLimit
 un:A.units+16 * k+200<cLine
theorem jV.mono {j k:Nat}{A:Around} (r:jV k A) (h:j<=k):jV j A:=⟨r.hd,by have:=r.dp;omega,by have:=r.un;omega⟩
theorem jV.deeper {k:Nat}{A:Around} (r:jV (k+1) A) (env:Env):jV k (A.deeper env):=
 ⟨r.hd,by have:=r.dp;show A.depth+1+3 * k+5<_;omega,by have:=r.un;show A.units+3+16 * k+200<_;omega⟩
theorem Pb {A:Around}{C:Addr}{us:List Value}{kw:List (Str×Value)}:(A.under (.builtin "type.__call__" ⟨.ref C::us,kw⟩)).depth=A.depth+1:=by
 first | rfl | simp[Around.under,Code.weight,Code.isCreation,Code.isGuard,Code.isCaller,Code.frames,Code.isFrame,guardIds]
theorem Pg {A:Around}{C:Addr}{us:List Value}{kw:List (Str×Value)}:(A.under (.builtin "type.__call__" ⟨.ref C::us,kw⟩)).units=A.units+1:=by
 first | rfl | simp[Around.under,Code.cUnits,Code.frames,Code.isFrame]
theorem jV.make {k:Nat}{A:Around} (r:jV (k+1) A) (C:Addr) (us:List Value) (kw:List (Str×Value)):jV k (A.under (.builtin "type.__call__" ⟨.ref C::us,kw⟩)):=
 ⟨r.hd,by have:=r.dp;rw[Pb];omega,by have:=r.un;rw[Pg];omega⟩
theorem jV.depth {k:Nat}{A:Around} (r:jV k A):A.depth<recursionLimit:=by have:=r.dp;omega
theorem jV.units {k:Nat}{A:Around} (r:jV k A):A.units+64<cLine:=by have:=r.un;omega
def Tu:TA:=fun _ H Q=>Q [] H
def qU (ta:TE) (tr:TA):TA:=fun σ H Q=>ta σ H fun x H1=>tr σ H1 fun xs H2=>Q (x::xs) H2
section
variable {X:Cx}{e:Expr}{es:List Expr}{te:TE}{t:TA}{pos:Pos}
theorem aco:PA X [] Tu:=fun _ _ _ _ H Q I h=>Calls.spliced_nil ⟨[],H,I, .nil,h⟩
theorem Yx (ha:PE X e te) (hr:PA X es t) (hs:starEach (e::es) X.env=(false,eval e X.env)::starEach es X.env:=by rfl):PA X (e::es) (qU te t):=by
 intro pos pins s σ H Q I h
 rw[hs]
 show wpAny _ _ (spliced ((false,eval e X.env)::backTo pos (starEach es X.env))) _ _ s
 refine Calls.spliced_cons (thn (ha pins s σ H _ I h) fun u s1 ⟨x,H1,I1,r1,q1⟩=> ?_)
 exact thn (hr pos pins s1 σ H1 _ I1 q1) fun us s2 ⟨xs,H2,I2,r2,q2⟩=>⟨x::xs,H2,I2, .cons r1 r2,q2⟩
def afw (t:TA):TE:=fun σ H Q=>t σ H fun xs H1=>xs.length<=sizeLine/\∀p,H1 p=none->Q (.ref p) (upd H1 p (.tup xs))
def afx (t:TA):TE:=fun σ H Q=>t σ H fun xs H1=>xs.length<=sizeLine/\∀p,H1 p=none->Q (.ref p) (upd H1 p (.lst xs))
theorem acp {x1} (h:PA X es t):PE X (.Tuple es x1 pos) (afw t):=by
 intro pins s σ H Q I hq
 refine wpAny_Tuple_spliced (thn (h pos pins s σ H _ I hq) fun us s1 ⟨xs,H1,I1,r,z,q⟩=>⟨by rw[<-r.length];exact z, ?_⟩)
 have hf:H1 s1.heap.objs.size=none:=I1.hok.fresh (Nat.le_refl _)
 refine⟨.ref s1.heap.objs.size,upd H1 s1.heap.objs.size (.tup xs),I1.laid (t':=s1.toks) (fun b u e=>Heap.get?_push_of_some _ e) (Nat.le_refl _) ?_,rfl,q _ hf⟩
 exact⟨z,us,r,⟨_,Heap.get?_push_size _ rfl,rfl,_,rfl⟩⟩
theorem acq (h:PA X es t):PE X (.List es pos) (afx t):=by
 intro pins s σ H Q I hq
 refine wpAny_List_spliced (thn (h pos pins s σ H _ I hq) fun us s1 ⟨xs,H1,I1,r,z,q⟩=>⟨by rw[<-r.length];exact z, ?_⟩)
 have hf:H1 s1.heap.objs.size=none:=I1.hok.fresh (Nat.le_refl _)
 refine⟨.ref s1.heap.objs.size,upd H1 s1.heap.objs.size (.lst xs),I1.laid (t':=s1.toks) (fun b u e=>Heap.get?_push_of_some _ e) (Nat.le_refl _) ?_,rfl,q _ hf⟩
 exact⟨z,us,0,r,Heap.get?_push_size _ rfl⟩
end
abbrev Sp:=List V->Hp->VK->XK->Prop
abbrev CXT:=List Env->Hp->Shared->XK->Value->Shared->Prop
structure Ph (P:Program) (w:World) (K:PySem.W.Frag) (mg:Str->Option Value) (base:Heap) (A:Around) (outer:List Env) (s:Shared) (H:Hp):Prop where
 frames:A.frames=some outer
 mod:Mod K mg base
 bs:∀b o,base.get? b=some o->s.heap.get? b=some o/\H b=none
 bsz:base.objs.size<=s.heap.objs.size
 funs:s.heap.FunFrames base outer
 frf:∀b∈frs outer,H b=none
 hok:HOk P w H s.heap
 bare:AllBare s.gens
def CE (outer:List Env) (P:Program) (w:World) (H:Hp) (s:Shared) (Q:VK) (u:Value) (s':Shared):Prop:=
 ∃v H',s'.os=s.os/\AllBare s'.gens/\Un (frs outer) [] H H' s.heap s'.heap/\HOk P w H' s'.heap/\RelV v u/\Q v H'
def CR (CX:CXT) (outer:List Env) (P:Program) (w:World) (H:Hp) (s:Shared) (Q:VK) (E:XK) (r:Result) (s':Shared):Prop:=
 match r with
 | .ok (.ret u)=>CE outer P w H s Q u s'
 | .ok _=>False
 | .error e=>CX outer H s E e s'
structure aZ (P:Program) (w:World) (K:PySem.W.Frag) (mg:Str->Option Value) (base:Heap) (CX:CXT) (k:Nat) (f:Addr) (fd:FuncData) (ps:List Str) (sp:Sp):Prop where
 len:∀vs H Q E,sp vs H Q E->vs.length=ps.length
 run:∀(A:Around) (outer:List Env) (s:Shared) (H:Hp) (args:Args) (us:List Value) (vs:List V) (Q:VK) (E:XK),jV k A->Ph P w K mg base A outer s H->BindsTo s fd args (ps.zip us)->Vals vs us->sp vs H Q E->
  codeAny (model P w) A (.call (.ref f) args) (CR CX outer P w H s Q E) s
theorem aZ.mono {P:Program}{w:World}{K:PySem.W.Frag}{mg:Str->Option Value}{base:Heap}{CX:CXT}{j k:Nat}{f:Addr}{fd:FuncData}{ps:List Str}{sp:Sp} (F:aZ P w K mg base CX j f fd ps sp) (h:j<=k):
 aZ P w K mg base CX k f fd ps sp:=⟨F.len,fun A outer s H args us vs Q E hr=>F.run A outer s H args us vs Q E (hr.mono h)⟩
theorem aZ.imp {P:Program}{w:World}{K:PySem.W.Frag}{mg:Str->Option Value}{base:Heap}{CX:CXT}{k:Nat}{f:Addr}{fd:FuncData}{ps:List Str}{sp sp':Sp} (F:aZ P w K mg base CX k f fd ps sp)
 (h:∀vs H Q E,sp' vs H Q E->sp vs H Q E):aZ P w K mg base CX k f fd ps sp':=
 ⟨fun vs H Q E q=>F.len vs H Q E (h _ _ _ _ q),fun A outer s H args us vs Q E hr he hb hv hs=>F.run A outer s H args us vs Q E hr he hb hv (h _ _ _ _ hs)⟩
theorem Ph.make {P:Program}{w:World}{K:PySem.W.Frag}{mg:Str->Option Value}{base:Heap}{A:Around}{outer:List Env}{s:Shared}{H:Hp} (e:Ph P w K mg base A outer s H) (C:Addr) (us:List Value) (kw:List (Str×Value)):
 Ph P w K mg base (A.under (.builtin "type.__call__" ⟨.ref C::us,kw⟩)) outer s H:=⟨by first | exact e.frames | (simpa [Around.under,Code.envs,Code.isFrame,pushEnvs] using e.frames),e.mod,e.bs,e.bsz,e.funs,e.frf,e.hok,e.bare⟩
section
variable {X:Cx}{pins:List (Addr×Obj)}{σ:St}{H:Hp}{s s':Shared}
theorem Inv.env0 (I:Inv X pins σ H s):Ph X.prog X.w X.K X.mg X.base X.A X.stack s H:=
 ⟨I.ok.frames,I.ok.mod,I.bs,Nat.le_trans I.ok.bsz I.sz,I.stack,I.Kv,I.hok,I.bare⟩
theorem Inv.after {Q:VK}{u:Value} (I:Inv X pins σ H s) (h:CE X.stack X.prog X.w H s Q u s'):EP X pins σ Q u s':=by
 obtain⟨v,H',os,bare,un,hok,r,q⟩:=h
 obtain⟨hh,g,d,t,os'⟩:=s'
 obtain rfl:os'=s.os:=os
 exact⟨v,H',I.call (h':=hh) (g':=g) (d':=d) (t':=t) (ch:=[]) un hok bare (fun b z=>absurd z (by simp)),r,q⟩
end
def QZ (sp:Sp) (dvs:List V) (E:XK) (t:TA):TE:=fun σ H Q=>t σ H fun vs H1=>sp (vs++dvs) H1 Q E
def Q0 (C:Addr) (m:Str) (sp:Sp) (dvs:List V) (E:XK) (ta:TE) (t:TA):TE:=fun σ H Q=>ta σ H fun x H1=>∃a dx fs,x= .ref a/\H1 a=some (.ins C dx fs)/\fs.lookup m=none/\
 t σ H1 fun vs H2=>sp (x::(vs++dvs)) H2 Q E
def aaT (C:Addr) (sp:Sp) (dvs:List V) (E:XK) (t:TA):TE:=fun σ H Q=>t σ H fun vs H1=>∀x dx,H1 x=none->H1 dx=none->dx≠x->
 sp (.ref x::(vs++dvs)) (upd (upd H1 dx (.own x)) x (.ins C dx [])) (fun v H2=>v= .non/\Q (.ref x) H2) E
def Binds (K:PySem.W.Frag) (fd:FuncData) (ps:List Str) (ds:List Value):Prop:=
 ∀(s:Shared) (us:List Value),K.In s.heap->(us++ds).length=ps.length->BindsTo s fd ⟨us,[]⟩ (ps.zip (us++ds))
theorem Binds.all {K:PySem.W.Frag}{fd:FuncData}{ps:List Str} (h:∀us:List Value,us.length=ps.length->bindArgs fd ⟨us,[]⟩=pure (ps.zip us)):Binds K fd ps []:=fun s us _ hl=>by
 rw[List.append_nil] at hl ⊢
 exact .of_eq (h us hl)
def Passes (CX:CXT) (X:Cx) (E:XK):Prop:=∀(pins:List (Addr×Obj)) (σ:St) (H:Hp) (s:Shared) (e:Value) (s':Shared),Inv X pins σ H s->CX X.stack H s E e s'->X.xe e s'
section
variable {X:Cx}{CX:CXT}{k:Nat}{f C:Addr}{fd:FuncData}{ps:List Str}{sp:Sp}{dvs:List V}{ds:List Value}{E:XK}{x m:Str}{p pos apos:Pos}{e o:Expr}{es:List Expr}{ta:TE}{t:TA}
theorem Kw {pins:List (Addr×Obj)}{σ:St}{H:Hp}{s:Shared}{Q:VK}{us:List Value}{vs:List V} (F:aZ X.prog X.w X.K X.mg X.base CX k f fd ps sp) (hr:jV k X.A) (hb:Binds X.K fd ps ds) (hd:Vals dvs ds) (hx:Passes CX X E)
 (I:Inv X pins σ H s) (r:Vals vs us) (h:sp (vs++dvs) H Q E):wpAny (model X.prog X.w) X.A (call (.ref f) us) (EP X pins σ Q) X.xe s:=by
 have r2:Vals (vs++dvs) (us++ds):=r.append hd
 have hl:(us++ds).length=ps.length:=by rw[<-r2.length];exact F.len _ _ _ _ h
 refine wpAny_call (codeAny_mono (F.run X.A X.stack s H ⟨us,[]⟩ (us++ds) (vs++dvs) Q E hr I.env0 (hb s us I.kIn hl) r2 h) fun r s' hq=> ?_)
 cases r with
 | error e=>exact hx pins σ H s e s' I hq
 | ok fl=>
   cases fl with
   | ret u=>exact I.after hq
   | next=>exact False.elim hq
   | brk=>exact False.elim hq
   | cont=>exact False.elim hq
theorem Yy (F:aZ X.prog X.w X.K X.mg X.base CX k f fd ps sp) (hr:jV k X.A) (hg:Gl X x) (hm:X.mg x=some (.ref f)) (hk:PySem.W.keepIn X.K (.ref f)=true) (hb:Binds X.K fd ps ds) (hd:Vals dvs ds) (hx:Passes CX X E)
 (ha:PA X (e::es) t) (hdb:(x==("__debug__":Str))=false:=by decide) (he:starEach (e::es) X.env=(false,eval e X.env)::starEach es X.env:=by rfl) (hpl:(backTo pos (starEach es X.env)).any (·.1)=false:=by rfl):
 PE X (.Call (.Name x p) (e::es) [] pos) (QZ sp dvs E t):=by
 intro pins s σ H Q I h
 refine wpAny_Call_Name_kw (sy I hg hm ?_ hdb)
 refine PySem.W.callWith_K (h₀:=X.base) I.ok.mod.kin hk (thn (ha pos pins s σ H _ I h) fun us s1 ⟨vs,H1,I1,r,q⟩=>⟨I1.kIn, ?_⟩) he hpl
 exact Kw F hr hb hd hx I1 r q
theorem Vb (F:aZ X.prog X.w X.K X.mg X.base CX k f fd ps sp) (hr:jV k X.A) (hg:Gl X x) (hm:X.mg x=some (.ref f)) (hk:PySem.W.keepIn X.K (.ref f)=true) (hb:Binds X.K fd ps ds) (hd:Vals dvs ds) (hx:Passes CX X E)
 (hdb:(x==("__debug__":Str))=false:=by decide):PE X (.Call (.Name x p) [] [] pos) (QZ sp dvs E Tu):=by
 intro pins s σ H Q I h
 refine wpAny_Call_Name_kw (sy I hg hm ?_ hdb)
 exact PySem.W.callWith_K0 I.kIn hk (Kw (us:=[]) F hr hb hd hx I .nil h)
theorem Yz {pl:Sem Bool} (he:PE X o ta) (c:Cls X.K C) (hm:Meth X.K C m f) (F:aZ X.prog X.w X.K X.mg X.base CX k f fd ps sp) (hr:jV k X.A) (hb:Binds X.K fd ps ds) (hd:Vals dvs ds) (hx:Passes CX X E) (ha:PA X (e::es) t)
 (hst:starEach (e::es) X.env=(false,eval e X.env)::starEach es X.env:=by rfl) (hpl:(backTo pos (starEach es X.env)).any (·.1)=false:=by rfl)
 (ht:eval (.Call (.Attribute o m apos) (e::es) [] pos) X.env=(do
   let ov <-eval o X.env
   standAt apos.atName
   let (f,first) <-holding [ov] (getMethod ov m pl)
   callWith pos f first (backTo pos (starEach (e::es) X.env)) (backToKw pos (keywordEach [] X.env))):=by rfl):
 PE X (.Call (.Attribute o m apos) (e::es) [] pos) (Q0 C m sp dvs E ta t):=by
 intro pins s σ H Q I h
 refine PySem.W.methodCall_KW (pl:=pl) (thn (he pins s σ H _ I h) fun u s1 ⟨x,H1,I1,rx,a,dx,fs,ex,ea,l,q⟩=> ?_) ht
 subst ex
 obtain rfl:u=Value.ref a:=rx
 refine Hs I1 ea c hm l ?_
 refine PySem.W.callWith_K (first:=[.ref a]) (h₀:=X.base) I.ok.mod.kin hm.kp (thn (ha pos pins s1 σ H1 _ I1 q) fun us s2 ⟨vs,H2,I2,r,q2⟩=>⟨I2.kIn, ?_⟩) hst hpl
 exact Kw (us:= .ref a::us) (vs:= .ref a::vs) F hr hb hd hx I2 (.cons rfl r) q2
theorem Vc {pl:Sem Bool} (he:PE X o ta) (c:Cls X.K C) (hm:Meth X.K C m f) (F:aZ X.prog X.w X.K X.mg X.base CX k f fd ps sp) (hr:jV k X.A) (hb:Binds X.K fd ps ds) (hd:Vals dvs ds) (hx:Passes CX X E)
 (ht:eval (.Call (.Attribute o m apos) [] [] pos) X.env=(do
   let ov <-eval o X.env
   standAt apos.atName
   let (f,first) <-holding [ov] (getMethod ov m pl)
   callWith pos f first (backTo pos (starEach [] X.env)) (backToKw pos (keywordEach [] X.env))):=by rfl):
 PE X (.Call (.Attribute o m apos) [] [] pos) (Q0 C m sp dvs E ta Tu):=by
 intro pins s σ H Q I h
 refine PySem.W.methodCall_KW (pl:=pl) (thn (he pins s σ H _ I h) fun u s1 ⟨x,H1,I1,rx,a,dx,fs,ex,ea,l,q⟩=> ?_) ht
 subst ex
 obtain rfl:u=Value.ref a:=rx
 refine Hs I1 ea c hm l ?_
 exact PySem.W.callWith_K0 (first:=[.ref a]) I1.kIn hm.kp (Kw (us:=[.ref a]) (vs:=[.ref a]) F hr hb hd hx I1 (.cons rfl .nil) q)
structure Mk (K:PySem.W.Frag) (C f:Addr):Prop where
 makes:PySem.W.makesIn K C=true
 init:PySem.W.findIn K (.ref C) "__init__"=some (some (.ref f))
 fn:PySem.W.isFn K (.ref f)=true
 kp:PySem.W.keepIn K (.ref C)=true
theorem Vd {pins:List (Addr×Obj)}{σ:St}{H:Hp}{s:Shared}{Q:VK}{us:List Value}{vs:List V} (M:Mk X.K C f) (F:aZ X.prog X.w X.K X.mg X.base CX k f fd ps sp) (hr:jV (k+1) X.A) (hb:Binds X.K fd ps ds) (hd:Vals dvs ds)
 (hx:Passes CX X E) (I:Inv X pins σ H s) (r:Vals vs us)
 (h:∀x dx,H x=none->H dx=none->dx≠x->sp (.ref x::(vs++dvs)) (upd (upd H dx (.own x)) x (.ins C dx [])) (fun v H2=>v= .non/\Q (.ref x) H2) E):
 wpAny (model X.prog X.w) X.A (call (.ref C) us) (EP X pins σ Q) X.xe s:=by
 have hq:=h (s.heap.objs.size+1) s.heap.objs.size (I.hok.fresh (Nat.le_succ _)) (I.hok.fresh (Nat.le_refl _)) (Nat.ne_of_lt (Nat.lt_succ_self _))
 have I2:=Inv.made (C:=C) I
 have r2:Vals (V.ref (s.heap.objs.size+1)::(vs++dvs)) (Value.ref (s.heap.objs.size+1)::(us++ds)):= .cons rfl (r.append hd)
 have hl:(Value.ref (s.heap.objs.size+1)::us++ds).length=ps.length:=by
  have e:=r2.length
  rw[F.len _ _ _ _ hq] at e
  exact e.symm
 refine wpAny_call (Va (f:=f) I.kIn M.makes M.init (beq_iff_eq.mp M.fn) (codeAny_mono (F.run _ X.stack _ _ ⟨Value.ref (s.heap.objs.size+1)::us,[]⟩ (Value.ref (s.heap.objs.size+1)::(us++ds)) _ _ E (hr.make C us [])
  (I2.env0.make C us []) (hb _ (Value.ref (s.heap.objs.size+1)::us) I2.kIn hl) r2 hq) fun r s' hq'=> ?_))
 cases r with
 | error e=>exact hx pins σ _ _ e s' I2 hq'
 | ok fl=>
   cases fl with
   | ret u=>
     obtain⟨v,H',I3,rv,ev,q3⟩:=I2.after hq'
     subst ev
     exact⟨rv,⟨V.ref (s.heap.objs.size+1),H',I3,rfl,q3⟩⟩
   | next=>exact False.elim hq'
   | brk=>exact False.elim hq'
   | cont=>exact False.elim hq'
theorem YB (M:Mk X.K C f) (F:aZ X.prog X.w X.K X.mg X.base CX k f fd ps sp) (hr:jV (k+1) X.A) (hg:Gl X x) (hm:X.mg x=some (.ref C)) (hb:Binds X.K fd ps ds) (hd:Vals dvs ds) (hx:Passes CX X E)
 (ha:PA X (e::es) t) (hdb:(x==("__debug__":Str))=false:=by decide) (he:starEach (e::es) X.env=(false,eval e X.env)::starEach es X.env:=by rfl) (hpl:(backTo pos (starEach es X.env)).any (·.1)=false:=by rfl):
 PE X (.Call (.Name x p) (e::es) [] pos) (aaT C sp dvs E t):=by
 intro pins s σ H Q I h
 refine wpAny_Call_Name_kw (sy I hg hm ?_ hdb)
 refine PySem.W.callWith_K (h₀:=X.base) I.ok.mod.kin M.kp (thn (ha pos pins s σ H _ I h) fun us s1 ⟨vs,H1,I1,r,q⟩=>⟨I1.kIn, ?_⟩) he hpl
 exact Vd M F hr hb hd hx I1 r q
end
section
variable {X:Cx}{CX:CXT}{k:Nat}{f C:Addr}{fd:FuncData}{ps ks:List Str}{sp:Sp}{E:XK}{x m:Str}{p pos apos kpos:Pos}{e o:Expr}{es:List Expr}{kws:List Keyword}{te ta:TE}{t tk:TA}{nm:Option Str}
variable {g:List Value->List Value->List Value}{gV:List V->List V->List V}
end
structure bU (N P:List Str) (sc:Scope):Prop where
 kind:sc.kind= .function
 co:sc.isCoroutine=false
 gen:sc.isGenerator=false
 nd:N.Nodup
 pre:N.take P.length=P
 par:∀x∈P,sc.names.lookup x=some .local\/sc.names.lookup x=some .cell
 nofree:∀y∈sc.names,y.2≠ .free
theorem JQ {kindOf:Str->Option NameKind}{x:Str}:∀{binds:List (Str×Value)}{m:Str->Option Value},(∀v,(x,v)∉binds)->bindL kindOf binds m x=m x
 |[],_,_=>rfl
 | (n,v)::r,m,h=>by
   unfold bindL
   rw[JQ fun w hw=>h w (List.mem_cons_of_mem _ hw)]
   split
   ·have:x≠n:=by rintro rfl;exact h v List.mem_cons_self
    simp[this]
   ·rfl
theorem JR {kindOf:Str->Option NameKind}{x:Str}:∀{binds:List (Str×Value)}{m:Str->Option Value},(∀v,(x,v)∉binds)->bindC kindOf binds m x=m x
 |[],_,_=>rfl
 | (n,v)::r,m,h=>by
   unfold bindC
   rw[JR fun w hw=>h w (List.mem_cons_of_mem _ hw)]
   split
   ·rfl
   ·have:x≠n:=by rintro rfl;exact h v List.mem_cons_self
    simp[this]
theorem JS {kindOf:Str->Option NameKind}{x:Str}{v:Value}:∀{P:List Str}{vs:List Value}{i:Nat}{m:Str->Option Value},P.Nodup->P[i]? =some x->vs[i]? =some v->kindOf x=some .local->
 bindL kindOf (P.zip vs) m x=some v
 |[],_,_,_,_,h,_,_=>by simp at h
 | _::_,[],_,_,_,_,h,_=>by simp at h
 | p::P,w::vs,0,m,nd,h1,h2,hk=>by
   simp at h1 h2;subst h1;subst h2
   show bindL kindOf ((p,w)::P.zip vs) m p=_
   unfold bindL
   rw[JQ fun v hv=>(List.nodup_cons.mp nd).1 (List.of_mem_zip hv).1,if_pos hk]
   simp
 | p::P,w::vs,i+1,m,nd,h1,h2,hk=>by
   show bindL kindOf ((p,w)::P.zip vs) m x=_
   unfold bindL
   exact JS (i:=i) (List.nodup_cons.mp nd).2 (by simpa using h1) (by simpa using h2) hk
theorem JT {kindOf:Str->Option NameKind}{x:Str}{v:Value}:∀{P:List Str}{vs:List Value}{i:Nat}{m:Str->Option Value},P.Nodup->P[i]? =some x->vs[i]? =some v->kindOf x≠some .local->
 bindC kindOf (P.zip vs) m x=some v
 |[],_,_,_,_,h,_,_=>by simp at h
 | _::_,[],_,_,_,_,h,_=>by simp at h
 | p::P,w::vs,0,m,nd,h1,h2,hk=>by
   simp at h1 h2;subst h1;subst h2
   show bindC kindOf ((p,w)::P.zip vs) m p=_
   unfold bindC
   rw[JR fun v hv=>(List.nodup_cons.mp nd).1 (List.of_mem_zip hv).1,if_neg hk]
   simp
 | p::P,w::vs,i+1,m,nd,h1,h2,hk=>by
   show bindC kindOf ((p,w)::P.zip vs) m x=_
   unfold bindC
   exact JT (i:=i) (List.nodup_cons.mp nd).2 (by simpa using h1) (by simpa using h2) hk
def start (N:List Str) (vs:List V):St:=vs.map some++List.replicate (N.length - vs.length) none
def kY (CX:CXT) (P:Program) (w:World) (K:PySem.W.Frag) (mg:Str->Option Value) (base:Heap) (N:List Str) (qual:Str) (scope:Scope) (f:Addr) (cd:Value) (A:Around) (outer:List Env) (s:Shared) (H:Hp) (E:XK):Cx where
 prog:=P
 w:=w
 K:=K
 mg:=mg
 base:=base
 A:=A.deeper (envOfC qual scope s.heap.objs.size f cd)
 N:=N
 s₀:=s
 H₀:=H
 env:=envOfC qual scope s.heap.objs.size f cd
 outer:=outer
 stack:=envOfC qual scope s.heap.objs.size f cd::outer
 ex:=[]
 calm:=true
 fn:=fun _=>true
 pn:=[]
 xe:=fun e s'=>wpAny (model P w) (A.deeper (envOfC qual scope s.heap.objs.size f cd)) (leaving (envOfC qual scope s.heap.objs.size f cd) e) (fun _ s''=>CX outer H s E e s'') (fun e' s''=>CX outer H s E e' s'') s'
theorem Mr {sc:Scope}{n:Nat}{x:Str} (h:sc.names.lookup x=some .cell):∃c,(cellsFrom n sc.names []).lookup x=some c:=by
 have q:=PySem.W.cellsFrom_some sc.names n [] (.inl h)
 exact Option.isSome_iff_exists.mp q
theorem Tv {CX:CXT}{P:Program}{w:World}{K:PySem.W.Frag}{mg:Str->Option Value}{base:Heap}{N ps:List Str}{qual:Str}{scope:Scope}{f:Addr}{cd:Value}{A:Around}{outer:List Env}{s s1:Shared}{H:Hp}{E:XK}{us:List Value}{vs:List V}
 (S:bU N ps scope) (hd:A.handled=none) (e0:Ph P w K mg base A outer s H) (hl:vs.length=ps.length) (r:Vals vs us)
 (x:InCallC s s.heap.objs.size (bindL (envOfC qual scope s.heap.objs.size f cd).kindOf (ps.zip us) fun _=>none) (cellsFrom (s.heap.objs.size+1) scope.names []) (bindC (envOfC qual scope s.heap.objs.size f cd).kindOf (ps.zip us) fun _=>none) s1):
 Inv (kY CX P w K mg base N qual scope f cd A outer s H E) [] (start N vs) H s1:=by
 have hpl:ps.length<=N.length:=by have:=congrArg List.length S.pre;rw[List.length_take] at this;omega
 obtain⟨h1,tk,rfl,hk⟩:=x.done
 have noA:∀b:Addr,b∉(kY CX P w K mg base N qual scope f cd A outer s H E).ex:=fun b z=>absurd (show b∈([]:List Addr) from z) (by simp)
 refine⟨⟨e0.mod,S.kind,rfl,rfl,Nat.le_refl _,fun y z c h1 h2=> ?_,fun y hy=> ?_,fun y c _ h=> ?_,fun _=>hd,Around.frames_deeper e0.frames, .inr ⟨rfl,rfl⟩,fun b z=>absurd z (noA b),e0.bs,e0.bsz,fun b _ _=>noA b,fun b z=>absurd z (noA b),e0.funs,e0.frf⟩,
  rfl,e0.bare,Un.kept hk,⟨_,x.toInCall.ns,fun i y v h1 h2 h3=> ?_⟩,fun y c h=>⟨_,x.cell y c h⟩,e0.hok.fresh (Nat.le_refl _),fun y c h=> ?_,fun p hp=>absurd (show p∈([]:List (Addr×Obj)) from hp) (by simp),e0.hok.kept hk, ?_⟩
 ·exact name_of_addr x.apart (PySem.mem_of_lookup h1) (PySem.mem_of_lookup h2)
 ·have hy:scope.names.lookup y=some .cell\/scope.names.lookup y=some .free:=hy
  rcases hy with hy | hy
  ·exact Mr hy
  ·exact absurd rfl (S.nofree _ (PySem.mem_of_lookup hy))
 ·exact Nat.le_of_lt (x.above y c (PySem.mem_of_lookup h))
 ·have hi:i<vs.length:=by
   unfold start at h2
   by_cases hi:i<vs.length
   ·exact hi
   ·rw[List.getElem?_append_right (by simpa using hi)] at h2
    rw[List.getElem?_replicate] at h2
    split at h2<;>cases h2
  have ha:vs[i]? =some v:=by
   unfold start at h2
   rw[List.getElem?_append_left (by simpa using hi),List.getElem?_map] at h2
   cases e:vs[i]? with
   | none=>rw[e] at h2;cases h2
   | some a=>rw[e] at h2;cases h2;rfl
  obtain⟨u,hu,rv⟩:=r.get ha
  have hp:ps[i]? =some y:=by
   rw[<-S.pre,List.getElem?_take_of_lt (by omega)];exact h1
  have ndP:ps.Nodup:=by rw[<-S.pre];exact S.nd.sublist (List.take_sublist _ _)
  refine⟨u,rv, ?_⟩
  rcases S.par y (List.mem_of_getElem? hp) with k | k
  ·exact .inl ⟨k,JS ndP hp hu k⟩
  ·obtain⟨c,e⟩:=Mr (n:=s.heap.objs.size+1) k
   refine .inr ⟨.inl k,c,e, ?_⟩
   have q:=x.cell y c e
   rw[JT ndP hp hu (by show scope.names.lookup y≠_;rw[k];decide)] at q
   exact q
 ·exact e0.hok.fresh (Nat.le_of_lt (x.above y c (PySem.mem_of_lookup h)))
 ·unfold start
  show _=N.length
  rw[List.length_append,List.length_map,List.length_replicate]
  omega
theorem aaU {CX:CXT}{P:Program}{w:World}{K:PySem.W.Frag}{mg:Str->Option Value}{base:Heap}{k:Nat}{f:Addr}{name qual:Str}{params:Arguments}{body:List Stmt}{scope:Scope}{dV kV doc pm cdv ct oc:Value}{an od:Option Addr}
 {osl:Array (Option Value)}{N ps:List Str}{sp:Sp} (lk:K.lookup f=some ⟨oc,od, .func (PySem.W.fnOf name qual params body scope dV kV doc pm an cdv ct),osl⟩) (hcd:PySem.W.codeIn K cdv qual=true) (S:bU N ps scope)
 (len:∀vs H Q E,sp vs H Q E->vs.length=ps.length)
 (hbody:∀(A:Around) (outer:List Env) (s:Shared) (H:Hp) (vs:List V) (Q:VK) (E:XK),jV k (A.deeper (envOfC qual scope s.heap.objs.size f cdv))->sp vs H Q E->
   ∃t,PSs (kY CX P w K mg base N qual scope f cdv A outer s H E) body t/\t {nx:=fun _ H'=>Q .non H',rt:=Q} (start N vs) H):
 aZ P w K mg base CX (k+1) f (PySem.W.fnOf name qual params body scope dV kV doc pm an cdv ct) ps sp:=by
 refine⟨len,fun A outer s H args us vs Q E hr e0 hb r hsp=> ?_⟩
 have hl:=len _ _ _ _ hsp
 have KX:K.In s.heap:=e0.mod.kin.keeps fun b o e=>(e0.bs b o e).1
 have lim:s.heap.NoLimit:=e0.mod.nolimit.keeps fun b o e=>(e0.bs b o e).1
 have hkind:∀y∈ps.zip us,scope.names.lookup y.1=some .local\/(scope.names.lookup y.1=some .cell/\((cellsFrom (s.heap.objs.size+1) scope.names []).lookup y.1).isSome=true):=fun⟨n,v⟩ hy=>by
  rcases S.par n (List.of_mem_zip hy).1 with q | q
  ·exact .inl q
  ·exact .inr ⟨q,PySem.W.cellsFrom_some _ _ _ (.inl q)⟩
 refine codeAny_call_function hr.depth (KX _ _ lk) rfl S.co S.gen rfl (PySem.W.codeRec_of KX hcd) (hb _ _ _ _ ?_)
 refine wpAny_newFunctionEnv_cells S.kind hkind fun env he s1 x=> ?_
 subst he
 refine⟨lim.keeps x.toInCall.keep,codeAny_func ?_⟩
 obtain⟨t,ht,hq⟩:=hbody A outer s H vs Q E (hr.deeper _) hsp
 have I:Inv (kY CX P w K mg base N qual scope f cdv A outer s H E) [] (start N vs) H s1:=Tv S hr.hd e0 hl r x
 refine wpAny_mono (ht [] s1 (start N vs) H _ I hq) (fun fl s' hs=> ?_) fun e s' hs=>hs
 have fin:∀{σ':St}{H':Hp}{v:V}{u:Value},Inv (kY CX P w K mg base N qual scope f cdv A outer s H E) [] σ' H' s'->RelV v u->Q v H'->CE outer P w H s Q u s':=
  fun{σ' H' v u} J rv q=>⟨v,H',J.os,J.bare,J.base,J.hok,rv,q⟩
 cases fl with
 | ret u=>
   obtain⟨v,σ',H',J,rv,q⟩:=hs
   exact fin J rv q
 | next=>
   obtain⟨σ',H',J,q⟩:=hs
   exact fin (v:=V.non) (u:=Value.none) J rfl q
 | brk=>
   obtain⟨_,_,_,q⟩:=hs
   exact False.elim q
 | cont=>
   obtain⟨_,_,_,q⟩:=hs
   exact False.elim q
section
variable {X:Cx}{x:Str}{p pos:Pos}{e:Expr}{es:List Expr}{t:TA}{id T:String}{r:List V->Hp->VK->Prop}
def tCB (r:List V->Hp->VK->Prop) (t:TA):TE:=fun σ H Q=>t σ H fun vs H1=>r vs H1 Q
theorem Ve (hc:sG X (.builtin id) r) (hg:Gl X x) (hm:X.mg x=none) (hv:bootBuiltins x=some (.builtin id)) (ha:PA X (e::es) t) (hn:x≠"__name__":=by decide) (hdb:(x==("__debug__":Str))=false:=by decide)
 (he:starEach (e::es) X.env=(false,eval e X.env)::starEach es X.env:=by rfl) (hpl:(backTo pos (starEach es X.env)).any (·.1)=false:=by rfl):PE X (.Call (.Name x p) (e::es) [] pos) (tCB r t):=by
 intro pins s σ H Q I h
 refine wpAny_Call_Name_kw (Al I hg hm hv ?_ hn hdb)
 exact PyProof.Rows.callWith_builtin1 (thn (ha pos pins s σ H _ I h) fun us s1 ⟨vs,H1,I1,r1,q1⟩=>hc pins s1 σ H1 vs us Q I1 r1 q1) he hpl
theorem Tw (hc:sG X (.type T) r) (hg:Gl X x) (hm:X.mg x=none) (hv:bootBuiltins x=some (.type T)) (ha:PA X (e::es) t) (hn:x≠"__name__":=by decide) (hdb:(x==("__debug__":Str))=false:=by decide)
 (he:starEach (e::es) X.env=(false,eval e X.env)::starEach es X.env:=by rfl) (hpl:(backTo pos (starEach es X.env)).any (·.1)=false:=by rfl):PE X (.Call (.Name x p) (e::es) [] pos) (tCB r t):=by
 intro pins s σ H Q I h
 refine wpAny_Call_Name_kw (Al I hg hm hv ?_ hn hdb)
 exact PyProof.Rows.callWith_type1 (thn (ha pos pins s σ H _ I h) fun us s1 ⟨vs,H1,I1,r1,q1⟩=>hc pins s1 σ H1 vs us Q I1 r1 q1) he hpl
end
end L2
namespace HT
open PySem PyProof.Rows
section
open PySem.SeqAt
open PySem.AutoSeq1 (wpAny_loadPart')
open PySem.MeetsSeq PySem.MeetsSeq2 PySem.MeetsSeq3
end
section
variable {prog:Program}{w:World}{A:Around}{E:Value->Shared->Prop}{s:Shared}
def sIx (n d:Nat):Option Int->Nat
 | none=>d
 | some v=>if v<0 then(v+(n:Int)).toNat else min v.toNat n
theorem Q3 (n d k:Nat):sIx n d (some (k:Int))=min k n:=by
 show(if(k:Int)<0 then((k:Int)+(n:Int)).toNat else min (k:Int).toNat n)=min k n
 rw[if_neg (by omega),Int.toNat_natCast]
end
end HT
namespace L2
open PySem PySem.Spec PyProof.Rows
abbrev TO:=St->Hp->(Option Int->Hp->Prop)->Prop
def PO (X:Cx) (e:Option Expr) (t:TO):Prop:=
 ∀(pins:List (Addr×Obj)) (s:Shared) (σ:St) (H:Hp) (Q:Option Int->Hp->Prop),Inv X pins σ H s->t σ H Q->
  wpAny (model X.prog X.w) X.A (evalPart e X.env) (fun u s'=>∃o H',Inv X pins σ H' s'/\IsPart u o/\Q o H') X.xe s
def Q4:TO:=fun _ H Q=>Q none H
def aaV (t:TE):TO:=fun σ H Q=>t σ H fun x H1=>∃i,x= .int i/\Q (some i) H1
section
variable {X:Cx}{e:Expr}{te:TE}{lo hi:Option Expr}{tl th:TO}{pos p2:Pos}
theorem YC:PO X none Q4:=by
 intro pins s σ H Q I h
 rw[evalPart_none]
 exact wpAny_pure ⟨none,H,I, .none,h⟩
theorem YD (h:PE X e te):PO X (some e) (aaV te):=by
 intro pins s σ H Q I hw
 rw[evalPart_some]
 refine thn (h pins s σ H _ I hw) fun u s1 ⟨x,H1,I1,r1,q1⟩=> ?_
 obtain⟨i,rfl,q⟩:=q1
 obtain⟨t,rfl⟩:=r1
 exact⟨some i,H1,I1, .int i t,q⟩
def SlR (X:Cx) (r:V->Option Int->Option Int->Hp->VK->Prop):Prop:=
 ∀(pins:List (Addr×Obj)) (s:Shared) (σ:St) (H:Hp) (x:V) (v vl vu:Value) (lo hi:Option Int) (sl:Addr) (Q:VK),Inv X pins σ H s->RelV x v->s.heap.IsSliceOf sl vl vu .none->IsPart vl lo->IsPart vu hi->r x lo hi H Q->
  ∃T id,typeLookup (.type T) "__getitem__"=pure (some (.builtin id))/\s.TypeIs v T/\wpAny (model X.prog X.w) X.A (getItem v (.ref sl)) (EP X pins σ Q) X.xe s
def tSl (r:V->Option Int->Option Int->Hp->VK->Prop) (te:TE) (tl th:TO):TE:=fun σ H Q=>te σ H fun x H1=>tl σ H1 fun l H2=>th σ H2 fun u H3=>r x l u H3 Q
theorem Vf {r:V->Option Int->Option Int->Hp->VK->Prop} (hr:SlR X r) (he:PE X e te) (hl:PO X lo tl) (hu:PO X hi th):PE X (.Subscript e (.Slice lo hi none p2) pos) (tSl r te tl th):=by
 intro pins s σ H Q I h
 refine Subscript_ (thn (he pins s σ H _ I h) fun v s1 ⟨x,H1,I1,r1,q1⟩=> ?_)
 refine wpAny_Slice (thn (hl pins s1 σ H1 _ I1 q1) fun vl s2 ⟨l,H2,I2,pl,q2⟩=>thn (hu pins s2 σ H2 _ I2 q2) fun vu s3 ⟨u,H3,I3,pu,q3⟩=> ?_)
 rw[evalPart_none]
 refine wpAny_pure ?_
 have I4:Inv X pins σ H3 {s3 with heap:=s3.heap.push {cls:= .type "slice",data:= .fields #[vl,vu, .none]}}:=I3.kept (t':=s3.toks) fun b ob q=>Heap.get?_push_of_some _ q
 obtain⟨T,id,hT,ht,hg⟩:=hr pins {s3 with heap:=s3.heap.push {cls:= .type "slice",data:= .fields #[vl,vu, .none]}} σ H3 x v vl vu l u s3.heap.objs.size Q I4 r1 (Heap.IsSliceOf.new ..) pl pu q3
 show wpAny (model X.prog X.w) X.A (subscriptTail e (.Slice lo hi none p2) v (.ref s3.heap.objs.size)) (EP X pins σ Q) X.xe {s3 with heap:=s3.heap.push {cls:= .type "slice",data:= .fields #[vl,vu, .none]}}
 exact tail_any (ops:=[.ref s3.heap.objs.size,v]) ht hT hg (by with_unfolding_all rfl)
def Cu (xs:List V) (lo hi:Option Int):List V:=(xs.drop (HT.sIx xs.length 0 lo)).take (HT.sIx xs.length xs.length hi - HT.sIx xs.length 0 lo)
theorem Mt (xs:List V) (lo hi:Option Int):(Cu xs lo hi).length<=xs.length:=by
 unfold Cu
 rw[List.length_take,List.length_drop]
 omega
end
def ixN (n:Nat) (i:Int):Option Nat:=if 0<=i then(if i<n then some i.toNat else none) else if -(n:Int)<=i then some (i+n).toNat else none
def atI {α:Type} (xs:List α) (i:Int):Option α:=(ixN xs.length i).bind fun j=>xs[j]?
theorem YF {n:Nat}{i:Int}{j:Nat} (h:ixN n i=some j):seqIndex? i n=some j/\j<n/\ -(n:Int)<=i/\i<n:=by
 unfold ixN at h
 by_cases h0:0<=i
 ·rw[if_pos h0] at h
  by_cases h1:i<n
  ·rw[if_pos h1] at h
   have e:i.toNat=j:=Option.some.inj h
   exact⟨by rw[seqIndex_of h0 h1,e],by omega,by omega,h1⟩
  ·rw[if_neg h1] at h;cases h
 ·rw[if_neg h0] at h
  by_cases h1: -(n:Int)<=i
  ·rw[if_pos h1] at h
   have e:(i+n).toNat=j:=Option.some.inj h
   exact⟨by rw[seqIndex_neg (by omega) h1,e],by omega,h1,by omega⟩
  ·rw[if_neg h1] at h;cases h
theorem Q5 {α:Type}{xs:List α}{i:Int}{v:α} (h:atI xs i=some v):∃j,seqIndex? i xs.length=some j/\xs[j]? =some v/\j<xs.length/\ -(xs.length:Int)<=i/\i<xs.length:=by
 unfold atI at h
 cases e:ixN xs.length i with
 | none=>rw[e] at h;cases h
 | some j=>
   rw[e] at h
   obtain⟨h1,h2,h3,h4⟩:=YF e
   exact⟨j,h1,h,h2,h3,h4⟩
theorem mV {α:Type}{xs:List α}{j:Nat}{v:α} (h:xs[j]? =some v):atI xs (j:Int)=some v:=by
 have hj:j<xs.length:=(List.getElem?_eq_some_iff.mp h).1
 have e:ixN xs.length (j:Int)=some j:=by
  unfold ixN
  rw[if_pos (by omega),if_pos (by omega)];simp
 unfold atI;rw[e];exact h
def Q6 (b:Expr):Prop:=∀o i,subscripted b false o i=operate [o,i] (getItem o i)
def IxR (X:Cx) (r:R2):Prop:=
 ∀(value slice:Expr) (pins:List (Addr×Obj)) (s:Shared) (σ:St) (H:Hp) (x y:V) (v u:Value) (Q:VK),Inv X pins σ H s->RelV x v->RelV y u->r x y H Q->
  subscripted slice false v u=operate [v,u] (getItem v u)->wpAny (model X.prog X.w) X.A (subscriptTail value slice v u) (EP X pins σ Q) X.xe s
def MtR (X:Cx) (id:String) (r:V->List V->Hp->VK->Prop):Prop:=
 ∀(pins:List (Addr×Obj)) (s:Shared) (σ:St) (H:Hp) (x:V) (xs:List V) (v:Value) (us:List Value) (Q:VK),Inv X pins σ H s->RelV x v->Vals xs us->r x xs H Q->
  wpAny (model X.prog X.w) X.A (call (.builtin id) (v::us)) (EP X pins σ Q) X.xe s
section
variable {X:Cx}{a b:Expr}{ta tb:TE}{pos:Pos}
theorem afy {r:R2} (hr:IxR X r) (ha:PE X a ta) (hb:PE X b tb) (hs:Q6 b):PE X (.Subscript a b pos) (tOp r ta tb):=by
 intro pins s σ H Q I h
 exact Subscript_ (ab5 ha hb I h fun v u s2 x y H2 I2 rx ry q=>hr a b pins s2 σ H2 x y v u Q I2 rx ry q (hs _ _))
def acr (K:PySem.W.Frag):R2:=fun x y H Q=>∃p xs i v,x= .ref p/\y= .int i/\SqL K H p xs/\atI xs i=some v/\Q v H
def acs (K:PySem.W.Frag):R2:=fun x y H Q=>∃p xs i v,x= .ref p/\y= .int i/\SqT K H p xs/\atI xs i=some v/\Q v H
theorem YG:IxR X (acr X.K):=by
 intro value slice pins s σ H x y v u Q I rx ry h hs
 obtain⟨p,xs,i,z,rfl,rfl,hq,he,q⟩:=h
 cases rx
 obtain⟨t,rfl⟩:=ry
 obtain⟨its,r,pl,hz⟩:=I.list hq
 obtain⟨j,h1,h2,h3,h4,h5⟩:=Q5 he
 obtain⟨w,ew,rw'⟩:=r.get h2
 have hl:=r.length
 have hn:=Hr
 have fin:EP X pins σ Q w s:=⟨z,H,I,rw',q⟩
 by_cases h0:0<=i
 ·have hj:i.toNat=j:=by
   rw[seqIndex_of h0 h5] at h1
   exact Option.some.inj h1
  exact item_listR pl.isList h0 (by omega) (by rw[hj];simpa using ew) fin hs
 ·have hj:(i+(its.toArray.size:Int)).toNat=j:=by
   rw[seqIndex_neg (by omega) h4] at h1
   rw[List.size_toArray,<-hl]
   exact Option.some.inj h1
  exact subscriptTail_builtinR (x:=w) pl.isList.typeIs slot_list_getitem.lookup
   (wpAny_getItem_list_neg (Q:=fun r s'=>r=w/\EP X pins σ Q r s') pl.isList (by omega) (by rw[List.size_toArray]<;>omega) (by omega) (by rw[hj];simpa using ew) ⟨rfl,fin⟩) hs
theorem acu:IxR X (acs X.K):=by
 intro value slice pins s σ H x y v u Q I rx ry h hs
 obtain⟨p,xs,i,z,rfl,rfl,hq,he,q⟩:=h
 cases rx
 obtain⟨t,rfl⟩:=ry
 obtain⟨its,r,pl,hz⟩:=I.tuple hq
 obtain⟨j,h1,h2,h3,h4,h5⟩:=Q5 he
 obtain⟨w,ew,rw'⟩:=r.get h2
 have hl:=r.length
 have hn:=Hr
 have fin:EP X pins σ Q w s:=⟨z,H,I,rw',q⟩
 exact subscriptTail_builtinR (x:=w) pl.typeIs slot_tuple_getitem.lookup
  (getItem_tuple (j:=j) (Q:=fun r s'=>r=w/\EP X pins σ Q r s') pl (by omega) (by omega) (by rw[List.size_toArray,<-hl];exact h1) (by simpa using ew) ⟨rfl,fin⟩) hs
theorem Ky (lo hi:Option Int) (n:Nat):(sliceBounds lo hi none n).1=((HT.sIx n 0 lo:Nat):Int)/\(sliceBounds lo hi none n).2.1=((HT.sIx n n hi:Nat):Int)/\(sliceBounds lo hi none n).2.2=1:=by
 refine⟨?_, ?_,rfl⟩
 ·cases lo with
  | none=>simp[sliceBounds,HT.sIx]
  | some i=>
    simp only[sliceBounds,HT.sIx,Option.getD_none,show(1:Int)>0 by decide,if_true]
    by_cases h:i<0
    ·simp only[h,if_true]<;>omega
    ·simp only[h,if_false]<;>omega
 ·cases hi with
  | none=>simp[sliceBounds,HT.sIx]
  | some i=>
    simp only[sliceBounds,HT.sIx,Option.getD_none,show(1:Int)>0 by decide,if_true]
    by_cases h:i<0
    ·simp only[h,if_true]<;>omega
    ·simp only[h,if_false]<;>omega
theorem Jo (its:List Value) (lo hi:Option Int):slicePick its.toArray lo hi none=((its.drop (HT.sIx its.length 0 lo)).take (HT.sIx its.length its.length hi - HT.sIx its.length 0 lo)).toArray:=by
 obtain⟨h1,h2,h3⟩:=Ky lo hi its.toArray.size
 unfold slicePick
 rw[h1,h2,h3]
 simp only[sliceRange_one,pick_run,List.size_toArray]<;>rfl
def afz (K:PySem.W.Frag):V->Option Int->Option Int->Hp->VK->Prop:=fun x lo hi H Q=>∃a xs,x= .ref a/\SqL K H a xs/\∀p,H p=none->Q (.ref p) (upd H p (.lst (Cu xs lo hi)))
theorem YH:SlR X (afz X.K):=by
 intro pins s σ H x v vl vu lo hi sl Q I rx hs pl pu h
 obtain⟨a,xs,rfl,hx,q⟩:=h
 cases rx
 obtain⟨its,r,ht,hz⟩:=I.list hx
 have hlen:=r.length
 refine⟨"list",_,slot_list_getitem.lookup,ht.isList.typeIs, ?_⟩
 refine wpAny_getItem_list_slice ht.isList hs pl pu .none (by simp) ?_ (by rw[List.size_toArray]<;>omega)
 rw[Jo,<-hlen]
 refine⟨.ref s.heap.objs.size,_,I.laid (t':=s.toks) (o:= .lst (Cu xs lo hi)) (fun b ob q=>Heap.get?_push_of_some _ q) (Nat.le_refl _) ?_,rfl,q _ (I.hok.fresh (Nat.le_refl _))⟩
 exact⟨Nat.le_trans (Mt xs lo hi) hz,_,0,(r.drop (HT.sIx xs.length 0 lo)).take (HT.sIx xs.length xs.length hi - HT.sIx xs.length 0 lo),Heap.get?_push_size _ rfl⟩
def p8:V->Bool
 | .non=>true
 | .bl _=>true
 | .int _=>true
 | .str _=>true
 | _=>false
def eqV:V->V->Bool
 | .non, .non=>true
 | .bl a, .bl b=>a==b
 | .bl a, .int b=>(if a then 1 else 0)==b
 | .int a, .bl b=>a==(if b then 1 else 0)
 | .int a, .int b=>a==b
 | .str a, .str b=>a==b
 | _,_=>false
theorem acv {A:Around}{s:Shared}{y x:V}{u v:Value} (ry:RelV y u) (rx:RelV x v) (fy:p8 y=true) (fx:p8 x=true):SeqAt.EqAt A s u v (eqV y x):=by
 cases y with
 | non=>
   cases ry
   cases x with
   | non=>cases rx;exact SeqAt.EqAt.same _
   | bl b=>cases rx;exact SeqAt.EqAt.none_bool b
   | int b=>obtain⟨t,rfl⟩:=rx;exact SeqAt.EqAt.none_int b t
   | str b=>obtain⟨t,rfl⟩:=rx;exact SeqAt.EqAt.none_str b t
   | _=>exact absurd (show false=true from fx) Bool.false_ne_true
 | bl a=>
   cases ry
   cases x with
   | non=>cases rx;exact SeqAt.EqAt.bool_none a
   | bl b=>cases rx;exact SeqAt.EqAt.bool_bool a b
   | int b=>obtain⟨t,rfl⟩:=rx;exact SeqAt.EqAt.bool_int a b t
   | str b=>obtain⟨t,rfl⟩:=rx;exact SeqAt.EqAt.bool_str a b t
   | _=>exact absurd (show false=true from fx) Bool.false_ne_true
 | int a=>
   obtain⟨t',rfl⟩:=ry
   cases x with
   | non=>cases rx;exact SeqAt.EqAt.int_none a t'
   | bl b=>cases rx;exact SeqAt.EqAt.int_bool a t' b
   | int b=>obtain⟨t,rfl⟩:=rx;exact SeqAt.EqAt.int_int a t' b t
   | str b=>obtain⟨t,rfl⟩:=rx;exact SeqAt.EqAt.int_str a t' b t
   | _=>exact absurd (show false=true from fx) Bool.false_ne_true
 | str a=>
   obtain⟨t',rfl⟩:=ry
   cases x with
   | non=>cases rx;exact SeqAt.EqAt.str_none a t'
   | bl b=>cases rx;exact SeqAt.EqAt.str_bool a t' b
   | int b=>obtain⟨t,rfl⟩:=rx;exact SeqAt.EqAt.str_int a t' b t
   | str b=>obtain⟨t,rfl⟩:=rx;exact SeqAt.EqAt.str_str a t' b t
   | _=>exact absurd (show false=true from fx) Bool.false_ne_true
 | _=>exact absurd (show false=true from fy) Bool.false_ne_true
def eqU (x:V) (u:Value):Bool:=match u with
 | .none=>eqV .non x
 | .bool b=>eqV (.bl b) x
 | .int i _=>eqV (.int i) x
 | .str z _=>eqV (.str z) x
 | _=>false
theorem Vg {x y:V}{u:Value} (r:RelV y u) (f:p8 y=true):eqU x u=eqV y x:=by
 cases y with
 | non=>cases r;rfl
 | bl b=>cases r;rfl
 | int i=>obtain⟨t,rfl⟩:=r;rfl
 | str z=>obtain⟨t,rfl⟩:=r;rfl
 | _=>exact absurd (show false=true from f) Bool.false_ne_true
theorem Cv {x:V}:∀{xs:List V}{us:List Value},Vals xs us->xs.all p8=true->us.any (eqU x)=xs.any fun y=>eqV y x
 | _,_, .nil,_=>rfl
 | y::xs,u::us, .cons r t,f=>by
   rw[List.all_cons,Bool.and_eq_true] at f
   rw[List.any_cons,List.any_cons,Vg r f.1,Cv t f.2]
theorem xN {A:Around}{s:Shared}{x:V}{v:Value} (rx:RelV x v) (fx:p8 x=true):∀{xs:List V}{us:List Value},Vals xs us->xs.all p8=true->∀u∈us,SeqAt.EqAt A s u v (eqU x u)
 | _,_, .nil,_=>fun u hu=>by cases hu
 | y::xs,u::us, .cons r t,f=>fun u' hu=>by
   rw[List.all_cons,Bool.and_eq_true] at f
   rcases List.mem_cons.mp hu with rfl | hu
   ·rw[Vg r f.1];exact acv r rx f.1 fx
   ·exact xN rx fx t f.2 u' hu
def inV (x:V) (xs:List V):Bool:=xs.any fun y=>eqV y x
def rIn (K:PySem.W.Frag) (neg:Bool):R2:=fun x y H Q=>∃p xs,y= .ref p/\(SqL K H p xs\/SqT K H p xs)/\p8 x=true/\xs.all p8=true/\Q (.bl (if neg then !inV x xs else inV x xs)) H
theorem Tz:OpR X (compareOp .In) (rIn X.K false):=by
 intro pins s σ H x y v u Q I rx ry h
 obtain⟨p,xs,rfl,hq,fx,fs,q⟩:=h
 cases ry
 rcases hq with hq | hq
 ·obtain⟨its,r,pl,hz⟩:=I.list hq
  refine SeqAt.in_listAt (eqU x) pl.isList (fun w hw=>xN rx fx r fs w (by simpa using hw)) ⟨.bl _,H,I,rfl, ?_⟩
  rw[show its.toArray.any (eqU x)=its.any (eqU x) by simp,Cv r fs]
  exact q
 ·obtain⟨its,r,pl,hz⟩:=I.tuple hq
  refine SeqAt.in_tupleAt (eqU x) pl (fun w hw=>xN rx fx r fs w (by simpa using hw)) ⟨.bl _,H,I,rfl, ?_⟩
  rw[show its.toArray.any (eqU x)=its.any (eqU x) by simp,Cv r fs]
  exact q
theorem Kz:OpR X (compareOp .NotIn) (rIn X.K true):=by
 intro pins s σ H x y v u Q I rx ry h
 obtain⟨p,xs,rfl,hq,fx,fs,q⟩:=h
 cases ry
 rcases hq with hq | hq
 ·obtain⟨its,r,pl,hz⟩:=I.list hq
  refine SeqAt.notIn_listAt (eqU x) pl.isList (fun w hw=>xN rx fx r fs w (by simpa using hw)) ⟨.bl _,H,I,rfl, ?_⟩
  rw[show its.toArray.any (eqU x)=its.any (eqU x) by simp,Cv r fs]
  exact q
 ·obtain⟨its,r,pl,hz⟩:=I.tuple hq
  refine SeqAt.notIn_tupleAt (eqU x) pl (fun w hw=>xN rx fx r fs w (by simpa using hw)) ⟨.bl _,H,I,rfl, ?_⟩
  rw[show its.toArray.any (eqU x)=its.any (eqU x) by simp,Cv r fs]
  exact q
theorem KC:sG X (.builtin "len") (fun xs H Q=>∃p ys,xs=[.ref p]/\(SqL X.K H p ys\/SqT X.K H p ys)/\Q (.int ys.length) H):=by
 intro pins s σ H xs us Q I r h
 obtain⟨p,ys,rfl,hq,q⟩:=h
 obtain⟨u,rfl,rx⟩:=vals1 r
 cases rx
 have hn:=Hr
 rcases hq with hq | hq
 ·obtain⟨its,r',pl,hz⟩:=I.list hq
  have hlen:=r'.length
  exact Calls.call_len_list pl.isList (by simp only[List.size_toArray]<;>omega) ⟨.int ys.length,H,I.tok _,⟨s.toks+1,by rw[List.size_toArray,hlen]⟩,q⟩
 ·obtain⟨its,r',pl,hz⟩:=I.tuple hq
  have hlen:=r'.length
  exact len_tuple pl (by simp only[List.size_toArray]<;>omega) ⟨.int ys.length,H,I.tok _,⟨s.toks+1,by rw[List.size_toArray,hlen]⟩,q⟩
theorem KD:sG X (.type "list") (fun xs H Q=>∃p ys,xs=[.ref p]/\(SqL X.K H p ys\/SqT X.K H p ys)/\∀l,H l=none->Q (.ref l) (upd H l (.lst ys))):=by
 intro pins s σ H xs us Q I r h
 obtain⟨p,ys,rfl,hq,q⟩:=h
 obtain⟨u,rfl,rx⟩:=vals1 r
 cases rx
 have fin:∀(its:List Value),Vals ys its->ys.length<=sizeLine->∀(h':Heap) (c':Nat),(∀b o',s.heap.get? b=some o'->h'.get? b=some o')->
  h'.get? s.heap.objs.size=some {cls:= .type "list",dict:=none,data:= .seq its.toArray c',slots:= #[]}->EP X pins σ Q (.ref s.heap.objs.size) {s with heap:=h'}:=fun its r' hz h' c' kp e=>
  ⟨.ref s.heap.objs.size,_,I.laid (t':=s.toks) kp (Nat.le_refl _) (show d8 X.prog X.w _ h' _ (.lst ys) from⟨hz,its,c',r',e⟩),rfl,q _ (I.hok.fresh (Nat.le_refl _))⟩
 rcases hq with hq | hq
 ·obtain⟨its,r',pl,hz⟩:=I.list hq
  have hlen:=r'.length
  obtain⟨o,ho,hc,n,hd⟩:=pl.isList
  exact call_list_seq p (.inl rfl) ho hc hd (fun h' c' kp e=>fin its r' hz h' c' kp e) (by simp only[List.size_toArray]<;>omega)
 ·obtain⟨its,r',pl,hz⟩:=I.tuple hq
  have hlen:=r'.length
  obtain⟨o,ho,hc,n,hd⟩:=pl
  exact call_list_seq p (.inr rfl) ho hc hd (fun h' c' kp e=>fin its r' hz h' c' kp e) (by simp only[List.size_toArray]<;>omega)
theorem Jp:sG X (.type "tuple") (fun xs H Q=>∃p ys,xs=[.ref p]/\((SqL X.K H p ys/\∀l,H l=none->Q (.ref l) (upd H l (.tup ys)))\/(SqT X.K H p ys/\Q (.ref p) H))):=by
 intro pins s σ H xs us Q I r h
 obtain⟨p,ys,rfl,h⟩:=h
 obtain⟨u,rfl,rx⟩:=vals1 r
 cases rx
 rcases h with⟨hq,q⟩ | ⟨hq,q⟩
 ·obtain⟨its,r',pl,hz⟩:=I.list hq
  have hlen:=r'.length
  refine call_tuple_list pl.isList (fun h' kp=> ?_) (by simp only[List.size_toArray]<;>omega)
  have I1:Inv X pins σ H {s with heap:=h'}:=I.kept (t':=s.toks) kp
  have I2:Inv X pins σ (upd H h'.objs.size (.tup ys)) {s with heap:=h'.push {cls:= .type "tuple",data:= .seq its.toArray}}:=
   I1.laid (t':=s.toks) (fun b o e=>Heap.get?_push_of_some _ e) (Nat.le_refl _) (show d8 X.prog X.w _ _ _ (.tup ys) from⟨hz,its,r',IsTup.new _ _⟩)
  exact⟨.ref h'.objs.size,_,I2,rfl,q _ (I1.hok.fresh (Nat.le_refl _))⟩
 ·obtain⟨its,r',pl,hz⟩:=I.tuple hq
  exact call_tuple_same pl ⟨.ref p,H,I,rfl,q⟩
def tyV (K:PySem.W.Frag) (T:String) (x:V) (H:Hp):Prop:=match x with
 | .str _=>T="str"
 | .int _=>T="int"
 | .ref p=>(T="list"/\∃xs,SqL K H p xs)\/(T="tuple"/\∃o,K.lookup p=some o/\o.cls= .type "tuple"/\o.dict=none)\/
     (T="dict"/\((∃kvs,H p=some (.dK kvs))\/∃kvs,H p=some (.dT kvs)))\/(T="set"/\∃S n,H p=some (.set S n))
 | _=>False
theorem Vh {pins:List (Addr×Obj)}{σ:St}{H:Hp}{s:Shared}{T:String}{x:V}{v:Value} (I:Inv X pins σ H s) (r:RelV x v) (ty:tyV X.K T x H):
 s.TypeIs v T/\∀a,v= .ref a->∃ob,s.heap.get? a=some ob/\ob.dict=none:=by
 cases x with
 | str z=>
   obtain⟨t,rfl⟩:=r
   cases(show T="str" from ty)
   exact⟨typeIs_str s z t,fun _ e=>nomatch e⟩
 | int i=>
   obtain⟨t,rfl⟩:=r
   cases(show T="int" from ty)
   exact⟨typeIs_int s i t,fun _ e=>nomatch e⟩
 | ref p=>
   cases r
   rcases ty with⟨rfl,xs,hq⟩ | ⟨rfl,o,hk,hc,hd⟩ | ⟨rfl,hk⟩ | ⟨rfl,S,n,hk⟩
   ·obtain⟨its,_,pl,_⟩:=I.list hq
    refine⟨pl.isList.typeIs,fun a e=> ?_⟩
    cases e
    obtain⟨o,n,e,c,hd,_⟩:=pl
    exact⟨o,e,hd⟩
   ·refine⟨⟨o,I.kIn p o hk,hc⟩,fun a e=> ?_⟩
    cases e
    exact⟨o,I.kIn _ o hk,hd⟩
   ·have z:∃o,s.heap.get? p=some o/\o.ExactDict:=by
     rcases hk with⟨kvs,hk⟩ | ⟨kvs,hk⟩
     ·obtain⟨_,_,_,_,o,_,_,e,ex,_⟩:=I.hok p _ hk
      exact⟨o,e,ex⟩
     ·obtain⟨_,_,_,_,o,_,_,e,ex,_⟩:=I.hok p _ hk
      exact⟨o,e,ex⟩
    obtain⟨o,e,ex⟩:=z
    refine⟨⟨o,e,ex.1⟩,fun a e2=> ?_⟩
    cases e2
    exact⟨o,e,ex.2.1⟩
   ·obtain⟨o,_,_,_,e,ex,_⟩:=I.hok p _ hk
    refine⟨⟨o,e,ex.1⟩,fun a e2=> ?_⟩
    cases e2
    exact⟨o,e,ex.2.1⟩
 | _=>exact False.elim ty
def afA (K:PySem.W.Frag) (T:String) (r:V->List V->Hp->VK->Prop) (to:TE):TE:=fun σ H Q=>to σ H fun x H1=>tyV K T x H1/\r x [] H1 Q
def tBM (K:PySem.W.Frag) (T:String) (r:V->List V->Hp->VK->Prop) (to:TE) (t:TA):TE:=fun σ H Q=>to σ H fun x H1=>tyV K T x H1/\t σ H1 fun xs H2=>r x xs H2 Q
variable {o e:Expr}{es:List Expr}{to:TE}{t:TA}{name:Str}{apos cpos:Pos}{T id:String}{r:V->List V->Hp->VK->Prop}
theorem acw (pa:PlainAttrs T) (slot:Slot T name id) (hty:typeOf (.builtin id)=pure (.type "method_descriptor")) (hm:MtR X id r) (ho:PE X o to)
 (hbase:attributeBase o name X.env (eval o X.env)=eval o X.env:=by rfl) (hline:(apos.endLine==cpos.line)=true:=by rfl):PE X (.Call (.Attribute o name apos) [] [] cpos) (afA X.K T r to):=by
 intro pins s σ H Q I h
 refine wpAny_Call_method0_late hbase hline (thn (ho pins s σ H _ I h) fun v s1 ⟨x,H1,I1,r1,ty,q1⟩=> ?_)
 obtain⟨h1,h2⟩:=Vh I1 r1 ty
 exact⟨T,id,pa,slot,hty,h1,h2,Calls.callWith_builtin rfl (PySem.evalArgs_none (hm pins s1 σ H1 x [] v [] Q I1 r1 .nil q1))⟩
theorem afB (pa:PlainAttrs T) (slot:Slot T name id) (hty:typeOf (.builtin id)=pure (.type "method_descriptor")) (hm:MtR X id r) (ho:PE X o to) (ha:PA X (e::es) t)
 (hbase:attributeBase o name X.env (eval o X.env)=eval o X.env:=by rfl)
 (hfew:((backTo cpos (starEach (e::es) X.env)).all (fun x=> !x.1)&&(backToKw cpos (keywordEach [] X.env)).all (fun x=>x.1.isSome)
   &&decide ((e::es).length+([]:List Keyword).length+(if([]:List Keyword).isEmpty then 0 else 1)<30))=true:=by rfl)
 (hline:(apos.endLine==cpos.line)=true:=by rfl) (hs:starEach (e::es) X.env=(false,eval e X.env)::starEach es X.env:=by rfl) (hplain:(backTo cpos (starEach es X.env)).any (·.1)=false:=by rfl):
 PE X (.Call (.Attribute o name apos) (e::es) [] cpos) (tBM X.K T r to t):=by
 intro pins s σ H Q I h
 refine wpAny_Call_method_late hbase hfew hline rfl (thn (ho pins s σ H _ I h) fun v s1 ⟨x,H1,I1,r1,ty,q1⟩=> ?_)
 obtain⟨h1,h2⟩:=Vh I1 r1 ty
 refine⟨T,id,pa,slot,hty,h1,h2, ?_⟩
 have hA:=ha cpos pins s1 σ H1 _ I1 q1
 rw[hs] at hA ⊢
 refine Calls.callWith_builtin (by show(false||(backTo cpos (starEach es X.env)).any (·.1))=false;rw[hplain]<;>rfl) (Calls.evalArgs_plain ?_)
 exact thn hA fun us s2 ⟨vs,H2,I2,r2,q2⟩=>hm pins s2 σ H2 x vs v us Q I2 r1 r2 q2
/- xs.append(e),list.index on a module's tuple .. are MtR facts of 06m -/
end
def MtM (X:Cx) (id:String) (r:V->List V->Hp->VK->Prop):Prop:=
 ∀(pins:List (Addr×Obj)) (s:Shared) (σ:St) (H:Hp) (x:V) (xs:List V) (v:Value) (us:List Value) (Q:VK),Inv X pins σ H s->RelV x v->Vals xs us->r x xs H Q->
  wpAny (model X.prog X.w) X.A (call (.builtin id) (v::us)) (EP X pins σ Q) X.xe s
theorem Vals.one:∀{x:V}{us:List Value},Vals [x] us->∃u,us=[u]/\RelV x u
 | _,_, .cons r .nil=>⟨_,rfl,r⟩
theorem Vals.two:∀{x y:V}{us:List Value},Vals [x,y] us->∃u v,us=[u,v]/\RelV x u/\RelV y v
 | _,_,_, .cons r (.cons q .nil)=>⟨_,_,rfl,r,q⟩
theorem Vals.zero:∀{us:List Value},Vals [] us->us=[]
 | _, .nil=>rfl
theorem Vals.dropLast {xs:List V}{us:List Value} (h:Vals xs us):Vals xs.dropLast us.dropLast:=by
 induction h with
 | nil=>exact .nil
 | cons r t ih=>
   cases t with
   | nil=>exact .nil
   | cons q t'=>exact .cons r ih
theorem Pj {α:Type} (l:List α):l.eraseIdx (l.length - 1)=l.dropLast:=by
 induction l with
 | nil=>rfl
 | cons a r ih=>
   cases r with
   | nil=>rfl
   | cons b r=>
     have e:(a::b::r).length - 1=((b::r).length - 1)+1:=by
      have h1:(a::b::r).length=r.length+2:=rfl
      have h2:(b::r).length=r.length+1:=rfl
      omega
     rw[e,List.eraseIdx_cons_succ,ih]
     all_goals rfl
section
variable {X:Cx}{pins:List (Addr×Obj)}{σ:St}{H:Hp}{s:Shared}{l b:Addr}{xs ys zs:List V}
theorem Inv.lset {its its':List Value}{n:Nat}{f:Array Value->Array Value}{t':Nat} (I:Inv X pins σ H s) (hH:H l=some (.lst xs))
 (e:s.heap.get? l=some {cls:= .type "list",data:= .seq its.toArray n}) (hf:f its.toArray=its'.toArray) (hv:Vals ys its') (hz:ys.length<=sizeLine):
 Inv X pins σ (upd H l (.lst ys)) {s with heap:=s.heap.update l (Obj.mapSeq f),toks:=t'}:=by
 have q:=PySem.IsL.update e f
 rw[hf] at q
 refine I.write (x:=l) (e:=l) (by rw[hH];exact trivial) (.inl rfl) (fun b' u hb hu=>(Heap.get?_update_other s.heap (Obj.mapSeq f) (Ne.symm hb)).trans hu) ⟨_,q⟩ ?_
 exact⟨hz,its',_,hv,q⟩
theorem Inv.lnew {its:List Value}{t':Nat} (I:Inv X pins σ H s) (hv:Vals ys its) (hz:ys.length<=sizeLine):
 Inv X pins σ (upd H s.heap.objs.size (.lst ys)) {s with heap:=s.heap.push {cls:= .type "list",data:= .seq its.toArray},toks:=t'}:=
 I.laid (fun _ _ q=>Heap.get?_push_of_some _ q) (Nat.le_refl _) ⟨hz,its,0,hv,Heap.get?_push_size _ rfl⟩
theorem Inv.fresh (I:Inv X pins σ H s):H s.heap.objs.size=none:=I.hok.fresh (Nat.le_refl _)
theorem Inv.TF (I:Inv X pins σ H s) (hH:H l=some (.lst xs)):xs.length<=sizeLine/\∃(its:List Value) (n:Nat),Vals xs its/\xs.length=its.length/\s.heap.get? l=some {cls:= .type "list",data:= .seq its.toArray n}:=by
 obtain⟨z,its,n,r,e⟩:=I.hok l _ hH
 exact⟨z,its,n,r,r.length,e⟩
theorem Vi {n:Nat} (h:n<=sizeLine):Builtin.List.listTooLong n=false:=by
 unfold Builtin.List.listTooLong
 exact decide_eq_false (by omega)
end
section
variable {X:Cx}
def Q7:V->List V->Hp->VK->Prop:=fun x vs H Q=>∃l xs y,x= .ref l/\vs=[y]/\H l=some (.lst xs)/\xs.length<sizeLine/\Q .non (upd H l (.lst (xs++[y])))
theorem JV:MtM X "list.append" Q7:=by
 intro pins s σ H x vs v us Q I rx rv h
 obtain⟨l,xs,y,rfl,rfl,hH,hz,q⟩:=h
 cases rx
 obtain⟨u,rfl,ru⟩:=rv.one
 obtain⟨z,its,n,r,hl,e⟩:=I.TF hH
 refine call_meets F.slot_list_append ⟨_,e,rfl⟩ F.entry_list_append (F.args_list_append_2 _ _) (PySem.list_append l its.toArray n u (by rw[List.size_toArray];omega)) ⟨e, ?_⟩
 refine⟨.non,_,I.lset (its':=its++[u]) hH e (by simp) (r.append (.cons ru .nil)) ?_,rfl,q⟩
 rw[List.length_append,List.length_singleton]
 omega
def Q8:V->List V->Hp->VK->Prop:=fun x vs H Q=>∃l b xs zs,x= .ref l/\vs=[.ref b]/\H l=some (.lst xs)/\H b=some (.lst zs)/\xs.length+zs.length<=sizeLine/\Q .non (upd H l (.lst (xs++zs)))
theorem TJ:MtM X "list.extend" Q8:=by
 intro pins s σ H x vs v us Q I rx rv h
 obtain⟨l,b,xs,zs,rfl,rfl,hH,hB,hz,q⟩:=h
 cases rx
 obtain⟨u,rfl,ru⟩:=rv.one
 cases ru
 obtain⟨z,its,n,r,hl,e⟩:=I.TF hH
 obtain⟨z2,its2,n2,r2,hl2,e2⟩:=I.TF hB
 have hsz:its.toArray.size+its2.toArray.size<=sizeLine:=by rw[List.size_toArray,List.size_toArray];omega
 have hlong:¬(!its.toArray.isEmpty&&Builtin.List.listTooLong (its.toArray.size+its2.toArray.size))=true:=by
  rw[Vi hsz,Bool.and_false]
  exact Bool.false_ne_true
 refine call_meets F.slot_list_extend ⟨_,e,rfl⟩ F.entry_list_extend (F.args_list_extend_2 _ _)
  (AutoSeq1.list_extend_list_list_0 l its.toArray n b its2.toArray n2 hlong (by rw[List.size_toArray];omega) (by omega)) ⟨e,e2, ?_⟩
 refine⟨.non,_,I.lset (its':=its++its2) hH e (by simp) (r.append r2) ?_,rfl,q⟩
 rw[List.length_append]
 omega
def afC:V->List V->Hp->VK->Prop:=fun x vs H Q=>∃l xs y,x= .ref l/\vs=[]/\H l=some (.lst xs)/\xs[xs.length - 1]? =some y/\Q y (upd H l (.lst xs.dropLast))
theorem acy:MtM X "list.pop" afC:=by
 intro pins s σ H x vs v us Q I rx rv h
 obtain⟨l,xs,y,rfl,rfl,hH,hy,q⟩:=h
 cases rx
 have hus:=rv.zero
 subst hus
 obtain⟨z,its,n,r,hl,e⟩:=I.TF hH
 obtain⟨u,hu,ru⟩:=r.get hy
 have hy':its.toArray[its.toArray.size - 1]? =some u:=by
  show its.toArray[its.length - 1]? =some u
  rw[<-Array.getElem?_toList,<-hl]
  exact hu
 refine call_meets F.slot_list_pop ⟨_,e,rfl⟩ F.entry_list_pop (F.args_list_pop_1 _) (MeetsSeq.list_pop_last l its.toArray n u hy' (by rw[List.size_toArray];omega)) ⟨e, ?_⟩
 refine⟨y,_,I.lset (its':=its.dropLast) hH e ?_ r.dropLast ?_,ru,q⟩
 ·show its.toArray.eraseIdxIfInBounds (its.toArray.size - 1)=its.dropLast.toArray
  rw[List.size_toArray,List.eraseIdxIfInBounds_toArray,Pj]
 ·rw[List.length_dropLast]
  omega
def afD:R2:=fun x y H Q=>∃l b xs zs,x= .ref l/\y= .ref b/\H l=some (.lst xs)/\H b=some (.lst zs)/\xs.length+zs.length<=sizeLine/\∀p,H p=none->Q (.ref p) (upd H p (.lst (xs++zs)))
theorem acz:OpR X (binaryOp .Add) afD:=by
 intro pins s σ H x y v u Q I rx ry h
 obtain⟨l,b,xs,zs,rfl,rfl,hH,hB,hz,q⟩:=h
 cases rx
 cases ry
 obtain⟨z,its,n,r,hl,e⟩:=I.TF hH
 obtain⟨z2,its2,n2,r2,hl2,e2⟩:=I.TF hB
 refine PySem.P.add_list e e2 ?_ (by rw[List.size_toArray,List.size_toArray];omega)
 have ea:its.toArray++its2.toArray=(its++its2).toArray:=by simp
 rw[ea]
 exact⟨.ref _,_,I.lnew (t':=s.toks) (r.append r2) (by rw[List.length_append];omega),rfl,q _ I.fresh⟩
end
section
variable {prog:Program}{w:World}{A:Around}{E:Value->Shared->Prop}{s:Shared}
end
section
variable {X:Cx}
end
section
variable {κ:Type} [DecidableEq κ]
def fG (kvs:List (κ×V)) (k:κ):Option V:=(kvs.find? fun kv=>decide (kv.1=k)).map (·.2)
def putK (kvs:List (κ×V)) (k:κ) (v:V):List (κ×V):=
 if(kvs.any fun kv=>decide (kv.1=k))=true then kvs.map (fun kv=>if kv.1=k then(kv.1,v) else kv) else kvs++[(k,v)]
theorem ux {k:κ}:fG ([]:List (κ×V)) k=none:=rfl
theorem kJ {p:κ×V}{r:List (κ×V)}{k:κ} (e:p.1=k):fG (p::r) k=some p.2:=by simp[fG,List.find?_cons,e]
theorem kO {p:κ×V}{r:List (κ×V)}{k:κ} (e:¬p.1=k):fG (p::r) k=fG r k:=by simp[fG,List.find?_cons,e]
theorem xO (k:κ):∀kvs:List (κ×V),(kvs.any fun kv=>decide (kv.1=k))=(fG kvs k).isSome
 |[]=>rfl
 | p::r=>by
   rw[List.any_cons]
   by_cases e:p.1=k
   ·simp only[kJ e,decide_eq_true e,Bool.true_or,Option.isSome_some]
   ·rw[kO e,decide_eq_false e,Bool.false_or];exact xO k r
theorem Mv (k j:κ) (y:V):∀kvs:List (κ×V),fG (kvs.map fun kv=>if kv.1=k then(kv.1,y) else kv) j=(fG kvs j).map fun x=>if j=k then y else x
 |[]=>rfl
 | p::r=>by
   have ih:=Mv k j y r
   rw[List.map_cons]
   by_cases h:p.1=k
   ·rw[if_pos h]
    by_cases e:p.1=j
    ·rw[kJ (p:=(p.1,y)) e,kJ e,Option.map_some,if_pos (e.symm.trans h)]
    ·rw[kO (p:=(p.1,y)) e,kO e,ih]
   ·rw[if_neg h]
    by_cases e:p.1=j
    ·rw[kJ (p:=p) e,kJ e,Option.map_some,if_neg (fun z=>h (e.trans z))]
    ·rw[kO (p:=p) e,kO e,ih]
theorem JW (k j:κ) (y:V):∀kvs:List (κ×V),fG kvs k=none->fG (kvs++[(k,y)]) j=if j=k then some y else fG kvs j
 |[],_=>by
  by_cases e:k=j
  ·rw[if_pos e.symm];exact kJ (p:=(k,y)) e
  ·rw[if_neg (fun z=>e z.symm)];exact kO (p:=(k,y)) e
 | p::r,hn=>by
   rw[List.cons_append]
   have hk:¬p.1=k:=fun z=>by rw[kJ z] at hn;cases hn
   rw[kO hk] at hn
   have ih:=JW k j y r hn
   by_cases e:p.1=j
   ·rw[kJ e,kJ e,if_neg (fun z=>hk (e.trans z))]
   ·rw[kO e,kO e,ih]
theorem lE (kvs:List (κ×V)) (k j:κ) (y:V):fG (putK kvs k y) j=if j=k then some y else fG kvs j:=by
 unfold putK
 by_cases a:(kvs.any fun kv=>decide (kv.1=k))=true
 ·rw[if_pos a,Mv]
  rw[xO] at a
  by_cases e:j=k
  ·obtain⟨x,hx⟩:=Option.isSome_iff_exists.mp a
   rw[if_pos e,e,hx,Option.map_some,if_pos rfl]
  ·rw[if_neg e]
   cases fG kvs j with
   | none=>rfl
   | some x=>rw[Option.map_some,if_neg e]
 ·rw[if_neg a]
  refine JW k j y kvs ?_
  rw[xO] at a
  cases q:fG kvs k with
  | none=>rfl
  | some x=>rw[q] at a;exact(a rfl).elim
theorem xP (kvs:List (κ×V)) (k:κ) (v:V):(putK kvs k v).length<=kvs.length+1:=by
 unfold putK
 split
 ·rw[List.length_map];omega
 ·rw[List.length_append,List.length_cons,List.length_nil];omega
theorem wN.uy {o:Option V}{u:Option Value} (r:wN o u):o.isSome=u.isSome:=by
 cases o with
 | none=>cases u with
   | none=>rfl
   | some _=>exact(show False from r).elim
 | some _=>cases u with
   | none=>exact(show False from r).elim
   | some _=>rfl
theorem KV.val {kvs:List (κ×V)}{vs:List (κ×Value)} (r:KV kvs vs) (k:κ):wN (fG kvs k) (valueAt vs k):=by
 unfold KV at r
 induction r with
 | nil=>exact True.intro
 | @cons p q ps qs h t ih=>
   obtain⟨h1,h2⟩:=h
   by_cases e:p.1=k
   ·have e':q.1=k:=h1.symm.trans e
    have b:valueAt (q::qs) k=some q.2:=by simp[valueAt,List.find?_cons,e']
    rw[kJ e,b];exact h2
   ·have e':¬q.1=k:=fun z=>e (h1.trans z)
    have b:valueAt (q::qs) k=valueAt qs k:=by simp[valueAt,List.find?_cons,e']
    rw[kO e,b];exact ih
theorem KV.any {kvs:List (κ×V)}{vs:List (κ×Value)} (r:KV kvs vs) (k:κ):(kvs.any fun kv=>decide (kv.1=k))=vs.any fun kv=>decide (kv.1=k):=by
 unfold KV at r
 induction r with
 | nil=>rfl
 | cons h t ih=>rw[List.any_cons,List.any_cons,ih,h.1]
theorem KV.repl {kvs:List (κ×V)}{vs:List (κ×Value)} (r:KV kvs vs) (k:κ) {y:V}{u:Value} (ry:RelV y u):
 KV (kvs.map fun kv=>if kv.1=k then(kv.1,y) else kv) (vs.map fun kv=>if kv.1=k then(kv.1,u) else kv):=by
 unfold KV at r ⊢
 induction r with
 | nil=>exact .nil
 | @cons p q ps qs h t ih=>
   rw[List.map_cons,List.map_cons]
   refine .cons ?_ ih
   obtain⟨h1,h2⟩:=h
   by_cases e:p.1=k
   ·rw[if_pos e,if_pos (h1.symm.trans e)];exact⟨h1,ry⟩
   ·rw[if_neg e,if_neg (fun z=>e (h1.trans z))];exact⟨h1,h2⟩
theorem KV.put {kvs:List (κ×V)}{vs:List (κ×Value)} (r:KV kvs vs) (k:κ) {y:V}{u:Value} (ry:RelV y u):KV (putK kvs k y) (stored vs k u):=by
 unfold putK stored
 rw[r.any k]
 by_cases e:(vs.any fun kv=>decide (kv.1=k))=true
 ·rw[if_pos e,if_pos e];exact r.repl k ry
 ·rw[if_neg e,if_neg e];exact Paired.snoc r ⟨rfl,ry⟩
theorem KV.length {kvs:List (κ×V)}{vs:List (κ×Value)} (r:KV kvs vs):kvs.length=vs.length:=Paired.length r
end
theorem JX {P:Program}{w:World}{k:Key}{u:Value} (r:RelV (kV k) u):(jc P w).is k u=true:=by
 cases k with
 | inl i=>obtain⟨t,e⟩:=(show∃t,u=Value.int i t from r);subst e;exact Ml P w i t
 | inr x=>obtain⟨t,e⟩:=(show∃t,u=Value.str x t from r);subst e;exact Mm P w x t
theorem JZ {P:Program}{w:World}:∀{ks:List Key}{us:List Value},Vals (ks.map kV) us->ItemsAre (jc P w) ks us
 |[],_,r=>by rw[List.map_nil] at r;cases r;exact .nil
 | k::ks,_,r=>by
   rw[List.map_cons] at r
   cases r with
   | cons h t=>exact .cons (JX h) (JZ t)
abbrev KT (H:Hp):List (List Key×V)->List (List Key×Addr×Value)->Prop:=Paired fun p q=>p.1=q.1/\H q.2.1=some (.tup (p.1.map kV))/\RelV p.2 q.2.2
theorem KT.val {H:Hp}{kvs:List (List Key×V)}{xs:List (List Key×Addr×Value)} (r:KT H kvs xs) (k:List Key):wN (fG kvs k) ((atKey xs k).map (·.2)):=by
 induction r with
 | nil=>exact True.intro
 | @cons p q ps qs h t ih=>
   obtain⟨h1,_,h2⟩:=h
   by_cases e:p.1=k
   ·have e':q.1=k:=h1.symm.trans e
    have b:atKey (q::qs) k=some q.2:=by simp[atKey,List.find?_cons,e']
    rw[kJ e,b];exact h2
   ·have e':¬q.1=k:=fun z=>e (h1.trans z)
    have b:atKey (q::qs) k=atKey qs k:=by simp[atKey,List.find?_cons,e']
    rw[kO e,b];exact ih
theorem KT.repl {H:Hp}{kvs:List (List Key×V)}{xs:List (List Key×Addr×Value)} (r:KT H kvs xs) (k:List Key) {y:V}{u:Value} (ry:RelV y u):
 KT H (kvs.map fun kv=>if kv.1=k then(kv.1,y) else kv) (xs.map (putAt k u)):=by
 induction r with
 | nil=>exact .nil
 | @cons p q ps qs h t ih=>
   rw[List.map_cons,List.map_cons]
   refine .cons ?_ ih
   obtain⟨h1,h2,h3⟩:=h
   unfold putAt
   by_cases e:p.1=k
   ·rw[if_pos e,if_pos (h1.symm.trans e)];exact⟨h1,h2,ry⟩
   ·rw[if_neg e,if_neg (fun z=>e (h1.trans z))];exact⟨h1,h2,h3⟩
theorem KT.put {H:Hp}{kvs:List (List Key×V)}{xs:List (List Key×Addr×Value)} (r:KT H kvs xs) (k:List Key) {b:Addr}{y:V}{u:Value} (hb:H b=some (.tup (k.map kV))) (ry:RelV y u):
 KT H (putK kvs k y) (storedH xs k b u):=by
 have e:(kvs.any fun kv=>decide (kv.1=k))=(atKey xs k).isSome:=by
  rw[xO,(r.val k).uy,Option.isSome_map]
 unfold putK storedH
 rw[e]
 by_cases q:(atKey xs k).isSome=true
 ·rw[if_pos q,if_pos q];exact r.repl k ry
 ·rw[if_neg q,if_neg q];exact Paired.snoc r ⟨rfl,hb,ry⟩
theorem KT.keeps {H H':Hp}{kvs:List (List Key×V)}{xs:List (List Key×Addr×Value)} (r:KT H kvs xs) (ht:∀b ys,H b=some (.tup ys)->H' b=some (.tup ys)):KT H' kvs xs:=
 Paired.abN r fun _ _ z=>⟨z.1,ht _ _ z.2.1,z.2.2⟩
section
variable {P:Program}{w:World}{H:Hp}{h:Heap}{a:Addr}
theorem aaW {u:HO} (ok:HOk P w H h) (e:Rd H a u):d8 P w H h a u:=e.ok ok
theorem J0 {kvs:List (Key×V)} (ok:HOk P w H h) (e:Rd H a (.dK kvs)):kvs.length<=sizeLine/\(a==sysModules)=false/\∃vs,KV kvs vs/\h.DictOf (jc P w) a vs:=
 show d8 P w H h a (.dK kvs) from aaW ok e
theorem Q9 {kvs:List (Key×V)} (ok:HOk P w H h) (e:H a=some (.dK kvs)):kvs.length<=sizeLine/\(a==sysModules)=false/\∃vs,KV kvs vs/\h.DictOf (jc P w) a vs:=J0 ok (.inl e)
theorem Ht {ks:List Key} (ok:HOk P w H h) (e:H a=some (.tup (ks.map kV))):(tupleKind (jc P w)).is h ks a:=by
 obtain⟨_,its,r,o,h1,h2,n,h3⟩:=(show d8 P w H h a (.tup (ks.map kV)) from ok a _ e)
 exact⟨o,its.toArray,n,h1,h2,h3,by simpa using JZ r⟩
theorem J1 {kvs:List (List Key×V)} (ok:HOk P w H h) (e:Rd H a (.dT kvs)):kvs.length<=sizeLine/\(a==sysModules)=false/\
 ∃xs,KT H kvs xs/\h.DictOfH (tupleKind (jc P w)) a xs:=by
 obtain⟨z,y,xs,r,o,es,ep,h1,h2,h3,h4,h5⟩:=(show d8 P w H h a (.dT kvs) from aaW ok e)
 refine⟨z,y,xs,r,o,es,ep,h1,h2,h3,h4,fun x hx=> ?_,h5⟩
 have all:∀{l:List (List Key×V)}{m:List (List Key×Addr×Value)},KT H l m->∀x∈m,(tupleKind (jc P w)).is h x.1 x.2.1:=by
  intro l m q
  induction q with
  | nil=>intro x hx;exact nomatch hx
  | @cons p q ps qs hq t ih=>
    intro x hx
    rcases List.mem_cons.mp hx with e | hx
    ·subst e
     exact Ht ok (by rw[<-hq.1];exact hq.2.1)
    ·exact ih x hx
 exact all r x hx
theorem afE {kvs:List (List Key×V)} (ok:HOk P w H h) (e:H a=some (.dT kvs)):kvs.length<=sizeLine/\(a==sysModules)=false/\
 ∃xs,KT H kvs xs/\h.DictOfH (tupleKind (jc P w)) a xs:=J1 ok (.inl e)
end
def cD (H:Hp) (a:Addr) (y:V) (r:Option V):Prop:=
 (∃kvs k,Rd H a (.dK kvs)/\y=kV k/\r=fG kvs k)\/∃kvs k b,Rd H a (.dT kvs)/\y= .ref b/\H b=some (.tup (k.map kV))/\r=fG kvs k
def lD (H:Hp) (a:Addr) (y v:V) (H':Hp):Prop:=
 (∃kvs k,H a=some (.dK kvs)/\y=kV k/\kvs.length<sizeLine/\H'=upd H a (.dK (putK kvs k v)))\/
 ∃kvs k b,H a=some (.dT kvs)/\y= .ref b/\H b=some (.tup (k.map kV))/\kvs.length<sizeLine/\H'=upd H a (.dT (putK kvs k v))
theorem cD.k {H:Hp}{a:Addr}{kvs:List (Key×V)}{k:Key} (e:H a=some (.dK kvs)):cD H a (kV k) (fG kvs k):= .inl ⟨kvs,k, .inl e,rfl,rfl⟩
theorem lD.k {H:Hp}{a:Addr}{kvs:List (Key×V)}{k:Key}{v:V} (e:H a=some (.dK kvs)) (hl:kvs.length<sizeLine):lD H a (kV k) v (upd H a (.dK (putK kvs k v))):= .inl ⟨kvs,k,e,rfl,hl,rfl⟩
section
variable {X:Cx}{pins:List (Addr×Obj)}{σ:St}{H:Hp}{s:Shared}{a:Addr}{y v:V}{u r:Value}{o:Option V}{A:Around}{E:Value->Shared->Prop}
theorem Inv.big (I:Inv X pins σ H s):sysModules<s.heap.objs.size:=by
 have h:mainGlobals<s.heap.objs.size:=(I.mod.glob.keeps I.bk).lt
 exact Nat.lt_trans (by decide) h
theorem TQ {Q:Value->Shared->Prop} (hu:A.units+1<cLine) (I:Inv X pins σ H s) (g:cD H a y (some v)) (ry:RelV y u) (h:∀w' s',Inv X pins σ H s'->RelV v w'->Q w' s'):
 wpAny (model X.prog X.w) A (getItem (.ref a) u) Q E s:=by
 rcases g with⟨kvs,k,e,ey,l⟩ | ⟨kvs,k,b,e,ey,eb,l⟩
 ·subst ey
  obtain⟨z,hd,vs,rel,dd⟩:=J0 I.hok e
  obtain⟨w',hw,rw'⟩:=wN.some_of (v:=v) (o:=valueAt vs k) (by rw[l];exact rel.val k)
  exact wpAny_getItem_of (JX ry) dd.mapOf hw (h w' _ (I.tok _) rw')
 ·subst ey
  cases(show u=Value.ref b from ry)
  obtain⟨z,hd,xs,rel,dd⟩:=J1 I.hok e
  obtain⟨w',hw,rw'⟩:=wN.some_of (v:=v) (o:=(atKey xs k).map (·.2)) (by rw[l];exact rel.val k)
  obtain⟨p,hp,hp2⟩:=Option.map_eq_some_iff.mp hw
  refine wpAny_getItem_heap (tupleKind_room_in1 hu) (Ht I.hok eb) dd hp ?_
  rw[hp2]
  exact h w' _ (I.tok _) rw'
theorem ai8 {Q:Value->Shared->Prop} (hu:A.units+1<cLine) (I:Inv X pins σ H s) (g:cD H a y o) (ry:RelV y u) (h:∀s',Inv X pins σ H s'->Q (.bool o.isSome) s'):
 wpAny (model X.prog X.w) A (compareOp .In u (.ref a)) Q E s:=by
 rcases g with⟨kvs,k,e,ey,l⟩ | ⟨kvs,k,b,e,ey,eb,l⟩
 ·subst ey
  obtain⟨z,hd,vs,rel,dd⟩:=J0 I.hok e
  refine wpAny_in_of (JX ry) hd dd.mapOf ?_
  rw[<-(rel.val k).uy,<-l]
  exact h _ (I.tok _)
 ·subst ey
  cases(show u=Value.ref b from ry)
  obtain⟨z,hd,xs,rel,dd⟩:=J1 I.hok e
  refine wpAny_in_heap (tupleKind_room_in1 hu) (Ht I.hok eb) hd dd ?_
  have q:=(rel.val k).uy
  rw[Option.isSome_map] at q
  rw[<-q,<-l]
  exact h _ (I.tok _)
theorem YJ {Q:Value->Shared->Prop} (hu:A.units+1<cLine) (I:Inv X pins σ H s) (g:cD H a y o) (ry:RelV y u) (h:∀s',Inv X pins σ H s'->Q (.bool (!o.isSome)) s'):
 wpAny (model X.prog X.w) A (compareOp .NotIn u (.ref a)) Q E s:=by
 rcases g with⟨kvs,k,e,ey,l⟩ | ⟨kvs,k,b,e,ey,eb,l⟩
 ·subst ey
  obtain⟨z,hd,vs,rel,dd⟩:=J0 I.hok e
  refine wpAny_notIn_of (JX ry) hd dd.mapOf ?_
  rw[<-(rel.val k).uy,<-l]
  exact h _ (I.tok _)
 ·subst ey
  cases(show u=Value.ref b from ry)
  obtain⟨z,hd,xs,rel,dd⟩:=J1 I.hok e
  refine wpAny_notIn_heap (tupleKind_room_in1 hu) (Ht I.hok eb) hd dd ?_
  have q:=(rel.val k).uy
  rw[Option.isSome_map] at q
  rw[<-q,<-l]
  exact h _ (I.tok _)
theorem KH {h':Heap}{t':Nat}{ob:HO} (I:Inv X pins σ H s) (mu:Mut (H a)) (hs:Heap.SameBut a s.heap h') (he:∃q,h'.get? a=some q) (new:d8 X.prog X.w (upd H a ob) h' a ob):
 Inv X pins σ (upd H a ob) {s with heap:=h',toks:=t'}:=
 I.write (x:=a) (e:=a) mu (.inl rfl) (fun b q hb z=>(hs.2 b hb).trans z) he new
theorem Vj {P:Program}{w:World}{H':Hp}{h':Heap}{kvs:List (Key×V)}{vs:List (Key×Value)} (z:kvs.length<=sizeLine) (hd:(a==sysModules)=false) (rel:KV kvs vs) (dd:h'.DictOf (jc P w) a vs):
 d8 P w H' h' a (.dK kvs):=⟨z,hd,vs,rel,dd⟩
theorem TV {H':Hp}{Q:Unit->Shared->Prop} (hu:A.units+1<cLine) (I:Inv X pins σ H s) (g:lD H a y v H') (ry:RelV y u) (rv:RelV v r) (h:∀s',Inv X pins σ H' s'->Q () s'):
 wpAny (model X.prog X.w) A (setItem (.ref a) u r) Q E s:=by
 rcases g with⟨kvs,k,e,ey,l,eH⟩ | ⟨kvs,k,b,e,ey,eb,l,eH⟩
 ·subst ey eH
  obtain⟨z,hd,vs,rel,dd⟩:=Q9 I.hok e
  have hz:vs.length<=sizeLine:=by rw[<-rel.length];exact z
  have hl:(putK kvs k v).length<=sizeLine:=by have:=xP kvs k v;omega
  refine wpAny_setItem_pairs (hsz:=hz) (JX ry) dd fun h' dd' hs=>h _ ?_
  have he:∃q,h'.get? a=some q:=let ⟨q,_,_,hq,_⟩:=dd';⟨q,hq⟩
  exact KH I (by rw[e];exact True.intro) hs he (Vj hl hd (rel.put k rv) dd')
 ·subst ey eH
  cases(show u=Value.ref b from ry)
  obtain⟨z,hd,xs,rel,dd⟩:=afE I.hok e
  have hz:xs.length<=sizeLine:=by rw[<-Paired.length rel];exact z
  have hl:(putK kvs k v).length<=sizeLine:=by have:=xP kvs k v;omega
  refine wpAny_setItem_heap (hsz:=hz) (tupleKind_room_in1 hu) (Ht I.hok eb) dd fun h' dd' hs=>h _ ?_
  obtain⟨q,es,ep,hq,h2,h3,h4,_,h5⟩:=dd'
  refine KH I (by rw[e];exact True.intro) hs ⟨q,hq⟩ ⟨hl,hd,_,(rel.put k eb rv).keeps fun c ys ec=> ?_,q,es,ep,hq,h2,h3,h4,h5⟩
  rw[ao (aaJ ec e (fun z=>nomatch z))]
  exact ec
end
section
variable {X:Cx}{pins:List (Addr×Obj)}{σ:St}{H:Hp}{s:Shared}{a:Addr}{kvs:List (Key×V)}{k:Key}{u:Value}{A:Around}{E:Value->Shared->Prop}
end
def acA (i:Expr):Prop:=∀ov iv,subscripted i false ov iv=operate [ov,iv] (getItem ov iv)
theorem YK {prog:Program}{w:World}{A:Around}{E:Value->Shared->Prop}{s:Shared}{env:Env}{value slice:Expr}{pos:Pos}{T id:String}{Q:Value->Shared->Prop}
 (hl:typeLookup (.type T) "__getitem__"=pure (some (.builtin id))) (hs:acA slice)
 (h:wpAny (model prog w) A (eval value env) (fun o s₁=>wpAny (model prog w) A (eval slice env) (fun i s₂=>s₂.TypeIs o T/\wpAny (model prog w) A (getItem o i) Q E s₂) E s₁) E s):
 wpAny (model prog w) A (eval (.Subscript value slice pos) env) Q E s:=by
 refine Subscript_ (wpAny_mono h (fun o s₁ h₁=>wpAny_mono h₁ (fun i s₂ h₂=> ?_) fun _ _ x=>x) fun _ _ x=>x)
 obtain⟨hT,h₂⟩:=h₂
 unfold subscriptTail
 refine wpAny_bind ?_
 rw[getitemInPython_of_ne hT.not_modules]
 refine wpAny_bind (wpAny_specialOf hT hl ?_)
 have fin:wpAny (model prog w) A (subscripted slice false o i) (fun r s₃=>wpAny (model prog w) A (letTemporaryGo value o r>>=fun _=>pure r) Q E s₃) E s₂:=by
  rw[hs o i]
  exact wpAny_operating (wpAny_mono h₂ (fun r s₃ h₃=>wpAny_bind (wpAny_letTemporaryGo (wpAny_pure h₃))) fun _ _ x=>x)
 first
  | exact wpAny_pure (wpAny_bind fin)
  | exact wpAny_bind (wpAny_pure (wpAny_bind fin))
  | exact wpAny_bind fin
theorem Mw {X:Cx}{pins:List (Addr×Obj)}{σ:St}{H:Hp}{s:Shared}{a:Addr}{y:V}{o:Option V} (I:Inv X pins σ H s) (g:cD H a y o):s.TypeIs (.ref a) "dict":=by
 rcases g with⟨kvs,k,e,_,_⟩ | ⟨kvs,k,b,e,_,_,_⟩
 ·obtain⟨_,_,vs,_,dd⟩:=J0 I.hok e
  exact dd.typeIs
 ·obtain⟨_,_,xs,_,dd⟩:=J1 I.hok e
  exact dd.typeIs
def aaX (td ty:TE):TE:=fun σ H Q=>td σ H fun x H1=>ty σ H1 fun y H2=>∃a v,x= .ref a/\cD H2 a y (some v)/\Q v H2
def afF (ty td:TE):TE:=fun σ H Q=>ty σ H fun y H1=>td σ H1 fun x H2=>∃a o,x= .ref a/\cD H2 a y o/\Q (.bl o.isSome) H2
def Ra (ty td:TE):TE:=fun σ H Q=>ty σ H fun y H1=>td σ H1 fun x H2=>∃a o,x= .ref a/\cD H2 a y o/\Q (.bl (!o.isSome)) H2
def aaY (td ty tv:TE):TS:=fun D σ H=>tv σ H fun v H1=>td σ H1 fun x H2=>ty σ H2 fun y H3=>∃a H4,x= .ref a/\lD H3 a y v H4/\D.nx σ H4
section
variable {X:Cx}{o i e value:Expr}{pos pos' tpos:Pos}{td ty tv:TE}
theorem YL (hu:X.A.units+1<cLine) (ho:PE X o td) (hi:PE X i ty) (hs:acA i):PE X (.Subscript o i pos) (aaX td ty):=by
 intro pins s σ H Q I h
 refine YK PySem.F.slot_dict_getitem.lookup hs (thn (ho pins s σ H _ I h) fun u s1 ⟨x,H1,I1,rx,q1⟩=>thn (hi pins s1 σ H1 _ I1 q1) fun iv s2 ⟨y,H2,I2,ry,a,v,ex,g,q2⟩=> ?_)
 subst ex
 obtain rfl:u=Value.ref a:=rx
 exact⟨Mw I2 g,TQ hu I2 g ry fun w' s3 I3 rw'=>⟨v,H2,I3,rw',q2⟩⟩
theorem acB (hu:X.A.units+1<cLine) (hi:PE X i ty) (ho:PE X o td):PC X .In i o (afF ty td):=by
 intro pins s σ H Q I h
 refine thn (hi pins s σ H _ I h) fun iv s1 ⟨y,H1,I1,ry,q1⟩=>thn (ho pins s1 σ H1 _ I1 q1) fun u s2 ⟨x,H2,I2,rx,a,ov,ex,g,q2⟩=> ?_
 subst ex
 obtain rfl:u=Value.ref a:=rx
 exact ai8 hu I2 g ry fun s3 I3=>⟨.bl ov.isSome,H2,I3,rfl,q2⟩
theorem TX (hu:X.A.units+1<cLine) (hi:PE X i ty) (ho:PE X o td):PC X .NotIn i o (Ra ty td):=by
 intro pins s σ H Q I h
 refine thn (hi pins s σ H _ I h) fun iv s1 ⟨y,H1,I1,ry,q1⟩=>thn (ho pins s1 σ H1 _ I1 q1) fun u s2 ⟨x,H2,I2,rx,a,ov,ex,g,q2⟩=> ?_
 subst ex
 obtain rfl:u=Value.ref a:=rx
 exact YJ hu I2 g ry fun s3 I3=>⟨.bl (!ov.isSome),H2,I3,rfl,q2⟩
theorem YM (hu:X.A.units+1<cLine) (ho:PE X o td) (hi:PE X i ty) (hv:PE X value tv) (hs:swapsWith value (some (.Subscript o i pos')) pos.line X.env=pure false):
 PS X (.Assign [.Subscript o i pos'] value pos) (aaY td ty tv):=by
 intro pins s σ H D I h
 refine wpAny_Assign_Subscript (thn (hv pins s σ H _ I h) fun r s1 ⟨v,H1,I1,rv,q1⟩=>thn (ho pins s1 σ H1 _ I1 q1) fun u s2 ⟨x,H2,I2,rx,q2⟩=>thn (hi pins s2 σ H2 _ I2 q2) fun iv s3 ⟨y,H3,I3,ry,a,H4,ex,g,q3⟩=> ?_) hs
 subst ex
 obtain rfl:u=Value.ref a:=rx
 exact TV hu I3 g ry rv fun s4 I4=>⟨σ,H4,I4,q3⟩
end
theorem Mx {P:Program}{w:World}{H:Hp} (h:Heap) (hb:sysModules<h.objs.size):d8 P w H (h.push {cls:= .type "dict",data:= .dict #[]}) h.objs.size (.dK []):=
 ⟨Nat.zero_le _,beq_eq_false_iff_ne.mpr (Ne.symm (Nat.ne_of_lt hb)),[], .nil,Heap.DictOf.new h⟩
def Vk:TE:=fun _ H Q=>∀p,H p=none->Q (.ref p) (upd H p (.dK []))
section
variable {X:Cx}{pos:Pos}
theorem Vl:PE X (.Dict [] [] pos) Vk:=fun pins s σ H Q I h=>
 wpAny_Dict_empty ⟨.ref s.heap.objs.size,_,I.laid (a:=s.heap.objs.size) (o:= .dK []) (t':=s.toks) (fun _ _ q=>Heap.get?_push_of_some _ q) (Nat.le_refl _) (Mx s.heap I.big),rfl,h _ (I.hok.fresh (Nat.le_refl _))⟩
end
def Pk:List (TE×TE)->St->Hp->(List (V×V)->Hp->Prop)->Prop
 |[],_,H,Q=>Q [] H
 | (tk,tv)::r,σ,H,Q=>tk σ H fun x H1=>tv σ H1 fun y H2=>Pk r σ H2 fun ps H3=>Q ((x,y)::ps) H3
abbrev VV:List (V×V)->List (Value×Value)->Prop:=Paired fun p q=>RelV p.1 q.1/\RelV p.2 q.2
def PPs (X:Cx) (pos:Pos) (keys:List (Option Expr)) (values:List Expr) (trs:List (TE×TE)):Prop:=
 ∀(pins:List (Addr×Obj)) (s:Shared) (σ:St) (H:Hp) (Q:List (V×V)->Hp->Prop),Inv X pins σ H s->Pk trs σ H Q->
  wpAny (model X.prog X.w) X.A (evalPairs (pairTrees keys values X.env pos)) (fun vs s'=>∃ps H',Inv X pins σ H' s'/\VV ps vs/\Q ps H') X.xe s
theorem YQ {X:Cx}{pos:Pos}:PPs X pos [] [] []:=fun pins s σ H Q I h=>pairTrees_nil_walk ⟨[],H,I, .nil,h⟩
theorem Vm {X:Cx}{pos:Pos}{k v:Expr}{ks:List (Option Expr)}{vs:List Expr}{tk tv:TE}{trs:List (TE×TE)} (hk:PE X k tk) (hv:PE X v tv) (hr:PPs X pos ks vs trs):
 PPs X pos (some k::ks) (v::vs) ((tk,tv)::trs):=fun pins s σ H Q I h=>
 pairTrees_cons_walk (thn (hk pins s σ H _ I h) fun u s1 ⟨x,H1,I1,rx,q1⟩=>thn (hv pins s1 σ H1 _ I1 q1) fun w2 s2 ⟨y,H2,I2,ry,q2⟩=>
  thn (hr pins s2 σ H2 _ I2 q2) fun ws s3 ⟨ps,H3,I3,rel,q3⟩=>⟨(x,y)::ps,H3,I3, .cons ⟨rx,ry⟩ rel,q3⟩)
def pP (kvs more:List (Key×V)):List (Key×V):=more.foldl (fun acc kv=>putK acc kv.1 kv.2) kvs
theorem KV.merge:∀{more:List (Key×V)}{rs:List (Key×Value)}{kvs:List (Key×V)}{vs:List (Key×Value)},KV more rs->KV kvs vs->KV (pP kvs more) (merged vs rs):=by
 intro more rs kvs vs r
 unfold KV at r
 induction r generalizing kvs vs with
 | nil=>intro q;exact q
 | @cons p q ps qs h t ih=>
   intro r0
   have e:KV (putK kvs p.1 p.2) (stored vs q.1 q.2):=by
    have:=r0.put p.1 h.2
    rw[<-h.1];exact this
   exact ih e
theorem Ad:∀(more kvs:List (Key×V)),(pP kvs more).length<=kvs.length+more.length
 |[],kvs=>by show kvs.length<=kvs.length+0;omega
 | p::r,kvs=>by
   have h1:=Ad r (putK kvs p.1 p.2)
   have h2:=xP kvs p.1 p.2
   show(pP (putK kvs p.1 p.2) r).length<=_
   rw[List.length_cons];omega
theorem Hu {P:Program}{w:World}:∀{kvs:List (Key×V)}{ws:List (Value×Value)},VV (kvs.map fun kv=>(kV kv.1,kv.2)) ws->∃rs,Carries (jc P w) ws rs/\KV kvs rs
 |[],_,r=>by rw[List.map_nil] at r;cases r;exact⟨[],True.intro, .nil⟩
 | p::kvs,_,r=>by
   rw[List.map_cons] at r
   cases r with
   | @cons a b as bs h t=>
     obtain⟨rs,c,q⟩:=Hu (P:=P) (w:=w) t
     obtain⟨b1,b2⟩:=b
     exact⟨(p.1,b2)::rs,⟨JX h.1,rfl,c⟩, .cons ⟨rfl,h.2⟩ q⟩
def aaZ (trs:List (TE×TE)):TE:=fun σ H Q=>∀p,H p=none->Pk trs σ (upd H p (.dK [])) fun ps H2=>H2 p=some (.dK [])/\∃kvs:List (Key×V),ps=kvs.map (fun kv=>(kV kv.1,kv.2))/\kvs.length<=15/\Q (.ref p) (upd H2 p (.dK (pP [] kvs)))
theorem YS {X:Cx}{pos:Pos}{keys:List (Option Expr)}{values:List Expr}{trs:List (TE×TE)} (h:PPs X pos keys values trs) (hall:keys.all (·.isSome)=true) (hl:keys.length=values.length) (h0:keys≠[])
 (h15:keys.length<=15):PE X (.Dict keys values pos) (aaZ trs):=by
 intro pins s σ H Q I q
 have hn:=I.hok.fresh (Nat.le_refl s.heap.objs.size)
 have I1:=I.laid (a:=s.heap.objs.size) (o:= .dK []) (h':=s.heap.push {cls:= .type "dict",data:= .dict #[]}) (t':=s.toks) (fun _ _ q=>Heap.get?_push_of_some _ q) (Nat.le_refl _) (Mx s.heap I.big)
 refine wpAny_Dict_walk (knd:=jc X.prog X.w) hall hl h0 h15 (thn (h pins _ σ _ _ I1 (q _ hn)) fun ws s2 ⟨ps,H2,I2,rel,e,kvs,ep,lk,q2⟩=> ?_)
 subst ep
 obtain⟨rs,c,rk⟩:=Hu (P:=X.prog) (w:=X.w) rel
 obtain⟨z,hd,vs0,r0,dd⟩:=Q9 I2.hok e
 cases r0
 refine⟨rs,c,dd,fun h' dd' hs=>⟨.ref s.heap.objs.size,_, ?_,rfl,q2⟩⟩
 have hz:(pP [] kvs).length<=sizeLine:=by
  have h1:=Ad kvs []
  rw[List.length_nil] at h1
  rw[sizeLine_eq];omega
 have he:∃q,h'.get? s.heap.objs.size=some q:=let ⟨q,_,_,hq,_⟩:=dd';⟨q,hq⟩
 exact KH I2 (by rw[e];exact True.intro) hs he (Vj hz hd (rk.merge .nil) dd')
structure M2 (X:Cx) (o:Expr) (m:Str) (apos:Pos) (e f:Expr) (cpos:Pos):Prop where
 base:attributeBase o m X.env (eval o X.env)=eval o X.env
 few:((backTo cpos (starEach [e,f] X.env)).all (fun x=> !x.1)&&(backToKw cpos (keywordEach [] X.env)).all (fun x=>x.1.isSome)
  &&decide (([e,f]:List Expr).length+([]:List Keyword).length+(if([]:List Keyword).isEmpty then 0 else 1)<30))=true
 line:(apos.endLine==cpos.line)=true
 trees:backTo cpos (starEach [e,f] X.env)=[(false,eval e X.env),(false,eval f X.env)]
def IsD (H:Hp) (a:Addr):Prop:=(∃kvs,Rd H a (.dK kvs))\/∃kvs,Rd H a (.dT kvs)
theorem acC {X:Cx}{pins:List (Addr×Obj)}{σ:St}{H:Hp}{s:Shared}{a:Addr} (I:Inv X pins σ H s) (d:IsD H a):
 s.TypeIs (.ref a) "dict"/\(∀b,Value.ref a= .ref b->∃ob,s.heap.get? b=some ob/\ob.dict=none)/\(a==sysModules)=false:=by
 rcases d with⟨kvs,e⟩ | ⟨kvs,e⟩
 ·obtain⟨_,hd,vs,_,dd⟩:=J0 I.hok e
  refine⟨dd.typeIs,fun b q=> ?_,hd⟩
  cases q
  obtain⟨ob,_,_,h1,h2,_⟩:=dd
  exact⟨ob,h1,h2.2.1⟩
 ·obtain⟨_,hd,xs,_,dd⟩:=J1 I.hok e
  refine⟨dd.typeIs,fun b q=> ?_,hd⟩
  cases q
  obtain⟨ob,_,_,h1,h2,_⟩:=dd
  exact⟨ob,h1,h2.2.1⟩
section
variable {X:Cx}{pins:List (Addr×Obj)}{σ:St}{H:Hp}{s:Shared}{a:Addr}{y d:V}{u r:Value}{o:Option V}{A:Around}{E:Value->Shared->Prop}
end
section
variable {X:Cx}{o e f:Expr}{apos cpos:Pos}{td ty tx:TE}
end
section
variable {X:Cx}{pins:List (Addr×Obj)}{σ:St}{H:Hp}{s:Shared}{a:Addr}{kvs:List (Key×V)}{A:Around}{E:Value->Shared->Prop}
end
section
variable {X:Cx}{pins:List (Addr×Obj)}{σ:St}{H:Hp}{s:Shared}{a:Addr}{y:V}{u:Value}{A:Around}{E:Value->Shared->Prop}
end
end L2
namespace Att
open PySem PySem.W PySem.Calls PyProof.Rows
theorem Gw {P:Params}{h:Heap}:∀(ns:List Int) (vs:List Value),WellAll P h vs (ns.map WData.int)->IntsAre vs ns:=by
 intro ns
 induction ns with
 | nil=>
   intro vs w
   rw[List.map_nil] at w
   cases w
   exact .nil
 | cons n ns ih=>
   intro vs w
   rw[List.map_cons] at w
   cases w with
   | cons a b=>
     cases a
     exact .cons _ _ (ih _ b)
theorem TY {l:OpenLaw}{n:Nat} (hn:l.most=some n) {P:Params}{h:Heap}{args:List WData}{vals:List Value}
 (hpre:l.row.toRowW.claim.pre args=true) (hwl:WellAll P h vals args):
 ∃a vs ns,vals=[Value.ref a]/\args=[WData.list (ns.map WData.int)]/\h.get? a=some {cls:= .type "list",data:= .seq vs.toArray}/\IntsAre vs ns/\ns.length<=n:=by
 have hsh:WShape.hasAll [] args [.list .int]=true:=(pre_splitW hpre).1
 have hc:l.pre.holds [] {args:=args}=true:=(pre_splitW hpre).2
 obtain⟨d,r,rfl,h1,h2⟩:=hasAllW_cons hsh
 obtain rfl:=hasAllW_nil h2
 obtain⟨xs,rfl,h3⟩:=hasW_list h1
 obtain⟨ns,rfl⟩:=items_int h3
 have hlen:ns.length<=n:=by
  unfold OpenLaw.pre at hc
  have h4:(WTm.not (.lt (.lit (.int (n:Int))) (.len (.arg 0)))).holds [] {args:=[.list (ns.map .int)]}=true:=by
   have h4:=(holds_andW hc).1
   rw[hn] at h4
   exact h4
  have h5:=condW_of h4 (w_not (w_lt w_lit (w_len_list (w_arg rfl))))
  rw[List.length_map] at h5
  refine Nat.le_of_not_lt fun q=> ?_
  have q':(n:Int)<((ns.length:Nat):Int):=by omega
  first
   | (rw[decide_eq_true q'] at h5;exact absurd h5 (by decide))
   | (simp at h5;omega)
 cases hwl with
 | cons w1 w2=>
   cases w2
   cases w1 with
   | list ho hall=>exact⟨_,_,ns,rfl,rfl,ho,Gw ns _ hall,hlen⟩
theorem T3 (l:OpenLaw) (args:List WData):l.row.toRowW.claim.post args (.bool true) args=true:=
 postW_of (r:=l.row.toRowW) (X:=(true==true))
  (show WShape.has [] (.bool true) .bool=true by first | rfl | decide | simp[WShape.has,WShape.arms,WShape.armsAll])
  (show(WTm.eq .res (.lit (.bool true))).value [] {args:=args,res:=some (.bool true),after:=args}=some (.bool (true==true)) from w_eq_bool (w_res rfl) w_lit) rfl
theorem Mz {l:OpenLaw}{n:Nat}{q:Program}{loose:List Str}{XP:(Str->Option Value)->Heap->Prop}{YP:World->Heap->Prop}{d:DefRec}
 (hn:l.most=some n) (hdf:d.params.defaults=[])
 (call:∀(w:World) (s₀ s₁:Shared) (mg mb:Str->Option Value) (fa:Addr) (o:Obj) (pm cd doc:Value) (a:Addr) (vs:List Value) (ns:List Int),
   Ground q loose [] XP w s₀ mg mb s₁.heap->YP w s₁.heap->
   s₁.heap.get? fa=some o->o.data= .func (docDef d.name d.params d.body d.scope pm cd doc)->s₁.heap.CodeRec cd d.name->mg d.name=some (.ref fa)->
   s₁.heap.get? a=some {cls:= .type "list",data:= .seq vs.toArray}->IntsAre vs ns->ns.length<=n->s₁.gens= #[]->
   codeAny (model l.prog w) callerA (.call (.ref fa) ⟨[.ref a],[]⟩) (fun r s'=>r= .ok (.ret (.bool true))/\OldK s₁.heap s'.heap/\s'.os=s₁.os/\AllBare s'.gens) s₁):
 WalkO q loose XP YP l.row.toRowW d [] (fun f vs=>PySem.call f vs):=by
 intro w s₀ s₁ mg mb G Y fa o pm cd doc dV kV ho hd hcd hD hmg hg args vals as hpre hlay hrd hwl hlo
 obtain rfl:dV= .none:=Dflts.none hD hdf
 obtain rfl:kV= .none:=Dflts.noKw hD
 obtain⟨a,vs,ns,rfl,rfl,hobj,hints,hlen⟩:=TY hn hpre hwl
 refine enter_call (codeAny_mono (call w s₀ s₁ mg mb fa o pm cd doc a vs ns G Y ho (fd_plain hd) hcd hmg hobj hints hlen hg) fun r s' hq=> ?_)
 obtain⟨rfl,h2,h3,h4⟩:=hq
 exact⟨.inl ⟨.bool true, .bool true,[],rfl,fun _=>rfl, .bool true,T3 l _,fun _=>⟨List.Pairwise.nil,fun _ hm=>(nomatch hm)⟩⟩,h2,h3,h4⟩
section
variable {prog:Program}{w:World}{A:Around}{E:Value->Shared->Prop}{s:Shared}{K:Frag}
end
end Att
namespace L2
open PySem PySem.Spec PyProof.Rows
theorem J2:∀{vs:List Value}{ns:List Int},IntsAre vs ns->Vals (ns.map V.int) vs
 | _,_, .nil=> .nil
 | _,_, .cons n t h=> .cons ⟨t,rfl⟩ (J2 h)
def Only (H:Hp):Prop:=∀b,H b=none\/∃o xs,H b=some (.frz o (.lst xs))
theorem Vn {P:Program}{w:World}{K:PySem.W.Frag}{mg mb:Str->Option Value}{CX:CXT}{k:Nat}{fa a:Addr}{fd:FuncData}{x:Str}{sp:Sp}{s₁:Shared}{vs:List Value}{ns:List Int}
 (KX:K.In s₁.heap) (hns:s₁.heap.Ns mainGlobals mg) (hb:s₁.heap.Ns builtinsNs mb) (hbb:∀x:Str,x≠"__name__"->mb x=bootBuiltins x) (hlim:s₁.heap.NoLimit) (hg:s₁.gens= #[])
 (ha:s₁.heap.get? a=some {cls:= .type "list",data:= .seq vs.toArray}) (hi:IntsAre vs ns) (hl:ns.length<=sizeLine) (hr:jV k callerA)
 (F:∀base:Heap,K.In base->base.Ns mainGlobals mg->aZ P w K mg base CX k fa fd [x] sp) (hbind:∀(s:Shared) (u:Value),BindsTo s fd ⟨[u],[]⟩ [(x,u)])
 (hsp:∀H:Hp,Only H->SqL K H a (ns.map V.int)->sp [.ref a] H (fun v _=>v= .bl true) fun _ _ _=>False)
 (hCX:∀H e s',CX [] H s₁ (fun _ _ _=>False) e s'->False):
 codeAny (model P w) callerA (.call (.ref fa) ⟨[.ref a],[]⟩) (fun r s'=>r= .ok (.ret (.bool true))/\OldK s₁.heap s'.heap/\s'.os=s₁.os/\AllBare s'.gens) s₁:=by
 have rv:=J2 hi
 have lenV:=hi.length
 have core:∀H:Hp,Only H->SqL K H a (ns.map V.int)->HOk P w H s₁.heap->(∀b,H b≠none->b=a)->(H a≠none->K.lookup a=none)->
  codeAny (model P w) callerA (.call (.ref fa) ⟨[.ref a],[]⟩) (fun r s'=>r= .ok (.ret (.bool true))/\OldK s₁.heap s'.heap/\s'.os=s₁.os/\AllBare s'.gens) s₁:=by
  intro H hO hS hok hA hK
  have Rb:∀{b:Addr}{o:Obj},s₁.heap.get? b=some o->H b=none->(Ks s₁.heap H).get? b=some o:=fun e n=>UJ e n
  have noA:∀{b:Addr}{o:Obj}{es:Array DictEntry}{ep:Nat},s₁.heap.get? b=some o->o.data= .dict es ep->H b=none:=fun{b o es ep} e d=>by
   cases q:H b with
   | none=>rfl
   | some u=>
     have e':b=a:=hA b (by rw[q];simp)
     subst e'
     rw[ha] at e;cases e
     have d':Data.seq vs.toArray _=Data.dict es ep:=d
     cases d'
  have nsK:∀{b:Addr}{m:Str->Option Value},s₁.heap.Ns b m->(Ks s₁.heap H).Ns b m:=fun{b m} ⟨o,es,ep,e,d,r⟩=>⟨o,es,ep,Rb e (noA e d),d,r⟩
  have hKb:K.In (Ks s₁.heap H):=fun b o e=>Rb (KX b o e) (by
   cases q:H b with
   | none=>rfl
   | some u=>
     have e':b=a:=hA b (by rw[q];simp)
     subst e'
     rw[hK (by rw[q];simp)] at e;cases e)
  have hM:Mod K mg (Ks s₁.heap H):=⟨hKb,nsK hns,⟨mb,nsK hb,hbb⟩,let ⟨mc,h1,h2⟩:=hlim;⟨mc,nsK h1,h2⟩⟩
  have e0:Ph P w K mg (Ks s₁.heap H) callerA [] s₁ H:=⟨rfl,hM,fun b o e=>Yi e,Nat.le_of_eq (S8 _ _),trivial,fun b hb=>absurd (show b∈([]:List Addr) from hb) (by simp),hok, .of_eq hg⟩
  refine codeAny_mono ((F _ hKb (nsK hns)).run callerA [] s₁ H ⟨[.ref a],[]⟩ [.ref a] [.ref a] _ _ hr e0 (hbind s₁ (.ref a)) (.cons rfl .nil) (hsp H hO hS)) fun r s' h=> ?_
  cases r with
  | error e=>exact(hCX H e s' h).elim
  | ok fl=>
    cases fl with
    | next=>exact False.elim h
    | brk=>exact False.elim h
    | cont=>exact False.elim h
    | ret u=>
      obtain⟨v,H',os,bare,un,hok',r',q⟩:=h
      have q':v= .bl true:=q
      subst q'
      obtain rfl:u=Value.bool true:=r'
      refine⟨rfl,OldK.of_keep fun b o e=> ?_,os,bare⟩
      cases q:H b with
      | none=>exact un.keep b o e q (by intro z;exact absurd (show b∈([]:List Addr) from z) (by simp)) (by simp)
      | some u=>
        rcases hO b with z | ⟨ob,xs,z⟩
        ·rw[q] at z;cases z
        ·have z2:=un.frzs b ob _ z
         obtain⟨e1,_⟩:=hok b _ z
         obtain⟨e2,_⟩:=hok' b _ z2
         rw[e] at e1;cases e1
         exact e2
 cases hk:K.lookup a with
 | some o=>
   have e:=KX a o hk
   rw[ha] at e
   cases e
   refine core (fun _=>none) (fun _=> .inl rfl) (.inr ⟨_,vs.toArray,_,hk,rfl,rfl,rfl,by rw[List.size_toArray,lenV];exact hl,by simpa using rv⟩) (fun b u z=>by have z':(none:Option HO)=some u:=z;cases z') (fun b z=>absurd rfl z) fun z=>absurd rfl z
 | none=>
   refine core (fun b=>if b=a then some (.frz {cls:= .type "list",data:= .seq vs.toArray} (.lst (ns.map V.int))) else none) (fun b=> ?_) (.inl (.inr ⟨{cls:= .type "list",data:= .seq vs.toArray},if_pos rfl⟩)) (fun b u z=> ?_) (fun b z=> ?_) fun _=>hk
   ·by_cases hb:b=a
    ·exact .inr ⟨_,_,if_pos hb⟩
    ·exact .inl (if_neg hb)
   ·by_cases hb:b=a
    ·have z':=(if_pos hb).symm.trans z
     cases z'
     subst hb
     exact⟨ha,by rw[List.length_map];exact hl,vs,_,rv,ha⟩
    ·have z':=(if_neg hb).symm.trans z
     cases z'
   ·by_cases hb:b=a
    ·exact hb
    ·exact absurd (if_neg hb) z
theorem Rc {l:PySem.W.OpenLaw}{n k:Nat}{q:Program}{loose:List Str}{XP:(Str->Option Value)->Heap->Prop}{YP:World->Heap->Prop}{d:DefRec}{K:Params->PySem.W.Frag}{CX:World->CXT}{sp:World->Sp}{x:Str}
 (hn:l.most=some n) (hn2:n<=sizeLine) (hdf:d.params.defaults=[]) (hr:jV k callerA)
 (hY:∀(w:World) (h:Heap),YP w h->(K w.params).In h)
 (F:∀(w:World) (mg:Str->Option Value) (fa:Addr) (h:Heap),(K w.params).In h->h.Ns mainGlobals mg->mg d.name=some (.ref fa)->
   ∃fd:FuncData,(∀(s:Shared) (u:Value),BindsTo s fd ⟨[u],[]⟩ [(x,u)])/\
    ∀base:Heap,(K w.params).In base->base.Ns mainGlobals mg->aZ l.prog w (K w.params) mg base (CX w) k fa fd [x] (sp w))
 (hsp:∀(w:World) (H:Hp) (a:Addr) (ns:List Int),ns.length<=n->Only H->SqL (K w.params) H a (ns.map V.int)->sp w [.ref a] H (fun v _=>v= .bl true) fun _ _ _=>False)
 (hCX:∀(w:World) (H:Hp) (s:Shared) (e:Value) (s':Shared),CX w [] H s (fun _ _ _=>False) e s'->False):
 PySem.W.WalkO q loose XP YP l.row.toRowW d [] (fun f vs=>PySem.call f vs):=by
 refine Att.Mz hn hdf fun w s₀ s₁ mg mb fa o pm cd doc a vs ns G Y ho hd hcd hmg hobj hints hlen hg=> ?_
 have KX:=hY w _ Y
 obtain⟨fd,hb,hF⟩:=F w mg fa _ KX G.T.g hmg
 exact Vn KX G.T.g G.T.b G.T.builtins G.T.nolimit hg hobj hints (Nat.le_trans hlen hn2) hr hF hb (fun H hO hS=>hsp w H a ns hlen hO hS) fun H e s'=>hCX w H s₁ e s'
end L2
/- THE LAST THEOREM (shape;LID,My.* are yours):
   My.Adr:a structure of the addresses that your layer names (classes,functions);My.Txt K t:a structure (Prop) of the equations over K;
   My.acD:{K}{implicit addresses ..} (e1:nsIn K mainGlobals "law"=some (some (.ref f))) (e2:K.lookup f=some ⟨oc,od, .func (fnOf "law" "law" params body scope dV kV doc pm an cdv ct),sl⟩) (e3:codeIn K cdv "law"=true) .. :∃t,My.Txt K t
theorem PySem.Challenge.cw_LID_holds : PySem.Challenge.rw_LID.Holds := by
 w_on;o_law;k_head;(case hw=>w_witness2)
 k_fill
 refine L2.Rc (l:=PySem.Challenge.acE) (n:=63) (k:=40) (x:="script") (CX:=fun w=> ..) (sp:=fun _=>My.ai9) rfl (by decide) rfl ⟨rfl,by decide,by decide⟩ (fun w h Y=>PySem.W.kIn_of Y) ?F ?S ?C
 case F=>
  intro w mg fa h KX G hmg
  have T:∃t,My.Txt (L2.KOf KX) t:=by
   dsimp only[L2.KOf] -- K must stand as «<heap const> w.params» for k_is
   refine' My.acD ?e1 ?e2 ?e3 ..
   (case e1=>PySem.W.k_is) -- in the order:a name->its address->its object->its parts
   (case e2=>PySem.W.k_is)
   ..
  obtain⟨t,T⟩:=T
  have e0:=hmg.symm.trans (PySem.W.mg_of KX G T.law)
  cases e0 -- fa is the law's own address
  exact⟨_,fun s u=> .of_eq rfl,fun base kb nb=>My.acF T kb nb⟩ -- if «.of_eq rfl» comes too early:refine' ⟨_, ?b,fun base kb nb=>My.acF T kb nb⟩;exact fun s u=> .of_eq rfl
 case S=>exact fun w H a ns hl hO hS=> ..
 case C=>exact ..
(the tactic k_is has no namespace:write k_is) -/
namespace L2
open PySem PySem.Spec PyProof.Rows
def bO (s:Stmt):Arguments:=match s with
 | .FunctionDef _ a _ _ _ _ _ _ _ _=>a
 | _=>{posonlyargs:=[],args:=[],vararg:=none,kwonlyargs:=[],kw_defaults:=[],kwarg:=none,defaults:=[]}
def bC (s:Stmt):List Stmt:=match s with
 | .FunctionDef _ _ b _ _ _ _ _ _ _=>b
 | _=>[]
def aj (s:Stmt):Scope:=match s with
 | .FunctionDef _ _ _ _ _ _ sc _ _ _=>sc
 | _=>{kind:= .function,names:=[],isGenerator:=false,isCoroutine:=false}
abbrev CX0:CXT:=fun _ _ _ _ _ _=>False
abbrev E0:XK:=fun _ _ _=>False
theorem cQ {X:Cx}:Passes CX0 X E0:=fun _ _ _ _ _ _ _ h=>h.elim
structure Fun (K:PySem.W.Frag) (x qual:Str) (st:Stmt) (f:Addr) (fd:FuncData):Prop where
 ex:∃(oc:Value) (od:Option Addr) (kV doc pm:Value) (an:Option Addr) (cdv ct:Value) (osl:Array (Option Value)),
  fd=PySem.W.fnOf x qual (bO st) (bC st) (aj st) .none kV doc pm an cdv ct/\K.lookup f=some ⟨oc,od, .func fd,osl⟩/\PySem.W.codeIn K cdv qual=true
 kp:PySem.W.keepIn K (.ref f)=true
section
variable {P:Program}{w:World}{K:PySem.W.Frag}{mg:Str->Option Value}{base:Heap}
theorem Fun.ok {x qual:Str}{st:Stmt}{f:Addr}{fd:FuncData}{N ps:List Str}{k:Nat}{sp:Sp} (F:Fun K x qual st f fd) (S:bU N ps (aj st)) (len:∀vs H Q E,sp vs H Q E->vs.length=ps.length)
 (hbody:∀(cdv:Value) (A:Around) (outer:List Env) (s:Shared) (H:Hp) (vs:List V) (Q:VK) (E:XK),jV k (A.deeper (envOfC qual (aj st) s.heap.objs.size f cdv))->sp vs H Q E->
   ∃t,PSs (kY CX0 P w K mg base N qual (aj st) f cdv A outer s H E).nox (bC st) t/\t {nx:=fun _ H'=>Q .non H',rt:=Q} (start N vs) H):aZ P w K mg base CX0 (k+1) f fd ps sp:=by
 obtain⟨oc,od,kV,doc,pm,an,cdv,ct,osl,rfl,lk,hcd⟩:=F.ex
 refine aaU lk hcd S len fun A outer s H vs Q E hr hsp=> ?_
 obtain⟨t,h,q⟩:=hbody cdv A outer s H vs Q E hr hsp
 exact⟨t,h.nox,q⟩
theorem kZ {x qual:Str}{st:Stmt}{f:Addr}{oc:Value}{od an:Option Addr}{osl:Array (Option Value)}{kV doc pm cdv ct:Value} (l:K.lookup f=some ⟨oc,od, .func (PySem.W.fnOf x qual (bO st) (bC st) (aj st) .none kV doc pm an cdv ct),osl⟩)
 (c:PySem.W.codeIn K cdv qual=true) (k:PySem.W.keepIn K (.ref f)=true):Fun K x qual st f (PySem.W.fnOf x qual (bO st) (bC st) (aj st) .none kV doc pm an cdv ct):=⟨⟨oc,od,kV,doc,pm,an,cdv,ct,osl,rfl,l,c⟩,k⟩
end
theorem bh {A:Around}{k:Nat} (hr:jV k A):A.units+1<cLine:=Nat.lt_of_le_of_lt (Nat.add_le_add_left (by decide:1<=64) _) hr.units
theorem bD {n:Nat} (h:n<=1000):n<sizeLine:=Nat.lt_of_le_of_lt h (by decide)
section
variable {X:Cx}
end
theorem Am {c A B:Prop} [Decidable c] (h1:c->A) (h2:¬c->B):if c then A else B:=by
 by_cases h:c
 ·rw[if_pos h]
  exact h1 h
 ·rw[if_neg h]
  exact h2 h
def aQ (H H':Hp):Prop:=∀b o,H b=some o->H' b=some o
theorem aQ.refl (H:Hp):aQ H H:=fun _ _ h=>h
theorem aQ.trans {H H1 H2:Hp} (a:aQ H H1) (b:aQ H1 H2):aQ H H2:=fun c o h=>b c o (a c o h)
section
variable {κ:Type} [DecidableEq κ]
end
def ccl (sc:Scope) (env:Env):List (Str×Addr):=(sc.names.filterMap fun p=>if p.2== .free then(env.cells.lookup p.1).map fun c=>(p.1,c) else none).reverse
theorem xQ {env:Env}:∀(l:List (Str×NameKind)) (acc:List (Str×Addr)),(∀p∈l,p.2= .free->∃c,env.cells.lookup p.1=some c)->
 (forIn l acc fun(x:Str×NameKind) r=>match x with | (name,kind)=>(if(kind==NameKind.free)=true then do let a <-cellOf env name;pure (ForInStep.yield ((name,a)::r)) else pure (ForInStep.yield r):Sem _))=
   pure ((l.filterMap fun p=>if p.2== .free then(env.cells.lookup p.1).map fun c=>(p.1,c) else none).reverse++acc)
 |[],acc,_=>rfl
 | (n,k)::r,acc,h=>by
   rw[List.forIn_cons]
   have hr:∀p∈r,p.2= .free->∃c,env.cells.lookup p.1=some c:=fun p hp=>h p (List.mem_cons_of_mem _ hp)
   by_cases hk:k= .free
   ·subst hk
    obtain⟨c,hc⟩:=h (n, .free) List.mem_cons_self rfl
    have e1:cellOf env n=pure c:=by unfold cellOf;rw[hc]
    simp only[beq_self_eq_true,if_true,e1,pure_bind]
    rw[xQ r _ hr]
    simp[List.filterMap_cons,hc]
   ·have hb:(k==NameKind.free)=false:=by simpa using hk
    simp only[hb,Bool.false_eq_true,if_false,pure_bind]
    rw[xQ r _ hr]
    simp[List.filterMap_cons,hk]
theorem MF {sc:Scope}{env:Env} (h:∀p∈sc.names,p.2= .free->∃c,env.cells.lookup p.1=some c):closureFor sc env=pure (ccl sc env):=by
 unfold closureFor
 have q:=xQ (env:=env) sc.names [] h
 rw[List.append_nil] at q
 unfold ccl
 rw[<-q,bind_pure]
theorem Jq {f:Str->Option Addr}:∀(l:List (Str×NameKind)) (x:Str) (c:Addr),
 (l.filterMap fun p=>if p.2== .free then(f p.1).map fun c=>(p.1,c) else none).reverse.lookup x=some c->f x=some c:=by
 intro l x c h
 have hm:=PySem.mem_of_lookup h
 rw[List.mem_reverse,List.mem_filterMap] at hm
 obtain⟨p,_,e⟩:=hm
 split at e
 ·cases q:f p.1 with
  | none=>rw[q] at e;cases e
  | some d=>
    rw[q] at e
    simp only[Option.map_some,Option.some.injEq,Prod.mk.injEq] at e
    obtain⟨e1,e2⟩:=e
    rw[<-e1,q,e2]
 ·cases e
theorem qW {β:Type}:∀{l:List (Str×β)}{x:Str}{c:β},(x,c)∈l->∃d,l.lookup x=some d
 |[],_,_,h=>nomatch h
 | (n,d)::r,x,c,h=>by
   by_cases e:x=n
   ·subst e;exact⟨d,by simp[List.lookup_cons]⟩
   ·have hb:(x==n)=false:=by simpa using e
    rcases List.mem_cons.mp h with q | q
    ·cases q;exact absurd rfl e
    ·obtain⟨d',hd⟩:=qW q
     exact⟨d',by simp[List.lookup_cons,hb,hd]⟩
theorem vp {sc:Scope}{env:Env}{x:Str}{c:Addr} (h:(ccl sc env).lookup x=some c):env.cells.lookup x=some c:=Jq (f:=fun n=>env.cells.lookup n) sc.names x c h
theorem Rf {sc:Scope}{env:Env}{x:Str}{c:Addr} (hx:(x,NameKind.free)∈sc.names) (hc:env.cells.lookup x=some c):(ccl sc env).lookup x=some c:=by
 have hm:(x,c)∈ccl sc env:=by
  unfold ccl
  rw[List.mem_reverse,List.mem_filterMap]
  exact⟨(x, .free),hx,by simp[hc]⟩
 obtain⟨d,hd⟩:=qW hm
 have:=vp hd
 rw[hc] at this
 rw[hd,this]
theorem sZ {env:Env}:∀{names:List (Str×NameKind)}{x:Str}{k:NameKind},
 (names.map fun(n,k)=>if(k==NameKind.free&&env.scope.kind== .function&&env.kindOf n==some .cell) then(n,NameKind.cell) else(n,k)).lookup x=some k->
 names.lookup x=some k\/(k= .cell/\names.lookup x=some .free)
 |[],_,_,h=>by simp at h
 | (n,q)::r,x,k,h=>by
   have ih:=@sZ env r x k
   rw[List.map_cons] at h
   cases hx:x==n with
   | true=>
     by_cases hc:(q==NameKind.free&&env.scope.kind== .function&&env.kindOf n==some .cell)=true
     ·simp only[hc,if_true,List.lookup_cons,hx,Option.some.injEq] at h
      have hq:q= .free:=by
       have:=(Bool.and_eq_true _ _▸(Bool.and_eq_true _ _▸hc).1).1
       simpa using this
      subst hq
      exact .inr ⟨h.symm,by simp[List.lookup_cons,hx]⟩
     ·simp only[hc,if_false,List.lookup_cons,hx,Option.some.injEq,Bool.false_eq_true] at h
      subst h
      exact .inl (by simp[List.lookup_cons,hx])
   | false=>
     have h':(r.map fun(n,k)=>if(k==NameKind.free&&env.scope.kind== .function&&env.kindOf n==some .cell) then(n,NameKind.cell) else(n,k)).lookup x=some k:=by
      by_cases hc:(q==NameKind.free&&env.scope.kind== .function&&env.kindOf n==some .cell)=true
      ·simpa only[hc,if_true,List.lookup_cons,hx] using h
      ·simpa only[hc,if_false,List.lookup_cons,hx,Bool.false_eq_true] using h
     rcases ih h' with z | ⟨z1,z2⟩
     ·exact .inl (by simp[List.lookup_cons,hx,z])
     ·exact .inr ⟨z1,by simp[List.lookup_cons,hx,z2]⟩
theorem vq {env:Env}:∀{names:List (Str×NameKind)}{x:Str},names.lookup x=some .free->
 (names.map fun(n,k)=>if(k==NameKind.free&&env.scope.kind== .function&&env.kindOf n==some .cell) then(n,NameKind.cell) else(n,k)).lookup x=some .cell\/
 (names.map fun(n,k)=>if(k==NameKind.free&&env.scope.kind== .function&&env.kindOf n==some .cell) then(n,NameKind.cell) else(n,k)).lookup x=some .free
 |[],_,h=>by simp at h
 | (n,q)::r,x,h=>by
   have ih:=@vq env r x
   rw[List.map_cons]
   cases hx:x==n with
   | true=>
     simp only[List.lookup_cons,hx,Option.some.injEq] at h
     subst h
     by_cases hc:(NameKind.free==NameKind.free&&env.scope.kind== .function&&env.kindOf n==some .cell)=true
     ·exact .inl (by simp only[hc,if_true,List.lookup_cons,hx])
     ·exact .inr (by simp only[hc,if_false,List.lookup_cons,hx,Bool.false_eq_true])
   | false=>
     simp only[List.lookup_cons,hx] at h
     by_cases hc:(q==NameKind.free&&env.scope.kind== .function&&env.kindOf n==some .cell)=true
     ·simpa only[hc,if_true,List.lookup_cons,hx] using ih h
     ·simpa only[hc,if_false,List.lookup_cons,hx,Bool.false_eq_true] using ih h
def lg (X:Cx) (N:List Str) (sc:Scope) (pins:List (Addr×Obj)) (C:Addr) (s₀:Shared) (H₀:Hp) (fp:List Addr):Cx:=
 {X with N:=N,s₀:=s₀,H₀:=H₀,env:=compEnvC sc (ccl sc X.env) C X.env,outer:=X.stack,ex:=fp,fn:=fun _=>false,pn:=X.pn++pins,xe:=fun _ _=>False}
structure Eu (X:Cx) (n:Nat) (fr:List Nat) (N:List Str) (sc:Scope):Prop where
 kind:sc.kind= .function
 nocell:∀p∈sc.names,p.2≠ .cell
 own:∀p∈sc.names,p.2= .local->sc.names.lookup p.1=some .local
 out:∀p∈sc.names,p.2= .free->X.env.kindOf p.1=some .cell\/X.env.kindOf p.1=some .free
 len:N.length=n+fr.length
 free:∀i x,N[n+i]? =some x->(x,NameKind.free)∈sc.names/\sc.names.lookup x=some .free/\∃j,fr[i]? =some j/\X.N[j]? =some x
def CS0 (scX:Scope) (NX:List Str) (n:Nat) (fr:List Nat) (N:List Str) (sc:Scope):Prop:=
 sc.kind= .function/\(∀p∈sc.names,p.2≠ .cell)/\(∀p∈sc.names,p.2= .local->sc.names.lookup p.1=some .local)/\
 (∀p∈sc.names,p.2= .free->scX.names.lookup p.1=some .cell\/scX.names.lookup p.1=some .free)/\N.length=n+fr.length/\
 (∀x∈N.drop n,(x,NameKind.free)∈sc.names/\sc.names.lookup x=some .free)/\(N.drop n).map some=fr.map fun j=>NX[j]?
instance {scX:Scope}{NX:List Str}{n:Nat}{fr:List Nat}{N:List Str}{sc:Scope}:Decidable (CS0 scX NX n fr N sc):=by unfold CS0;exact inferInstance
theorem MJ {X:Cx}{scX:Scope}{NX:List Str}{n:Nat}{fr:List Nat}{N:List Str}{sc:Scope} (h1:X.env.scope=scX) (h2:X.N=NX) (h:CS0 scX NX n fr N sc):Eu X n fr N sc:=by
 obtain⟨a,b,c,d,e,f,g⟩:=h
 refine⟨a,b,c,fun p hp z=> ?_,e,fun i x hx=> ?_⟩
 ·have q:=d p hp z
  rw[<-h1] at q
  exact q
 ·have hd:(N.drop n)[i]? =some x:=by rw[List.getElem?_drop];exact hx
  obtain⟨f1,f2⟩:=f x (List.mem_of_getElem? hd)
  refine⟨f1,f2, ?_⟩
  have q:((N.drop n).map some)[i]? =some (some x):=by rw[List.getElem?_map,hd];rfl
  rw[g,List.getElem?_map] at q
  cases z:fr[i]? with
  | none=>rw[z] at q;cases q
  | some j=>
    rw[z] at q
    refine⟨j,rfl, ?_⟩
    rw[h2]
    exact Option.some.inj q
def cst (n:Nat) (fr:List Nat) (σ:St):St:=List.replicate n none++fr.map fun j=>(σ[j]?).getD none
theorem Pn {X:Cx}{n:Nat}{fr:List Nat}{N:List Str}{sc:Scope} (S:Eu X n fr N sc) (ok:X.Ok):closureFor sc X.env=pure (ccl sc X.env):=
 MF fun p hp e=>ok.has p.1 (S.out p hp e)
section
variable {X:Cx}{n:Nat}{fr:List Nat}{N:List Str}{sc:Scope}{pins:List (Addr×Obj)}{σ:St}{H:Hp}{s:Shared}{fp:List Addr}{h₁:Heap}{tk:Nat}
theorem Pq (S:Eu X n fr N sc) (I:Inv X pins σ H s) (hf:∀b∈fp,Es X pins H b) (hlt:∀b∈fp,b<s.heap.objs.size)
 (hn:h₁.Ns s.heap.objs.size (fun _=>none)) (hk:∀b o,s.heap.get? b=some o->h₁.get? b=some o):
 Inv (lg X N sc pins s.heap.objs.size s H fp) [] (cst n fr σ) H {s with heap:=h₁,toks:=tk}:=by
 have hsub:∀b∈frs X.stack,b∈X.env.locals::X.fs:=I.Ku
 refine⟨⟨I.ok.mod, ?_,I.ok.glob,I.ok.blt,Nat.le_refl _,fun x y c h1 h2=> ?_,fun x hx=> ?_,fun x c z=>(by cases z),I.ok.hd,I.ok.frames, .inl rfl,fun b hb=>⟨?_,fun x c e=> ?_⟩,fun b o e=>I.bs b o e,Nat.le_trans I.ok.bsz I.sz,fun b o e hb=> ?_,fun b hb hz=> ?_,I.stack,I.Kv⟩,
  rfl,I.bare,Un.kept hk,⟨_,hn,fun i x v e1 e2 e3=> ?_⟩,fun x c e=> ?_,I.hok.fresh (Nat.le_refl _),fun x c e=> ?_,fun p hp=> ?_,I.hok.kept hk, ?_⟩
 ·exact S.kind
 ·exact I.ok.inj x y c (vp h1) (vp h2)
 ·have hx':(relabel sc X.env).names.lookup x=some .cell\/(relabel sc X.env).names.lookup x=some .free:=hx
  have fr':sc.names.lookup x=some .free:=by
   rcases hx' with z | z
   ·rcases sZ z with q | ⟨_,q⟩
    ·exact absurd rfl (S.nocell _ (PySem.mem_of_lookup q))
    ·exact q
   ·rcases sZ z with q | ⟨q,_⟩
    ·exact q
    ·cases q
  obtain⟨c,hc⟩:=I.ok.has x (S.out _ (PySem.mem_of_lookup fr') rfl)
  exact⟨c,Rf (PySem.mem_of_lookup fr') hc⟩
 ·exact Nat.ne_of_lt (hlt b hb)
 ·exact(hf b hb).2.2.2.2.1 x c (vp e)
 ·rcases(hf b hb).2.2.2.1 with z | z
  ·exact I.ok.noex b o e z
  ·exact absurd (Nat.lt_of_lt_of_le (Heap.lt_size e) (Nat.le_trans I.ok.bsz z)) (Nat.lt_irrefl _)
 ·rcases List.mem_cons.mp (hsub b hz) with z | z
  ·exact(hf b hb).2.1 z
  ·exact(hf b hb).2.2.1 z
 ·have e1':N[i]? =some x:=e1
  have hi:n<=i:=by
   apply Nat.le_of_not_lt
   intro hlt
   unfold cst at e2
   rw[List.getElem?_append_left (by simpa using hlt),List.getElem?_replicate] at e2
   split at e2<;>cases e2
  obtain⟨j,rfl⟩:∃j,i=n+j:=⟨i - n,by omega⟩
  obtain⟨hm,hl,q,hq,hX⟩:=S.free j x e1'
  have e2':(σ[q]?).getD none=some v:=by
   unfold cst at e2
   rw[List.getElem?_append_right (by simp)] at e2
   simp only[List.length_replicate,Nat.add_sub_cancel_left,List.getElem?_map,hq,Option.map_some,Option.some.injEq] at e2
   exact e2
  have hσ:σ[q]? =some (some v):=by
   cases z:σ[q]? with
   | none=>rw[z] at e2';cases e2'
   | some w=>rw[z] at e2';simp only[Option.getD_some] at e2';rw[e2']
  have ko:=S.out _ hm rfl
  have hv:Vis X.env.scope x:=by
   rcases ko with z | z
   ·exact .inr (.inl z)
   ·exact .inr (.inr z)
  obtain⟨m,_,hloc⟩:=I.loc
  obtain⟨u,r,l⟩:=hloc q x v hX hσ hv
  refine⟨u,r, .inr ⟨?_, ?_⟩⟩
  ·exact vq hl
  ·rcases l with⟨k,_⟩ | ⟨_,c,hc,hcell⟩
   ·rcases ko with z | z<;>(rw[k] at z;cases z)
   ·refine⟨c,Rf hm hc, ?_⟩
    obtain⟨o,ho,hd⟩:=hcell
    exact⟨o,hk c o ho,hd⟩
 ·obtain⟨v,o,ho,hd⟩:=I.cell x c (vp e)
  exact⟨v,o,hk c o ho,hd⟩
 ·exact I.p7 x c (vp e)
 ·have hp':p∈X.pn++pins:=by
   have z:p∈(X.pn++pins)++[]:=hp
   rwa [List.append_nil] at z
  obtain⟨e,hn',ne,nf,d⟩:=I.pin p hp'
  refine⟨hk p.1 p.2 e,hn',Nat.ne_of_lt (Heap.lt_size e),fun hz=> ?_,d⟩
  rcases List.mem_cons.mp (hsub p.1 hz) with z | z
  ·exact ne z
  ·exact nf z
 ·show(cst n fr σ).length=N.length
  unfold cst
  rw[List.length_append,List.length_replicate,List.length_map,S.len]
theorem comp_back {C:Addr}{σ':St}{H':Hp}{s':Shared}{pins':List (Addr×Obj)} (I:Inv X pins σ H s) (hf:∀b∈fp,Es X pins H b) (J:Inv (lg X N sc pins C s H fp) pins' σ' H' s'):Inv X pins σ H' s':=
 I.call' (ch:=fp) J.os J.base J.hok J.bare fun b hb=>⟨(hf b hb).2.2.2.1,(hf b hb).2.1,(hf b hb).2.2.2.2.1,(hf b hb).2.2.2.2.2⟩
end
def Vo (X:Cx) (ifs:List Expr) (t:TT):Prop:=
 ∀(pins:List (Addr×Obj)) (s:Shared) (σ:St) (H:Hp) (Q:Bool->Hp->Prop),Inv X pins σ H s->t σ H Q->
  wpAny (model X.prog X.w) X.A (forIn ifs true fun c r=>if r=true then do let ok <-isTrue c X.env (eval c X.env);pure (ForInStep.yield ok) else pure (ForInStep.yield r)) (TP X pins σ Q) X.xe s
def aa0:TT:=fun _ H Q=>Q true H
theorem Vp {X:Cx}:Vo X [] aa0:=fun _ _ _ H _ I h=>wpAny_pure ⟨H,I,h⟩
theorem Vq {X:Cx}{c:Expr}{t:TT} (hc:PT X c t):Vo X [c] t:=by
 intro pins s σ H Q I h
 rw[List.forIn_cons]
 refine wpAny_bind ?_
 rw[if_pos rfl]
 refine wpAny_bind (thn (hc pins s σ H Q I h) fun b s1 q=>wpAny_pure ?_)
 exact wpAny_pure q
def MK (J:It) (g:TG) (tc:TT) (te:TE) (D:Addr) (σ:St) (H:Hp) (Q:VK):Prop:=
 ∃W:Nat->Nat->St->Hp->Prop,(∃m,W 0 m σ H)/\∀i m σ' H',W i m σ' H'->
  (J.stop i H'/\Q (.ref D) H')\/(J.go i H'/\∃N:St->Hp->Prop,(∀σ3 H3,N σ3 H3->∃m',m'<m/\W (i+1) m' σ3 H3)/\∀x H2,J.yld i H' x H2->g x σ' H2 fun σ3 H3=>tc σ3 H3 fun b H4=>
    if b=true then te σ3 H4 fun y H5=>∃ys,H5 D=some (.lst ys)/\ys.length<sizeLine/\N σ3 (upd H5 D (.lst (ys++[y])))
    else N σ3 H4)
def aa1 (wi:TI) (n:Nat) (fr:List Nat) (g:TG) (tc:TT) (te:TE):TE:=fun σ H Q=>wi σ H fun J H1=>∀D,H1 D=none->MK J g tc te D (cst n fr σ) (upd H1 D (.lst [])) Q
section
variable {X:Cx}{n:Nat}{fr:List Nat}{N:List Str}{sc:Scope}{elt tg iter:Expr}{ifs:List Expr}{pos:Pos}{wi:TI}{g:TG}{tc:TT}{te:TE}
theorem Vr {pins:List (Addr×Obj)}{σ:St}{H:Hp}{s:Shared}{fp:List Addr}{it:Addr}{tn:Nat->Heap->Prop}{J:It}{Q:VK}{E:Value->Shared->Prop}{RR:Value->Addr->Result->Shared->Prop}
 (hc:X.calm=true) (S:Eu X n fr N sc)
 (hg:∀C s₀ H₀ fp,PG (lg X N sc pins C s₀ H₀ fp) tg g) (hi:∀C s₀ H₀ fp,Vo (lg X N sc pins C s₀ H₀ fp) ifs tc) (he:∀C s₀ H₀ fp,PE (lg X N sc pins C s₀ H₀ fp) elt te)
 (I:Inv X pins σ H s) (T:Turn X.prog X.w X.K tg J fp it tn) (st:tn 0 s.heap) (hf:∀b∈fp,Es X pins H b)
 (h:∀D,H D=none->MK J g tc te D (cst n fr σ) (upd H D (.lst [])) Q)
 (hR:∀D C H' s',Inv X pins σ H' s'->Es X pins H' C->(∃m,s'.heap.Ns C m)->Q (.ref D) H'->RR (.ref D) C (.ok .next) s'):
 wpAny (model X.prog X.w) X.A (newList []) (fun acc s₃=>wpAny (model X.prog X.w) X.A (newFunctionEnv sc X.env.globals (ccl sc X.env) [] X.env.qual none .none (some X.env)) (fun cenv s₄=>
  codeAny (model X.prog X.w) X.A (.compStart (.ListComp elt [⟨tg,iter,ifs,0⟩] sc pos) 0 (.ref it) acc {cenv with scope:=relabel sc X.env}) (RR acc cenv.locals) s₄) E s₃) E s:=by
 have hfree:H s.heap.objs.size=none:=I.hok.fresh (Nat.le_refl _)
 have hltf:∀b∈fp,b<s.heap.objs.size:=fun b hb=>by
  obtain⟨o,e,_⟩:=T.obj 0 s.heap st b hb
  exact Heap.lt_size e
 obtain⟨W,⟨m0,w0⟩,turn⟩:=h s.heap.objs.size hfree
 refine wpAny_newObj_type (wpAny_newFunctionEnv S.nocell (by intro y hy;simp at hy) (fun h₁ hns₁ hsb₁=> ?_) S.kind)
 dsimp only at hns₁ hsb₁ ⊢
 have I3:Inv X pins σ (upd H s.heap.objs.size (.lst [])) {s with heap:=s.heap.push {cls:= .type "list",dict:=none,data:= .seq ([]:List Value).toArray}}:=
  I.laid (t':=s.toks) (fun b u e=>Heap.get?_push_of_some _ e) (Nat.le_refl _) ⟨Nat.zero_le _,[],0, .nil,Heap.get?_push_size _ rfl⟩
 have hf3:∀b∈fp,Es X pins (upd H s.heap.objs.size (.lst [])) b:=fun b hb=>⟨by rw[ao (Nat.ne_of_lt (hltf b hb))];exact(hf b hb).1,(hf b hb).2⟩
 generalize hs3:({s with heap:=s.heap.push {cls:= .type "list",dict:=none,data:= .seq ([]:List Value).toArray}}:Shared)=s3 at *
 have e3:s3.heap=s.heap.push {cls:= .type "list",dict:=none,data:= .seq ([]:List Value).toArray}:=by rw[<-hs3]
 have et:s3.toks=s.toks:=by rw[<-hs3]
 have afG:∀b∈fp,b<s3.heap.objs.size:=fun b hb=>by rw[e3,Heap.size_push];exact Nat.lt_succ_of_lt (hltf b hb)
 have hk3:∀b o,s3.heap.get? b=some o->h₁.get? b=some o:=fun b o e=>hsb₁.extBut b o (by rw[<-e3];exact Nat.ne_of_lt (Heap.lt_size e)) (by rw[<-e3];exact Heap.get?_push_of_some _ e)
 have aja:h₁.Ns s3.heap.objs.size (fun _=>none):=by rw[e3];exact hns₁
 have I4:=Pq (tk:=s.toks+([]:List (Str×Value)).length) S I3 hf3 afG aja hk3
 have hDk:∀b o,s.heap.get? b=some o->h₁.get? b=some o:=fun b o e=>hk3 b o (by rw[e3];exact Heap.get?_push_of_some _ e)
 have st4:tn 0 h₁:=T.keep 0 s.heap h₁ st fun b hb o e=>hDk b o e
 have hfX:∀{H':Hp},(∀b∈fp,H' b=none)->∀b∈fp,Es (lg X N sc pins s3.heap.objs.size s3 (upd H s.heap.objs.size (.lst [])) fp) [] H' b:=fun{H'} hn b hb=>by
  refine⟨hn b hb,Nat.ne_of_lt (afG b hb),fun z=> ?_, .inl hb,fun x c e=>(hf3 b hb).2.2.2.2.1 x c (vp e),fun p hp=> ?_⟩
  ·rcases List.mem_cons.mp (I3.Ku b z) with q | q
   ·exact(hf3 b hb).2.1 q
   ·exact(hf3 b hb).2.2.1 q
  ·have hp':p∈(X.pn++pins)++[]:=hp
   rw[List.append_nil] at hp'
   exact(hf3 b hb).2.2.2.2.2 p hp'
 have loop:∀s₄:Shared,s₄={s3 with heap:=h₁,toks:=s.toks+([]:List (Str×Value)).length}->
  codeAny (model X.prog X.w) X.A (.compLoop (.ListComp elt [⟨tg,iter,ifs,0⟩] sc pos) 0 (.ref it) (.ref s.heap.objs.size) (compEnvC sc (ccl sc X.env) s3.heap.objs.size X.env)) (RR (.ref s.heap.objs.size) s3.heap.objs.size) s₄:=by
  rintro s₄ rfl
  refine codeAny_loop rfl (fun k s'=>∃i σ' H',Inv (lg X N sc pins s3.heap.objs.size s3 (upd H s.heap.objs.size (.lst [])) fp) [] σ' H' s'/\tn i s'.heap/\(∀b∈fp,H' b=none)/\W i k σ' H') ?_ m0
   ⟨0,_,_,I4,st4,fun b hb=>(hf3 b hb).1,w0⟩
  rintro k s5 ⟨i,σ5,H5,I5,st5,fr5,w5⟩
  show wpAny _ X.A ((compTurn (.ListComp elt [⟨tg,iter,ifs,0⟩] sc pos) 0 (.ref it) (.ref s.heap.objs.size) (compEnvC sc (ccl sc X.env) s3.heap.objs.size X.env)).onRaise (fun x=>do noteFrame x (compEnvC sc (ccl sc X.env) s3.heap.objs.size X.env);theTreesLotGoes x)) _ _ s5
  refine wpAny_noted ?_
  rw[compTurn_list]
  refine wpAny_bind (wpAny_standAt (wpAny_bind ?_))
  have nev:∀{α:Type}{t:Sem α}{Q₁:α->Shared->Prop}{E₁:Value->Shared->Prop}{s₁:Shared},wpAny (model X.prog X.w) X.A t Q₁ (fun _ _=>False) s₁->wpAny (model X.prog X.w) X.A t Q₁ E₁ s₁:=fun h=>wpAny_noRaise h
  rcases turn i k σ5 H5 w5 with⟨stop,qn⟩ | ⟨go,Nn,hN,step⟩
  ·refine nev (thn (T.done (lg X N sc pins s3.heap.objs.size s3 (upd H s.heap.objs.size (.lst [])) fp) rfl rfl rfl hc i [] s5 σ5 H5 (fun _ _=>False) I5 (hfX fr5) st5 stop) fun r s6 ⟨hr,I6⟩=> ?_)
   subst hr
   have B:Inv X pins σ H5 s6:=comp_back I3 hf3 I6
   refine wpAny_pure (hR _ _ H5 s6 B (I3.O5 (Nat.le_refl _) I6.free) ?_ qn)
   obtain⟨m,hm,_⟩:=I6.loc
   exact⟨m,hm⟩
  ·refine nev (thn (T.item (lg X N sc pins s3.heap.objs.size s3 (upd H s.heap.objs.size (.lst [])) fp) rfl rfl rfl hc i [] s5 σ5 H5 (fun _ _=>False) I5 (hfX fr5) st5 go) fun r s6 ⟨u,hr,h6⟩=> ?_)
   subst hr
   refine wpAny_bind (nev (thn h6 fun _ s7 ⟨x,H7,I7,r7,y7,st7,fr7⟩=> ?_))
   have I7':=I7.pinned (hfX fr7) (T.obj _ _ st7)
   refine wpAny_bind (nev (thn (hg _ _ _ _ _ s7 σ5 H7 x u _ I7' r7 (step x H7 y7)) fun _ s8 ⟨σ8,H8,I8,q8⟩=> ?_))
   refine wpAny_bind (nev (thn (hi _ _ _ _ _ s8 σ8 H8 _ I8 q8) fun b s9 ⟨H9,I9,q9⟩=> ?_))
   have fin:∀{s10:Shared}{H10:Hp}{m':Nat},m'<k->Inv (lg X N sc pins s3.heap.objs.size s3 (upd H s.heap.objs.size (.lst [])) fp) ([]++Hl fp s7.heap) σ8 H10 s10->W (i+1) m' σ8 H10->
    ∃m,m<k/\∃i σ' H',Inv (lg X N sc pins s3.heap.objs.size s3 (upd H s.heap.objs.size (.lst [])) fp) [] σ' H' s10/\tn i s10.heap/\(∀b∈fp,H' b=none)/\W i m σ' H':=fun{s10 H10 m'} hm I10 w10=>by
    refine⟨m',hm,i+1,σ8,H10,I10.unpinned,T.keep _ _ _ st7 fun b hb o e=>(I10.pin (b,o) (List.mem_append_right _ (List.mem_append_right _ (vo hb e)))).1,fun b hb=> ?_,w10⟩
    obtain⟨o,e,d⟩:=T.obj _ _ st7 b hb
    exact(I10.pin (b,o) (List.mem_append_right _ (List.mem_append_right _ (vo hb e)))).2.1
   cases b with
   | false=>
     rw[if_neg Bool.false_ne_true] at q9
     obtain⟨m',hm,w9⟩:=hN _ _ q9
     exact wpAny_pure ⟨rfl,fin hm I9 w9⟩
   | true=>
     rw[if_pos rfl] at q9
     refine wpAny_bind (wpAny_bind (nev (thn (he _ _ _ _ _ s9 σ8 H9 _ I9 q9) fun v s10 ⟨y,H10,I10,r10,q10⟩=> ?_)))
     obtain⟨ys,hy,hz,n10⟩:=q10
     obtain⟨m',hm,w10⟩:=hN _ _ n10
     refine wpAny_bind (nev (thn (JV _ s10 σ8 H10 (.ref s.heap.objs.size) [y] (.ref s.heap.objs.size) [v] (fun z H'=>H'=upd H10 s.heap.objs.size (.lst (ys++[y]))) I10 rfl (.cons r10 .nil) ⟨_,ys,y,rfl,rfl,hy,hz,rfl⟩) fun z s11 ⟨_,H11,I11,_,e11⟩=> ?_))
     subst e11
     exact wpAny_pure (wpAny_pure ⟨rfl,fin hm I11 w10⟩)
 subst hs3
 exact codeAny_compStart_list (loop _ rfl) (T.self _ 0 _ _ _ st4 (loop _ rfl))
theorem YW (hc:X.calm=true) (S:Eu X n fr N sc) (hit:PI X tg iter wi)
 (hg:∀pins C s₀ H₀ fp,PG (lg X N sc pins C s₀ H₀ fp) tg g) (hi:∀pins C s₀ H₀ fp,Vo (lg X N sc pins C s₀ H₀ fp) ifs tc) (he:∀pins C s₀ H₀ fp,PE (lg X N sc pins C s₀ H₀ fp) elt te)
 (hs:∀x,foldedSetIterable iter X.env x=pure x:=by intro _;rfl):PE X (.ListComp elt [⟨tg,iter,ifs,0⟩] sc pos) (aa1 wi n fr g tc te):=by
 intro pins s σ H Q I h
 rw[eval_ListComp]
 refine wpAny_comprehension_free (use:=none) rfl hs (Pn S I.ok) S.kind S.own ?_
 refine thn (hit pins s σ H _ I h) fun v s1 h1=>thn h1 fun itv s2 h2=> ?_
 obtain⟨it,fp,tn,J,H2,e,I2,T,st2,f2,q2⟩:=h2
 subst e
 refine Vr (RR:=fun acc C=>compPost (model X.prog X.w) X.A X.xe none (EP X pins σ Q) acc C) hc S (hg pins) (hi pins) (he pins) I2 T st2 f2 q2 fun D C H' s' I' fC hm q=> ?_
 obtain⟨m,hm⟩:=hm
 refine⟨m,hm,fun h' hs'=>⟨.ref D,H',I'.turned (t':=s'.toks) (fun b o hb e=>(hs'.2 b hb).trans e) fC.1 fC.2.1 fC.2.2.2.1 fC.2.2.2.2.1 fC.2.2.2.2.2,rfl,q⟩⟩
end
theorem Pr {lo:Int}{n:Nat}{g:TG}{tc:TT}{te:TE}{σ:St}{H:Hp}{D:Addr}{Q:VK} (Pv:Nat->St->Hp->Prop) (h0:Pv 0 σ (upd H D (.lst [])))
 (hs:∀i σ' H',i<n->Pv i σ' H'->g (.int (lo+i)) σ' H' fun σ3 H3=>tc σ3 H3 fun b H4=>
   if b=true then te σ3 H4 fun y H5=>∃ys,H5 D=some (.lst ys)/\ys.length<sizeLine/\Pv (i+1) σ3 (upd H5 D (.lst (ys++[y]))) else Pv (i+1) σ3 H4) (hd:∀σ' H',Pv n σ' H'->Q (.ref D) H'):
 MK (Itr lo n) g tc te D σ (upd H D (.lst [])) Q:=by
 refine⟨fun i m σ H=>m=n - i/\i<=n/\Pv i σ H,⟨n,by simp,Nat.zero_le _,h0⟩, ?_⟩
 rintro i m σ H ⟨rfl,hi,p⟩
 by_cases hlt:i<n
 ·refine .inr ⟨hlt,Pv (i+1),fun σ' H' p'=>⟨n - (i+1),by omega,rfl,hlt,p'⟩,fun x H' y=> ?_⟩
  obtain⟨e,y⟩:=y
  subst e y
  exact hs i σ _ hlt p
 ·have e:i=n:=by omega
  subst e
  exact .inl ⟨Nat.le_refl _,hd σ H p⟩
theorem Ew {K:PySem.W.Frag}{a:Addr}{xs:List V}{g:TG}{tc:TT}{te:TE}{σ:St}{H:Hp}{D:Addr}{Q:VK} (Pv:Nat->St->Hp->Prop) (h0:Pv 0 σ (upd H D (.lst []))) (hl:∀i σ H,i<=xs.length->Pv i σ H->SqL K H a xs)
 (hs:∀i x σ' H',xs[i]? =some x->Pv i σ' H'->g x σ' H' fun σ3 H3=>tc σ3 H3 fun b H4=>
   if b=true then te σ3 H4 fun y H5=>∃ys,H5 D=some (.lst ys)/\ys.length<sizeLine/\Pv (i+1) σ3 (upd H5 D (.lst (ys++[y]))) else Pv (i+1) σ3 H4) (hd:∀σ' H',Pv xs.length σ' H'->Q (.ref D) H'):
 MK (Itl K a) g tc te D σ (upd H D (.lst [])) Q:=by
 refine⟨fun i m σ H=>m=xs.length - i/\i<=xs.length/\Pv i σ H,⟨xs.length,by simp,Nat.zero_le _,h0⟩, ?_⟩
 rintro i m σ H ⟨rfl,hi,p⟩
 have q:=hl i σ H hi p
 by_cases hlt:i<xs.length
 ·refine .inr ⟨⟨xs,xs[i],q,by simp[hlt]⟩,Pv (i+1),fun σ' H' p'=>⟨xs.length - (i+1),by omega,rfl,hlt,p'⟩,fun x H' y=> ?_⟩
  obtain⟨e,y⟩:=y
  subst e
  exact hs i x σ _ (y xs q) p
 ·have e:i=xs.length:=by omega
  subst e
  exact .inl ⟨⟨xs,q,Nat.le_refl _⟩,hd σ H p⟩
def aF (sc:Scope) (x:Str):Prop:=Vis sc x/\(x==("__debug__":Str))=false/\(x==("__classdict__":Str))=false
instance {sc:Scope}{x:Str}:Decidable (aF sc x):=by unfold aF Vis;exact inferInstance
instance {sc:Scope}{x:Str}:Decidable (Loc sc x):=by unfold Loc;exact inferInstance
theorem pvx {X:Cx} (i:Nat) {x:Str}{pos:Pos} (v:aF X.env.scope x) (hN:X.N[i]? =some x:=by rfl):PE X (.Name x pos) (abO i):=abP hN v.1 v.2.1 v.2.2
def vz (sc:Scope) (x:Str):Prop:=(sc.names.lookup x=some .local\/sc.names.lookup x=some .free)/\(x==("__debug__":Str))=false/\(x==("__classdict__":Str))=false
instance {sc:Scope}{x:Str}:Decidable (vz sc x):=by unfold vz;exact inferInstance
theorem vz.ok {sc:Scope}{env:Env}{x:Str} (h:vz sc x):aF (relabel sc env) x:=by
 obtain⟨h1,h2⟩:=h
 refine⟨?_,h2⟩
 rcases h1 with h1 | h1
 ·exact .inl (lookup_relabel_local h1)
 ·rcases vq (env:=env) h1 with z | z
  ·exact .inr (.inl z)
  ·exact .inr (.inr z)
theorem Cw {env:Env}:∀{names:List (Str×NameKind)}{x:Str},names.lookup x=some .globalImplicit->
 (names.map fun(n,k)=>if(k==NameKind.free&&env.scope.kind== .function&&env.kindOf n==some .cell) then(n,NameKind.cell) else(n,k)).lookup x=some .globalImplicit
 |[],_,h=>by simp at h
 | (n,q)::r,x,h=>by
   have ih:=@Cw env r x
   rw[List.map_cons]
   cases hx:x==n with
   | true=>
     simp only[List.lookup_cons,hx,Option.some.injEq] at h
     subst h
     simp[List.lookup_cons,hx]
   | false=>
     simp only[List.lookup_cons,hx] at h
     by_cases hc:(q==NameKind.free&&env.scope.kind== .function&&env.kindOf n==some .cell)=true
     ·simpa only[hc,if_true,List.lookup_cons,hx] using ih h
     ·simpa only[hc,if_false,List.lookup_cons,hx,Bool.false_eq_true] using ih h
theorem glC {X:Cx}{N:List Str}{sc:Scope}{pins:List (Addr×Obj)}{C:Addr}{s₀:Shared}{H₀:Hp}{fp:List Addr}{x:Str} (h:sc.names.lookup x=some .globalImplicit):Gl (lg X N sc pins C s₀ H₀ fp) x:=Cw h
theorem pgx {X:Cx}{i:Nat}{x:Str}{pos:Pos} (hN:X.N.Nodup) (hx:X.env.scope.names.lookup x=some .local) (hi:X.N[i]? =some x:=by rfl):PG X (.Name x pos) (JP i):=QK hN hi (.inl hx) (.inr hx)
theorem Pu {sc:Scope}{env:Env}{x:Str} (h:sc.names.lookup x=some .local):(relabel sc env).names.lookup x=some .local:=lookup_relabel_local h
def aa2 (_ j:Int):Prop:=0<j/\j.natAbs.log2<9000
theorem Vs {X:Cx}:OpR X (binaryOp .FloorDiv) (rI aa2 fun i j=> .int (i / j)):=opI fun i j _ _ _ _ _ hc q=>by
 have h1:(0:Int)<j:=hc.1
 exact floordiv_int (by omega) (by rw[Int.fdiv_eq_ediv_of_nonneg i (by omega)];exact q) (.inl (PyProof.noPylong_of_log2 hc.2))
mutual
inductive pD (K:PySem.W.Frag) (H:Hp):V->PyData->Prop where
 | non:pD K H .non .none
 | bl (b:Bool):pD K H (.bl b) (.bool b)
 | int (i:Int):pD K H (.int i) (.int i)
 | str (x:Str):pD K H (.str x) (.str x)
 | lst {a:Addr}{xs:List V}{ds:List PyData} (h:SqL K H a xs) (r:wH K H xs ds):pD K H (.ref a) (.list ds)
 | tup {a:Addr}{xs:List V}{ds:List PyData} (h:SqT K H a xs) (r:wH K H xs ds):pD K H (.ref a) (.tuple ds)
inductive wH (K:PySem.W.Frag) (H:Hp):List V->List PyData->Prop where
 | nil:wH K H [] []
 | cons {x:V}{d:PyData}{xs:List V}{ds:List PyData} (h:pD K H x d) (r:wH K H xs ds):wH K H (x::xs) (d::ds)
end
theorem Hv {K:PySem.W.Frag}{H:Hp}:∀ns:List Str,wH K H (ns.map V.str) (ns.map PyData.str)
 |[]=> .nil
 | n::r=> .cons (.str n) (Hv r)
section
variable {X:Cx}{pins:List (Addr×Obj)}{σ:St}{H:Hp}{s:Shared}
mutual
theorem pD.reads (I:Inv X pins σ H s):∀{x:V}{d:PyData}{u:Value},pD X.K H x d->RelV x u->∃as,Reads s.heap u d as
 | _,_,_, .non,r=>by cases(show _=Value.none from r);exact⟨_, .none⟩
 | _,_,_, .bl b,r=>by cases(show _=Value.bool b from r);exact⟨_, .bool b⟩
 | _,_,_, .int i,r=>by obtain⟨t,rfl⟩:=r;exact⟨_, .int i t⟩
 | _,_,_, .str x,r=>by obtain⟨t,rfl⟩:=r;exact⟨_, .str x t⟩
 | _,_,_, .lst h q,r=>by
   cases(show _=Value.ref _ from r)
   obtain⟨its,rv,⟨o,n,e,c,_,d⟩,_⟩:=I.list h
   obtain⟨as,hr⟩:=wH.reads I q rv
   exact⟨_, .list e c d (by simpa using hr)⟩
 | _,_,_, .tup h q,r=>by
   cases(show _=Value.ref _ from r)
   obtain⟨its,rv,⟨o,e,c,n,d⟩,_⟩:=I.tuple h
   obtain⟨as,hr⟩:=wH.reads I q rv
   exact⟨_, .tuple e c d (by simpa using hr)⟩
theorem wH.reads (I:Inv X pins σ H s):∀{xs:List V}{ds:List PyData}{us:List Value},wH X.K H xs ds->Vals xs us->∃as,ReadsAll s.heap us ds as
 | _,_,_, .nil, .nil=>⟨_, .nil⟩
 | _,_,_, .cons h r, .cons q t=>by
   obtain⟨as,h1⟩:=pD.reads I h q
   obtain⟨bs,h2⟩:=wH.reads I r t
   exact⟨_, .cons h1 h2⟩
end
end
def afH (K:PySem.W.Frag) (neg:Bool):R2:=fun x y H Q=>∃d e,pD K H x d/\pD K H y e/\SeqAt.shaped d=true/\SeqAt.shaped e=true/\Q (.bl (if neg then !PyData.eqv d e else PyData.eqv d e)) H
theorem Vt {X:Cx} (hu:X.A.units+64<cLine):OpR X (compareOp .Eq) (afH X.K false):=by
 intro pins s σ H x y v u Q I rx ry h
 obtain⟨d,e,hd,he,sd,se,q⟩:=h
 obtain⟨as,h1⟩:=hd.reads I rx
 obtain⟨bs,h2⟩:=he.reads I ry
 exact eq_dataH h1 h2 sd se hu ⟨.bl _,H,I,rfl,q⟩
theorem Vu {X:Cx} (hu:X.A.units+64<cLine):OpR X (compareOp .NotEq) (afH X.K true):=by
 intro pins s σ H x y v u Q I rx ry h
 obtain⟨d,e,hd,he,sd,se,q⟩:=h
 obtain⟨as,h1⟩:=hd.reads I rx
 obtain⟨bs,h2⟩:=he.reads I ry
 exact ne_dataH h1 h2 sd se hu ⟨.bl _,H,I,rfl,q⟩
theorem Vv {X:Cx}:sG X (.builtin "isinstance") (fun xs H Q=>∃x T t b,xs=[x, .ty T]/\qT X.K H x t/\PySem.W.kitOne X.K t (.type T)=some b/\Q (.bl b) H):=by
 intro pins s σ H xs us Q I r h
 obtain⟨x,T,t,b,rfl,ty,e,q⟩:=h
 obtain⟨u,v,rfl,r1,r2⟩:=Vals.two r
 cases(show v=Value.type T from r2)
 exact Tr I r1 ty e fun tk=>⟨.bl b,H,I.tok tk,rfl,q⟩
theorem pQ:bootBuiltins "len"=some (.builtin "len"):=by decide +kernel
theorem bK:bootBuiltins "isinstance"=some (.builtin "isinstance"):=by decide +kernel
theorem Vw:bootBuiltins "max"=some (.builtin "max"):=by decide +kernel
theorem acG:bootBuiltins "min"=some (.builtin "min"):=by decide +kernel
theorem acH:bootBuiltins "all"=some (.builtin "all"):=by decide +kernel
theorem KJ:bootBuiltins "int"=some (.type "int"):=by decide +kernel
theorem Vx:bootBuiltins "str"=some (.type "str"):=by decide +kernel
theorem Rg:bootBuiltins "bool"=some (.type "bool"):=by decide +kernel
theorem vA:bootBuiltins "list"=some (.type "list"):=by decide +kernel
theorem Hw:bootBuiltins "tuple"=some (.type "tuple"):=by decide +kernel
theorem Rh:bootBuiltins "dict"=some (.type "dict"):=by decide +kernel
theorem KN:bootBuiltins "enumerate"=some (.type "enumerate"):=by decide +kernel
theorem acI:bootBuiltins "zip"=some (.type "zip"):=by decide +kernel
structure QE (X:Cx) (e:Expr) (t:TE):Prop where
 h:PE X e t
structure QT (X:Cx) (e:Expr) (t:TT):Prop where
 h:PT X e t
structure QW (X:Cx) (e:Expr) (t:TT):Prop where
 h:PW X e t
structure QA (X:Cx) (es:List Expr) (t:TA):Prop where
 h:PA X es t
structure QS (X:Cx) (s:Stmt) (t:TS):Prop where
 h:PS X s t
structure QSs (X:Cx) (s:List Stmt) (t:TS):Prop where
 h:PSs X s t
structure QG (X:Cx) (e:Expr) (t:TG):Prop where
 h:PG X e t
structure QGs (X:Cx) (es:List Expr) (t:TGs):Prop where
 h:PGs X es t
structure QI (X:Cx) (tg e:Expr) (t:TI):Prop where
 h:PI X tg e t
structure QO (X:Cx) (e:Option Expr) (t:TO):Prop where
 h:PO X e t
structure acJ (X:Cx) (es:List Expr) (t:TT):Prop where
 h:Vo X es t
structure QPs (X:Cx) (pos:Pos) (ks:List (Option Expr)) (vs:List Expr) (t:List (TE×TE)):Prop where
 h:PPs X pos ks vs t
structure QOp (X:Cx) (f:Value->Value->Sem Value) (r:R2):Prop where
 h:OpR X f r
structure QUn (X:Cx) (f:Value->Sem Value) (r:V->Hp->VK->Prop):Prop where
 h:UnR X f r
structure QIx (X:Cx) (r:R2):Prop where
 h:IxR X r
structure QSl (X:Cx) (r:V->Option Int->Option Int->Hp->VK->Prop):Prop where
 h:SlR X r
structure QMt (X:Cx) (id:String) (r:V->List V->Hp->VK->Prop):Prop where
 h:MtR X id r
structure sH (X:Cx) (f:Value) (r:List V->Hp->VK->Prop):Prop where
 h:sG X f r
section
variable {X:Cx}{a b c e:Expr}{es:List Expr}{ta tb te:TE}{tA tB':TT}{pos p:Pos}{x:Str}
theorem aa (i:Nat) (v:aF X.env.scope x) (hN:X.N[i]? =some x:=by rfl):QE X (.Name x pos) (abO i):=⟨pvx i v hN⟩
theorem aB {i j pos}:QE X (.Constant (.int i) j pos) (tC (.int i)):=⟨abQ⟩
theorem Hy {b j pos}:QE X (.Constant (.bool b) j pos) (tC (.bl b)):=⟨afa⟩
theorem ni {j pos}:QE X (.Constant .none j pos) (tC .non):=⟨abR⟩
theorem aC {x j pos}:QE X (.Constant (.str x) j pos) (tC (.str x)):=⟨UL⟩
theorem qD {v:V}{u:Value} (hg:Gl X x) (hm:X.mg x=some u) (r:RelV v u) (hd:(x==("__debug__":Str))=false):QE X (.Name x pos) (tC v):=⟨Yj hg hm r hd⟩
theorem nj {v:V}{u:Value} (hg:Gl X x) (hm:X.mg x=none) (hv:bootBuiltins x=some u) (r:RelV v u) (hn:x≠"__name__") (hd:(x==("__debug__":Str))=false):QE X (.Name x pos) (tC v):=⟨Yk hg hm hv r hn hd⟩
theorem bW {op:Operator}{r:R2} (ho:QOp X (binaryOp op) r) (ha:QE X a ta) (hb:QE X b tb):QE X (.BinOp a op b pos) (tOp r ta tb):=⟨afl ho.h ha.h hb.h⟩
theorem aa3 {op:UnaryOp}{r:V->Hp->VK->Prop} (ho:QUn X (unaryOp op) r) (ha:QE X a ta):QE X (.UnaryOp op a pos) (tUn r ta):=⟨afm ho.h ha.h⟩
theorem vB {op:CmpOp}{r:R2} (ho:QOp X (compareOp op) r) (ha:QE X a ta) (hb:QE X b tb) (hm:behindInMarks op b=false):QE X (.Compare a [op] [b] pos) (tOp r ta tb):=⟨Yu ho.h ha.h hb.h hm⟩
theorem cN {op:CmpOp}{r:R2} (ho:QOp X (compareOp op) r) (ha:QE X a ta) (hb:QE X b tb) (hm:behindInMarks op b=false):QT X (.Compare a [op] [b] pos) (aaS (tOp r ta tb)):=⟨Yv ho.h ha.h hb.h hm⟩
theorem mq (h:QE X e te) (he:∀whole,isTrue e X.env whole=(do let v <-whole;standAt e.pos;holding [v] (truthy v)):=by intro _;rfl):QT X e (tB te):=⟨abS h.h he⟩
theorem Hz (ha:QE X a ta) (he:∀whole,isTrue a X.env whole=(do let v <-whole;standAt a.pos;holding [v] (truthy v)):=by intro _;rfl):QT X a (fun σ H Q=>ta σ H fun x H1=>∃k,ach X.K x H1 k/\Q k H1):=⟨U8 ha.h he⟩
theorem An (ha:QT X a tA):QT X (.UnaryOp .Not a pos) (afc tA):=⟨abV ha.h⟩
theorem Vy (ha:QE X a ta):QE X (.UnaryOp .Not a pos) (aaL ta):=⟨abY ha.h⟩
theorem zq (ha:QT X a tA):QW X (.BoolOp .And [a] pos) tA:=⟨Yl ha.h⟩
theorem xR (ha:QT X a tA):QW X (.BoolOp .Or [a] pos) tA:=⟨abT ha.h⟩
theorem Ao {rest:List Expr} (ha:QT X a tA) (hb:QW X (.BoolOp .And (b::rest) pos) tB'):QW X (.BoolOp .And (a::b::rest) pos) (afb tA tB'):=⟨abU ha.h hb.h⟩
theorem Cy {rest:List Expr} (ha:QT X a tA) (hb:QW X (.BoolOp .Or (b::rest) pos) tB'):QW X (.BoolOp .Or (a::b::rest) pos) (tOr tA tB'):=⟨afd ha.h hb.h⟩
theorem Cz (h:QW X e tA):QT X e tA:=⟨h.h.pt⟩
theorem KQ {op} (h:QE X a ta):QE X (.BoolOp op [a] pos) ta:=⟨abW h.h⟩
theorem HF {rest:List Expr} (ha:QE X a ta) (hb:QE X (.BoolOp .And (b::rest) pos) tb):QE X (.BoolOp .And (a::b::rest) pos) (aaK ta tb):=⟨abX ha.h hb.h⟩
theorem MN (hc:QT X c tA) (ha:QE X a ta) (hb:QE X b tb):QE X (.IfExp c a b pos) (tIf tA ta tb):=⟨UW hc.h ha.h hb.h⟩
theorem aq:QA X [] Tu:=⟨aco⟩
theorem lU {t:TA} (ha:QE X e te) (hr:QA X es t) (hs:starEach (e::es) X.env=(false,eval e X.env)::starEach es X.env:=by rfl):QA X (e::es) (qU te t):=⟨Yx ha.h hr.h hs⟩
theorem gF {x1}{t:TA} (h:QA X es t):QE X (.Tuple es x1 pos) (afw t):=⟨acp h.h⟩
theorem dY {t:TA} (h:QA X es t):QE X (.List es pos) (afx t):=⟨acq h.h⟩
theorem cR {r:R2} (hr:QIx X r) (ha:QE X a ta) (hb:QE X b tb) (hs:Q6 b:=by intro _ _;rfl):QE X (.Subscript a b pos) (tOp r ta tb):=⟨afy hr.h ha.h hb.h hs⟩
theorem vC:QO X none Q4:=⟨YC⟩
theorem vD (h:QE X e te):QO X (some e) (aaV te):=⟨YD h.h⟩
theorem qX {r:V->Option Int->Option Int->Hp->VK->Prop}{lo hi:Option Expr}{tl th:TO}{p2:Pos} (hr:QSl X r) (he:QE X e te) (hl:QO X lo tl) (hu:QO X hi th):QE X (.Subscript e (.Slice lo hi none p2) pos) (tSl r te tl th):=⟨Vf hr.h he.h hl.h hu.h⟩
theorem aW (hu:X.A.units+1<cLine) (ho:QE X a ta) (hi:QE X b tb) (hs:acA b:=by intro _ _;rfl):QE X (.Subscript a b pos) (aaX ta tb):=⟨YL hu ho.h hi.h hs⟩
theorem Px:QPs X pos [] [] []:=⟨YQ⟩
theorem lV {k v:Expr}{ks:List (Option Expr)}{vs:List Expr}{tk tv:TE}{trs:List (TE×TE)} (hk:QE X k tk) (hv:QE X v tv) (hr:QPs X pos ks vs trs):QPs X pos (some k::ks) (v::vs) ((tk,tv)::trs):=⟨Vm hk.h hv.h hr.h⟩
theorem KR {keys:List (Option Expr)}{values:List Expr}{trs:List (TE×TE)} (h:QPs X pos keys values trs) (hall:keys.all (·.isSome)=true:=by rfl) (hl:keys.length=values.length:=by rfl) (h1:keys≠[]:=by intro z;cases z) (h2:keys.length<=15:=by decide):QE X (.Dict keys values pos) (aaZ trs):=⟨YS h.h hall hl h1 h2⟩
theorem bG {CX:CXT}{k:Nat}{f:Addr}{fd:FuncData}{ps:List Str}{sp:Sp}{dvs:List V}{ds:List Value}{E:XK}{t:TA} (F:aZ X.prog X.w X.K X.mg X.base CX k f fd ps sp) (hr:jV k X.A) (hg:Gl X x) (hm:X.mg x=some (.ref f)) (hk:PySem.W.keepIn X.K (.ref f)=true) (hb:Binds X.K fd ps ds) (hd:Vals dvs ds) (hx:Passes CX X E)
 (ha:QA X (e::es) t) (hdb:(x==("__debug__":Str))=false) (he:starEach (e::es) X.env=(false,eval e X.env)::starEach es X.env:=by rfl) (hpl:(backTo pos (starEach es X.env)).any (·.1)=false:=by rfl):
 QE X (.Call (.Name x p) (e::es) [] pos) (QZ sp dvs E t):=⟨Yy F hr hg hm hk hb hd hx ha.h hdb he hpl⟩
theorem MP {CX:CXT}{k:Nat}{f:Addr}{fd:FuncData}{ps:List Str}{sp:Sp}{dvs:List V}{ds:List Value}{E:XK} (F:aZ X.prog X.w X.K X.mg X.base CX k f fd ps sp) (hr:jV k X.A) (hg:Gl X x) (hm:X.mg x=some (.ref f)) (hk:PySem.W.keepIn X.K (.ref f)=true) (hb:Binds X.K fd ps ds) (hd:Vals dvs ds) (hx:Passes CX X E)
 (hdb:(x==("__debug__":Str))=false):QE X (.Call (.Name x p) [] [] pos) (QZ sp dvs E Tu):=⟨Vb F hr hg hm hk hb hd hx hdb⟩
theorem bR {id:String}{r:List V->Hp->VK->Prop}{t:TA} (hc:sH X (.builtin id) r) (hg:Gl X x) (hm:X.mg x=none) (hv:bootBuiltins x=some (.builtin id)) (ha:QA X (e::es) t) (hn:x≠"__name__") (hdb:(x==("__debug__":Str))=false)
 (he:starEach (e::es) X.env=(false,eval e X.env)::starEach es X.env:=by rfl) (hpl:(backTo pos (starEach es X.env)).any (·.1)=false:=by rfl):QE X (.Call (.Name x p) (e::es) [] pos) (tCB r t):=⟨Ve hc.h hg hm hv ha.h hn hdb he hpl⟩
theorem lW {T:String}{r:List V->Hp->VK->Prop}{t:TA} (hc:sH X (.type T) r) (hg:Gl X x) (hm:X.mg x=none) (hv:bootBuiltins x=some (.type T)) (ha:QA X (e::es) t) (hn:x≠"__name__") (hdb:(x==("__debug__":Str))=false)
 (he:starEach (e::es) X.env=(false,eval e X.env)::starEach es X.env:=by rfl) (hpl:(backTo pos (starEach es X.env)).any (·.1)=false:=by rfl):QE X (.Call (.Name x p) (e::es) [] pos) (tCB r t):=⟨Tw hc.h hg hm hv ha.h hn hdb he hpl⟩
theorem Aq {o:Expr}{to:TE}{name:Str}{apos cpos:Pos}{T id:String}{r:V->List V->Hp->VK->Prop} (pa:PlainAttrs T) (slot:Slot T name id) (hty:typeOf (.builtin id)=pure (.type "method_descriptor")) (hm:QMt X id r) (ho:QE X o to)
 (hbase:attributeBase o name X.env (eval o X.env)=eval o X.env:=by rfl) (hline:(apos.endLine==cpos.line)=true:=by rfl):QE X (.Call (.Attribute o name apos) [] [] cpos) (afA X.K T r to):=⟨acw pa slot hty hm.h ho.h hbase hline⟩
theorem qb {o:Expr}{to:TE}{name:Str}{apos cpos:Pos}{T id:String}{r:V->List V->Hp->VK->Prop}{t:TA} (pa:PlainAttrs T) (slot:Slot T name id) (hty:typeOf (.builtin id)=pure (.type "method_descriptor")) (hm:QMt X id r) (ho:QE X o to) (ha:QA X (e::es) t)
 (hbase:attributeBase o name X.env (eval o X.env)=eval o X.env:=by rfl)
 (hfew:((backTo cpos (starEach (e::es) X.env)).all (fun x=> !x.1)&&(backToKw cpos (keywordEach [] X.env)).all (fun x=>x.1.isSome)
   &&decide ((e::es).length+([]:List Keyword).length+(if([]:List Keyword).isEmpty then 0 else 1)<30))=true:=by rfl)
 (hline:(apos.endLine==cpos.line)=true:=by rfl) (hs:starEach (e::es) X.env=(false,eval e X.env)::starEach es X.env:=by rfl) (hplain:(backTo cpos (starEach es X.env)).any (·.1)=false:=by rfl):
 QE X (.Call (.Attribute o name apos) (e::es) [] cpos) (tBM X.K T r to t):=⟨afB pa slot hty hm.h ho.h ha.h hbase hfew hline hs hplain⟩
theorem CG {n:Nat}{fr:List Nat}{N:List Str}{sc:Scope}{elt tg iter:Expr}{ifs:List Expr}{wi:TI}{g:TG}{tc:TT} (hc:X.calm=true) (S:Eu X n fr N sc) (hit:QI X tg iter wi)
 (hg:∀pins C s₀ H₀ fp,QG (lg X N sc pins C s₀ H₀ fp) tg g) (hi:∀pins C s₀ H₀ fp,acJ (lg X N sc pins C s₀ H₀ fp) ifs tc) (he:∀pins C s₀ H₀ fp,QE (lg X N sc pins C s₀ H₀ fp) elt te)
 (hs:∀x,foldedSetIterable iter X.env x=pure x:=by intro _;rfl):QE X (.ListComp elt [⟨tg,iter,ifs,0⟩] sc pos) (aa1 wi n fr g tc te):=
 ⟨YW hc S hit.h (fun a b c d e=>(hg a b c d e).h) (fun a b c d e=>(hi a b c d e).h) (fun a b c d e'=>(he a b c d e').h) hs⟩
theorem Py:acJ X [] aa0:=⟨Vp⟩
theorem Vz {t:TT} (h:QT X c t):acJ X [c] t:=⟨Vq h.h⟩
theorem zu {tg l:Expr}{tl:TE} (hl:QE X l tl):QI X tg l (aaQ X.K tl):=⟨Ys hl.h⟩
theorem J3 {tg:Expr}{t:TA} (hg:Gl X "range") (hm:X.mg "range"=none) (ha:QA X [a] t) (hs:starEach [a] X.env=[(false,eval a X.env)]:=by rfl):QI X tg (.Call (.Name "range" p) [a] [] pos) (aaR t):=⟨Td hg hm ha.h hs⟩
theorem sI {i:Nat} (hN:X.N.Nodup) (hi:X.N[i]? =some x) (hx:Loc X.env.scope x) (hf:X.fn x=true\/X.env.scope.names.lookup x=some .local:=by first | exact .inl rfl | exact .inr rfl | assumption):QG X (.Name x pos) (JP i):=⟨QK hN hi hx hf⟩
theorem qgx {i:Nat} (hN:X.N.Nodup) (hx:X.env.scope.names.lookup x=some .local) (hi:X.N[i]? =some x:=by rfl):QG X (.Name x pos) (JP i):=⟨pgx hN hx hi⟩
theorem G6:QGs X [] afj:=⟨Yq⟩
theorem pF {t:TG}{u:TGs} (h1:QG X e t) (h2:QGs X es u) (hs:(assignEach (e::es) X.env).map (·.2)=assign e X.env::(assignEach es X.env).map (·.2):=by rfl):QGs X (e::es) (aaO t u):=⟨U3 h1.h h2.h hs⟩
theorem Pz {k n:Nat}{t:TGs} (hc:X.calm=true) (h:QGs X es t) (hn:(assignEach es X.env).length=n:=by rfl) (hst:(assignEach es X.env).findIdx? (·.1)=none:=by rfl):QG X (.Tuple es k pos) (ab0 X.K n t):=⟨ab1 hc h.h hn hst⟩
theorem acK {tg:Expr}{g:TG} (he:QE X e te) (hg:QG X tg g) (hs:swapsWithSole [tg] e pos.line X.env=pure false:=by rfl) (hw:swappedStores [tg] e X.env=pure none:=by rfl)
 (h1:(assignEach [tg] X.env).map (·.2)=[assign tg X.env]:=by rfl):QS X (.Assign [tg] e pos) (Yr te g):=⟨ab2 he.h hg.h hs hw h1⟩
theorem bV {i:Nat}{pos':Pos} (hN:X.N.Nodup) (hi:X.N[i]? =some x) (hx:Loc X.env.scope x) (he:QE X e te) (hs:swapsWith e (some (.Name x pos')) pos.line X.env=pure false:=by rfl) (hf:X.fn x=true\/X.env.scope.names.lookup x=some .local:=by first | exact .inl rfl | exact .inr rfl | assumption):
 QS X (.Assign [.Name x pos'] e pos) (Yr te (JP i)):=⟨ab3 hN hi hx he.h hs hf⟩
theorem iy {o i v:Expr}{td ty tv:TE}{pos':Pos} (hu:X.A.units+1<cLine) (ho:QE X o td) (hi:QE X i ty) (hv:QE X v tv) (hs:swapsWith v (some (.Subscript o i pos')) pos.line X.env=pure false:=by rfl):QS X (.Assign [.Subscript o i pos'] v pos) (aaY td ty tv):=⟨YM hu ho.h hi.h hv.h hs⟩
theorem fQ (he:QE X e te) (hs:swapsWith e none pos.line X.env=pure false:=by rfl):QS X (.Expr e pos) (aaN te):=⟨Yp he.h hs⟩
theorem bF (he:QE X e te):QS X (.Return (some e) pos) (afg te):=⟨abZ he.h⟩
theorem YX:QS X (.Pass pos) QJ:=⟨Yo⟩
theorem MT:QS X (.Continue pos) aaM:=⟨Mq⟩
theorem cX {s1 s2:List Stmt}{t u:TS} (hc:QT X c tA) (ha:QSs X s1 t) (hb:QSs X s2 u):QS X (.If c s1 s2 pos) (afh tA t u):=⟨afi hc.h ha.h hb.h⟩
theorem HH {body:List Stmt}{tb:TS} (hp:PassesOwn (model X.prog X.w) X.A X.env X.xe) (hc:QT X c tA) (hb:QSs X body tb):QS X (.While c body [] pos) (U4 tA tb):=⟨U5 hp hc.h hb.h⟩
theorem HJ {tg iter:Expr}{body:List Stmt}{wi:TI}{g:TG}{tb:TS} (hp:PassesOwn (model X.prog X.w) X.A X.env X.xe) (hc:X.calm=true) (hi:QI X tg iter wi) (hg:QG X tg g) (hb:QSs X body tb)
 (hs:∀x,foldedSetIterable iter X.env x=pure x:=by intro _;rfl):QS X (.For tg iter body [] pos) (afk wi g tb):=⟨ab4 hp hc hi.h hg.h hb.h hs⟩
theorem bY:QSs X [] QJ:=⟨Ym⟩
theorem az {s:Stmt}{rest:List Stmt}{t u:TS} (h1:QS X s t) (h2:QSs X rest u):QSs X (s::rest) (afe t u):=⟨U0 h1.h h2.h⟩
theorem aA {s:Stmt}{t:TS} (h1:QS X s t):QSs X [s] t:=⟨Yn h1.h⟩
theorem jW:QOp X (binaryOp .Add) (rI0 fun i j=> .int (i+j)):=⟨ab6⟩
theorem jX:QOp X (binaryOp .Sub) (rI0 fun i j=> .int (i - j)):=⟨ab7⟩
theorem pC:QOp X (binaryOp .Mult) (rI qR fun i j=> .int (i * j)):=⟨ab8⟩
theorem lA:QOp X (binaryOp .Mod) (rI (fun _ j=>0<j) fun i j=> .int (i % j)):=⟨ab9⟩
theorem qY:QOp X (binaryOp .FloorDiv) (rI aa2 fun i j=> .int (i / j)):=⟨Vs⟩
theorem Ri:QOp X (binaryOp .Pow) (rI afp fun i j=> .int (i ^ j.toNat)):=⟨acd⟩
theorem vG:QOp X (binaryOp .Add) afD:=⟨acz⟩
theorem Rj:QUn X (unaryOp .USub) (rU fun i=> .int (-i)):=⟨ace⟩
theorem fU:QOp X (compareOp .Eq) rEq:=⟨afr⟩
theorem KY:QOp X (compareOp .NotEq) rNe:=⟨afs⟩
theorem VB:QOp X (compareOp .Lt) (rI0 fun i j=> .bl (decide (i<j))):=⟨aft⟩
theorem VD:QOp X (compareOp .Gt) (rI0 fun i j=> .bl (decide (j<i))):=⟨afu⟩
theorem Rk:QOp X (compareOp .Is) (fun x y H Q=>y= .non/\Q (.bl (decide (x= .non))) H):=⟨acf⟩
theorem xT:QOp X (compareOp .IsNot) (fun x y H Q=>y= .non/\Q (.bl (!decide (x= .non))) H):=⟨Yt⟩
theorem Av:QOp X (compareOp .In) (rIn X.K false):=⟨Tz⟩
theorem Jr:QOp X (compareOp .NotIn) (rIn X.K true):=⟨Kz⟩
theorem fV:QIx X (acr X.K):=⟨YG⟩
theorem bZ:QIx X (acs X.K):=⟨acu⟩
theorem qZ:QSl X (afz X.K):=⟨YH⟩
theorem iJ:QMt X "list.append" Q7:=⟨JV⟩
theorem Aw:QMt X "list.extend" Q8:=⟨TJ⟩
theorem vH:QMt X "list.pop" afC:=⟨acy⟩
theorem ie:sH X (.builtin "len") (fun xs H Q=>∃p ys,xs=[.ref p]/\(SqL X.K H p ys\/SqT X.K H p ys)/\Q (.int ys.length) H):=⟨KC⟩
theorem tD:sH X (.builtin "isinstance") (fun xs H Q=>∃x T t b,xs=[x, .ty T]/\qT X.K H x t/\PySem.W.kitOne X.K t (.type T)=some b/\Q (.bl b) H):=⟨Vv⟩
theorem Ro:sH X (.type "int") (fun xs H Q=>∃k,xs=[.bl k]/\Q (.int (if k then 1 else 0)) H):=⟨fun pins s σ H xs us Q I r h=>Tn pins s σ H xs us Q I r (.inr h)⟩
theorem Ax:sH X (.type "list") (fun xs H Q=>∃p ys,xs=[.ref p]/\(SqL X.K H p ys\/SqT X.K H p ys)/\∀l,H l=none->Q (.ref l) (upd H l (.lst ys))):=⟨KD⟩
theorem M3:sH X (.type "tuple") (fun xs H Q=>∃p ys,xs=[.ref p]/\SqL X.K H p ys/\∀l,H l=none->Q (.ref l) (upd H l (.tup ys))):=⟨fun pins s σ H xs us Q I r h=>Jp pins s σ H xs us Q I r (let ⟨p,ys,e,hs,q⟩:=h;⟨p,ys,e, .inl ⟨hs,q⟩⟩)⟩
theorem aY (b:Expr) {op:CmpOp} (h:op≠ .In:=by decide) (h2:op≠ .NotIn:=by decide):behindInMarks op b=false:=acg b h h2
theorem J4 {K:PySem.W.Frag} (e:X.K=K):QIx X (acr K):=e▸fV
theorem M4 {K:PySem.W.Frag} (e:X.K=K):QIx X (acs K):=e▸bZ
theorem M5 {K:PySem.W.Frag} (e:X.K=K):sH X (.builtin "len") (fun xs H Q=>∃p ys,xs=[.ref p]/\(SqL K H p ys\/SqT K H p ys)/\Q (.int ys.length) H):=e▸ie
end
theorem T4 {X:Cx} (hc:X.calm=true):sG X (.builtin "all") (fun xs H Q=>∃(p:Addr) (bs:List Bool),xs=[V.ref p]/\SqL X.K H p (bs.map V.bl)/\Q (.bl (bs.all id)) H):=by
 intro pins s σ H xs us Q I r h
 obtain⟨p,bs,rfl,hp,q⟩:=h
 obtain⟨u,rfl,ru⟩:=Vals.one r
 cases(show u=Value.ref p from ru)
 obtain⟨its,rv,pl,hz⟩:=I.list hp
 have hlt:p<s.heap.objs.size:=by obtain⟨o,n,e,_⟩:=pl;exact Heap.lt_size e
 have hlen:its.length=bs.length:=by rw[<-rv.length,List.length_map]
 refine call_all_walk (wpAny_pyIter_list pl.isList ?_)
 refine⟨s.heap.objs.size,_,_,its.toArray.size,(fun i v=>its.toArray[i]? =some v),_,(fun i=>bs.getD i false),rfl,Walks.list (A:=X.A.in1) (I.ok.hd hc) s.heap.objs.size p (Nat.ne_of_lt hlt) its.toArray,⟨⟨_,Heap.get?_push_size _ rfl,rfl,rfl⟩,pl.isList.push _⟩, ?_, ?_⟩
 ·intro i v s' Q' E' hv hq
  have hi:i<bs.length:=by
   rw[<-hlen]
   have:=(Array.getElem?_eq_some_iff.mp hv).1
   simpa using this
  obtain⟨u,hu,ru⟩:=rv.get (i:=i) (x:=V.bl bs[i]) (by rw[List.getElem?_map,List.getElem?_eq_getElem hi];rfl)
  have hv':its[i]? =some v:=by simpa using hv
  rw[hu] at hv'
  cases hv'
  cases(show v=Value.bool _ from ru)
  refine wpAny_truthy_bool ?_
  have e:bs.getD i false=bs[i]:=by rw[List.getD_eq_getElem?_getD,List.getElem?_eq_getElem hi];rfl
  have hq':Q' (bs.getD i false) s':=hq
  rw[e] at hq'
  exact hq'
 ·intro h' tk hk
  have e:(List.range its.toArray.size).all (fun i=>bs.getD i false)=bs.all id:=by
   rw[List.size_toArray,hlen]
   rw[Bool.eq_iff_iff,List.all_eq_true,List.all_eq_true]
   constructor
   ·intro h b hb
    obtain⟨i,hi,rfl⟩:=List.mem_iff_getElem.mp hb
    have:=h i (List.mem_range.mpr hi)
    rw[List.getD_eq_getElem?_getD,List.getElem?_eq_getElem hi] at this
    exact this
   ·intro h i hi
    have hi':=List.mem_range.mp hi
    rw[List.getD_eq_getElem?_getD,List.getElem?_eq_getElem hi']
    exact h _ (List.getElem_mem hi')
  rw[e]
  refine⟨.bl _,H,I.kept (t':=tk) fun b o eb=>hk b o ?_ (Heap.get?_push_of_some _ eb),rfl,q⟩
  intro z
  have:b=s.heap.objs.size:=by simpa using z
  exact absurd (Heap.lt_size eb) (by rw[this];exact Nat.lt_irrefl _)
section
variable {X:Cx}{a b c e:Expr}{ta tb tc te:TE}{pos:Pos}
theorem YZ (hc:X.calm=true):sH X (.builtin "all") (fun xs H Q=>∃(p:Addr) (bs:List Bool),xs=[V.ref p]/\SqL X.K H p (bs.map V.bl)/\Q (.bl (bs.all id)) H):=⟨T4 hc⟩
end
end L2
namespace RB
open PySem L2 PySem.Spec PyProof.Rows
def But (S:List Addr) (H H':Hp):Prop:=∀b o,b∉S->H b=some o->H' b=some o
theorem But.refl (S:List Addr) (H:Hp):But S H H:=fun _ _ _ h=>h
theorem But.trans {S:List Addr}{H H1 H2:Hp} (a:But S H H1) (b:But S H1 H2):But S H H2:=fun c o n h=>b c o n (a c o n h)
theorem But.mono {S S':List Addr}{H H':Hp} (a:But S H H') (h:∀b∈S,b∈S'):But S' H H':=fun c o n q=>a c o (fun z=>n (h c z)) q
theorem But.new {S:List Addr}{H:Hp}{p:Addr} (o:HO) (h:H p=none):But S H (upd H p o):=fun b u _ q=>by rw[ao (aH q h)];exact q
theorem But.set {S:List Addr}{H:Hp}{p:Addr} (o:HO) (h:p∈S):But S H (upd H p o):=fun b u n q=>by rw[ao (show b≠p from fun e=>n (by rw[e];exact h))];exact q
theorem But.of_same {S:List Addr}{H H':Hp} (h:aQ H H'):But S H H':=fun b o _ q=>h b o q
theorem au {H:Hp}{p:Addr} (o:HO) (h:H p=none):aQ H (upd H p o):=fun b u q=>by rw[ao (aH q h)];exact q
def jg (H H':Hp):Prop:=∀b xs,H b=some (.tup xs)->H' b=some (.tup xs)
theorem aQ.tups {H H':Hp} (h:aQ H H'):jg H H':=fun b xs q=>h b _ q
inductive Op where | plus | minus | times | most
 deriving DecidableEq
def Op.word:Op->Str
 | .plus=>"plus" | .minus=>"minus" | .times=>"times" | .most=>"most"
inductive R where
 | num (n:Int) | rd (x:Str) | bin (op:Op) (a b:R) | pick (a b c:R) | cho (a:R) (ns:List Str)
def R.depth:R->Nat
 | .num _=>1
 | .rd _=>1
 | .bin _ a b=>max a.depth b.depth+1
 | .pick a b c=>max a.depth (max b.depth c.depth)+1
 | .cho a _=>a.depth+1
def Ka (c:Nat):Prop:=97<=c/\c<=122
def oG (x:Str):Prop:=1<=x.length/\x.length<=8/\∀c∈x.cps.toList,Ka c
def R.Good:R->Prop
 | .num n=>n.natAbs<10 ^ 40
 | .rd x=>oG x
 | .bin _ a b=>a.Good/\b.Good
 | .pick a b c=>a.Good/\b.Good/\c.Good
 | .cho a ns=>a.Good/\1<=ns.length/\ns.length<=9/\∀x∈ns,oG x
inductive IsR (H:Hp):Addr->R->Prop where
 | num {a:Addr}{n:Int} (e:H a=some (.tup [.str "number", .int n])):IsR H a (.num n)
 | rd {a:Addr}{x:Str} (e:H a=some (.tup [.str "read", .str x])):IsR H a (.rd x)
 | bin {a b c:Addr}{op:Op}{r s:R} (e:H a=some (.tup [.str op.word, .ref b, .ref c])) (h1:IsR H b r) (h2:IsR H c s):IsR H a (.bin op r s)
 | pick {a b c d:Addr}{r s t:R} (e:H a=some (.tup [.str "pick", .ref b, .ref c, .ref d])) (h1:IsR H b r) (h2:IsR H c s) (h3:IsR H d t):IsR H a (.pick r s t)
 | cho {a b c:Addr}{r:R}{ns:List Str} (e:H a=some (.tup [.str "choose", .ref b, .ref c])) (h1:IsR H b r) (h2:H c=some (.tup (ns.map V.str))):IsR H a (.cho r ns)
theorem IsR.tups {H H':Hp} (t:jg H H') {a:Addr}{r:R} (h:IsR H a r):IsR H' a r:=by
 induction h with
 | num e=>exact .num (t _ _ e)
 | rd e=>exact .rd (t _ _ e)
 | bin e _ _ i1 i2=>exact .bin (t _ _ e) i1 i2
 | pick e _ _ _ i1 i2 i3=>exact .pick (t _ _ e) i1 i2 i3
 | cho e _ h2 i1=>exact .cho (t _ _ e) i1 (t _ _ h2)
theorem IsR.same {H H':Hp} (t:aQ H H') {a:Addr}{r:R} (h:IsR H a r):IsR H' a r:=h.tups (aQ.tups t)
def Rp (K:PySem.W.Frag):Sp:=fun vs H Q _=>∃(a:Addr) (ns:List Int),vs=[.ref a]/\SqL K H a (ns.map V.int)/\ns.length<=63/\∀H',Q (.bl true) H'
structure FnT (K:PySem.W.Frag) (mg:Str->Option Value) (x:Str) (st:Stmt) (ps:List Str) (f:Addr) (fd:FuncData):Prop where
 F:Fun K x x st f fd
 b:Binds K fd ps []
 m:mg x=some (.ref f)
structure Blt (mg:Str->Option Value):Prop where
 wI:mg "len"=none
 Rq:mg "range"=none
 aa4:mg "str"=none
 Rr:mg "int"=none
 Ay:mg "list"=none
 KZ:mg "tuple"=none
 cg:mg "isinstance"=none
 VF:mg "bool"=none
 VG:mg "dict"=none
 alf:mg "sum"=none
 afI:mg "all"=none
 alg:mg "any"=none
 aa5:mg "max"=none
 afJ:mg "min"=none
 afK:mg "sorted"=none
 alh:mg "set"=none
 M6:mg "enumerate"=none
 afL:mg "zip"=none
 acL:mg "reversed"=none
 ali:mg "abs"=none
theorem afM {xs:List Int}{i:Int} (h0:0<=i) (h1:i<((xs.map V.int).length:Int)):∃v j,atI (xs.map V.int) i=some (.int v)/\ixN (xs.map V.int).length i=some j/\j<xs.length/\∀u:Int,(xs.map V.int).set j (.int u)=(xs.set j u).map V.int:=by
 have hl:(xs.map V.int).length=xs.length:=List.length_map _
 obtain⟨j,rfl⟩:=Int.eq_ofNat_of_zero_le h0
 have hj:j<xs.length:=by omega
 refine⟨xs[j],j,mV (by rw[List.getElem?_map,List.getElem?_eq_getElem hj];rfl), ?_,hj,fun u=> ?_⟩
 ·unfold ixN
  rw[if_pos h0,if_pos (by omega)]
  simp
 ·rw[List.map_set]
theorem But.upd {S:List Addr}{H H':Hp}{p:Addr} (b:But S H H') (o:HO) (h:H p=none):But S H (upd H' p o):=fun c u n q=>by
 rw[ao (aH q h)];exact b c u n q
theorem afN {c A B:Prop} [Decidable c] (hc:c) (h:A):if decide c=true then A else B:=by rw[if_pos (decide_eq_true hc)];exact h
theorem afO {c A B:Prop} [Decidable c] (hc:¬c) (h:B):if decide c=true then A else B:=by rw[if_neg (by simpa using hc)];exact h
theorem afP {c A B:Prop} [Decidable c] (hc:¬c) (h:A):if(!decide c)=true then A else B:=by rw[if_pos (by simpa using hc)];exact h
theorem never {P:Program}{w:World}{K:PySem.W.Frag}{mg:Str->Option Value}{base:Heap}{k:Nat}{f:Addr}{fd:FuncData}{ps:List Str}{sp:Sp} (no:∀vs H Q E,¬sp vs H Q E):aZ P w K mg base CX0 k f fd ps sp:=
 ⟨fun vs H Q E h=>absurd h (no vs H Q E),fun A outer s H args us vs Q E _ _ _ _ h=>absurd h (no vs H Q E)⟩
theorem shaped_ints (ns:List Int):SeqAt.shaped (.list (ns.map PyData.int))=true:=by
 simp[SeqAt.shaped,PyData.canLay0,PyData.canLayAll0,PyData.depth,PyData.depthAll,PySem.W.ke_canLayAll0,PySem.W.ke_depthAll]
theorem CJ {H:Hp}{p:Addr}{xs:List V} (o:HO) (h:H p=some (.lst xs)):jg H (upd H p o):=fun b ys q=>by
 rw[ao (aaJ q h (by intro z;cases z))];exact q
theorem oU {H H':Hp}{p:Addr} (o:HO) (h:H p=none) (s:aQ H H'):aQ H (upd H' p o):=fun b u q=>by
 rw[ao (aH q h)];exact s b u q
inductive Th where
 | non | bl (b:Bool) | int (i:Int) | str (x:Str) | tup (xs:List Th) | oth (T:String)
mutual
inductive qF (K:PySem.W.Frag) (H:Hp):V->Th->Prop where
 | non:qF K H .non .non
 | bl (b:Bool):qF K H (.bl b) (.bl b)
 | int (i:Int):qF K H (.int i) (.int i)
 | str (x:Str):qF K H (.str x) (.str x)
 | tup {a:Addr}{vs:List V}{ts:List Th} (e:H a=some (.tup vs)) (h:oH K H vs ts):qF K H (.ref a) (.tup ts)
 | oth {a:Addr}{T:String} (h:qT K H (.ref a) (.type T)) (hT:T="list"\/T="dict") (keep:∀H',aQ H H'->qT K H' (.ref a) (.type T)):qF K H (.ref a) (.oth T)
inductive oH (K:PySem.W.Frag) (H:Hp):List V->List Th->Prop where
 | nil:oH K H [] []
 | cons {v:V}{t:Th}{vs:List V}{ts:List Th} (h:qF K H v t) (r:oH K H vs ts):oH K H (v::vs) (t::ts)
end
mutual
theorem qF.same {K:PySem.W.Frag}{H H':Hp} (s:aQ H H'):∀{v:V}{t:Th},qF K H v t->qF K H' v t
 | _,_, .non=> .non
 | _,_, .bl b=> .bl b
 | _,_, .int i=> .int i
 | _,_, .str x=> .str x
 | _,_, .tup e h=> .tup (s _ _ e) (oH.same s h)
 | _,_, .oth h hT k=> .oth (k _ s) hT fun H2 s2=>k _ (s.trans s2)
theorem oH.same {K:PySem.W.Frag}{H H':Hp} (s:aQ H H'):∀{vs:List V}{ts:List Th},oH K H vs ts->oH K H' vs ts
 | _,_, .nil=> .nil
 | _,_, .cons h r=> .cons (qF.same s h) (oH.same s r)
end
theorem oH.length {K:PySem.W.Frag}{H:Hp}:∀{vs:List V}{ts:List Th},oH K H vs ts->vs.length=ts.length
 | _,_, .nil=>rfl
 | _,_, .cons _ r=>congrArg (· +1) (oH.length r)
theorem oH.get {K:PySem.W.Frag}{H:Hp}:∀{vs:List V}{ts:List Th}{i:Nat}{v:V},oH K H vs ts->vs[i]? =some v->∃t,ts[i]? =some t/\qF K H v t
 | _,_,_,_, .nil,e=>by simp at e
 | _,_,0,_, .cons h _,e=>by simp at e;subst e;exact⟨_,rfl,h⟩
 | _,_,i+1,v, .cons _ r,e=>by
   obtain⟨t,h1,h2⟩:=oH.get (i:=i) (v:=v) r (by simpa using e)
   exact⟨t,by simpa using h1,h2⟩
def M7:Th->String
 | .non=>"NoneType" | .bl _=>"bool" | .int _=>"int" | .str _=>"str" | .tup _=>"tuple" | .oth T=>T
theorem qF.ty {K:PySem.W.Frag}{H:Hp}{v:V}{t:Th} (h:qF K H v t):qT K H v (.type (M7 t)):=by
 cases h with
 | non=>exact .non
 | bl b=>exact .bl b
 | int i=>exact .int i
 | str x=>exact .str x
 | tup e _=>exact .tup e
 | oth h _ _=>exact h
def tys:List String:=["NoneType","bool","int","str","tuple","list","dict"]
def VH (t c:String):Bool:=t==c||(t=="bool"&&c=="int")
def Kinds (K:PySem.W.Frag):Prop:=∀t∈tys,∀c∈tys,PySem.W.kitOne K (.type t) (.type c)=some (VH t c)
theorem VJ {K:PySem.W.Frag} (h:(tys.all fun t=>tys.all fun c=>PySem.W.kitOne K (.type t) (.type c)==some (VH t c))=true):Kinds K:=fun t ht c hc=>by
 have h1:=List.all_eq_true.mp h t ht
 have h2:=List.all_eq_true.mp h1 c hc
 exact eq_of_beq h2
theorem acM {K:PySem.W.Frag}{H:Hp}{v:V}{t:Th} (h:qF K H v t):M7 t∈tys:=by
 cases h with
 | oth _ hT _=>rcases hT with rfl | rfl<;>simp[M7,tys]
 | _=>simp[M7,tys]
theorem qF.isi {K:PySem.W.Frag}{H:Hp}{v:V}{t:Th} (h:qF K H v t) (k:Kinds K) {c:String} (hc:c∈tys):PySem.W.kitOne K (.type (M7 t)) (.type c)=some (VH (M7 t) c):=k _ (acM h) _ hc
def acN:Th->Bool
 | .int _=>true
 | _=>false
def K1 (K:PySem.W.Frag):Sp:=fun vs H Q _=>∃v t,vs=[v]/\qF K H v t/\Q (.bl (acN t)) H
theorem afQ {b:Bool}{A B:Prop} (h:b=true) (hA:A):if b=true then A else B:=by rw[if_pos h];exact hA
theorem afR {b:Bool}{A B:Prop} (h:b=false) (hB:B):if b=true then A else B:=by rw[if_neg (by rw[h];exact Bool.false_ne_true)];exact hB
structure Wr (p:Prop):Prop where
 h:p
def R.gB:R->Th
 | .num n=> .tup [.str "number", .int n]
 | .rd x=> .tup [.str "read", .str x]
 | .bin op a b=> .tup [.str op.word,a.gB,b.gB]
 | .pick a b c=> .tup [.str "pick",a.gB,b.gB,c.gB]
 | .cho a ns=> .tup [.str "choose",a.gB, .tup (ns.map Th.str)]
def R.HN:R->Prop
 | .num _=>True
 | .rd x=>x.length<=8/\∀c∈x.cps.toList,c<128
 | .bin _ a b=>a.HN/\b.HN
 | .pick a b c=>a.HN/\b.HN/\c.HN
 | .cho a ns=>a.HN/\1<=ns.length/\ns.length<=9/\∀x∈ns,oG x
theorem HQ {K:PySem.W.Frag}{H:Hp}:∀ns:List Str,oH K H (ns.map V.str) (ns.map Th.str)
 |[]=> .nil
 | x::r=> .cons (.str x) (HQ r)
theorem IsR.afS {K:PySem.W.Frag}{H:Hp}{a:Addr}{r:R} (h:IsR H a r):qF K H (.ref a) r.gB:=by
 induction h with
 | num e=>exact .tup e (.cons (.str _) (.cons (.int _) .nil))
 | rd e=>exact .tup e (.cons (.str _) (.cons (.str _) .nil))
 | bin e _ _ i1 i2=>exact .tup e (.cons (.str _) (.cons i1 (.cons i2 .nil)))
 | pick e _ _ _ i1 i2 i3=>exact .tup e (.cons (.str _) (.cons i1 (.cons i2 (.cons i3 .nil))))
 | cho e _ h2 i1=>exact .tup e (.cons (.str _) (.cons i1 (.cons (.tup h2 (HQ _)) .nil)))
end RB
namespace L2
open PySem PySem.Spec PyProof.Rows
theorem Fun.okQ {P:Program}{w:World}{K:PySem.W.Frag}{mg:Str->Option Value}{base:Heap}{x qual:Str}{st:Stmt}{f:Addr}{fd:FuncData}{N ps:List Str}{k:Nat}{sp:Sp} (F:Fun K x qual st f fd) (S:bU N ps (aj st)) (len:∀vs H Q E,sp vs H Q E->vs.length=ps.length)
 (hbody:∀(cdv:Value) (A:Around) (outer:List Env) (s:Shared) (H:Hp) (vs:List V) (Q:VK) (E:XK),jV k (A.deeper (envOfC qual (aj st) s.heap.objs.size f cdv))->sp vs H Q E->
   ∃t,QSs (kY CX0 P w K mg base N qual (aj st) f cdv A outer s H E).nox (bC st) t/\t {nx:=fun _ H'=>Q .non H',rt:=Q} (start N vs) H):aZ P w K mg base CX0 (k+1) f fd ps sp:=
 F.ok S len fun cdv A outer s H vs Q E hr hsp=>let ⟨t,a,b⟩:=hbody cdv A outer s H vs Q E hr hsp;⟨t,a.h,b⟩
end L2
namespace RB
open PySem L2 PySem.Spec PyProof.Rows
theorem acO (value:Const) (k:Nat) (p:Pos) (es:List Expr) (env:Env):starEach (.Constant value k p::es) env=(false,eval (.Constant value k p) env)::starEach es env:=rfl
theorem d9 {X:Cx}{value:Const}{k:Nat}{p:Pos}{es:List Expr}{te:TE}{t:TA} (ha:QE X (.Constant value k p) te) (hr:QA X es t):QA X (.Constant value k p::es) (qU te t):=lU ha hr (acO value k p _ _)
theorem acP (x:Str) (p:Pos) (es:List Expr) (env:Env):starEach (.Name x p::es) env=(false,eval (.Name x p) env)::starEach es env:=rfl
theorem aK {X:Cx}{x:Str}{p:Pos}{es:List Expr}{te:TE}{t:TA} (ha:QE X (.Name x p) te) (hr:QA X es t):QA X (.Name x p::es) (qU te t):=lU ha hr (acP x p _ _)
theorem acQ (a:Expr) (op:Operator) (b:Expr) (p:Pos) (es:List Expr) (env:Env):starEach (.BinOp a op b p::es) env=(false,eval (.BinOp a op b p) env)::starEach es env:=rfl
theorem Az {X:Cx}{a:Expr}{op:Operator}{b:Expr}{p:Pos}{es:List Expr}{te:TE}{t:TA} (ha:QE X (.BinOp a op b p) te) (hr:QA X es t):QA X (.BinOp a op b p::es) (qU te t):=lU ha hr (acQ a op b p _ _)
theorem acR (op:UnaryOp) (a:Expr) (p:Pos) (es:List Expr) (env:Env):starEach (.UnaryOp op a p::es) env=(false,eval (.UnaryOp op a p) env)::starEach es env:=rfl
theorem ajb {X:Cx}{op:UnaryOp}{a:Expr}{p:Pos}{es:List Expr}{te:TE}{t:TA} (ha:QE X (.UnaryOp op a p) te) (hr:QA X es t):QA X (.UnaryOp op a p::es) (qU te t):=lU ha hr (acR op a p _ _)
theorem acS (a:Expr) (ops:List CmpOp) (cs:List Expr) (p:Pos) (es:List Expr) (env:Env):starEach (.Compare a ops cs p::es) env=(false,eval (.Compare a ops cs p) env)::starEach es env:=rfl
theorem afT {X:Cx}{a:Expr}{ops:List CmpOp}{cs:List Expr}{p:Pos}{es:List Expr}{te:TE}{t:TA} (ha:QE X (.Compare a ops cs p) te) (hr:QA X es t):QA X (.Compare a ops cs p::es) (qU te t):=lU ha hr (acS a ops cs p _ _)
theorem acT (xs:List Expr) (k:Nat) (p:Pos) (es:List Expr) (env:Env):starEach (.Tuple xs k p::es) env=(false,eval (.Tuple xs k p) env)::starEach es env:=rfl
theorem K3 {X:Cx}{xs:List Expr}{k:Nat}{p:Pos}{es:List Expr}{te:TE}{t:TA} (ha:QE X (.Tuple xs k p) te) (hr:QA X es t):QA X (.Tuple xs k p::es) (qU te t):=lU ha hr (acT xs k p _ _)
theorem acU (xs:List Expr) (p:Pos) (es:List Expr) (env:Env):starEach (.List xs p::es) env=(false,eval (.List xs p) env)::starEach es env:=rfl
theorem PB {X:Cx}{xs:List Expr}{p:Pos}{es:List Expr}{te:TE}{t:TA} (ha:QE X (.List xs p) te) (hr:QA X es t):QA X (.List xs p::es) (qU te t):=lU ha hr (acU xs p _ _)
theorem acV (ks:List (Option Expr)) (xs:List Expr) (p:Pos) (es:List Expr) (env:Env):starEach (.Dict ks xs p::es) env=(false,eval (.Dict ks xs p) env)::starEach es env:=rfl
theorem afU {X:Cx}{ks:List (Option Expr)}{xs:List Expr}{p:Pos}{es:List Expr}{te:TE}{t:TA} (ha:QE X (.Dict ks xs p) te) (hr:QA X es t):QA X (.Dict ks xs p::es) (qU te t):=lU ha hr (acV ks xs p _ _)
theorem acW (a b:Expr) (p:Pos) (es:List Expr) (env:Env):starEach (.Subscript a b p::es) env=(false,eval (.Subscript a b p) env)::starEach es env:=rfl
theorem lq {X:Cx}{a b:Expr}{p:Pos}{es:List Expr}{te:TE}{t:TA} (ha:QE X (.Subscript a b p) te) (hr:QA X es t):QA X (.Subscript a b p::es) (qU te t):=lU ha hr (acW a b p _ _)
theorem acX (f:Expr) (xs:List Expr) (ks:List Keyword) (p:Pos) (es:List Expr) (env:Env):starEach (.Call f xs ks p::es) env=(false,eval (.Call f xs ks p) env)::starEach es env:=rfl
theorem tE {X:Cx}{f:Expr}{xs:List Expr}{ks:List Keyword}{p:Pos}{es:List Expr}{te:TE}{t:TA} (ha:QE X (.Call f xs ks p) te) (hr:QA X es t):QA X (.Call f xs ks p::es) (qU te t):=lU ha hr (acX f xs ks p _ _)
theorem acY (a b c:Expr) (p:Pos) (es:List Expr) (env:Env):starEach (.IfExp a b c p::es) env=(false,eval (.IfExp a b c p) env)::starEach es env:=rfl
theorem ajc {X:Cx}{a b c:Expr}{p:Pos}{es:List Expr}{te:TE}{t:TA} (ha:QE X (.IfExp a b c p) te) (hr:QA X es t):QA X (.IfExp a b c p::es) (qU te t):=lU ha hr (acY a b c p _ _)
theorem acZ (e:Expr) (gs:List Comprehension) (sc:Scope) (p:Pos) (es:List Expr) (env:Env):starEach (.ListComp e gs sc p::es) env=(false,eval (.ListComp e gs sc p) env)::starEach es env:=rfl
theorem ac0 {X:Cx}{e:Expr}{gs:List Comprehension}{sc:Scope}{p:Pos}{es:List Expr}{te:TE}{t:TA} (ha:QE X (.ListComp e gs sc p) te) (hr:QA X es t):QA X (.ListComp e gs sc p::es) (qU te t):=lU ha hr (acZ e gs sc p _ _)
theorem ac1 (e:Expr) (x:Str) (p:Pos) (es:List Expr) (env:Env):starEach (.Attribute e x p::es) env=(false,eval (.Attribute e x p) env)::starEach es env:=rfl
theorem PJ {X:Cx}{e:Expr}{x:Str}{p:Pos}{es:List Expr}{te:TE}{t:TA} (ha:QE X (.Attribute e x p) te) (hr:QA X es t):QA X (.Attribute e x p::es) (qU te t):=lU ha hr (ac1 e x p _ _)
end RB
namespace L2
open PySem PySem.Spec PyProof.Rows
section
variable {X:Cx}{pins:List (Addr×Obj)}{σ:L2.St}{H:Hp}{s:Shared}
end
section
variable {X:Cx}{o e value:Expr}{es:List Expr}{f m:Str}{pos pos' apos:Pos}{ta tv:TE}{t:TA}{C fa:Addr}{CX:CXT}{k:Nat}{fd:FuncData}{ps:List Str}{sp:Sp}{dvs:List V}{ds:List Value}{E:XK}
theorem cF (he:QE X e ta) (hb:attributeBase e f X.env (eval e X.env)=eval e X.env:=by rfl):QE X (.Attribute e f pos) (acj X.K ta f):=⟨ack he.h hb⟩
theorem mz (ha:QE X o ta) (hv:QE X value tv) (hs:swapsWith value (some (.Attribute o f pos')) pos.line X.env=pure false:=by rfl):QS X (.Assign [.Attribute o f pos'] value pos) (afv X.K ta tv f):=⟨acn ha.h hv.h hs⟩
theorem qG {pl:Sem Bool} (he:QE X o ta) (c:Cls X.K C) (hm:Meth X.K C m fa) (F:aZ X.prog X.w X.K X.mg X.base CX k fa fd ps sp) (hr:jV k X.A) (hb:Binds X.K fd ps ds) (hd:Vals dvs ds) (hx:Passes CX X E) (ha:QA X (e::es) t)
 (hst:starEach (e::es) X.env=(false,eval e X.env)::starEach es X.env:=by rfl) (hpl:(backTo pos (starEach es X.env)).any (·.1)=false:=by rfl)
 (ht:eval (.Call (.Attribute o m apos) (e::es) [] pos) X.env=(do
   let ov <-eval o X.env
   standAt apos.atName
   let (f,first) <-holding [ov] (getMethod ov m pl)
   callWith pos f first (backTo pos (starEach (e::es) X.env)) (backToKw pos (keywordEach [] X.env))):=by rfl):
 QE X (.Call (.Attribute o m apos) (e::es) [] pos) (Q0 C m sp dvs E ta t):=⟨Yz he.h c hm F hr hb hd hx ha.h hst hpl ht⟩
theorem HR {pl:Sem Bool} (he:QE X o ta) (c:Cls X.K C) (hm:Meth X.K C m fa) (F:aZ X.prog X.w X.K X.mg X.base CX k fa fd ps sp) (hr:jV k X.A) (hb:Binds X.K fd ps ds) (hd:Vals dvs ds) (hx:Passes CX X E)
 (ht:eval (.Call (.Attribute o m apos) [] [] pos) X.env=(do
   let ov <-eval o X.env
   standAt apos.atName
   let (f,first) <-holding [ov] (getMethod ov m pl)
   callWith pos f first (backTo pos (starEach [] X.env)) (backToKw pos (keywordEach [] X.env))):=by rfl):
 QE X (.Call (.Attribute o m apos) [] [] pos) (Q0 C m sp dvs E ta Tu):=⟨Vc he.h c hm F hr hb hd hx ht⟩
theorem CP {x:Str}{p:Pos} (M:Mk X.K C fa) (F:aZ X.prog X.w X.K X.mg X.base CX k fa fd ps sp) (hr:jV (k+1) X.A) (hg:Gl X x) (hm:X.mg x=some (.ref C)) (hb:Binds X.K fd ps ds) (hd:Vals dvs ds) (hx:Passes CX X E)
 (ha:QA X (e::es) t) (hdb:(x==("__debug__":Str))=false:=by decide) (he:starEach (e::es) X.env=(false,eval e X.env)::starEach es X.env:=by rfl) (hpl:(backTo pos (starEach es X.env)).any (·.1)=false:=by rfl):
 QE X (.Call (.Name x p) (e::es) [] pos) (aaT C sp dvs E t):=⟨YB M F hr hg hm hb hd hx ha.h hdb he hpl⟩
end
theorem d8.some {P:Program}{w:World}{H:Hp}{h:Heap}{a:Addr}{o:HO} (x:d8 P w H h a o):∃u,h.get? a=Option.some u:=by
 cases o with
 | lst xs=>obtain⟨_,_,_,_,e⟩:=x;exact⟨_,e⟩
 | tup xs=>obtain⟨_,_,_,_,e,_⟩:=x;exact⟨_,e⟩
 | dK kvs=>obtain⟨_,_,_,_,o,_,_,e,_⟩:=x;exact⟨_,e⟩
 | dT kvs=>obtain⟨_,_,_,_,o,_,_,e,_⟩:=x;exact⟨_,e⟩
 | set S n=>obtain⟨o,_,_,_,e,_⟩:=x;exact⟨_,e⟩
 | ins C dx fs=>obtain⟨_,_,_,e,_⟩:=x;exact⟨_,e⟩
 | own y=>exact x
 | xd fs=>obtain⟨_,⟨_,_,_,e,_⟩,_⟩:=x;exact⟨_,e⟩
 | rng lo hi=>obtain⟨_,_,_,e⟩:=x;exact⟨_,e⟩
 | frz ob u=>obtain⟨e,_⟩:=x;exact⟨_,e⟩
 | tbl ps=>exact⟨_,show h.get? a=Option.some _ from x⟩
 | met f y=>exact⟨_,show h.get? a=Option.some _ from x⟩
 | ext φ=>obtain⟨_,e,_⟩:=x;exact e
def Holds (F:List Addr) (H':Hp) (h h1 B:Heap):Prop:=∀b o,h1.get? b=some o->b∉F->((∃o0,h.get? b=some o0)\/(H' b).isSome=true)->B.get? b=some o
theorem afV {F:List Addr}{H H':Hp}{h h1 h2 B:Heap} (u:Un F [] H H' h h1) (hF:∀b∈F,∃o,h.get? b=some o/\H b=none/\∀vs,o.data≠ .fields vs) (st:B.StaysIn h2) (up:h1.UpToSlots h2) (kc:Holds F H' h h1 B):Un F [] H H' h h2 where
 keep:=fun b o q n hb hx=>st b o (kc b o (u.keep b o q n hb hx) hb (.inl ⟨o,q⟩))
 slot:=fun b o q n hb hx=>by
  obtain⟨sl,e⟩:=u.slot b o q n hb hx
  obtain⟨o',q',_,d⟩:=hF b hb
  rw[q] at q';cases q'
  obtain⟨sl2,e2⟩:=up b _ e d
  exact⟨sl2,e2⟩
 free:=u.free
 there:=fun b o q hx=>by
  by_cases hb:b∈F
  ·obtain⟨o',q',n,d⟩:=hF b hb
   rw[q] at q';cases q'
   obtain⟨sl,e⟩:=u.slot b o q n hb hx
   obtain⟨sl2,e2⟩:=up b _ e d
   exact⟨_,e2⟩
  ·obtain⟨o',e⟩:=u.there b o q hx
   exact⟨o',st b o' (kc b o' e hb (.inl ⟨o,q⟩))⟩
 tups:=u.tups
 frzs:=u.frzs
 tbls:=u.tbls
theorem ac2 {P:Program}{w:World}{F:List Addr}{H':Hp}{h h1 h2 B:Heap} (ok:HOk P w H' h1) (hF:∀b∈F,H' b=none) (st:B.StaysIn h2) (kc:Holds F H' h h1 B):HOk P w H' h2:=fun b o q=>
 (ok b o q).stay (fun c v hc r=>by
   have hs:(H' c).isSome=true:=by
    rcases hc with rfl | hc
    ·rw[q];rfl
    ·rw[hc];rfl
   exact st c v (kc c v r (fun hm=>by rw[hF c hm] at hs;cases hs) (.inr hs))) (fun _ z=>z) fun _ _ z=>z
section
variable {X:Cx}{pins:List (Addr×Obj)}{σ:St}{H H':Hp}{s s':Shared}{a:Addr}{cls:Value}
theorem Inv.frm (I:Inv X pins σ H s):∀b∈frs X.stack,∃o,s.heap.get? b=some o/\H b=none/\∀vs,o.data≠ .fields vs:=fun b hb=>by
 obtain⟨_,o,ho,hd⟩:=I.stack.mem hb
 exact⟨o,ho,I.Kv b hb,hd⟩
theorem Inv.landed (I:Inv X pins σ H s) (os:s'.os=s.os) (bare:AllBare s'.gens) (un:Un (frs X.stack) [] H H' s.heap s'.heap) (hok:HOk X.prog X.w H' s'.heap) {B h2:Heap} (kc:Holds (frs X.stack) H' s.heap s'.heap B) (st:B.StaysIn h2) (up:s'.heap.UpToSlots h2):
 Inv X pins σ H' {s' with heap:=h2}:=by
 have hF:=I.frm
 refine I.call' (ch:=[]) (s':={s' with heap:=h2}) os (afV un hF st up kc) (ac2 hok (fun b hb=> ?_) st kc) bare fun b z=>absurd z (by simp)
 obtain⟨o,q,n,_⟩:=hF b hb
 exact un.free b o q n (by simp)
theorem M8 {F:List Addr}{B h1 h2:Heap}{h:Heap} (u:Un F [] H H' h h1) (hok:HOk X.prog X.w H' h1) (st:B.StaysIn h2) (kc:Holds F H' h h1 B):Holds F H' h h2 B:=fun b o q nb hb=>by
 obtain⟨o1,q1⟩:∃o1,h1.get? b=some o1:=by
  rcases hb with⟨o0,z⟩ | z
  ·exact u.there b o0 z (by simp)
  ·obtain⟨v,hv⟩:=Option.isSome_iff_exists.mp z
   exact(hok b v hv).some
 have e1:=kc b o1 q1 nb hb
 have e2:=st b o1 e1
 rw[q] at e2;cases e2
 exact e1
end
section
variable {P:Program}{w:World}{K:PySem.W.Frag}{mg:Str->Option Value}{base:Heap}{N:List Str}{qual:Str}{scope:Scope}{f:Addr}{cd:Value}{A:Around}{outer:List Env}{s₀:Shared}{H₀:Hp}{E:XK}
theorem Kc {X:Cx}{pins:List (Addr×Obj)}{σ:St}{H H':Hp}{s:Shared}{h2 B:Heap} (hX:X.ex=[]) (hst:X.stack=X.env::X.outer) (hf:X.env.frame=some X.env.locals) (I:Inv X pins σ H s) (kc:Holds (frs X.stack) H' s.heap h2 B) (fr:H' X.env.locals=none):Holds (frs X.outer) H' X.s₀.heap h2 B:=fun b o q nb hb=>by
 have nL:b≠X.env.locals:=by
  rcases hb with⟨o0,z⟩ | z
  ·exact Nat.ne_of_lt (Nat.lt_of_lt_of_le (Heap.lt_size z) I.ok.above)
  ·intro e;rw[e,fr] at z;cases z
 refine kc b o q ?_ ?_
 ·intro hm
  rw[hst] at hm
  unfold frs at hm
  rw[List.filterMap_cons,hf] at hm
  rcases List.mem_cons.mp hm with e | e
  ·exact nL e
  ·exact nb e
 ·rcases hb with⟨o0,z⟩ | z
  ·exact .inl (I.base.there b o0 z (by rw[hX];simp))
  ·exact .inr z
end
section
variable {X:Cx}{pins:List (Addr×Obj)}{σ:St}{H H':Hp}{s s':Shared}{a:Addr}{cls:Value}
abbrev Cx.tryd (X:Cx) (pn:List (Addr×Obj)) (E:Value->Shared->Prop):Cx:={X with pn:=X.pn++pn,xe:=E}
abbrev Cx.held (X:Cx) (e:Value):Cx:={X with A:=X.A.mark (some e),calm:=false,xe:=fun _ _=>False}
theorem Cx.Ok.tryd (ok:X.Ok) (pn:List (Addr×Obj)) (E:Value->Shared->Prop):(X.tryd pn E).Ok:=
 ⟨ok.mod,ok.kind,ok.glob,ok.blt,ok.above,ok.inj,ok.has,ok.cab,ok.hd,ok.frames,ok.stk,ok.exf,ok.bs,ok.bsz,ok.noex,ok.exfs,ok.funs,ok.frf⟩
theorem Cx.Ok.untryd {pn:List (Addr×Obj)}{E:Value->Shared->Prop} (ok:(X.tryd pn E).Ok):X.Ok:=
 ⟨ok.mod,ok.kind,ok.glob,ok.blt,ok.above,ok.inj,ok.has,ok.cab,ok.hd,ok.frames,ok.stk,ok.exf,ok.bs,ok.bsz,ok.noex,ok.exfs,ok.funs,ok.frf⟩
theorem Cx.Ok.held (ok:X.Ok) (e:Value):(X.held e).Ok:=
 ⟨ok.mod,ok.kind,ok.glob,ok.blt,ok.above,ok.inj,ok.has,ok.cab,fun z=>Bool.noConfusion (show false=true from z),ok.frames,ok.stk,ok.exf,ok.bs,ok.bsz,ok.noex,ok.exfs,ok.funs,ok.frf⟩
theorem Inv.tryd (I:Inv X pins σ H s) (E:Value->Shared->Prop):Inv (X.tryd pins E) [] σ H s:=
 ⟨I.ok.tryd pins E,I.os,I.bare,I.base,I.loc,I.cell,I.free,I.p7,fun p hp=>I.pin p (by simpa using hp),I.hok,I.len⟩
theorem Inv.untryd {pn:List (Addr×Obj)}{E:Value->Shared->Prop} (I:Inv (X.tryd pn E) pins σ H s):Inv X pn σ H s:=
 ⟨I.ok.untryd,I.os,I.bare,I.base,I.loc,I.cell,I.free,I.p7,fun p hp=>I.pin p (List.mem_append_left _ hp),I.hok,I.len⟩
theorem Inv.held (I:Inv X pins σ H s) (e:Value):Inv (X.held e) pins σ H s:=⟨I.ok.held e,I.os,I.bare,I.base,I.loc,I.cell,I.free,I.p7,I.pin,I.hok,I.len⟩
theorem Inv.unheld {e:Value} (ok:X.Ok) (I:Inv (X.held e) pins σ H s):Inv X pins σ H s:=⟨ok,I.os,I.bare,I.base,I.loc,I.cell,I.free,I.p7,I.pin,I.hok,I.len⟩
theorem Inv.track {o:HO} (I:Inv X pins σ H s) (hn:H a=none) (h0:X.s₀.heap.get? a=none) (hL:a≠X.env.locals) (hC:∀x c,X.env.cells.lookup x=some c->c≠a) (hp:∀p∈X.pn++pins,p.1≠a)
 (new:d8 X.prog X.w (upd H a o) s.heap a o):Inv X pins σ (upd H a o) s:=by
 refine⟨I.ok,I.os,I.bare,⟨fun b u q n hb hx=>I.base.keep b u q n hb hx,fun b u q n hb hx=>I.base.slot b u q n hb hx,fun b u q n hx=> ?_,I.base.there,fun b xs q=> ?_,fun b u v q=> ?_,fun b ps q=> ?_⟩,I.loc,I.cell, ?_,fun x c e=> ?_,fun p q=> ?_,fun b u q=> ?_,I.len⟩
 ·rw[ao (fun z=>by rw[z,h0] at q;cases q)];exact I.base.free b u q n hx
 ·have e:=I.base.tups b xs q
  rw[ao (aH e hn)];exact e
 ·have e:=I.base.frzs b u v q
  rw[ao (aH e hn)];exact e
 ·obtain⟨m,e⟩:=I.base.tbls b ps q
  exact⟨m,by rw[ao (aH e hn)];exact e⟩
 ·rw[ao (Ne.symm hL)];exact I.free
 ·rw[ao (hC x c e)];exact I.p7 x c e
 ·obtain⟨e,n,r⟩:=I.pin p q
  exact⟨e,by rw[ao (hp p q)];exact n,r⟩
 ·by_cases hb:b=a
  ·subst hb;rw[ak] at q;cases q;exact new
  ·rw[ao hb] at q
   exact(I.hok b u q).stay (fun c v _ r=>r) (fun c r=>by rw[ao (aH r hn)];exact r) fun c xs r=>by rw[ao (aH r hn)];exact r
theorem Inv.gone {i:Nat}{n:Str}{h':Heap}{v:Option Value}{m:Str->Option Value}{t':Nat} (I:Inv X pins σ H s) (hN:X.N.Nodup) (hi:X.N[i]? =some n) (hl:X.env.scope.names.lookup n=some .local) (hn:s.heap.Ns X.env.locals m)
 (hm:∀(j:Nat) (x:Str) (v:V),X.N[j]? =some x->σ[j]? =some (some v)->Vis X.env.scope x->∃u,RelV v u/\Look X.env s.heap m x u)
 (hn':h'.Ns X.env.locals (fun x=>if x=n then v else m x)) (hs:Heap.SameBut X.env.locals s.heap h'):Inv X pins (σ.set i none) H {s with heap:=h',toks:=t'}:=by
 obtain⟨oL,_,_,hoL,_⟩:=id hn
 have cne:=I.cne
 have lt:∀b o,X.s₀.heap.get? b=some o->b≠X.env.locals:=fun b o e=>Nat.ne_of_lt (Nat.lt_of_lt_of_le (Heap.lt_size e) I.ok.above)
 refine⟨I.ok,I.os,I.bare,⟨fun b o e n hb hx=>(hs.2 b (lt b o e)).trans (I.base.keep b o e n hb hx),fun b o e n hb hx=> ?_,I.base.free,fun b o e hx=> ?_,I.base.tups,I.base.frzs,I.base.tbls⟩,⟨_,hn',fun j y v' e1 e2 e3=> ?_⟩,fun y c e=> ?_,I.free,I.p7,fun p hp=> ?_,fun b ob e=> ?_,by simpa using I.len⟩
 ·obtain⟨sl,e1⟩:=I.base.slot b o e n hb hx
  exact⟨sl,(hs.2 b (lt b o e)).trans e1⟩
 ·obtain⟨o',e1⟩:=I.base.there b o e hx
  exact⟨o',(hs.2 b (lt b o e)).trans e1⟩
 ·by_cases hj:j=i
  ·subst hj
   have hiσ:j<σ.length:=by rw[I.len];exact(List.getElem?_eq_some_iff.mp hi).1
   rw[List.getElem?_set_self hiσ] at e2
   cases e2
  ·rw[List.getElem?_set_ne (Ne.symm hj)] at e2
   obtain⟨u',r',q⟩:=hm j y v' e1 e2 e3
   refine⟨u',r', ?_⟩
   rcases q with⟨k,e⟩ | ⟨k,c,e,z⟩
   ·refine .inl ⟨k, ?_⟩
    have:y≠n:=fun e=>hj (Hi hN e1 (e▸hi))
    simp[this,e]
   ·exact .inr ⟨k,c,e,z.sameBut hs (cne y c e)⟩
 ·obtain⟨w',z⟩:=I.cell y c e
  exact⟨w',z.sameBut hs (cne y c e)⟩
 ·obtain⟨e,n,ne,nf,d⟩:=I.pin p hp
  exact⟨(hs.2 p.1 ne).trans e,n,ne,nf,d⟩
 ·refine(I.hok b ob e).stay (fun c w' hc q=>(hs.2 c ?_).trans q) (fun _ q=>q) fun _ _ q=>q
  have fr:=I.free
  rintro rfl
  rcases hc with rfl | hc
  ·rw[fr] at e;cases e
  ·rw[fr] at hc;cases hc
def Rt (CX:CXT) (X:Cx) (E:St->XK):Prop:=∀(pins:List (Addr×Obj)) (σ:St) (H:Hp) (s:Shared) (e:Value) (s':Shared),Inv X pins σ H s->CX X.stack H s (E σ) e s'->X.xe e s'
end
section
variable {X:Cx}{x n:Str}{i:Nat}{C:Addr}{np hpos pos:Pos}{body suite:List Stmt}{b₀:Stmt}{tb:(St->XK)->TS}{th:TS}
end
end L2
namespace L2
open PySem PySem.Spec PyProof.Rows PySem.W
section
variable {prog:Program}{w:World}{A:Around}{E:Value->Shared->Prop}{h:Heap}{g:Array GenState}{d:Drawn}{t:Nat}{os:OsState}{K:PySem.W.Frag}{a C:Addr}{o:Obj}
structure ExK (K:PySem.W.Frag) (C:Addr):Prop where
 ga:PySem.W.findIn K (.ref C) "__getattribute__"=some (some (.builtin "BaseException.__getattribute__"))
 gh:PySem.W.findIn K (.ref C) "__getattr__"=some none
 cl:PySem.W.findIn K (.ref C) "__class__"=some (some (.builtin "object.__class__"))
 be:PySem.W.mroIn K C (.type "BaseException")=some true
 ob:PySem.W.mroIn K C (.type "object")=some true
 cs:(PySem.W.clsIn K C).isSome=true
theorem Y0 {R:Result->Shared->Prop} (X:K.In h) (k:ExK K C) (hx:h.get? a=some o) (hc:o.cls= .ref C) (hq:R (.ok (.ret (.ref C))) ⟨h,g,d,t,os⟩):
 codeAny (model prog w) A (.call (.builtin "getset_descriptor.__get__") ⟨[.builtin "object.__class__", .ref a, .ref C],[]⟩) R ⟨h,g,d,t,os⟩:=by
 have hT5:(⟨h,g,d,t,os⟩:Shared).TypeIs (.builtin "object.__class__") "getset_descriptor":=PySem.F.typeOf_object_class
 have LO:Looks (model prog w) h (isSubtype (.ref C) (.type (".".intercalate ("object.__class__".cutAt '.').dropLast))) true:=by
  rw[PySem.F.owner_object_class];exact looks_mroIn X k.ob
 refine codeAny_call_builtin PySem.F.slot_gs_get.plain PySem.F.entry_gs_get (PySem.F.slot_gs_get.check _ _ _ _ _ _ _ _ hT5 (PySem.F.args_gs_get _ _ _) ?_)
 repeat (any_goals (first | assumption | (with_reducible refine wpAny_loadPart_at hx ?_;rw[hc]) | with_reducible refine LO.at ?_ | wp_step))
 refine⟨Code.quiet_builtin _ (by decide +kernel),codeAny_builtin PySem.F.entry_object_class ?_⟩
 repeat (any_goals (first | assumption | (with_reducible refine wpAny_loadPart_at hx ?_;rw[hc]) | wp_step))
theorem T5 {tk:Tok}{Q:Fin->Shared->Prop} (X:K.In h) (k:ExK K C) (hx:h.get? a=some o) (hc:o.cls= .ref C) (hq:Q (.done (.ret (.ref C))) ⟨h,g,d,t,os⟩):
 wpAny (model prog w) A (Builtin.«object.__getattribute__» ⟨[.ref a, .str "__class__" tk],[]⟩) Q E ⟨h,g,d,t,os⟩:=by
 have hT5:(⟨h,g,d,t,os⟩:Shared).TypeIs (.builtin "object.__class__") "getset_descriptor":=PySem.F.typeOf_object_class
 have f5:=PySem.F.typeOf_object_class
 have f6:=PySem.F.slot_gs_get.lookup
 have f7:=PySem.F.slot_gs_set.lookup
 have LC:=looks_findIn (M:=model prog w) X k.cl
 repeat (any_goals (first | assumption | (with_reducible refine wpAny_loadPart_at hx ?_;rw[hc]) | with_reducible refine LC.at ?_ | wp_step))
 refine Y0 X k hx hc ?_
 repeat (any_goals (first | assumption | wp_step))
theorem Kd {M:Model}{v:Value}{Q:Unit->Shared->Prop} (X:K.In h) (k:ExK K C) (hx:h.get? a=some o) (hc:o.cls= .ref C) (q:Q () ⟨h,g,d,t,os⟩):wpAny M A (checkBuiltinCall "BaseException.__getattribute__" ⟨[.ref a,v],[]⟩) Q E ⟨h,g,d,t,os⟩:=by
 have bk:builtinKind "BaseException.__getattribute__"=some .slot:=by decide +kernel
 have bs:splitId "BaseException.__getattribute__"=some ("BaseException","__getattribute__"):=by decide +kernel
 have LB:=looks_mroIn (M:=M) X k.be
 have ar:=PySem.F.args_bexc_ga (.ref a) v
 simp only[checkBuiltinCall,bk,bs]
 refine wpAny_bind ?_
 unfold isInstance
 repeat (first | (with_reducible refine wpAny_loadPart_at hx ?_;rw[hc]) | with_reducible refine LB.at ?_ | wp_step)
 exact q
theorem VL {tk:Tok}{R:Result->Shared->Prop} (X:K.In h) (k:ExK K C) (hx:h.get? a=some o) (hc:o.cls= .ref C) (hq:R (.ok (.ret (.ref C))) ⟨h,g,d,t,os⟩):
 codeAny (model prog w) A (.call (.builtin "BaseException.__getattribute__") ⟨[.ref a, .str "__class__" tk],[]⟩) R ⟨h,g,d,t,os⟩:=
 codeAny_call_builtin (by decide +kernel) PySem.F.entry_bexc_ga (Kd X k hx hc (T5 X k hx hc hq))
theorem ac3 {tk:Tok}{Q:Value->Shared->Prop} (X:K.In h) (k:ExK K C) (hx:h.get? a=some o) (hc:o.cls= .ref C) (hq:Q (.ref C) ⟨h,g,d,t,os⟩):
 wpAny (model prog w) A (getAttrBy (.ref a) (.str "__class__" tk) false) Q E ⟨h,g,d,t,os⟩:=by
 have hx2:(Value.builtin "BaseException.__getattribute__"==Value.builtin "object.__getattribute__")=false:=by decide +kernel
 have hx1:(onTheHeap (Value.ref C)&&Value.builtin "BaseException.__getattribute__"==Value.builtin "object.__getattribute__")=false:=by rw[hx2];rfl
 have LG:=looks_findIn (M:=model prog w) X k.ga
 have LH:=looks_findIn (M:=model prog w) X k.gh
 have hp:plainId "BaseException.__getattribute__"=true:=by decide +kernel
 have f3:bindSpecial (.builtin "BaseException.__getattribute__") (.ref a)=pure (.builtin "BaseException.__getattribute__",[.ref a]):=by
  have hop:withoutEnding? "BaseException.__getattribute__" "#opaque"=none:=by decide +kernel
  have hdat:withoutEnding? "BaseException.__getattribute__" "#data"=none:=by decide +kernel
  have hk:builtinKind "BaseException.__getattribute__"=some .slot:=by decide +kernel
  simp only[bindSpecial,typeOf,builtinType,hop,hdat,hk];rfl
 repeat (any_goals (first | assumption | (with_reducible refine wpAny_loadPart_at hx ?_;rw[hc]) | with_reducible refine LG.at ?_ | with_reducible refine LH.at ?_ | wp_step))
 refine VL X k hx hc ?_
 repeat (any_goals (first | assumption | wp_step))
theorem T7 {Q:Option Value->Shared->Prop} (X:K.In h) (k:ExK K C) (hx:h.get? a=some o) (hc:o.cls= .ref C) (hq:Q (some (.ref C)) ⟨h,g,d,t+1,os⟩):wpAny (model prog w) A (getAttr? (.ref a) "__class__") Q E ⟨h,g,d,t,os⟩:=by
 unfold getAttr? getAttrBy?
 repeat (any_goals (first | assumption | with_reducible apply ac3 X k hx hc | wp_step))
theorem VM (k:ExK K C):KitX K (.ref a) (.ref C) (fun h=>∃o,h.get? a=some o/\o.cls= .ref C) where
 ty:=fun M h _ p=>by
  obtain⟨o,h1,h2⟩:=p
  rw[<-h2]
  exact(Looks.ld h1).andThen .now
 it:=fun _ _ X _=>by
  obtain⟨cdD,hcD⟩:=Option.isSome_iff_exists.mp k.cs
  unfold clsIn at hcD
  split at hcD
  ·rename_i ho
   intro A' Q' E' s' k q
   unfold isType loadHead
   exact wpAny_bind (wpAny_loadPart (k _ _ (X _ _ ho)) (wpAny_pure q))
  ·cases hcD
 ne:=fun h tp dd its n sl X htp=>by
  obtain⟨cdD,hcD⟩:=Option.isSome_iff_exists.mp k.cs
  refine Bool.eq_false_iff.mpr fun q=> ?_
  have e:C=tp:=Value.ref.inj (beq_iff_eq.mp q)
  subst e
  unfold clsIn at hcD
  split at hcD
  ·rename_i ho
   have z:=(X _ _ ho).symm.trans htp
   cases z
  ·cases hcD
 ca:=fun{_ _ _ _ _ s} X p q=>by
  obtain⟨h,g,d,t,os⟩:=s
  obtain⟨o,h1,h2⟩:=p
  exact T7 X k h1 h2 q
end
end L2
namespace L2
open PySem PySem.Spec PyProof.Rows
section
variable {X:Cx}{pins:List (Addr×Obj)}{σ:St}{H H':Hp}{s s':Shared}
inductive ClV:V->Value->Prop where
 | ty (T:String):ClV (.ty T) (.type T)
 | own (D:Addr):ClV (.ref D) (.ref D)
theorem ClV.rel {v:V}{c u:Value} (h:ClV v c) (r:RelV v u):u=c:=by
 cases h with
 | ty T=>exact r
 | own D=>exact r
theorem Js:bootBuiltins "ValueError"=some (.type "ValueError"):=by decide +kernel
def tFr (ta:TE):TE:=fun σ H Q=>ta σ H fun x H1=>∃y,x= .str y/\y.length<=1000/\(∀c∈y.cps.toList,c<16 ^ 8)/\∀z:Str,z.length<=100000->Q (.str z) H1
end
section
variable {P:Program}{w:World}{K:PySem.W.Frag}{mg:Str->Option Value}{base:Heap}{N:List Str}{qual:Str}{scope:Scope}{f:Addr}{cd:Value}{A:Around}{outer:List Env}{s₀:Shared}{H₀:Hp}{E:XK}
end
section
variable {X:Cx}{CX:CXT}{k:Nat}{f:Addr}{fd:FuncData}{ps:List Str}{sp:Sp}{dvs:List V}{ds:List Value}{E:St->XK}{x:Str}{p pos:Pos}{e:Expr}{es:List Expr}{t:TA}
def ac4 (sp:Sp) (dvs:List V) (E:St->XK) (t:TA):TE:=fun σ H Q=>t σ H fun vs H1=>sp (vs++dvs) H1 Q (E σ)
theorem Y4 {pins:List (Addr×Obj)}{σ:St}{H:Hp}{s:Shared}{Q:VK}{us:List Value}{vs:List V} (F:aZ X.prog X.w X.K X.mg X.base CX k f fd ps sp) (hr:jV k X.A) (hb:Binds X.K fd ps ds) (hd:Vals dvs ds) (hx:Rt CX X E)
 (I:Inv X pins σ H s) (r:Vals vs us) (h:sp (vs++dvs) H Q (E σ)):wpAny (model X.prog X.w) X.A (call (.ref f) us) (EP X pins σ Q) X.xe s:=by
 have r2:Vals (vs++dvs) (us++ds):=r.append hd
 have hl:(us++ds).length=ps.length:=by rw[<-r2.length];exact F.len _ _ _ _ h
 refine wpAny_call (codeAny_mono (F.run X.A X.stack s H ⟨us,[]⟩ (us++ds) (vs++dvs) Q (E σ) hr I.env0 (hb s us I.kIn hl) r2 h) fun r s' hq=> ?_)
 cases r with
 | error e=>exact hx pins σ H s e s' I hq
 | ok fl=>
   cases fl with
   | ret u=>exact I.after hq
   | next=>exact False.elim hq
   | brk=>exact False.elim hq
   | cont=>exact False.elim hq
theorem M9 (F:aZ X.prog X.w X.K X.mg X.base CX k f fd ps sp) (hr:jV k X.A) (hg:Gl X x) (hm:X.mg x=some (.ref f)) (hk:PySem.W.keepIn X.K (.ref f)=true) (hb:Binds X.K fd ps ds) (hd:Vals dvs ds) (hx:Rt CX X E)
 (ha:QA X (e::es) t) (hdb:(x==("__debug__":Str))=false) (he:starEach (e::es) X.env=(false,eval e X.env)::starEach es X.env:=by rfl) (hpl:(backTo pos (starEach es X.env)).any (·.1)=false:=by rfl):
 QE X (.Call (.Name x p) (e::es) [] pos) (ac4 sp dvs E t):=⟨by
 intro pins s σ H Q I h
 refine wpAny_Call_Name_kw (sy I hg hm ?_ hdb)
 refine PySem.W.callWith_K (h₀:=X.base) I.ok.mod.kin hk (thn (ha.h pos pins s σ H _ I h) fun us s1 ⟨vs,H1,I1,r,q⟩=>⟨I1.kIn, ?_⟩) he hpl
 exact Y4 F hr hb hd hx I1 r q⟩
end
end L2
namespace RB
open PySem L2 PySem.Spec PyProof.Rows
end RB
namespace L2
open PySem PySem.Spec PyProof.Rows
section
variable {X:Cx}{x:Str}{C:Addr}{np hpos pos:Pos}{body suite:List Stmt}{b₀:Stmt}{tb:(St->XK)->TS}{th:TS}
end
section
variable {X:Cx}{pins:List (Addr×Obj)}{σ:List (Option V)}{H:Hp}{s:Shared}{h':Heap}
theorem Inv.G7 {t':Nat}{ch:List Addr} (I:Inv X pins σ H s) (hf:∀b∈ch,Es X pins H b) (k:∀b o,b∉ch->s.heap.get? b=some o->h'.get? b=some o):Inv X pins σ H {s with heap:=h',toks:=t'}:=by
 have nit:∀b u,H b=some u->b∉ch:=fun b u e z=>by rw[(hf b z).1] at e;cases e
 refine I.step (g':=s.gens) (d':=s.drawn) (ch:=ch) (fun b hb=> ?_) (fun b o _ _ hc e _=>k b o hc e) (fun b o _ _ hc e _=>⟨o.slots,k b o hc e⟩) (fun _ _ _ _ n=>n)
  (fun b o hc e=>⟨o,k b o hc e⟩) (fun _ _ e=>e) (fun _ _ _ e=>e) (fun b ps e=>⟨#[],by rw[e];simp⟩) (fun m hm=> ?_) (fun b u e=> ?_) I.bare
 ·obtain⟨_,f1,_,f3,f4,f5⟩:=hf b hb
  exact⟨f3,f1,f4,f5⟩
 ·obtain⟨o,es,ep,ho,r⟩:=hm
  exact⟨o,es,ep,k _ o (fun z=>(hf _ z).2.1 rfl) ho,r⟩
 ·refine(I.hok b u e).stay (fun c v hc q=>k c v ?_ q) (fun _ q=>q) fun _ _ q=>q
  rcases hc with z | z
  ·rw[z];exact nit b u e
  ·exact nit c _ z
end
end L2
namespace RB
open PySem L2 PySem.Spec PyProof.Rows
section
variable {prog:Program}{w:World}{A:Around}{R:Result->Shared->Prop}{I:Addr}{fp wr:List Addr}{G:Array GenState->Array GenState->Prop}{n:Nat}{P:Nat->Value->Prop}{St:Nat->Shared->Prop}
end
section
variable {prog:Program}{w:World}{A:Around}{E:Value->Shared->Prop}{s:Shared}
end
end RB
namespace L2
open PySem PySem.Spec PyProof.Rows RB
section
variable {X:Cx}
end
end L2
namespace RB
open PySem L2 PySem.Spec PyProof.Rows
structure gO (K:PySem.W.Frag) (C:Addr) (x qual:Str) (st:Stmt) (ps:List Str) (f:Addr) (fd:FuncData):Prop where
 F:Fun K x qual st f fd
 b:Binds K fd ps []
 m:Meth K C x f
def VN (K:PySem.W.Frag):R2:=fun x y H Q=>∃a b xs,x= .ref a/\y= .ref b/\SqL K H a xs/\SqL K H b []/\Q (.bl xs.isEmpty) H
theorem VP {X:Cx} (hu:X.A.units+64<cLine):OpR X (compareOp .Eq) (VN X.K):=by
 intro pins s σ H x y v u Q I rx ry h
 obtain⟨a,b,xs,rfl,rfl,ha,hb,q⟩:=h
 cases xs with
 | nil=>exact Vt hu pins s σ H _ _ v u Q I rx ry ⟨.list [], .list [], .lst ha .nil, .lst hb .nil,shaped_ints [],shaped_ints [],q⟩
 | cons x r=>
   cases rx
   cases ry
   obtain⟨its,rv,pl,_⟩:=I.list ha
   obtain⟨its',rv',pl',_⟩:=I.list hb
   cases rv
   cases rv'
   exact PySem.SeqAt.eq_list_lengthsAt pl.isList pl'.isList rfl (by omega) ⟨.bl false,H,I,rfl,q⟩
theorem T8 {X:Cx} (hu:X.A.units+64<cLine):QOp X (compareOp .Eq) (VN X.K):=⟨VP hu⟩
theorem mF {X:Cx}{pos:Pos}:QE X (.Dict [] [] pos) Vk:=⟨Vl⟩
theorem oV:∀{r:R},r.Good->r.HN
 | .num _,_=>trivial
 | .rd x,h=>⟨h.2.1,fun c hc=>by have:=h.2.2 c hc;unfold Ka at this;omega⟩
 | .bin _ a b,h=>⟨oV h.1,oV h.2⟩
 | .pick a b c,h=>⟨oV h.1,oV h.2.1,oV h.2.2⟩
 | .cho a ns,h=>⟨oV h.1,h.2⟩
theorem T9 {x:Str} (h:∀c∈x.cps.toList,c<128):PyData.strOk x=true:=by
 show x.cps.all (· <0x110000)=true
 rw[<-Array.all_toList,List.all_eq_true]
 intro c hc
 exact decide_eq_true (by have:=h c hc;omega)
theorem HS {x:Str} (h:oG x):PyData.strOk x=true:=T9 fun c hc=>by have:=h.2.2 c hc;unfold Ka at this;omega
def aa6 (K:PySem.W.Frag) (neg:Bool):R2:=fun x y H Q=>∃d,pD K H x d/\pD K H y d/\SeqAt.shaped d=true/\Q (.bl (!neg)) H
theorem Ba {d:PyData} (h:SeqAt.shaped d=true):d.canLay0=true:=by
 have h':(d.canLay0&&decide (d.depth<=64))=true:=h
 rw[Bool.and_eq_true] at h'
 exact h'.1
theorem Bb {X:Cx} (hu:X.A.units+64<cLine):QOp X (compareOp .Eq) (aa6 X.K false):=⟨fun pins s σ H x y v u Q I rx ry h=>by
 obtain⟨d,h1,h2,h3,q⟩:=h
 have e:=PySem.SeqAt.eqv_refl d (Ba h3)
 exact Vt hu pins s σ H x y v u Q I rx ry ⟨d,d,h1,h2,h3,h3,by rw[e];exact q⟩⟩
theorem PK {X:Cx} (hu:X.A.units+64<cLine):QOp X (compareOp .NotEq) (aa6 X.K true):=⟨fun pins s σ H x y v u Q I rx ry h=>by
 obtain⟨d,h1,h2,h3,q⟩:=h
 have e:=PySem.SeqAt.eqv_refl d (Ba h3)
 exact Vu hu pins s σ H x y v u Q I rx ry ⟨d,d,h1,h2,h3,h3,by rw[e];exact q⟩⟩
end RB
namespace RB
open PySem L2 PySem.Spec PyProof.Rows PySem.NumText
end RB
namespace L2
open PySem PySem.Spec PyProof.Rows
section
variable {prog:Program}{w:World}{A:Around}{E:Value->Shared->Prop}
end
section
variable {X:Cx}{pos:Pos}
theorem Ru (hc:X.calm=true):sH X (.builtin "max") (fun xs H Q=>∃i j,xs=[.int i, .int j]/\Q (.int (if j>i then j else i)) H):=⟨Tg hc⟩
theorem Y5 (hc:X.calm=true):sH X (.builtin "min") (fun xs H Q=>∃i j,xs=[.int i, .int j]/\Q (.int (if j<i then j else i)) H):=⟨Tj hc⟩
end
end L2
namespace RB
open PySem L2 PySem.Spec PyProof.Rows
end RB
namespace L2
open PySem PySem.Spec PyProof.Rows
end L2
namespace RB
open PySem L2 PySem.Spec PyProof.Rows
theorem Y6 {α:Type}{l m:List α}{y:α} (h:l=m++[y]):atI l (-1)=some y:=by
 subst h
 unfold atI ixN
 have hl:(m++[y]).length=m.length+1:=by simp
 rw[hl,if_neg (by omega),if_pos (by omega)]
 show(m++[y])[((m.length+1:Nat)+(-1:Int)).toNat]? =some y
 rw[show(((m.length+1:Nat):Int)+(-1)).toNat=m.length by omega]
 simp
abbrev Rdp:=Str×Int
def rdV (p:Rdp):List V:=[.str p.1, .int p.2]
inductive iC (H:Hp):List Addr->List Rdp->Prop where
 | nil:iC H [] []
 | cons {a:Addr}{p:Rdp}{as:List Addr}{ps:List Rdp} (h:H a=some (.tup (rdV p))) (t:iC H as ps):iC H (a::as) (p::ps)
theorem iC.tups {H H':Hp} (t:jg H H') {as:List Addr}{ps:List Rdp} (h:iC H as ps):iC H' as ps:=by
 induction h with
 | nil=>exact .nil
 | cons h _ ih=>exact .cons (t _ _ h) ih
theorem iC.same {H H':Hp} (s:aQ H H') {as:List Addr}{ps:List Rdp} (h:iC H as ps):iC H' as ps:=h.tups (aQ.tups s)
theorem iC.length {H:Hp}{as:List Addr}{ps:List Rdp} (h:iC H as ps):as.length=ps.length:=by
 induction h with
 | nil=>rfl
 | cons _ _ ih=>simp[ih]
theorem iC.snoc {H:Hp}{a:Addr}{p:Rdp} (h:H a=some (.tup (rdV p))):∀{as:List Addr}{ps:List Rdp},iC H as ps->iC H (as++[a]) (ps++[p])
 | _,_, .nil=> .cons h .nil
 | _,_, .cons h' t=> .cons h' (t.snoc h)
theorem iC.get {H:Hp}{as:List Addr}{ps:List Rdp} (h:iC H as ps):∀(i:Nat) (a:Addr),as[i]? =some a->∃p,ps[i]? =some p/\H a=some (.tup (rdV p)):=by
 induction h with
 | nil=>intro i a e;simp at e
 | @cons b p as ps h t ih=>
   intro i a e
   cases i with
   | zero=>have:b=a:=by simpa using e
           subst this;exact⟨_,rfl,h⟩
   | succ i=>exact ih i a (by simpa using e)
theorem VR {vs:List V}{k:Nat}:Cu vs none (some (k:Int))=vs.take k:=by
 unfold Cu
 rw[HT.Q3,show HT.sIx vs.length 0 none=0 from rfl,List.drop_zero,Nat.sub_zero]
 by_cases h:k<=vs.length
 ·rw[show min k vs.length=k by omega]
 ·rw[show min k vs.length=vs.length by omega,List.take_length,List.take_of_length_le (by omega)]
theorem Ex {vs:List V}{k:Nat}:Cu vs (some (k:Int)) none=vs.drop k:=by
 unfold Cu
 rw[HT.Q3]
 show(vs.drop (min k vs.length)).take (vs.length - min k vs.length)=_
 rw[List.take_of_length_le (by rw[List.length_drop];omega)]
 by_cases h:k<=vs.length
 ·rw[show min k vs.length=k by omega]
 ·rw[show min k vs.length=vs.length by omega,List.drop_length,List.drop_of_length_le (by omega)]
end RB
namespace L2
open PySem PySem.Spec PyProof.Rows
end L2
namespace RB
open PySem L2 PySem.Spec PyProof.Rows
end RB
namespace L2
open PySem PySem.Spec PyProof.Rows
theorem Rv {X:Cx}{es:List Expr}{pos:Pos}{K:PySem.W.Frag}{k n:Nat}{t:TGs} (eK:X.K=K) (hc:X.calm=true) (h:QGs X es t) (hn:(assignEach es X.env).length=n:=by rfl) (hst:(assignEach es X.env).findIdx? (·.1)=none:=by rfl):QG X (.Tuple es k pos) (ab0 K n t):=eK▸Pz hc h hn hst
end L2
namespace RB
open PySem L2 PySem.Spec PyProof.Rows
theorem SqL.same {K:PySem.W.Frag}{H H':Hp}{a:Addr}{xs:List V} (s:aQ H H') (h:SqL K H a xs):SqL K H' a xs:=by
 rcases h with(e | ⟨o,e⟩) | h
 ·exact .inl (.inl (s _ _ e))
 ·exact .inl (.inr ⟨o,s _ _ e⟩)
 ·exact .inr h
theorem fK {S:List Addr}{H0 H H':Hp} (s:aQ H0 H) (hS:∀p∈S,H0 p=none) (b:But S H H'):aQ H0 H':=fun a o e=>b a o (fun z=>by rw[hS a z] at e;cases e) (s a o e)
abbrev Kn:=Str->Option Int
def Kn.put (kn:Kn) (x:Str) (v:Int):Kn:=fun y=>if y=x then some v else kn y
def Kn.puts:Kn->List Rdp->Kn
 | kn,[]=>kn
 | kn,p::ps=>(kn.put p.1 p.2).puts ps
def Kn.Le (kn kn':Kn):Prop:=∀x v,kn x=some v->kn' x=some v
theorem Kn.Le.refl (kn:Kn):Kn.Le kn kn:=fun _ _ h=>h
theorem Kn.Le.trans {a b c:Kn} (h:Kn.Le a b) (g:Kn.Le b c):Kn.Le a c:=fun x v z=>g x v (h x v z)
theorem Kn.vI {kn:Kn}{x:Str}{v:Int} (h:kn x=none):Kn.Le kn (kn.put x v):=fun y u z=>by
 unfold Kn.put
 rw[if_neg (fun e=>by rw[e,h] at z;cases z)];exact z
def Op.ap:Op->Int->Int->Int
 | .plus,u,v=>u+v
 | .minus,u,v=>u - v
 | .times,u,v=>u * v
 | .most,u,v=>if v>u then v else u
def rA (ns:List Str) (u:Int):Option Str:=ns[(u % (ns.length:Int)).toNat]?
def look (kn:Kn) (x:Str):Str ⊕ Int:=match kn x with
 | some v=> .inr v
 | none=> .inl x
def ev (kn:Kn):R->Str ⊕ Int
 | .num n=> .inr n
 | .rd x=>look kn x
 | .bin op a b=>match ev kn a with
   | .inl x=> .inl x
   | .inr u=>match ev kn b with
     | .inl x=> .inl x
     | .inr v=> .inr (op.ap u v)
 | .pick a b c=>match ev kn a with
   | .inl x=> .inl x
   | .inr u=>if u>0 then ev kn b else ev kn c
 | .cho a ns=>match ev kn a with
   | .inl x=> .inl x
   | .inr u=>match rA ns u with
     | none=> .inr 0
     | some x=>look kn x
theorem Rw {kn kn':Kn} (h:Kn.Le kn kn') {x:Str}{v:Int} (e:look kn x= .inr v):look kn' x= .inr v:=by
 unfold look at e ⊢
 cases z:kn x with
 | none=>rw[z] at e;cases e
 | some u=>rw[z] at e;rw[h x u z];exact e
theorem uz {kn:Kn}{x y:Str} (e:look kn x= .inl y):y=x/\kn x=none:=by
 unfold look at e
 cases z:kn x with
 | none=>rw[z] at e;cases e;exact⟨rfl,rfl⟩
 | some u=>rw[z] at e;cases e
theorem qH {kn:Kn}:∀{r:R}{x:Str},ev kn r= .inl x->kn x=none
 | .num n,x,h=>by cases h
 | .rd y,x,h=>by obtain⟨rfl,h⟩:=uz h;exact h
 | .bin op a b,x,h=>by
   simp only[ev] at h
   cases ea:ev kn a with
   | inl y=>rw[ea] at h;cases h;exact qH ea
   | inr u=>
     rw[ea] at h
     cases eb:ev kn b with
     | inl y=>rw[eb] at h;cases h;exact qH eb
     | inr v=>rw[eb] at h;cases h
 | .pick a b c,x,h=>by
   simp only[ev] at h
   cases ea:ev kn a with
   | inl y=>rw[ea] at h;cases h;exact qH ea
   | inr u=>
     rw[ea] at h
     simp only at h
     split at h
     ·exact qH h
     ·exact qH h
 | .cho a ns,x,h=>by
   simp only[ev] at h
   cases ea:ev kn a with
   | inl y=>rw[ea] at h;cases h;exact qH ea
   | inr u=>
     rw[ea] at h
     simp only at h
     cases ep:rA ns u with
     | none=>rw[ep] at h;cases h
     | some y=>rw[ep] at h;obtain⟨rfl,h⟩:=uz h;exact h
theorem lX {kn kn':Kn} (hk:Kn.Le kn kn'):∀{r:R}{v:Int},ev kn r= .inr v->ev kn' r= .inr v
 | .num n,v,h=>h
 | .rd y,v,h=>Rw hk h
 | .bin op a b,v,h=>by
   simp only[ev] at h ⊢
   cases ea:ev kn a with
   | inl y=>rw[ea] at h;cases h
   | inr u=>
     rw[ea] at h;rw[lX hk ea]
     cases eb:ev kn b with
     | inl y=>rw[eb] at h;cases h
     | inr w=>rw[eb] at h;rw[lX hk eb];exact h
 | .pick a b c,v,h=>by
   simp only[ev] at h ⊢
   cases ea:ev kn a with
   | inl y=>rw[ea] at h;cases h
   | inr u=>
     rw[ea] at h;rw[lX hk ea]
     simp only at h ⊢
     split at h
     ·rw[if_pos (by assumption)];exact lX hk h
     ·rw[if_neg (by assumption)];exact lX hk h
 | .cho a ns,v,h=>by
   simp only[ev] at h ⊢
   cases ea:ev kn a with
   | inl y=>rw[ea] at h;cases h
   | inr u=>
     rw[ea] at h;rw[lX hk ea]
     simp only at h ⊢
     cases ep:rA ns u with
     | none=>rw[ep] at h;exact h
     | some y=>rw[ep] at h;exact Rw hk h
inductive Stp where
 | r (r:R) | branch (s t:R) | among (ns:List Str) | join (op:Op)
structure Cf where
 todo:List Stp
 found:List Int
 rds:List Rdp
def tG (ps:List Rdp) (x:Str) (v:Int):List Rdp:=
 if(ps.any fun p=>decide (p.1=x))=true then ps.map (fun p=>if p.1=x then(p.1,v) else p) else ps++[(x,v)]
inductive St1 (kn:Kn):Cf->Cf->Prop where
 | num {t f d n}:St1 kn ⟨t++[.r (.num n)],f,d⟩ ⟨t,f++[n],d⟩
 | rd {t f d x v} (h:kn x=some v):St1 kn ⟨t++[.r (.rd x)],f,d⟩ ⟨t,f++[v],tG d x v⟩
 | bin {t f d op a b}:St1 kn ⟨t++[.r (.bin op a b)],f,d⟩ ⟨t++[.join op, .r b, .r a],f,d⟩
 | pick {t f d a b c}:St1 kn ⟨t++[.r (.pick a b c)],f,d⟩ ⟨t++[.branch b c, .r a],f,d⟩
 | cho {t f d a ns}:St1 kn ⟨t++[.r (.cho a ns)],f,d⟩ ⟨t++[.among ns, .r a],f,d⟩
 | branch {t f d b c v}:St1 kn ⟨t++[.branch b c],f++[v],d⟩ ⟨t++[.r (if v>0 then b else c)],f,d⟩
 | among {t f d ns v x} (h:rA ns v=some x):St1 kn ⟨t++[.among ns],f++[v],d⟩ ⟨t++[.r (.rd x)],f,d⟩
 | join {t f d op u v} (h:op= .times->qR u v):St1 kn ⟨t++[.join op],f++[u,v],d⟩ ⟨t,f++[op.ap u v],d⟩
inductive StN (kn:Kn):Nat->Cf->Cf->Prop where
 | zero {c}:StN kn 0 c c
 | succ {n c c1 c2} (h:St1 kn c c1) (t:StN kn n c1 c2):StN kn (n+1) c c2
theorem StN.add {kn:Kn}{n m:Nat}{a b c:Cf} (h:StN kn n a b) (g:StN kn m b c):StN kn (n+m) a c:=by
 induction h with
 | zero=>rw[Nat.zero_add];exact g
 | succ h _ ih=>rw[Nat.succ_add];exact .succ h (ih g)
theorem St1.le {kn kn':Kn} (hk:Kn.Le kn kn') {a b:Cf} (h:St1 kn a b):St1 kn' a b:=by
 cases h with
 | num=>exact .num
 | rd h=>exact .rd (hk _ _ h)
 | bin=>exact .bin
 | pick=>exact .pick
 | cho=>exact .cho
 | branch=>exact .branch
 | among h=>exact .among h
 | join h=>exact .join h
theorem StN.le {kn kn':Kn} (hk:Kn.Le kn kn') {n:Nat}{a b:Cf} (h:StN kn n a b):StN kn' n a b:=by
 induction h with
 | zero=>exact .zero
 | succ h _ ih=>exact .succ (h.le hk) ih
theorem kW {α:Type}{s t:List α}{x y:α} (h:s++[x]=t++[y]):s=t/\x=y:=by
 have:=List.append_inj' h rfl
 exact⟨this.1,by simpa using this.2⟩
theorem Ua {α:Type}{s t:List α}{x y u v:α} (h:s++[x,y]=t++[u,v]):s=t/\x=u/\y=v:=by
 have:=List.append_inj' h rfl
 exact⟨this.1,by simpa using this.2⟩
def St1.Inv (kn:Kn) (f:List Int) (d:List Rdp) (t:List Stp) (c':Cf):Stp->Prop
 | .r (.num n)=>c'=⟨t,f++[n],d⟩
 | .r (.rd x)=>∃v,kn x=some v/\c'=⟨t,f++[v],tG d x v⟩
 | .r (.bin op a b)=>c'=⟨t++[.join op, .r b, .r a],f,d⟩
 | .r (.pick a b c)=>c'=⟨t++[.branch b c, .r a],f,d⟩
 | .r (.cho a ns)=>c'=⟨t++[.among ns, .r a],f,d⟩
 | .branch b c=>∃g v,f=g++[v]/\c'=⟨t++[.r (if v>0 then b else c)],g,d⟩
 | .among ns=>∃g v x,f=g++[v]/\rA ns v=some x/\c'=⟨t++[.r (.rd x)],g,d⟩
 | .join op=>∃g u v,f=g++[u,v]/\(op= .times->qR u v)/\c'=⟨t,g++[op.ap u v],d⟩
theorem St1.inv {kn:Kn}{c c':Cf} (h:St1 kn c c'):∀t s,c.todo=t++[s]->St1.Inv kn c.found c.rds t c' s:=by
 cases h with
 | num=>intro t s e;obtain⟨rfl,rfl⟩:=kW e;exact rfl
 | rd h=>intro t s e;obtain⟨rfl,rfl⟩:=kW e;exact⟨_,h,rfl⟩
 | bin=>intro t s e;obtain⟨rfl,rfl⟩:=kW e;exact rfl
 | pick=>intro t s e;obtain⟨rfl,rfl⟩:=kW e;exact rfl
 | cho=>intro t s e;obtain⟨rfl,rfl⟩:=kW e;exact rfl
 | branch=>intro t s e;obtain⟨rfl,rfl⟩:=kW e;exact⟨_,_,rfl,rfl⟩
 | among h=>intro t s e;obtain⟨rfl,rfl⟩:=kW e;exact⟨_,_,_,rfl,h,rfl⟩
 | join h=>intro t s e;obtain⟨rfl,rfl⟩:=kW e;exact⟨_,_,_,rfl,h,rfl⟩
theorem St1.det {kn:Kn}{a b c:Cf} (h:St1 kn a b) (g:St1 kn a c):b=c:=by
 cases h with
 | num=>exact(g.inv _ _ rfl).symm
 | rd h=>
   obtain⟨v,e,z⟩:=g.inv _ _ rfl
   rw[h] at e;cases e;exact z.symm
 | bin=>exact(g.inv _ _ rfl).symm
 | pick=>exact(g.inv _ _ rfl).symm
 | cho=>exact(g.inv _ _ rfl).symm
 | branch=>
   obtain⟨f,v,e,z⟩:=g.inv _ _ rfl
   obtain⟨rfl,rfl⟩:=kW e
   exact z.symm
 | among h=>
   obtain⟨f,v,x,e,hx,z⟩:=g.inv _ _ rfl
   obtain⟨rfl,rfl⟩:=kW e
   rw[h] at hx;cases hx;exact z.symm
 | join h=>
   obtain⟨f,u,v,e,_,z⟩:=g.inv _ _ rfl
   obtain⟨rfl,rfl,rfl⟩:=Ua e
   exact z.symm
def Halt (kn:Kn) (c:Cf):Prop:=c.todo=[]\/∃t x,c.todo=t++[.r (.rd x)]/\kn x=none
theorem Halt.no {kn:Kn}{c c':Cf} (h:Halt kn c) (g:St1 kn c c'):False:=by
 rcases h with h | ⟨t,x,h,hx⟩
 ·cases g<;>simp at h
 ·obtain⟨v,e,_⟩:=g.inv _ _ h
  rw[hx] at e;cases e
theorem StN.rest {kn:Kn}{n m:Nat}{a b c:Cf} (h:StN kn n a b) (g:StN kn m a c) (hc:Halt kn c):∃k,StN kn k b c:=by
 induction h generalizing m with
 | zero=>exact⟨m,g⟩
 | succ h _ ih=>
   cases g with
   | zero=>exact(hc.no h).elim
   | succ h' g'=>rw[<-h.det h'] at g';exact ih g'
theorem Ke {ns:List Str} (h:1<=ns.length) (u:Int):∃x,rA ns u=some x:=by
 unfold rA
 have h1:(u % (ns.length:Int)).toNat<ns.length:=by
  have:=Int.emod_nonneg u (show(ns.length:Int)≠0 by omega)
  have:=Int.emod_lt_of_pos u (show(0:Int)<ns.length by omega)
  omega
 exact⟨_,List.getElem?_eq_getElem h1⟩
def Reach (kn:Kn) (r:R) (c:Cf):Prop:=∃n,StN kn n ⟨[.r r],[],[]⟩ c
theorem Reach.le {kn kn':Kn} (h:Kn.Le kn kn') {r:R}{c:Cf} (g:Reach kn r c):Reach kn' r c:=by
 obtain⟨n,g⟩:=g
 exact⟨n,g.le h⟩
def kn0:Kn:=fun _=>none
end RB
namespace L2
open PySem PySem.Spec PyProof.Rows
section
variable {X:Cx}{i o:Expr}{ty td:TE}{pos:Pos}
theorem Ey (hu:X.A.units+1<cLine) (hi:QE X i ty) (ho:QE X o td) (h1:behindInMarks .In o=false:=by rfl):QT X (.Compare i [.In] [o] pos) (tB (afF ty td)):=⟨UT (acB hu hi.h ho.h) h1⟩
theorem oW (hu:X.A.units+1<cLine) (hi:QE X i ty) (ho:QE X o td) (h1:behindInMarks .NotIn o=false:=by rfl):QT X (.Compare i [.NotIn] [o] pos) (tB (Ra ty td)):=⟨UT (TX hu hi.h ho.h) h1⟩
end
end L2
namespace RB
open PySem L2 PySem.Spec PyProof.Rows
inductive Gx (H:Hp):V->Stp->Prop where
 | r {a:Addr}{r:R} (h:IsR H a r):Gx H (.ref a) (.r r)
 | branch {a b c:Addr}{s t:R} (e:H a=some (.tup [.str "branch", .ref b, .ref c])) (h1:IsR H b s) (h2:IsR H c t):Gx H (.ref a) (.branch s t)
 | among {a b:Addr}{ns:List Str} (e:H a=some (.tup [.str "among", .ref b])) (h:H b=some (.tup (ns.map V.str))):Gx H (.ref a) (.among ns)
 | join {a:Addr}{op:Op} (e:H a=some (.tup [.str "join", .str op.word])):Gx H (.ref a) (.join op)
theorem Gx.tups {H H':Hp} (t:jg H H') {v:V}{s:Stp} (h:Gx H v s):Gx H' v s:=by
 cases h with
 | r h=>exact .r (h.tups t)
 | branch e h1 h2=>exact .branch (t _ _ e) (h1.tups t) (h2.tups t)
 | among e h=>exact .among (t _ _ e) (t _ _ h)
 | join e=>exact .join (t _ _ e)
inductive oJ (H:Hp):List V->List Stp->Prop where
 | nil:oJ H [] []
 | cons {v:V}{s:Stp}{vs:List V}{ss:List Stp} (h:Gx H v s) (t:oJ H vs ss):oJ H (v::vs) (s::ss)
theorem oJ.tups {H H':Hp} (t:jg H H') {vs:List V}{ss:List Stp} (h:oJ H vs ss):oJ H' vs ss:=by
 induction h with
 | nil=>exact .nil
 | cons h _ ih=>exact .cons (h.tups t) ih
theorem oJ.app {H:Hp}:∀{vs ws:List V}{ss ts:List Stp},oJ H vs ss->oJ H ws ts->oJ H (vs++ws) (ss++ts)
 | _,_,_,_, .nil,h=>h
 | _,_,_,_, .cons h' t,h=> .cons h' (t.app h)
theorem oJ.snoc {H:Hp}{s:Stp}:∀{ss:List Stp}{vs:List V},oJ H vs (ss++[s])->∃us v,vs=us++[v]/\oJ H us ss/\Gx H v s
 |[],_,h=>by
  cases h with
  | cons h t=>cases t;exact⟨[],_,rfl, .nil,h⟩
 | s0::ss,_,h=>by
   cases h with
   | cons h t=>
     obtain⟨us,v,rfl,h1,h2⟩:=oJ.snoc (ss:=ss) t
     exact⟨_::us,v,rfl, .cons h h1,h2⟩
theorem oJ.length {H:Hp}{vs:List V}{ss:List Stp} (h:oJ H vs ss):vs.length=ss.length:=by
 induction h with
 | nil=>rfl
 | cons _ _ ih=>simp[ih]
def wR:R->Nat
 | .num _=>1
 | .rd _=>1
 | .bin _ a b=>wR a+wR b+2
 | .pick a b c=>wR a+wR b+wR c+2
 | .cho a _=>wR a+3
def wS:Stp->Nat
 | .r r=>wR r
 | .branch s t=>wR s+wR t+1
 | .among _=>2
 | .join _=>1
def wT (t:List Stp):Nat:=(t.map wS).sum
def Cf.w (c:Cf):Nat:=c.rds.length+c.found.length+2 * wT c.todo
theorem nu (s t:List Stp):wT (s++t)=wT s+wT t:=by unfold wT;rw[List.map_append,List.sum_append]
theorem ac5:∀r:R,1<=wR r
 | .num _=>Nat.le_refl _
 | .rd _=>Nat.le_refl _
 | .bin _ a b=>by show 1<=wR a+wR b+2;omega
 | .pick a b c=>by show 1<=wR a+wR b+wR c+2;omega
 | .cho a _=>by show 1<=wR a+3;omega
theorem ac6 (s:Stp):1<=wS s:=by
 cases s with
 | r r=>exact ac5 r
 | branch s t=>show 1<=wR s+wR t+1;omega
 | among ns=>exact(by decide:1<=2)
 | join op=>exact Nat.le_refl _
theorem PL:∀t:List Stp,t.length<=wT t
 |[]=>Nat.le_refl _
 | s::t=>by
   have:=PL t
   have:=ac6 s
   show t.length+1<=wS s+wT t
   omega
theorem V0 (d:List Rdp) (x:Str) (v:Int):(tG d x v).length<=d.length+1:=by
 unfold tG
 split
 ·rw[List.length_map];omega
 ·rw[List.length_append];exact Nat.le_refl _
theorem St1.w {kn:Kn}{a b:Cf} (h:St1 kn a b):b.w<=a.w:=by
 cases h with
 | @num t f d n=>
   show d.length+(f++[n]).length+2 * wT t<=d.length+f.length+2 * wT (t++[.r (.num n)])
   rw[nu,List.length_append];show _<=_+2 *(_+1);simp;omega
 | @rd t f d x v h=>
   have:=V0 d x v
   show(tG d x v).length+(f++[v]).length+2 * wT t<=d.length+f.length+2 * wT (t++[.r (.rd x)])
   rw[nu,List.length_append];show _<=_+2 *(_+1);simp;omega
 | @bin t f d op a b=>
   show d.length+f.length+2 * wT (t++[.join op, .r b, .r a])<=d.length+f.length+2 * wT (t++[.r (.bin op a b)])
   rw[nu,nu];show _+2 *(_+(1+(wR b+(wR a+0))))<=_+2 *(_+(wR a+wR b+2+0));omega
 | @pick t f d a b c=>
   show d.length+f.length+2 * wT (t++[.branch b c, .r a])<=d.length+f.length+2 * wT (t++[.r (.pick a b c)])
   rw[nu,nu];show _+2 *(_+(wR b+wR c+1+(wR a+0)))<=_+2 *(_+(wR a+wR b+wR c+2+0));omega
 | @cho t f d a ns=>
   show d.length+f.length+2 * wT (t++[.among ns, .r a])<=d.length+f.length+2 * wT (t++[.r (.cho a ns)])
   rw[nu,nu];show _+2 *(_+(2+(wR a+0)))<=_+2 *(_+(wR a+3+0));omega
 | @branch t f d b c v=>
   show d.length+f.length+2 * wT (t++[.r (if v>0 then b else c)])<=d.length+(f++[v]).length+2 * wT (t++[.branch b c])
   rw[nu,nu,List.length_append]
   have:wR (if v>0 then b else c)<=wR b+wR c:=by split<;>omega
   show _+2 *(_+(wR (if v>0 then b else c)+0))<=_+2 *(_+(wR b+wR c+1+0));omega
 | @among t f d ns v x h=>
   show d.length+f.length+2 * wT (t++[.r (.rd x)])<=d.length+(f++[v]).length+2 * wT (t++[.among ns])
   rw[nu,nu,List.length_append];show _+2 *(_+1)<=_+2 *(_+2);omega
 | @join t f d op u v h=>
   show d.length+(f++[op.ap u v]).length+2 * wT t<=d.length+(f++[u,v]).length+2 * wT (t++[.join op])
   rw[nu,List.length_append,List.length_append];show _+(_+1)+_<=_+(_+2)+2 *(_+1);omega
def rdK (d:List Rdp):List (Key×V):=d.map fun p=>(.inr p.1, .int p.2)
theorem Y7 (d:List Rdp) (x:Str) (v:Int):putK (rdK d) (.inr x) (.int v)=rdK (tG d x v):=by
 unfold putK tG rdK
 rw[List.any_map]
 have e:((fun kv:Key×V=>decide (kv.1=(.inr x:Key)))∘fun p:Rdp=>((.inr p.1:Key),V.int p.2))=fun p:Rdp=>decide (p.1=x):=by
  funext p
  show decide ((Sum.inr p.1:Key)=Sum.inr x)=_
  by_cases h:p.1=x
  ·rw[decide_eq_true h,decide_eq_true (by rw[h])]
  ·rw[decide_eq_false h,decide_eq_false (fun z=>h (Sum.inr.inj z))]
 rw[e]
 by_cases hc:(d.any fun p=>decide (p.1=x))=true
 ·rw[if_pos hc,if_pos hc,List.map_map,List.map_map]
  apply List.map_congr_left
  intro p _
  show(if(Sum.inr p.1:Key)=Sum.inr x then((Sum.inr p.1:Key),V.int v) else((Sum.inr p.1:Key),V.int p.2))=_
  by_cases h:p.1=x
  ·rw[if_pos (by rw[h])]
   show _=((Sum.inr (if p.1=x then(p.1,v) else p).1:Key),V.int (if p.1=x then(p.1,v) else p).2)
   rw[if_pos h]
  ·rw[if_neg (fun z=>h (Sum.inr.inj z))]
   show _=((Sum.inr (if p.1=x then(p.1,v) else p).1:Key),V.int (if p.1=x then(p.1,v) else p).2)
   rw[if_neg h]
 ·rw[if_neg hc,if_neg hc,List.map_append];rfl
def rkF (a1 a2 a3:Addr):List (Str×V):=[("todo", .ref a1),("found", .ref a2),("reads", .ref a3)]
structure RcAt (H:Hp) (a C dx a1 a2 a3:Addr) (c:Cf):Prop where
 e:H a=some (.ins C dx (rkF a1 a2 a3))
 e1:∃ws,H a1=some (.lst ws)/\oJ H ws c.todo
 e2:H a2=some (.lst (c.found.map V.int))
 e3:H a3=some (.dK (rdK c.rds))
 ne:a1≠a2
 hw:c.w<=10000
structure RkC (K:PySem.W.Frag) (C:Addr):Prop where
 cl:Cls K C
 nT:jw K C "todo"
 nF:jw K C "found"
 nR:jw K C "reads"
def V1 (H:Hp) (d:Addr) (kn:Kn):Prop:=∃kvs,H d=some (.dK kvs)/\∀x,fG kvs (.inr x)=(kn x).map V.int
theorem K4 (a1 a2 a3:Addr):List.lookup ("todo":Str) (rkF a1 a2 a3)=some (.ref a1):=rfl
theorem HW (a1 a2 a3:Addr):List.lookup ("found":Str) (rkF a1 a2 a3)=some (.ref a2):=rfl
theorem HX (a1 a2 a3:Addr):List.lookup ("reads":Str) (rkF a1 a2 a3)=some (.ref a3):=rfl
theorem aa7 (a1 a2 a3:Addr):List.lookup ("go_on":Str) (rkF a1 a2 a3)=none:=rfl
theorem CQ (a1 a2 a3:Addr):List.lookup ("lacking":Str) (rkF a1 a2 a3)=none:=rfl
def Rx:Sp:=fun vs H Q _=>∃(op:Op) (u v:Int),vs=[.str op.word, .int u, .int v]/\(op= .times->qR u v)/\Q (.int (op.ap u v)) H
def Nf (C:Addr):Sp:=fun vs H Q _=>∃(a dx b:Addr) (r:R),vs=[.ref a, .ref b]/\H a=some (.ins C dx [])/\IsR H b r/\wR r<=4000/\
 ∀a1 a2 a3 H',But [a] H H'->H a1=none->H a2=none->H a3=none->RcAt H' a C dx a1 a2 a3 ⟨[.r r],[],[]⟩->Q .non H'
def afW (C:Addr):Sp:=fun vs H Q _=>∃(a dx a1 a2 a3:Addr) (v:V) (s:Stp) (t:List Stp) (f:List Int) (d:List Rdp) (kn:Kn) (c:Cf),vs=[.ref a,v]/\RcAt H a C dx a1 a2 a3 ⟨t,f,d⟩/\Gx H v s/\(∀x,s≠ .r (.rd x))/\
 St1 kn ⟨t++[s],f,d⟩ c/\c.w<=10000/\∀H',But [a1,a2,a3] H H'->RcAt H' a C dx a1 a2 a3 c->Q .non H'
def V2 (C:Addr):Sp:=fun vs H Q _=>∃(a dx a1 a2 a3 d:Addr) (kn:Kn) (n:Nat) (c c':Cf),vs=[.ref a, .ref d]/\RcAt H a C dx a1 a2 a3 c/\V1 H d kn/\d≠a3/\StN kn n c c'/\Halt kn c'/\
 ∀H',But [a1,a2,a3] H H'->RcAt H' a C dx a1 a2 a3 c'->(c'.todo=[]->Q .non H')/\∀t x,c'.todo=t++[.r (.rd x)]->Q (.str x) H'
theorem RcAt.lists {H:Hp}{a C dx a1 a2 a3:Addr}{c:Cf} (h:RcAt H a C dx a1 a2 a3 c) {H':Hp} (b:But [a1,a2,a3] H H'):jg H H':=fun p xs q=>b p _ (fun z=>by
 obtain⟨ws,e1,_⟩:=h.e1
 have:p=a1\/p=a2\/p=a3:=by simpa using z
 rcases this with rfl | rfl | rfl
 ·rw[e1] at q;cases q
 ·rw[h.e2] at q;cases q
 ·rw[h.e3] at q;cases q) q
theorem iw {H:Hp}{p q:Addr}{o:HO} (h:upd H p o q=none):q≠p/\H q=none:=by
 by_cases e:q=p
 ·subst e;rw[ak] at h;cases h
 ·rw[ao e] at h;exact⟨e,h⟩
theorem RcAt.ins {H:Hp}{a C dx a1 a2 a3:Addr}{c:Cf} (h:RcAt H a C dx a1 a2 a3 c):a∉[a1,a2,a3]:=fun z=>by
 obtain⟨ws,e1,_⟩:=h.e1
 have z:a=a1\/a=a2\/a=a3:=by simpa using z
 have e:=h.e
 rcases z with z | z | z
 ·rw[z,e1] at e;cases e
 ·rw[z,h.e2] at e;cases e
 ·rw[z,h.e3] at e;cases e
theorem RcAt.n13 {H:Hp}{a C dx a1 a2 a3:Addr}{c:Cf} (h:RcAt H a C dx a1 a2 a3 c):a1≠a3:=fun z=>by
 obtain⟨ws,e1,_⟩:=h.e1
 have e:=h.e3
 rw[<-z,e1] at e;cases e
theorem RcAt.n23 {H:Hp}{a C dx a1 a2 a3:Addr}{c:Cf} (h:RcAt H a C dx a1 a2 a3 c):a2≠a3:=fun z=>by
 have e:=h.e3
 rw[<-z,h.e2] at e;cases e
theorem RcAt.next {H H':Hp}{a C dx a1 a2 a3:Addr}{c c':Cf}{ws:List V} (h:RcAt H a C dx a1 a2 a3 c) (b:But [a1,a2,a3] H H') (g1:H' a1=some (.lst ws)) (s:oJ H' ws c'.todo) (g2:H' a2=some (.lst (c'.found.map V.int))) (g3:H' a3=some (.dK (rdK c'.rds))) (hw:c'.w<=10000):RcAt H' a C dx a1 a2 a3 c':=
 ⟨b _ _ h.ins h.e,⟨ws,g1,s⟩,g2,g3,h.ne,hw⟩
theorem Gx.hd {H:Hp}{v:V}{s:Stp} (h:Gx H v s) (hno:∀x,s≠ .r (.rd x)):∃p k xs,v= .ref p/\H p=some (.tup (.str k::xs))/\k≠"read":=by
 cases h with
 | r h=>
   cases h with
   | num e=>exact⟨_,_,_,rfl,e,by decide +kernel⟩
   | rd e=>exact absurd rfl (hno _)
   | @bin _ _ _ op _ _ e _ _=>exact⟨_,_,_,rfl,e,by cases op<;>decide +kernel⟩
   | pick e _ _ _=>exact⟨_,_,_,rfl,e,by decide +kernel⟩
   | cho e _ _=>exact⟨_,_,_,rfl,e,by decide +kernel⟩
 | branch e _ _=>exact⟨_,_,_,rfl,e,by decide +kernel⟩
 | among e _=>exact⟨_,_,_,rfl,e,by decide +kernel⟩
 | join e=>exact⟨_,_,_,rfl,e,by decide +kernel⟩
theorem StN.halt {kn:Kn}{n:Nat}{c c':Cf} (h:StN kn n c c') (hc:Halt kn c):c=c':=by
 cases h with
 | zero=>rfl
 | succ h _=>exact(hc.no h).elim
theorem ac7 {H:Hp}{a:Addr}{o:HO} (h:H a=some o):upd H a o=H:=by
 funext b
 by_cases e:b=a
 ·subst e;rw[ak,h]
 ·rw[ao e]
theorem same_none {H H':Hp}{p:Addr} (s:aQ H H') (h:H' p=none):H p=none:=by
 cases z:H p with
 | none=>rfl
 | some o=>rw[s _ _ z] at h;cases h
end RB
namespace L2
open PySem PySem.Spec PyProof.Rows
theorem Ry {k:Key}{v:Value} (h:Hh k v=true):RelV (kV k) v:=by
 rcases iB h with⟨i,t,rfl,rfl⟩ | ⟨x,t,rfl,rfl⟩
 ·exact⟨t,rfl⟩
 ·exact⟨t,rfl⟩
theorem HY:∀{ys:List V}{its:List Value},its.length=ys.length->(∀(i:Nat) (v:Value),its[i]? =some v->∃y,ys[i]? =some y/\RelV y v)->Vals ys its
 |[],[],_,_=> .nil
 | y::ys,v::its,hl,h=>by
   obtain⟨y',e,r⟩:=h 0 v rfl
   cases e
   exact .cons r (HY (by simpa using hl) fun i u hu=>h (i+1) u (by simpa using hu))
 |[],_::_,hl,_=>by simp at hl
 | _::_,[],hl,_=>by simp at hl
theorem Kf {κ:Type}:∀{kvs:List (κ×V)}{vs:List (κ×Value)},KV kvs vs->kvs.length=vs.length/\∀(i:Nat) (k:κ) (x:Value),vs[i]? =some (k,x)->∃y,kvs[i]? =some (k,y)
 | _,_, .nil=>⟨rfl,fun i k x h=>by simp at h⟩
 | _,_, .cons (a:=p) (b:=q) h t=>by
   obtain⟨h1,h2⟩:=Kf t
   refine⟨by simp[h1],fun i k x e=> ?_⟩
   cases i with
   | zero=>cases e;exact⟨p.2,by rw[List.getElem?_cons_zero];cases p;simp only at h ⊢;rw[h.1]⟩
   | succ i=>exact h2 i k x (by simpa using e)
section
variable {X:Cx}
theorem PN (hc:X.calm=true):sG X (.type "list") (fun xs H Q=>∃a kvs,xs=[.ref a]/\H a=some (.dK kvs)/\∀l,H l=none->Q (.ref l) (upd H l (.lst (kvs.map fun kv=>kV kv.1)))):=by
 intro pins s σ H xs us Q I r h
 obtain⟨a,kvs,rfl,ha,q⟩:=h
 obtain⟨u,rfl,rx⟩:=vals1 r
 cases rx
 obtain⟨hz,lo,vs,hkv,hd⟩:=(show d8 X.prog X.w H s.heap a (.dK kvs) from I.hok a _ ha)
 obtain⟨ep,hat⟩:=hd.dictAt
 obtain⟨hl,hk⟩:=Kf hkv
 refine PySem.W.kdl_call (PySem.W.kdl_dict lo) (I.ok.hd hc) hat (by rw[<-hl];exact hz) fun h' tk acc c kp e hacc=> ?_
 have hv:Vals (kvs.map fun kv=>kV kv.1) acc.toList:=HY (by rw[List.length_map,Array.length_toList,hacc.1,hl]) fun i v hv=>by
  obtain⟨k,x,e1,e2⟩:=hacc.2 i v (by rw[<-Array.getElem?_toList];exact hv)
  obtain⟨y,hy⟩:=hk i k x e1
  exact⟨kV k,by rw[List.getElem?_map,hy];rfl,Ry e2⟩
 exact⟨.ref s.heap.objs.size,_,I.laid (t':=tk) kp (Nat.le_refl _) (show d8 X.prog X.w _ h' _ (.lst (kvs.map fun kv=>kV kv.1)) from⟨by rw[List.length_map];exact hz,acc.toList,c,hv,by simpa using e⟩),rfl,q _ (I.hok.fresh (Nat.le_refl _))⟩
theorem V3 (hc:X.calm=true):sH X (.type "list") (fun xs H Q=>∃a kvs,xs=[.ref a]/\H a=some (.dK kvs)/\∀l,H l=none->Q (.ref l) (upd H l (.lst (kvs.map fun kv=>kV kv.1)))):=⟨PN hc⟩
end
end L2
namespace RB
open PySem L2 PySem.Spec PyProof.Rows
def R.In (ns:List Str):R->Prop
 | .num _=>True
 | .rd x=>x∈ns
 | .bin _ a b=>a.In ns/\b.In ns
 | .pick a b c=>a.In ns/\b.In ns/\c.In ns
 | .cho a ms=>a.In ns/\∀x∈ms,x∈ns
theorem Ia {S:List Addr}{H H':Hp}{q:Addr} (b:But S H H') (h:H' q=none) (hS:q∉S):H q=none:=by
 cases z:H q with
 | none=>rfl
 | some o=>rw[b _ _ hS z] at h;cases h
end RB
namespace L2
open PySem PySem.Spec PyProof.Rows
section
variable {X:Cx}{e st:Expr}{te ts:TE}{pos p2:Pos}
end
end L2
namespace RB
open PySem L2 PySem.Spec PyProof.Rows
def Chn (r:R):Kn->List Rdp->Prop
 | _,[]=>True
 | kn,p::us=>ev kn r= .inl p.1/\Chn r (kn.put p.1 p.2) us
theorem Chn.le {r:R}:∀{us:List Rdp}{kn:Kn},Chn r kn us->Kn.Le kn (kn.puts us)
 |[],kn,_=>Kn.Le.refl _
 | p::us,kn,h=>(Kn.vI (qH h.1)).trans (Chn.le (us:=us) h.2)
theorem Chn.up {a r:R}:∀{us:List Rdp}{kn:Kn},(∀kn' x,Kn.Le kn kn'->ev kn' a= .inl x->ev kn' r= .inl x)->Chn a kn us->Chn r kn us
 |[],_,_,_=>trivial
 | p::us,kn,h,g=>⟨h kn p.1 (Kn.Le.refl _) g.1,Chn.up (us:=us) (fun kn' x l e=>h kn' x ((Kn.vI (qH g.1)).trans l) e) g.2⟩
theorem Kn.fW (kn:Kn) (us vs:List Rdp):kn.puts (us++vs)=(kn.puts us).puts vs:=by
 induction us generalizing kn with
 | nil=>rfl
 | cons u us ih=>exact ih _
theorem Chn.app {r:R}:∀{us vs:List Rdp}{kn:Kn},Chn r kn us->Chn r (kn.puts us) vs->Chn r kn (us++vs)
 |[],_,_,_,h=>h
 | p::us,vs,kn,g,h=>⟨g.1,Chn.app (us:=us) g.2 h⟩
end RB
namespace L2
open PySem PySem.Spec PyProof.Rows
section
variable {X:Cx}{tg:Expr}
end
section
variable {X:Cx}
theorem PX:sG X (.type "dict") (fun xs H Q=>∃a kvs,xs=[.ref a]/\Rd H a (.dK kvs)/\∀p,H p=none->Q (.ref p) (upd H p (.dK kvs))):=by
 intro pins s σ H xs us Q I r h
 obtain⟨a,kvs,rfl,ha,q⟩:=h
 obtain⟨u,rfl,rx⟩:=vals1 r
 cases rx
 obtain⟨hz,lo,vs,hkv,hd⟩:=(show d8 X.prog X.w H s.heap a (.dK kvs) from ha.ok I.hok)
 have hl:=(Kf hkv).1
 refine kt_call_dict lo hd (Nat.le_trans (Nat.le_of_eq hl.symm) hz) fun h' hd' hs'=> ?_
 have keep:∀b u,s.heap.get? b=some u->h'.get? b=some u:=fun b u e=>by
  have hb:b≠s.heap.objs.size:=Nat.ne_of_lt (Heap.lt_size e)
  rw[hs'.2 b hb];exact Heap.get?_push_of_some _ e
 refine⟨.ref s.heap.objs.size,_,I.laid (t':=s.toks) keep (Nat.le_refl _) (show d8 X.prog X.w _ h' _ (.dK kvs) from⟨hz, ?_,vs,hkv,hd'⟩),rfl,q _ (I.hok.fresh (Nat.le_refl _))⟩
 exact beq_eq_false_iff_ne.mpr (Nat.ne_of_gt I.big)
theorem Ng:sH X (.type "dict") (fun xs H Q=>∃a kvs,xs=[.ref a]/\Rd H a (.dK kvs)/\∀p,H p=none->Q (.ref p) (upd H p (.dK kvs))):=⟨PX⟩
end
theorem V4 {κ:Type} [DecidableEq κ]:∀{vs:List (κ×Value)}{i:Nat}{k:κ}{u:Value},(vs.map (·.1)).Nodup->vs[i]? =some (k,u)->valueAt vs k=some u
 |[],i,k,u,_,h=>by simp at h
 | p::vs,i,k,u,hn,h=>by
   rw[List.map_cons,List.nodup_cons] at hn
   unfold valueAt
   cases i with
   | zero=>
     have:p=(k,u):=by simpa using h
     subst this
     simp
   | succ i=>
     have h':vs[i]? =some (k,u):=by simpa using h
     have hk:k∈vs.map (·.1):=List.mem_map.mpr ⟨(k,u),List.mem_of_getElem? h',rfl⟩
     have hne:¬p.1=k:=fun z=>hn.1 (z▸hk)
     have ih:=V4 hn.2 h'
     unfold valueAt at ih
     simp[hne] at ih ⊢
     exact ih
def Ez:V->Bool
 | .byt _=>false
 | .flt _=>false
 | _=>true
theorem Ib {A:Around}{s:Shared}{x:V}{u v:Value} (hx:Ez x=true) (r:RelV x u) (r':RelV x v):SeqAt.EqAt A s u v true:=by
 cases x with
 | int i=>obtain⟨t,rfl⟩:=r;obtain⟨t',rfl⟩:=r';have:=SeqAt.EqAt.int_int (A:=A) (s:=s) i t i t';simpa using this
 | str i=>obtain⟨t,rfl⟩:=r;obtain⟨t',rfl⟩:=r';have:=SeqAt.EqAt.str_str (A:=A) (s:=s) i t i t';simpa using this
 | non=>cases r;cases r';exact SeqAt.EqAt.same _
 | bl b=>cases r;cases r';exact SeqAt.EqAt.same _
 | ref a=>cases r;cases r';exact SeqAt.EqAt.same _
 | ty a=>cases r;cases r';exact SeqAt.EqAt.same _
 | byt a=>exact absurd (show false=true from hx) Bool.false_ne_true
 | flt a=>exact absurd (show false=true from hx) Bool.false_ne_true
theorem P0 {κ:Type}:∀{kvs:List (κ×V)}{vs:List (κ×Value)},KV kvs vs->∀(i:Nat) (k:κ) (x:Value),vs[i]? =some (k,x)->∃y,kvs[i]? =some (k,y)/\RelV y x
 | _,_, .nil=>fun i k x h=>by simp at h
 | _,_, .cons (a:=p) (b:=q) h t=>fun i k x e=>by
   cases i with
   | zero=>cases e;exact⟨p.2,by rw[List.getElem?_cons_zero];cases p;simp only at h ⊢;rw[h.1],h.2⟩
   | succ i=>exact P0 t i k x (by simpa using e)
theorem V5 {κ:Type}:∀{kvs:List (κ×V)}{vs:List (κ×Value)},KV kvs vs->∀(i:Nat) (k:κ) (y:V),kvs[i]? =some (k,y)->∃x,vs[i]? =some (k,x)/\RelV y x
 | _,_, .nil=>fun i k x h=>by simp at h
 | _,_, .cons (a:=p) (b:=q) h t=>fun i k x e=>by
   cases i with
   | zero=>cases e;exact⟨q.2,by rw[List.getElem?_cons_zero];cases q;simp only at h ⊢;rw[h.1],h.2⟩
   | succ i=>exact V5 t i k x (by simpa using e)
theorem Rz {κ:Type} [DecidableEq κ] {A:Around}{s:Shared}{kb:List (κ×Value)}:∀{ka:List (κ×Value)},(∀k u,(k,u)∈ka->∃y,valueAt kb k=some y/\SeqAt.EqAt A s u y true)->PySem.W.KeqHits A s kb ka true
 |[],_=> .nil
 | (k,u)::r,h=>by
   obtain⟨y,h1,h2⟩:=h k u (by simp)
   exact PySem.W.KeqHits.hit (e:=true) (b:=true) h1 h2 (Rz fun k u m=>h k u (by simp[m]))
def CT (P:Program) (w:World) (A:Around) (s:Shared) (y x:Value):Prop:=∀(E:Value->Shared->Prop) (Q:Bool->Shared->Prop),Q true s->wpAny (model P w) A (eqBool y x) Q E s
theorem CT.of {P:Program}{w:World}{A:Around}{s:Shared}{y x:Value} (h:SeqAt.EqAt A s y x true):CT P w A s y x:=fun E Q q=>h P w E Q q
theorem Qa {A:Around}{s:Shared}{P:Program}{w:World}{a b:Addr}{kvs:List (Key×V)}{va vb:List (Key×Value)} (la:(a==sysModules)=false) (lb:(b==sysModules)=false) (ka:KV kvs va) (kb:KV kvs vb) (da:s.heap.DictOf (jc P w) a va) (db:s.heap.DictOf (jc P w) b vb) (hpl:∀p∈kvs,Ez p.2=true) (hu:A.units<cLine):CT P w A s (.ref a) (.ref b):=fun E Q q=>by
 by_cases hab:a=b
 ·subst hab;exact SeqAt.EqAt.same (.ref a) P w E Q q
 have hn:(vb.map (·.1)).Nodup:=let ⟨_,_,_,_,_,_,_,_,hn⟩:=db;hn
 have hl:va.length=vb.length:=by rw[<-(Kf ka).1,<-(Kf kb).1]
 unfold eqBool
 refine wpAny_holding (wpAny_ite_split (fun z=>absurd (by have:=eq_of_beq z;injection this) hab) fun _=>wpAny_bind ?_)
 refine PySem.W.keq_eq (r:=true) la lb da db hu (fun _=>Rz fun k u m=> ?_) (wpAny_truthy_bool ?_)
 ·obtain⟨i,hi⟩:=List.getElem?_of_mem m
  obtain⟨y,hy,ry⟩:=P0 ka i k u hi
  obtain⟨x,hx,rx⟩:=V5 kb i k y hy
  exact⟨x,V4 hn hx,Ib (hpl (k,y) (List.mem_of_getElem? hy)) ry rx⟩
 ·rw[hl];simpa using q
def EqV (H:Hp) (x y:V):Prop:=(x=y/\Ez x=true)\/∃a b kvs,x= .ref a/\y= .ref b/\Rd H a (.dK kvs)/\Rd H b (.dK kvs)/\∀p∈kvs,Ez p.2=true
section
variable {X:Cx}
theorem Qc {ts:List Str}:∀{us:List Value},Vals (ts.map V.str) us->StrsAre us ts:=by
 induction ts with
 | nil=>intro us r;cases r;exact .nil
 | cons n ns ih=>
   intro us r
   rw[List.map_cons] at r
   cases r with
   | cons r1 r2=>
     obtain⟨t,e⟩:=r1
     subst e
     exact .cons n t (ih r2)
end
end L2
namespace RB
open PySem L2 PySem.Spec PyProof.Rows
end RB
namespace L2
open PySem PySem.Spec PyProof.Rows
section
variable {X:Cx}{o e:Expr}{td ty:TE}{apos cpos:Pos}
end
end L2
namespace RB
open PySem L2 PySem.Spec PyProof.Rows
theorem Kg {κ:Type} [DecidableEq κ] (kvs:List (κ×V)) (k:κ) (v:V):(putK kvs k v).map (·.1)=if(kvs.any fun kv=>decide (kv.1=k))=true then kvs.map (·.1) else kvs.map (·.1)++[k]:=by
 unfold putK
 split
 ·rw[List.map_map]
  apply List.map_congr_left
  intro p _
  show(if p.1=k then(p.1,v) else p).1=p.1
  split<;>rfl
 ·rw[List.map_append];rfl
structure nC (kvs:List (Key×V)) (ks:List Str):Prop where
 k:kvs.map (·.1)=ks.map Sum.inr
 nd:ks.Nodup
theorem nC.len {kvs:List (Key×V)}{ks:List Str} (h:nC kvs ks):kvs.length=ks.length:=by
 have:=congrArg List.length h.k
 rwa [List.length_map,List.length_map] at this
theorem K5 {kvs:List (Key×V)}{ks:List Str} (h:nC kvs ks) (x:Str):(kvs.any fun kv=>decide (kv.1=(.inr x:Key)))=decide (x∈ks):=by
 have e:(kvs.any fun kv=>decide (kv.1=(.inr x:Key)))=(kvs.map (·.1)).any (fun k=>decide (k=(.inr x:Key))):=by rw[List.any_map];rfl
 rw[e,h.k,List.any_map]
 clear e h
 induction ks with
 | nil=>rfl
 | cons y ks ih=>
   rw[List.any_cons,ih]
   by_cases hy:x=y
   ·subst hy;simp
   ·have:¬(y=x):=fun z=>hy z.symm
    simp[hy,this]
theorem nC.none {kvs:List (Key×V)}{ks:List Str} (h:nC kvs ks) {x:Str}:fG kvs (.inr x)=none ↔ x∉ks:=by
 have e:=K5 h x
 rw[xO] at e
 constructor
 ·intro z m
  rw[z] at e
  simp[m] at e
 ·intro m
  cases z:fG kvs (.inr x) with
  | none=>rfl
  | some v=>rw[z] at e;simp[m] at e
theorem nC.tH {kvs:List (Key×V)}{ks:List Str} (h:nC kvs ks) {x:Str} (hx:x∉ks) (v:V):nC (putK kvs (.inr x) v) (ks++[x]):=by
 refine⟨?_, ?_⟩
 ·rw[Kg,K5 h x,decide_eq_false hx,if_neg (by decide),h.k,List.map_append];rfl
 ·rw[List.nodup_append]
  exact⟨h.nd,by simp,fun a ha b hb=>by
   have:b=x:=by simpa using hb
   rw[this];exact fun z=>hx (z▸ha)⟩
theorem nC.Bc {kvs:List (Key×V)}{ks:List Str} (h:nC kvs ks) {x:Str} (hx:x∈ks) (v:V):nC (putK kvs (.inr x) v) ks:=by
 refine⟨?_,h.nd⟩
 rw[Kg,K5 h x,decide_eq_true hx,if_pos rfl,h.k]
theorem R.In.mono {ns ms:List Str} (h:∀x∈ns,x∈ms):∀{r:R},r.In ns->r.In ms
 | .num _,_=>trivial
 | .rd _,i=>h _ i
 | .bin _ _ _,i=>⟨i.1.mono h,i.2.mono h⟩
 | .pick _ _ _,i=>⟨i.1.mono h,i.2.1.mono h,i.2.2.mono h⟩
 | .cho _ _,i=>⟨i.1.mono h,fun x hx=>h x (i.2 x hx)⟩
abbrev Rn:=Str->Option R
def Rn.put (rc:Rn) (x:Str) (r:R):Rn:=fun y=>if y=x then some r else rc y
section
variable {H:Hp}{kg kc:List (Key×V)}{n:Nat}{gv:Kn}{rc:Rn}
theorem oX {x y:Str} (h:¬x=y):¬(Sum.inr x:Key)=Sum.inr y:=fun z=>h (Sum.inr.inj z)
end
structure mW (r:R) (kn:Kn) (us:List Rdp) (v:Int):Prop where
 c:Chn r kn us
 e:ev (kn.puts us) r= .inr v
theorem RC {n:Int}{kn:Kn}:mW (.num n) kn [] n:=⟨trivial,rfl⟩
theorem Y8 {kn:Kn}{x:Str}{v:Int} (h:kn x=some v):mW (.rd x) kn [] v:=⟨trivial,by show look kn x=_;unfold look;rw[h]⟩
theorem Y9 {kn:Kn}{x:Str}{v:Int} (h:kn x=none):mW (.rd x) kn [(x,v)] v:=by
 refine⟨⟨by show look kn x=_;unfold look;rw[h],trivial⟩, ?_⟩
 show look (kn.put x v) x=_
 unfold look Kn.put
 rw[if_pos rfl]
theorem RD {op:Op}{a b:R}{kn:Kn}{us vs:List Rdp}{u v:Int} (ha:mW a kn us u) (hb:mW b (kn.puts us) vs v):mW (.bin op a b) kn (us++vs) (op.ap u v):=by
 have ua:∀kn' x,ev kn' a= .inl x->ev kn' (.bin op a b)= .inl x:=fun kn' x e=>by simp only[ev];rw[e]
 have ub:∀kn' x,Kn.Le (kn.puts us) kn'->ev kn' b= .inl x->ev kn' (.bin op a b)= .inl x:=fun kn' x l e=>by simp only[ev];rw[lX l ha.e];simp only;rw[e]
 exact⟨(ha.c.up fun kn' x _ e=>ua kn' x e).app (hb.c.up ub),by rw[Kn.fW];simp only[ev];rw[lX hb.c.le ha.e];simp only;rw[hb.e]⟩
theorem Nh {a b c:R}{kn:Kn}{us vs:List Rdp}{u v:Int} (ha:mW a kn us u) (hb:mW (if u>0 then b else c) (kn.puts us) vs v):mW (.pick a b c) kn (us++vs) v:=by
 have ua:∀kn' x,ev kn' a= .inl x->ev kn' (.pick a b c)= .inl x:=fun kn' x e=>by simp only[ev];rw[e]
 have e:∀kn':Kn,Kn.Le (kn.puts us) kn'->ev kn' (.pick a b c)=ev kn' (if u>0 then b else c):=fun kn' l=>by
  simp only[ev];rw[lX l ha.e];simp only;split<;>rfl
 exact⟨(ha.c.up fun kn' x _ e=>ua kn' x e).app (hb.c.up fun kn' x l z=>by rw[e kn' l];exact z),by rw[Kn.fW,e _ hb.c.le];exact hb.e⟩
theorem RG {a:R}{ns:List Str}{x:Str}{kn:Kn}{us vs:List Rdp}{u v:Int} (ha:mW a kn us u) (hx:rA ns u=some x) (hb:mW (.rd x) (kn.puts us) vs v):mW (.cho a ns) kn (us++vs) v:=by
 have ua:∀kn' x,ev kn' a= .inl x->ev kn' (.cho a ns)= .inl x:=fun kn' x e=>by simp only[ev];rw[e]
 have e:∀kn':Kn,Kn.Le (kn.puts us) kn'->ev kn' (.cho a ns)=ev kn' (.rd x):=fun kn' l=>by
  simp only[ev];rw[lX l ha.e];simp only;rw[hx]
 exact⟨(ha.c.up fun kn' x _ e=>ua kn' x e).app (hb.c.up fun kn' x l z=>by rw[e kn' l];exact z),by rw[Kn.fW,e _ hb.c.le];exact hb.e⟩
theorem uA {x:Str}{u:Int}:∀{ps:List Rdp}{kn:Kn},kn.puts ps x=some u->(x,u)∈ps\/kn x=some u
 |[],kn,h=> .inr h
 | p::ps,kn,h=>by
   rcases uA (ps:=ps) h with z | z
   ·exact .inl (List.mem_cons_of_mem _ z)
   ·unfold Kn.put at z
    by_cases e:x=p.1
    ·rw[if_pos e] at z
     left
     have:p=(x,u):=by rw[e];exact Prod.ext rfl (Option.some.inj z)
     rw[this];simp
    ·rw[if_neg e] at z;exact .inr z
theorem Ie {x:Str}:∀{ps:List Rdp}{kn:Kn},kn.puts ps x=none->x∉ps.map (·.1)/\kn x=none
 |[],kn,h=>⟨by simp,h⟩
 | p::ps,kn,h=>by
   obtain⟨z1,z2⟩:=Ie (ps:=ps) h
   unfold Kn.put at z2
   by_cases e:x=p.1
   ·rw[if_pos e] at z2;cases z2
   ·rw[if_neg e] at z2
    exact⟨by rw[List.map_cons,List.mem_cons];exact fun w=>w.elim e z1,z2⟩
structure Rows (kn:Kn) (ps:List Rdp):Prop where
 s:∀p∈ps,kn p.1=some p.2
 nd:(ps.map (·.1)).Nodup
theorem Rows.le {kn kn':Kn}{ps:List Rdp} (h:Rows kn ps) (l:Kn.Le kn kn'):Rows kn' ps:=⟨fun p hp=>l _ _ (h.s p hp),h.nd⟩
theorem ji:∀{ws ns:List Str},ws.Nodup->(∀x∈ws,x∈ns)->ws.length<=ns.length
 |[],_,_,_=>Nat.zero_le _
 | w::ws,ns,nd,h=>by
   rw[List.nodup_cons] at nd
   have hw:=h w (by simp)
   have ih:=ji (ws:=ws) (ns:=ns.erase w) nd.2 fun x hx=>by
    have hne:x≠w:=fun e=>nd.1 (by rw[<-e];exact hx)
    exact(List.mem_erase_of_ne hne).mpr (h x (by simp[hx]))
   rw[List.length_erase_of_mem hw] at ih
   have:=List.length_pos_of_mem hw
   simp only[List.length_cons]
   omega
theorem Rows.look {kn:Kn}{ps:List Rdp}{x:Str}{v:Int} (h:Rows kn ps) (hx:kn x=some v):if(x,v)∈ps then mW (.rd x) (kn0.puts ps) [] v else mW (.rd x) (kn0.puts ps) [(x,v)] v/\Rows kn (ps++[(x,v)]):=by
 by_cases hm:(x,v)∈ps
 ·rw[if_pos hm]
  cases e:kn0.puts ps x with
  | none=>exact absurd (List.mem_map.mpr ⟨_,hm,rfl⟩) (Ie e).1
  | some u=>
    rcases uA e with z | z
    ·have:=h.s _ z
     rw[hx] at this
     cases this
     exact Y8 e
    ·cases z
 ·rw[if_neg hm]
  have hn:kn0.puts ps x=none:=by
   cases e:kn0.puts ps x with
   | none=>rfl
   | some u=>
     rcases uA e with z | z
     ·have:=h.s _ z
      rw[hx] at this
      cases this
      exact absurd z hm
     ·cases z
  refine⟨Y9 hn,fun p hp=> ?_, ?_⟩
  ·rcases List.mem_append.mp hp with z | z
   ·exact h.s p z
   ·have:p=(x,v):=by simpa using z
    rw[this];exact hx
  ·rw[List.map_append,List.nodup_append]
   exact⟨h.nd,by simp,fun a ha b hb=>by
    have:b=x:=by simpa using hb
    rw[this];exact fun z=>(Ie hn).1 (z▸ha)⟩
abbrev Rm:=Str->Option (R×List Rdp×Int)
def Rm.put (rm:Rm) (x:Str) (q:R×List Rdp×Int):Rm:=fun y=>if y=x then some q else rm y
def Gy (X:List Addr) (H:Hp) (b:Addr) (q:R×List Rdp×Int):Prop:=∃br l as,H b=some (.tup [.ref br, .ref l, .int q.2.2])/\IsR H br q.1/\H l=some (.lst (as.map V.ref))/\iC H as q.2.1/\l∉X
section
variable {X:List Addr}{H H':Hp}{st wd rd:Addr}{n:Nat}{gv:Kn}{rc:Rn}{kn:Kn}{rm:Rm}
theorem Gy.but {S:List Addr}{b:Addr}{q:R×List Rdp×Int} (h:Gy X H b q) (bt:But S H H') (tp:jg H H') (hs:∀y∈S,y∈X\/∀xs,H y≠some (.lst xs)):Gy X H' b q:=by
 obtain⟨br,l,as,e,r,el,rs,hx⟩:=h
 exact⟨br,l,as,tp _ _ e,r.tups tp,bt _ _ (fun z=>(hs l z).elim hx fun w=>w _ el) el,rs.tups tp,hx⟩
end
section
variable {H:Hp}{s l h:Addr}{du wr:V}
end
section
variable {H H':Hp}{s l h:Addr}{kn:Kn}{ps:List Rdp}
end
def opK (u v:Int):List (Key×V):=[(.inr "plus", .int (u+v)),(.inr "minus", .int (u - v)),(.inr "times", .int (u * v)),(.inr "most", .int (if v>u then v else u))]
theorem Zh (op:Op) {H:Hp}{p:Addr}{u v:Int} (z:H p=some (.dK (pP [] (opK u v)))):cD H p (.str op.word) (some (.int (op.ap u v))):=by
 cases op
 ·exact cD.k (k:= .inr "plus") z
 ·exact cD.k (k:= .inr "minus") z
 ·exact cD.k (k:= .inr "times") z
 ·exact cD.k (k:= .inr "most") z
def rdD (p:Rdp):PyData:= .tuple [.str p.1, .int p.2]
theorem uB {K:PySem.W.Frag}{H:Hp}:∀{as:List Addr}{ps:List Rdp},iC H as ps->wH K H (as.map V.ref) (ps.map rdD)
 | _,_, .nil=> .nil
 | _,_, .cons h t=> .cons (.tup (SqT.of h) (.cons (.str _) (.cons (.int _) .nil))) (uB t)
theorem RJ:∀ps:List Rdp,(∀p∈ps,oG p.1)->PyData.canLayAll0 (ps.map rdD)=true/\PyData.depthAll (ps.map rdD)<=4
 |[],_=>⟨rfl,by decide⟩
 | p::r,h=>by
   obtain⟨h1,h2⟩:=RJ r fun y hy=>h y (List.mem_cons_of_mem _ hy)
   have hs:=HS (h p List.mem_cons_self)
   constructor
   ·show((PyData.strOk p.1&&(true&&true))&&PyData.canLayAll0 _)=true
    rw[h1,hs];rfl
   ·have e1:(rdD p).depth<=4:=by simp only[rdD,PyData.depthAll,PyData.depth];omega
    simp only[List.map_cons,PyData.depthAll]
    omega
theorem Qd {ps:List Rdp} (h:∀p∈ps,oG p.1):SeqAt.shaped (.list (ps.map rdD))=true:=by
 obtain⟨h1,h2⟩:=RJ ps h
 have h4:(PyData.list (ps.map rdD)).depth<=64:=by simp only[PyData.depth];omega
 have h5:(PyData.list (ps.map rdD)).canLay0=true:=by simp only[PyData.canLay0];exact h1
 show(_&&decide _)=true
 rw[h5,decide_eq_true h4];rfl
theorem Gm {ns:List Str}:∀{r:R}{kn:Kn}{x:Str},r.In ns->ev kn r= .inl x->x∈ns
 | .num n,kn,x,i,h=>by cases h
 | .rd y,kn,x,i,h=>by obtain⟨rfl,_⟩:=uz h;exact i
 | .bin op a b,kn,x,i,h=>by
   simp only[ev] at h
   cases ea:ev kn a with
   | inl y=>rw[ea] at h;cases h;exact Gm i.1 ea
   | inr u=>
     rw[ea] at h
     cases eb:ev kn b with
     | inl y=>rw[eb] at h;cases h;exact Gm i.2 eb
     | inr v=>rw[eb] at h;cases h
 | .pick a b c,kn,x,i,h=>by
   simp only[ev] at h
   cases ea:ev kn a with
   | inl y=>rw[ea] at h;cases h;exact Gm i.1 ea
   | inr u=>
     rw[ea] at h
     simp only at h
     split at h
     ·exact Gm i.2.1 h
     ·exact Gm i.2.2 h
 | .cho a ms,kn,x,i,h=>by
   simp only[ev] at h
   cases ea:ev kn a with
   | inl y=>rw[ea] at h;cases h;exact Gm i.1 ea
   | inr u=>
     rw[ea] at h
     simp only at h
     cases ep:rA ms u with
     | none=>rw[ep] at h;cases h
     | some y=>
       rw[ep] at h
       obtain⟨rfl,_⟩:=uz h
       exact i.2 _ (List.mem_of_getElem? ep)
section
variable {X:List Addr}{H:Hp}{h g c st wd rd:Addr}{n:Nat}{gv:Kn}{rc:Rn}{kn:Kn}{rm:Rm}
theorem vJ {d:Addr}{kvs:List (Key×V)}{o:HO} (e:H d=some (.dK kvs)):jg H (upd H d o):=fun y xs z=>(ao (fun w=>by rw[w,e] at z;cases z)).trans z
theorem vK {kw:List (Key×V)} (v4:∀y,fG kw (.inr y)=(kn y).map V.int) (x:Str) (v:Int):∀y,fG (putK kw (.inr x) (.int v)) (.inr y)=((kn.put x v) y).map V.int:=fun y=>by
 rw[lE]
 unfold Kn.put
 by_cases z:y=x
 ·rw[if_pos (by rw[z]),if_pos z];rfl
 ·rw[if_neg (oX z),if_neg z];exact v4 y
end
theorem V6 {r:R}{ns:List Str} (hi:r.In ns):∀{ps:List Rdp}{kn:Kn},Chn r kn ps->∀p∈ps,p.1∈ns
 |[],_,_,p,hp=>by cases hp
 | q::ps,kn,c,p,hp=>by
   rcases List.mem_cons.mp hp with z | z
   ·rw[z];exact Gm hi c.1
   ·exact V6 hi (ps:=ps) c.2 p z
theorem Gy.same {X:List Addr}{H H':Hp}{b:Addr}{q:R×List Rdp×Int} (r:Gy X H b q) (s:aQ H H'):Gy X H' b q:=r.but (S:=[]) (But.of_same s) (aQ.tups s) (by simp)
theorem zx {r:R}:∀{ps:List Rdp}{kn:Kn},Chn r kn ps->(∀p∈ps,kn p.1=none)/\(ps.map (·.1)).Nodup
 |[],_,_=>⟨by simp,by simp⟩
 | q::ps,kn,c=>by
   obtain⟨h1,h2⟩:=zx (ps:=ps) c.2
   have h0:=qH c.1
   have h3:∀p∈ps,p.1≠q.1/\kn p.1=none:=fun p hp=>by
    have:=h1 p hp
    unfold Kn.put at this
    by_cases z:p.1=q.1
    ·rw[if_pos z] at this;cases this
    ·rw[if_neg z] at this;exact⟨z,this⟩
   refine⟨fun p hp=> ?_, ?_⟩
   ·rcases List.mem_cons.mp hp with z | z
    ·rw[z];exact h0
    ·exact(h3 p z).2
   ·rw[List.map_cons,List.nodup_cons]
    refine⟨fun hm=> ?_,h2⟩
    obtain⟨p,hp,e⟩:=List.mem_map.mp hm
    exact(h3 p hp).1 e
theorem Ni {kvs:List (Key×V)}{ks:List Str} (h:nC kvs ks) {k:Key}{v:V} (m:(k,v)∈kvs):fG kvs k=some v:=by
 obtain⟨i,hi⟩:=List.getElem?_of_mem m
 have nd:(kvs.map (·.1)).Nodup:=by
  rw[h.k]
  exact List.Pairwise.map _ (fun a b (e:a≠b) (z:(Sum.inr a:Key)=Sum.inr b)=>e (Sum.inr.inj z)) h.nd
 clear h
 induction kvs generalizing i with
 | nil=>cases m
 | cons q r ih=>
   rw[List.map_cons,List.nodup_cons] at nd
   rcases List.mem_cons.mp m with z | z
   ·rw[<-z];exact kJ rfl
   ·have hne:¬q.1=k:=fun w=>nd.1 (by rw[w];exact List.mem_map.mpr ⟨_,z,rfl⟩)
    rw[kO hne]
    obtain⟨j,hj⟩:=List.getElem?_of_mem z
    exact ih z j hj nd.2
end RB
namespace L2
open PySem PySem.Spec PyProof.Rows
section
variable {prog:Program}{w:World}{A:Around}{E:Value->Shared->Prop}{s:Shared}
theorem K6 {j t:Addr}{k:Nat}{vs:Array Value}{v:Value}{Q:Value->Shared->Prop} (hj:IsTupIter s.heap j t k) (ht:IsTup s.heap t vs) (hv:vs[k]? =some v)
 (q:∀g,IsTupIter g j t (k+1)->Heap.SameBut j s.heap g->Q v {s with heap:=g}):wpAny (model prog w) A (Builtin.SmallTypes.nextOf (.ref j)) Q E s:=by
 have ty:=hj.typeIs
 obtain⟨oj,ej,cj,dj⟩:=hj
 obtain⟨ot,et,_,nt,dt⟩:=ht
 unfold Builtin.SmallTypes.nextOf
 refine wpAny_bind (wpAny_callSpecial?_slot (name:=Str.ofString "__next__") ty slot_tupleiter_next (wpAny_call_entry slot_tupleiter_next ty entry_tupleiter_next ?_ (args_tupleiter_next _)))
 show wpAny _ _ (field (.ref j) 0>>=_) _ _ s
 refine wpAny_bind (wpAny_field ej dj (x:= .ref t) rfl ?_)
 show wpAny _ _ (if(Value.ref t==Value.none)=true then _ else _) _ _ _
 rw[if_neg (by intro z;cases z)]
 show wpAny _ _ (field (.ref j) 1>>=_) _ _ s
 refine wpAny_bind (wpAny_field ej dj (x:= .int k 0) rfl ?_)
 show wpAny _ _ (seqItems? (.ref t)>>=_) _ _ _
 refine wpAny_bind (wpAny_seqItems et dt ?_)
 simp only[hv,Int.toNat_natCast]
 refine wpAny_bind (wpAny_setField ej dj (by simp) (wpAny_pure ⟨v,rfl,wpAny_pure (q _ ?_ (Heap.SameBut.update ..))⟩))
 refine⟨_,Heap.get?_update_self _ ej (Obj.isFreed_of_fields (Obj.data_mapFields dj _)),(Obj.cls_mapFields ..).trans cj, ?_⟩
 rw[Obj.data_mapFields dj];simp[rawInt]
theorem RK {j t:Addr}{k:Nat}{vs:Array Value}{Q:Value->Shared->Prop} (hA:A.handled=none) (hj:IsTupIter s.heap j t k) (ht:IsTup s.heap t vs) (hv:vs[k]? =none)
 (q:∀g b,Heap.ExtBut j s.heap g->(∃ob,g.get? b=some ob/\ob.cls= .type "StopIteration")->E (.ref b) {s with heap:=g}):wpAny (model prog w) A (Builtin.SmallTypes.nextOf (.ref j)) Q E s:=by
 have ty:=hj.typeIs
 obtain⟨oj,ej,cj,dj⟩:=hj
 obtain⟨ot,et,_,nt,dt⟩:=ht
 unfold Builtin.SmallTypes.nextOf
 refine wpAny_bind (wpAny_callSpecial?_slot (name:=Str.ofString "__next__") ty slot_tupleiter_next (wpAny_call_entry slot_tupleiter_next ty entry_tupleiter_next ?_ (args_tupleiter_next _)))
 show wpAny _ _ (field (.ref j) 0>>=_) _ _ s
 refine wpAny_bind (wpAny_field ej dj (x:= .ref t) rfl ?_)
 show wpAny _ _ (if(Value.ref t==Value.none)=true then _ else _) _ _ _
 rw[if_neg (by intro z;cases z)]
 show wpAny _ _ (field (.ref j) 1>>=_) _ _ s
 refine wpAny_bind (wpAny_field ej dj (x:= .int k 0) rfl ?_)
 show wpAny _ _ (seqItems? (.ref t)>>=_) _ _ _
 refine wpAny_bind (wpAny_seqItems et dt ?_)
 simp only[hv,Int.toNat_natCast]
 refine wpAny_bind (wpAny_rule (wpAny_bind (wpAny_setField ej dj (by simp) ?_)))
 show wpAny _ _ (newExc (.type "StopIteration") []>>=_) _ _ _
 refine wpAny_bind ?_
 simp only[newTuple,newExc]
 refine wpAny_bind (wpAny_newObj_type ?_ (by size_fits))
 refine wpAny_bind (m:=firstArgMember _ _) (wpAny_of_eq (a:=Value.none) (by first | rfl | (unfold firstArgMember;rfl)) ?_)
 refine wpAny_newObj_type ?_ (by size_fits)
 simp only[raiseNew]
 refine wpAny_bind (wpAny_handled ?_)
 first | rw[hA] | rw[show A.in1.handled=none from hA]
 exact wpAny_bind (wpAny_pure (wpAny_throw (q _ _ (((Heap.SameBut.update ..).extBut.push _).push _) ⟨_,Heap.get?_push_size _ rfl,rfl⟩)))
theorem V7 {z TI TO i j a b:Addr}{k:Nat}{xs ys:Array Value}{x y p q:Value}{Q:Value->Shared->Prop} (D:ZipApart z TI TO i j a b)
 (ez:IsZip s.heap z TI TO .none) (eI:IsPair s.heap TI (.ref i) (.ref j)) (eO:IsPair s.heap TO p q) (ei:IsTupIter s.heap i a k) (ej:IsTupIter s.heap j b k) (ea:IsTup s.heap a xs) (eb:IsTup s.heap b ys)
 (hx:xs[k]? =some x) (hy:ys[k]? =some y)
 (r:∀g,IsZip g z TI TO (rawInt s.heap.objs.size)->IsPair g TO x y->IsTupIter g i a (k+1)->IsTupIter g j b (k+1)->IsPair g s.heap.objs.size x y->g.objs.size=s.heap.objs.size+1->
   (∀c o,c∉[z,TO,i,j]->s.heap.get? c=some o->g.get? c=some o)->Q (.ref s.heap.objs.size) {s with heap:=g}):
 wpAny (model prog w) A (Builtin.«zip.__next__» ⟨[.ref z],[]⟩) (fun f s'=>∃v,f= .done (.ret v)/\Q v s') E s:=by
 show wpAny _ _ (field (.ref z) 2>>=_) _ _ s
 refine wpAny_bind (wpAny_field ez rfl (x:= .bool false) rfl ?_)
 show wpAny _ _ (field (.ref z) 3>>=_) _ _ s
 refine wpAny_bind (wpAny_field ez rfl (x:= .ref TI) rfl (wpAny_bind (wpAny_seqItems eI rfl ?_)))
 show wpAny _ _ (Builtin.SmallTypes.ownedTupleIsFree (.ref z)>>=_) _ _ s
 refine wpAny_bind ?_
 unfold Builtin.SmallTypes.ownedTupleIsFree;refine wpAny_bind (wpAny_field ez rfl (x:= .none) rfl (wpAny_pure ?_))
 simp only[if_true]
 refine wpAny_bind (wpAny_rule (wpAny_bind (wpAny_field ez rfl (x:= .ref TO) rfl (wpAny_bind (wpAny_setField_rec ez (by simp) fun g1 z1 b1=> ?_)))))
 have z1':IsZip g1 z TI TO .ellipsis:=z1
 refine wpAny_bind ?_
 simp only[List.forIn_cons,List.forIn_nil,List.zipIdx_cons,List.zipIdx_nil]
 refine wpAny_bind (wpAny_bind (wpAny_onRaise ?_))
 show wpAny _ _ (Builtin.SmallTypes.nextOf (.ref i)>>=_) _ _ _
 refine wpAny_bind (K6 (ei.extBut b1.extBut D.i1z) (ea.extBut b1.extBut D.l1z) hx fun g2 i2 b2=>wpAny_pure ?_)
 have o2:IsPair g2 TO p q:=b2.extBut _ _ D.TOi1 (b1.extBut _ _ D.TOz eO)
 refine wpAny_bind (wpAny_seqItems o2 rfl (wpAny_bind (wpAny_updateSeq_pair o2 fun g3 o3 b3=> ?_)))
 have o3':IsPair g3 TO x q:=o3
 refine wpAny_bind (wpAny_letGo (wpAny_pure (wpAny_bind (wpAny_bind (wpAny_onRaise ?_)))))
 show wpAny _ _ (Builtin.SmallTypes.nextOf (.ref j)>>=_) _ _ _
 refine wpAny_bind (K6 (((ej.extBut b1.extBut D.i2z).extBut b2.extBut D.i12.symm).extBut b3.extBut D.TOi2.symm) (((eb.extBut b1.extBut D.l2z).extBut b2.extBut D.l2i1).extBut b3.extBut D.l2TO) hy fun g4 j4 b4=>wpAny_pure ?_)
 have o4:IsPair g4 TO x q:=b4.extBut _ _ D.TOi2 o3'
 refine wpAny_bind (wpAny_seqItems o4 rfl (wpAny_bind (wpAny_updateSeq_pair o4 fun g5 o5 b5=> ?_)))
 have o5':IsPair g5 TO x y:=o5
 refine wpAny_bind (wpAny_letGo (wpAny_pure (wpAny_pure (wpAny_bind (wpAny_seqItems o5' rfl (wpAny_bind (wpAny_newTuple ?_)))))))
 have sz:g5.objs.size=s.heap.objs.size:=by rw[b5.1,b4.1,b3.1,b2.1,b1.1]
 have z5:IsZip g5 z TI TO .ellipsis:=b5.extBut _ _ D.TOz.symm (b4.extBut _ _ D.i2z.symm (b3.extBut _ _ D.TOz.symm (b2.extBut _ _ D.i1z.symm z1')))
 have k5:∀c o,c∉[z,TO,i,j]->s.heap.get? c=some o->g5.get? c=some o:=fun c o hc e=>by
  simp only[List.mem_cons,List.not_mem_nil,or_false,not_or] at hc
  exact b5.extBut _ _ hc.2.1 (b4.extBut _ _ hc.2.2.2 (b3.extBut _ _ hc.2.1 (b2.extBut _ _ hc.2.2.1 (b1.extBut _ _ hc.1 e))))
 have i5:IsTupIter g5 i a (k+1):=((i2.extBut b3.extBut D.TOi1.symm).extBut b4.extBut D.i12).extBut b5.extBut D.TOi1.symm
 have j5:IsTupIter g5 j b (k+1):=j4.extBut b5.extBut D.TOi2.symm
 have lz:g5.objs.size≠z:=Nat.ne_of_gt (Heap.lt_size z5)
 show wpAny _ _ (Builtin.SmallTypes.ownedTupleHandOut (.ref z) (.ref g5.objs.size)>>=_) _ _ _
 refine wpAny_bind ?_
 unfold Builtin.SmallTypes.ownedTupleHandOut;refine wpAny_bind (wpAny_setField_rec (Heap.get?_push_of_some _ z5) (by simp) fun g7 z7 b7=> ?_)
 have z7':IsZip g7 z TI TO (rawInt g5.objs.size):=z7
 refine wpAny_setField_rec z7' (by simp) fun g8 z8 b8=> ?_
 have z8':IsZip g8 z TI TO (rawInt g5.objs.size):=z8
 have up:∀c o,c≠z->g5.get? c=some o->g8.get? c=some o:=fun c o hc e=>b8.extBut _ _ hc (b7.extBut _ _ hc (Heap.get?_push_of_some _ e))
 have t8:IsPair g8 g5.objs.size x y:=b8.extBut _ _ lz (b7.extBut _ _ lz (Heap.get?_push_size _ rfl))
 have s8:g8.objs.size=g5.objs.size+1:=by rw[b8.1,b7.1,Heap.size_push]
 rw[sz] at z8' t8 s8
 refine wpAny_pure ⟨_,rfl, ?_⟩
 show Q (.ref g5.objs.size) _
 rw[sz]
 obtain⟨oi,qi,ri⟩:=i5
 obtain⟨oj,qj,rj⟩:=j5
 exact r g8 z8' (up _ _ D.TOz o5') ⟨oi,up _ _ D.i1z qi,ri⟩ ⟨oj,up _ _ D.i2z qj,rj⟩ t8 s8 fun c o hc e=>up c o (fun h=>hc (by simp[h])) (k5 c o hc e)
theorem V8 {z TI TO i j a b:Addr}{k:Nat}{xs ys:Array Value}{p q:Value}{Q:Fin->Shared->Prop} (hA:A.handled=none) (D:ZipApart z TI TO i j a b)
 (ez:IsZip s.heap z TI TO .none) (eI:IsPair s.heap TI (.ref i) (.ref j)) (eO:IsPair s.heap TO p q) (ei:IsTupIter s.heap i a k) (ej:IsTupIter s.heap j b k) (ea:IsTup s.heap a xs) (eb:IsTup s.heap b ys)
 (hend:xs[k]? =none\/ys[k]? =none)
 (r:∀g u,(∀c o,c∉[z,TO,i,j]->s.heap.get? c=some o->g.get? c=some o)->(∃o,g.get? u=some o/\o.cls= .type "StopIteration")->E (.ref u) {s with heap:=g}):
 wpAny (model prog w) A (Builtin.«zip.__next__» ⟨[.ref z],[]⟩) Q E s:=by
 show wpAny _ _ (field (.ref z) 2>>=_) _ _ s
 refine wpAny_bind (wpAny_field ez rfl (x:= .bool false) rfl ?_)
 show wpAny _ _ (field (.ref z) 3>>=_) _ _ s
 refine wpAny_bind (wpAny_field ez rfl (x:= .ref TI) rfl (wpAny_bind (wpAny_seqItems eI rfl ?_)))
 show wpAny _ _ (Builtin.SmallTypes.ownedTupleIsFree (.ref z)>>=_) _ _ s
 refine wpAny_bind ?_
 unfold Builtin.SmallTypes.ownedTupleIsFree;refine wpAny_bind (wpAny_field ez rfl (x:= .none) rfl (wpAny_pure ?_))
 simp only[if_true]
 refine wpAny_bind (wpAny_rule (wpAny_bind (wpAny_field ez rfl (x:= .ref TO) rfl (wpAny_bind (wpAny_setField_rec ez (by simp) fun g1 z1 b1=> ?_)))))
 have z1':IsZip g1 z TI TO .ellipsis:=z1
 refine wpAny_bind ?_
 simp only[List.forIn_cons,List.forIn_nil,List.zipIdx_cons,List.zipIdx_nil]
 refine wpAny_bind (wpAny_bind (wpAny_onRaise ?_))
 show wpAny _ _ (Builtin.SmallTypes.nextOf (.ref i)>>=_) _ _ _
 have nz:∀{g:Heap}{u o},IsZip g z TI TO .ellipsis->g.get? u=some o->o.cls= .type "StopIteration"->u≠z:=fun hz hu hc h=>by subst h;rw[hz] at hu;cases hu;simp at hc
 cases hx:xs[k]? with
 | none=>
   refine wpAny_bind (RK hA (ei.extBut b1.extBut D.i1z) (ea.extBut b1.extBut D.l1z) hx fun g2 u b2 ⟨ou,hou,hcu⟩=> ?_)
   have z2:IsZip g2 z TI TO .ellipsis:=b2 _ _ D.i1z.symm z1'
   refine wpAny_setField_rec z2 (by simp) fun g3 _ b3=>r g3 u (fun c o hc e=> ?_) ⟨ou,b3.extBut _ _ (nz z2 hou hcu) hou,hcu⟩
   simp only[List.mem_cons,List.not_mem_nil,or_false,not_or] at hc
   exact b3.extBut _ _ hc.1 (b2 _ _ hc.2.2.1 (b1.extBut _ _ hc.1 e))
 | some x=>
   have hy:ys[k]? =none:=by rcases hend with h | h;exact absurd (hx.symm.trans h) (by simp);exact h
   refine wpAny_bind (K6 (ei.extBut b1.extBut D.i1z) (ea.extBut b1.extBut D.l1z) hx fun g2 i2 b2=>wpAny_pure ?_)
   have o2:IsPair g2 TO p q:=b2.extBut _ _ D.TOi1 (b1.extBut _ _ D.TOz eO)
   refine wpAny_bind (wpAny_seqItems o2 rfl (wpAny_bind (wpAny_updateSeq_pair o2 fun g3 o3 b3=> ?_)))
   refine wpAny_bind (wpAny_letGo (wpAny_pure (wpAny_bind (wpAny_bind (wpAny_onRaise ?_)))))
   show wpAny _ _ (Builtin.SmallTypes.nextOf (.ref j)>>=_) _ _ _
   refine wpAny_bind (RK hA (((ej.extBut b1.extBut D.i2z).extBut b2.extBut D.i12.symm).extBut b3.extBut D.TOi2.symm) (((eb.extBut b1.extBut D.l2z).extBut b2.extBut D.l2i1).extBut b3.extBut D.l2TO) hy fun g4 u b4 ⟨ou,hou,hcu⟩=> ?_)
   have z4:IsZip g4 z TI TO .ellipsis:=b4 _ _ D.i2z.symm (b3.extBut _ _ D.TOz.symm (b2.extBut _ _ D.i1z.symm z1'))
   refine wpAny_setField_rec z4 (by simp) fun g5 _ b5=>r g5 u (fun c o hc e=> ?_) ⟨ou,b5.extBut _ _ (nz z4 hou hcu) hou,hcu⟩
   simp only[List.mem_cons,List.not_mem_nil,or_false,not_or] at hc
   exact b5.extBut _ _ hc.1 (b4 _ _ hc.2.2.2 (b3.extBut _ _ hc.2.1 (b2.extBut _ _ hc.2.2.1 (b1.extBut _ _ hc.1 e))))
end
abbrev tzA (g:Heap) (a:Addr):Heap:=g.push {cls:= .type "tuple_iterator",data:= .fields #[.ref a, .int 0 0]}
abbrev tzB (g:Heap) (a b:Addr):Heap:=(tzA g a).push {cls:= .type "tuple_iterator",data:= .fields #[.ref b, .int 0 0]}
abbrev tzC (g:Heap) (a b:Addr):Heap:=(tzB g a b).push {cls:= .type "tuple",data:= .seq #[.ref g.objs.size, .ref (tzA g a).objs.size]}
abbrev tzD (g:Heap) (a b:Addr):Heap:=(tzC g a b).push {cls:= .type "tuple",data:= .seq #[.none, .none]}
abbrev tzE (g:Heap) (a b:Addr):Heap:=(tzD g a b).push {cls:= .type "zip",data:= .fields #[.none, .bool false, .bool false, .ref (tzB g a b).objs.size, .ref (tzC g a b).objs.size]}
theorem V9 (a b:Addr) (xs ys:Array Value):
 Meets (Builtin.«zip.__new__» ⟨[.type "zip", .ref a, .ref b],[]⟩) (fun _ R s=>IsTup s.heap a xs/\IsTup s.heap b ys/\
  R (.ok (.ret (.ref (tzD s.heap a b).objs.size))) {s with heap:=tzE s.heap a b}):=
 .of_wp fun prog w A R s h=>by
   obtain⟨hp,g,d,tk,os⟩:=s;obtain⟨ha,hb,h⟩:=h
   have hsub:=sub_zip
   have h1:IsTup (Shared.heap ⟨hp,g,d,tk,os⟩) a xs:=ha
   have h2:IsTup (Shared.heap ⟨hp.push {cls:= .type "tuple_iterator",data:= .fields #[.ref a, .int 0 0]},g,d,tk,os⟩) b ys:=hb.push _
   wp_walk using iter_tuple h1,iter_tuple h2
   exact⟨_,rfl,h⟩
section
variable {prog:Program}{w:World}{A:Around}{E:Value->Shared->Prop}{s:Shared}
theorem Zi {a b:Addr}{xs ys:Array Value}{Q:Value->Shared->Prop} (ha:IsTup s.heap a xs) (hb:IsTup s.heap b ys)
 (q:∀g n,n=s.heap.objs.size->IsZip g (n+4) (n+2) (n+3) .none->IsPair g (n+2) (.ref n) (.ref (n+1))->
   IsPair g (n+3) .none .none->IsTupIter g n a 0->IsTupIter g (n+1) b 0->
   (∀c o,s.heap.get? c=some o->g.get? c=some o)->Q (.ref (n+4)) {s with heap:=g}):
 wpAny (model prog w) A (call (.type "zip") [.ref a, .ref b]) Q E s:=by
 refine callType_new F.called_zip (by decide) (F.typeCall_zip_2 _ _) (F.newCall_zip_2 _ _) (fun obj=>F.args_object_init_3 obj _ _) F.entry_zip_new
  (V9 a b xs ys) ⟨ha,hb, ?_⟩
 have n1:(tzA s.heap a).objs.size=s.heap.objs.size+1:=Heap.size_push ..
 have n2:(tzB s.heap a b).objs.size=s.heap.objs.size+2:=by rw[Heap.size_push,n1]
 have n3:(tzC s.heap a b).objs.size=s.heap.objs.size+3:=by rw[Heap.size_push,n2]
 have n4:(tzD s.heap a b).objs.size=s.heap.objs.size+4:=by rw[Heap.size_push,n3]
 have e5:(tzE s.heap a b).get? (tzD s.heap a b).objs.size=some _:=Heap.get?_push_size _ rfl
 have e4:(tzE s.heap a b).get? (tzC s.heap a b).objs.size=some _:=Heap.get?_push_of_some _ (Heap.get?_push_size _ rfl)
 have e3:(tzE s.heap a b).get? (tzB s.heap a b).objs.size=some _:=Heap.get?_push_of_some _ (Heap.get?_push_of_some _ (Heap.get?_push_size _ rfl))
 have e2:(tzE s.heap a b).get? (tzA s.heap a).objs.size=some _:=Heap.get?_push_of_some _ (Heap.get?_push_of_some _ (Heap.get?_push_of_some _ (Heap.get?_push_size _ rfl)))
 have e1:(tzE s.heap a b).get? s.heap.objs.size=some _:=Heap.get?_push_of_some _ (Heap.get?_push_of_some _ (Heap.get?_push_of_some _ (Heap.get?_push_of_some _ (Heap.get?_push_size _ rfl))))
 show _/\_
 rw[n2,n3,n4] at e5
 rw[n3] at e4
 rw[n1,n2] at e3
 rw[n1] at e2
 rw[n4]
 exact⟨⟨_,e5,rfl⟩,q _ _ rfl e5 e3 e4 ⟨_,e1,rfl,rfl⟩ ⟨_,e2,rfl,rfl⟩ fun c o x=>
  Heap.get?_push_of_some _ (Heap.get?_push_of_some _ (Heap.get?_push_of_some _ (Heap.get?_push_of_some _ (Heap.get?_push_of_some _ x))))⟩
theorem Zj {z TI TO i j a b:Addr}{k:Nat}{xs ys:Array Value}{x y p q:Value}{Q:Option Value->Shared->Prop} (D:ZipApart z TI TO i j a b)
 (ez:IsZip s.heap z TI TO .none) (eI:IsPair s.heap TI (.ref i) (.ref j)) (eO:IsPair s.heap TO p q) (ei:IsTupIter s.heap i a k) (ej:IsTupIter s.heap j b k) (ea:IsTup s.heap a xs) (eb:IsTup s.heap b ys)
 (hx:xs[k]? =some x) (hy:ys[k]? =some y)
 (r:∀g,IsZip g z TI TO (rawInt s.heap.objs.size)->IsPair g TO x y->IsTupIter g i a (k+1)->IsTupIter g j b (k+1)->IsPair g s.heap.objs.size x y->g.objs.size=s.heap.objs.size+1->
   (∀c o,c∉[z,TO,i,j]->s.heap.get? c=some o->g.get? c=some o)->Q (some (.ref s.heap.objs.size)) {s with heap:=g}):
 wpAny (model prog w) A (pyNext (.ref z)) Q E s:=by
 have ty:s.TypeIs (.ref z) "zip":=⟨_,ez,rfl⟩
 unfold pyNext
 exact wpAny_bind (wpAny_attempt (wpAny_callSpecial?_slot (name:=Str.ofString "__next__") ty F.slot_zip_next (wpAny_call_entry F.slot_zip_next ty F.entry_zip_next
  (V7 D ez eI eO ei ej ea eb hx hy fun g a1 a2 a3 a4 a5 a6 a7=>wpAny_pure (r g a1 a2 a3 a4 a5 a6 a7)) (F.args_zip_next_1 _))))
theorem ac8 {z TI TO i j a b:Addr}{k:Nat}{xs ys:Array Value}{p q:Value}{Q:Option Value->Shared->Prop} (hA:A.handled=none) (D:ZipApart z TI TO i j a b)
 (ez:IsZip s.heap z TI TO .none) (eI:IsPair s.heap TI (.ref i) (.ref j)) (eO:IsPair s.heap TO p q) (ei:IsTupIter s.heap i a k) (ej:IsTupIter s.heap j b k) (ea:IsTup s.heap a xs) (eb:IsTup s.heap b ys)
 (hend:xs[k]? =none\/ys[k]? =none)
 (r:∀g,(∀c o,c∉[z,TO,i,j]->s.heap.get? c=some o->g.get? c=some o)->Q none {s with heap:=g}):
 wpAny (model prog w) A (pyNext (.ref z)) Q E s:=by
 have ty:s.TypeIs (.ref z) "zip":=⟨_,ez,rfl⟩
 unfold pyNext
 refine wpAny_bind (wpAny_attempt (wpAny_callSpecial?_slot (name:=Str.ofString "__next__") ty F.slot_zip_next (wpAny_call_entry F.slot_zip_next ty F.entry_zip_next
  (V8 hA D ez eI eO ei ej ea eb hend fun g u hk ⟨o,ho,hc⟩=> ?_) (F.args_zip_next_1 _))))
 exact wpAny_bind (wpAny_isInstance (T:="StopIteration") (b:=true) ⟨o,ho,hc⟩ isSubtype_stop (wpAny_pure (r _ hk)))
end
def ac9 (K:PySem.W.Frag) (l1 l2:Addr):It:=
 ⟨fun i H=>∃xs ys x y,SqT K H l1 xs/\SqT K H l2 ys/\xs[i]? =some x/\ys[i]? =some y,
  fun i H v H'=>∃T x y,v= .ref T/\H T=none/\H'=upd H T (.tup [x,y])/\(∀xs,SqT K H l1 xs->xs[i]? =some x)/\∀ys,SqT K H l2 ys->ys[i]? =some y,
  fun i H=>∃xs ys,SqT K H l1 xs/\SqT K H l2 ys/\min xs.length ys.length=i⟩
theorem Zk {P:Program}{w:World}{K:PySem.W.Frag}{elts:List Expr}{k:Nat}{pos:Pos} (z TI TO i1 i2 l1 l2:Addr) (D:ZipApart z TI TO i1 i2 l1 l2):
 Turn P w K (.Tuple elts k pos) (ac9 K l1 l2) [z,TI,TO,i1,i2] z (fun i h=>IsZip h z TI TO .none/\IsPair h TI (.ref i1) (.ref i2)/\(∃a b,IsPair h TO a b)/\IsTupIter h i1 l1 i/\IsTupIter h i2 l2 i) where
 mem:=by simp
 obj:=fun i h st b hb=>by
  obtain⟨h1,h2,⟨a,c,h3⟩,⟨o4,e4,_,d4⟩,⟨o5,e5,_,d5⟩⟩:=st
  have hb':b=z\/b=TI\/b=TO\/b=i1\/b=i2:=by simpa using hb
  rcases hb' with rfl | rfl | rfl | rfl | rfl
  ·exact⟨_,h1,fun v e=>by cases e⟩
  ·exact⟨_,h2,fun v e=>by cases e⟩
  ·exact⟨_,h3,fun v e=>by cases e⟩
  ·exact⟨o4,e4,fun v e=>by rw[d4] at e;cases e⟩
  ·exact⟨o5,e5,fun v e=>by rw[d5] at e;cases e⟩
 keep:=fun i h h' st kp=>by
  obtain⟨h1,h2,⟨a,c,h3⟩,⟨o4,e4,r4⟩,⟨o5,e5,r5⟩⟩:=st
  exact⟨kp z (by simp) _ h1,kp TI (by simp) _ h2,⟨a,c,kp TO (by simp) _ h3⟩,⟨o4,kp i1 (by simp) _ e4,r4⟩,⟨o5,kp i2 (by simp) _ e5,r5⟩⟩
 item:=by
  intro X hP hw hK hc i pins s σ H E I hf st hg
  subst hP hw hK
  obtain⟨xs,ys,x,y,hq1,hq2,hx,hy⟩:=hg
  obtain⟨afX,rv1,p1,hz1⟩:=I.tuple hq1
  obtain⟨its2,rv2,p2,hz2⟩:=I.tuple hq2
  obtain⟨u1,hu1,ru1⟩:=rv1.get hx
  obtain⟨u2,hu2,ru2⟩:=rv2.get hy
  obtain⟨s1,s2,⟨a3,b3,s3⟩,s4,s5⟩:=st
  refine Zj D s1 s2 s3 s4 s5 p1 p2 (x:=u1) (y:=u2) (by simpa using hu1) (by simpa using hu2) fun g t1 t3 t4 t5 isT sz kp=> ?_
  have sub:∀c∈[z,TO,i1,i2],c∈[z,TI,TO,i1,i2]:=fun c hc=>by
   have:c=z\/c=TO\/c=i1\/c=i2:=by simpa using hc
   rcases this with rfl | rfl | rfl | rfl<;>simp
  have tI:IsPair g TI (.ref i1) (.ref i2):=kp TI _ (by simp[D.TIz,D.TITO,D.TIi1,D.TIi2]) s2
  refine⟨.ref s.heap.objs.size,rfl,wpAny_letOwnedTupleGo_zip t1 fun h3 t1' b3'=> ?_⟩
  have kp3:∀c o,c∉[z,TO,i1,i2]->s.heap.get? c=some o->h3.get? c=some o:=fun c o hc e=>b3'.extBut _ _ (fun h=>hc (by simp[h])) (kp c o hc e)
  have J:Inv X pins σ H {s with heap:=h3,toks:=s.toks}:=I.G7 (ch:=[z,TO,i1,i2]) (fun b hb=>hf b (sub b hb)) kp3
  have hT0:H s.heap.objs.size=none:=I.hok.fresh (Nat.le_refl _)
  have nT:s.heap.objs.size∉[z,TI,TO,i1,i2]:=fun hm=>by
   obtain⟨o,e⟩:∃o,s.heap.get? s.heap.objs.size=some o:=by
    have:s.heap.objs.size=z\/s.heap.objs.size=TI\/s.heap.objs.size=TO\/s.heap.objs.size=i1\/s.heap.objs.size=i2:=by simpa using hm
    obtain⟨o4,e4,_⟩:=s4
    obtain⟨o5,e5,_⟩:=s5
    rcases this with h | h | h | h | h
    ·exact⟨_,h▸s1⟩
    ·exact⟨_,h▸s2⟩
    ·exact⟨_,h▸s3⟩
    ·exact⟨_,h▸e4⟩
    ·exact⟨_,h▸e5⟩
   exact absurd (Heap.lt_size e) (Nat.lt_irrefl _)
  have ada:IsTup h3 s.heap.objs.size #[u1,u2]:=⟨_,b3'.extBut _ _ (fun h=>nT (by simp[h])) isT,rfl,_,rfl⟩
  have fp:=I.O5 (H':=H) (Nat.le_refl _) hT0
  refine⟨.ref s.heap.objs.size,upd H s.heap.objs.size (.tup [x,y]),J.track hT0 ?_ fp.2.1 fp.2.2.2.2.1 fp.2.2.2.2.2 ?_,rfl,⟨_,x,y,rfl,hT0,rfl,fun zs hs=>by rw[I.JN hs hq1];exact hx,fun zs hs=>by rw[I.JN hs hq2];exact hy⟩,
   ⟨t1',b3'.extBut _ _ D.TIz tI,⟨_,_,b3'.extBut _ _ D.TOz t3⟩,t4.extBut b3'.extBut D.i1z,t5.extBut b3'.extBut D.i2z⟩,fun b hb=> ?_⟩
  ·cases e:X.s₀.heap.get? s.heap.objs.size with
   | none=>rfl
   | some o=>exact absurd (Heap.lt_size e) (Nat.not_lt.mpr I.sz)
  ·exact⟨by show 2<=sizeLine;rw[sizeLine_eq];decide,[u1,u2], .cons ru1 (.cons ru2 .nil),ada⟩
  ·have nb:b≠s.heap.objs.size:=fun e=>nT (by rw[<-e];exact hb)
   rw[ao nb];exact(hf b hb).1
 done:=by
  intro X hP hw hK hc i pins s σ H E I hf st hg
  subst hP hw hK
  obtain⟨xs,ys,hq1,hq2,hi⟩:=hg
  obtain⟨afX,rv1,p1,hz1⟩:=I.tuple hq1
  obtain⟨its2,rv2,p2,hz2⟩:=I.tuple hq2
  obtain⟨s1,s2,⟨a3,b3,s3⟩,s4,s5⟩:=st
  have e1:=rv1.length
  have e2:=rv2.length
  refine ac8 (I.ok.hd hc) D s1 s2 s3 s4 s5 p1 p2 ?_ fun g kp=>⟨rfl,I.G7 (t':=s.toks) (ch:=[z,TO,i1,i2]) (fun b hb=>hf b ?_) kp⟩
  ·rcases Nat.le_total xs.length ys.length with h | h
   ·exact .inl (by simp;omega)
   ·exact .inr (by simp;omega)
  ·have:b=z\/b=TO\/b=i1\/b=i2:=by simpa using hb
   rcases this with rfl | rfl | rfl | rfl<;>simp
 self:=fun _ _ _ _ _ st h=>wpAny_pyIter_zip st.1 h
def aa8 (K:PySem.W.Frag) (ta:TA):TI:=fun σ H R=>ta σ H fun vs H1=>∃l1 l2,vs=[.ref l1, .ref l2]/\(∃xs,SqT K H1 l1 xs)/\(∃ys,SqT K H1 l2 ys)/\R (ac9 K l1 l2) H1
theorem Zm {X:Cx}{elts:List Expr}{k:Nat}{tp:Pos}{a b:Expr}{ta:TA}{p pos:Pos} (hg:Gl X "zip") (hm:X.mg "zip"=none) (ha:PA X [a,b] ta) (hs:starEach [a,b] X.env=[(false,eval a X.env),(false,eval b X.env)]:=by rfl) (hs2:starEach [b] X.env=[(false,eval b X.env)]:=by rfl):
 PI X (.Tuple elts k tp) (.Call (.Name "zip" p) [a,b] [] pos) (aa8 X.K ta):=by
 intro pins s σ H R I h
 refine Call_ (Al I hg hm acI (PyProof.Rows.callWith_type1 (thn (ha pos pins s σ H _ I h) fun us s1 ⟨vs,H1,I1,r1,q1⟩=> ?_) (by rw[hs,hs2]) (by rw[hs2];rfl)))
 obtain⟨l1,l2,rfl,⟨xs,hq1⟩,⟨ys,hq2⟩,q⟩:=q1
 obtain⟨u,v,rfl,ru,rv⟩:=vals2 r1
 cases ru
 cases rv
 obtain⟨afX,_,p1,_⟩:=I1.tuple hq1
 obtain⟨its2,_,p2,_⟩:=I1.tuple hq2
 have D:=PySem.W.ktu_apart s1.heap.objs.size l1 l2 p1.lt p2.lt
 refine Zi p1 p2 fun h5 n en hz hTI hTO hi1 hi2 kp=> ?_
 subst en
 refine wpAny_pyIter_zip hz ?_
 have I2:Inv X pins σ H1 {s1 with heap:=h5}:=I1.kept (t':=s1.toks) kp
 refine⟨s1.heap.objs.size+4,[s1.heap.objs.size+4,s1.heap.objs.size+2,s1.heap.objs.size+3,s1.heap.objs.size,s1.heap.objs.size+1],_,_,H1,rfl,I2,Zk _ _ _ _ _ l1 l2 D,⟨hz,hTI,⟨_,_,hTO⟩,hi1,hi2⟩,fun b hb=> ?_,q⟩
 have hle:s1.heap.objs.size<=b:=by
  have:b=s1.heap.objs.size+4\/b=s1.heap.objs.size+2\/b=s1.heap.objs.size+3\/b=s1.heap.objs.size\/b=s1.heap.objs.size+1:=by simpa using hb
  rcases this with rfl | rfl | rfl | rfl | rfl<;>first | exact Nat.le_refl _ | exact Nat.le_add_right _ _
 exact I1.O5 hle (I1.hok.fresh hle)
theorem Zn {X:Cx}{elts:List Expr}{k:Nat}{tp:Pos}{a b:Expr}{ta:TA}{p pos:Pos} (hg:Gl X "zip") (hm:X.mg "zip"=none) (ha:QA X [a,b] ta) (hs:starEach [a,b] X.env=[(false,eval a X.env),(false,eval b X.env)]:=by rfl) (hs2:starEach [b] X.env=[(false,eval b X.env)]:=by rfl):
 QI X (.Tuple elts k tp) (.Call (.Name "zip" p) [a,b] [] pos) (aa8 X.K ta):=⟨Zm hg hm ha.h hs hs2⟩
theorem Ub {K:PySem.W.Frag}{a b:Addr}{xs ys:List V}{g:TG}{tc:TT}{te:TE}{σ:St}{H:Hp}{D:Addr}{Q:VK} (Pv:Nat->St->Hp->Prop) (hxy:xs.length=ys.length) (h0:Pv 0 σ (upd H D (.lst [])))
 (hl:∀i σ H,i<=xs.length->Pv i σ H->SqT K H a xs/\SqT K H b ys)
 (hs:∀i x y T σ' H',xs[i]? =some x->ys[i]? =some y->Pv i σ' H'->H' T=none->g (.ref T) σ' (upd H' T (.tup [x,y])) fun σ3 H3=>tc σ3 H3 fun b H4=>
   if b=true then te σ3 H4 fun y H5=>∃ys,H5 D=some (.lst ys)/\ys.length<sizeLine/\Pv (i+1) σ3 (upd H5 D (.lst (ys++[y]))) else Pv (i+1) σ3 H4) (hd:∀σ' H',Pv xs.length σ' H'->Q (.ref D) H'):
 MK (ac9 K a b) g tc te D σ (upd H D (.lst [])) Q:=by
 refine⟨fun i m σ H=>m=xs.length - i/\i<=xs.length/\Pv i σ H,⟨xs.length,by simp,Nat.zero_le _,h0⟩, ?_⟩
 rintro i m σ H ⟨rfl,hi,p⟩
 have q:=hl i σ H hi p
 by_cases hlt:i<xs.length
 ·refine .inr ⟨⟨xs,ys,xs[i],ys[i]'(hxy▸hlt),q.1,q.2,by simp[hlt],by simp[hxy▸hlt]⟩,Pv (i+1),fun σ' H' p'=>⟨xs.length - (i+1),by omega,rfl,hlt,p'⟩,fun v H' y=> ?_⟩
  obtain⟨T,x,y',rfl,hT,rfl,y1,y2⟩:=y
  exact hs i x y' T σ _ (y1 xs q.1) (y2 ys q.2) p hT
 ·have e:i=xs.length:=by omega
  subst e
  exact .inl ⟨⟨xs,ys,q.1,q.2,by omega⟩,hd σ H p⟩
end L2
namespace RB
open PySem PySem.Spec PyProof.Rows L2
mutual
def eE:Th->Th->Bool
 | .tup xs, .tup ys=>lu xs ys
 | .int i, .int j=>decide (i=j)
 | .str x, .str y=>decide (x=y)
 | _,_=>false
def lu:List Th->List Th->Bool
 |[],[]=>true
 | x::xs,y::ys=>eE x y&&lu xs ys
 | _,_=>false
end
def DpT:Nat->Th->Prop
 | 0, .tup _=>False
 | d+1, .tup ts=>ts.length<=1000/\∀t∈ts,DpT d t
 | _,_=>True
theorem Ig:∀{xs ys:List Th},xs.length≠ys.length->lu xs ys=false
 |[],[],h=>absurd rfl h
 |[],_::_,_=>by simp[lu]
 | _::_,[],_=>by simp[lu]
 | x::xs,y::ys,h=>by
   have:lu xs ys=false:=Ig (by simpa using h)
   simp[lu,this]
theorem Ih:∀{xs ys:List Th},xs.length=ys.length->lu xs ys=((List.zipWith eE xs ys).all id)
 |[],[],_=>by simp[lu]
 | x::xs,y::ys,h=>by
   have:lu xs ys=((List.zipWith eE xs ys).all id):=Ih (by simpa using h)
   simp[lu,this]
def K7 (K:PySem.W.Frag) (d:Nat):Sp:=fun vs H Q _=>∃v t v' t',vs=[v,v']/\qF K H v t/\qF K H v' t'/\DpT d t/\∀H',aQ H H'->Q (.bl (eE t t')) H'
theorem oH.at {K:PySem.W.Frag}{H:Hp}{vs:List V}{ts:List Th}{i:Nat}{v:V} (h:oH K H vs ts) (e:vs[i]? =some v):∃(hi:i<ts.length),qF K H v ts[i]:=by
 obtain⟨t,et,r⟩:=h.get e
 obtain⟨hi,rfl⟩:=List.getElem?_eq_some_iff.mp et
 exact⟨hi,r⟩
theorem Uc {α β γ:Type} (f:α->β->γ) {xs:List α}{ys:List β}{i:Nat} (h1:i<xs.length) (h2:i<ys.length):(List.zipWith f xs ys).take i++[f xs[i] ys[i]]=(List.zipWith f xs ys).take (i+1):=by
 rw[List.take_add_one,List.getElem?_eq_getElem (by simp;omega),List.getElem_zipWith];rfl
end RB
namespace RB
open PySem L2 PySem.Spec PyProof.Rows
theorem DpT.mono:∀{d e:Nat}{t:Th},d<=e->DpT d t->DpT e t
 | 0,0,_,_,h=>h
 | 0,e+1,t,_,h=>by cases t<;>first | trivial | exact h.elim
 | d+1,0,_,hl,_=>absurd hl (by omega)
 | d+1,e+1,t,hl,h=>by
   cases t with
   | tup ts=>exact⟨h.1,fun t ht=>DpT.mono (by omega) (h.2 t ht)⟩
   | _=>trivial
theorem zy {d:Nat}{x:Str}:DpT d (.str x):=by cases d<;>trivial
theorem Zo {d:Nat}{i:Int}:DpT d (.int i):=by cases d<;>trivial
theorem R.dpT:∀(r:R),r.HN->DpT (r.depth+1) r.gB
 | .num n,_=>⟨by simp,fun t ht=>by
   have:t= .str "number"\/t= .int n:=by simpa using ht
   rcases this with rfl | rfl<;>first | exact zy | exact Zo⟩
 | .rd x,_=>⟨by simp,fun t ht=>by
   have:t= .str "read"\/t= .str x:=by simpa using ht
   rcases this with rfl | rfl<;>exact zy⟩
 | .bin op a b,h=>⟨by simp,fun t ht=>by
   have:t= .str op.word\/t=a.gB\/t=b.gB:=by simpa using ht
   have hd:(R.bin op a b).depth=max a.depth b.depth+1:=rfl
   rcases this with rfl | rfl | rfl
   ·exact zy
   ·exact(R.dpT a h.1).mono (by omega)
   ·exact(R.dpT b h.2).mono (by omega)⟩
 | .pick a b c,h=>⟨by simp,fun t ht=>by
   have:t= .str "pick"\/t=a.gB\/t=b.gB\/t=c.gB:=by simpa using ht
   have hd:(R.pick a b c).depth=max a.depth (max b.depth c.depth)+1:=rfl
   rcases this with rfl | rfl | rfl | rfl
   ·exact zy
   ·exact(R.dpT a h.1).mono (by omega)
   ·exact(R.dpT b h.2.1).mono (by omega)
   ·exact(R.dpT c h.2.2).mono (by omega)⟩
 | .cho a ns,h=>⟨by simp,fun t ht=>by
   have:t= .str "choose"\/t=a.gB\/t= .tup (ns.map Th.str):=by simpa using ht
   have hd:(R.cho a ns).depth=a.depth+1:=rfl
   rcases this with rfl | rfl | rfl
   ·exact zy
   ·exact(R.dpT a h.1).mono (by omega)
   ·refine⟨by have:=h.2;simp at *;omega,fun t ht=> ?_⟩
    obtain⟨x,_,rfl⟩:=List.mem_map.mp ht
    exact zy⟩
mutual
theorem Nj:∀{t u:Th},eE t u=true->t=u
 | .tup xs, .tup ys,h=>by rw[eE] at h;rw[Kh h]
 | .int i, .int j,h=>by rw[eE] at h;rw[of_decide_eq_true h]
 | .str x, .str y,h=>by rw[eE] at h;rw[of_decide_eq_true h]
 | .tup _, .non,h=>by simp[eE] at h
 | .tup _, .bl _,h=>by simp[eE] at h
 | .tup _, .int _,h=>by simp[eE] at h
 | .tup _, .str _,h=>by simp[eE] at h
 | .tup _, .oth _,h=>by simp[eE] at h
 | .int _, .non,h=>by simp[eE] at h
 | .int _, .bl _,h=>by simp[eE] at h
 | .int _, .tup _,h=>by simp[eE] at h
 | .int _, .str _,h=>by simp[eE] at h
 | .int _, .oth _,h=>by simp[eE] at h
 | .str _, .non,h=>by simp[eE] at h
 | .str _, .bl _,h=>by simp[eE] at h
 | .str _, .tup _,h=>by simp[eE] at h
 | .str _, .int _,h=>by simp[eE] at h
 | .str _, .oth _,h=>by simp[eE] at h
 | .non,u,h=>by simp[eE] at h
 | .bl _,u,h=>by simp[eE] at h
 | .oth _,u,h=>by simp[eE] at h
theorem Kh:∀{ts us:List Th},lu ts us=true->ts=us
 |[],[],_=>rfl
 | x::xs,y::ys,h=>by
   rw[lu,Bool.and_eq_true] at h
   rw[Nj h.1,Kh h.2]
 |[],_::_,h=>by simp[lu] at h
 | _::_,[],h=>by simp[lu] at h
end
inductive PlT:Th->Prop where
 | int (i:Int):PlT (.int i)
 | str (x:Str):PlT (.str x)
 | tup {ts:List Th} (h:∀t∈ts,PlT t):PlT (.tup ts)
theorem Gn:∀{ts:List Th},(∀t∈ts,eE t t=true)->lu ts ts=true
 |[],_=>by simp[lu]
 | x::xs,h=>by
   rw[lu,h x (by simp),Gn fun t ht=>h t (by simp[ht])];rfl
theorem PlT.refl {t:Th} (h:PlT t):eE t t=true:=by
 induction h with
 | int i=>simp[eE]
 | str x=>simp[eE]
 | tup h ih=>rw[eE];exact Gn ih
theorem R.plT:∀(r:R),PlT r.gB
 | .num n=> .tup fun t ht=>by
   have:t= .str "number"\/t= .int n:=by simpa using ht
   rcases this with rfl | rfl<;>constructor
 | .rd x=> .tup fun t ht=>by
   have:t= .str "read"\/t= .str x:=by simpa using ht
   rcases this with rfl | rfl<;>constructor
 | .bin op a b=> .tup fun t ht=>by
   have:t= .str op.word\/t=a.gB\/t=b.gB:=by simpa using ht
   rcases this with rfl | rfl | rfl
   ·constructor
   ·exact R.plT a
   ·exact R.plT b
 | .pick a b c=> .tup fun t ht=>by
   have:t= .str "pick"\/t=a.gB\/t=b.gB\/t=c.gB:=by simpa using ht
   rcases this with rfl | rfl | rfl | rfl
   ·constructor
   ·exact R.plT a
   ·exact R.plT b
   ·exact R.plT c
 | .cho a ns=> .tup fun t ht=>by
   have:t= .str "choose"\/t=a.gB\/t= .tup (ns.map Th.str):=by simpa using ht
   rcases this with rfl | rfl | rfl
   ·constructor
   ·exact R.plT a
   ·refine .tup fun t ht=> ?_
    obtain⟨x,_,rfl⟩:=List.mem_map.mp ht
    constructor
theorem Qe:∀{o o':Op},o.word=o'.word->o=o':=by
 intro o o' h;cases o<;>cases o'<;>first | rfl | exact absurd h (by decide)
theorem Kl (o:Op):o.word≠"choose":=by cases o<;>decide
theorem R.Bd:∀{r s:R},r.gB=s.gB->r=s
 | .num n, .num m,h=>by simp[R.gB] at h;rw[h]
 | .rd x, .rd y,h=>by simp[R.gB] at h;rw[h]
 | .bin o a b, .bin o' a' b',h=>by
   simp only[R.gB,Th.tup.injEq,List.cons.injEq,Th.str.injEq,and_true] at h
   rw[Qe h.1,R.Bd h.2.1,R.Bd h.2.2]
 | .pick a b c, .pick a' b' c',h=>by
   simp only[R.gB,Th.tup.injEq,List.cons.injEq,and_true,true_and] at h
   rw[R.Bd h.1,R.Bd h.2.1,R.Bd h.2.2]
 | .cho a ns, .cho a' ms,h=>by
   simp only[R.gB,Th.tup.injEq,List.cons.injEq,and_true,true_and] at h
   rw[R.Bd h.1,(List.map_inj_right (fun x y e=>by cases e;rfl)).mp h.2]
 | .num n, .rd y,h=>by simp[R.gB] at h
 | .num n, .bin _ _ _,h=>by simp[R.gB] at h
 | .num n, .pick _ _ _,h=>by simp[R.gB] at h
 | .num n, .cho _ _,h=>by simp[R.gB] at h
 | .rd n, .num y,h=>by simp[R.gB] at h
 | .rd n, .bin _ _ _,h=>by simp[R.gB] at h
 | .rd n, .pick _ _ _,h=>by simp[R.gB] at h
 | .rd n, .cho _ _,h=>by simp[R.gB] at h
 | .bin _ _ _, .num y,h=>by simp[R.gB] at h
 | .bin _ _ _, .rd y,h=>by simp[R.gB] at h
 | .bin _ _ _, .pick _ _ _,h=>by simp[R.gB] at h
 | .bin o _ _, .cho _ _,h=>by
   simp only[R.gB,Th.tup.injEq,List.cons.injEq,Th.str.injEq,and_true] at h
   exact absurd h.1 (Kl o)
 | .pick _ _ _, .num y,h=>by simp[R.gB] at h
 | .pick _ _ _, .rd y,h=>by simp[R.gB] at h
 | .pick _ _ _, .bin _ _ _,h=>by simp[R.gB] at h
 | .pick _ _ _, .cho _ _,h=>by simp[R.gB] at h
 | .cho _ _, .num y,h=>by simp[R.gB] at h
 | .cho _ _, .rd y,h=>by simp[R.gB] at h
 | .cho _ _, .bin o _ _,h=>by
   simp only[R.gB,Th.tup.injEq,List.cons.injEq,Th.str.injEq,and_true] at h
   exact absurd h.1.symm (Kl o)
 | .cho _ _, .pick _ _ _,h=>by simp[R.gB] at h
theorem Zq {r s:R} (e:r=s):eE r.gB s.gB=true:=by rw[e];exact s.plT.refl
theorem Zr {r s:R} (e:r≠s):eE r.gB s.gB=false:=by
 cases h:eE r.gB s.gB with
 | false=>rfl
 | true=>exact absurd (R.Bd (Nj h)) e
end RB
namespace L2
open PySem PySem.Spec PyProof.Rows
def Ite (K:PySem.W.Frag) (l:Addr):It:=
 ⟨fun i H=>∃xs x,SqL K H l xs/\xs[i]? =some x,
  fun i H v H'=>∃T x,v= .ref T/\H T=none/\H'=upd H T (.tup [.int (i:Int),x])/\∀xs,SqL K H l xs->xs[i]? =some x,
  fun i H=>∃xs,SqL K H l xs/\xs.length=i⟩
theorem Ud {P:Program}{w:World}{K:PySem.W.Frag}{elts:List Expr}{k:Nat}{pos:Pos} (e it l:Addr) (n1:e≠it) (n2:l≠e) (n3:l≠it):
 Turn P w K (.Tuple elts k pos) (Ite K l) [e,it] e (fun i h=>(∃old,IsEnum h e it i old)/\h.IsListIter it l i) where
 mem:=by simp
 obj:=fun i h st b hb=>by
  obtain⟨⟨old,h1⟩,⟨o4,e4,_,d4⟩⟩:=st
  have hb':b=e\/b=it:=by simpa using hb
  rcases hb' with rfl | rfl
  ·exact⟨_,h1,fun v e=>by cases e⟩
  ·exact⟨o4,e4,fun v e=>by rw[d4] at e;cases e⟩
 keep:=fun i h h' st kp=>by
  obtain⟨⟨old,h1⟩,h4⟩:=st
  exact⟨⟨old,kp e (by simp) _ h1⟩,h4.at fun o z=>kp it (by simp) o z⟩
 item:=by
  intro X hP hw hK hc i pins s σ H E I hf st hg
  subst hP hw hK
  obtain⟨xs,x,hq,hx⟩:=hg
  obtain⟨its,rv,p1,hz1⟩:=I.list hq
  obtain⟨u,hu,ru⟩:=rv.get hx
  obtain⟨⟨old,s1⟩,s4⟩:=st
  have W:=WalksT.enumerate (prog:=X.prog) (w:=X.w) (A:=X.A) (I.ok.hd hc) e it l n1 n2 n3 its.toArray
  have b1:i<its.length:=(List.getElem?_eq_some_iff.mp hu).1
  refine W.item i s _ _ (by simpa using b1) ⟨⟨old,s1⟩,s4,p1.isList⟩ fun T vals h2 tk pv hT isT mid kp=> ?_
  obtain⟨tt,a,ha,rfl⟩:=pv
  have ea:a=u:=by have:its[i]? =some a:=by simpa using ha
                  rw[hu] at this;exact(Option.some.inj this).symm
  subst ea
  refine⟨.ref T,rfl,W.go elts k pos i T _ _ _ mid fun h3 st3 kp3=> ?_⟩
  obtain⟨t1,t4,_⟩:=st3
  have J:Inv X pins σ H {s with heap:=h3,toks:=tk}:=I.G7 (ch:=[e,it]) (fun b hb=>hf b hb) fun b o hb z=>kp3 b o hb (kp b o hb z)
  have hT0:H T=none:=I.hok.fresh hT
  have nT:T∉[e,it]:=fun hm=>by
   obtain⟨o,z⟩:∃o,s.heap.get? T=some o:=by
    have:T=e\/T=it:=by simpa using hm
    obtain⟨o4,e4,_⟩:=s4
    rcases this with rfl | rfl
    ·exact⟨_,s1⟩
    ·exact⟨_,e4⟩
   exact absurd (Heap.lt_size z) (Nat.not_lt.mpr hT)
  have ada:IsTup h3 T #[.int i tt,a]:=by
   obtain⟨o,z,r⟩:=isT
   exact⟨o,kp3 T o nT z,r⟩
  have fp:=I.O5 (H':=H) hT hT0
  refine⟨.ref T,upd H T (.tup [.int (i:Int),x]),J.track hT0 ?_ fp.2.1 fp.2.2.2.2.1 fp.2.2.2.2.2 ?_,rfl,⟨T,x,rfl,hT0,rfl,fun zs hs=>by rw[I.Mp hs hq];exact hx⟩,⟨t1,t4⟩,fun b hb=> ?_⟩
  ·cases z:X.s₀.heap.get? T with
   | none=>rfl
   | some o=>exact absurd (Heap.lt_size z) (Nat.not_lt.mpr (Nat.le_trans I.sz hT))
  ·exact⟨by show 2<=sizeLine;rw[sizeLine_eq];decide,[.int i tt,a], .cons ⟨tt,rfl⟩ (.cons ru .nil),ada⟩
  ·have nb:b≠T:=fun z=>nT (by rw[<-z];exact hb)
   rw[ao nb];exact(hf b hb).1
 done:=by
  intro X hP hw hK hc i pins s σ H E I hf st hg
  subst hP hw hK
  obtain⟨xs,hq,hi⟩:=hg
  obtain⟨its,rv,p1,hz1⟩:=I.list hq
  obtain⟨s1,s4⟩:=st
  have W:=WalksT.enumerate (prog:=X.prog) (w:=X.w) (A:=X.A) (I.ok.hd hc) e it l n1 n2 n3 its.toArray
  have en:its.toArray.size=i:=by rw[List.size_toArray,<-rv.length];exact hi
  subst en
  exact W.done s _ _ ⟨s1,s4,p1.isList⟩ fun h2 tk kp=>⟨rfl,I.G7 (ch:=[e,it]) (fun b hb=>hf b hb) kp⟩
 self:=fun A i s Q E st h=>by
  obtain⟨⟨old,h1⟩,h4⟩:=st
  exact wpAny_pyIter_enum h1 h
def aa9 (K:PySem.W.Frag) (ta:TA):TI:=fun σ H R=>ta σ H fun vs H1=>∃l,vs=[.ref l]/\(∃xs,SqL K H1 l xs)/\R (Ite K l) H1
theorem Zt {X:Cx}{elts:List Expr}{k:Nat}{tp:Pos}{a:Expr}{ta:TA}{p pos:Pos} (hg:Gl X "enumerate") (hm:X.mg "enumerate"=none) (ha:PA X [a] ta) (hs:starEach [a] X.env=[(false,eval a X.env)]:=by rfl):
 PI X (.Tuple elts k tp) (.Call (.Name "enumerate" p) [a] [] pos) (aa9 X.K ta):=by
 intro pins s σ H R I h
 refine Call_ (Al I hg hm KN (PyProof.Rows.callWith_type1 (thn (ha pos pins s σ H _ I h) fun us s1 ⟨vs,H1,I1,r1,q1⟩=> ?_) (by rw[hs];rfl) (by rfl)))
 obtain⟨l,rfl,⟨xs,hq⟩,q⟩:=q1
 obtain⟨u,rfl,ru⟩:=vals1 r1
 cases ru
 obtain⟨its,_,p1,_⟩:=I1.list hq
 have lt1:l<s1.heap.objs.size:=by obtain⟨o,e,_⟩:=p1.isList;exact Heap.lt_size e
 refine call_enumerate_list p1.isList fun h5 he hi _ kp=> ?_
 refine wpAny_pyIter_enum he ?_
 have I2:Inv X pins σ H1 {s1 with heap:=h5}:=I1.kept (t':=s1.toks) kp
 refine⟨s1.heap.objs.size+1,[s1.heap.objs.size+1,s1.heap.objs.size],_,_,H1,rfl,I2,Ud _ _ l (Nat.succ_ne_self _) (Nat.ne_of_lt (Nat.lt_succ_of_lt lt1)) (Nat.ne_of_lt lt1),⟨⟨_,he⟩,hi⟩,fun b hb=> ?_,q⟩
 have hle:s1.heap.objs.size<=b:=by
  have:b=s1.heap.objs.size+1\/b=s1.heap.objs.size:=by simpa using hb
  rcases this with rfl | rfl<;>first | exact Nat.le_refl _ | exact Nat.le_add_right _ _
 exact I1.O5 hle (I1.hok.fresh hle)
theorem Zu {X:Cx}{elts:List Expr}{k:Nat}{tp:Pos}{a:Expr}{ta:TA}{p pos:Pos} (hg:Gl X "enumerate") (hm:X.mg "enumerate"=none) (ha:QA X [a] ta) (hs:starEach [a] X.env=[(false,eval a X.env)]:=by rfl):
 QI X (.Tuple elts k tp) (.Call (.Name "enumerate" p) [a] [] pos) (aa9 X.K ta):=⟨Zt hg hm ha.h hs⟩
theorem Wa {K:PySem.W.Frag}{a:Addr}{xs:List V}{g:TG}{tb:TS}{D:Ends}{σ:St}{H:Hp} (Pv:Nat->St->Hp->Prop) (h0:Pv 0 σ H) (hl:∀i σ H,i<=xs.length->Pv i σ H->SqL K H a xs)
 (hs:∀i x T σ H,xs[i]? =some x->H T=none->Pv i σ H->g (.ref T) σ (upd H T (.tup [.int (i:Int),x])) fun σ2 H2=>tb {D with nx:=Pv (i+1),ct:=Pv (i+1),bk:=D.nx} σ2 H2) (hd:∀σ H,Pv xs.length σ H->D.nx σ H):
 ∃W:Nat->Nat->St->Hp->Prop,(∃m,W 0 m σ H)/\∀i m σ H,W i m σ H->
  ((Ite K a).stop i H/\D.nx σ H)\/((Ite K a).go i H/\∃N:St->Hp->Prop,(∀σ' H',N σ' H'->∃m',m'<m/\W (i+1) m' σ' H')/\∀x H',(Ite K a).yld i H x H'->g x σ H' fun σ2 H2=>tb {D with nx:=N,ct:=N,bk:=D.nx} σ2 H2):=by
 refine⟨fun i m σ H=>m=xs.length - i/\i<=xs.length/\Pv i σ H,⟨xs.length,by simp,Nat.zero_le _,h0⟩, ?_⟩
 rintro i m σ H ⟨rfl,hi,p⟩
 have q1:=hl i σ H hi p
 by_cases hlt:i<xs.length
 ·refine .inr ⟨⟨xs,xs[i],q1,List.getElem?_eq_getElem hlt⟩,Pv (i+1),fun σ' H' z=>⟨_,by omega,rfl,hlt,z⟩, ?_⟩
  rintro x H' ⟨T,u,rfl,hT,rfl,e1⟩
  exact hs i u T σ H (e1 xs q1) hT p
 ·have e:i=xs.length:=by omega
  subst e
  exact .inl ⟨⟨xs,q1,rfl⟩,hd σ H p⟩
end L2
namespace RB
open PySem L2 PySem.Spec PyProof.Rows
end RB
namespace L2
open PySem PySem.Spec PyProof.Rows RB
section
variable {prog:Program}{w:World}{A:Around}{E:Value->Shared->Prop}{s:Shared}
end
end L2
namespace RB
open PySem L2 PySem.Spec PyProof.Rows
end RB
namespace L2
open PySem PySem.Spec PyProof.Rows RB
theorem Qf {P:Program}{w:World} (a b:Addr) (x1 x2 y1 y2:Value) (n m:Nat) (d1 d2:Option Addr) (t1 t2:Array (Option Value)):
 MeetsIn P w (Builtin.«tuple.__eq__» ⟨[.ref a, .ref b],[]⟩)
  (fun A R s=>s.heap.get? a=some {cls:= .type "tuple",dict:=d1,data:= .seq #[x1,x2] n,slots:=t1}/\s.heap.get? b=some {cls:= .type "tuple",dict:=d2,data:= .seq #[y1,y2] m,slots:=t2}/\
    CT P w A.in1 s x1 y1/\CT P w A.in1 s x2 y2/\R (.ok (.ret (.bool true))) s):=by
 intro A R s z
 obtain⟨hp,g,d,tk,os⟩:=s
 obtain⟨z1,z2,e1,e2,z⟩:=z
 have f2:=AutoSeq1.sub_tuple_tuple
 wp_walk using AutoSeq1.wpAny_loadPart' z1,AutoSeq1.wpAny_loadPart' z2,wpAny_forIn_list _ (fun rest c s'=>c.1=none/\s'=⟨hp,g,d,tk,os⟩/\(rest=[(x1,y1),(x2,y2)]\/rest=[(x2,y2)]\/rest=[])) _
 case turn=>
  rintro⟨y,x⟩ rest c s' ⟨hc,rfl,h⟩
  rcases h with h | h | h
  ·cases h
   refine wpAny_bind (e1 _ _ ?_)
   wp_walk
   exact⟨rfl,rfl, .inr (.inl rfl)⟩
  ·cases h
   refine wpAny_bind (e2 _ _ ?_)
   wp_walk
   exact⟨rfl,rfl, .inr (.inr rfl)⟩
  ·cases h
 case fin=>
  rintro⟨c1,c2⟩ s' ⟨hc,rfl,_⟩
  simp only at hc
  subst hc
  wp_walk
  first | exact z | exact⟨_,rfl,z⟩
 case h=>exact⟨rfl,rfl, .inl rfl⟩
theorem Qg {P:Program}{w:World}{A:Around}{s:Shared}{a b:Addr}{x1 x2 y1 y2:Value} (ha:IsTup s.heap a #[x1,x2]) (hb:IsTup s.heap b #[y1,y2]) (h1:CT P w A.in1 s x1 y1) (h2:CT P w A.in1 s x2 y2) (hu:A.units<cLine):CT P w A s (.ref a) (.ref b):=fun E Q q=>by
 by_cases hab:a=b
 ·subst hab;exact SeqAt.EqAt.same (.ref a) P w E Q q
 obtain⟨⟨c1,d1,dt1,t1⟩,hp,hc1,n,hd1⟩:=ha
 obtain⟨⟨c2,d2,dt2,t2⟩,hq,hc2,m,hd2⟩:=hb
 simp only at hc1 hd1 hc2 hd2
 subst hc1 hd1 hc2 hd2
 have hT:s.TypeIs (.ref a) "tuple":=⟨_,hp,rfl⟩
 unfold eqBool
 refine wpAny_holding (wpAny_ite_split (fun z=>absurd (by have:=eq_of_beq z;injection this) hab) fun _=>wpAny_bind ?_)
 refine wpAny_richCompare_same_room (op:= .Eq) hT ⟨_,hq,rfl⟩ F.slot_tuple_eq (call_meetsIn F.slot_tuple_eq hT F.entry_tuple_eq (F.args_tuple_eq_2 _ _) (Qf a b x1 x2 y1 y2 n m d1 d2 t1 t2) ⟨hp,hq,h1,h2, ?_⟩) hu
 exact⟨(fun x=>nomatch x),wpAny_truthy_bool q⟩
theorem K8 {X:Cx}{pins:List (Addr×Obj)}{s:Shared}{σ:St}{H:Hp}{A:Around}{x y:V}{z z':Value} (I:Inv X pins σ H s) (rz:RelV x z) (rz':RelV y z') (h:EqV H x y) (hu:A.units<cLine):CT X.prog X.w A s z z':=by
 rcases h with⟨e,pv⟩ | ⟨p,q',kvs,e3,e4,hp,hq,hpl⟩
 ·rw[<-e] at rz'
  exact CT.of (Ib pv rz rz')
 ·rw[e3] at rz
  rw[e4] at rz'
  cases rz
  cases rz'
  obtain⟨_,lo,va,ka,da⟩:=(show d8 X.prog X.w H s.heap p (.dK kvs) from hp.ok I.hok)
  obtain⟨_,lo',vb,kb,db⟩:=(show d8 X.prog X.w H s.heap q' (.dK kvs) from hq.ok I.hok)
  exact Qa lo lo' ka kb da db hpl hu
def ajd (H:Hp) (x y:V):Prop:=EqV H x y\/∃a b x1 x2 y1 y2,x= .ref a/\y= .ref b/\H a=some (.tup [x1,x2])/\H b=some (.tup [y1,y2])/\EqV H x1 y1/\EqV H x2 y2
end L2
namespace RB
open PySem L2 PySem.Spec PyProof.Rows
section
variable {p h hg hc h2 g2 c2 rcd r2 wd w2 hd:Addr}{o:Obj}{n:Nat}{gv:Kn}{rc:Rn}{kg kc kr kw:List (Key×V)}{rm:Rm}{H H':Hp}
end
theorem Wb {kn:Kn}{d:List Rdp} (h:Rows kn d) {x:Str}{v:Int} (hx:kn x=some v) (m:(x,v)∈d):tG d x v=d:=by
 unfold tG
 rw[if_pos (List.any_eq_true.mpr ⟨(x,v),m,by simp⟩)]
 have:∀p∈d,(if p.1=x then(p.1,v) else p)=p:=fun p hp=>by
  by_cases z:p.1=x
  ·rw[if_pos z]
   have:=h.s p hp
   rw[z,hx] at this
   rw[Option.some.inj this]
  ·rw[if_neg z]
 rw[List.map_congr_left this]
 exact List.map_id _
theorem Wc {kn:Kn}{d:List Rdp} (h:Rows kn d) {x:Str}{v:Int} (hx:kn x=some v) (m:(x,v)∉d):tG d x v=d++[(x,v)]:=by
 unfold tG
 rw[if_neg]
 intro z
 obtain⟨p,hp,e⟩:=List.any_eq_true.mp z
 have e:=of_decide_eq_true e
 have:=h.s p hp
 rw[e,hx] at this
 exact m (by rw[<-e,Option.some.inj this];exact hp)
def xU (kn:Kn) (r:R) (t:List Stp) (f:List Int) (d:List Rdp):Prop:=match ev kn r with
 | .inr v=>∃n us,StN kn n ⟨t++[.r r],f,d⟩ ⟨t,f++[v],d++us⟩/\mW r (kn0.puts d) us v/\Rows kn (d++us)
 | .inl x=>∃n t' f' us,StN kn n ⟨t++[.r r],f,d⟩ ⟨t'++[.r (.rd x)],f',d++us⟩/\kn x=none/\Chn r (kn0.puts d) us/\ev (kn0.puts (d++us)) r= .inl x/\Rows kn (d++us)
theorem Ue {kn:Kn}{d:List Rdp} (h:Rows kn d) {x:Str} (hx:kn x=none):kn0.puts d x=none:=by
 cases e:kn0.puts d x with
 | none=>rfl
 | some u=>
   rcases uA e with z | z
   ·have:=h.s _ z
    rw[hx] at this;cases this
   ·cases z
theorem Nk {kn:Kn}{x:Str}{t:List Stp}{f:List Int}{d:List Rdp} (hd:Rows kn d):xU kn (.rd x) t f d:=by
 unfold xU
 show match look kn x with
  | .inr v=>_
  | .inl y=>_
 unfold look
 cases e:kn x with
 | none=>
   refine⟨0,t,f,[], ?_,e,trivial, ?_,by rw[List.append_nil];exact hd⟩
   ·rw[List.append_nil];exact .zero
   ·rw[List.append_nil]
    show look _ x=_
    unfold look
    rw[Ue hd e]
 | some v=>
   have hl:=hd.look e
   by_cases m:(x,v)∈d
   ·rw[if_pos m] at hl
    refine⟨1,[], .succ (.rd e) ?_,hl,by rw[List.append_nil];exact hd⟩
    rw[Wb hd e m,List.append_nil];exact .zero
   ·rw[if_neg m] at hl
    refine⟨1,[(x,v)], .succ (.rd e) ?_,hl.1,hl.2⟩
    rw[Wc hd e m];exact .zero
def Ae (kn:Kn) (r:R) (x:Str):Prop:=∃ps,Chn r kn0 ps/\ev (kn0.puts ps) r= .inl x/\Rows kn ps
def Goes (kn:Kn) (r:R) (c:Cf):Prop:=match ev kn r with
 | .inr v=>c.todo=[]/\c.found=[v]/\mW r kn0 c.rds v/\Rows kn c.rds
 | .inl x=>(∃t,c.todo=t++[.r (.rd x)])/\kn x=none/\Ae kn r x
theorem Wd {kn:Kn}:Rows kn []:=⟨by simp,by simp⟩
theorem qQ:∀r:R,1<=r.depth
 | .num _=>Nat.le_refl _
 | .rd _=>Nat.le_refl _
 | .bin _ a b=>by show 1<=max a.depth b.depth+1;omega
 | .pick a b c=>by show 1<=max a.depth (max b.depth c.depth)+1;omega
 | .cho a _=>by show 1<=a.depth+1;omega
theorem Ii:∀(r:R) (d:Nat),r.depth<=d->wR r+2<=3 ^ d
 | r,0,h=>absurd (qQ r) (by omega)
 | .num _,d+1,_=>by
   have:1<=3 ^ d:=Nat.one_le_pow _ _ (by decide)
   show 1+2<=3 ^(d+1)
   rw[Nat.pow_succ];omega
 | .rd _,d+1,_=>by
   have:1<=3 ^ d:=Nat.one_le_pow _ _ (by decide)
   show 1+2<=3 ^(d+1)
   rw[Nat.pow_succ];omega
 | .bin _ a b,d+1,h=>by
   have h:max a.depth b.depth+1<=d+1:=h
   have h1:=Ii a d (by omega)
   have h2:=Ii b d (by omega)
   show wR a+wR b+2+2<=3 ^(d+1)
   rw[Nat.pow_succ];omega
 | .pick a b c,d+1,h=>by
   have h:max a.depth (max b.depth c.depth)+1<=d+1:=h
   have h1:=Ii a d (by omega)
   have h2:=Ii b d (by omega)
   have h3:=Ii c d (by omega)
   show wR a+wR b+wR c+2+2<=3 ^(d+1)
   rw[Nat.pow_succ];omega
 | .cho a _,d+1,h=>by
   have h:a.depth+1<=d+1:=h
   have h1:=Ii a d (by omega)
   show wR a+3+2<=3 ^(d+1)
   rw[Nat.pow_succ];omega
end RB
namespace L2
open PySem PySem.Spec PyProof.Rows
theorem Zv {X:Cx}{e:Expr}{f:Str}{pos:Pos}{ta:TE}{K:PySem.W.Frag} (eK:X.K=K) (he:QE X e ta) (hb:attributeBase e f X.env (eval e X.env)=eval e X.env:=by rfl):QE X (.Attribute e f pos) (acj K ta f):=eK▸cF he hb
end L2
namespace RB
open PySem L2 PySem.Spec PyProof.Rows
structure NrC (K:PySem.W.Frag) (C:Addr):Prop where
 cl:Cls K C
 nB:jw K C "by_name"
def nrF (rcd:Addr):List (Str×V):=[("by_name", .ref rcd)]
def Ij (C:Addr):Sp:=fun vs H Q _=>∃(a dx rcd:Addr),vs=[.ref a, .ref rcd]/\H a=some (.ins C dx [])/\∀H',But [a] H H'->H' a=some (.ins C dx (nrF rcd))->Q .non H'
def Km (rm:Rm) (y:Str) (r:R) (kn:Kn):Prop:=∀r' ps v,rm y=some (r',ps,v)->r'≠r\/∃p∈ps,∃u,kn p.1=some u/\u≠p.2
theorem Km.le {rm:Rm}{y:Str}{r:R}{kn kn':Kn} (h:Km rm y r kn) (l:Kn.Le kn kn'):Km rm y r kn':=fun r' ps v e=>(h r' ps v e).imp id fun⟨p,hp,u,hu,hn⟩=>⟨p,hp,u,l _ _ hu,hn⟩
def Nm (H:Hp) (fl:Addr) (kr:List (Key×V)) (rm:Rm) (y:Str) (r:R) (kn:Kn) (k:Nat):Prop:=
 (∃rb ps v,H fl=some (.lst [.ref rb])/\fG kr (.inr y)=some (.ref rb)/\rm y=some (r,ps,v)/\k<=ps.length/\∀(j:Nat) p,j<k->ps[j]? =some p->kn p.1=some p.2)\/(H fl=some (.lst [])/\Km rm y r kn)
theorem Nm.le {H:Hp}{fl:Addr}{kr:List (Key×V)}{rm:Rm}{y:Str}{r:R}{kn kn':Kn}{k:Nat} (h:Nm H fl kr rm y r kn k) (l:Kn.Le kn kn'):Nm H fl kr rm y r kn' k:=
 h.imp (fun⟨rb,ps,v,a,b,c,d,e⟩=>⟨rb,ps,v,a,b,c,d,fun j p hj hp=>l _ _ (e j p hj hp)⟩) fun⟨a,b⟩=>⟨a,b.le l⟩
theorem Nm.at {H H':Hp}{fl:Addr}{kr:List (Key×V)}{rm:Rm}{y:Str}{r:R}{kn:Kn}{k:Nat} (h:Nm H fl kr rm y r kn k) (f:∀o,H fl=some o->H' fl=some o):Nm H' fl kr rm y r kn k:=
 h.imp (fun⟨rb,ps,v,a,b⟩=>⟨rb,ps,v,f _ a,b⟩) fun⟨a,b⟩=>⟨f _ a,b⟩
def aba:Sp:=fun vs H Q _=>(∃v w,vs=[v,w])/\Q .non H
structure SeD where
 s:Addr
 dx:Addr
 b:Addr
 fl:Addr
 rk:Addr
 dxr:Addr
 a1:Addr
 a2:Addr
 a3:Addr
 k:Nat
def SeD.ft (A:SeD):List Addr:=[A.s,A.fl,A.rk,A.a1,A.a2,A.a3]
def seF (b fl:Addr) (k:Nat) (rk:Addr):List (Str×V):=[("recipe", .ref b),("fitting", .ref fl),("place", .int k),("reckoning", .ref rk)]
structure SeC (K:PySem.W.Frag) (C:Addr):Prop where
 cl:Cls K C
 nR:jw K C "recipe"
 nF:jw K C "fitting"
 nP:jw K C "place"
 nK:jw K C "reckoning"
theorem zz (b fl:Addr) (k:Nat) (rk:Addr):List.lookup ("recipe":Str) (seF b fl k rk)=some (.ref b):=rfl
theorem vL (b fl:Addr) (k:Nat) (rk:Addr):List.lookup ("fitting":Str) (seF b fl k rk)=some (.ref fl):=rfl
theorem zA (b fl:Addr) (k:Nat) (rk:Addr):List.lookup ("place":Str) (seF b fl k rk)=some (.int k):=rfl
theorem qI (b fl:Addr) (k:Nat) (rk:Addr):List.lookup ("reckoning":Str) (seF b fl k rk)=some (.ref rk):=rfl
theorem ig (b fl:Addr) (k:Nat) (rk:Addr):List.lookup ("lacking":Str) (seF b fl k rk)=none/\List.lookup ("fit_on":Str) (seF b fl k rk)=none/\List.lookup ("was_reckoned":Str) (seF b fl k rk)=none/\List.lookup ("new_record":Str) (seF b fl k rk)=none:=⟨rfl,rfl,rfl,rfl⟩
structure vM (CS CR:Addr) (kr:List (Key×V)) (rm:Rm) (y:Str) (r:R) (kn:Kn) (A:SeD) (H:Hp):Prop where
 e:H A.s=some (.ins CS A.dx (seF A.b A.fl A.k A.rk))
 hr:IsR H A.b r
 c:∃c,RcAt H A.rk CR A.dxr A.a1 A.a2 A.a3 c/\Reach kn r c
 f:Nm H A.fl kr rm y r kn A.k
 n1:A.s≠A.rk
 n2:A.fl≠A.a1
 n3:A.fl≠A.a2
theorem RcAt.move {S:List Addr}{H H':Hp}{a C dx a1 a2 a3:Addr}{c:Cf} (h:RcAt H a C dx a1 a2 a3 c) (b:But S H H') (t:jg H H') (hs:∀z∈[a,a1,a2,a3],z∉S):RcAt H' a C dx a1 a2 a3 c:=by
 obtain⟨e,⟨ws,e1,hw⟩,e2,e3,ne,w⟩:=h
 exact⟨b _ _ (hs _ (by simp)) e,⟨ws,b _ _ (hs _ (by simp)) e1,hw.tups t⟩,b _ _ (hs _ (by simp)) e2,b _ _ (hs _ (by simp)) e3,ne,w⟩
section
variable {CS CR:Addr}{kr:List (Key×V)}{rm:Rm}{y:Str}{r:R}{kn kn':Kn}{A:SeD}{H H':Hp}
theorem vM.move {S:List Addr} (h:vM CS CR kr rm y r kn A H) (b:But S H H') (t:jg H H') (hs:∀z∈A.ft,z∉S):vM CS CR kr rm y r kn A H':=by
 obtain⟨c,h1,h2⟩:=h.c
 exact⟨b _ _ (hs _ (by simp[SeD.ft])) h.e,h.hr.tups t,⟨c,h1.move b t fun z hz=>hs z (by
  have:z=A.rk\/z=A.a1\/z=A.a2\/z=A.a3:=by simpa using hz
  unfold SeD.ft
  rcases this with rfl | rfl | rfl | rfl<;>simp),h2⟩,h.f.at fun o e=>b _ _ (hs _ (by simp[SeD.ft])) e,h.n1,h.n2,h.n3⟩
theorem vM.le (h:vM CS CR kr rm y r kn A H) (l:Kn.Le kn kn'):vM CS CR kr rm y r kn' A H:=by
 obtain⟨c,h1,h2⟩:=h.c
 exact⟨h.e,h.hr,⟨c,h1,h2.le l⟩,h.f.le l,h.n1,h.n2,h.n3⟩
def We (H:Hp) (CR:Addr) (kr:List (Key×V)) (rm:Rm) (y:Str) (r:R) (kn:Kn) (A:SeD):Prop:=
 (∃rb ps v,H A.fl=some (.lst [.ref rb])/\fG kr (.inr y)=some (.ref rb)/\rm y=some (r,ps,v)/\∀p∈ps,kn p.1=some p.2)\/
 (H A.fl=some (.lst [])/\Km rm y r kn/\∃c v,RcAt H A.rk CR A.dxr A.a1 A.a2 A.a3 c/\c.found=[v]/\mW r kn0 c.rds v/\Rows kn c.rds)
end
def Np (CS CR:Addr):Sp:=fun vs H Q _=>∃(a dx b fl:Addr) (r:R),vs=[.ref a, .ref b, .ref fl]/\H a=some (.ins CS dx [])/\IsR H b r/\wR r<=4000/\
 ∀(A:SeD) H',But [a] H H'->A.s=a->A.b=b->A.fl=fl->A.k=0->H' a=some (.ins CS A.dx (seF b fl 0 A.rk))->RcAt H' A.rk CR A.dxr A.a1 A.a2 A.a3 ⟨[.r r],[],[]⟩->(∀z∈[A.rk,A.a1,A.a2,A.a3],H z=none)->Q .non H'
def abb (CS:Addr):Sp:=fun vs H Q _=>∃(s dx b fl rk rb br l:Addr) (k:Nat) (as:List Addr) (ps:List Rdp) (v w u:Int) (x:Str),vs=[.ref s, .int w]/\H s=some (.ins CS dx (seF b fl k rk))/\H fl=some (.lst [.ref rb])/\H rb=some (.tup [.ref br, .ref l, .int v])/\H l=some (.lst (as.map V.ref))/\iC H as ps/\ps[k]? =some (x,u)/\
 ∀fl' H',But [s] H H'->H fl'=none->H' s=some (.ins CS dx (seF b fl' (k+1) rk))->H' fl'=some (.lst (if u=w then [.ref rb] else []))->Q .non H'
theorem Nq {r:R}:∀{ps:List Rdp}{kn:Kn}{k:Nat}{x:Str}{u:Int},Chn r kn ps->ps[k]? =some (x,u)->Chn r kn (ps.take k)/\ev (kn.puts (ps.take k)) r= .inl x
 |[],_,_,_,_,_,h=>by simp at h
 | p::ps,kn,0,x,u,c,h=>by cases h;exact⟨trivial,c.1⟩
 | p::ps,kn,k+1,x,u,c,h=>by
   obtain⟨h1,h2⟩:=Nq (ps:=ps) (k:=k) c.2 (by simpa using h)
   exact⟨⟨c.1,h1⟩,h2⟩
theorem Qh {r:R}{ps:List Rdp}{kn:Kn}{k:Nat}{x:Str}{u:Int} (c:Chn r kn0 ps) (h:ps[k]? =some (x,u)) (he:∀(j:Nat) p,j<k->ps[j]? =some p->kn p.1=some p.2):Ae kn r x:=by
 obtain⟨h1,h2⟩:=Nq c h
 refine⟨ps.take k,h1,h2,fun p hp=> ?_, ?_⟩
 ·obtain⟨j,hj⟩:=List.getElem?_of_mem hp
  rw[List.getElem?_take] at hj
  split at hj
  ·exact he j p (by assumption) hj
  ·cases hj
 ·rw[List.map_take]
  exact((zx c).2).sublist (List.take_sublist _ _)
theorem Nr {H:Hp}:∀{as:List Addr}{ps:List Rdp},as.length=ps.length->(∀(j:Nat) (b:Addr) (p:Rdp),as[j]? =some b->ps[j]? =some p->H b=some (.tup (rdV p)))->iC H as ps
 |[],[],_,_=> .nil
 | a::as,p::ps,hl,h=> .cons (h 0 a p rfl rfl) (Nr (by simpa using hl) fun j b q h1 h2=>h (j+1) b q (by simpa using h1) (by simpa using h2))
 |[],_::_,hl,_=>by simp at hl
 | _::_,[],hl,_=>by simp at hl
def Rcd (rm:Rm) (y:Str) (r:R) (kn:Kn) (ps:List Rdp) (v:Int) (made:Bool):Prop:=
 mW r kn0 ps v/\Rows kn ps/\if made=true then Km rm y r kn else rm y=some (r,ps,v)
theorem RL {kn kn':Kn}{x y:Str} (e:look kn x= .inl y) (h:kn' y=none):look kn' x= .inl y:=by
 obtain⟨rfl,_⟩:=uz e
 unfold look
 rw[h]
theorem Ik {kn kn':Kn} (hk:Kn.Le kn kn'):∀{r:R}{x:Str},ev kn r= .inl x->kn' x=none->ev kn' r= .inl x
 | .num n,x,h,_=>by cases h
 | .rd y,x,h,hx=>RL h hx
 | .bin op a b,x,h,hx=>by
   simp only[ev] at h ⊢
   cases ea:ev kn a with
   | inl y=>rw[ea] at h;cases h;rw[Ik hk ea hx]
   | inr u=>
     rw[ea] at h
     rw[lX hk ea]
     simp only at h ⊢
     cases eb:ev kn b with
     | inl y=>rw[eb] at h;cases h;rw[Ik hk eb hx]
     | inr v=>rw[eb] at h;cases h
 | .pick a b c,x,h,hx=>by
   simp only[ev] at h ⊢
   cases ea:ev kn a with
   | inl y=>rw[ea] at h;cases h;rw[Ik hk ea hx]
   | inr u=>
     rw[ea] at h
     rw[lX hk ea]
     simp only at h ⊢
     by_cases hu:u>0
     ·rw[if_pos hu] at h ⊢;exact Ik hk h hx
     ·rw[if_neg hu] at h ⊢;exact Ik hk h hx
 | .cho a ns,x,h,hx=>by
   simp only[ev] at h ⊢
   cases ea:ev kn a with
   | inl y=>rw[ea] at h;cases h;rw[Ik hk ea hx]
   | inr u=>
     rw[ea] at h
     rw[lX hk ea]
     simp only at h ⊢
     cases ep:rA ns u with
     | none=>rw[ep] at h;cases h
     | some y=>rw[ep] at h;exact RL h hx
theorem K9:∀{ps:List Rdp}{k kn:Kn},Kn.Le k kn->(∀p∈ps,kn p.1=some p.2)->Kn.Le (k.puts ps) kn
 |[],k,kn,h,_=>h
 | p::ps,k,kn,h,hp=>by
   refine K9 (ps:=ps) (k:=k.put p.1 p.2) (fun x v e=> ?_) fun q hq=>hp q (by simp[hq])
   unfold Kn.put at e
   by_cases z:x=p.1
   ·rw[if_pos z] at e;cases e;rw[z];exact hp p (by simp)
   ·rw[if_neg z] at e;exact h x v e
theorem Wf {kn:Kn}:Kn.Le kn0 kn:=fun x v e=>by cases e
theorem Ae.ev {kn:Kn}{r:R}{x:Str} (h:Ae kn r x) (hx:kn x=none):ev kn r= .inl x:=let ⟨ps,_,b,c⟩:=h;Ik (K9 Wf c.s) b hx
theorem adb {kn:Kn}{r:R}{ps:List Rdp}{v:Int} (g:mW r kn0 ps v) (c:Rows kn ps):RB.ev kn r= .inr v:=lX (K9 Wf c.s) g.2
abbrev Ms:Type:=List Str×Kn×List Str
def mv (gv:Kn) (rc:Rn):Ms->Option Ms
 | ([],_,_)=>none
 | (x::p,kn,od)=>match kn x with
   | some _=>some (p,kn,od)
   | none=>match gv x with
     | some v=>some (x::p,kn.put x v,od)
     | none=>match rc x with
       | none=>none
       | some r=>match ev kn r with
         | .inl y=>some (y::x::p,kn,od)
         | .inr v=>some (x::p,kn.put x v,od++[x])
def itM (gv:Kn) (rc:Rn):Nat->Ms->Option Ms
 | 0,s=>some s
 | k+1,s=>match mv gv rc s with
   | none=>none
   | some t=>itM gv rc k t
def Mvs (gv:Kn) (rc:Rn) (s t:Ms):Prop:=∃k,itM gv rc k s=some t
section
variable {gv:Kn}{rc:Rn}
theorem ade {kn:Kn}{od:List Str}:mv gv rc ([],kn,od)=none:=rfl
theorem La {x:Str}{p od:List Str}{kn:Kn}{v:Int} (h2:kn x=none) (h:gv x=some v):mv gv rc (x::p,kn,od)=some (x::p,kn.put x v,od):=by unfold mv;simp only[h,h2]
theorem EY {x:Str}{p od:List Str}{kn:Kn} (h2:kn x≠none):mv gv rc (x::p,kn,od)=some (p,kn,od):=by
 unfold mv
 cases e:kn x with
 | none=>exact absurd e h2
 | some v=>simp only[e]
theorem G8 {x y:Str}{p od:List Str}{kn:Kn}{r:R} (h:gv x=none) (h2:kn x=none) (h3:rc x=some r) (h4:ev kn r= .inl y):mv gv rc (x::p,kn,od)=some (y::x::p,kn,od):=by unfold mv;simp only[h,h2,h3,h4]
theorem Fb {x:Str}{p od:List Str}{kn:Kn}{r:R}{v:Int} (h:gv x=none) (h2:kn x=none) (h3:rc x=some r) (h4:ev kn r= .inr v):mv gv rc (x::p,kn,od)=some (x::p,kn.put x v,od++[x]):=by unfold mv;simp only[h,h2,h3,h4]
theorem Mvs.refl (s:Ms):Mvs gv rc s s:=⟨0,rfl⟩
theorem Nt:∀{k:Nat}{s t u:Ms},itM gv rc k s=some t->mv gv rc t=some u->itM gv rc (k+1) s=some u
 | 0,s,t,u,h,h2=>by cases h;show(match mv gv rc s with | none=>none | some t=>itM gv rc 0 t)=some u;rw[h2];rfl
 | k+1,s,t,u,h,h2=>by
   unfold itM at h ⊢
   cases e:mv gv rc s with
   | none=>rw[e] at h;cases h
   | some w=>rw[e] at h;exact Nt (k:=k) h h2
theorem Mvs.snoc {s t u:Ms} (h:Mvs gv rc s t) (h2:mv gv rc t=some u):Mvs gv rc s u:=let ⟨k,e⟩:=h;⟨k+1,Nt e h2⟩
theorem RM:∀{k:Nat}{l:Nat}{s t u:Ms},itM gv rc k s=some t->itM gv rc l t=some u->itM gv rc (k+l) s=some u
 | 0,l,s,t,u,h,h2=>by cases h;rw[Nat.zero_add];exact h2
 | k+1,l,s,t,u,h,h2=>by
   rw[Nat.add_right_comm]
   unfold itM at h ⊢
   cases e:mv gv rc s with
   | none=>rw[e] at h;cases h
   | some w=>rw[e] at h;exact RM (k:=k) h h2
theorem Mvs.trans {s t u:Ms} (h:Mvs gv rc s t) (h2:Mvs gv rc t u):Mvs gv rc s u:=let ⟨k,e⟩:=h;let ⟨l,e2⟩:=h2;⟨k+l,RM e e2⟩
theorem RP:∀{k l:Nat}{s t u:Ms},itM gv rc k s=some t->mv gv rc t=none->itM gv rc l s=some u->mv gv rc u=none->t=u
 | 0,0,s,t,u,h,_,h2,_=>by cases h;cases h2;rfl
 | 0,l+1,s,t,u,h,n,h2,_=>by
   cases h
   unfold itM at h2
   rw[n] at h2;cases h2
 | k+1,0,s,t,u,h,_,h2,n=>by
   cases h2
   unfold itM at h
   rw[n] at h;cases h
 | k+1,l+1,s,t,u,h,n,h2,n2=>by
   unfold itM at h h2
   cases e:mv gv rc s with
   | none=>rw[e] at h;cases h
   | some w=>rw[e] at h h2;exact RP h n h2 n2
theorem Mvs.det {s:Ms}{a b:Kn×List Str} (h:Mvs gv rc s ([],a)) (h2:Mvs gv rc s ([],b)):a=b:=by
 obtain⟨k,e⟩:=h
 obtain⟨l,e2⟩:=h2
 have:=RP e rfl e2 rfl
 cases this;rfl
end
def Runs (gv:Kn) (rc:Rn):List Str->Kn×List Str->Kn×List Str->Prop
 |[],a,b=>a=b
 | x::ws,a,b=>∃c,Mvs gv rc ([x],a) ([],c)/\Runs gv rc ws c b
theorem Runs.det {gv:Kn}{rc:Rn}:∀{ws:List Str}{a b c:Kn×List Str},Runs gv rc ws a b->Runs gv rc ws a c->b=c
 |[],a,b,c,h,h2=>by cases h;cases h2;rfl
 | x::ws,a,b,c,⟨d,h,g⟩,⟨d',h',g'⟩=>by
   have:=h.det h'
   cases this
   exact Runs.det g g'
def R.Fn (kn:Kn):R->Prop
 | .num _=>True
 | .rd _=>True
 | .bin op a b=>a.Fn kn/\b.Fn kn/\(op= .times->∀u v,ev kn a= .inr u->ev kn b= .inr v->qR u v)
 | .pick a b c=>a.Fn kn/\b.Fn kn/\c.Fn kn
 | .cho a ns=>a.Fn kn/\1<=ns.length
theorem Il {kn:Kn}:∀(r:R),r.Fn kn->∀t f d,Rows kn d->xU kn r t f d
 | .num n,_,t,f,d,hd=>⟨1,[], .succ .num (by rw[List.append_nil];exact .zero),RC,by rw[List.append_nil];exact hd⟩
 | .rd x,_,t,f,d,hd=>Nk hd
 | .bin op a b,h,t,f,d,hd=>by
   have ua:∀kn' x,ev kn' a= .inl x->ev kn' (.bin op a b)= .inl x:=fun kn' x e=>by simp only[ev];rw[e]
   have ha:=Il (kn:=kn) a h.1 (t++[.join op, .r b]) f d hd
   unfold xU at ha ⊢
   rw[List.append_assoc] at ha
   simp only[ev]
   cases ea:ev kn a with
   | inl x=>
     rw[ea] at ha
     obtain⟨n,t',f',us,s,hx,c,e,hr⟩:=ha
     exact⟨n+1,t',f',us, .succ .bin s,hx,c.up fun kn' x _ e=>ua kn' x e,ua _ _ e,hr⟩
   | inr u=>
     rw[ea] at ha
     obtain⟨n,us,s,g,hr⟩:=ha
     have hb:=Il (kn:=kn) b h.2.1 (t++[.join op]) (f++[u]) (d++us) hr
     unfold xU at hb
     rw[List.append_assoc] at hb
     have ub:∀kn' x,Kn.Le ((kn0.puts d).puts us) kn'->ev kn' b= .inl x->ev kn' (.bin op a b)= .inl x:=fun kn' x l e=>by simp only[ev];rw[lX l g.e];simp only;rw[e]
     cases eb:ev kn b with
     | inl x=>
       rw[eb] at hb
       obtain⟨m,t',f',vs,s2,hx,c,e,hr2⟩:=hb
       rw[Kn.fW] at c
       rw[List.append_assoc] at s2 e hr2
       refine⟨n+m+1,t',f',us++vs, .succ .bin (s.add s2),hx,(g.c.up fun kn' x _ e=>ua kn' x e).app (c.up ub), ?_,hr2⟩
       refine ub _ _ ?_ e
       rw[Kn.fW,Kn.fW]
       exact c.le
     | inr v=>
       rw[eb] at hb
       obtain⟨m,vs,s2,g2,hr2⟩:=hb
       rw[Kn.fW] at g2
       rw[List.append_assoc] at s2 hr2
       refine⟨n+(m+1)+1,us++vs, .succ .bin (s.add (s2.add (.succ ?_ .zero))),RD g g2,hr2⟩
       rw[List.append_assoc]
       exact .join fun z=>h.2.2 z u v ea eb
 | .pick a b c,h,t,f,d,hd=>by
   have ua:∀kn' x,ev kn' a= .inl x->ev kn' (.pick a b c)= .inl x:=fun kn' x e=>by simp only[ev];rw[e]
   have ha:=Il (kn:=kn) a h.1 (t++[.branch b c]) f d hd
   unfold xU at ha ⊢
   rw[List.append_assoc] at ha
   simp only[ev]
   cases ea:ev kn a with
   | inl x=>
     rw[ea] at ha
     obtain⟨n,t',f',us,s,hx,c,e,hr⟩:=ha
     exact⟨n+1,t',f',us, .succ .pick s,hx,c.up fun kn' x _ e=>ua kn' x e,ua _ _ e,hr⟩
   | inr u=>
     rw[ea] at ha
     obtain⟨n,us,s,g,hr⟩:=ha
     have hb:xU kn (if u>0 then b else c) t f (d++us):=by
      split
      ·exact Il b h.2.1 t f _ hr
      ·exact Il c h.2.2 t f _ hr
     unfold xU at hb
     simp only
     have e:(if u>0 then ev kn b else ev kn c)=ev kn (if u>0 then b else c):=by split<;>rfl
     rw[e]
     have up:∀kn':Kn,Kn.Le ((kn0.puts d).puts us) kn'->ev kn' (.pick a b c)=ev kn' (if u>0 then b else c):=fun kn' l=>by
      simp only[ev];rw[lX l g.e];simp only;split<;>rfl
     cases eb:ev kn (if u>0 then b else c) with
     | inl x=>
       rw[eb] at hb
       obtain⟨m,t',f',vs,s2,hx,c2,e2,hr2⟩:=hb
       rw[Kn.fW] at c2
       rw[List.append_assoc] at s2 e2 hr2
       refine⟨n+(m+1)+1,t',f',us++vs, .succ .pick (s.add (.succ .branch s2)),hx,(g.c.up fun kn' x _ e=>ua kn' x e).app (c2.up fun kn' x l z=>by rw[up kn' l];exact z), ?_,hr2⟩
       rw[<-e2]
       have hl:=c2.le
       have:=up (kn0.puts (d++(us++vs))) (by rw[Kn.fW,Kn.fW];exact hl)
       simp only[ev] at this
       exact this
     | inr v=>
       rw[eb] at hb
       obtain⟨m,vs,s2,g2,hr2⟩:=hb
       rw[Kn.fW] at g2
       rw[List.append_assoc] at s2 hr2
       exact⟨n+(m+1)+1,us++vs, .succ .pick (s.add (.succ .branch s2)),Nh g g2,hr2⟩
 | .cho a ns,h,t,f,d,hd=>by
   have ua:∀kn' x,ev kn' a= .inl x->ev kn' (.cho a ns)= .inl x:=fun kn' x e=>by simp only[ev];rw[e]
   have ha:=Il (kn:=kn) a h.1 (t++[.among ns]) f d hd
   unfold xU at ha ⊢
   rw[List.append_assoc] at ha
   simp only[ev]
   cases ea:ev kn a with
   | inl x=>
     rw[ea] at ha
     obtain⟨n,t',f',us,s,hx,c,e,hr⟩:=ha
     exact⟨n+1,t',f',us, .succ .cho s,hx,c.up fun kn' x _ e=>ua kn' x e,ua _ _ e,hr⟩
   | inr u=>
     rw[ea] at ha
     obtain⟨n,us,s,g,hr⟩:=ha
     obtain⟨y,ey⟩:=Ke h.2 u
     simp only
     rw[ey]
     have hb:=Nk (kn:=kn) (x:=y) (t:=t) (f:=f) hr
     unfold xU at hb
     simp only[ev] at hb
     simp only
     have up:∀kn':Kn,Kn.Le ((kn0.puts d).puts us) kn'->ev kn' (.cho a ns)=ev kn' (.rd y):=fun kn' l=>by
      simp only[ev];rw[lX l g.e];simp only;rw[ey]
     cases eb:look kn y with
     | inl x=>
       rw[eb] at hb
       obtain⟨m,t',f',vs,s2,hx,c2,e2,hr2⟩:=hb
       rw[Kn.fW] at c2
       rw[List.append_assoc] at s2 e2 hr2
       refine⟨n+(m+1)+1,t',f',us++vs, .succ .cho (s.add (.succ (.among ey) s2)),hx,(g.c.up fun kn' x _ e=>ua kn' x e).app (c2.up fun kn' x l z=>by rw[up kn' l];exact z), ?_,hr2⟩
       have hl:=c2.le
       have:=up (kn0.puts (d++(us++vs))) (by rw[Kn.fW,Kn.fW];exact hl)
       exact this.trans e2
     | inr v=>
       rw[eb] at hb
       obtain⟨m,vs,s2,g2,hr2⟩:=hb
       rw[Kn.fW] at g2
       rw[List.append_assoc] at s2 hr2
       exact⟨n+(m+1)+1,us++vs, .succ .cho (s.add (.succ (.among ey) s2)),RG g ey g2,hr2⟩
theorem Reach.afY {kn:Kn}{r:R} (hr:r.Fn kn) {c:Cf} (g:Reach kn r c):∃n c',StN kn n c c'/\Halt kn c'/\Reach kn r c'/\Goes kn r c':=by
 have h:=Il (kn:=kn) r hr [] [] [] Wd
 unfold xU at h
 unfold Goes
 obtain⟨m,g⟩:=g
 cases e:ev kn r with
 | inr v=>
   rw[e] at h
   obtain⟨n,us,s,gg,hr⟩:=h
   obtain⟨k,t⟩:=g.rest s (.inl rfl)
   exact⟨k,_,t, .inl rfl,⟨n,s⟩,rfl,rfl,gg,hr⟩
 | inl x=>
   rw[e] at h
   obtain⟨n,t',f',us,s,hx,c1,e1,hr⟩:=h
   have hh:Halt kn ⟨t'++[.r (.rd x)],f',[]++us⟩:= .inr ⟨t',x,rfl,hx⟩
   obtain⟨k,t⟩:=g.rest s hh
   exact⟨k,_,t,hh,⟨n,s⟩,⟨t',rfl⟩,hx,us,c1,e1,hr⟩
def R.nms:R->List Str
 | .num _=>[]
 | .rd x=>[x]
 | .bin _ a b=>a.nms++b.nms
 | .pick a b c=>a.nms++(b.nms++c.nms)
 | .cho a ns=>a.nms++ns
theorem R.xV:∀r:R,r.In r.nms
 | .num _=>trivial
 | .rd x=>List.mem_singleton.mpr rfl
 | .bin _ a b=>⟨a.xV.mono fun x hx=>List.mem_append_left _ hx,b.xV.mono fun x hx=>List.mem_append_right _ hx⟩
 | .pick a b c=>⟨a.xV.mono fun x hx=>List.mem_append_left _ hx,b.xV.mono fun x hx=>List.mem_append_right _ (List.mem_append_left _ hx),c.xV.mono fun x hx=>List.mem_append_right _ (List.mem_append_right _ hx)⟩
 | .cho a ns=>⟨a.xV.mono fun x hx=>List.mem_append_left _ hx,fun x hx=>List.mem_append_right _ hx⟩
theorem Nu {r:R}{ps:List Rdp}{kn:Kn}{ns:List Str} (c:Chn r kn ps) (hi:r.In ns):ps.length<=ns.length:=by
 have h:=ji (ws:=ps.map (·.1)) (ns:=ns) (zx c).2 fun x hx=>by
  obtain⟨p,hp,rfl⟩:=List.mem_map.mp hx
  exact V6 hi c p hp
 rwa [List.length_map] at h
structure SrD where
 so:Addr
 dx:Addr
 g:Addr
 c:Addr
 o:Addr
 dxo:Addr
 rcd:Addr
 kd:Addr
 sd:Addr
 rd:Addr
def srF (g c o kd sd rd:Addr):List (Str×V):=[("given", .ref g),("recipes", .ref c),("old", .ref o),("known", .ref kd),("settled", .ref sd),("reckoned", .ref rd)]
structure SrC (K:PySem.W.Frag) (C:Addr):Prop where
 cl:Cls K C
 nG:jw K C "given"
 nR:jw K C "recipes"
 nO:jw K C "old"
 nK:jw K C "known"
 nS:jw K C "settled"
 nM:jw K C "reckoned"
theorem CV (g c o kd sd rd:Addr):List.lookup ("given":Str) (srF g c o kd sd rd)=some (.ref g):=rfl
theorem vN (g c o kd sd rd:Addr):List.lookup ("recipes":Str) (srF g c o kd sd rd)=some (.ref c):=rfl
theorem Lb (g c o kd sd rd:Addr):List.lookup ("old":Str) (srF g c o kd sd rd)=some (.ref o):=rfl
theorem CW (g c o kd sd rd:Addr):List.lookup ("known":Str) (srF g c o kd sd rd)=some (.ref kd):=rfl
theorem vO (g c o kd sd rd:Addr):List.lookup ("settled":Str) (srF g c o kd sd rd)=some (.ref sd):=rfl
theorem sJ (g c o kd sd rd:Addr):List.lookup ("reckoned":Str) (srF g c o kd sd rd)=some (.ref rd):=rfl
theorem jx (g c o kd sd rd:Addr):List.lookup ("begin":Str) (srF g c o kd sd rd)=none/\List.lookup ("end":Str) (srF g c o kd sd rd)=none/\List.lookup ("made":Str) (srF g c o kd sd rd)=none/\List.lookup ("kept":Str) (srF g c o kd sd rd)=none/\List.lookup ("settle":Str) (srF g c o kd sd rd)=none:=⟨rfl,rfl,rfl,rfl,rfl⟩
theorem Fd (rcd:Addr):List.lookup ("records_for":Str) (nrF rcd)=none/\List.lookup ("put_made":Str) (nrF rcd)=none:=⟨rfl,rfl⟩
def Mu (H:Hp) (z:Addr):Prop:=∃o,H z=some o/\∀xs,o≠ .tup xs
def afZ:Option HO->Option HO->Option HO
 | some (.tup xs),_=>some (.tup xs)
 | _,d=>d
def grow (Hf H H1:Hp):Hp:=fun a=>if H a=none then H1 a else afZ (H1 a) (Hf a)
theorem Zw {Hf H H1:Hp} (s0:aQ Hf H) (s1:aQ H H1):aQ Hf (grow Hf H H1):=fun a o e=>by
 have h0:=s0 _ _ e
 have h1:=s1 _ _ h0
 unfold grow
 rw[if_neg (by rw[h0];simp),h1]
 cases o<;>first | exact e | rfl
theorem Zx {Hf H H1:Hp} (s0:aQ Hf H) (s1:aQ H H1):aQ (grow Hf H H1) H1:=fun a o e=>by
 unfold grow at e
 split at e
 ·exact e
 ·cases h1:H1 a with
  | none=>
    rw[h1] at e
    have e:Hf a=some o:=e
    have:=s1 _ _ (s0 _ _ e)
    rw[h1] at this;cases this
  | some u=>
    rw[h1] at e
    cases u with
    | tup xs=>exact e
    | _=>
      have e:Hf a=some o:=e
      have:=s1 _ _ (s0 _ _ e)
      rw[h1] at this;exact this
theorem Ug {Hf H H1:Hp}:jg H1 (grow Hf H H1):=fun a xs e=>by
 unfold grow
 split
 ·exact e
 ·rw[e];rfl
theorem Wg {Hf H H1:Hp}{a:Addr} (h:H a=none):grow Hf H H1 a=H1 a:=by unfold grow;rw[if_pos h]
theorem G9 {Hf H H1:Hp} (s1:aQ H H1) {z:Addr} (m:Mu H z) (hz:Hf z=none):grow Hf H H1 z=none:=by
 obtain⟨o,e,n⟩:=m
 have h1:=s1 _ _ e
 unfold grow
 rw[if_neg (by rw[e];simp),h1]
 cases o with
 | tup xs=>exact absurd rfl (n xs)
 | _=>exact hz
theorem Rcd.le {rm:Rm}{y:Str}{r:R}{kn kn':Kn}{ps:List Rdp}{v:Int}{m:Bool} (h:Rcd rm y r kn ps v m) (l:Kn.Le kn kn'):Rcd rm y r kn' ps v m:=by
 obtain⟨h1,h2,h3⟩:=h
 refine⟨h1,h2.le l, ?_⟩
 cases m with
 | true=>rw[if_pos rfl] at h3 ⊢;exact h3.le l
 | false=>exact h3
inductive Rch (gv:Kn) (rc:Rn) (kn:Kn) (x:Str):Str->Prop where
 | refl:Rch gv rc kn x x
 | step {y z:Str}{r:R} (h:Rch gv rc kn x y) (hg:gv y=none) (hr:rc y=some r) (hs:Ae kn r z):Rch gv rc kn x z
theorem Ae.le {kn kn':Kn}{r:R}{x:Str} (h:Ae kn r x) (l:Kn.Le kn kn'):Ae kn' r x:=let ⟨ps,a,b,c⟩:=h;⟨ps,a,b,c.le l⟩
theorem Rch.le {gv:Kn}{rc:Rn}{kn kn':Kn}{x y:Str} (h:Rch gv rc kn x y) (l:Kn.Le kn kn'):Rch gv rc kn' x y:=by
 induction h with
 | refl=>exact .refl
 | step _ hg hr hs ih=>exact .step ih hg hr (hs.le l)
def Nv (CSe:Addr):Sp:=fun vs H Q _=>∃(a dx h g c o:Addr),vs=[.ref a, .ref h, .ref o]/\H a=some (.ins CSe dx [])/\H h=some (.tup [.ref g, .ref c])/\
 ∀kd sd rd H',But [a] H H'->H' a=some (.ins CSe dx (srF g c o kd sd rd))->H kd=none->H sd=none->H rd=none->kd≠sd->kd≠rd->sd≠rd->H' kd=some (.dK [])->H' sd=some (.dK [])->H' rd=some (.dK [])->Q .non H'
structure RcG (r:R):Prop where
 g:r.HN
 d:r.depth<=8
 w:wR r<=4000
 l:r.nms.length<=900
structure Be (H:Hp) (kg kc:List (Key×V)) (gs cs:List Str) (gv:Kn) (rc:Rn):Prop where
 k1:nC kg gs
 k2:nC kc cs
 n:gs.length+cs.length<=60
 g:∀x,fG kg (.inr x)=(gv x).map V.int
 r:∀x r,rc x=some r->∃b,fG kc (.inr x)=some (.ref b)/\IsR H b r
 rn:∀x,rc x=none->fG kc (.inr x)=none
 ok:∀x r,rc x=some r->RcG r
theorem Be.tups {H H':Hp}{kg kc:List (Key×V)}{gs cs:List Str}{gv:Kn}{rc:Rn} (h:Be H kg kc gs cs gv rc) (t:jg H H'):Be H' kg kc gs cs gv rc:=
 ⟨h.k1,h.k2,h.n,h.g,fun x r e=>let ⟨b,h1,h2⟩:=h.r x r e;⟨b,h1,h2.tups t⟩,h.rn,h.ok⟩
theorem Be.gm {H:Hp}{kg kc:List (Key×V)}{gs cs:List Str}{gv:Kn}{rc:Rn} (h:Be H kg kc gs cs gv rc) {x:Str} (hx:gv x≠none):x∈gs:=Decidable.byContradiction fun w=>by
 have:=h.k1.none.mpr w
 rw[h.g] at this
 cases e:gv x with
 | none=>exact hx e
 | some v=>rw[e] at this;cases this
theorem Be.cm {H:Hp}{kg kc:List (Key×V)}{gs cs:List Str}{gv:Kn}{rc:Rn} (h:Be H kg kc gs cs gv rc) {x:Str} (hx:rc x≠none):x∈cs:=Decidable.byContradiction fun w=>by
 have:=h.k2.none.mpr w
 cases e:rc x with
 | none=>exact hx e
 | some r=>
   obtain⟨b,hb,_⟩:=h.r x r e
   rw[hb] at this;cases this
def iK (H:Hp) (h g c:Addr) (gs cs:List Str) (gv:Kn) (rc:Rn):Prop:=∃kg kc,H h=some (.tup [.ref g, .ref c])/\H g=some (.dK kg)/\H c=some (.dK kc)/\Be H kg kc gs cs gv rc
theorem iK.same {H H':Hp}{h g c:Addr}{gs cs:List Str}{gv:Kn}{rc:Rn} (a:iK H h g c gs cs gv rc) (s:aQ H H'):iK H' h g c gs cs gv rc:=by
 obtain⟨kg,kc,e,e1,e2,b⟩:=a
 exact⟨kg,kc,s _ _ e,s _ _ e1,s _ _ e2,b.tups (aQ.tups s)⟩
structure wO (H:Hp) (kr:List (Key×V)) (rm:Rm):Prop where
 k:∃rs,nC kr rs
 v:∀x q,rm x=some q->∃b,fG kr (.inr x)=some (.ref b)/\Gy [] H b q
 w:∀x,rm x=none->fG kr (.inr x)=none
theorem wO.map {H H':Hp}{kr:List (Key×V)}{rm:Rm} (h:wO H kr rm) (f:∀b q,Gy [] H b q->Gy [] H' b q):wO H' kr rm:=⟨h.k,fun x q e=>let ⟨b,h1,h2⟩:=h.v x q e;⟨b,h1,f b q h2⟩,h.w⟩
theorem wO.same {H H':Hp}{kr:List (Key×V)}{rm:Rm} (h:wO H kr rm) (s:aQ H H'):wO H' kr rm:=h.map fun _ _ z=>z.same s
theorem wO.put {H:Hp}{kr:List (Key×V)}{rm:Rm} (h:wO H kr rm) {x:Str}{q:R×List Rdp×Int}{b:Addr} (ra:Gy [] H b q):wO H (putK kr (.inr x) (.ref b)) (rm.put x q):=by
 obtain⟨rs,k⟩:=h.k
 refine⟨?_,fun y u e=> ?_,fun y e=> ?_⟩
 ·by_cases z:x∈rs
  ·exact⟨_,k.Bc z _⟩
  ·exact⟨_,k.tH z _⟩
 ·rw[lE]
  unfold Rm.put at e
  by_cases z:y=x
  ·rw[if_pos z] at e;cases e
   exact⟨b,by rw[if_pos (by rw[z])],ra⟩
  ·rw[if_neg z] at e
   obtain⟨b',hb,ra'⟩:=h.v y u e
   exact⟨b',by rw[if_neg (oX z)];exact hb,ra'⟩
 ·rw[lE]
  unfold Rm.put at e
  by_cases z:y=x
  ·rw[if_pos z] at e;cases e
  ·rw[if_neg z] at e
   rw[if_neg (oX z)];exact h.w y e
structure RecM (H0 H:Hp) (kr:List (Key×V)) (rm:Rm):Prop where
 s:wO H kr rm
 f:∀x q b,rm x=some q->fG kr (.inr x)=some (.ref b)->∃br l v,H b=some (.tup [br, .ref l,v])/\H0 l=none
 d:∀x y q q' b b' br br' l l' v v',x≠y->rm x=some q->rm y=some q'->fG kr (.inr x)=some (.ref b)->fG kr (.inr y)=some (.ref b')->H b=some (.tup [br, .ref l,v])->H b'=some (.tup [br', .ref l',v'])->l≠l'
theorem RecM.nil {H0 H:Hp}:RecM H0 H [] (fun _=>none):=⟨⟨⟨[],⟨rfl,by simp⟩⟩,fun x q e=>(nomatch e),fun x _=>ux⟩,fun x q b e=>(nomatch e),fun x y q q' b b' br br' l l' v v' _ e=>(nomatch e)⟩
theorem RecM.same {H0 H H':Hp}{kr:List (Key×V)}{rm:Rm} (h:RecM H0 H kr rm) (s:aQ H H'):RecM H0 H' kr rm:=by
 have key:∀{x q b br l v},rm x=some q->fG kr (.inr x)=some (.ref b)->H' b=some (.tup [br, .ref l,v])->H b=some (.tup [br, .ref l,v]):=fun{x q b br l v} e1 e2 e3=>by
  obtain⟨br',l',v',a,_⟩:=h.f x q b e1 e2
  have:=s _ _ a
  rw[e3] at this
  cases this;exact a
 exact⟨h.s.same s,fun x q b e1 e2=>let ⟨br,l,v,a,c⟩:=h.f x q b e1 e2;⟨br,l,v,s _ _ a,c⟩,fun x y q q' b b' br br' l l' v v' n e1 e2 e3 e4 e5 e6=>h.d x y q q' b b' br br' l l' v v' n e1 e2 e3 e4 (key e1 e3 e5) (key e2 e4 e6)⟩
theorem RecM.put {H0 H:Hp}{kr:List (Key×V)}{rm:Rm} (h:RecM H0 H kr rm) {x:Str}{q:R×List Rdp×Int}{b br l:Addr}{v:V} (ra:Gy [] H b q) (eb:H b=some (.tup [.ref br, .ref l,v])) (hl:H0 l=none) (hx:rm x=none) (hnew:∀y u b' br' l' v',rm y=some u->fG kr (.inr y)=some (.ref b')->H b'=some (.tup [br', .ref l',v'])->l'≠l):RecM H0 H (putK kr (.inr x) (.ref b)) (rm.put x q):=by
 refine⟨h.s.put ra,fun y u b' e1 e2=> ?_,fun y z u u' b' b'' br' br'' l' l'' v' v'' n e1 e2 e3 e4 e5 e6=> ?_⟩
 ·rw[lE] at e2
  unfold Rm.put at e1
  by_cases z:y=x
  ·rw[if_pos (by rw[z])] at e2;cases e2
   exact⟨_,_,_,eb,hl⟩
  ·rw[if_neg (oX z)] at e2
   rw[if_neg z] at e1
   exact h.f y u b' e1 e2
 ·rw[lE] at e3 e4
  unfold Rm.put at e1 e2
  by_cases z1:y=x
  ·rw[if_pos (by rw[z1])] at e3;cases e3
   rw[eb] at e5;cases e5
   have z2:¬z=x:=fun w=>n (z1.trans w.symm)
   rw[if_neg (oX z2)] at e4
   rw[if_neg z2] at e2
   exact Ne.symm (hnew z u' b'' br'' l'' v'' e2 e4 e6)
  ·rw[if_neg (oX z1)] at e3
   rw[if_neg z1] at e1
   by_cases z2:z=x
   ·rw[if_pos (by rw[z2])] at e4;cases e4
    rw[eb] at e6;cases e6
    exact hnew y u b' br' l' v' e1 e3 e5
   ·rw[if_neg (oX z2)] at e4
    rw[if_neg z2] at e2
    exact h.d y z u u' b' b'' br' br'' l' l'' v' v'' n e1 e2 e3 e4 e5 e6
def RmF (gv:Kn) (rc:Rn) (rm:Rm):Prop:=∀x r ps v,rm x=some (r,ps,v)->gv x=none->rc x=some r->mW r kn0 ps v
def RQ (C:Addr):Sp:=fun vs H Q _=>∃(o dx rcd b:Addr) (kr:List (Key×V)) (rm:Rm) (y:Str) (r:R),vs=[.ref o, .str y, .ref b]/\H o=some (.ins C dx (nrF rcd))/\H rcd=some (.dK kr)/\wO H kr rm/\IsR H b r/\r.HN/\r.depth<=8/\
 ∀fl H',aQ H H'->H fl=none->(∀kn,Nm H' fl kr rm y r kn 0)->Q (.ref fl) H'
def Ko (CS CR:Addr):Sp:=fun vs H Q _=>∃(A:SeD) (d:Addr) (kr:List (Key×V)) (rm:Rm) (y:Str) (r:R) (kn:Kn),vs=[.ref A.s, .ref d]/\vM CS CR kr rm y r kn A H/\wO H kr rm/\(∀ps v,rm y=some (r,ps,v)->mW r kn0 ps v)/\RcG r/\V1 H d kn/\d≠A.a3/\r.Fn kn/\
 ∀(A':SeD) H',But A.ft H H'->A'.s=A.s->A'.b=A.b->A'.rk=A.rk->A'.a1=A.a1->A'.a2=A.a2->A'.a3=A.a3->(A'.fl=A.fl\/H A'.fl=none)->vM CS CR kr rm y r kn A' H'->
  (We H' CR kr rm y r kn A'->Q .non H')/\∀x,kn x=none->Ae kn r x->Q (.str x) H'
def RT (CS CR:Addr):Sp:=fun vs H Q _=>∃(A:SeD) (kr:List (Key×V)) (rm:Rm) (y:Str) (r:R) (kn:Kn),vs=[.ref A.s]/\H A.s=some (.ins CS A.dx (seF A.b A.fl A.k A.rk))/\wO H kr rm/\(∀ps v,rm y=some (r,ps,v)->mW r kn0 ps v)/\RcG r/\We H CR kr rm y r kn A/\
 ∀(rb l:Addr) (as:List Addr) (ps:List Rdp) (v:Int) (made:Bool) (H':Hp),aQ H H'->H' rb=some (.tup [.ref A.b, .ref l, .int v])->H l=none->H' l=some (.lst (as.map V.ref))->iC H' as ps->Rcd rm y r kn ps v made->(∃xs,H' A.fl=some (.lst xs)/\decide (xs.length=0)=made)->Q (.ref rb) H'
structure StG (gv:Kn) (rc:Rn) (kn:Kn) (rm:Rm):Prop where
 a:∀x v,kn x=some v->gv x=some v\/(gv x=none/\∃r ps,rc x=some r/\rm x=some (r,ps,v))
 b:∀x r ps v,rm x=some (r,ps,v)->rc x=some r/\gv x=none/\kn x=some v/\mW r kn0 ps v/\Rows kn ps
theorem StG.Wh {gv:Kn}{rc:Rn}{kn:Kn}{rm:Rm} (h:StG gv rc kn rm) {x:Str}{v:Int} (hk:kn x=none) (hg:gv x=some v):StG gv rc (kn.put x v) rm:=by
 have le:=Kn.vI (v:=v) hk
 refine⟨fun y u e=> ?_,fun y r ps u e=> ?_⟩
 ·unfold Kn.put at e
  by_cases z:y=x
  ·rw[if_pos z] at e;cases e;rw[z];exact .inl hg
  ·rw[if_neg z] at e;exact h.a y u e
 ·obtain⟨a,b,c,d,f⟩:=h.b y r ps u e
  exact⟨a,b,le _ _ c,d,f.le le⟩
theorem StG.tG {gv:Kn}{rc:Rn}{kn:Kn}{rm:Rm} (h:StG gv rc kn rm) {x:Str}{r:R}{ps:List Rdp}{v:Int} (hk:kn x=none) (hg:gv x=none) (hr:rc x=some r) (got:mW r kn0 ps v) (row:Rows kn ps):StG gv rc (kn.put x v) (rm.put x (r,ps,v)):=by
 have le:=Kn.vI (v:=v) hk
 refine⟨fun y u e=> ?_,fun y r' ps' u e=> ?_⟩
 ·unfold Kn.put at e
  unfold Rm.put
  by_cases z:y=x
  ·rw[if_pos z] at e;cases e
   rw[z];exact .inr ⟨hg,r,ps,hr,if_pos rfl⟩
  ·rw[if_neg z] at e
   rcases h.a y u e with w | ⟨w,r1,p1,w1,w2⟩
   ·exact .inl w
   ·exact .inr ⟨w,r1,p1,w1,by rw[if_neg z];exact w2⟩
 ·unfold Rm.put at e
  by_cases z:y=x
  ·rw[if_pos z] at e;cases e
   rw[z]
   exact⟨hr,hg,by unfold Kn.put;rw[if_pos rfl],got,row.le le⟩
  ·rw[if_neg z] at e
   obtain⟨a,b,c,d,f⟩:=h.b y r' ps' u e
   exact⟨a,b,le _ _ c,d,f.le le⟩
structure Jt (CSe CN:Addr) (D:SrD) (gs cs:List Str) (gv:Kn) (rc:Rn) (kg kc kr:List (Key×V)) (rm:Rm) (Hf:Hp):Prop where
 e:Hf D.so=some (.ins CSe D.dx (srF D.g D.c D.o D.kd D.sd D.rd))
 eg:Hf D.g=some (.dK kg)
 ec:Hf D.c=some (.dK kc)
 bd:Be Hf kg kc gs cs gv rc
 eo:Hf D.o=some (.ins CN D.dxo (nrF D.rcd))
 er:Hf D.rcd=some (.dK kr)
 rD:wO Hf kr rm
 rf:RmF gv rc rm
 ne:D.kd≠D.sd/\D.kd≠D.rd/\D.sd≠D.rd
theorem Jt.same {CSe CN:Addr}{D:SrD}{gs cs:List Str}{gv:Kn}{rc:Rn}{kg kc kr:List (Key×V)}{rm:Rm}{Hf H:Hp} (h:Jt CSe CN D gs cs gv rc kg kc kr rm Hf) (s:aQ Hf H):Jt CSe CN D gs cs gv rc kg kc kr rm H:=
 ⟨s _ _ h.e,s _ _ h.eg,s _ _ h.ec,h.bd.tups (aQ.tups s),s _ _ h.eo,s _ _ h.er,h.rD.same s,h.rf,h.ne⟩
structure lY (H0:Hp) (D:SrD) (gv:Kn) (rc:Rn) (rm:Rm) (kn:Kn) (rmN:Rm) (rkn:Str->Bool) (od:List Str) (Hf H:Hp):Prop where
 sm:aQ Hf H
 fk:Hf D.kd=none
 fs:Hf D.sd=none
 fr:Hf D.rd=none
 ek:∃kw ws,H D.kd=some (.dK kw)/\nC kw ws/\∀x,fG kw (.inr x)=(kn x).map V.int
 es:∃ks,H D.sd=some (.dK ks)/\RecM H0 Hf ks rmN/\nC ks od
 er:∃kk rs,H D.rd=some (.dK kk)/\nC kk rs/\(∀x,fG kk (.inr x)=if rkn x=true then some (.bl true) else none)/\∀x,rkn x=true->rmN x≠none
 ok:StG gv rc kn rmN
 md:∀x r ps v,rmN x=some (r,ps,v)->Rcd rm x r kn ps v (rkn x)
 h0:aQ H0 Hf
theorem StG.Nx {H:Hp}{kg kc:List (Key×V)}{gs cs:List Str}{gv:Kn}{rc:Rn}{kn:Kn}{rm:Rm} (h:StG gv rc kn rm) (b:Be H kg kc gs cs gv rc) {x:Str} (hx:kn x≠none):x∈gs++cs:=by
 cases e:kn x with
 | none=>exact absurd e hx
 | some v=>
   rcases h.a x v e with w | ⟨_,r,_,w,_⟩
   ·exact List.mem_append_left _ (b.gm (by rw[w];simp))
   ·exact List.mem_append_right _ (b.cm (by rw[w];simp))
theorem lY.kl {H0 H9:Hp}{kg kc:List (Key×V)}{gs cs:List Str}{D:SrD}{gv:Kn}{rc:Rn}{rm:Rm}{kn:Kn}{rmN:Rm}{rkn:Str->Bool}{od:List Str}{Hf H:Hp} (h:lY H0 D gv rc rm kn rmN rkn od Hf H) (b:Be H9 kg kc gs cs gv rc) {kw:List (Key×V)}{ws:List Str} (k:nC kw ws) (hk:∀x,fG kw (.inr x)=(kn x).map V.int):kw.length<=60:=by
 rw[k.len]
 have:=ji (ws:=ws) (ns:=gs++cs) k.nd fun x hx=>h.ok.Nx b fun e=>k.none.mp (by rw[hk,e];rfl) hx
 rw[List.length_append] at this
 have:=b.n
 omega
theorem lY.sl {H0 H9:Hp}{kg kc:List (Key×V)}{gs cs:List Str}{D:SrD}{gv:Kn}{rc:Rn}{rm:Rm}{kn:Kn}{rmN:Rm}{rkn:Str->Bool}{od:List Str}{Hf H:Hp} (h:lY H0 D gv rc rm kn rmN rkn od Hf H) (b:Be H9 kg kc gs cs gv rc) {kw:List (Key×V)}{ws:List Str} (k:nC kw ws) (hk:∀x,rmN x=none->fG kw (.inr x)=none):kw.length<=60:=by
 rw[k.len]
 have:=ji (ws:=ws) (ns:=gs++cs) k.nd fun x hx=>h.ok.Nx b fun e=>by
  cases z:rmN x with
  | none=>exact k.none.mp (hk x z) hx
  | some q=>
    obtain⟨r,ps,v⟩:=q
    have:=(h.ok.b x r ps v z).2.2.1
    rw[e] at this;cases this
 rw[List.length_append] at this
 have:=b.n
 omega
def RW (CSe CN CS CR:Addr):Sp:=fun vs H Q _=>∃(H0:Hp) (D:SrD) (gs cs:List Str) (gv:Kn) (rc:Rn) (kg kc kr:List (Key×V)) (rm:Rm) (kn:Kn) (rmN:Rm) (rkn:Str->Bool) (od:List Str) (Hf:Hp) (A:SeD) (y:Str) (r:R),vs=[.ref D.so, .str y, .ref A.s]/\Jt CSe CN D gs cs gv rc kg kc kr rm Hf/\lY H0 D gv rc rm kn rmN rkn od Hf H/\
 H A.s=some (.ins CS A.dx (seF A.b A.fl A.k A.rk))/\IsR H A.b r/\We H CR kr rm y r kn A/\kn y=none/\gv y=none/\rc y=some r/\(∀z∈A.ft,z∉[D.kd,D.sd,D.rd])/\
 ∀(v:Int) (ps:List Rdp) (made:Bool) (Hf' H':Hp),But [D.kd,D.sd,D.rd] H H'->aQ Hf Hf'->(∀z,Mu H z->Hf z=none->Hf' z=none)->lY H0 D gv rc rm (kn.put y v) (rmN.put y (r,ps,v)) (fun x=>if x=y then made else rkn x) (od++[y]) Hf' H'->ev kn r= .inr v->Q .non H'
def Qi (kn:Kn) (ns:List Str):Nat:=(ns.filter fun x=>(kn x).isNone).length
theorem Im {p p':Str->Bool}:∀{l:List Str},(∀j∈l,p' j=true->p j=true)->∀{i:Str},i∈l->p i=true->p' i=false->(l.filter p').length+1<=(l.filter p).length
 |[],_,i,hi,_,_=>by cases hi
 | a::l,h,i,hi,h1,h2=>by
   have hle:∀l:List Str,(∀j∈l,p' j=true->p j=true)->(l.filter p').length<=(l.filter p).length:=by
    intro l
    induction l with
    | nil=>intro _;exact Nat.le_refl _
    | cons b l ih=>
      intro h
      have ih:=ih fun j hj=>h j (by simp[hj])
      rw[List.filter_cons,List.filter_cons]
      by_cases hb:p' b=true
      ·rw[if_pos hb,if_pos (h b (by simp) hb)];simp;exact ih
      ·rw[if_neg hb]
       split
       ·simp;omega
       ·exact ih
   rcases List.mem_cons.mp hi with z | z
   ·subst z
    rw[List.filter_cons,List.filter_cons,if_neg (by rw[h2];decide),if_pos h1]
    have:=hle l fun j hj=>h j (by simp[hj])
    simp;exact this
   ·have ih:=Im (l:=l) (fun j hj=>h j (by simp[hj])) z h1 h2
    rw[List.filter_cons,List.filter_cons]
    by_cases hb:p' a=true
    ·rw[if_pos hb,if_pos (h a (by simp) hb)];simp;exact ih
    ·rw[if_neg hb]
     split
     ·simp;omega
     ·exact ih
theorem Io {kn:Kn}{ns:List Str}{x:Str}{v:Int} (hi:x∈ns) (h:kn x=none):Qi (kn.put x v) ns+1<=Qi kn ns:=by
 refine Im (fun j _ hj=> ?_) hi (by simp only[h];rfl) ?_
 ·unfold Kn.put at hj
  by_cases z:j=x
  ·rw[if_pos z] at hj;cases hj
  ·rw[if_neg z] at hj;exact hj
 ·unfold Kn.put;rw[if_pos rfl];rfl
theorem Ny {S:List Addr}{H H':Hp} (b:But S H H') (m:∀z∈S,Mu H z):jg H H':=fun p xs e=>b p _ (fun w=>by
 obtain⟨o,h1,h2⟩:=m p w
 rw[e] at h1;cases h1;exact h2 _ rfl) e
theorem Mu.but {S:List Addr}{H H':Hp}{z:Addr} (m:Mu H z) (b:But S H H') (hz:z∉S):Mu H' z:=let ⟨o,h1,h2⟩:=m;⟨o,b _ _ hz h1,h2⟩
theorem Mu.some {H:Hp}{z:Addr} (m:Mu H z):H z≠none:=let ⟨o,h1,_⟩:=m;by rw[h1];simp
section
variable {CS CR:Addr}{D:SrD}{pth bgd:Addr}{n:Nat}{gv:Kn}{rc:Rn}{kr:List (Key×V)}{rm:Rm}{kn kn':Kn}{bg:Str->Option SeD}{Hf Hf' H H':Hp}
theorem vM.mu {y:Str}{r:R}{A:SeD} (h:vM CS CR kr rm y r kn A H):∀z∈A.ft,Mu H z:=fun z hz=>by
 obtain⟨c,rc',_⟩:=h.c
 have hz:z=A.s\/z=A.fl\/z=A.rk\/z=A.a1\/z=A.a2\/z=A.a3:=by simpa [SeD.ft] using hz
 rcases hz with rfl | rfl | rfl | rfl | rfl | rfl
 ·exact⟨_,h.e,by simp⟩
 ·rcases h.f with⟨rb,ps,v,w1,_⟩ | ⟨w1,_⟩
  ·exact⟨_,w1,by simp⟩
  ·exact⟨_,w1,by simp⟩
 ·exact⟨_,rc'.e,by simp⟩
 ·obtain⟨ws,w1,_⟩:=rc'.e1
  exact⟨_,w1,by simp⟩
 ·exact⟨_,rc'.e2,by simp⟩
 ·exact⟨_,rc'.e3,by simp⟩
def lZ (bg:Str->Option SeD) (y:Str) (A:SeD):Str->Option SeD:=fun x=>if x=y then some A else bg x
end
theorem lY.but {H0:Hp}{D:SrD}{gv:Kn}{rc:Rn}{rm:Rm}{kn:Kn}{rmN:Rm}{rkn:Str->Bool}{od:List Str}{Hf H H':Hp}{S:List Addr} (h:lY H0 D gv rc rm kn rmN rkn od Hf H) (b:But S H H') (hf:∀z∈S,Hf z=none) (hk:D.kd∉S) (hs:D.sd∉S) (hr:D.rd∉S):lY H0 D gv rc rm kn rmN rkn od Hf H':=by
 obtain⟨sm,fk,fs,fr,⟨kw,ws,e1,r1⟩,⟨ks,e2,r2⟩,⟨kk,rs,e3,r3⟩,ok,md,h0⟩:=h
 exact⟨fun z o e=>b z o (fun w=>by rw[hf z w] at e;cases e) (sm z o e),fk,fs,fr,⟨kw,ws,b _ _ hk e1,r1⟩,⟨ks,b _ _ hs e2,r2⟩,⟨kk,rs,b _ _ hr e3,r3⟩,ok,md,h0⟩
theorem lY.same {H0:Hp}{D:SrD}{gv:Kn}{rc:Rn}{rm:Rm}{kn:Kn}{rmN:Rm}{rkn:Str->Bool}{od:List Str}{Hf H H':Hp} (h:lY H0 D gv rc rm kn rmN rkn od Hf H) (s:aQ H H'):lY H0 D gv rc rm kn rmN rkn od Hf H':=h.but (S:=[]) (But.of_same s) (by simp) (by simp) (by simp) (by simp)
structure BgG (CS CR:Addr) (D:SrD) (pth bgd:Addr) (gv:Kn) (rc:Rn) (kr:List (Key×V)) (rm:Rm) (kn:Kn) (bg:Str->Option SeD) (Hf H:Hp):Prop where
 e:∃kb ks,H bgd=some (.dK kb)/\nC kb ks/\∀y,fG kb (.inr y)=(bg y).map fun A=>V.ref A.s
 nm:∀y,bg y≠none->rc y≠none
 ok:∀y A,bg y=some A->kn y=none->∃r,rc y=some r/\gv y=none/\vM CS CR kr rm y r kn A H
 al:∀y A,bg y=some A->∀z∈A.ft,Mu H z/\Hf z=none/\z∉[pth,bgd,D.kd,D.sd,D.rd]
 dj:∀y y' A A',y≠y'->bg y=some A->bg y'=some A'->∀z∈A.ft,z∉A'.ft
section
variable {CS CR:Addr}{D:SrD}{pth bgd:Addr}{gv:Kn}{rc:Rn}{kr:List (Key×V)}{rm:Rm}{kn kn':Kn}{bg:Str->Option SeD}{Hf Hf' H H':Hp}
theorem BgG.but {S:List Addr} (h:BgG CS CR D pth bgd gv rc kr rm kn bg Hf H) (b:But S H H') (t:jg H H') (hb:bgd∉S) (hS:∀y A,bg y=some A->∀z∈A.ft,z∉S):BgG CS CR D pth bgd gv rc kr rm kn bg Hf H':=by
 obtain⟨⟨kb,ks,e1,e2,e3⟩,nm,ok,al,dj⟩:=h
 exact⟨⟨kb,ks,b _ _ hb e1,e2,e3⟩,nm,fun y A h1 h2=>let ⟨r,a1,a2,a3⟩:=ok y A h1 h2;⟨r,a1,a2,a3.move b t (hS y A h1)⟩,fun y A h1 z hz=>⟨(al y A h1 z hz).1.but b (hS y A h1 z hz),(al y A h1 z hz).2⟩,dj⟩
theorem BgG.same (h:BgG CS CR D pth bgd gv rc kr rm kn bg Hf H) (s:aQ H H'):BgG CS CR D pth bgd gv rc kr rm kn bg Hf H':=h.but (S:=[]) (But.of_same s) (aQ.tups s) (by simp) (by simp)
theorem BgG.off {S:List Addr} (h:BgG CS CR D pth bgd gv rc kr rm kn bg Hf H) (b:But S H H') (m:∀z∈S,Mu H z) (hS:∀z∈S,z∈[pth,D.kd,D.sd,D.rd]) (hb:bgd∉S):BgG CS CR D pth bgd gv rc kr rm kn bg Hf H':=
 h.but b (Ny b m) hb fun y A h1 z hz w=>(h.al y A h1 z hz).2.2 (by
   have:=hS z w
   simp only[List.mem_cons,List.not_mem_nil,or_false] at this ⊢
   rcases this with q | q | q | q
   ·exact .inl q
   ·exact .inr (.inr (.inl q))
   ·exact .inr (.inr (.inr (.inl q)))
   ·exact .inr (.inr (.inr (.inr q))))
theorem BgG.le (h:BgG CS CR D pth bgd gv rc kr rm kn bg Hf H) (l:Kn.Le kn kn'):BgG CS CR D pth bgd gv rc kr rm kn' bg Hf H:=
 ⟨h.e,h.nm,fun y A h1 h2=>by
   have h0:kn y=none:=by
    cases z:kn y with
    | none=>rfl
    | some v=>rw[l y v z] at h2;cases h2
   obtain⟨r,a1,a2,a3⟩:=h.ok y A h1 h0
   exact⟨r,a1,a2,a3.le l⟩,h.al,h.dj⟩
theorem BgG.hf (h:BgG CS CR D pth bgd gv rc kr rm kn bg Hf H) (f:∀z,Mu H z->Hf z=none->Hf' z=none):BgG CS CR D pth bgd gv rc kr rm kn bg Hf' H:=
 ⟨h.e,h.nm,h.ok,fun y A h1 z hz=>let ⟨a,b,c⟩:=h.al y A h1 z hz;⟨a,f z a b,c⟩,h.dj⟩
theorem BgG.new {H1:Hp}{y:Str}{r:R}{A:SeD}{kb:List (Key×V)} (h:BgG CS CR D pth bgd gv rc kr rm kn bg Hf H) (s:aQ H H1) (hA:∀z∈A.ft,H z=none) (so:vM CS CR kr rm y r kn A H1) (hr:rc y=some r) (hg:gv y=none) (hb:bg y=none)
 (ebd:H bgd=some (.dK kb)) (sf:aQ Hf H) (al:∀z∈[pth,bgd,D.kd,D.sd,D.rd],H z≠none):BgG CS CR D pth bgd gv rc kr rm kn (lZ bg y A) Hf (upd H1 bgd (.dK (putK kb (.inr y) (.ref A.s)))):=by
 have h1:=h.same s
 have eb1:=s _ _ ebd
 have b1:But [bgd] H1 (upd H1 bgd (.dK (putK kb (.inr y) (.ref A.s)))):=But.set _ (by simp)
 have t1:jg H1 (upd H1 bgd (.dK (putK kb (.inr y) (.ref A.s)))):=vJ eb1
 have nA:∀z∈A.ft,z∉[pth,bgd,D.kd,D.sd,D.rd]:=fun z hz w=>al z w (hA z hz)
 have nb:∀z∈A.ft,z∉[bgd]:=fun z hz w=>nA z hz (by simp at w ⊢;exact .inr (.inl w))
 obtain⟨⟨kb',ks,e1,e2,e3⟩,nm,ok,al1,dj⟩:=h1
 rw[eb1] at e1;cases e1
 have hyk:y∉ks:=e2.none.mp (by rw[e3,hb];rfl)
 refine⟨⟨_,_,ak,e2.tH hyk _,fun x=> ?_⟩,fun x hx=> ?_,fun x B h1 h2=> ?_,fun x B h1 z hz=> ?_,fun x x' B B' hne h1 h2 z hz=> ?_⟩
 ·rw[lE]
  unfold lZ
  by_cases z:x=y
  ·rw[if_pos (by rw[z]),if_pos z];rfl
  ·rw[if_neg (oX z),if_neg z];exact e3 x
 ·unfold lZ at hx
  by_cases z:x=y
  ·rw[z,hr];simp
  ·rw[if_neg z] at hx;exact nm x hx
 ·unfold lZ at h1
  by_cases z:x=y
  ·rw[if_pos z] at h1;cases h1
   rw[z];exact⟨r,hr,hg,so.move b1 t1 nb⟩
  ·rw[if_neg z] at h1
   obtain⟨r',a1,a2,a3⟩:=ok x B h1 h2
   exact⟨r',a1,a2,a3.move b1 t1 fun w hw q=>(al1 x B h1 w hw).2.2 (by simp at q ⊢;exact .inr (.inl q))⟩
 ·unfold lZ at h1
  by_cases w:x=y
  ·rw[if_pos w] at h1;cases h1
   refine⟨(so.mu z hz).but b1 (nb z hz), ?_,nA z hz⟩
   cases q:Hf z with
   | none=>rfl
   | some o=>have:=sf _ _ q;rw[hA z hz] at this;cases this
  ·rw[if_neg w] at h1
   obtain⟨a1,a2,a3⟩:=al1 x B h1 z hz
   exact⟨a1.but b1 (fun q=>a3 (by simp at q ⊢;exact .inr (.inl q))),a2,a3⟩
 ·unfold lZ at h1 h2
  by_cases w:x=y
  ·rw[if_pos w] at h1;cases h1
   rw[if_neg (fun q=>hne (w.trans q.symm))] at h2
   exact fun q=>((h.al x' B' h2 z q).1.some) (hA z hz)
  ·rw[if_neg w] at h1
   by_cases w':x'=y
   ·rw[if_pos w'] at h2;cases h2
    exact fun q=>((h.al x B h1 z hz).1.some) (hA z q)
   ·rw[if_neg w'] at h2
    exact dj x x' B B' hne h1 h2 z hz
theorem BgG.set {y:Str}{r:R}{A A':SeD} (h:BgG CS CR D pth bgd gv rc kr rm kn bg Hf H) (hy:bg y=some A) (b:But A.ft H H') (so:vM CS CR kr rm y r kn A' H') (hr:rc y=some r) (hg:gv y=none)
 (es:A'.s=A.s) (erk:A'.rk=A.rk) (e1:A'.a1=A.a1) (e2:A'.a2=A.a2) (e3:A'.a3=A.a3) (efl:A'.fl=A.fl\/H A'.fl=none) (sf:aQ Hf H) (al:∀z∈[pth,bgd,D.kd,D.sd,D.rd],H z≠none):BgG CS CR D pth bgd gv rc kr rm kn (lZ bg y A') Hf H':=by
 have hin:∀z∈A'.ft,z∈A.ft\/H z=none:=fun z hz=>by
  have hz:z=A'.s\/z=A'.fl\/z=A'.rk\/z=A'.a1\/z=A'.a2\/z=A'.a3:=by simpa [SeD.ft] using hz
  rcases hz with w | w | w | w | w | w
  ·exact .inl (by rw[w,es];simp[SeD.ft])
  ·rcases efl with q | q
   ·exact .inl (by rw[w,q];simp[SeD.ft])
   ·exact .inr (by rw[w];exact q)
  ·exact .inl (by rw[w,erk];simp[SeD.ft])
  ·exact .inl (by rw[w,e1];simp[SeD.ft])
  ·exact .inl (by rw[w,e2];simp[SeD.ft])
  ·exact .inl (by rw[w,e3];simp[SeD.ft])
 have mA:∀z∈A.ft,Mu H z:=fun z hz=>(h.al y A hy z hz).1
 have t:=Ny b mA
 have nbg:bgd∉A.ft:=fun z=>(h.al y A hy _ z).2.2 (by simp)
 obtain⟨⟨kb,ks,f1,f2,f3⟩,nm,ok,al1,dj⟩:=h
 refine⟨⟨kb,ks,b _ _ nbg f1,f2,fun x=> ?_⟩,fun x hx=> ?_,fun x B h1 h2=> ?_,fun x B h1 z hz=> ?_,fun x x' B B' hne h1 h2 z hz=> ?_⟩
 ·rw[f3]
  unfold lZ
  by_cases z:x=y
  ·rw[if_pos z,z,hy];show some (V.ref A.s)=some (V.ref A'.s);rw[es]
  ·rw[if_neg z]
 ·unfold lZ at hx
  by_cases z:x=y
  ·rw[z];exact nm y (by rw[hy];simp)
  ·rw[if_neg z] at hx;exact nm x hx
 ·unfold lZ at h1
  by_cases z:x=y
  ·rw[if_pos z] at h1;cases h1
   rw[z];exact⟨r,hr,hg,so⟩
  ·rw[if_neg z] at h1
   obtain⟨r',a1,a2,a3⟩:=ok x B h1 h2
   exact⟨r',a1,a2,a3.move b t fun w hw=>dj x y B A z h1 hy w hw⟩
 ·unfold lZ at h1
  by_cases w:x=y
  ·rw[if_pos w] at h1;cases h1
   refine⟨so.mu z hz, ?_, ?_⟩
   ·rcases hin z hz with q | q
    ·exact(al1 y A hy z q).2.1
    ·cases q':Hf z with
     | none=>rfl
     | some o=>have:=sf _ _ q';rw[q] at this;cases this
   ·rcases hin z hz with q | q
    ·exact(al1 y A hy z q).2.2
    ·exact fun w'=>al z w' q
  ·rw[if_neg w] at h1
   obtain⟨a1,a2,a3⟩:=al1 x B h1 z hz
   exact⟨a1.but b (dj x y B A w h1 hy z hz),a2,a3⟩
 ·unfold lZ at h1 h2
  by_cases w:x=y
  ·rw[if_pos w] at h1;cases h1
   rw[if_neg (fun q=>hne (w.trans q.symm))] at h2
   rcases hin z hz with q | q
   ·exact dj y x' A B' (fun e=>hne (w.trans e)) hy h2 z q
   ·exact fun w'=>((al1 x' B' h2 z w').1.some) q
  ·rw[if_neg w] at h1
   by_cases w':x'=y
   ·rw[if_pos w'] at h2;cases h2
    intro q
    rcases hin z q with q' | q'
    ·exact dj x y B A w h1 hy z hz q'
    ·exact((al1 x B h1 z hz).1.some) q'
   ·rw[if_neg w'] at h2
    exact dj x x' B B' hne h1 h2 z hz
end
section
variable {CSe CN CS CR:Addr}{D:SrD}{pth bgd:Addr}{n:Nat}{gv:Kn}{rc:Rn}{kg kc kr:List (Key×V)}{rm:Rm}{knI:Kn}{odI od:List Str}{HfI HI:Hp}{x:Str}{k0:Nat}{is js:List Nat}{i:Nat}{kn:Kn}{rmN:Rm}{rkn:Str->Bool}{bg:Str->Option SeD}{Hf H H':Hp}
end
def Gp (ns:List Str) (kn:Kn) (is:List Str):Nat:=match is.getLast? with
 | none=>0
 | some i=>if(kn i).isNone=true then 200 * Qi kn ns+70 - is.length else 200 * Qi kn ns+100
theorem pG {ns:List Str}{kn:Kn}{js:List Str}{i:Str} (h:kn i=none):Gp ns kn (js++[i])=200 * Qi kn ns+70 - (js.length+1):=by
 unfold Gp
 rw[List.getLast?_concat]
 simp only[h]
 rw[List.length_append];rfl
theorem zB {ns:List Str}{kn:Kn}{js:List Str}{i:Str} (h:kn i≠none):Gp ns kn (js++[i])=200 * Qi kn ns+100:=by
 unfold Gp
 rw[List.getLast?_concat]
 simp only
 rw[if_neg]
 intro z
 exact h (Option.isNone_iff_eq_none.mp z)
theorem Nz {ns:List Str}{kn:Kn}{js:List Str} (h:∀j∈js,kn j=none):Gp ns kn js<=200 * Qi kn ns+70 - js.length:=by
 rcases List.eq_nil_or_concat js with z | ⟨ks,j,z⟩
 ·subst z;exact Nat.zero_le _
 ·rw[List.concat_eq_append] at z
  subst z
  rw[pG (h j (by simp)),List.length_append]
  exact Nat.le_refl _
structure LpG (H0:Hp) (CSe CN CS CR:Addr) (D:SrD) (pth bgd:Addr) (gs cs:List Str) (gv:Kn) (rc:Rn) (kg kc kr:List (Key×V)) (rm:Rm) (knI:Kn) (odI:List Str) (HfI HI:Hp) (x:Str) (is:List Str) (kn:Kn) (rmN:Rm) (rkn:Str->Bool) (od:List Str) (bg:Str->Option SeD) (Hf H:Hp):Prop where
 b:But [D.kd,D.sd,D.rd] HI H
 sf:aQ HfI Hf
 fm:∀z,Mu HI z->HfI z=none->Hf z=none
 sh:Jt CSe CN D gs cs gv rc kg kc kr rm Hf
 so:lY H0 D gv rc rm kn rmN rkn od Hf H
 ep:H pth=some (.lst (is.map V.str))
 fp:Hf pth=none
 fb:Hf bgd=none
 ip:HI pth=none
 ib:HI bgd=none
 np:pth∉[D.kd,D.sd,D.rd]
 nb:bgd∉[D.kd,D.sd,D.rd]
 nn:pth≠bgd
 nd:is.Nodup
 un:∀i∈is.dropLast,kn i=none/\rc i≠none
 rch:∀i∈is,Rch gv rc kn x i
 le:Kn.Le knI kn
 new:∀y,kn y≠none->knI y≠none\/Rch gv rc kn x y
 bgi:BgG CS CR D pth bgd gv rc kr rm kn bg Hf H
 hd:is.head?=some x\/(is=[]/\kn x≠none)
 fr:∀y A,bg y=some A->∀z∈A.ft,HI z=none
 mv:Mvs gv rc ([x],knI,odI) (is.reverse,kn,od)
section
variable {H0:Hp}{CSe CN CS CR:Addr}{D:SrD}{pth bgd:Addr}{gs cs:List Str}{gv:Kn}{rc:Rn}{kg kc kr:List (Key×V)}{rm:Rm}{knI:Kn}{odI od:List Str}{HfI HI:Hp}{x:Str}{is js:List Str}{i:Str}{kn:Kn}{rmN:Rm}{rkn:Str->Bool}{bg:Str->Option SeD}{Hf H H':Hp}
theorem LpG.len (h:LpG H0 CSe CN CS CR D pth bgd gs cs gv rc kg kc kr rm knI odI HfI HI x is kn rmN rkn od bg Hf H):is.length<=61:=by
 have h1:=ji (ws:=is.dropLast) (ns:=cs) (h.nd.sublist (List.dropLast_sublist _)) fun y hy=>h.sh.bd.cm (h.un y hy).2
 have h2:=h.sh.bd.n
 rw[List.length_dropLast] at h1
 omega
theorem LpG.al (h:LpG H0 CSe CN CS CR D pth bgd gs cs gv rc kg kc kr rm knI odI HfI HI x is kn rmN rkn od bg Hf H):∀z∈[pth,bgd,D.kd,D.sd,D.rd],Mu H z:=fun z hz=>by
 obtain⟨kb,ks,e1,_⟩:=h.bgi.e
 obtain⟨kw,ws,e2,_⟩:=h.so.ek
 obtain⟨ks',e3,_⟩:=h.so.es
 obtain⟨kk,rs,e4,_⟩:=h.so.er
 have hz:z=pth\/z=bgd\/z=D.kd\/z=D.sd\/z=D.rd:=by simpa using hz
 rcases hz with rfl | rfl | rfl | rfl | rfl
 ·exact⟨_,h.ep,by simp⟩
 ·exact⟨_,e1,by simp⟩
 ·exact⟨_,e2,by simp⟩
 ·exact⟨_,e3,by simp⟩
 ·exact⟨_,e4,by simp⟩
theorem LpG.path {is':List Str} (h:LpG H0 CSe CN CS CR D pth bgd gs cs gv rc kg kc kr rm knI odI HfI HI x is kn rmN rkn od bg Hf H) (nd:is'.Nodup) (un:∀i∈is'.dropLast,kn i=none/\rc i≠none) (rch:∀i∈is',Rch gv rc kn x i) (hd:is'.head?=some x\/(is'=[]/\kn x≠none)) (hm:RB.mv gv rc (is.reverse,kn,od)=some (is'.reverse,kn,od)):
 LpG H0 CSe CN CS CR D pth bgd gs cs gv rc kg kc kr rm knI odI HfI HI x is' kn rmN rkn od bg Hf (upd H pth (.lst (is'.map V.str))):=by
 have hb:But [pth] H (upd H pth (.lst (is'.map V.str))):=But.set _ (by simp)
 have np:=h.np
 simp only[List.mem_cons,List.not_mem_nil,or_false,not_or] at np
 refine⟨h.b.upd _ h.ip,h.sf,h.fm,h.sh,h.so.but hb (fun z hz=> ?_) (fun z=>np.1 (List.mem_singleton.mp z).symm) (fun z=> ?_) (fun z=> ?_),ak,h.fp,h.fb,h.ip,h.ib,h.np,h.nb,h.nn,nd,un,rch,h.le,h.new,h.bgi.off hb (fun z hz=> ?_) (fun z hz=> ?_) (fun z=> ?_),hd,h.fr,h.mv.snoc hm⟩
 ·have:z=pth:=by simpa using hz
  rw[this];exact h.fp
 ·exact np.2.1 (by have:D.sd=pth:=by simpa using z
                   exact this.symm)
 ·exact np.2.2 (by have:D.rd=pth:=by simpa using z
                   exact this.symm)
 ·have:z=pth:=by simpa using hz
  rw[this];exact h.al pth (by simp)
 ·have:z=pth:=by simpa using hz
  rw[this];simp
 ·exact h.nn (by have:bgd=pth:=by simpa using z
                 exact this.symm)
theorem LpG.pop (h:LpG H0 CSe CN CS CR D pth bgd gs cs gv rc kg kc kr rm knI odI HfI HI x (js++[i]) kn rmN rkn od bg Hf H) (hk:kn i≠none):LpG H0 CSe CN CS CR D pth bgd gs cs gv rc kg kc kr rm knI odI HfI HI x js kn rmN rkn od bg Hf (upd H pth (.lst (js.map V.str))):=by
 have un:=h.un
 rw[List.dropLast_concat] at un
 refine h.path (h.nd.sublist (List.sublist_append_left _ _)) (fun j hj=>un j ((List.dropLast_sublist _).subset hj)) (fun j hj=>h.rch j (by simp[hj])) ?_ (by rw[List.reverse_append];exact EY hk)
 rcases h.hd with z | ⟨z,_⟩
 ·cases js with
  | nil=>
    right
    have:i=x:=by simpa using z
    exact⟨rfl,by rw[<-this];exact hk⟩
  | cons a js=>left;simpa using z
 ·simp at z
theorem LpG.push {j:Str}{r:R} (h:LpG H0 CSe CN CS CR D pth bgd gs cs gv rc kg kc kr rm knI odI HfI HI x (js++[i]) kn rmN rkn od bg Hf H) (hk:kn i=none) (hji:j∉js++[i]) (hg:gv i=none) (hr:rc i=some r) (hs:Ae kn r j) (hz:kn j=none):LpG H0 CSe CN CS CR D pth bgd gs cs gv rc kg kc kr rm knI odI HfI HI x (js++[i]++[j]) kn rmN rkn od bg Hf (upd H pth (.lst ((js++[i]++[j]).map V.str))):=by
 have un:=h.un
 rw[List.dropLast_concat] at un
 refine h.path ?_ (fun k hk'=> ?_) (fun k hk'=> ?_) ?_ (by rw[List.reverse_append (as:=js++[i]),List.reverse_append];exact G8 hg hk hr (hs.ev hz))
 ·rw[List.nodup_append]
  exact⟨h.nd,by simp,fun a ha b hb=>by
   have:b=j:=by simpa using hb
   rw[this];exact fun z=>hji (z▸ha)⟩
 ·rw[List.dropLast_concat] at hk'
  rcases List.mem_append.mp hk' with z | z
  ·exact un k z
  ·have:k=i:=by simpa using z
   rw[this];exact⟨hk,by rw[hr];simp⟩
 ·rcases List.mem_append.mp hk' with z | z
  ·exact h.rch k z
  ·have:k=j:=by simpa using z
   rw[this];exact .step (h.rch i (by simp)) hg hr hs
 ·left
  rcases h.hd with z | ⟨z,_⟩
  ·cases js with
   | nil=>simpa using z
   | cons a js=>simpa using z
  ·simp at z
theorem LpG.know {kn':Kn}{NB:Rm}{rkn':Str->Bool}{od':List Str}{Hf':Hp} (h:LpG H0 CSe CN CS CR D pth bgd gs cs gv rc kg kc kr rm knI odI HfI HI x (js++[i]) kn rmN rkn od bg Hf H) (b:But [D.kd,D.sd,D.rd] H H') (sf:aQ Hf Hf') (fm:∀z,Mu H z->Hf z=none->Hf' z=none) (so:lY H0 D gv rc rm kn' NB rkn' od' Hf' H') (le:Kn.Le kn kn') (hn:∀y,kn' y≠none->kn y≠none\/y=i) (hun:∀y,y≠i->kn y=none->kn' y=none) (hm:Mvs gv rc ((js++[i]).reverse,kn,od) ((js++[i]).reverse,kn',od')):LpG H0 CSe CN CS CR D pth bgd gs cs gv rc kg kc kr rm knI odI HfI HI x (js++[i]) kn' NB rkn' od' bg Hf' H':=by
 have hal:=h.al
 have hmu:∀z∈[D.kd,D.sd,D.rd],Mu H z:=fun z hz=>hal z (by simp at hz ⊢;rcases hz with q | q | q<;>simp[q])
 have un:=h.un
 rw[List.dropLast_concat] at un
 have nd:=h.nd
 rw[List.nodup_append] at nd
 refine⟨h.b.trans b,h.sf.trans sf,fun z m hz=> ?_,h.sh.same sf,so,b _ _ h.np h.ep,fm _ (hal _ (by simp)) h.fp,fm _ (hal _ (by simp)) h.fb,h.ip,h.ib,h.np,h.nb,h.nn,h.nd,fun j hj=> ?_,fun j hj=>(h.rch j hj).le le,h.le.trans le,fun y hy=> ?_,((h.bgi.hf fm).off b hmu (fun z hz=>by simp at hz ⊢;rcases hz with q | q | q<;>simp[q]) h.nb).le le, ?_,h.fr,h.mv.trans hm⟩
 ·have hz':=h.fm z m hz
  by_cases hS:z∈[D.kd,D.sd,D.rd]
  ·exact fm z (hmu z hS) hz'
  ·exact fm z (m.but h.b hS) hz'
 ·rw[List.dropLast_concat] at hj
  exact⟨hun _ (fun z=>nd.2.2 j hj i (by simp) z) (un j hj).1,(un j hj).2⟩
 ·rcases hn y hy with z | z
  ·exact(h.new y z).imp id fun w=>w.le le
  ·right;rw[z];exact(h.rch i (by simp)).le le
 ·exact h.hd.imp id fun⟨a,_⟩=>by simp at a
theorem LpG.bgs {S:List Addr}{bg':Str->Option SeD} (h:LpG H0 CSe CN CS CR D pth bgd gs cs gv rc kg kc kr rm knI odI HfI HI x is kn rmN rkn od bg Hf H) (b:But S H H') (hS:∀z∈S,HI z=none/\Hf z=none/\z∉[pth,D.kd,D.sd,D.rd]) (hb:BgG CS CR D pth bgd gv rc kr rm kn bg' Hf H') (hf:∀y A,bg' y=some A->∀z∈A.ft,HI z=none):LpG H0 CSe CN CS CR D pth bgd gs cs gv rc kg kc kr rm knI odI HfI HI x is kn rmN rkn od bg' Hf H':=by
 refine⟨fun c o hc e=>b c o (fun w=>by rw[(hS c w).1] at e;cases e) (h.b c o hc e),h.sf,h.fm,h.sh,h.so.but b (fun z hz=>(hS z hz).2.1) (fun z=>(hS _ z).2.2 (by simp)) (fun z=>(hS _ z).2.2 (by simp)) (fun z=>(hS _ z).2.2 (by simp)),b _ _ (fun z=>(hS _ z).2.2 (by simp)) h.ep,h.fp,h.fb,h.ip,h.ib,h.np,h.nb,h.nn,h.nd,h.un,h.rch,h.le,h.new,hb,h.hd,hf,h.mv⟩
theorem LpG.free (h:LpG H0 CSe CN CS CR D pth bgd gs cs gv rc kg kc kr rm knI odI HfI HI x is kn rmN rkn od bg Hf H) {z:Addr} (hz:H z=none):HI z=none/\Hf z=none:=by
 refine⟨Ia h.b hz fun w=>(h.al z (by simp at w ⊢;rcases w with q | q | q<;>simp[q])).some hz, ?_⟩
 cases q:Hf z with
 | none=>rfl
 | some o=>have:=h.so.sm _ _ q;rw[hz] at this;cases this
theorem LpG.begun {H1:Hp}{y:Str}{r:R}{A:SeD}{kb:List (Key×V)} (h:LpG H0 CSe CN CS CR D pth bgd gs cs gv rc kg kc kr rm knI odI HfI HI x is kn rmN rkn od bg Hf H) (s:aQ H H1) (hA:∀z∈A.ft,H z=none) (so:vM CS CR kr rm y r kn A H1) (hr:rc y=some r) (hg:gv y=none) (hb:bg y=none) (ebd:H bgd=some (.dK kb)):
 LpG H0 CSe CN CS CR D pth bgd gs cs gv rc kg kc kr rm knI odI HfI HI x is kn rmN rkn od (lZ bg y A) Hf (upd H1 bgd (.dK (putK kb (.inr y) (.ref A.s)))):=by
 have nb:=h.nb
 refine h.bgs (S:=[bgd]) ((But.of_same s).trans (But.set _ (by simp))) (fun z hz=> ?_) (h.bgi.new s hA so hr hg hb ebd h.so.sm fun z hz=>(h.al z hz).some) (fun x B hB z hz=> ?_)
 ·have:z=bgd:=by simpa using hz
  rw[this]
  exact⟨h.ib,h.fb,fun w=>by
   rcases List.mem_cons.mp w with q | q
   ·exact h.nn q.symm
   ·exact nb q⟩
 ·unfold lZ at hB
  by_cases w:x=y
  ·rw[if_pos w] at hB;cases hB
   exact(h.free (hA z hz)).1
  ·rw[if_neg w] at hB;exact h.fr x B hB z hz
theorem LpG.gone {y:Str}{r:R}{A A':SeD} (h:LpG H0 CSe CN CS CR D pth bgd gs cs gv rc kg kc kr rm knI odI HfI HI x is kn rmN rkn od bg Hf H) (hy:bg y=some A) (b:But A.ft H H') (so:vM CS CR kr rm y r kn A' H') (hr:rc y=some r) (hg:gv y=none)
 (es:A'.s=A.s) (erk:A'.rk=A.rk) (e1:A'.a1=A.a1) (e2:A'.a2=A.a2) (e3:A'.a3=A.a3) (efl:A'.fl=A.fl\/H A'.fl=none):LpG H0 CSe CN CS CR D pth bgd gs cs gv rc kg kc kr rm knI odI HfI HI x is kn rmN rkn od (lZ bg y A') Hf H':=by
 refine h.bgs (S:=A.ft) b (fun z hz=> ?_) (h.bgi.set hy b so hr hg es erk e1 e2 e3 efl h.so.sm fun z hz=>(h.al z hz).some) (fun x B hB z hz=> ?_)
 ·obtain⟨a1,a2,a3⟩:=h.bgi.al y A hy z hz
  exact⟨h.fr y A hy z hz,a2,fun w=>a3 (by
   simp only[List.mem_cons,List.not_mem_nil,or_false] at w ⊢
   rcases w with q | q | q | q
   ·exact .inl q
   ·exact .inr (.inr (.inl q))
   ·exact .inr (.inr (.inr (.inl q)))
   ·exact .inr (.inr (.inr (.inr q))))⟩
 ·unfold lZ at hB
  by_cases w:x=y
  ·rw[if_pos w] at hB;cases hB
   have hz:z=A'.s\/z=A'.fl\/z=A'.rk\/z=A'.a1\/z=A'.a2\/z=A'.a3:=by simpa [SeD.ft] using hz
   rcases hz with q | q | q | q | q | q
   ·rw[q,es];exact h.fr y A hy _ (by simp[SeD.ft])
   ·rcases efl with w | w
    ·rw[q,w];exact h.fr y A hy _ (by simp[SeD.ft])
    ·rw[q];exact(h.free w).1
   ·rw[q,erk];exact h.fr y A hy _ (by simp[SeD.ft])
   ·rw[q,e1];exact h.fr y A hy _ (by simp[SeD.ft])
   ·rw[q,e2];exact h.fr y A hy _ (by simp[SeD.ft])
   ·rw[q,e3];exact h.fr y A hy _ (by simp[SeD.ft])
  ·rw[if_neg w] at hB;exact h.fr x B hB z hz
theorem lY.giv {y:Str}{v:Int}{kw:List (Key×V)}{ws:List Str} (h:lY H0 D gv rc rm kn rmN rkn od Hf H) (ek:H D.kd=some (.dK kw)) (kk:nC kw ws) (hk:∀x,fG kw (.inr x)=(kn x).map V.int) (hg:gv y=some v) (ne:D.kd≠D.sd/\D.kd≠D.rd/\D.sd≠D.rd):lY H0 D gv rc rm (kn.put y v) rmN rkn od Hf (upd H D.kd (.dK (putK kw (.inr y) (.int v))))/\Kn.Le kn (kn.put y v):=by
 have hn:kn y=none\/kn y=some v:=by
  cases z:kn y with
  | none=>exact .inl rfl
  | some u=>
    rcases h.ok.a y u z with w | ⟨w,_⟩
    ·rw[hg] at w;cases w;exact .inr rfl
    ·rw[hg] at w;cases w
 obtain⟨sm,fk,fs,fr,_,⟨ks,e2,r2⟩,⟨kk',rs,e3,r3⟩,ok,md,h0⟩:=h
 have hs:aQ Hf (upd H D.kd (.dK (putK kw (.inr y) (.int v)))):=fun z o e=>(ao (fun w=>by rw[w,fk] at e;cases e)).trans (sm z o e)
 rcases hn with z | z
 ·have le:=Kn.vI (v:=v) z
  have hyw:y∉ws:=kk.none.mp (by rw[hk,z];rfl)
  exact⟨⟨hs,fk,fs,fr,⟨_,_,ak,kk.tH hyw _,vK hk y v⟩,⟨ks,(ao (Ne.symm ne.1)).trans e2,r2⟩,⟨kk',rs,(ao (Ne.symm ne.2.1)).trans e3,r3⟩,ok.Wh z hg,fun x r ps u e=>(md x r ps u e).le le,h0⟩,le⟩
 ·have hyw:y∈ws:=Decidable.byContradiction fun w=>by
   have:=kk.none.mpr w
   rw[hk,z] at this;cases this
  have eq:kn.put y v=kn:=by
   funext x
   unfold Kn.put
   by_cases w:x=y
   ·rw[if_pos w,w,z]
   ·rw[if_neg w]
  rw[eq]
  refine⟨⟨hs,fk,fs,fr,⟨_,_,ak,kk.Bc hyw _,fun x=> ?_⟩,⟨ks,(ao (Ne.symm ne.1)).trans e2,r2⟩,⟨kk',rs,(ao (Ne.symm ne.2.1)).trans e3,r3⟩,ok,md,h0⟩,Kn.Le.refl _⟩
  have:=vK hk y v x
  rw[eq] at this;exact this
end
end RB
namespace L2
open PySem PySem.Spec PyProof.Rows RB
section
variable {X:Cx}{A:Around}{E:Value->Shared->Prop}{pins:List (Addr×Obj)}{σ:St}{H:Hp}{s:Shared}{a b:Addr}{kvs more:List (Key×V)}
end
section
variable {X:Cx}{o e:Expr}{td ty:TE}{apos cpos:Pos}
end
end L2
namespace RB
open PySem L2 PySem.Spec PyProof.Rows
end RB
namespace L2
open PySem PySem.Spec PyProof.Rows RB
section
variable {X:Cx}{e lo hi st:Expr}{te tl th ts:TE}{pos p2:Pos}
end
end L2
namespace L2
open PySem PySem.Spec PyProof.Rows
end L2
namespace L2
open PySem PySem.Spec PyProof.Rows RB
theorem NK {P:Program}{w:World} (d:Addr) (od:Obj) (hl:(d==sysModules)=false) (hc:od.cls= .type "dict"):
 MeetsIn P w (Builtin.«dict.items» ⟨[.ref d],[]⟩)
  (fun A R s=>s.heap.get? d=some od/\R (.ok (.ret (.ref s.heap.objs.size))) ⟨s.heap.push {cls:= .type "dict_items",data:= .fields #[.ref d]},s.gens,s.drawn,s.toks,s.os⟩):=by
 intro A R s z
 obtain⟨hp,g,dr,tk,os⟩:=s
 obtain⟨z1,z⟩:=z
 obtain⟨c,dd,da,sl⟩:=od
 simp only at hc
 subst hc
 wp_walk
 exact z
theorem Inv.more {X:Cx}{pins:List (Addr×Obj)}{σ:St}{H H':Hp}{s:Shared}{h':Heap}{t':Nat} (I:Inv X pins σ H s) (k:∀b u,s.heap.get? b=some u->h'.get? b=some u) (sm:aQ H H')
 (new:∀a o,H' a=some o->H a=some o\/(s.heap.objs.size<=a/\d8 X.prog X.w H' h' a o)):Inv X pins σ H' {s with heap:=h',toks:=t'}:=by
 refine I.un ⟨fun b u q _ _ _=>k b u q,fun b u q _ _ _=>⟨u.slots,k b u q⟩,fun b u q n _=> ?_,fun b u q _=>⟨u,k b u q⟩,fun b xs q=>sm _ _ q,fun b u xs q=>sm _ _ q,fun b ps q=>⟨#[],by rw[sm _ _ q];simp⟩⟩ fun a o e=> ?_
 ·cases e:H' b with
  | none=>rfl
  | some o=>
    rcases new b o e with z | ⟨z,_⟩
    ·rw[n] at z;cases z
    ·exact absurd (Nat.lt_of_lt_of_le (Heap.lt_size q) z) (Nat.lt_irrefl _)
 ·rcases new a o e with z | ⟨_,z⟩
  ·exact(I.hok a o z).stay (fun c v _ q=>k c v q) (fun c q=>sm _ _ q) fun c xs q=>sm _ _ q
  ·exact z
def mkH:List Addr->List (Key×V)->Hp->Hp
 | a::as,kv::kvs,H=>upd (mkH as kvs H) a (.tup [kV kv.1,kv.2])
 | _,_,H=>H
theorem RX:∀{as:List Addr}{kvs:List (Key×V)}{H:Hp}{b:Addr},b∉as->mkH as kvs H b=H b
 |[],_,_,_,_=>by cases ‹List (Key×V)›<;>rfl
 | a::as,[],_,_,_=>rfl
 | a::as,kv::kvs,H,b,h=>by
   show upd (mkH as kvs H) a _ b=_
   rw[ao (fun z=>h (by simp[z]))]
   exact RX fun z=>h (by simp[z])
theorem Wi:∀{as:List Addr}{kvs:List (Key×V)}{H:Hp}{j:Nat}{a:Addr}{kv:Key×V},as.Nodup->as[j]? =some a->kvs[j]? =some kv->mkH as kvs H a=some (.tup [kV kv.1,kv.2])
 |[],_,_,_,_,_,_,h,_=>by simp at h
 | a::as,[],_,_,_,_,_,_,h=>by simp at h
 | a::as,kv::kvs,H,0,b,kv',_,h1,h2=>by
   cases h1;cases h2
   exact ak
 | a::as,kv::kvs,H,j+1,b,kv',nd,h1,h2=>by
   rw[List.nodup_cons] at nd
   have hb:b∈as:=List.mem_of_getElem? (by simpa using h1)
   show upd (mkH as kvs H) a _ b=_
   rw[ao (fun z:b=a=>nd.1 (by rw[<-z];exact hb))]
   exact Wi nd.2 (by simpa using h1) (by simpa using h2)
theorem RZ:∀{as:List Addr}{kvs:List (Key×V)}{H:Hp}{b:Addr}{o:HO},as.Nodup->mkH as kvs H b=some o->(b∉as/\H b=some o)\/(∃(j:Nat) (kv:Key×V),as[j]? =some b/\kvs[j]? =some kv/\o= .tup [kV kv.1,kv.2])\/(H b=some o)
 |[],kvs,H,b,o,_,h=> .inl ⟨by simp,by cases kvs<;>exact h⟩
 | a::as,[],H,b,o,_,h=> .inr (.inr h)
 | a::as,kv::kvs,H,b,o,nd,h=>by
   rw[List.nodup_cons] at nd
   have h:upd (mkH as kvs H) a _ b=some o:=h
   by_cases z:b=a
   ·subst z
    rw[ak] at h;cases h
    exact .inr (.inl ⟨0,kv,rfl,rfl,rfl⟩)
   ·rw[ao z] at h
    rcases RZ nd.2 h with⟨h1,h2⟩ | ⟨j,kv',h1,h2,h3⟩ | h1
    ·exact .inl ⟨by simp[z,h1],h2⟩
    ·exact .inr (.inl ⟨j+1,kv',by simpa using h1,by simpa using h2,h3⟩)
    ·exact .inr (.inr h1)
def af0 (to:TE):TE:=fun σ H Q=>to σ H fun x H1=>∃a kvs,x= .ref a/\H1 a=some (.dK kvs)/\∀(l:Addr) (as:List Addr) (H':Hp),aQ H1 H'->H1 l=none->H' l=some (.lst (as.map V.ref))->as.length=kvs.length->(∀(j:Nat) (b:Addr) (kv:Key×V),as[j]? =some b->kvs[j]? =some kv->H' b=some (.tup [kV kv.1,kv.2]))->Q (.ref l) H'
theorem adf {X:Cx}{o:Expr}{to:TE}{p apos cpos pos:Pos} (hc:X.calm=true) (ho:PE X o to) (hg:Gl X "list") (hm:X.mg "list"=none) (hv:bootBuiltins "list"=some (.type "list"))
 (hbase:attributeBase o "items" X.env (eval o X.env)=eval o X.env:=by rfl) (hline:(apos.endLine==cpos.line)=true:=by rfl)
 (he:starEach [.Call (.Attribute o "items" apos) [] [] cpos] X.env=(false,eval (.Call (.Attribute o "items" apos) [] [] cpos) X.env)::starEach [] X.env:=by rfl) (hpl:(backTo pos (starEach [] X.env)).any (·.1)=false:=by rfl):
 PE X (.Call (.Name "list" p) [.Call (.Attribute o "items" apos) [] [] cpos] [] pos) (af0 to):=by
 intro pins s σ H Q I h
 refine wpAny_Call_Name_kw (Al I hg hm hv ?_ (by decide) (by decide))
 refine PyProof.Rows.callWith_type1 ?_ he hpl
 rw[he]
 show wpAny _ _ (spliced ((false,eval (.Call (.Attribute o "items" apos) [] [] cpos) X.env)::backTo pos (starEach [] X.env))) _ _ s
 refine Calls.spliced_cons ?_
 refine wpAny_Call_method0_late hbase hline (thn (ho pins s σ H _ I h) fun v s1 ⟨x,H1,I1,r1,a,kvs,ex,ha,q⟩=> ?_)
 subst ex
 obtain rfl:v=Value.ref a:=r1
 obtain⟨t1,t2,hlo⟩:=acC I1 (.inl ⟨kvs, .inl ha⟩)
 refine⟨"dict","dict.items",PySem.F.plainAttrs_dict,PySem.F.slot_dict_items,PySem.F.type_dict_items,t1,t2,Calls.callWith_builtin rfl (PySem.evalArgs_none ?_)⟩
 obtain⟨hz,_,vs,hkv,hd⟩:=Q9 I1.hok ha
 obtain⟨ep,hat⟩:=hd.dictAt
 obtain⟨od,hod,hocls⟩:=id t1
 refine call_meetsIn PySem.F.slot_dict_items t1 PySem.F.entry_dict_items (PySem.F.args_dict_items_1 _) (NK a od hlo hocls) ⟨hod, ?_⟩
 show wpAny (model X.prog X.w) X.A (spliced []) _ X.xe _
 refine Calls.spliced_nil ?_
 have hk1:∀b u,s1.heap.get? b=some u->(s1.heap.push {cls:= .type "dict_items",data:= .fields #[.ref a]}).get? b=some u:=fun b u e=>Heap.get?_push_of_some _ e
 have hsz:(s1.heap.push {cls:= .type "dict_items",data:= .fields #[.ref a]}).objs.size=s1.heap.objs.size+1:=by simp[Heap.push]
 obtain⟨_,_,vs',hkv',hd'⟩:=Q9 (I1.hok.kept hk1) ha
 obtain⟨ep',hat'⟩:=hd'.dictAt
 obtain⟨hvl,hvk⟩:=Kf hkv'
 have hview:(s1.heap.push {cls:= .type "dict_items",data:= .fields #[.ref a]}).IsItemsView s1.heap.objs.size a:=⟨_,Heap.get?_push_size _ rfl,rfl,rfl⟩
 refine PySem.W.kdx_call (I1.ok.hd hc) hview hat' (by rw[<-hvl];exact hz) fun h' tk acc c as kp e hlen hG hacc=> ?_
 have hal:as.length=kvs.length:=hlen.trans hvl.symm
 have hnd:as.Nodup:=hG.rise.imp fun z=>Nat.ne_of_lt z
 have hlow:∀b∈as,s1.heap.objs.size+1<b:=fun b hb=>by rw[<-hsz];exact hG.above b hb
 have hfresh:∀{b:Addr}{o:HO},H1 b=some o->@LT.lt Nat _ b s1.heap.objs.size:=fun{b o} e=>I1.hok.lt e
 have hl:(s1.heap.push {cls:= .type "dict_items",data:= .fields #[.ref a]}).objs.size∉as:=fun z=>by have:=hlow _ z;rw[hsz] at this;exact absurd this (Nat.lt_irrefl _)
 have sm:aQ H1 (upd (mkH as kvs H1) (s1.heap.push {cls:= .type "dict_items",data:= .fields #[.ref a]}).objs.size (.lst (as.map V.ref))):=fun b o eb=>by
  have h1:@LT.lt Nat _ b s1.heap.objs.size:=hfresh eb
  have n1:b∉as:=fun z=>absurd (Nat.lt_trans h1 (Nat.lt_of_succ_lt (hlow b z))) (Nat.lt_irrefl _)
  rw[ao (by rw[hsz];exact Nat.ne_of_lt (Nat.lt_succ_of_lt h1)),RX n1];exact eb
 have hpairs:∀(j:Nat) (b:Addr) (kv:Key×V),as[j]? =some b->kvs[j]? =some kv->mkH as kvs H1 b=some (.tup [kV kv.1,kv.2]):=fun j b kv h1 h2=>Wi hnd h1 h2
 have hne:∀{b:Addr},b∈as->b≠(s1.heap.push {cls:= .type "dict_items",data:= .fields #[.ref a]}).objs.size:=fun hb z=>hl (z▸hb)
 refine⟨.ref _,_,I1.more (t':=tk) (fun b u eb=>kp b u (hk1 b u eb)) sm (fun b o eb=> ?_),rfl,q _ as _ sm (I1.hok.fresh (by rw[hsz];omega)) ak hal fun j b kv h1 h2=> ?_⟩
 ·by_cases z:b=(s1.heap.push {cls:= .type "dict_items",data:= .fields #[.ref a]}).objs.size
  ·subst z
   rw[ak] at eb;cases eb
   refine .inr ⟨by rw[hsz];omega,by rw[List.length_map,hal];exact hz,acc.toList,c, ?_,by simpa using e⟩
   rw[hacc]
   clear e hacc q sm hpairs hG hlow hnd hal hlen hl hne
   induction as with
   | nil=>exact .nil
   | cons x as ih=>exact .cons rfl ih
  ·rw[ao z] at eb
   rcases RZ hnd eb with⟨_,h2⟩ | ⟨j,kv,h1,h2,h3⟩ | h1
   ·exact .inl h2
   ·subst h3
    have hbm:=List.mem_of_getElem? h1
    have:=hlow b hbm
    obtain⟨key,k,x,e1,e2,e3⟩:=hG.pairs j b h1
    obtain⟨y,ey,ry⟩:=P0 hkv' j k x e1
    rw[h2] at ey
    cases ey
    exact .inr ⟨by omega,by show 2<=sizeLine;decide,[key,x], .cons (Ry e2) (.cons ry .nil),⟨_,e3,rfl,_,rfl⟩⟩
   ·exact .inl h1
 ·rw[ao (hne (List.mem_of_getElem? h1))]
  exact hpairs j b kv h1 h2
theorem adg {X:Cx}{o:Expr}{to:TE}{p apos cpos pos:Pos} (hc:X.calm=true) (ho:QE X o to) (hg:Gl X "list") (hm:X.mg "list"=none)
 (hbase:attributeBase o "items" X.env (eval o X.env)=eval o X.env:=by rfl) (hline:(apos.endLine==cpos.line)=true:=by rfl)
 (he:starEach [.Call (.Attribute o "items" apos) [] [] cpos] X.env=(false,eval (.Call (.Attribute o "items" apos) [] [] cpos) X.env)::starEach [] X.env:=by rfl) (hpl:(backTo pos (starEach [] X.env)).any (·.1)=false:=by rfl):
 QE X (.Call (.Name "list" p) [.Call (.Attribute o "items" apos) [] [] cpos] [] pos) (af0 to):=⟨adf hc ho.h hg hm vA hbase hline he hpl⟩
section
variable {X:Cx}{tg:Expr}
end
end L2
namespace RB
open PySem L2 PySem.Spec PyProof.Rows
theorem R0 {r:R}{u v:Int}:∀{ps qs:List Rdp}{kn:Kn},Chn r kn ps->Chn r kn qs->ev (kn.puts ps) r= .inr u->ev (kn.puts qs) r= .inr v->(∀p∈ps,∀q∈qs,p.1=q.1->p.2=q.2)->u=v/\ps=qs
 |[],[],kn,_,_,e1,e2,_=>by
  have e1:ev kn r= .inr u:=e1
  have e2:ev kn r= .inr v:=e2
  rw[e1] at e2
  exact⟨Sum.inr.inj e2,rfl⟩
 |[],q::qs,kn,_,c,e1,_,_=>by
  have e1:ev kn r= .inr u:=e1
  rw[c.1] at e1;cases e1
 | p::ps,[],kn,c,_,_,e2,_=>by
   have e2:ev kn r= .inr v:=e2
   rw[c.1] at e2;cases e2
 | p::ps,q::qs,kn,c1,c2,e1,e2,h=>by
   have e:p.1=q.1:=Sum.inl.inj (c1.1.symm.trans c2.1)
   have e':=h p (by simp) q (by simp) e
   have hpq:p=q:=Prod.ext e e'
   subst hpq
   obtain⟨a,b⟩:=R0 (ps:=ps) (qs:=qs) c1.2 c2.2 e1 e2 fun p' hp q' hq=>h p' (by simp[hp]) q' (by simp[hq])
   exact⟨a,by rw[b]⟩
section
variable {n:Nat}{gv:Kn}{rc:Rn}{kn1 kn2:Kn}{rm1 rm2:Rm}{ws:List Str}
end
end RB
namespace L2
open PySem PySem.Spec PyProof.Rows RB
theorem Wj {X:Cx}{pins:List (Addr×Obj)}{s:Shared}{σ:St}{H:Hp}{A:Around}{x y:V}{z z':Value}{d:PyData} (I:Inv X pins σ H s) (rz:RelV x z) (rz':RelV y z') (h1:pD X.K H x d) (h2:pD X.K H y d) (sh:SeqAt.shaped d=true) (hu:A.in1.units+64<cLine):SeqAt.EqAt A.in1 s z z' true:=by
 obtain⟨as,r1⟩:=h1.reads I rz
 obtain⟨bs,r2⟩:=h2.reads I rz'
 have:=PySem.W.keq_at r1 r2 sh sh hu
 rw[PySem.SeqAt.eqv_refl d (Ba sh)] at this
 exact this
def Wk (K:PySem.W.Frag) (H:Hp) (x y:V):Prop:=ajd H x y\/∃d,pD K H x d/\pD K H y d/\SeqAt.shaped d=true
theorem Wl {X:Cx}{pins:List (Addr×Obj)}{s:Shared}{σ:St}{H:Hp}{A:Around}{x y:V}{z z':Value} (I:Inv X pins σ H s) (rz:RelV x z) (rz':RelV y z') (h:Wk X.K H x y) (hu:A.units+66<cLine):CT X.prog X.w A.in1 s z z':=by
 have k1:A.in1.units=A.units+1:=rfl
 have k2:A.in1.in1.units=A.units+2:=rfl
 rcases h with(h | ⟨a',b',x1,x2,y1,y2,e3,e4,ha',hb',h1,h2⟩) | ⟨d,h1,h2,sh⟩
 ·exact K8 I rz rz' h (by omega)
 ·rw[e3] at rz
  rw[e4] at rz'
  cases rz
  cases rz'
  obtain⟨us,ru,tu,_⟩:=I.tuple (SqT.of ha')
  obtain⟨ws,rw',tw,_⟩:=I.tuple (SqT.of hb')
  obtain⟨u1,u2,rfl,r1,r2⟩:=vals2 ru
  obtain⟨w1,w2,rfl,r3,r4⟩:=vals2 rw'
  exact Qg tu tw (K8 I r1 r3 h1 (by omega)) (K8 I r2 r4 h2 (by omega)) (by omega)
 ·exact CT.of (Wj I rz rz' h1 h2 sh (by omega))
theorem jV.u66 {k:Nat}{A:Around} (r:jV k A):A.units+66<cLine:=by have:=r.un;omega
section
variable {X:Cx}
end
end L2
namespace RB
open PySem L2 PySem.Spec PyProof.Rows
section
variable {H H':Hp}{kp kq:List (Key×V)}{gv:Kn}{rc:Rn}{rm:Rm}{kn:Kn}{ks qs:List Str}
end
namespace SJ
end SJ
section
variable {prog:Program}{w:World}{A:Around}{E:Value->Shared->Prop}{s:Shared}
end
end RB
namespace L2
open PySem PySem.Spec PyProof.Rows RB
section
variable {prog:Program}{w:World}{A:Around}{E:Value->Shared->Prop}{s:Shared}{κ:PyProof.Rows.KeyKind}
end
section
variable {X:Cx}{pins:List (Addr×Obj)}{σ:St}{H:Hp}{s:Shared}
end
section
variable {X:Cx}
end
def adh (K:PySem.W.Frag):R2:=fun x y H Q=>∃a b xs,x= .ref a/\y= .ref b/\SqL K H a xs/\SqL K H b []/\Q (.bl (!xs.isEmpty)) H
theorem Uh {X:Cx} (hu:X.A.units+64<cLine):QOp X (compareOp .NotEq) (adh X.K):=⟨fun pins s σ H x y v u Q I rx ry h=>by
 obtain⟨a,b,xs,rfl,rfl,ha,hb,q⟩:=h
 cases xs with
 | nil=>exact Vu hu pins s σ H _ _ v u Q I rx ry ⟨.list [], .list [], .lst ha .nil, .lst hb .nil,shaped_ints [],shaped_ints [],q⟩
 | cons x r=>
   cases rx
   cases ry
   obtain⟨its,rv,pl,_⟩:=I.list ha
   obtain⟨its',rv',pl',_⟩:=I.list hb
   cases rv
   cases rv'
   exact PySem.SeqAt.RcNeAt.lists_lengths pl.isList pl'.isList rfl (by omega) _ _ _ _ ⟨.bl true,H,I,rfl,q⟩⟩
end L2
namespace RB
open PySem L2 PySem.Spec PyProof.Rows
section
variable {n:Nat}{gv gv':Kn}{rc:Rn}{kn kn':Kn}{rm rm' rm1 rm2:Rm}
end
theorem NP {z:Str}{cs:List Str} (h:z∈cs):inV (.str z) (cs.map V.str)=true:=by
 unfold inV
 rw[List.any_map,List.any_eq_true]
 exact⟨z,h,by show(z==z)=true;exact beq_self_eq_true z⟩
theorem Fe (cs:List Str):(cs.map V.str).all p8=true:=by
 rw[List.all_map,List.all_eq_true]
 exact fun _ _=>rfl
end RB
namespace L2
open PySem PySem.Spec PyProof.Rows RB
end L2
namespace RB
open PySem L2 PySem.Spec PyProof.Rows
theorem Wm {z:Str}{cs:List Str} (h:z∉cs):inV (.str z) (cs.map V.str)=false:=by
 unfold inV
 rw[List.any_map,List.any_eq_false]
 intro y hy w
 have w:(y==z)=true:=w
 exact h (by rw[<-eq_of_beq w];exact hy)
section
variable {gv:Kn}{rc:Rn}{kn kn':Kn}{od od' p:List Str}{x y:Str}{r:R}
end
section
variable {Hf:Hp}{h g c rcd st wd ml:Addr}{n:Nat}{gv:Kn}{rc:Rn}{kr:List (Key×V)}{rm:Rm}{kn:Kn}{od:List Str}{H H':Hp}
end
section
variable {kn:Kn}{a b c:R}{op:Op}{y x:Str}{u v:Int}{ns:List Str}
end
end RB
namespace L2
open PySem PySem.Spec PyProof.Rows RB
end L2
namespace RB
open PySem L2 PySem.Spec PyProof.Rows
theorem Bf:∀(r:R) (d:Nat),r.HN->r.depth<=d->r.nms.length<=3 * 3 ^ d
 | r,0,_,h=>absurd (qQ r) (by omega)
 | .num _,d+1,_,_=>Nat.zero_le _
 | .rd _,d+1,_,_=>by
   have:1<=3 ^(d+1):=Nat.one_le_pow _ _ (by decide)
   show 1<=_
   omega
 | .bin _ a b,d+1,g,h=>by
   have h:max a.depth b.depth+1<=d+1:=h
   have h1:=Bf a d g.1 (by omega)
   have h2:=Bf b d g.2 (by omega)
   show(a.nms++b.nms).length<=_
   rw[List.length_append,Nat.pow_succ];omega
 | .pick a b c,d+1,g,h=>by
   have h:max a.depth (max b.depth c.depth)+1<=d+1:=h
   have h1:=Bf a d g.1 (by omega)
   have h2:=Bf b d g.2.1 (by omega)
   have h3:=Bf c d g.2.2 (by omega)
   show(a.nms++(b.nms++c.nms)).length<=_
   rw[List.length_append,List.length_append,Nat.pow_succ];omega
 | .cho a ns,d+1,g,h=>by
   have h:a.depth+1<=d+1:=h
   have h0:=qQ a
   have h1:=Bf a d g.1 (by omega)
   have h2:=g.2.2.1
   obtain⟨d',rfl⟩:∃d',d=d'+1:=⟨d - 1,by omega⟩
   have:1<=3 ^ d':=Nat.one_le_pow _ _ (by decide)
   show(a.nms++ns).length<=_
   rw[List.length_append,Nat.pow_succ,Nat.pow_succ] at *;omega
theorem R6 {ns:List Str} (nd:ns.Nodup) {j m:Nat}{y:Str} (h:ns[j]? =some y) (hm:m<=j):y∉ns.take m:=fun z=>by
 obtain⟨i,hi⟩:=List.getElem?_of_mem z
 rw[List.getElem?_take] at hi
 split at hi
 ·have:=(List.getElem?_inj (List.getElem?_eq_some_iff.mp hi).1 nd).mp (hi.trans h.symm)
  omega
 ·cases hi
theorem R7 {gv:Kn}{rc:Rn}{I:Ms->Prop} (hs:∀s t,I s->mv gv rc s=some t->I t):∀{k:Nat}{s t:Ms},I s->itM gv rc k s=some t->I t
 | 0,s,t,h,e=>by cases e;exact h
 | k+1,s,t,h,e=>by
   unfold itM at e
   cases z:mv gv rc s with
   | none=>rw[z] at e;cases e
   | some u=>rw[z] at e;exact R7 hs (hs s u h z) e
theorem Mvs.inv {gv:Kn}{rc:Rn}{I:Ms->Prop} (hs:∀s t,I s->mv gv rc s=some t->I t) {s t:Ms} (m:Mvs gv rc s t) (h:I s):I t:=let ⟨_,e⟩:=m;R7 hs h e
section
variable {H0 Hf Hf':Hp}{h g c st:Addr}{A:S1}{gs cs:List Str}{gv:Kn}{rc:Rn}{ops:List Str}{ls:List Addr}{kn:Kn}{rm:Rm}{od:List Str}{H H':Hp}
end
section
variable {H0 Hf:Hp}{h g c st:Addr}{A:S1}{gs cs:List Str}{gv:Kn}{rc:Rn}{ops:List Str}{ls:List Addr}{kn:Kn}{rm:Rm}{od:List Str}{H:Hp}
end
structure aje (q:R×List Rdp×Int):Prop where
 g:q.1.Good
 d:q.1.depth<=8
 p:∀p∈q.2.1,oG p.1
def RmG (rm:Rm):Prop:=∀x q,rm x=some q->aje q
section
variable {gv gv':Kn}{rc:Rn}{kn kn':Kn}{rm rm' rm1 rm2:Rm}
theorem StG.rmG (s:StG gv rc kn rm) (hg:∀x r,rc x=some r->r.Good/\r.depth<=8) (hn:∀y,kn y≠none->oG y):RmG rm:=fun x q e=>by
 obtain⟨r,ps,v⟩:=q
 obtain⟨h1,_,_,_,h5⟩:=s.b _ _ _ _ e
 exact⟨(hg x r h1).1,(hg x r h1).2,fun p hp=>hn _ (by rw[h5.s p hp];simp)⟩
end
end RB
namespace L2
open PySem PySem.Spec PyProof.Rows RB PySem.W
section
variable {prog:Program}{w:World}{A:Around}{E:Value->Shared->Prop}{s:Shared}
end
end L2
namespace L2
open PySem PySem.Spec PyProof.Rows RB
end L2
namespace RB
open PySem L2 PySem.Spec PyProof.Rows
end RB
namespace L2
open PySem PySem.Spec PyProof.Rows RB
theorem Ip {y:Str}:∀{vs:List Value}{ns:List Str},StrsAre vs ns->∀{j:Nat}{v:Value},vs[j]? =some v->isStrOf y v=decide (ns[j]? =some y)
 | _,_, .nil,j,v,h=>by simp at h
 | _,_, .cons z t r,0,v,h=>by
   cases h
   show(z==y)=decide (some z=some y)
   by_cases h:z=y<;>simp[h]
 | _,_, .cons z t r,j+1,v,h=>by
   have:=Ip (y:=y) r (j:=j) (v:=v) (by simpa using h)
   simpa using this
def Wn (K:PySem.W.Frag):V->List V->Hp->VK->Prop:=fun x vs H Q=>∃(l:Addr) (ns:List Str) (y:Str) (j:Nat),x= .ref l/\vs=[.str y]/\SqL K H l (ns.map V.str)/\ns[j]? =some y/\(∀i,i<j->ns[i]? ≠some y)/\Q (.int (j:Int)) H
theorem Wo {X:Cx}:MtR X "list.index" (Wn X.K):=by
 intro pins s σ H x vs v us Q I rx rv h
 obtain⟨l,ns,y,j,rfl,rfl,hS,hj,hno,q⟩:=h
 cases rx
 obtain⟨u,rfl,ru⟩:=rv.one
 obtain⟨t,rfl⟩:∃t,u= .str y t:=ru
 obtain⟨its,r,pl,hz⟩:=I.list hS
 have hA:=Qc r
 have hl:=r.length
 rw[List.length_map] at hl hz
 obtain⟨⟨cls,dd,data,sl⟩,ho,hc,n,hd⟩:=pl.isList
 simp only at hc hd
 subst hc hd
 have hjl:j<ns.length:=(List.getElem?_eq_some_iff.mp hj).1
 have hn:=Hr
 have hat:∀(i:Nat) (hi:i<its.toArray.size),isStrOf y its.toArray[i]=decide (ns[i]? =some y):=fun i hi=>by
  have hi':i<its.length:=by simpa using hi
  refine Ip hA ?_
  rw[List.getElem?_eq_getElem hi']
  simp
 refine call_meets PySem.F.slot_list_index ⟨_,ho,rfl⟩ PySem.F.entry_list_index (PySem.F.args_list_index_2 _ _) (SeqAt.list_indexAt l its.toArray n dd sl (.str y t) (isStrOf y) j (by simp;omega) (by
  have:its.length<=sizeLine:=by omega
  omega) ?_ ?_) ⟨ho,fun z hz=>(eq_isStrOf y t hA z (by simpa using hz)).at _ _, ?_⟩
 ·rw[hat];exact decide_eq_true hj
 ·intro i hi hlt
  rw[hat];exact decide_eq_false (hno i hlt)
 ·exact⟨.int (j:Int),H,I.tok _,⟨_,rfl⟩,q⟩
theorem Kp {X:Cx}:QMt X "list.index" (Wn X.K):=⟨Wo⟩
end L2
namespace L2
open PySem PySem.Spec PyProof.Rows
def Hd (c:Value) (d:Option Addr) (o:Obj):Prop:=o.cls=c/\o.dict=d
theorem Hd.map {c:Value}{d:Option Addr}{o:Obj} (h:Hd c d o) (f:Array Value->Array Value):Hd c d (o.mapFields f):=by
 obtain⟨oc,od,dt,sl⟩:=o
 obtain⟨h1,h2⟩:=h
 cases dt<;>exact⟨h1,h2⟩
def TrD (h base:Heap) (e:Addr) (c:Value) (d:Option Addr) (fl:Value):Prop:=∃oe vs T oT ts,h.get? e=some oe/\Hd c d oe/\oe.data= .fields vs/\vs[1]? =some (Value.ref T)/\base.get? T=none/\T≠e/\h.get? T=some oT/\oT.data= .fields ts/\ts[3]? =some fl
structure zJ (base:Heap) (l:List Env) (e:Addr) (c:Value) (d:Option Addr) (fl:Value) (h:Heap):Prop where
 stays:base.StaysIn h
 new:base.get? e=none
 frames:h.FunFrames base l
 tr:TrD h base e c d fl
theorem zJ.there {base h:Heap}{l:List Env}{e:Addr}{c fl:Value}{d:Option Addr} (x:zJ base l e c d fl h):∃o vs,h.get? e=some o/\Hd c d o/\o.data= .fields vs:=by
 obtain⟨oe,vs,_,_,_,h1,h2,h3,_⟩:=x.tr
 exact⟨oe,vs,h1,h2,h3⟩
theorem zJ.out {base h:Heap}{env:Env}{l:List Env}{e:Addr}{c fl:Value}{d:Option Addr} (x:zJ base (env::l) e c d fl h):zJ base l e c d fl h:=⟨x.stays,x.new,x.frames.2.2,x.tr⟩
section
variable {M:Model}{A:Around}{E:Value->Shared->Prop}{s:Shared}{base:Heap}{env:Env}{outer:List Env}{L e:Addr}{Q:Unit->Shared->Prop}{c:Value}{d:Option Addr}
theorem abd {oe:Obj}{vs:Array Value}{head:Value}{more:Bool} (fr:A.frames=some (env::outer)) (ff:s.heap.FunFrames base (env::outer)) (fl:env.frame=some L) (he:s.heap.get? e=some oe) (st:base.StaysIn s.heap) (en:base.get? e=none)
 (hd:oe.data= .fields vs) (sz:1<vs.size) (hh:Hd c d oe) (k:∀h',zJ base (env::outer) e c d (rawInt L) h'->s.heap.UpToSlots h'->Q () {s with heap:=h'}):
 wpAny M A (do let a <-frameOf env;let pl <-entryPlaceOf L more;let b <-EntryCells.newEntry head a .none (rawInt L) .none pl;setField (.ref e) 1 b) Q E s:=by
 have nf:e∉(env::outer).filterMap (·.frame):=fun hm=>by
  obtain⟨_,o,q,nq⟩:=ff.mem hm
  rw[he] at q
  cases q
  exact nq vs hd
 refine wpAny_bind (wpAny_frameOf_fun fr ff fl fun h1 so=> ?_)
 refine wpAny_bind (wpAny_entryPlaceOf fun pl hpl=> ?_)
 unfold EntryCells.newEntry newFields
 refine wpAny_bind (wpAny_newObj_type ?_ (hpl.sizeOk5 _ _ _ _ _))
 have e1:h1.get? e=some oe:=by rw[so.2.1 e nf];exact he
 have st1:base.StaysIn h1:=fun b o q=>by
  rw[so.2.1 b fun hm=>by rw[(ff.mem hm).1] at q;cases q]
  exact st b o q
 generalize hnew:({cls:= .type "traceback",dict:=none,data:= .fields ([head, .ref L, .none,rawInt L, .none]++(if pl.isEmpty then List.replicate 6 Value.none else pl)).toArray}:Obj)=nt
 have hnd:∃ts,nt.data= .fields ts/\ts[3]? =some (rawInt L):=by
  subst hnew
  exact⟨_,rfl,by first | (simp;done) | (rcases hpl with rfl | ⟨_,_,_,_,_,_,_,rfl⟩<;>simp)⟩
 have nfree:nt.isFreed=false:=by subst hnew;rfl
 have e2:=Heap.get?_push_of_some (h:=h1) nt e1
 refine wpAny_setField e2 hd sz ?_
 have nT:h1.objs.size≠e:=Nat.ne_of_gt (Heap.lt_size e1)
 have d3:=Obj.data_mapFields hd (·.setIfInBounds 1 (Value.ref h1.objs.size))
 have keep:∀b o,b≠e->h1.get? b=some o->((h1.push nt).update e (Obj.mapFields (·.setIfInBounds 1 (Value.ref h1.objs.size)))).get? b=some o:=fun b o nb q=>by
  rw[Heap.get?_update_other _ _ (Ne.symm nb)];exact Heap.get?_push_of_some nt q
 have nrec:∀b o,s.heap.get? b=some o->(∀ws,o.data≠ .fields ws)->b≠e:=fun b o q nq z=>by
  rw[z,he] at q;cases q;exact nq vs hd
 obtain⟨ts,t1,t2⟩:=hnd
 refine k _ ⟨fun b o q=>keep b o (fun z=>by rw[z,en] at q;cases q) (st1 b o q),en,ff.of_keeps fun b o q nq=> ?_,_,_,h1.objs.size,nt,ts,Heap.get?_update_self _ e2 (Obj.isFreed_of_fields d3),hh.map _,d3,by simp[sz],st1.fresh,nT, ?_,t1,t2⟩ fun b o q nq=> ?_
 ·obtain⟨sl,z⟩:=so.2.2 b o q
  exact⟨_,keep b _ (nrec b o q nq) z,rfl⟩
 ·rw[Heap.get?_update_other _ _ (Ne.symm nT)]
  exact Heap.get?_push_size h1 nfree
 ·obtain⟨sl,z⟩:=so.2.2 b o q
  exact⟨sl,keep b _ (nrec b o q nq) z⟩
theorem Ui {oe:Obj}{vs:Array Value} (fr:A.frames=some (env::outer)) (ff:s.heap.FunFrames base (env::outer)) (fl:env.frame=some L) (he:s.heap.get? e=some oe) (st:base.StaysIn s.heap) (en:base.get? e=none)
 (hd:oe.data= .fields vs) (h1:vs[1]? =some .none) (hh:Hd c d oe) (k:∀h',zJ base (env::outer) e c d (rawInt L) h'->s.heap.UpToSlots h'->Q () {s with heap:=h'}):wpAny M A (noteFrame (.ref e) env) Q E s:=by
 unfold noteFrame
 simp only[fl]
 refine wpAny_bind (wpAny_field he hd h1 ?_)
 rw[if_neg (by decide)]
 exact abd fr ff fl he st en hd (Array.getElem?_eq_some_iff.mp h1).1 hh k
theorem NQ (fr:A.frames=some (env::outer)) (fl:env.frame=some L) (x:zJ base (env::outer) e c d .none s.heap) (k:∀h',zJ base (env::outer) e c d (rawInt L) h'->s.heap.UpToSlots h'->Q () {s with heap:=h'}):wpAny M A (noteFrame (.ref e) env) Q E s:=by
 obtain⟨oe,vs,T,oT,ts,he,hh,hd,h1,bT,nT,hT,dT,h3⟩:=x.tr
 unfold noteFrame
 simp only[fl]
 refine wpAny_bind (wpAny_field he hd h1 ?_)
 rw[if_pos (show(Value.ref T !=Value.none)=true from by simp)]
 refine wpAny_bind (wpAny_field hT dT h3 ?_)
 rw[if_neg (show¬((Value.none==rawInt L)=true) from by simp[rawInt])]
 refine wpAny_bind (wpAny_setField hT dT (Array.getElem?_eq_some_iff.mp h3).1 ?_)
 have oth:∀b,b≠T->(s.heap.update T (Obj.mapFields (·.setIfInBounds 3 Value.none))).get? b=s.heap.get? b:=fun b nb=>Heap.get?_update_other _ _ (Ne.symm nb)
 have nrec:∀b o,s.heap.get? b=some o->(∀ws,o.data≠ .fields ws)->b≠T:=fun b o q nq z=>by
  rw[z,hT] at q;cases q;exact nq ts dT
 refine abd fr (x.frames.of_keeps fun b o q nq=>⟨o,by rw[oth b (nrec b o q nq)];exact q,rfl⟩) fl (by rw[oth e (Ne.symm nT)];exact he) (fun b o q=>by
  rw[oth b fun z=>by rw[z,bT] at q;cases q]
  exact x.stays b o q) x.new hd (Array.getElem?_eq_some_iff.mp h1).1 hh fun h' f u=>k h' f fun b o q nq=>u b o (by rw[oth b (nrec b o q nq)];exact q) nq
theorem R8 {fl:Value}{l:List Env} (x:zJ base l e c d fl s.heap) (k:∀h',zJ base l e c d .none h'->s.heap.UpToSlots h'->Q () {s with heap:=h'}):wpAny M A (setFlight (.ref e) none) Q E s:=by
 obtain⟨oe,vs,T,oT,ts,he,hh,hd,h1,bT,nT,hT,dT,h3⟩:=x.tr
 have sz:3<ts.size:=(Array.getElem?_eq_some_iff.mp h3).1
 have oth:∀b,b≠T->(s.heap.update T (Obj.mapFields (·.setIfInBounds 3 ((none:Option Addr).elim Value.none fun f=>rawInt f)))).get? b=s.heap.get? b:=fun b nb=>Heap.get?_update_other _ _ (Ne.symm nb)
 have nrec:∀b o,s.heap.get? b=some o->(∀ws,o.data≠ .fields ws)->b≠T:=fun b o q nq z=>by
  rw[z,hT] at q;cases q;exact nq ts dT
 unfold setFlight
 refine wpAny_bind (wpAny_field he hd h1 ?_)
 rw[if_pos (show(Value.ref T !=Value.none)=true from by simp)]
 refine wpAny_setField hT dT sz (k _ ⟨fun b o q=> ?_,x.new,x.frames.of_keeps fun b o q nq=>⟨o,by rw[oth b (nrec b o q nq)];exact q,rfl⟩,oe,vs,T,_,_,by rw[oth e (Ne.symm nT)];exact he,hh,hd,h1,bT,nT,Heap.get?_update_self _ hT (Obj.isFreed_of_fields (Obj.data_mapFields dT _)),Obj.data_mapFields dT _,by simp[sz]⟩ fun b o q nq=>⟨o.slots, ?_⟩)
 ·rw[oth b fun z=>by rw[z,bT] at q;cases q]
  exact x.stays b o q
 ·rw[oth b (nrec b o q nq)];exact q
theorem Qj {oe:Obj}{vs:Array Value} (fr:A.frames=some (env::outer)) (ff:s.heap.FunFrames base (env::outer)) (fl:env.frame=some L) (he:s.heap.get? e=some oe) (st:base.StaysIn s.heap) (en:base.get? e=none)
 (hd:oe.data= .fields vs) (h1:vs[1]? =some .none) (hh:Hd c d oe) (k:∀h',zJ base outer e c d .none h'->s.heap.UpToSlots h'->Q () {s with heap:=h'}):wpAny M A (leaving env (.ref e)) Q E s:=by
 unfold leaving
 refine wpAny_bind (Ui fr ff fl he st en hd h1 hh fun h' f u=> ?_)
 exact R8 (s:={s with heap:=h'}) f fun h2 f2 u2=>k h2 f2.out (u.trans u2)
theorem Uj (fr:A.frames=some (env::outer)) (fl:env.frame=some L) (x:zJ base (env::outer) e c d .none s.heap) (k:∀h',zJ base outer e c d .none h'->s.heap.UpToSlots h'->Q () {s with heap:=h'}):wpAny M A (leaving env (.ref e)) Q E s:=by
 unfold leaving
 refine wpAny_bind (NQ fr fl x fun h' f u=> ?_)
 exact R8 (s:={s with heap:=h'}) f fun h2 f2 u2=>k h2 f2.out (u.trans u2)
end
section
variable {prog:Program}{w:World}{A:Around}{E:Value->Shared->Prop}{h:Heap}{g:Array GenState}{d:Drawn}{t:Nat}{os:OsState}
variable {nm q:Str}{C N:Addr}{bs bm bmB:List Value}{hdct:Bool}{sn:List Str}{sub:List Value}{ab:Bool}{col:Option Bool}{dd:Option Addr}{k0 k1 k2 k3 k5:Option Value}{B newId initId:String}
theorem Gz (F:ExcBaseFacts B newId initId bmB) (T:OwnTail h bmB bm) {mN:Str->Option Value}{rest:List Value}{fI:Addr}{oI:Obj}{Q:Fin->Shared->Prop}
 (hC:h.get? C=some (excClassObj nm q C N bs bm hdct sn sub ab col dd k0 k1 k2 k3 k5 newId)) (hn:h.Ns N mN) (hi:mN "__init__"=some (.ref fI)) (hfI:h.get? fI=some oI) (hfc:oI.cls= .type "function")
 (hq:∀h' e,Heap.MadeExcOf h h' e (.ref C) rest->wpAny (model prog w) A (call (.ref fI) (.ref e::rest)) (fun r s'=>r= .none/\Q (.done (.ret (.ref e))) s') E ⟨h',g,d,t,os⟩) (hrest:rest.length<=sizeLine):
 wpAny (model prog w) A (Builtin.«type.__call__» ⟨.ref C::rest,[]⟩) Q E ⟨h,g,d,t,os⟩:=by
 repeat (first | with_reducible refine wpAny_loadPart_at hC ?_ | with_reducible refine wpAny_madeBy_exc hC ?_ | wp_step)
 refine codeAny_call_builtin_code (Code.quiet_builtin _ F.quiet) (wpAny_check_new_subT F T hC ?_)
 refine codeAny_exc_new_subT F T hC ?_ hrest
 show wpAny _ _ _ _ _ _
 have hC₁:=Heap.get?_push_of_some {cls:= .ref C,data:= .fields #[.ref h.objs.size, .none, .none, .none, .bool false, .none]}
  (Heap.get?_push_of_some {cls:= .type "tuple",data:= .seq rest.toArray} hC)
 have hfI₁:=Heap.get?_push_of_some {cls:= .ref C,data:= .fields #[.ref h.objs.size, .none, .none, .none, .bool false, .none]}
  (Heap.get?_push_of_some {cls:= .type "tuple",data:= .seq rest.toArray} hfI)
 have hn₁:((h.push {cls:= .type "tuple",data:= .seq rest.toArray}).push {cls:= .ref C,data:= .fields #[.ref h.objs.size, .none, .none, .none, .bool false, .none]}).Ns N mN:=
  let ⟨o,es,ep,e,r⟩:=hn;⟨o,es,ep,Heap.get?_push_of_some _ (Heap.get?_push_of_some _ e),r⟩
 have hget:((h.push {cls:= .type "tuple",data:= .seq rest.toArray}).push
  {cls:= .ref C,data:= .fields #[.ref h.objs.size, .none, .none, .none, .bool false, .none]}).get? (h.objs.size+1)=some
  {cls:= .ref C,data:= .fields #[.ref h.objs.size, .none, .none, .none, .bool false, .none]}:=by heap_get
 have hcC:(Value.ref C::bm).contains (.ref C)=true:=by simp
 have T₁:=T.keeps (h':=(h.push {cls:= .type "tuple",data:= .seq rest.toArray}).push {cls:= .ref C,data:= .fields #[.ref h.objs.size, .none, .none, .none, .bool false, .none]})
  fun b o e=>Heap.get?_push_of_some _ (Heap.get?_push_of_some _ e)
 unfold isInstance
 repeat (first | with_reducible refine wpAny_loadPart_at hget ?_ | (with_reducible refine wpAny_isSubtype_exc hC₁ ?_;rw[hcC]) | wp_step)
 show wpAny _ _ (typeLookup (.ref C) _) _ _ _
 refine wpAny_typeLookup_tail hC₁ hn₁ T₁ F.mroIs F.init.lookup ?_
 rw[hi]
 refine wpAny_holding (wpAny_bind ?_)
 unfold bindSpecial
 refine wpAny_bind (wpAny_typeOf (T:="function") ⟨_,hfI₁,hfc⟩ ?_)
 rw[if_pos (by decide)]
 refine wpAny_pure (wpAny_bind (wpAny_mono (hq _ (h.objs.size+1) ⟨fun b o hb=>Heap.get?_push_of_some _ (Heap.get?_push_of_some _ hb),Heap.get?_none_of_le (Nat.le_succ _),h.objs.size,hget,Heap.get?_none_of_le (Nat.le_refl _), ?_⟩) (fun r s' hr=> ?_) fun _ _ x=>x))
 ·exact Heap.get?_push_of_some _ (Heap.get?_push_at rfl rfl)
 ·obtain⟨rfl,hQ⟩:=hr
  wp_walk
  exact hQ
theorem Ir (F:ExcBaseFacts B newId initId bmB) (T:OwnTail h bmB bm) {mN:Str->Option Value}{rest:List Value}{fI:Addr}{oI:Obj}{Q:Value->Shared->Prop}
 (hC:h.get? C=some (excClassObj nm q C N bs bm hdct sn sub ab col dd k0 k1 k2 k3 k5 newId)) (hn:h.Ns N mN) (hi:mN "__init__"=some (.ref fI)) (hfI:h.get? fI=some oI) (hfc:oI.cls= .type "function")
 (hq:∀h' e,Heap.MadeExcOf h h' e (.ref C) rest->wpAny (model prog w) (A.under (.builtin "type.__call__" ⟨.ref C::rest,[]⟩)) (call (.ref fI) (.ref e::rest)) (fun r s'=>r= .none/\Q (.ref e) s') E ⟨h',g,d,t,os⟩) (hrest:rest.length<=sizeLine):
 wpAny (model prog w) A (call (.ref C) rest) Q E ⟨h,g,d,t,os⟩:=by
 have f1:=tc_lookup
 have f2:=tc_bind (.ref C)
 have hT:(⟨h,g,d,t,os⟩:Shared).TypeIs (.ref C) "type":=⟨_,hC,rfl⟩
 refine wpAny_call (codeAny_of_tree ?_)
 show wpAny _ _ (callAny (.ref C) _) _ _ _
 repeat (any_goals (first | assumption | with_reducible refine wpAny_loadPart_at hC ?_ | wp_step))
 refine⟨rfl, ?_⟩
 refine codeAny_call_builtin_at (Code.quiet_builtin _ (by decide +kernel)) entry_typeCall (wpAny_check_type_call_sub hC (Gz (hrest:=hrest) F T hC hn hi hfI hfc fun h' e hm=> ?_))
 exact hq h' e hm
theorem Bg {M:Model}{s:Shared}{env:Env}{x:Sem Value}{Q:Flow->Shared->Prop} (hbase:bm.contains (.type "BaseException")=true) (hh:A.handled=none)
 (hx:wpAny M A x (fun v s₁=>∃e od t sl,v= .ref e/\s₁.heap.get? C=some (excClassObj nm q C N bs bm hdct sn sub ab col dd k0 k1 k2 k3 k5 newId)/\
   s₁.heap.get? e=some {cls:= .ref C,dict:=od,data:= .fields #[.ref t, .none, .none, .none, .bool false, .none],slots:=sl}/\E (.ref e) s₁) E s):
 wpAny M A (raiseStmt env (some x) none) Q E s:=by
 have hcB:(Value.ref C::bm).contains (.type "BaseException")=true:=by rw[List.contains_cons,hbase,Bool.or_true]
 unfold raiseStmt
 refine wpAny_bind (wpAny_mono hx (fun v s₁ h₁=> ?_) fun _ _ x=>x)
 obtain⟨e,od,t,sl,rfl,hC,he,hE⟩:=h₁
 obtain⟨hp,g,d,tk,os⟩:=s₁
 repeat (first | with_reducible refine wpAny_loadPart_at he ?_ | with_reducible refine wpAny_loadPart_at hC ?_ | (with_reducible refine wpAny_isSubtype_exc hC ?_;rw[hcB]) | wp_step)
 exact wpAny_raiseNew_none hh hE
end
end L2
namespace L2
open PySem PySem.Spec PyProof.Rows PySem.W
def pR (C:Addr) (od:Option Addr) (t:Addr) (sl:Array (Option Value)):Obj:={cls:= .ref C,dict:=od,data:= .fields #[.ref t, .none, .none, .none, .bool false, .none],slots:=sl}
section
variable {prog:Program}{w:World}{A:Around}{E:Value->Shared->Prop}{h:Heap}{g:Array GenState}{d:Drawn}{t:Nat}{os:OsState}{K:PySem.W.Frag}
variable {nm q:Str}{C N x:Addr}{bs bm:List Value}{hdct:Bool}{sn:List Str}{sub:List Value}{ab:Bool}{col:Option Bool}{dd:Option Addr}{k0 k1 k2 k3 k5:Option Value}
theorem Uk {e t0:Addr}{od:Option Addr}{sl:Array (Option Value)}{v:Value}{Q:Value->Shared->Prop} (T:OwnTail h [.type "ValueError", .type "Exception", .type "BaseException", .type "object"] bm)
 (hC:h.get? C=some (excClassObj nm q C N bs bm hdct sn sub ab col dd k0 k1 k2 k3 k5 "ValueError.__new__")) (he:h.get? e=some (pR C od t0 sl))
 (hq:∀h' t1,(∀b o,b≠e->h.get? b=some o->h'.get? b=some o)->h'.get? e=some (pR C od t1 sl)->Q .none ⟨h',g,d,t,os⟩):
 wpAny (model prog w) A (call (.builtin "ValueError.__init__") [.ref e,v]) Q E ⟨h,g,d,t,os⟩:=by
 have F:=PySem.F.excBase_ValueError
 refine wpAny_call (codeAny_call_builtin F.init.plain F.initEntry (wpAny_check_init_subT F T hC he rfl ?_))
 unfold pR at he
 wp_walk
 refine hq _ h.objs.size (fun b o nb hb=> ?_) ?_
 ·rw[Heap.get?_update_other _ _ (Ne.symm nb)]
  exact Heap.get?_push_of_some _ hb
 ·rw[Heap.get?_update_self _ (Heap.get?_push_of_some _ he) rfl]
  rfl
theorem NT {self:Value}{what:Str}{bmB:List Value} (T:OwnTail h bmB bm) (hp:refuseLoop self what bmB=pure ()):refuseLoop self what bm=pure ():=by
 induction T with
 | base=>exact hp
 | own _ _ _ _ ih=>rw[refuseLoop_ref];exact ih
theorem Ul {M:Model}{o:Obj}{nameV v:Value}{Q:Unit->Shared->Prop} (T:OwnTail h [.type "ValueError", .type "Exception", .type "BaseException", .type "object"] bm)
 (hC:h.get? C=some (excClassObj nm q C N bs bm true sn sub ab col dd k0 k1 k2 k3 k5 "ValueError.__new__")) (hx:h.get? x=some o) (hc:o.cls= .ref C) (hq:Q () ⟨h,g,d,t,os⟩):
 wpAny M A (checkBuiltinCall "object.__setattr__" ⟨[.ref x,nameV,v],[]⟩) Q E ⟨h,g,d,t,os⟩:=by
 have SF:=PySem.F.store_ValueError
 have hcB:(Value.ref C::bm).contains (.type "object")=true:=by rw[List.contains_cons,T.hasType SF.hasOwner,Bool.or_true]
 have ha:=SF.args (.ref x) nameV v
 simp only[checkBuiltinCall,SF.kind,SF.split]
 refine wpAny_bind ?_
 ·unfold isInstance
  repeat (first | (with_reducible refine wpAny_loadPart_at hx ?_;rw[hc]) | (with_reducible refine wpAny_isSubtype_exc hC ?_;rw[hcB]) | wp_step)
  exact hq
theorem Ld {e t0:Addr}{tk:Tok}{sl:Array (Option Value)}{name:Str}{v:Value}{Q:Fin->Shared->Prop} (X:K.In h) (T:OwnTail h [.type "ValueError", .type "Exception", .type "BaseException", .type "object"] bm)
 (hC:h.get? C=some (excClassObj nm q C N bs bm true sn sub ab col dd k0 k1 k2 k3 k5 "ValueError.__new__")) (na:findIn K (.ref C) name=some none) (hx:h.get? e=some (pR C none t0 sl))
 (hq:∀h' dx tk,h.get? dx=none->dx≠e->(∀b o,b≠e->h.get? b=some o->h'.get? b=some o)->h'.get? e=some (pR C (some dx) t0 sl)->h'.Ns1 dx (fun y=>if y=name then some v else none)->Q (.done (.ret .none)) ⟨h',g,d,tk,os⟩):
 wpAny (model prog w) A (Builtin.«object.__setattr__» ⟨[.ref e, .str name tk,v],[]⟩) Q E ⟨h,g,d,t,os⟩:=by
 have hpass:refuseLoop (.ref e) "__setattr__" bm=pure ():=NT T (PySem.F.store_ValueError.passes _)
 have LN:=looks_findIn (M:=model prog w) X na
 obtain⟨o,ho⟩:∃o,o=pR C none t0 sl:=⟨_,rfl⟩
 rw[<-ho] at hx
 have hc:o.cls= .ref C:=by rw[ho];rfl
 have hdn:o.dict=none:=by rw[ho];rfl
 have hnc:∀c,o.data≠ .cls c:=fun c z=>by rw[ho] at z;cases z
 unfold Builtin.«object.__setattr__»
 repeat (first | rw[refuse_eq] | (rw[refuseLoop_ref,hpass]) | (with_reducible refine wpAny_loadPart_at hx ?_;rw[hc]) | with_reducible refine wpAny_mroOf_exc hC ?_ | with_reducible refine LN.at ?_ | wp_step)
 rw[hdn,if_neg (by simp[typeHasDict])]
 split
 ·rename_i hcd
  cases hcd
 split
 ·rename_i c hcd
  exact absurd hcd (hnc c)
 have hx₁:(h.push {cls:= .type "dict",data:= .dict #[]}).get? e=some o:=Heap.get?_push_of_some _ hx
 have hxs:e≠h.objs.size:=Nat.ne_of_lt (Heap.lt_size hx)
 refine wpAny_bind (wpAny_alloc' ?_)
 refine wpAny_bind (wpAny_update' hx₁ ?_)
 refine wpAny_pure ?_
 have hgd:((h.push {cls:= .type "dict",data:= .dict #[]}).update e fun o=>{cls:=o.cls,dict:=some h.objs.size,data:=o.data,slots:=o.slots}).get? h.objs.size
  =some {cls:= .type "dict",data:= .dict #[]}:=
  (Heap.get?_update_ne _ _ _ _ hxs.symm).trans (Heap.get?_push_at rfl rfl)
 have hnd:((h.push {cls:= .type "dict",data:= .dict #[]}).update e fun o=>{cls:=o.cls,dict:=some h.objs.size,data:=o.data,slots:=o.slots}).Ns h.objs.size (fun _=>none):=
  ⟨_, #[],_,hgd,rfl,fun e he=>absurd he (by simp),fun _=>rfl⟩
 show wpAny _ _ (Builtin.ObjectAttr.storeInDict h.objs.size (.str name tk) name v) _ _ _
 unfold Builtin.ObjectAttr.storeInDict Builtin.ObjectAttr.newKeyGuard
 refine wpAny_bind (wpAny_pure (wpAny_bind (wpAny_nsSet1 (Heap.Ns1.of_empty hnd) fun h' hn' hs=> ?_)))
 obtain⟨oD,esD,epD,hoD,hdD,hcD⟩:=hn'.count (Within.cons name v Within.nil)
 refine wpAny_bind (wpAny_lookBehind hoD (by rw[hdD];exact pastItsLine_dict (Nat.le_trans hcD (by rw[List.length_cons,List.length_nil,sizeLine_eq];omega))) ?_)
 wp_walk
 refine hq h' h.objs.size _ (Heap.get?_none_of_le (Nat.le_refl _)) hxs.symm (fun b ob nb hb=> ?_) ?_ hn'
 ·exact(hs.2 b (Nat.ne_of_lt (Heap.lt_size hb))).trans ((Heap.get?_update_ne _ _ _ _ nb).trans (Heap.get?_push_of_some _ hb))
 ·have:=(hs.2 e hxs).trans (Heap.get?_update_self (fun o=>{cls:=o.cls,dict:=some h.objs.size,data:=o.data,slots:=o.slots}) hx₁ (by rw[ho];rfl))
  rw[this,ho];rfl
theorem Wq {e t0:Addr}{sl:Array (Option Value)}{name:Str}{v:Value}{Q:Unit->Shared->Prop} (X:K.In h) (T:OwnTail h [.type "ValueError", .type "Exception", .type "BaseException", .type "object"] bm)
 (hC:h.get? C=some (excClassObj nm q C N bs bm true sn sub ab col dd k0 k1 k2 k3 k5 "ValueError.__new__")) (sa:findIn K (.ref C) "__setattr__"=some (some (.builtin "object.__setattr__"))) (na:findIn K (.ref C) name=some none)
 (he:h.get? e=some (pR C none t0 sl))
 (hq:∀h' dx tk,h.get? dx=none->dx≠e->(∀b o,b≠e->h.get? b=some o->h'.get? b=some o)->h'.get? e=some (pR C (some dx) t0 sl)->h'.Ns1 dx (fun y=>if y=name then some v else none)->Q () ⟨h',g,d,tk,os⟩):
 wpAny (model prog w) A (setAttr (.ref e) name v) Q E ⟨h,g,d,t,os⟩:=by
 have SF:=PySem.F.store_ValueError
 refine set_plain (s:=⟨h,g,d,t,os⟩) (ox:=pR C none t0 sl) (od:=none) X ⟨he,rfl,rfl,trivial⟩ sa ?_
 exact codeAny_call_builtin SF.slot.plain SF.entry (Ul T hC he rfl (Ld X T hC na he fun h' dx tk a1 a2 a3 a4 a5=>hq h' dx tk a1 a2 a3 a4 a5))
structure ExN (K:PySem.W.Frag) (C:Addr) (f:Str):Prop where
 na:PySem.W.findIn K (.ref C) f=some none
 hd:PySem.W.hasDictIn K C=true
theorem Qk {a dx:Addr}{o:Obj}{m:Str->Option Value}{f:Str}{v:Value}{tk:Tok}{Q:Fin->Shared->Prop} (X:K.In h) (n:ExN K C f) (hx:h.get? a=some o) (hc:o.cls= .ref C) (hd:o.dict=some dx) {vs:Array Value} (hdt:o.data= .fields vs) (hns:h.Ns dx m) (hm:m f=some v) (hq:Q (.done (.ret v)) ⟨h,g,d,t,os⟩):
 wpAny (model prog w) A (Builtin.«object.__getattribute__» ⟨[.ref a, .str f tk],[]⟩) Q E ⟨h,g,d,t,os⟩:=by
 have LN:=looks_findIn (M:=model prog w) X n.na
 obtain⟨oc,od,odt,osl⟩:=o
 simp only at hc hd hdt
 subst hc hd hdt
 obtain⟨cd,hcd,hhd⟩:=any_some n.hd
 have LD:=looks_clsIn (M:=model prog w) X hcd
 repeat (any_goals (first | assumption | with_reducible refine wpAny_loadPart_at hx ?_ | with_reducible refine LN.at ?_ | (with_reducible refine LD.at ?_;rw[hhd]) | (with_reducible refine wpAny_nsGet hns ?_;rw[hm]) | wp_step))
theorem Um {a dx:Addr}{o:Obj}{m:Str->Option Value}{f:Str}{v:Value}{tk:Tok}{R:Result->Shared->Prop} (X:K.In h) (k:ExK K C) (n:ExN K C f) (hx:h.get? a=some o) (hc:o.cls= .ref C) (hd:o.dict=some dx) {vs:Array Value} (hdt:o.data= .fields vs) (hns:h.Ns dx m) (hm:m f=some v) (hq:R (.ok (.ret v)) ⟨h,g,d,t,os⟩):
 codeAny (model prog w) A (.call (.builtin "BaseException.__getattribute__") ⟨[.ref a, .str f tk],[]⟩) R ⟨h,g,d,t,os⟩:=
 codeAny_call_builtin (by decide +kernel) PySem.F.entry_bexc_ga (Kd X k hx hc (Qk X n hx hc hd hdt hns hm hq))
theorem Ws {a dx:Addr}{o:Obj}{m:Str->Option Value}{f:Str}{v:Value}{expr:Bool}{Q:Value->Shared->Prop} (X:K.In h) (k:ExK K C) (n:ExN K C f) (hx:h.get? a=some o) (hc:o.cls= .ref C) (hd:o.dict=some dx) {vs:Array Value} (hdt:o.data= .fields vs) (hns:h.Ns dx m) (hm:m f=some v) (hv:handedIn v=true) (hq:Q v ⟨h,g,d,t+1,os⟩):
 wpAny (model prog w) A (getAttr (.ref a) f expr) Q E ⟨h,g,d,t,os⟩:=by
 have hx2:(Value.builtin "BaseException.__getattribute__"==Value.builtin "object.__getattribute__")=false:=by decide +kernel
 have hx1:(onTheHeap (Value.ref C)&&Value.builtin "BaseException.__getattribute__"==Value.builtin "object.__getattribute__")=false:=by rw[hx2];rfl
 have LG:=looks_findIn (M:=model prog w) X k.ga
 have LH:=looks_findIn (M:=model prog w) X k.gh
 have hp:plainId "BaseException.__getattribute__"=true:=by decide +kernel
 have hen:(expr&&onTheHeap (Value.builtin "BaseException.__getattribute__"))=false:=Bool.and_false _
 have f3:bindSpecial (.builtin "BaseException.__getattribute__") (.ref a)=pure (.builtin "BaseException.__getattribute__",[.ref a]):=by
  have hop:withoutEnding? "BaseException.__getattribute__" "#opaque"=none:=by decide +kernel
  have hdat:withoutEnding? "BaseException.__getattribute__" "#data"=none:=by decide +kernel
  have hk:builtinKind "BaseException.__getattribute__"=some .slot:=by decide +kernel
  simp only[bindSpecial,typeOf,builtinType,hop,hdat,hk];rfl
 unfold getAttr
 repeat (any_goals (first | assumption | (with_reducible refine wpAny_loadPart_at hx ?_;rw[hc]) | with_reducible refine LG.at ?_ | with_reducible refine LH.at ?_ | wp_step))
 refine Um X k n hx hc hd hdt hns hm ?_
 repeat (any_goals (first | assumption | wp_step))
 show wpAny _ _ (handedOut v) _ _ _
 rw[handedOut_of hv]
 exact wpAny_pure hq
end
end L2
namespace L2
open PySem PySem.Spec PyProof.Rows
def wQ (C:Addr) (od:Option Addr) (e:Addr):HO:= .ext fun h=>∃t sl,h.get? e=some (pR C od t sl)
theorem Lf {P:Program}{w:World}{H:Hp}{h:Heap}{C e t:Addr}{od:Option Addr}{sl:Array (Option Value)} (he:h.get? e=some (pR C od t sl)):d8 P w H h e (wQ C od e):=
 ⟨⟨t,sl,he⟩,⟨_,he⟩,fun _ _ ⟨t,sl,q⟩ k=>⟨t,sl,k _ q⟩⟩
structure ExI (K:PySem.W.Frag) (C fI:Addr):Prop where
 obj:∃nm q N bs bm sn sub ab col dd k0 k1 k2 k3 k5,K.lookup C=some (excClassObj nm q C N bs bm true sn sub ab col dd k0 k1 k2 k3 k5 "ValueError.__new__")/\PySem.W.nsOkIn K N=true/\PySem.W.nsIn K N "__init__"=some (some (.ref fI))/\
  PySem.W.tailIn K [.type "ValueError", .type "Exception", .type "BaseException", .type "object"] bm=true
 sa:PySem.W.findIn K (.ref C) "__setattr__"=some (some (.builtin "object.__setattr__"))
structure ExU (K:PySem.W.Frag) (M:Addr):Prop where
 sp:PySem.W.specialIn K (.ref M) "__getattribute__"=some (some (.builtin "type.__getattribute__"))
 rd:PySem.W.readsIn K M (.type "type")=true
 fc:PySem.W.findCls K (.ref M) (.type "type") "__init__"=some (.val (.builtin "ValueError.__init__"))
section
variable {X:Cx}{pins:List (Addr×Obj)}{σ:St}{H:Hp}{s:Shared}
theorem ExI.at {C fI:Addr} (cl:ExI X.K C fI) (I:Inv X pins σ H s):∃nm q N bs bm sn sub ab col dd k0 k1 k2 k3 k5,s.heap.get? C=some (excClassObj nm q C N bs bm true sn sub ab col dd k0 k1 k2 k3 k5 "ValueError.__new__")/\OwnTail s.heap [.type "ValueError", .type "Exception", .type "BaseException", .type "object"] bm:=by
 obtain⟨nm,q,N,bs,bm,sn,sub,ab,col,dd,k0,k1,k2,k3,k5,lk,_,_,tk⟩:=cl.obj
 exact⟨nm,q,N,bs,bm,sn,sub,ab,col,dd,k0,k1,k2,k3,k5,I.kIn _ _ lk,PySem.W.tail_of_in I.kIn tk⟩
def abe (K:PySem.W.Frag) (t1 t2:TE):TE:=fun σ H Q=>t1 σ H fun x H1=>t2 σ H1 fun v H2=>∃e C fI od,x= .ref e/\H2 e=some (wQ C od e)/\ExI K C fI/\Q .non H2
theorem adi {M:Addr}{x:Str}{np apos cpos:Pos}{e₁ e₂:Expr}{t1 t2:TE} (cu:ExU X.K M) (hg:Gl X x) (hm:X.mg x=some (.ref M)) (h1:PE X e₁ t1) (h2:PE X e₂ t2) (hdb:(x==("__debug__":Str))=false) (m:M2 X (.Name x np) "__init__" apos e₁ e₂ cpos):
 PE X (.Call (.Attribute (.Name x np) "__init__" apos) [e₁,e₂] [] cpos) (abe X.K t1 t2):=by
 intro pins s σ H Q I h
 have hform:methodCallForm ([e₁,e₂].length+([]:List Keyword).length) (backTo cpos (starEach [e₁,e₂] X.env)) (backToKw cpos (keywordEach [] X.env))=true:=m.few
 have hpos:methodCallPos true (.Name x np) X.env apos cpos=pure cpos:=by unfold methodCallPos;simp[m.line]
 rw[arm_eval_Call,m.base]
 refine wpAny_bind (sy I hg hm ?_ hdb)
 refine wpAny_bind (wpAny_standAt ?_)
 unfold methodCall
 rw[hform]
 refine wpAny_bind (wpAny_holding ?_)
 show wpAny _ _ (PySem.getMethod (.ref M) _ _) _ _ _
 refine PySem.W.method_cls I.kIn cu.sp (PySem.W.cls_value I.kIn cu.rd cu.fc (by decide +kernel) ?_)
 refine wpAny_bind (wpAny_of_eq hpos ?_)
 rw[m.trees]
 refine Calls.callWith_builtin rfl (Calls.evalArgs_plain (Calls.spliced_cons (thn (h1 pins _ σ H _ (I.tok _) h) fun u s1 ⟨y,H1,I1,ry,q1⟩=>Calls.spliced_cons (thn (h2 pins s1 σ H1 _ I1 q1) fun v s2 ⟨z,H2,I2,rz,e,C,fI,od,ey,ee,cl,q⟩=>Calls.spliced_nil ?_))))
 subst ey
 obtain rfl:u=Value.ref e:=ry
 obtain⟨nm,q',N,bs,bm,sn,sub,ab,col,dd,k0,k1,k2,k3,k5,hC,T⟩:=cl.at I2
 obtain⟨⟨t0,sl,he⟩,_⟩:=(show d8 X.prog X.w H2 s2.heap e (wQ C od e) from I2.hok e _ ee)
 obtain⟨hp,g,d,tk,os⟩:=s2
 refine Uk T hC he fun h' t1 kp he'=> ?_
 have I3:Inv X pins σ (upd H2 e (wQ C od e)) ⟨h',g,d,tk,os⟩:=Inv.write (s:=⟨hp,g,d,tk,os⟩) (x:=e) (e:=e) (t':=tk) I2 (by rw[ee];exact True.intro) (.inl rfl) kp ⟨_,he'⟩ (Lf he')
 have e3:upd H2 e (wQ C od e)=H2:=by
  funext z
  by_cases w:z=e
  ·rw[w,ak,ee]
  ·rw[ao w]
 rw[e3] at I3
 exact⟨.non,H2,I3,rfl,q⟩
def abf (K:PySem.W.Frag) (ta tv:TE) (f:Str):TS:=fun D σ H=>tv σ H fun y H1=>ta σ H1 fun x H2=>∃e C fI,x= .ref e/\H2 e=some (wQ C none e)/\ExI K C fI/\PySem.W.findIn K (.ref C) f=some none/\
 ∀dx,H2 dx=none->dx≠e->D.nx σ (upd (upd H2 dx (.xd [(f,y)])) e (wQ C (some dx) e))
theorem uC {H:Hp}{a b:Addr}{u v:HO} (h:a≠b):upd (upd H a u) b v=upd (upd H b v) a u:=by
 funext z
 by_cases w:z=a
 ·subst w;rw[ao h,ak,ak]
 ·by_cases w2:z=b
  ·subst w2;rw[ak,ao w,ak]
  ·rw[ao w2,ao w,ao w,ao w2]
theorem Inv.Wt {a:Addr}{o:HO}{h':Heap}{g':Array GenState}{d':Drawn}{t' t:Nat}{g:Array GenState}{d:Drawn}{h:Heap}{os:OsState}{H':Hp} (hex:X.ex=[]) (I:Inv X pins σ H ⟨h,g,d,t,os⟩) (J:Inv X pins σ H' ⟨h',g',d',t',os⟩) (hn:h.get? a=none) (hH:H' a=none)
 (new:d8 X.prog X.w (upd H' a o) h' a o):Inv X pins σ (upd H' a o) ⟨h',g',d',t',os⟩:=by
 refine J.track hH ?_ ?_ ?_ ?_ new
 ·cases z:X.s₀.heap.get? a with
  | none=>rfl
  | some u=>
    obtain⟨o',e'⟩:=I.base.there a u z (by rw[hex];simp)
    have e':h.get? a=some o':=e'
    rw[hn] at e';cases e'
 ·rintro rfl
  obtain⟨m,⟨oL,_,_,hoL,_⟩,_⟩:=I.loc
  have hoL:h.get? _=some oL:=hoL
  rw[hn] at hoL;cases hoL
 ·rintro y c ec rfl
  obtain⟨v,u,ho,_⟩:=I.cell y _ ec
  have ho:h.get? _=some u:=ho
  rw[hn] at ho;cases ho
 ·rintro p hp rfl
  have:=(I.pin p hp).1
  have this:h.get? p.1=some p.2:=this
  rw[hn] at this;cases this
theorem Zy {o value:Expr}{f:Str}{pos pos':Pos}{ta tv:TE} (hex:X.ex=[]) (ha:PE X o ta) (hv:PE X value tv) (hs:swapsWith value (some (.Attribute o f pos')) pos.line X.env=pure false):PS X (.Assign [.Attribute o f pos'] value pos) (abf X.K ta tv f):=by
 intro pins s σ H D I h
 refine plainObj_wpAny_Assign_Attribute (thn (hv pins s σ H _ I h) fun u s1 ⟨y,H1,I1,ry,q⟩=>thn (ha pins s1 σ H1 _ I1 q) fun ov s2 ⟨x,H2,I2,rx,e,C,fI,ex,ee,cl,nf,q2⟩=> ?_) hs
 subst ex
 obtain rfl:ov=Value.ref e:=rx
 obtain⟨nm,q',N,bs,bm,sn,sub,ab,col,dd,k0,k1,k2,k3,k5,hC,T⟩:=cl.at I2
 obtain⟨⟨t0,sl,he⟩,_⟩:=(show d8 X.prog X.w H2 s2.heap e (wQ C none e) from I2.hok e _ ee)
 have hKI:=I2.kIn
 obtain⟨hp,g,d,tk,os⟩:=s2
 refine Wq hKI T hC cl.sa nf he fun h' dx tk' dn ne kp he' hns=> ?_
 have hH:H2 dx=none:=by
  cases z:H2 dx with
  | none=>rfl
  | some v=>
    obtain⟨o,ho⟩:=(I2.hok dx v z).some
    rw[dn] at ho;cases ho
 have I3:Inv X pins σ (upd H2 e (wQ C (some dx) e)) ⟨h',g,d,tk',os⟩:=Inv.write (s:=⟨hp,g,d,tk,os⟩) (x:=e) (e:=e) (t':=tk') I2 (by rw[ee];exact True.intro) (.inl rfl) kp ⟨_,he'⟩ (Lf he')
 have I4:=Inv.Wt (o:= .xd [(f,y)]) hex I2 I3 dn (by rw[ao ne];exact hH) ⟨_,hns,fun z=>by
  by_cases w:z=f
  ·rw[w,if_pos rfl]
   show wN (List.lookup f [(f,y)]) _
   rw[List.lookup_cons,beq_self_eq_true];exact ry
  ·rw[if_neg w]
   show wN (List.lookup z [(f,y)]) _
   rw[List.lookup_cons,beq_eq_false_iff_ne.mpr w];exact True.intro⟩
 rw[uC (Ne.symm ne)] at I4
 exact⟨σ,_,I4,q2 dx hH ne⟩
end
structure Wu (P:Program) (w:World) (outer:List Env) (H:Hp) (s:Shared) (a:Addr) (cls:Value) (d:Option Addr) (H':Hp) (s':Shared):Prop where
 os:s'.os=s.os
 bare:AllBare s'.gens
 un:Un (frs outer) [] H H' s.heap s'.heap
 hok:HOk P w H' s'.heap
 free:H' a=none
 fly:∃B:Heap,zJ B outer a cls d .none s'.heap/\Holds (frs outer) H' s.heap s'.heap B
def CXd (P:Program) (w:World):CXT:=fun outer H s E e s'=>∃a cls d H',e= .ref a/\Wu P w outer H s a cls d H' s'/\E cls d H'
section
variable {X:Cx}{pins:List (Addr×Obj)}{σ:St}{H H':Hp}{s s':Shared}{a:Addr}{cls:Value}{d:Option Addr}
theorem Wu.land (F:Wu X.prog X.w X.stack H s a cls d H' s') (I:Inv X pins σ H s) {B h2:Heap} (kc:Holds (frs X.stack) H' s.heap s'.heap B) (st:B.StaysIn h2) (up:s'.heap.UpToSlots h2):Inv X pins σ H' {s' with heap:=h2}:=
 I.landed F.os F.bare F.un F.hok kc st up
end
section
variable {P:Program}{w:World}{K:PySem.W.Frag}{mg:Str->Option Value}{base:Heap}{N:List Str}{qual:Str}{scope:Scope}{f:Addr}{cd:Value}{A:Around}{outer:List Env}{s₀:Shared}{H₀:Hp}{E:XK}
theorem R9:Passes (CXd P w) (kY (CXd P w) P w K mg base N qual scope f cd A outer s₀ H₀ E) E:=by
 intro pins σ H s e s' I h
 obtain⟨a,cls,d,H',rfl,F,hE⟩:=h
 obtain⟨B,fl,kc⟩:=F.fly
 refine Uj (L:=(kY (CXd P w) P w K mg base N qual scope f cd A outer s₀ H₀ E).env.locals) I.ok.frames rfl fl fun h2 fl2 up=> ?_
 have J:=F.land I kc fl2.stays up
 exact⟨a,cls,d,H',rfl,⟨J.os,J.bare,J.base,J.hok,F.free,B,fl2,Kc rfl rfl rfl I (M8 (X:=(kY (CXd P w) P w K mg base N qual scope f cd A outer s₀ H₀ E)) F.un F.hok fl2.stays kc) J.free⟩,hE⟩
end
section
variable {prog:Program}{w:World}{A:Around}{E:Value->Shared->Prop}{s:Shared}{env:Env}
variable {nm q:Str}{C N:Addr}{bs bm bmB:List Value}{hdct:Bool}{sn:List Str}{sub:List Value}{ab:Bool}{col:Option Bool}{dd:Option Addr}{k0 k1 k2 k3 k5:Option Value}{B newId initId:String}
theorem Ff (F:ExcBaseFacts B newId initId bmB) {mN:Str->Option Value}{x:Str}{np cpos pos:Pos}{args:List Expr}{fI:Addr}{oI:Obj}{Q:Flow->Shared->Prop}
 (hbase:bm.contains (.type "BaseException")=true) (hh:A.handled=none) (hplain:(backTo cpos (starEach args env)).any (·.1)=false) (hi:mN "__init__"=some (.ref fI)) (hfc:oI.cls= .type "function")
 (h:wpAny (model prog w) A (eval (.Name x np) env) (fun f s₁=>f= .ref C/\wpAny (model prog w) A (evalArgs (.ref C) true (backTo cpos (starEach args env)) [])
   (fun a s₂=>a.kw=[]/\a.pos.length<=sizeLine/\s₂.heap.get? C=some (excClassObj nm q C N bs bm hdct sn sub ab col dd k0 k1 k2 k3 k5 newId)/\s₂.heap.Ns N mN/\OwnTail s₂.heap bmB bm/\s₂.heap.get? fI=some oI/\
     ∀h' e,Heap.MadeExcOf s₂.heap h' e (.ref C) a.pos->wpAny (model prog w) (A.under (.builtin "type.__call__" ⟨.ref C::a.pos,[]⟩)) (call (.ref fI) (.ref e::a.pos)) (fun r s'=>r= .none/\s'.heap.get? C=some (excClassObj nm q C N bs bm hdct sn sub ab col dd k0 k1 k2 k3 k5 newId)/\
      ∃od t sl,s'.heap.get? e=some (pR C od t sl)/\E (.ref e) s') E {s₂ with heap:=h'}) E s₁) E s):
 wpAny (model prog w) A (exec (.Raise (some (.Call (.Name x np) args [] cpos)) none pos) env) Q E s:=by
 rw[arm_exec_Raise]
 first
  | refine wpAny_bind (wpAny_standAt (Bg (C:=C) (nm:=nm) (q:=q) (N:=N) (bs:=bs) (bm:=bm) (hdct:=hdct) (sn:=sn) (sub:=sub) (ab:=ab) (col:=col) (dd:=dd) (k0:=k0) (k1:=k1) (k2:=k2) (k3:=k3) (k5:=k5) (newId:=newId) hbase hh (wpAny_bind (wpAny_mono (wpAny_Call_ofName (wpAny_mono h (fun f s₁ h₁=> ?_) fun _ _ x=>x)) (fun v s₃ h₃=>wpAny_bind (wpAny_standAt (wpAny_pure h₃))) fun _ _ x=>x))))
  | (simp only[evalOpt,Option.map];refine wpAny_bind (wpAny_standAt (Bg (C:=C) (nm:=nm) (q:=q) (N:=N) (bs:=bs) (bm:=bm) (hdct:=hdct) (sn:=sn) (sub:=sub) (ab:=ab) (col:=col) (dd:=dd) (k0:=k0) (k1:=k1) (k2:=k2) (k3:=k3) (k5:=k5) (newId:=newId) hbase hh (wpAny_bind (wpAny_mono (wpAny_Call_ofName (wpAny_mono h (fun f s₁ h₁=> ?_) fun _ _ x=>x)) (fun v s₃ h₃=>wpAny_bind (wpAny_standAt (wpAny_pure h₃))) fun _ _ x=>x)))))
  | (refine wpAny_bind (wpAny_standAt (Bg (C:=C) (nm:=nm) (q:=q) (N:=N) (bs:=bs) (bm:=bm) (hdct:=hdct) (sn:=sn) (sub:=sub) (ab:=ab) (col:=col) (dd:=dd) (k0:=k0) (k1:=k1) (k2:=k2) (k3:=k3) (k5:=k5) (newId:=newId) hbase hh ?_));refine wpAny_bind (wpAny_mono (wpAny_Call_ofName (wpAny_mono h (fun f s₁ h₁=> ?_) fun _ _ x=>x)) (fun v s₃ h₃=>wpAny_bind (wpAny_standAt (wpAny_pure h₃))) fun _ _ x=>x))
 obtain⟨rfl,h₁⟩:=h₁
 unfold callWith
 refine wpAny_bind (wpAny_holding (wpAny_mono h₁ (fun a s₂ h₂=>wpAny_bind (wpAny_standAt ?_)) fun _ _ x=>x))
 obtain⟨apos,akw⟩:=a
 obtain⟨hkw,hlen,hC,hn,T,hfI,h₂⟩:=h₂
 obtain rfl:akw=[]:=hkw
 obtain⟨hp,g,d,tk,os⟩:=s₂
 simp only[hplain]
 refine wpAny_bind (wpAny_keeperOf_exc hC ?_)
 refine wpAny_bind (Ir (hrest:=hlen) F T hC hn hi hfI hfc fun h' e hm=>wpAny_mono (h₂ h' e hm) (fun r s' hr=> ?_) fun _ _ x=>x)
 obtain⟨rfl,hC',od,t,sl,he,hE⟩:=hr
 refine⟨rfl,wpAny_bind (wpAny_holding (wpAny_point (wpAny_pure ?_)))⟩
 exact⟨e,od,t,sl,rfl,hC',he,hE⟩
end
theorem Ql {K:PySem.W.Frag}{h:Heap}{N:Addr}{mg:Str->Option Value}{n:Str}{v:Value} (X:K.In h) (G:h.Ns N mg) (e:PySem.W.nsIn K N n=some (some v)):mg n=some v:=by
 obtain⟨o,es,ep,ho,hd,_,hf⟩:=G
 unfold PySem.W.nsIn at e
 split at e
 ·rename_i c d es' n' sl q
  have:=X _ _ q
  rw[ho] at this
  cases this
  cases hd
  split at e
  ·rename_i e0 he
   cases e
   rw[<-hf]
   unfold nsFind findBy
   rw[<-Array.find?_toList,he]
   rfl
  ·split at e<;>cases e
 ·cases e
section
variable {P:Program}{w:World}{K:PySem.W.Frag}{mg:Str->Option Value}{base:Heap}{N:List Str}{qual:Str}{scope:Scope}{f:Addr}{cd:Value}{A:Around}{outer:List Env}{s₀:Shared}{H₀:Hp}{E:XK}
def Sg (C:Addr) (sp:Sp) (E:XK) (t:TA):TS:=fun _ σ H=>t σ H fun vs H1=>vs.length<=sizeLine/\∀e,H1 e=none->
 sp (.ref e::vs) (upd H1 e (wQ C none e)) (fun v H2=>v= .non/\∃dx H3,H2=upd H3 e (wQ C (some dx) e)/\H3 e=none/\E (.ref C) (some dx) H3) (fun _ _ _=>False)
theorem Uo {k:Nat}{x:Str}{np cpos pos:Pos}{e₀:Expr}{es:List Expr}{t:TA}{C fI:Addr}{fd:FuncData}{ps:List Str}{sp:Sp} (cl:ExI K C fI) (F:aZ P w K mg base CX0 k fI fd ps sp) (hr:jV (k+1) (kY (CXd P w) P w K mg base N qual scope f cd A outer s₀ H₀ E).A) (hfn:PySem.W.isFn K (.ref fI)=true) (hb:Binds K fd ps [])
 (hg:Gl (kY (CXd P w) P w K mg base N qual scope f cd A outer s₀ H₀ E) x) (hm:mg x=some (.ref C))
 (ha:PA (kY (CXd P w) P w K mg base N qual scope f cd A outer s₀ H₀ E) (e₀::es) t) (hdb:(x==("__debug__":Str))=false:=by decide)
 (he:starEach (e₀::es) (kY (CXd P w) P w K mg base N qual scope f cd A outer s₀ H₀ E).env=(false,eval e₀ (kY (CXd P w) P w K mg base N qual scope f cd A outer s₀ H₀ E).env)::starEach es (kY (CXd P w) P w K mg base N qual scope f cd A outer s₀ H₀ E).env:=by rfl)
 (hpl:(backTo cpos (starEach es (kY (CXd P w) P w K mg base N qual scope f cd A outer s₀ H₀ E).env)).any (·.1)=false:=by rfl):
 PS (kY (CXd P w) P w K mg base N qual scope f cd A outer s₀ H₀ E) (.Raise (some (.Call (.Name x np) (e₀::es) [] cpos)) none pos) (Sg C sp E t):=by
 intro pins s σ H D I h
 obtain⟨nm,q,N',bs,bm,sn,sub,ab,col,dd,k0,k1,k2,k3,k5,lk,nk,ik,tk⟩:=cl.obj
 have XB:K.In base:=I.mod.kin
 have hN:base.Ns N' (base.nsMap N'):= .of_isNs (PySem.W.isNs_of_in XB nk)
 have T:OwnTail base [.type "ValueError", .type "Exception", .type "BaseException", .type "object"] bm:=PySem.W.tail_of_in XB tk
 obtain⟨oI,hoI,hfc⟩:∃oI,base.get? fI=some oI/\oI.cls= .type "function":=by
  obtain⟨o,ho,hc⟩:=Option.map_eq_some_iff.mp (show(K.lookup fI).map (·.cls)=some (.type "function") from beq_iff_eq.mp hfn)
  exact⟨o,XB _ _ ho,hc⟩
 have hi:base.nsMap N' "__init__"=some (.ref fI):=Ql XB hN ik
 refine Ff (nm:=nm) (q:=q) (N:=N') (bs:=bs) (bm:=bm) (hdct:=true) (sn:=sn) (sub:=sub) (ab:=ab) (col:=col) (dd:=dd) (k0:=k0) (k1:=k1) (k2:=k2) (k3:=k3) (k5:=k5) (oI:=oI) PySem.F.excBase_ValueError (mN:=base.nsMap N') (T.hasType PySem.F.excBase_ValueError.hasBase) (I.ok.hd rfl)
  (by rw[he];show(false||(backTo cpos (starEach es _)).any (·.1))=false;rw[hpl];rfl) hi hfc (sy I hg hm ⟨rfl, ?_⟩ hdb)
 have ha':=ha cpos pins s σ H _ I h
 rw[he] at ha' ⊢
 refine Calls.evalArgs_plain (thn ha' fun us s2 ⟨vs,H1,I1,r,hz,hE⟩=>⟨rfl,by rw[<-r.length];exact hz,I1.bk _ _ (XB _ _ lk),hN.keeps I1.bk,T.keeps I1.bk,I1.bk _ _ hoI,fun h' e hx=> ?_⟩)
 have fre:H1 e=none:=by
  cases z:H1 e with
  | none=>rfl
  | some v=>
    obtain⟨o,ho⟩:=(I1.hok e v z).some
    rw[hx.new] at ho;cases ho
 obtain⟨t0,het,_⟩:=hx.there
 obtain⟨hp,g,d,tk',os⟩:=s2
 have I2:Inv (kY (CXd P w) P w K mg base N qual scope f cd A outer s₀ H₀ E) pins σ H1 ⟨h',g,d,tk',os⟩:=Inv.un (s:=⟨hp,g,d,tk',os⟩) (t':=tk') I1 (Un.kept hx.keeps) (I1.hok.kept hx.keeps)
 have I3:=Inv.Wt (o:=wQ C none e) rfl I1 I2 hx.new fre (Lf het)
 have hq:=hE e fre
 have r2:Vals (V.ref e::vs) (Value.ref e::us):= .cons rfl r
 have hl:(Value.ref e::us++[]).length=ps.length:=by
  have e':=r2.length
  rw[F.len _ _ _ _ hq] at e'
  rw[List.append_nil];exact e'.symm
 have hbt:=hb _ (Value.ref e::us) I3.kIn hl
 rw[List.append_nil] at hbt
 refine wpAny_call (codeAny_mono (F.run _ (kY (CXd P w) P w K mg base N qual scope f cd A outer s₀ H₀ E).stack _ _ ⟨Value.ref e::us,[]⟩ (Value.ref e::us) _ _ _ (hr.make C us []) (I3.env0.make C us []) hbt r2 hq) fun rr s' hq'=> ?_)
 cases rr with
 | error e=>exact hq'.elim
 | ok fl=>
   cases fl with
   | next=>exact hq'.elim
   | brk=>exact hq'.elim
   | cont=>exact hq'.elim
   | ret u=>
     obtain⟨v,H2,os',bare',un',hok',rv,ev,dx,H3,eH,e3,q3⟩:=id hq'
     obtain⟨_,_,I4,_⟩:=I3.after hq'
     subst ev
     subst eH
     obtain rfl:u=Value.none:=rv
     obtain⟨⟨t1,sl1,he1⟩,_⟩:=(show d8 P w _ s'.heap e (wQ C (some dx) e) from hok' e _ ak)
     refine⟨rfl,I4.bk _ _ (XB _ _ lk),some dx,t1,sl1,he1, ?_⟩
     have hne:∀{b o},hp.get? b=some o->b≠e:=fun q z=>by rw[z] at q;have:=hx.new;rw[show(⟨hp,g,d,tk',os⟩:Shared).heap.get? e=hp.get? e from rfl] at this;rw[this] at q;cases q
     have un:Un (frs (kY (CXd P w) P w K mg base N qual scope f cd A outer s₀ H₀ E).stack) [] H1 H3 hp s'.heap:=
      {keep:=fun b o q n hb hx'=>un'.keep b o (hx.keeps b o q) (by rw[ao (hne q)];exact n) hb hx'
       slot:=fun b o q n hb hx'=>un'.slot b o (hx.keeps b o q) (by rw[ao (hne q)];exact n) hb hx'
       free:=fun b o q n hx'=>by
        have:=un'.free b o (hx.keeps b o q) (by rw[ao (hne q)];exact n) hx'
        rwa [ao (hne q)] at this
       there:=fun b o q hx'=>un'.there b o (hx.keeps b o q) hx'
       tups:=fun b xs q=>by
        have nb:b≠e:=fun z=>by rw[z,fre] at q;cases q
        have:=un'.tups b xs (by rw[ao nb];exact q)
        rwa [ao nb] at this
       frzs:=fun b o u q=>by
        have nb:b≠e:=fun z=>by rw[z,fre] at q;cases q
        have:=un'.frzs b o u (by rw[ao nb];exact q)
        rwa [ao nb] at this
       tbls:=fun b ps q=>by
        have nb:b≠e:=fun z=>by rw[z,fre] at q;cases q
        obtain⟨m,this⟩:=un'.tbls b ps (by rw[ao nb];exact q)
        exact⟨m,by rwa [ao nb] at this⟩}
     have hok:HOk P w H3 s'.heap:=fun b u q=>by
      have nb:b≠e:=fun z=>by rw[z,e3] at q;cases q
      refine(hok' b u (by rw[ao nb];exact q)).stay (fun c v _ r=>r) (fun c r=> ?_) fun c xs r=> ?_
      ·by_cases z:c=e
       ·rw[z,ak] at r;cases r
       ·rwa [ao z] at r
      ·by_cases z:c=e
       ·rw[z,ak] at r;cases r
       ·rwa [ao z] at r
     have hin:∀env∈(kY (CXd P w) P w K mg base N qual scope f cd A outer s₀ H₀ E).stack,∀b,env.frame=some b->b∈e::frs (kY (CXd P w) P w K mg base N qual scope f cd A outer s₀ H₀ E).stack:=fun env hen b hb=>List.mem_cons_of_mem _ (List.mem_filterMap.mpr ⟨env,hen,hb⟩)
     refine Qj (base:=PySem.W.hideAll s'.heap (e::frs (kY (CXd P w) P w K mg base N qual scope f cd A outer s₀ H₀ E).stack)) (L:=(kY (CXd P w) P w K mg base N qual scope f cd A outer s₀ H₀ E).env.locals) (c:= .ref C) (d:=some dx) I4.ok.frames
      (PySem.W.funFrames_hide I4.stack hin) rfl he1 (fun b o z=>PySem.W.of_hideAll _ z) (PySem.W.hideAll_none _ (List.mem_cons_self ..)) rfl rfl ⟨rfl,rfl⟩ fun h2 fl up=> ?_
     have kc:Holds (frs (kY (CXd P w) P w K mg base N qual scope f cd A outer s₀ H₀ E).stack) H3 hp s'.heap (PySem.W.hideAll s'.heap (e::frs (kY (CXd P w) P w K mg base N qual scope f cd A outer s₀ H₀ E).stack)):=fun b o q nb hb=>by
      refine PySem.W.hideAll_get _ q fun z=> ?_
      rcases List.mem_cons.mp z with z | z
      ·rcases hb with⟨o0,z0⟩ | z0
       ·exact hne z0 z
       ·rw[z,e3] at z0;cases z0
      ·exact nb z
     have J:=I1.landed (s':=s') os' bare' un hok kc fl.stays up
     exact⟨e, .ref C,some dx,H3,rfl,⟨J.os,J.bare,J.base,J.hok,e3,_,fl,Kc rfl rfl rfl I1 (M8 (X:=kY (CXd P w) P w K mg base N qual scope f cd A outer s₀ H₀ E) un hok fl.stays kc) J.free⟩,q3⟩
end
def zK (cls:Value) (d:Option Addr) (p:Addr):HO:= .ext fun h=>∃o vs,h.get? p=some o/\o.cls=cls/\o.dict=d/\o.data= .fields vs
def abg (K:PySem.W.Frag) (C:Addr) (i:Nat) (tb:(St->XK)->TS) (th:TS):TS:=fun D σ H=>
 tb (fun σ1 cls d H1=>PySem.W.exmOne K cls (.ref C)=some true/\∀p,H1 p=none->th {nx:=fun σ2 H2=>D.nx (σ2.set i none) H2,rt:=D.rt,bk:=fun σ2 H2=>D.bk (σ2.set i none) H2,ct:=fun σ2 H2=>D.ct (σ2.set i none) H2} (σ1.set i (some (.ref p))) (upd H1 p (zK cls d p))) D σ H
section
variable {X:Cx}{x n:Str}{i:Nat}{C:Addr}{np hpos pos:Pos}{body suite:List Stmt}{b₀:Stmt}{tb:(St->XK)->TS}{th:TS}
theorem Zz (hex:X.ex=[]) (hst:X.stack=X.env::X.outer) (hfr:X.env.frame=some X.env.locals) (hN:X.N.Nodup) (hi:X.N[i]? =some n) (hl:X.env.scope.names.lookup n=some .local) (hg:Gl X x) (hm:X.mg x=some (.ref C))
 (hb:∀pn xe (E:St->XK),Rt (CXd X.prog X.w) (X.tryd pn xe) E->PSs (X.tryd pn xe) body (tb E)) (hs:∀e,PSs (X.held e) (b₀::suite) th) (hdb:(x==("__debug__":Str))=false:=by decide):
 PS X (.Try body [.ExceptHandler (some (.Name x np)) (some n) (b₀::suite) hpos] [] [] pos) (abg X.K C i tb th):=by
 intro pins s σ H D I h
 rw[arm_exec_Try]
 refine wpAny_bind (wpAny_standAt (wpAny_tryStmt_except ?_))
 refine wpAny_mono (hb pins (fun e s₁=>wpAny (model X.prog X.w) X.A (noteFrame e X.env) (fun _ s₂=>wpAny (model X.prog X.w) X.A (setFlight e none) (fun _ s₃=>wpAny (model X.prog X.w) X.A (handleBy e X.env [.ExceptHandler (some (.Name x np)) (some n) (b₀::suite) hpos]) (SP X pins D) X.xe s₃) X.xe s₂) X.xe s₁)
  _ ?_ [] s σ H D (I.tryd _) h) (fun f s1 q=> ?_) fun _ _ z=>z
 ·intro alj σ1 H1 s1 e s' I1 hx
  obtain⟨a,cls,d,H',rfl,F,hm1,hth⟩:=hx
  obtain⟨B,fl,kc⟩:=F.fly
  have hcls:(X.env.scope.kind== .class||(X.env.scope.kind== .module&&X.env.locals !=X.env.globals))=false:=by rw[I.ok.kind];rfl
  have hframes:X.A.frames=some (X.env::X.outer):=by rw[<-hst];exact I.ok.frames
  have fl':zJ B (X.env::X.outer) a cls d .none s'.heap:=by rw[<-hst];exact fl
  refine NQ hframes hfr fl' fun h4 af1 up4=> ?_
  refine R8 (s:={s' with heap:=h4}) af1 fun h5 fl5 up5=> ?_
  have J5:=(Wu.land (X:=X.tryd pins _) F I1 kc fl5.stays (up4.trans up5)).untryd
  obtain⟨oe,vs,heo,hec,_⟩:=fl5.there
  refine wpAny_handleBy_cons (codeAny_handlers_test (sy (J5.held (.ref a)) hg hm ?_ hdb)) (by intro q;cases q)
  have LT:PySem.W.Looks (model X.prog X.w) h5 (typeOf (.ref a)) cls:=by
   obtain⟨hec,_⟩:=hec
   subst hec
   exact(PySem.W.Looks.ld heo).andThen .now
  refine(PySem.W.exm_one J5.kIn LT hm1).here ?_
  refine codeAny_handlers_suite_as ?_
  refine R8 (s:={s' with heap:=h5}) fl5 fun h6 fl6 up6=> ?_
  have J6:=(Wu.land (X:=X.tryd pins _) F I1 kc fl6.stays ((up4.trans up5).trans up6)).untryd
  obtain⟨oe6,vs6,adk,⟨ajf,ajg⟩,hd6⟩:=fl6.there
  have news:s1.heap.get? a=none:=by
   cases z:s1.heap.get? a with
   | none=>rfl
   | some o=>
     exfalso
     obtain⟨o',e'⟩:=F.un.there a o z (by simp)
     by_cases hma:a∈frs X.stack
     ·obtain⟨of,q1,q2,q3⟩:=I1.frm a hma
      obtain⟨sl,e1⟩:=F.un.slot a of q1 q2 hma (by simp)
      obtain⟨sl2,e2⟩:=((up4.trans up5).trans up6) a _ e1 q3
      rw[adk] at e2;cases e2
      exact q3 _ hd6
     ·have:=kc a o' e' hma (.inl ⟨o,z⟩)
      rw[fl.new] at this;cases this
  have adl:=I1.base.there
  have T6:Inv X pins σ1 (upd H' a (zK cls d a)) {s' with heap:=h6}:=by
   refine J6.track F.free ?_ ?_ ?_ ?_ ?_
   ·cases z:X.s₀.heap.get? a with
    | none=>rfl
    | some o=>
      obtain⟨o',e'⟩:=adl a o z (by show a∉X.ex;rw[hex];simp)
      rw[news] at e';cases e'
   ·rintro rfl
    have:=I1.lt
    obtain⟨m,⟨oL,_,_,hoL,_⟩,_⟩:=I1.loc
    rw[news] at hoL;cases hoL
   ·rintro y c ec rfl
    obtain⟨v,o,ho,_⟩:=I1.cell y _ ec
    rw[news] at ho;cases ho
   ·rintro p hp rfl
    have:=(I1.pin p (List.mem_append_left _ hp)).1
    rw[news] at this;cases this
   ·exact⟨⟨oe6,vs6,adk,ajf,ajg,hd6⟩,⟨oe6,adk⟩,fun h1 h2 ⟨o,vs,q,c⟩ k=>⟨o,vs,k o q,c⟩⟩
  refine Hj (X:=X.held (.ref a)) (v:= .ref a) (T6.held (.ref a)) hN hi (.inl hl) rfl (fun s7 J7=> ?_) (.inr hl)
  refine wpAny_mono (hs (.ref a) pins s7 _ _ _ J7 (hth a F.free)) (fun f s8 q=> ?_) fun _ _ z=>False.elim z
  have fin:∀{σ2:St}{H2:Hp}{Q:Unit->Shared->Prop},Inv (X.held (.ref a)) pins σ2 H2 s8->(∀s9,Inv X pins (σ2.set i none) H2 s9->Q () s9)->wpAny (model X.prog X.w) X.A (do bindName X.env n .none;unbindBehindTheSuite X.env n hpos) Q X.xe s8:=by
   intro σ2 H2 Q J8 k
   obtain⟨m,hn,hlk⟩:=J8.loc
   refine wpAny_nameGoes_keeps hl hn hcls fun h9 v hn9 hs9=> ?_
   exact k _ ((J8.unheld I.ok).gone hN hi hl hn hlk hn9 hs9)
  cases f with
  | next=>obtain⟨σ2,H2,J8,q⟩:=q;exact fin J8 fun s9 J9=>⟨_,H2,J9,q⟩
  | brk=>obtain⟨σ2,H2,J8,q⟩:=q;exact fin J8 fun s9 J9=>⟨_,H2,J9,q⟩
  | cont=>obtain⟨σ2,H2,J8,q⟩:=q;exact fin J8 fun s9 J9=>⟨_,H2,J9,q⟩
  | ret u=>obtain⟨v,σ2,H2,J8,r,q⟩:=q;exact fin J8 fun s9 J9=>⟨v,_,H2,J9,r,q⟩
 ·cases f with
  | next=>obtain⟨σ',H',J,q⟩:=q;exact wpAny_execs_nil ⟨σ',H',J.untryd,q⟩
  | brk=>obtain⟨σ',H',J,q⟩:=q;exact⟨σ',H',J.untryd,q⟩
  | cont=>obtain⟨σ',H',J,q⟩:=q;exact⟨σ',H',J.untryd,q⟩
  | ret u=>obtain⟨v,σ',H',J,r,q⟩:=q;exact⟨v,σ',H',J.untryd,r,q⟩
theorem ZC (hex:X.ex=[]) (hst:X.stack=X.env::X.outer) (hfr:X.env.frame=some X.env.locals) (hN:X.N.Nodup) (hi:X.N[i]? =some n) (hl:X.env.scope.names.lookup n=some .local) (hg:Gl X x) (hm:X.mg x=some (.ref C))
 (hb:∀pn xe (E:St->XK),Rt (CXd X.prog X.w) (X.tryd pn xe) E->QSs (X.tryd pn xe) body (tb E)) (hs:∀e,QSs (X.held e) (b₀::suite) th) (hdb:(x==("__debug__":Str))=false):
 QS X (.Try body [.ExceptHandler (some (.Name x np)) (some n) (b₀::suite) hpos] [] [] pos) (abg X.K C i tb th):=⟨Zz hex hst hfr hN hi hl hg hm (fun pn xe E h=>(hb pn xe E h).h) (fun e=>(hs e).h) hdb⟩
end
section
variable {X:Cx}
theorem Qm:sG X (.builtin "isinstance") (fun xs H Q=>∃p C d cv c b,xs=[.ref p,cv]/\H p=some (zK (.ref C) d p)/\ExK X.K C/\ClV cv c/\PySem.W.kitOne X.K (.ref C) c=some b/\Q (.bl b) H):=by
 intro pins s σ H xs us Q I r h
 obtain⟨p,C,d,cv,c,b,rfl,hp,k,cl,e,q⟩:=h
 obtain⟨u,v,rfl,r1,r2⟩:=Vals.two r
 cases(show u=Value.ref p from r1)
 cases cl.rel r2
 obtain⟨⟨o,vs,h1,h2,_⟩,_⟩:=(show d8 X.prog X.w H s.heap p (zK (.ref C) d p) from I.hok p _ hp)
 exact PySem.W.kia_one (VM k) I.kIn ⟨o,h1,h2⟩ e (fun z=>nomatch z) fun tk=>⟨.bl b,H,I.tok tk,rfl,q⟩
theorem mG:sH X (.builtin "isinstance") (fun xs H Q=>∃p C d cv c b,xs=[.ref p,cv]/\H p=some (zK (.ref C) d p)/\ExK X.K C/\ClV cv c/\PySem.W.kitOne X.K (.ref C) c=some b/\Q (.bl b) H):=⟨Qm⟩
def af2 (K:PySem.W.Frag) (ta:TE) (f:Str):TE:=fun σ H Q=>ta σ H fun x H1=>∃p C dx fs v,x= .ref p/\H1 p=some (zK (.ref C) (some dx) p)/\H1 dx=some (.xd fs)/\ExK K C/\ExN K C f/\fs.lookup f=some v/\(∀u,RelV v u->PySem.W.handedIn u=true)/\Q v H1
theorem adm {e:Expr}{f:Str}{pos:Pos}{ta:TE} (he:PE X e ta) (hb:attributeBase e f X.env (eval e X.env)=eval e X.env):PE X (.Attribute e f pos) (af2 X.K ta f):=by
 intro pins s σ H Q I h
 refine QX hb (thn (he pins s σ H _ I h) fun u s1 ⟨x,H1,I1,rx,p,C,dx,fs,v,ex,ep,ed,k,n,l,hv,q⟩=> ?_)
 subst ex
 obtain rfl:u=Value.ref p:=rx
 obtain⟨⟨o,vs,h1,h2,h3,h4⟩,_⟩:=(show d8 X.prog X.w H1 s1.heap p (zK (.ref C) (some dx) p) from I1.hok p _ ep)
 obtain⟨mA,hns,hr⟩:=(show d8 X.prog X.w H1 s1.heap dx (.xd fs) from I1.hok dx _ ed)
 have hrf:=hr f
 rw[l] at hrf
 cases hm:mA f with
 | none=>rw[hm] at hrf;cases hrf
 | some u=>
   rw[hm] at hrf
   have hKI:=I1.kIn
   have I2:=I1.tok (s1.toks+1)
   obtain⟨hp,g,d,tk,os⟩:=s1
   exact Ws hKI k n h1 h2 h3 h4 hns.ns hm (hv u hrf) ⟨v,H1,I2,hrf,q⟩
theorem Qn {e:Expr}{f:Str}{pos:Pos}{ta:TE} (he:QE X e ta) (hb:attributeBase e f X.env (eval e X.env)=eval e X.env:=by rfl):QE X (.Attribute e f pos) (af2 X.K ta f):=⟨adm he.h hb⟩
theorem Wv {M:Addr}{x:Str}{np apos cpos:Pos}{e₁ e₂:Expr}{t1 t2:TE} (cu:ExU X.K M) (hg:Gl X x) (hm:X.mg x=some (.ref M)) (h1:QE X e₁ t1) (h2:QE X e₂ t2) (hdb:(x==("__debug__":Str))=false) (m:M2 X (.Name x np) "__init__" apos e₁ e₂ cpos):
 QE X (.Call (.Attribute (.Name x np) "__init__" apos) [e₁,e₂] [] cpos) (abe X.K t1 t2):=⟨adi cu hg hm h1.h h2.h hdb m⟩
theorem Sh {o value:Expr}{f:Str}{pos pos':Pos}{ta tv:TE} (hex:X.ex=[]) (ha:QE X o ta) (hv:QE X value tv) (hs:swapsWith value (some (.Attribute o f pos')) pos.line X.env=pure false):QS X (.Assign [.Attribute o f pos'] value pos) (abf X.K ta tv f):=⟨Zy hex ha.h hv.h hs⟩
end
section
variable {P:Program}{w:World}{K:PySem.W.Frag}{mg:Str->Option Value}{base:Heap}{N:List Str}{qual:Str}{scope:Scope}{f:Addr}{cd:Value}{A:Around}{outer:List Env}{s₀:Shared}{H₀:Hp}{E:XK}
theorem Kq {k:Nat}{x:Str}{np cpos pos:Pos}{e₀:Expr}{es:List Expr}{t:TA}{C fI:Addr}{fd:FuncData}{ps:List Str}{sp:Sp} (cl:ExI K C fI) (F:aZ P w K mg base CX0 k fI fd ps sp) (hr:jV (k+1) (kY (CXd P w) P w K mg base N qual scope f cd A outer s₀ H₀ E).A) (hfn:PySem.W.isFn K (.ref fI)=true) (hb:Binds K fd ps [])
 (hg:Gl (kY (CXd P w) P w K mg base N qual scope f cd A outer s₀ H₀ E) x) (hm:mg x=some (.ref C))
 (ha:QA (kY (CXd P w) P w K mg base N qual scope f cd A outer s₀ H₀ E) (e₀::es) t) (hdb:(x==("__debug__":Str))=false)
 (he:starEach (e₀::es) (kY (CXd P w) P w K mg base N qual scope f cd A outer s₀ H₀ E).env=(false,eval e₀ (kY (CXd P w) P w K mg base N qual scope f cd A outer s₀ H₀ E).env)::starEach es (kY (CXd P w) P w K mg base N qual scope f cd A outer s₀ H₀ E).env:=by rfl)
 (hpl:(backTo cpos (starEach es (kY (CXd P w) P w K mg base N qual scope f cd A outer s₀ H₀ E).env)).any (·.1)=false:=by rfl):
 QS (kY (CXd P w) P w K mg base N qual scope f cd A outer s₀ H₀ E) (.Raise (some (.Call (.Name x np) (e₀::es) [] cpos)) none pos) (Sg C sp E t):=⟨Uo cl F hr hfn hb hg hm ha.h hdb he hpl⟩
end
theorem Fun.okD {P:Program}{w:World}{K:PySem.W.Frag}{mg:Str->Option Value}{base:Heap}{x qual:Str}{st:Stmt}{f:Addr}{fd:FuncData}{N ps:List Str}{k:Nat}{sp:Sp} (F:Fun K x qual st f fd) (S:bU N ps (aj st)) (len:∀vs H Q E,sp vs H Q E->vs.length=ps.length)
 (hbody:∀(cdv:Value) (A:Around) (outer:List Env) (s:Shared) (H:Hp) (vs:List V) (Q:VK) (E:XK),jV k (A.deeper (envOfC qual (aj st) s.heap.objs.size f cdv))->sp vs H Q E->
   ∃t,QSs (kY (CXd P w) P w K mg base N qual (aj st) f cdv A outer s H E) (bC st) t/\t {nx:=fun _ H'=>Q .non H',rt:=Q} (start N vs) H):aZ P w K mg base (CXd P w) (k+1) f fd ps sp:=by
 obtain⟨oc,od,kV,doc,pm,an,cdv,ct,osl,rfl,lk,hcd⟩:=F.ex
 refine aaU lk hcd S len fun A outer s H vs Q E hr hsp=> ?_
 obtain⟨t,h,q⟩:=hbody cdv A outer s H vs Q E hr hsp
 exact⟨t,h.h,q⟩
section
variable {X:Cx}
theorem Ww {e:Expr}{y:Str}{k:Nat}{p p2 pos:Pos}{ta:TE} (ha:PE X e ta) (hy:y.length<=1000):PE X (.JoinedStr [.Constant (.str y) k p2, .FormattedValue e 114 none p] pos) (tFr ta):=by
 intro pins s σ H Q I h
 refine wpAny_JoinedStr ?_
 show wpAny _ _ (eval (.Constant (.str y) k p2) X.env) _ _ _
 refine thn (UL (X:=X) pins s σ H (fun v H2=>v= .str y/\H2=H) I ⟨rfl,rfl⟩) fun u2 s2 ⟨v2,H2,I2,r2,e2,e3⟩=> ?_
 subst e2 e3
 obtain⟨t2,rfl⟩:=r2
 have e1:(Str.empty++y).length=y.length:=by rw[PySem.strLen_append];show 0+_=_;omega
 refine⟨y,t2,rfl,by rw[e1,sizeLine_eq];omega, ?_⟩
 show wpAny _ _ (eval (.FormattedValue e 114 none p) X.env) _ _ _
 refine wpAny_FormattedValue_repr (thn (ha pins s2 σ H2 _ I2 h) fun u s1 ⟨v,H1,I1,r,q⟩=> ?_)
 obtain⟨z,rfl,hz,hc,q⟩:=q
 obtain⟨t,rfl⟩:=r
 have hl:=PySem.StrLaws.reprText_len z hc
 have hz1:(PySem.reprText z).length<=sizeLine:=by rw[sizeLine_eq];omega
 refine wpAny_pyReprObj_str ?_ hz1
 have hlen:(Str.empty++y++PySem.reprText z).length<=11012:=by rw[PySem.strLen_append,e1];omega
 have fin:∀tk tk',∃y' t',(Value.str (PySem.reprText z) tk)= .str y' t'/\(Str.empty++y++y').length<=sizeLine/\Joins (model X.prog X.w) X.A X.xe [] (Str.empty++y++y') (fun out s₁=>out.length<=sizeLine/\EP X pins σ Q (.str out s₁.toks) {s₁ with toks:=s₁.toks+1}) {s1 with toks:=tk'}:=fun tk tk'=>by
  refine⟨_,_,rfl,by rw[sizeLine_eq];omega,by rw[sizeLine_eq];omega, ?_⟩
  exact⟨.str _,H1,I1.tok _,⟨_,rfl⟩,q _ (by omega)⟩
 exact wpAny_formatField_str (fin _ _) (fin _ _) hz1
theorem Wx {e:Expr}{y:Str}{k:Nat}{p p2 pos:Pos}{ta:TE} (ha:QE X e ta) (hy:y.length<=1000):QE X (.JoinedStr [.Constant (.str y) k p2, .FormattedValue e 114 none p] pos) (tFr ta):=⟨Ww ha.h hy⟩
end
end L2
namespace RB
open PySem L2 PySem.Spec PyProof.Rows
inductive Er where
 | no (x:Str)
 | ring (zs:List Str)
def eU (p:List Str) (z:Str):List Str:=p.reverse.drop (p.reverse.idxOf z)++[z]
def lF (gv:Kn) (rc:Rn):Ms->Option Er
 | ([],_,_)=>none
 | (y::p,kn,_)=>match kn y with
   | some _=>none
   | none=>match gv y with
     | some _=>none
     | none=>match rc y with
       | none=>some (.no y)
       | some r=>match ev kn r with
         | .inr _=>none
         | .inl z=>if z∈y::p then some (.ring (eU (y::p) z)) else none
def Wy (y:Str):Prop:=y.length<=1000/\∀c∈y.cps.toList,c<16 ^ 8
def abh (gv:Kn) (rc:Rn):Ms->Prop
 | (p,kn,_)=>∀y,p.head?=some y->kn y=none->gv y=none->(∀r,rc y=some r->r.Fn kn)/\(rc y=none->Wy y)
def jk (gv:Kn) (rc:Rn) (s t:Ms):Prop:=∃k,itM gv rc k s=some t/\∀j,j<k->∀u,itM gv rc j s=some u->lF gv rc u=none
theorem jk.mvs {gv:Kn}{rc:Rn}{s t:Ms} (h:jk gv rc s t):Mvs gv rc s t:=let ⟨k,e,_⟩:=h;⟨k,e⟩
theorem jk.refl {gv:Kn}{rc:Rn} (s:Ms):jk gv rc s s:=⟨0,rfl,fun j h=>absurd h (by omega)⟩
theorem xW {gv:Kn}{rc:Rn}:∀(k j:Nat) {s t:Ms},itM gv rc k s=some t->itM gv rc (k+j) s=itM gv rc j t
 | 0,j,s,t,h=>by cases h;rw[Nat.zero_add]
 | k+1,j,s,t,h=>by
   rw[Nat.succ_add]
   have h:(match mv gv rc s with | none=>none | some t=>itM gv rc k t)=some t:=h
   show(match mv gv rc s with | none=>none | some t=>itM gv rc (k+j) t)=itM gv rc j t
   cases z:mv gv rc s with
   | none=>rw[z] at h;cases h
   | some u=>rw[z] at h;exact xW k j h
theorem ZD {gv:Kn}{rc:Rn}{s t:Ms} (h:mv gv rc s=some t):itM gv rc 1 s=some t:=by unfold itM;rw[h];rfl
theorem jk.snoc {gv:Kn}{rc:Rn}{s t u:Ms} (h:jk gv rc s t) (he:lF gv rc t=none) (hm:mv gv rc t=some u):jk gv rc s u:=by
 obtain⟨k,e,n⟩:=h
 refine⟨k+1,by rw[xW k 1 e];exact ZD hm,fun j hj w hw=> ?_⟩
 by_cases z:j<k
 ·exact n j z w hw
 ·have:j=k:=by omega
  rw[this,e] at hw;cases hw;exact he
theorem jk.trans {gv:Kn}{rc:Rn}{s t u:Ms} (h:jk gv rc s t) (g:jk gv rc t u):jk gv rc s u:=by
 obtain⟨k,e,n⟩:=h
 obtain⟨k2,e2,n2⟩:=g
 refine⟨k+k2,by rw[xW k k2 e];exact e2,fun j hj w hw=> ?_⟩
 by_cases z:j<k
 ·exact n j z w hw
 ·obtain⟨d,rfl⟩:∃d,j=k+d:=⟨j - k,by omega⟩
  rw[xW k d e] at hw
  exact n2 d (by omega) w hw
theorem jk.errs {gv:Kn}{rc:Rn}{s t t':Ms}{e:Er} (h:jk gv rc s t) (he:lF gv rc t=some e) (h':jk gv rc s t') (hend:lF gv rc t'≠none\/t'.1=[]):t=t':=by
 obtain⟨k,e1,n1⟩:=h
 obtain⟨k',e2,n2⟩:=h'
 rcases Nat.lt_trichotomy k k' with z | z | z
 ·have:=n2 k z t e1;rw[he] at this;cases this
 ·subst z;rw[e1] at e2;exact Option.some.inj e2
 ·rcases hend with w | w
  ·exact absurd (n1 k' z t' e2) w
  ·obtain⟨d,rfl⟩:∃d,k=k'+(d+1):=⟨k - k' - 1,by omega⟩
   rw[xW k' (d+1) e2] at e1
   obtain⟨p,c⟩:=t'
   obtain⟨kn,od⟩:=c
   have w:p=[]:=w
   subst w
   unfold itM at e1
   rw[ade] at e1;cases e1
def mH (gv:Kn) (rc:Rn):List Str->Kn×List Str->Kn×List Str->Prop
 |[],a,b=>a=b
 | x::ws,a,b=>∃c,jk gv rc ([x],a) ([],c)/\mH gv rc ws c b
theorem mH.snoc {gv:Kn}{rc:Rn}:∀{ws:List Str}{x:Str}{a b c:Kn×List Str},mH gv rc ws a b->jk gv rc ([x],b) ([],c)->mH gv rc (ws++[x]) a c
 |[],x,a,b,c,h,g=>by cases h;exact⟨c,g,rfl⟩
 | y::ws,x,a,b,c,⟨d,h,h2⟩,g=>⟨d,h,mH.snoc h2 g⟩
theorem mH.runs {gv:Kn}{rc:Rn}:∀{ws:List Str}{a b:Kn×List Str},mH gv rc ws a b->Runs gv rc ws a b
 |[],a,b,h=>h
 | y::ws,a,b,⟨d,h,h2⟩=>⟨d,h.mvs,mH.runs h2⟩
theorem Wz {gv:Kn}{rc:Rn}{y:Str}{p:List Str}{kn:Kn}{od:List Str} (h1:kn y=none) (h2:gv y=none) (h3:rc y=none):lF gv rc (y::p,kn,od)=some (.no y):=by
 unfold lF;simp only[h1,h2,h3]
theorem Iu {gv:Kn}{rc:Rn}{y z:Str}{r:R}{p:List Str}{kn:Kn}{od:List Str} (h1:kn y=none) (h2:gv y=none) (h3:rc y=some r) (h4:ev kn r= .inl z) (h5:z∈y::p):lF gv rc (y::p,kn,od)=some (.ring (eU (y::p) z)):=by
 unfold lF;simp only[h1,h2,h3,h4,if_pos h5]
theorem zE {gv:Kn}{rc:Rn}{y:Str}{v:Int}{p:List Str}{kn:Kn}{od:List Str} (h1:kn y=some v):lF gv rc (y::p,kn,od)=none:=by
 unfold lF;simp only[h1]
theorem Fg {gv:Kn}{rc:Rn}{y:Str}{v:Int}{p:List Str}{kn:Kn}{od:List Str} (h1:gv y=some v):lF gv rc (y::p,kn,od)=none:=by
 unfold lF
 cases z:kn y with
 | some _=>simp only[z]
 | none=>simp only[z,h1]
theorem Lg {gv:Kn}{rc:Rn}{y:Str}{r:R}{v:Int}{p:List Str}{kn:Kn}{od:List Str} (h2:gv y=none) (h3:rc y=some r) (h4:ev kn r= .inr v):lF gv rc (y::p,kn,od)=none:=by
 unfold lF
 cases z:kn y with
 | some _=>simp only[z]
 | none=>simp only[z,h2,h3,h4]
theorem Iv {gv:Kn}{rc:Rn}{y z:Str}{r:R}{p:List Str}{kn:Kn}{od:List Str} (h2:gv y=none) (h3:rc y=some r) (h4:ev kn r= .inl z) (h5:z∉y::p):lF gv rc (y::p,kn,od)=none:=by
 unfold lF
 cases w:kn y with
 | some _=>simp only[w]
 | none=>simp only[w,h2,h3,h4,if_neg h5]
def Ju (CNo CRi:Addr) (e:Er) (cls:Value) (d:Option Addr) (H:Hp):Prop:=match e with
 | .no y=>cls= .ref CNo/\∃dx,d=some dx/\H dx=some (.xd [("name", .str y)])
 | .ring zs=>cls= .ref CRi/\∃dx l,d=some dx/\H dx=some (.xd [("ring", .ref l)])/\H l=some (.lst (zs.map V.str))
theorem Ju.same {CNo CRi:Addr}{e:Er}{cls:Value}{d:Option Addr}{H H':Hp} (h:Ju CNo CRi e cls d H) (s:aQ H H'):Ju CNo CRi e cls d H':=by
 cases e with
 | no y=>obtain⟨h1,dx,h2,h3⟩:=h;exact⟨h1,dx,h2,s _ _ h3⟩
 | ring zs=>obtain⟨h1,dx,l,h2,h3,h4⟩:=h;exact⟨h1,dx,l,h2,s _ _ h3,s _ _ h4⟩
theorem Fi {ns:List Str}{z:Str} (h:z∈ns):ns[ns.idxOf z]? =some z/\∀k,k<ns.idxOf z->ns[k]? ≠some z:=by
 have hl:=List.idxOf_lt_length_iff.mpr h
 refine⟨by rw[List.getElem?_eq_getElem hl];exact congrArg some (List.getElem_idxOf hl),fun k hk e=> ?_⟩
 obtain⟨hkl,e⟩:=List.getElem?_eq_some_iff.mp e
 have:=List.not_of_lt_findIdx (p:=(· ==z)) (xs:=ns) (i:=k) hk
 rw[e] at this
 simp at this
def abi (C:Addr):Sp:=fun vs H Q _=>∃(e:Addr) (y:Str),vs=[.ref e, .str y]/\H e=some (wQ C none e)/\Wy y/\∀dx,H dx=none->dx≠e->Q .non (upd (upd H dx (.xd [("name", .str y)])) e (wQ C (some dx) e))
def abj (C:Addr):Sp:=fun vs H Q _=>∃(e l:Addr) (xs:List V),vs=[.ref e, .ref l]/\H e=some (wQ C none e)/\H l=some (.lst xs)/\xs.length<=1000/\
 ∀l' dx,H l'=none->upd H l' (.lst xs) dx=none->dx≠e->Q .non (upd (upd (upd H l' (.lst xs)) dx (.xd [("ring", .ref l')])) e (wQ C (some dx) e))
def NZ (CSe CN CS CR CNo CRi:Addr):Sp:=fun vs H Q E=>∃(D:SrD) (gs cs:List Str) (gv:Kn) (rc:Rn) (kg kc kr:List (Key×V)) (rm:Rm) (y:Str),vs=[.ref D.so, .str y]/\Jt CSe CN D gs cs gv rc kg kc kr rm H/\
 (∀r,rc y=some r->∀(A:SeD) H',aQ H H'->(∀z∈A.ft,H z=none)->(∀kn,vM CS CR kr rm y r kn A H')->Q (.ref A.s) H')/\
 (rc y=none->Wy y/\∀cls d H',aQ H H'->Ju CNo CRi (.no y) cls d H'->E cls d H')
def Kr (CSe CN CNo CRi:Addr):Sp:=fun vs H Q E=>∃(H0:Hp) (D:SrD) (gs cs:List Str) (gv:Kn) (rc:Rn) (kg kc kr:List (Key×V)) (rm:Rm) (kn:Kn) (rmN:Rm) (rkn:Str->Bool) (od:List Str) (Hf:Hp) (x:Str),vs=[.ref D.so, .str x]/\Jt CSe CN D gs cs gv rc kg kc kr rm Hf/\lY H0 D gv rc rm kn rmN rkn od Hf H/\(∀t,jk gv rc ([x],kn,od) t->abh gv rc t)/\
 (∀(kn':Kn) (NB:Rm) (rkn':Str->Bool) (od':List Str) (Hf' H':Hp),But [D.kd,D.sd,D.rd] H H'->aQ Hf Hf'->(∀z,Mu H z->Hf z=none->Hf' z=none)->lY H0 D gv rc rm kn' NB rkn' od' Hf' H'->jk gv rc ([x],kn,od) ([],kn',od')->Kn.Le kn kn'->kn' x≠none->(∀y,kn' y≠none->kn y≠none\/Rch gv rc kn' x y)->Q .non H')/\
 (∀t e cls d H',jk gv rc ([x],kn,od) t->lF gv rc t=some e->But [D.kd,D.sd,D.rd] H H'->Ju CNo CRi e cls d H'->E cls d H')
def wJ (gv:Kn) (rc:Rn) (ws:List Str) (a:Kn×List Str) (e:Er):Prop:=∃(i:Nat) (x:Str) (b:Kn×List Str) (t:Ms),ws[i]? =some x/\mH gv rc (ws.take i) a b/\jk gv rc ([x],b) t/\lF gv rc t=some e
def Iw (gv:Kn) (rc:Rn) (ws:List Str) (a:Kn×List Str):Prop:=∀(i:Nat) (x:Str) (b:Kn×List Str) (t:Ms),ws[i]? =some x->mH gv rc (ws.take i) a b->jk gv rc ([x],b) t->abh gv rc t
def xX (CSe CN CNo CRi:Addr):Sp:=fun vs H Q E=>∃(h g c o dxo rcd wl:Addr) (gs cs:List Str) (gv:Kn) (rc:Rn) (kg kc kr:List (Key×V)) (rm:Rm) (ws:List Str),vs=[.ref h, .ref o, .ref wl]/\H h=some (.tup [.ref g, .ref c])/\H g=some (.dK kg)/\H c=some (.dK kc)/\Be H kg kc gs cs gv rc/\H o=some (.ins CN dxo (nrF rcd))/\H rcd=some (.dK kr)/\wO H kr rm/\RmF gv rc rm/\H wl=some (.lst (ws.map V.str))/\Iw gv rc ws (kn0,[])/\
 (∀(D:SrD) (kn:Kn) (rmN:Rm) (rkn:Str->Bool) (od:List Str) (Hf H':Hp),aQ H H'->aQ H Hf->Jt CSe CN D gs cs gv rc kg kc kr rm Hf->lY H D gv rc rm kn rmN rkn od Hf H'->mH gv rc ws (kn0,[]) (kn,od)->H D.kd=none->H D.sd=none->H D.rd=none->(∀x∈ws,kn x≠none)->(∀y,kn y≠none->∃x∈ws,Rch gv rc kn x y)->Q (.ref D.so) H')/\
 (∀e cls d H',wJ gv rc ws (kn0,[]) e->aQ H H'->Ju CNo CRi e cls d H'->E cls d H')
def N6 (CNo CRi:Addr):Sp:=fun vs H Q E=>∃(h g c:Addr) (gs cs:List Str) (gv:Kn) (rc:Rn) (x:Str),vs=[.ref h, .str x]/\iK H h g c gs cs gv rc/\Iw gv rc [x] (kn0,[])/\
 (∀(v:Int) (kn:Kn) (rmN:Rm) (od:List Str) (H':Hp),aQ H H'->StG gv rc kn rmN->mH gv rc [x] (kn0,[]) (kn,od)->kn x=some v->Q (.int v) H')/\
 (∀e cls d H',wJ gv rc [x] (kn0,[]) e->aQ H H'->Ju CNo CRi e cls d H'->E cls d H')
def N7 (CNo CRi:Addr):Sp:=fun vs H Q E=>∃(h g c:Addr) (gs cs:List Str) (gv:Kn) (rc:Rn) (x:Str),vs=[.ref h, .str x]/\iK H h g c gs cs gv rc/\Iw gv rc [x] (kn0,[])/\
 (∀(l:Addr) (as:List Addr) (ps:List Rdp) (kn:Kn) (rmN:Rm) (od:List Str) (H':Hp),aQ H H'->H l=none->StG gv rc kn rmN->mH gv rc [x] (kn0,[]) (kn,od)->H' l=some (.lst (as.map V.ref))->iC H' as ps->((∃r v,rmN x=some (r,ps,v))\/(rmN x=none/\ps=[]))->Q (.ref l) H')/\
 (∀e cls d H',wJ gv rc [x] (kn0,[]) e->aQ H H'->Ju CNo CRi e cls d H'->E cls d H')
def xY (rest:Int) (mixed:Bool) (turn:Int):List (Key×V):=[(.inr "rest", .int rest),(.inr "mixed", .bl mixed),(.inr "turn", .int turn)]
def m9 (H:Hp) (p:Addr) (c:Nat):Prop:=∃(rest:Int) (mixed:Bool) (turn:Int),H p=some (.dK (xY rest mixed turn))/\0<=turn/\turn<=(c:Int)
theorem m9.keep {S:List Addr}{H H':Hp}{p:Addr}{c:Nat} (h:m9 H p c) (b:But S H H') (hp:p∉S):m9 H' p c:=by
 obtain⟨r,m,k,e,h⟩:=h
 exact⟨r,m,k,b _ _ hp e,h⟩
theorem m9.same {H H':Hp}{p:Addr}{c:Nat} (h:m9 H p c) (b:aQ H H'):m9 H' p c:=h.keep (S:=[]) (But.of_same b) (by simp)
theorem m9.tups {H H':Hp}{p:Addr}{c:Nat} (h:m9 H p c) (b:But [p] H H'):jg H H':=fun q xs e=>b q _ (fun z=>by
 obtain⟨r,m,k,e',_⟩:=h
 have:q=p:=by simpa using z
 rw[this,e'] at e;cases e) e
theorem m9.off {H:Hp}{p z:Addr}{c:Nat}{o:HO} (h:m9 H p c) (e:H z=some o) (ho:∀k,o≠ .dK k):z∉[p]:=fun w=>by
 obtain⟨r,m,k,e',_⟩:=h
 have:z=p:=by simpa using w
 rw[this,e'] at e;cases e;exact ho _ rfl
theorem Iz {H:Hp}{p:Addr}{a c:Int}{b:Bool} (e:H p=some (.dK (xY a b c))):cD H p (.str "rest") (some (.int a)):=cD.k (k:= .inr "rest") e
theorem Up {H:Hp}{p:Addr}{a c:Int}{b:Bool} (e:H p=some (.dK (xY a b c))):cD H p (.str "mixed") (some (.bl b)):=cD.k (k:= .inr "mixed") e
theorem N8 {H:Hp}{p:Addr}{a c:Int}{b:Bool} (e:H p=some (.dK (xY a b c))):cD H p (.str "turn") (some (.int c)):=cD.k (k:= .inr "turn") e
theorem CZ {H:Hp}{p:Addr}{a c:Int}{b:Bool} (e:H p=some (.dK (xY a b c))) (x:Int):lD H p (.str "rest") (.int x) (upd H p (.dK (xY x b c))):=lD.k (k:= .inr "rest") e (bD (by show 3<=1000;decide))
theorem Lh {H:Hp}{p:Addr}{a c:Int}{b:Bool} (e:H p=some (.dK (xY a b c))) (x:Int):lD H p (.str "turn") (.int x) (upd H p (.dK (xY a b x))):=lD.k (k:= .inr "turn") e (bD (by show 3<=1000;decide))
def Li (K:PySem.W.Frag):Sp:=fun vs H Q _=>∃(a:Addr) (ns:List Int) (k:Int),vs=[.ref a, .int k]/\SqL K H a (ns.map V.int)/\0<=k/\k<=1000/\∀n,Q (.int n) H
def abk (K:PySem.W.Frag):Sp:=fun vs H Q _=>∃(a:Addr) (ns:List Int) (k:Int),vs=[.ref a, .int k]/\SqL K H a (ns.map V.int)/\0<=k/\k<=1000/\∀p H',aQ H H'->H p=none->m9 H' p 1000->Q (.ref p) H'
def IK:Sp:=fun vs H Q _=>∃(p:Addr) (c:Nat) (many:Int),vs=[.ref p, .int many]/\m9 H p c/\c<=100000/\0<many/\many.natAbs.log2<9000/\∀n H',0<=n->n<many->But [p] H H'->m9 H' p (c+1)->Q (.int n) H'
theorem Oa {NS:List Str}{gv:Kn}{rc:Rn} (hin:∀x r,rc x=some r->r.In NS) {s t:Ms} (h:∀y∈s.1,y∈NS) (e:mv gv rc s=some t):∀y∈t.1,y∈NS:=by
 obtain⟨p,kn,od⟩:=s
 cases p with
 | nil=>cases e
 | cons y p=>
   unfold mv at e
   cases hk:kn y with
   | some v=>
     simp only[hk] at e
     cases e
     exact fun z hz=>h z (by simp[hz])
   | none=>
     simp only[hk] at e
     cases hg:gv y with
     | some v=>
       simp only[hg] at e
       cases e
       exact h
     | none=>
       simp only[hg] at e
       cases hr:rc y with
       | none=>simp only[hr] at e;cases e
       | some r=>
         simp only[hr] at e
         cases he:ev kn r with
         | inr v=>
           simp only[he] at e
           cases e
           exact h
         | inl z=>
           simp only[he] at e
           cases e
           intro w hw
           rcases List.mem_cons.mp hw with q | q
           ·rw[q];exact Gm (hin y r hr) he
           ·exact h w q
open PySem.Builtin.Int (intBits)
def R.Lin:R->Prop
 | .num n=>intBits n<=41
 | .rd _=>True
 | .bin op a b=>a.Lin/\b.Lin/\(op= .times->(∃n,a= .num n/\intBits n<=2)\/∃n,b= .num n/\intBits n<=2)
 | .pick a b c=>a.Lin/\b.Lin/\c.Lin
 | .cho a ns=>a.Lin/\1<=ns.length
def R.Top (r:R):Prop:=r.Lin\/∃x s,r= .bin .times (.rd x) s/\s.Lin
theorem zF {kn:Kn}{m:Nat} (hk:∀x v,kn x=some v->intBits v<=m) {x:Str}{v:Int} (e:look kn x= .inr v):intBits v<=m:=by
 unfold look at e
 cases z:kn x with
 | none=>rw[z] at e;cases e
 | some u=>rw[z] at e;cases e;exact hk x _ z
theorem rB {kn:Kn}{m:Nat} (h41:41<=m) (hk:∀x v,kn x=some v->intBits v<=m):∀(r:R) (d:Nat) (v:Int),r.Lin->r.depth<=d->ev kn r= .inr v->intBits v<=m+2 * d
 | .num n,d,v,h,_,e=>by
   cases e
   have:intBits n<=41:=h
   omega
 | .rd x,d,v,_,_,e=>by
   have:=zF hk (x:=x) e
   omega
 | .bin op a b,d,v,⟨ha,hb,ht⟩,hd,e=>by
   simp only[R.depth] at hd
   obtain⟨d',rfl⟩:∃d',d=d'+1:=⟨d - 1,by omega⟩
   simp only[ev] at e
   cases ea:ev kn a with
   | inl x=>rw[ea] at e;cases e
   | inr u=>
     rw[ea] at e
     cases eb:ev kn b with
     | inl x=>rw[eb] at e;cases e
     | inr w=>
       rw[eb] at e
       cases e
       have ia:=rB h41 hk a d' u ha (by omega) ea
       have ib:=rB h41 hk b d' w hb (by omega) eb
       cases op with
       | plus=>have:=intBits_add_le ia ib;show intBits (u+w)<=_;omega
       | minus=>have:=intBits_sub_le ia ib;show intBits (u - w)<=_;omega
       | most=>have:=intBits_ite_le (c:=w>u) ib ia;show intBits (if w>u then w else u)<=_;omega
       | times=>
         show intBits (u * w)<=_
         rcases ht rfl with⟨n,rfl,hn⟩ | ⟨n,rfl,hn⟩
         ·cases ea
          have:=intBits_mul_le hn ib;omega
         ·cases eb
          have:=intBits_mul_le ia hn;omega
 | .pick a b c,d,v,⟨ha,hb,hc⟩,hd,e=>by
   simp only[R.depth] at hd
   obtain⟨d',rfl⟩:∃d',d=d'+1:=⟨d - 1,by omega⟩
   simp only[ev] at e
   cases ea:ev kn a with
   | inl x=>rw[ea] at e;cases e
   | inr u=>
     rw[ea] at e
     by_cases hu:u>0
     ·simp only[if_pos hu] at e
      have:=rB h41 hk b d' v hb (by omega) e;omega
     ·simp only[if_neg hu] at e
      have:=rB h41 hk c d' v hc (by omega) e;omega
 | .cho a ns,d,v,⟨ha,_⟩,hd,e=>by
   simp only[ev] at e
   cases ea:ev kn a with
   | inl x=>rw[ea] at e;cases e
   | inr u=>
     rw[ea] at e
     cases ep:rA ns u with
     | none=>
       simp only[ep] at e
       cases e
       have:intBits 0<=41:=by decide
       omega
     | some x=>
       simp only[ep] at e
       have:=zF hk e
       omega
theorem xZ {kn:Kn}:∀(r:R),r.Lin->r.Fn kn
 | .num _,_=>trivial
 | .rd _,_=>trivial
 | .bin op a b,⟨ha,hb,ht⟩=>⟨xZ a ha,xZ b hb,fun e u v ea eb=>by
   have sm:∀n:Int,intBits n<=2-> -(2 ^ 64)<n/\n<2 ^ 64:=fun n h=>by
    have:=intBits_le_iff.mp h
    have e4:(2:Nat)^ 2=4:=by decide
    rw[e4] at this
    have e64:(2:Int)^ 64=18446744073709551616:=by decide
    rw[e64]
    omega
   rcases ht e with⟨n,rfl,hn⟩ | ⟨n,rfl,hn⟩
   ·cases ea;exact .inl (sm _ hn)
   ·cases eb;exact .inr (sm _ hn)⟩
 | .pick a b c,⟨ha,hb,hc⟩=>⟨xZ a ha,xZ b hb,xZ c hc⟩
 | .cho a ns,⟨ha,hn⟩=>⟨xZ a ha,hn⟩
theorem WD {kn:Kn}{m:Nat} (h41:41<=m) (hk:∀x v,kn x=some v->intBits v<=m) {r:R}{v:Int} (h:r.Top) (hd:r.depth<=6) (e:ev kn r= .inr v):intBits v<=2 * m+12:=by
 rcases h with h | ⟨x,s,rfl,hs⟩
 ·have:=rB h41 hk r 6 v h hd e;omega
 ·simp only[R.depth] at hd
  simp only[ev] at e
  cases ea:look kn x with
  | inl y=>rw[ea] at e;cases e
  | inr u=>
    rw[ea] at e
    cases eb:ev kn s with
    | inl y=>rw[eb] at e;cases e
    | inr w=>
      rw[eb] at e
      cases e
      have:=intBits_mul_le (zF hk ea) (rB h41 hk s 6 w hs (by omega) eb)
      show intBits (u * w)<=_
      omega
def bd:Nat->Nat
 | 0=>41
 | k+1=>2 * bd k+12
theorem Sq:∀k,41<=bd k
 | 0=>Nat.le_refl _
 | k+1=>by have:=Sq k;unfold bd;omega
theorem Lj:∀{k j:Nat},k<=j->bd k<=bd j
 | k,0,h=>by rw[show k=0 by omega];exact Nat.le_refl _
 | k,j+1,h=>by
   by_cases e:k=j+1
   ·rw[e];exact Nat.le_refl _
   ·have:=Lj (k:=k) (j:=j) (by omega)
    show bd k<=2 * bd j+12
    omega
theorem af3:bd 20<=60000000:=by decide +kernel
structure BdI (rc:Rn) (s:Ms):Prop where
 nd:s.2.2.Nodup
 kn:∀x∈s.2.2,s.2.1 x≠none
 rc:∀x∈s.2.2,rc x≠none
 b:∀x v,s.2.1 x=some v->intBits v<=bd s.2.2.length
theorem BdI.step {gv:Kn}{rc:Rn} (hg:∀x v,gv x=some v->intBits v<=41) (hr:∀x r,rc x=some r->r.Top/\r.depth<=6) {s t:Ms} (h:BdI rc s) (e:mv gv rc s=some t):BdI rc t:=by
 obtain⟨p,kn,od⟩:=s
 cases p with
 | nil=>cases e
 | cons y p=>
   unfold mv at e
   cases hk:kn y with
   | some v=>
     simp only[hk] at e
     cases e
     exact⟨h.nd,h.kn,h.rc,h.b⟩
   | none=>
     simp only[hk] at e
     cases hgy:gv y with
     | some v=>
       simp only[hgy] at e
       cases e
       refine⟨h.nd,fun x hx=> ?_,h.rc,fun x u hu=> ?_⟩
       ·show Kn.put kn y v x≠none
        unfold Kn.put
        split
        ·simp
        ·exact h.kn x hx
       ·have hu:Kn.put kn y v x=some u:=hu
        unfold Kn.put at hu
        by_cases z:x=y
        ·rw[if_pos z] at hu;cases hu
         have:=hg y _ hgy
         have h2:=Sq od.length
         show intBits v<=bd od.length
         omega
        ·rw[if_neg z] at hu;exact h.b x u hu
     | none=>
       simp only[hgy] at e
       cases hry:rc y with
       | none=>simp only[hry] at e;cases e
       | some r=>
         simp only[hry] at e
         cases he:ev kn r with
         | inr v=>
           simp only[he] at e
           cases e
           have hyo:y∉od:=fun z=>h.kn y z hk
           have hb:=WD (Sq od.length) h.b (hr y r hry).1 (hr y r hry).2 he
           refine⟨?_,fun x hx=> ?_,fun x hx=> ?_,fun x u hu=> ?_⟩
           ·show(od++[y]).Nodup
            rw[List.nodup_append]
            exact⟨h.nd,by simp,fun a ha c hc z=>hyo (by rw[show c=y by simpa using hc] at z;rw[<-z];exact ha)⟩
           ·show Kn.put kn y v x≠none
            unfold Kn.put
            by_cases z:x=y
            ·rw[if_pos z];simp
            ·rw[if_neg z]
             rcases List.mem_append.mp hx with w | w
             ·exact h.kn x w
             ·exact absurd (by simpa using w) z
           ·rcases List.mem_append.mp hx with w | w
            ·exact h.rc x w
            ·rw[show x=y by simpa using w,hry];simp
           ·have hu:Kn.put kn y v x=some u:=hu
            show intBits u<=bd (od++[y]).length
            rw[List.length_append]
            show intBits u<=2 * bd od.length+12
            unfold Kn.put at hu
            by_cases z:x=y
            ·rw[if_pos z] at hu;cases hu;exact hb
            ·rw[if_neg z] at hu
             have:intBits u<=bd od.length:=h.b x u hu
             omega
         | inl z=>
           simp only[he] at e
           cases e
           exact⟨h.nd,h.kn,h.rc,h.b⟩
end RB
namespace RB
open PySem L2 PySem.Spec PyProof.Rows
open PySem.Builtin.Int (intBits)
theorem WK {n:Int} (h:n.natAbs<=1000000000000):intBits n<=41:=intBits_le_iff.mpr (by
 have:(2:Nat)^ 41=2199023255552:=by decide
 omega)
def WL:Sp:=fun vs H Q _=>∃(p:Addr) (c:Nat),vs=[.ref p]/\m9 H p c/\c<=90000/\∀n H',intBits n<=41->But [p] H H'->m9 H' p (c+2)->Q (.int n) H'
def Gq (ns:List Str):R->Prop
 | .num n=>intBits n<=41
 | .rd x=>x∈ns
 | _=>False
def Ss:Sp:=fun vs H Q _=>∃(p l:Addr) (c:Nat) (ns:List Str),vs=[.ref p, .ref l]/\m9 H p c/\c<=80000/\H l=some (.lst (ns.map V.str))/\ns.length<=100/\
 ∀a r H',But [p] H H'->m9 H' p (c+3)->IsR H' a r->Gq ns r->Q (.ref a) H'
theorem Gq.lin {ns:List Str}{r:R} (h:Gq ns r):r.Lin:=by
 cases r<;>first | exact h | trivial | cases h
theorem Gq.in_ {ns:List Str}{r:R} (h:Gq ns r):r.In ns:=by
 cases r<;>first | exact h | trivial | cases h
end RB
namespace RB
open PySem L2 PySem.Spec PyProof.Rows
open PySem.Builtin.Int (intBits)
theorem m9.ne {H:Hp}{p a:Addr}{c:Nat} (h:m9 H p c) (e:H a=none):a≠p:=fun z=>by
 obtain⟨_,_,_,e',_⟩:=h
 rw[<-z,e] at e';cases e'
theorem m9.mono {H:Hp}{p:Addr}{c c':Nat} (h:m9 H p c) (hc:c<=c'):m9 H p c':=by
 obtain⟨r,m,k,e,h1,h2⟩:=h
 exact⟨r,m,k,e,h1,by omega⟩
def Qo:Nat->Nat
 | 0=>4
 | d+1=>14+3 * Qo d
theorem af4:∀d,4<=Qo d
 | 0=>Nat.le_refl _
 | d+1=>by show 4<=14+_;omega
theorem Uq {n:Int} (h0:0<=n) (h1:n<7):intBits (n - 3)<=2:=intBits_le_iff.mpr (by
 have:(2:Nat)^ 2=4:=by decide
 omega)
structure Rc4 (ns:List Str) (d:Nat) (r:R):Prop where
 l:r.Lin
 i:r.In ns
 d:r.depth<=d+1
 g:r.Good
theorem Gq.rc {ns:List Str}{r:R}{d:Nat} (hg:∀x∈ns,oG x) (h:Gq ns r):Rc4 ns d r:=by
 refine⟨h.lin,h.in_, ?_, ?_⟩
 ·cases r<;>first | (show 1<=d+1;omega) | cases h
 ·cases r with
  | num n=>
    have:=intBits_le_iff.mp (show intBits n<=41 from h)
    show n.natAbs<10 ^ 40
    exact Nat.lt_of_lt_of_le this (by decide)
  | rd x=>exact hg x h
  | _=>cases h
def WM (d:Nat):Sp:=fun vs H Q _=>∃(p l:Addr) (c:Nat) (ns:List Str) (deep:Int),vs=[.ref p, .ref l, .int deep]/\deep=(d:Int)/\d<=3/\m9 H p c/\c+Qo d<=70000/\H l=some (.lst (ns.map V.str))/\ns.length<=100/\(∀x∈ns,oG x)/\
 ∀a r H',But [p] H H'->m9 H' p (c+Qo d)->IsR H' a r->Rc4 ns d r->Q (.ref a) H'
def ajh:Nat->Sp
 | 0=>fun _ _ _ _=>False
 | d+1=>WM d
def abl:Sp:=fun vs H Q _=>∃(p l:Addr) (c:Nat) (ns:List Str) (deep:Int),vs=[.ref p, .ref l, .int deep]/\0<=deep/\deep<4/\m9 H p c/\c<=60000/\H l=some (.lst (ns.map V.str))/\ns.length<=100/\(∀x∈ns,oG x)/\
 ∀a r H',But [p] H H'->m9 H' p (c+290)->IsR H' a r->Rc4 ns 3 r->Q (.ref a) H'
end RB
namespace RB
open PySem L2 PySem.Spec PyProof.Rows
def fL:List Str:=["a","b","ab","ba","aa","read","plus","zz","number","pick","z","abcdefgh","most","given","c","aaaaaaaa","times","choose"]
theorem ZF:fL.Nodup:=by decide +kernel
theorem Qp:∀x∈fL,oG x:=by
 unfold oG Ka
 decide +kernel
theorem Ur:oG "nowhere":=by
 unfold oG Ka
 decide +kernel
def WN:Sp:=fun vs H Q _=>vs=[]/\∀l H',aQ H H'->H l=none->H' l=some (.lst (fL.map V.str))->Q (.ref l) H'
def ErT (e:Er) (t:Addr) (H:Hp):Prop:=match e with
 | .no y=>H t=some (.tup [.str "none", .str y])
 | .ring zs=>∃l,H t=some (.tup [.str "ring", .ref l])/\H l=some (.lst (zs.map V.str))
theorem ErT.same {e:Er}{t:Addr}{H H':Hp} (h:ErT e t H) (s:aQ H H'):ErT e t H':=by
 cases e with
 | no y=>exact s _ _ h
 | ring zs=>obtain⟨l,h1,h2⟩:=h;exact⟨l,s _ _ h1,s _ _ h2⟩
structure RfK (K:PySem.W.Frag) (CM CNo CRi CRd CRc CDd CTx CRw:Addr):Prop where
 kN:ExK K CNo
 kR:ExK K CRi
 nN:ExN K CNo "name"
 nR:ExN K CRi "ring"
 eN:PySem.W.exmOne K (.ref CNo) (.ref CM)=some true
 eR:PySem.W.exmOne K (.ref CRi) (.ref CM)=some true
 N1:PySem.W.kitOne K (.ref CNo) (.ref CRd)=some false
 N2:PySem.W.kitOne K (.ref CNo) (.ref CRc)=some false
 N3:PySem.W.kitOne K (.ref CNo) (.ref CDd)=some false
 N4:PySem.W.kitOne K (.ref CNo) (.ref CTx)=some false
 N5:PySem.W.kitOne K (.ref CNo) (.ref CRw)=some false
 NV:PySem.W.kitOne K (.ref CNo) (.type "ValueError")=some true
 NN:PySem.W.kitOne K (.ref CNo) (.ref CNo)=some true
 NR:PySem.W.kitOne K (.ref CNo) (.ref CRi)=some false
 R1:PySem.W.kitOne K (.ref CRi) (.ref CRd)=some false
 R2:PySem.W.kitOne K (.ref CRi) (.ref CRc)=some false
 R3:PySem.W.kitOne K (.ref CRi) (.ref CDd)=some false
 R4:PySem.W.kitOne K (.ref CRi) (.ref CTx)=some false
 R5:PySem.W.kitOne K (.ref CRi) (.ref CRw)=some false
 RV:PySem.W.kitOne K (.ref CRi) (.type "ValueError")=some true
 RN:PySem.W.kitOne K (.ref CRi) (.ref CNo)=some false
 RR:PySem.W.kitOne K (.ref CRi) (.ref CRi)=some true
def abm (CNo CRi:Addr):Sp:=fun vs H Q _=>∃(p:Addr) (cls:Value) (d:Option Addr) (e:Er),vs=[.ref p]/\H p=some (zK cls d p)/\Ju CNo CRi e cls d H/\∀t H',aQ H H'->H t=none->ErT e t H'->Q (.ref t) H'
theorem Qq {y:Str}:∀u,RelV (.str y) u->PySem.W.handedIn u=true:=fun u ⟨t,e⟩=>by subst e;rfl
theorem Qs {a:Addr}:∀u,RelV (.ref a) u->PySem.W.handedIn u=true:=fun u e=>by
 obtain rfl:u=Value.ref a:=e
 rfl
def Rcs (H:Hp) (c:Addr) (ks:List Str) (rc:Rn):Prop:=∃kc,H c=some (.dK kc)/\nC kc ks/\(∀x r,rc x=some r->∃b,fG kc (.inr x)=some (.ref b)/\IsR H b r)/\∀x,rc x=none->fG kc (.inr x)=none
theorem Rcs.keep {S:List Addr}{H H':Hp}{c:Addr}{ks:List Str}{rc:Rn} (h:Rcs H c ks rc) (b:But S H H') (hc:c∉S) (t:jg H H'):Rcs H' c ks rc:=by
 obtain⟨kc,e,k,r,n⟩:=h
 exact⟨kc,b _ _ hc e,k,fun x r' e'=>let ⟨b,h1,h2⟩:=r x r' e';⟨b,h1,h2.tups t⟩,n⟩
theorem Rcs.put {H:Hp}{c:Addr}{ks:List Str}{rc:Rn} (h:Rcs H c ks rc) (hl:ks.length<=100) {x:Str}{r:R}{b:Addr} (hx:x∉ks) (hR:IsR H b r):∃H',lD H c (.str x) (.ref b) H'/\But [c] H H'/\jg H H'/\Rcs H' c (ks++[x]) (rc.put x r):=by
 obtain⟨kc,e,k,rr,n⟩:=h
 have t:jg H (upd H c (.dK (putK kc (.inr x) (.ref b)))):=vJ e
 refine⟨_,lD.k (k:= .inr x) e (bD (by rw[k.len];omega)),But.set _ (by simp),t,_,ak,k.tH hx _,fun y r' e'=> ?_,fun y e'=> ?_⟩
 ·rw[lE]
  unfold Rn.put at e'
  by_cases z:y=x
  ·rw[if_pos z] at e';cases e'
   exact⟨b,by rw[if_pos (by rw[z])],hR.tups t⟩
  ·rw[if_neg z] at e'
   obtain⟨b',h1,h2⟩:=rr y r' e'
   exact⟨b',by rw[if_neg (oX z)];exact h1,h2.tups t⟩
 ·rw[lE]
  unfold Rn.put at e'
  by_cases z:y=x
  ·rw[if_pos z] at e';cases e'
  ·rw[if_neg z] at e'
   rw[if_neg (oX z)];exact n y e'
def erD:Er->PyData
 | .no y=> .tuple [.str "none", .str y]
 | .ring zs=> .tuple [.str "ring", .list (zs.map .str)]
theorem ErT.dat {K:PySem.W.Frag}{H:Hp}{e:Er}{t:Addr} (h:ErT e t H):pD K H (.ref t) (erD e):=by
 cases e with
 | no y=>exact .tup (SqT.of h) (.cons (.str _) (.cons (.str _) .nil))
 | ring zs=>
   obtain⟨l,h1,h2⟩:=h
   exact .tup (SqT.of h1) (.cons (.str _) (.cons (.lst (SqL.of h2) (Hv _)) .nil))
def adn:Er->Prop
 | .no y=>PyData.strOk y=true
 | .ring zs=>∀y∈zs,PyData.strOk y=true
theorem Ob:∀{zs:List Str},(∀y∈zs,PyData.strOk y=true)->PyData.canLayAll0 (zs.map .str)=true
 |[],_=>rfl
 | z::zs,h=>by
   show(PyData.canLay0 (.str z)&&PyData.canLayAll0 (zs.map .str))=true
   rw[Bool.and_eq_true]
   exact⟨h z (by simp),Ob fun y hy=>h y (by simp[hy])⟩
theorem Oc:∀(zs:List Str),PyData.depthAll (zs.map .str)<=4
 |[]=>by simp[PyData.depthAll]
 | z::zs=>by
   have:=Oc zs
   simp only[List.map_cons,PyData.depthAll,PyData.depth]
   omega
theorem Us {e:Er} (h:adn e):SeqAt.shaped (erD e)=true:=by
 have h5:(erD e).canLay0=true:=by
  cases e with
  | no y=>
    show(_&&(_&&_))=true
    rw[Bool.and_eq_true,Bool.and_eq_true]
    exact⟨by decide +kernel,h,rfl⟩
  | ring zs=>
    show(_&&(_&&_))=true
    rw[Bool.and_eq_true,Bool.and_eq_true]
    exact⟨by decide +kernel,Ob h,rfl⟩
 have h4:(erD e).depth<=64:=by
  cases e with
  | no y=>simp only[erD,PyData.depth,PyData.depthAll];omega
  | ring zs=>
    have:=Oc zs
    simp only[erD,PyData.depth,PyData.depthAll];omega
 show(_&&decide _)=true
 rw[h5,decide_eq_true h4];rfl
open PySem.Builtin.Int (intBits)
def yc:List Str:=fL++(["nowhere"]:List Str)
theorem Lk:∀x∈yc,oG x:=fun x hx=>by
 rcases List.mem_append.mp hx with h | h
 ·exact Qp x h
 ·rw[show x="nowhere" by simpa using h];exact Ur
structure Ok4 (r:R):Prop where
 t:r.Top
 d:r.depth<=5
 i:r.In yc
 g:r.Good
theorem Ok4.rcg {r:R} (h:Ok4 r):RcG r:=by
 have hf:=oV h.g
 have h1:=Ii r 5 h.d
 have h2:=Bf r 5 hf h.d
 have e1:(3:Nat)^ 5=243:=by decide
 exact⟨hf,by have:=h.d;omega,by omega,by omega⟩
theorem Rcs.Bc {H:Hp}{c:Addr}{ks:List Str}{rc:Rn} (h:Rcs H c ks rc) (hl:ks.length<=100) {x:Str}{r:R}{b:Addr} (hx:x∈ks) (hR:IsR H b r):∃H',lD H c (.str x) (.ref b) H'/\But [c] H H'/\jg H H'/\Rcs H' c ks (rc.put x r):=by
 obtain⟨kc,e,k,rr,n⟩:=h
 have t:jg H (upd H c (.dK (putK kc (.inr x) (.ref b)))):=vJ e
 refine⟨_,lD.k (k:= .inr x) e (bD (by rw[k.len];omega)),But.set _ (by simp),t,_,ak,k.Bc hx _,fun y r' e'=> ?_,fun y e'=> ?_⟩
 ·rw[lE]
  unfold Rn.put at e'
  by_cases z:y=x
  ·rw[if_pos z] at e';cases e'
   exact⟨b,by rw[if_pos (by rw[z])],hR.tups t⟩
  ·rw[if_neg z] at e'
   obtain⟨b',h1,h2⟩:=rr y r' e'
   exact⟨b',by rw[if_neg (oX z)];exact h1,h2.tups t⟩
 ·rw[lE]
  unfold Rn.put at e'
  by_cases z:y=x
  ·rw[if_pos z] at e';cases e'
  ·rw[if_neg z] at e'
   rw[if_neg (oX z)];exact n y e'
structure HoI (H:Hp) (g c:Addr) (ks gs cs:List Str) (gv:Kn) (rc:Rn):Prop where
 kg:∃kg,H g=some (.dK kg)/\nC kg gs/\∀x,fG kg (.inr x)=(gv x).map V.int
 kc:Rcs H c cs rc
 ne:g≠c
 gk:∀x∈gs,x∈ks
 ck:∀x∈cs,x∈ks
 dj:∀x∈gs,x∉cs
 l:gs.length+cs.length<=ks.length
 b:∀x v,gv x=some v->intBits v<=41
 o:∀x r,rc x=some r->Ok4 r
section
variable {S:List Addr}{H H':Hp}{g c:Addr}{ks gs cs:List Str}{gv:Kn}{rc:Rn}
theorem HoI.keep (h:HoI H g c ks gs cs gv rc) (b:But S H H') (hg:g∉S) (hc:c∉S) (t:jg H H'):HoI H' g c ks gs cs gv rc:=
 ⟨let ⟨kg,e,k⟩:=h.kg;⟨kg,b _ _ hg e,k⟩,h.kc.keep b hc t,h.ne,h.gk,h.ck,h.dj,h.l,h.b,h.o⟩
theorem HoI.same (h:HoI H g c ks gs cs gv rc) (s:aQ H H'):HoI H' g c ks gs cs gv rc:=h.keep (S:=[]) (But.of_same s) (by simp) (by simp) (aQ.tups s)
theorem HoI.nil (e1:H g=some (.dK [])) (e2:H c=some (.dK [])) (ne:g≠c):HoI H g c [] [] [] kn0 (fun _=>none):=
 ⟨⟨[],e1,⟨rfl,by simp⟩,fun _=>rfl⟩,⟨[],e2,⟨rfl,by simp⟩,fun _ _ h=>(by simp at h),fun _ _=>rfl⟩,ne,by simp,by simp,by simp,by simp,fun _ _ h=>(by cases h),fun _ _ h=>(by cases h)⟩
theorem HoI.dk (h:HoI H g c ks gs cs gv rc):(∃k,H g=some (.dK k))/\∃k,H c=some (.dK k):=⟨let ⟨kg,e,_⟩:=h.kg;⟨kg,e⟩,let ⟨kc,e,_⟩:=h.kc;⟨kc,e⟩⟩
theorem HoI.Wh (h:HoI H g c ks gs cs gv rc) (hl:ks.length<=50) {x:Str}{v:Int} (hx:x∉ks) (hv:intBits v<=41):∃H',lD H g (.str x) (.int v) H'/\But [g] H H'/\jg H H'/\HoI H' g c (ks++[x]) (gs++[x]) cs (gv.put x v) rc:=by
 obtain⟨kg,e,k,hk⟩:=h.kg
 have t:jg H (upd H g (.dK (putK kg (.inr x) (.int v)))):=vJ e
 have b:But [g] H (upd H g (.dK (putK kg (.inr x) (.int v)))):=But.set _ (by simp)
 have hxg:x∉gs:=fun z=>hx (h.gk x z)
 have hxc:x∉cs:=fun z=>hx (h.ck x z)
 refine⟨_,lD.k (k:= .inr x) e (bD (by have:=h.l;rw[k.len];omega)),b,t,⟨_,ak,k.tH hxg _,vK hk x v⟩,h.kc.keep b (by simpa using Ne.symm h.ne) t,h.ne,fun y hy=> ?_,fun y hy=>List.mem_append_left _ (h.ck y hy),fun y hy=> ?_,by have:=h.l;simp only[List.length_append,List.length_cons,List.length_nil];omega,fun y u e'=> ?_,h.o⟩
 ·rcases List.mem_append.mp hy with z | z
  ·exact List.mem_append_left _ (h.gk y z)
  ·exact List.mem_append_right _ z
 ·rcases List.mem_append.mp hy with z | z
  ·exact h.dj y z
  ·rw[show y=x by simpa using z];exact hxc
 ·unfold Kn.put at e'
  by_cases z:y=x
  ·rw[if_pos z] at e';cases e';exact hv
  ·rw[if_neg z] at e';exact h.b y u e'
theorem WQ {rc:Rn} (h:∀x r,rc x=some r->Ok4 r) {x:Str}{r:R} (hr:Ok4 r):∀y r',(rc.put x r) y=some r'->Ok4 r':=fun y u e'=>by
 unfold Rn.put at e'
 by_cases z:y=x
 ·rw[if_pos z] at e';cases e';exact hr
 ·rw[if_neg z] at e';exact h y u e'
theorem HoI.tG (h:HoI H g c ks gs cs gv rc) (hl:ks.length<=50) {x:Str}{r:R}{b:Addr} (hx:x∉ks) (hR:IsR H b r) (hr:Ok4 r):∃H',lD H c (.str x) (.ref b) H'/\But [c] H H'/\jg H H'/\HoI H' g c (ks++[x]) gs (cs++[x]) gv (rc.put x r):=by
 have hxg:x∉gs:=fun z=>hx (h.gk x z)
 have hxc:x∉cs:=fun z=>hx (h.ck x z)
 obtain⟨H',d,bb,t,k⟩:=h.kc.put (by have:=h.l;omega) hxc hR
 obtain⟨kg,e,kk⟩:=h.kg
 refine⟨H',d,bb,t,⟨kg,bb _ _ (by simpa using h.ne) e,kk⟩,k,h.ne,fun y hy=>List.mem_append_left _ (h.gk y hy),fun y hy=> ?_,fun y hy z=> ?_,by have:=h.l;simp only[List.length_append,List.length_cons,List.length_nil];omega,h.b,WQ h.o hr⟩
 ·rcases List.mem_append.mp hy with z | z
  ·exact List.mem_append_left _ (h.ck y z)
  ·exact List.mem_append_right _ z
 ·rcases List.mem_append.mp z with z | z
  ·exact h.dj y hy z
  ·rw[show y=x by simpa using z] at hy;exact hxg hy
theorem HoI.af5 (h:HoI H g c ks gs cs gv rc) (hl:ks.length<=50) {x:Str}{r:R}{b:Addr} (hx:x∈cs) (hR:IsR H b r) (hr:Ok4 r):∃H',lD H c (.str x) (.ref b) H'/\But [c] H H'/\jg H H'/\HoI H' g c ks gs cs gv (rc.put x r):=by
 obtain⟨H',d,bb,t,k⟩:=h.kc.Bc (by have:=h.l;omega) hx hR
 obtain⟨kg,e,kk⟩:=h.kg
 exact⟨H',d,bb,t,⟨kg,bb _ _ (by simpa using h.ne) e,kk⟩,k,h.ne,h.gk,h.ck,h.dj,h.l,h.b,WQ h.o hr⟩
theorem HoI.get (h:HoI H g c ks gs cs gv rc) {x:Str} (hx:x∈cs):∃b r,cD H c (.str x) (some (.ref b))/\IsR H b r/\rc x=some r:=by
 obtain⟨kc,e,k,rr,n⟩:=h.kc
 cases hr:rc x with
 | none=>exact absurd hx (k.none.mp (n x hr))
 | some r=>
   obtain⟨b,hb,hR⟩:=rr x r hr
   exact⟨b,r,hb▸cD.k (k:= .inr x) e,hR,rfl⟩
structure Ho4 (gs cs:List Str) (gv:Kn) (rc:Rn):Prop where
 gk:∀x∈gs,x∈fL.take 14
 ck:∀x∈cs,x∈fL.take 14
 dj:∀x∈gs,x∉cs
 a:("a":Str)∈gs
 l:gs.length+cs.length<=14
 b:∀x v,gv x=some v->intBits v<=41
 o:∀x r,rc x=some r->Ok4 r
theorem HoI.ado (h:HoI H g c ks gs cs gv rc) (hl:ks.length<=50) {a:Addr} (e:H a=some (.tup [.ref g, .ref c])):iK H a g c gs cs gv rc:=by
 obtain⟨kg,e1,k1,v1⟩:=h.kg
 obtain⟨kc,e2,k2,r2,n2⟩:=h.kc
 exact⟨kg,kc,e,e1,e2,k1,k2,by have:=h.l;omega,v1,r2,n2,fun x r er=>(h.o x r er).rcg⟩
theorem HoI.ho4 (h:HoI H g c ks gs cs gv rc) (hk:∀x∈ks,x∈fL.take 14) (hl:ks.length<=14) (ha:("a":Str)∈gs):Ho4 gs cs gv rc:=
 ⟨fun x hx=>hk x (h.gk x hx),fun x hx=>hk x (h.ck x hx),h.dj,ha,by have:=h.l;omega,h.b,h.o⟩
end
def abn (K:PySem.W.Frag):Sp:=fun vs H Q _=>∃(a:Addr) (zs:List Int) (first:Int),vs=[.ref a, .int first]/\SqL K H a (zs.map V.int)/\0<=first/\first<=10/\
 ∀(h g c:Addr) (gs cs:List Str) (gv:Kn) (rc:Rn) (H':Hp),aQ H H'->H h=none->H g=none->H c=none->g≠c->iK H' h g c gs cs gv rc->Ho4 gs cs gv rc->Q (.ref h) H'
theorem Rc4.ok {ns:List Str}{r:R} (h:Rc4 ns 3 r) (hn:∀x∈ns,x∈yc):Ok4 r:=⟨.inl h.l,by have:=h.d;omega,h.i.mono hn,h.g⟩
theorem Rc4.okT {ns:List Str}{r:R} (h:Rc4 ns 3 r) (hn:∀x∈ns,x∈yc) {x:Str} (hx:x∈yc):Ok4 (.bin .times (.rd x) r):=
 ⟨.inr ⟨x,r,rfl,h.l⟩,by show max 1 r.depth+1<=5;have:=h.d;omega,⟨hx,h.i.mono hn⟩,⟨Lk x hx,h.g⟩⟩
end RB
namespace RB
open PySem L2 PySem.Spec PyProof.Rows
theorem WR {us:List Str}{n:Int} (h0:0<=n) (h1:n<(us.length:Int)):∃x,atI (us.map V.str) n=some (.str x)/\x∈us:=by
 obtain⟨j,rfl⟩:=Int.eq_ofNat_of_zero_le h0
 have hj:j<us.length:=by omega
 exact⟨us[j],mV (by rw[List.getElem?_map,List.getElem?_eq_getElem hj];rfl),List.getElem_mem hj⟩
open PySem.Builtin.Int (intBits)
theorem adp {kn:Kn}{m:Nat} (h41:41<=m) (hm:m<=60000000) (hk:∀x v,kn x=some v->intBits v<=m) {r:R} (h:r.Top) (hd:r.depth<=6):r.Fn kn:=by
 rcases h with h | ⟨x,s,rfl,hs⟩
 ·exact xZ r h
 ·simp only[R.depth] at hd
  exact⟨trivial,xZ s hs,fun _ u v eu ev'=> .big (IntMulOk.of_le (zF hk (x:=x) eu) (rB h41 hk s 6 v hs (by omega) ev') (by omega))⟩
theorem BdI.runs {gv:Kn}{rc:Rn} (hg:∀x v,gv x=some v->intBits v<=41) (hr:∀x r,rc x=some r->r.Top/\r.depth<=6):∀{ws:List Str}{a b:Kn×List Str},mH gv rc ws a b->BdI rc ([],a)->BdI rc ([],b)
 |[],a,b,h,i=>by cases h;exact i
 | x::ws,a,b,⟨c,m,h⟩,i=>by
   have i1:BdI rc ([x],a):=⟨i.nd,i.kn,i.rc,i.b⟩
   exact BdI.runs hg hr h (m.mvs.inv (I:=BdI rc) (fun s t hs e=>hs.step hg hr e) i1)
theorem ZG {NS cs:List Str}{gv:Kn}{rc:Rn}{ws:List Str} (hin:∀x r,rc x=some r->r.In NS) (hok:∀y∈NS,Wy y) (hw:∀x∈ws,x∈NS) (hcs:∀x,rc x≠none->x∈cs) (hl:cs.length<=20) (hg:∀x v,gv x=some v->intBits v<=41) (hr:∀x r,rc x=some r->r.Top/\r.depth<=6):Iw gv rc ws (kn0,[]):=fun i x b t hi hru hm=>by
 have i0:BdI rc ([],kn0,[]):=
  {nd:=List.nodup_nil,kn:=(fun x h=>by cases h),rc:=(fun x h=>by cases h),b:=(fun x v h=>by
    have h:(none:Option Int)=some v:=h
    cases h)}
 have i1:=BdI.runs hg hr hru i0
 have i2:BdI rc ([x],b):=⟨i1.nd,i1.kn,i1.rc,i1.b⟩
 have i3:=hm.mvs.inv (I:=BdI rc) (fun s t hs e=>hs.step hg hr e) i2
 have hn:∀y∈t.1,y∈NS:=hm.mvs.inv (I:=fun s=>∀y∈s.1,y∈NS) (fun _ _ h e=>Oa hin h e) (fun y hy=>by
  have:y=x:=by simpa using hy
  rw[this];exact hw x (List.mem_of_getElem? hi))
 have hlen:t.2.2.length<=20:=Nat.le_trans (ji i3.nd (fun y hy=>hcs y (i3.rc y hy))) hl
 have hb:=Nat.le_trans (Lj hlen) af3
 obtain⟨p,kn,od⟩:=t
 intro y hy hk hg'
 refine⟨fun r hr'=>adp (Sq od.length) hb i3.b (hr y r hr').1 (hr y r hr').2,fun _=>hok y (hn y ?_)⟩
 cases p with
 | nil=>cases hy
 | cons z p=>cases hy;simp
end RB
namespace RB
open PySem L2 PySem.Spec PyProof.Rows
def KAg (k1 k2:Kn):Prop:=∀x a b,k1 x=some a->k2 x=some b->a=b
structure W4 where
 h:Addr
 wd:Addr
 op:Addr
 td:Addr
def wkD (A:W4) (rl:Addr) (st:V):List (Key×V):=[(.inr "house", .ref A.h),(.inr "worths", .ref A.wd),(.inr "open", .ref A.op),(.inr "reads", .ref rl),(.inr "told", .ref A.td),(.inr "stop",st)]
def W4.all (A:W4) (wk rl:Addr):List Addr:=[wk,A.wd,A.op,A.td,rl]
def Qt (H:Hp) (X:List Addr) (rm:Rm) (ts:List Addr) (od:List Str):Prop:=ts.length=od.length/\∀(i:Nat) (x:Str),od[i]? =some x->∃T l as r ps v,ts[i]? =some T/\H T=some (.tup [.str x, .ref l])/\H l=some (.lst (as.map V.ref))/\iC H as ps/\rm x=some (r,ps,v)/\l∉X
theorem Qt.but {S X:List Addr}{H H':Hp}{rm:Rm}{ts:List Addr}{od:List Str} (h:Qt H X rm ts od) (b:But S H H') (t:jg H H') (hS:∀z∈S,z∈X):Qt H' X rm ts od:=⟨h.1,fun i x hx=>by
 obtain⟨T,l,as,r,ps,v,h1,h2,h3,h4,h5,h6⟩:=h.2 i x hx
 exact⟨T,l,as,r,ps,v,h1,t _ _ h2,b _ _ (fun z=>h6 (hS l z)) h3,h4.tups t,h5,h6⟩⟩
theorem Qt.less {X Y:List Addr}{H:Hp}{rm:Rm}{ts:List Addr}{od:List Str} (h:Qt H X rm ts od) (hs:∀z∈Y,z∈X):Qt H Y rm ts od:=⟨h.1,fun i x hx=>by
 obtain⟨T,l,as,r,ps,v,h1,h2,h3,h4,h5,h6⟩:=h.2 i x hx
 exact⟨T,l,as,r,ps,v,h1,h2,h3,h4,h5,fun z=>h6 (hs l z)⟩⟩
structure C4 (X:List Addr) (wk g c:Addr) (A:W4) (gs cs:List Str) (gv:Kn) (rc:Rn) (p:List Str) (kn:Kn) (od:List Str) (rm:Rm) (rl:Addr) (ps:List Rdp) (H:Hp):Prop where
 ek:H wk=some (.dK (wkD A rl .non))
 ho:iK H A.h g c gs cs gv rc
 ew:∃kw ws,H A.wd=some (.dK kw)/\nC kw ws/\∀x,fG kw (.inr x)=(kn x).map V.int
 ep:H A.op=some (.lst (p.reverse.map V.str))
 et:∃ts,H A.td=some (.lst (ts.map V.ref))/\Qt H X rm ts od
 er:H rl=some (.lst (ps.map fun q=>V.str q.1))
 row:Rows kn ps
 ok:StG gv rc kn rm
 om:∀x,x∈od ↔ rm x≠none
 bd:BdI rc (p,kn,od)
 n1:wk≠A.wd
 n2:A.op≠A.td
 n3:A.op≠rl
 n4:A.td≠rl
 n5:g≠wk/\g≠A.wd
 n6:c≠wk/\c≠A.wd
 un:∀x∈p,kn x=none/\gv x=none/\rc x≠none
 pn:p.Nodup
 k4:Ho4 gs cs gv rc
 xs:∀z∈X,∃o,H z=some o/\∀ys,o≠ .tup ys
 sx:∀z∈A.all wk rl,z∈X
section
variable {X:List Addr}{wk g c:Addr}{A:W4}{gs cs:List Str}{gv:Kn}{rc:Rn}{p:List Str}{kn:Kn}{od:List Str}{rm:Rm}{rl:Addr}{ps:List Rdp}{H H':Hp}
theorem C4.tups (a:C4 X wk g c A gs cs gv rc p kn od rm rl ps H) {S:List Addr} (b:But S H H') (hS:∀z∈S,z∈X):jg H H':=fun q xs e=>b q _ (fun z=>by
 obtain⟨o,h1,h2⟩:=a.xs q (hS q z)
 rw[e] at h1;cases h1;exact h2 _ rfl) e
theorem C4.same (a:C4 X wk g c A gs cs gv rc p kn od rm rl ps H) (s:aQ H H'):C4 X wk g c A gs cs gv rc p kn od rm rl ps H':=
 {a with
  ek:=s _ _ a.ek
  ho:=a.ho.same s
  ew:=let ⟨kw,ws,e,r⟩:=a.ew;⟨kw,ws,s _ _ e,r⟩
  ep:=s _ _ a.ep
  et:=let ⟨ts,e,t⟩:=a.et;⟨ts,s _ _ e,t.but (S:=[]) (But.of_same s) (aQ.tups s) (by simp)⟩
  er:=s _ _ a.er
  xs:=fun z hz=>let ⟨o,e,h⟩:=a.xs z hz;⟨o,s _ _ e,h⟩}
theorem C4.kl (a:C4 X wk g c A gs cs gv rc p kn od rm rl ps H) {kw:List (Key×V)}{ws:List Str} (k:nC kw ws) (hk:∀x,fG kw (.inr x)=(kn x).map V.int):kw.length<=60:=by
 obtain⟨kg,kc,_,_,_,b⟩:=a.ho
 rw[k.len]
 have:=ji (ws:=ws) (ns:=gs++cs) k.nd fun x hx=>a.ok.Nx b fun e=>k.none.mp (by rw[hk,e];rfl) hx
 rw[List.length_append] at this
 have:=b.n
 omega
theorem C4.plen (a:C4 X wk g c A gs cs gv rc p kn od rm rl ps H):p.length<=13:=by
 obtain⟨kg,kc,_,_,_,b⟩:=a.ho
 have h1:=ji (ws:=p) (ns:=cs) a.pn fun x hx=>b.cm (a.un x hx).2.2
 have h2:=a.k4.l
 have h3:1<=gs.length:=List.length_pos_of_mem a.k4.a
 omega
theorem C4.olen (a:C4 X wk g c A gs cs gv rc p kn od rm rl ps H):od.length<=13:=by
 obtain⟨kg,kc,_,_,_,b⟩:=a.ho
 have h1:=ji (ws:=od) (ns:=cs) a.bd.nd fun x hx=>b.cm (a.bd.rc x hx)
 have h2:=a.k4.l
 have h3:1<=gs.length:=List.length_pos_of_mem a.k4.a
 omega
theorem C4.rlen (a:C4 X wk g c A gs cs gv rc p kn od rm rl ps H):ps.length<=60:=by
 obtain⟨kg,kc,_,_,_,b⟩:=a.ho
 have:=ji a.row.nd (ns:=gs++cs) fun x hx=>by
  obtain⟨q,hq,rfl⟩:=List.mem_map.mp hx
  exact a.ok.Nx b (by rw[a.row.s q hq];simp)
 rw[List.length_map,List.length_append] at this
 have:=b.n
 omega
theorem C4.bits (a:C4 X wk g c A gs cs gv rc p kn od rm rl ps H) {x:Str}{v:Int} (h:kn x=some v):PySem.Builtin.Int.intBits v<=434164:=by
 have h1:=a.bd.b x v h
 have h2:=Lj a.olen
 have h3:RB.bd 13<=434164:=by decide +kernel
 exact Nat.le_trans h1 (Nat.le_trans h2 h3)
end
section
variable {gv:Kn}{rc:Rn}{kn1 kn2:Kn}{rm1 rm2:Rm}
theorem Ut (ag:KAg kn1 kn2) (s1:StG gv rc kn1 rm1) (s2:StG gv rc kn2 rm2) {x:Str}{q1 q2:R×List Rdp×Int} (e1:rm1 x=some q1) (e2:rm2 x=some q2):q1=q2:=by
 obtain⟨r,ps,u⟩:=q1
 obtain⟨r',qs,v⟩:=q2
 obtain⟨a1,_,_,t1,w1⟩:=s1.b _ _ _ _ e1
 obtain⟨a2,_,_,t2,w2⟩:=s2.b _ _ _ _ e2
 rw[a1] at a2;cases a2
 obtain⟨h1,h2⟩:=R0 t1.c t2.c t1.e t2.e fun p hp q hq e=>by
  have h1:=w1.s p hp
  have h2:=w2.s q hq
  rw[<-e] at h2
  exact ag _ _ _ h1 h2
 rw[h1,h2]
theorem WT (le:Kn.Le kn1 kn2) (s1:StG gv rc kn1 rm1) (s2:StG gv rc kn2 rm2) {x:Str}{q:R×List Rdp×Int} (e:rm1 x=some q):rm2 x=some q:=by
 obtain⟨r,ps,u⟩:=q
 obtain⟨a1,g1,k1,_,_⟩:=s1.b _ _ _ _ e
 rcases s2.a _ _ (le x u k1) with g2 | ⟨_,r',ps',_,m2⟩
 ·rw[g1] at g2;cases g2
 ·rw[m2,Ut (fun y a b ha hb=>by rw[le y a ha] at hb;exact Option.some.inj hb) s1 s2 e m2]
theorem Su (h:kn1=kn2) (s1:StG gv rc kn1 rm1) (s2:StG gv rc kn2 rm2):rm1=rm2:=by
 subst h
 funext x
 cases e:rm1 x with
 | some q=>rw[WT (Kn.Le.refl _) s1 s2 e]
 | none=>
   cases e2:rm2 x with
   | none=>rfl
   | some q=>rw[WT (Kn.Le.refl _) s2 s1 e2] at e;cases e
end
theorem IV {X:List Addr}{H:Hp} (h:∀z∈X,∃o,H z=some o/\∀ys,o≠ .tup ys) (q:Addr) {o:HO} (ho:∀ys,o≠ .tup ys):∀z∈X,∃o',upd H q o z=some o'/\∀ys,o'≠ .tup ys:=fun z hz=>by
 by_cases w:z=q
 ·rw[w];exact⟨o,ak,ho⟩
 ·obtain⟨o',e,n⟩:=h z hz
  exact⟨o',(ao w).trans e,n⟩
section
variable {X:List Addr}{wk g c:Addr}{A:W4}{gs cs:List Str}{gv:Kn}{rc:Rn}{p:List Str}{kn:Kn}{od:List Str}{rm:Rm}{rl:Addr}{ps:List Rdp}{H H':Hp}
theorem gC {A:W4}{wk rl:Addr}:wk∈A.all wk rl/\A.wd∈A.all wk rl/\A.op∈A.all wk rl/\A.td∈A.all wk rl/\rl∈A.all wk rl:=by simp[W4.all]
theorem C4.hr (a:C4 X wk g c A gs cs gv rc p kn od rm rl ps H):∀x r,rc x=some r->r.Top/\r.depth<=6:=fun x r e=>⟨(a.k4.o x r e).t,by have:=(a.k4.o x r e).d;omega⟩
theorem BdI.path {rc:Rn}{p q:List Str}{b:Kn×List Str} (h:BdI rc (p,b)):BdI rc (q,b):=⟨h.nd,h.kn,h.rc,h.b⟩
theorem C4.giv (a:C4 X wk g c A gs cs gv rc p kn od rm rl ps H) {z:Str}{v:Int} (hg:gv z=some v):∃H',lD H A.wd (.str z) (.int v) H'/\But (A.all wk rl) H H'/\C4 X wk g c A gs cs gv rc p (kn.put z v) od rm rl ps H'/\Kn.Le kn (kn.put z v):=by
 obtain⟨kw,ws,e,k,hv⟩:=a.ew
 obtain⟨kg,kc,eh,eg,ec,bd⟩:=a.ho
 obtain⟨ts,et,tl⟩:=a.et
 have b:But [A.wd] H (upd H A.wd (.dK (putK kw (.inr z) (.int v)))):=But.set _ (by simp)
 have t:jg H (upd H A.wd (.dK (putK kw (.inr z) (.int v)))):=vJ e
 have nop:A.op≠A.wd:=fun w=>by have:=a.ep;rw[w,e] at this;cases this
 have ntd:A.td≠A.wd:=fun w=>by rw[w,e] at et;cases et
 have nrl:rl≠A.wd:=fun w=>by have:=a.er;rw[w,e] at this;cases this
 have le:Kn.Le kn (kn.put z v):=fun y u hu=>by
  unfold Kn.put
  by_cases w:y=z
  ·rw[if_pos w]
   subst w
   rcases a.ok.a _ _ hu with q | ⟨q,_⟩
   ·rw[hg] at q;exact q
   ·rw[hg] at q;cases q
  ·rw[if_neg w];exact hu
 have ok:StG gv rc (kn.put z v) rm/\BdI rc (p,kn.put z v,od):=by
  cases hk:kn z with
  | none=>exact⟨a.ok.Wh hk hg,(BdI.step (gv:=gv) a.k4.b a.hr (a.bd.path (q:=z::p)) (La hk hg)).path⟩
  | some u=>
    have:kn.put z v=kn:=by
     funext y
     unfold Kn.put
     by_cases w:y=z
     ·rw[if_pos w,w]
      have:=le z u hk
      unfold Kn.put at this
      rw[if_pos rfl] at this
      rw[hk];exact this
     ·rw[if_neg w]
    rw[this];exact⟨a.ok,a.bd⟩
 have ks:∃ws',nC (putK kw (.inr z) (.int v)) ws':=by
  by_cases w:z∈ws
  ·exact⟨_,k.Bc w _⟩
  ·exact⟨_,k.tH w _⟩
 obtain⟨ws',k'⟩:=ks
 refine⟨_,lD.k (k:= .inr z) e (bD (Nat.le_trans (a.kl k hv) (by decide))),fun y o hy=>b y o (fun w=>hy (by rw[show y=A.wd by simpa using w];exact gC.2.1)), ?_,le⟩
 exact
  {a with
   ek:=(ao a.n1).trans a.ek
   ho:=⟨kg,kc,t _ _ eh,(ao a.n5.2).trans eg,(ao a.n6.2).trans ec,bd.tups t⟩
   ew:=⟨_,ws',ak,k',vK hv z v⟩
   ep:=(ao nop).trans a.ep
   et:=⟨ts,(ao ntd).trans et,tl.but b t (fun y hy=>by rw[show y=A.wd by simpa using hy];exact a.sx _ gC.2.1)⟩
   er:=(ao nrl).trans a.er
   row:=a.row.le le
   ok:=ok.1
   bd:=ok.2
   un:=fun x hx=>⟨by
    have h:=a.un x hx
    unfold Kn.put
    rw[if_neg fun w=>by rw[w,hg] at h;cases h.2.1];exact h.1,(a.un x hx).2⟩
   xs:=IV a.xs _ (by simp)}
theorem C4.rd (a:C4 X wk g c A gs cs gv rc p kn od rm rl ps H) {z:Str}{v:Int} (hr:Rows kn (ps++[(z,v)])):But (A.all wk rl) H (upd H rl (.lst ((ps.map fun q=>V.str q.1)++[.str z])))/\C4 X wk g c A gs cs gv rc p kn od rm rl (ps++[(z,v)]) (upd H rl (.lst ((ps.map fun q=>V.str q.1)++[.str z]))):=by
 obtain⟨kw,ws,e,k,hv⟩:=a.ew
 obtain⟨kg,kc,eh,eg,ec,bd⟩:=a.ho
 obtain⟨ts,et,tl⟩:=a.et
 have b:But [rl] H (upd H rl (.lst ((ps.map fun q=>V.str q.1)++[.str z]))):=But.set _ (by simp)
 have t:jg H (upd H rl (.lst ((ps.map fun q=>V.str q.1)++[.str z]))):=CJ _ a.er
 have nn:∀{q:Addr}{kv:List (Key×V)},H q=some (.dK kv)->q≠rl:=fun e w=>by have:=a.er;rw[<-w,e] at this;cases this
 refine⟨fun y o hy=>b y o (fun w=>hy (by rw[show y=rl by simpa using w];exact gC.2.2.2.2)), ?_⟩
 exact
  {a with
   ek:=(ao (nn a.ek)).trans a.ek
   ho:=⟨kg,kc,t _ _ eh,(ao (nn eg)).trans eg,(ao (nn ec)).trans ec,bd.tups t⟩
   ew:=⟨kw,ws,(ao (nn e)).trans e,k,hv⟩
   ep:=(ao a.n3).trans a.ep
   et:=⟨ts,(ao a.n4).trans et,tl.but b t (fun y hy=>by rw[show y=rl by simpa using hy];exact a.sx _ gC.2.2.2.2)⟩
   er:=by rw[ak,List.map_append];rfl
   row:=hr
   xs:=IV a.xs _ (by simp)}
theorem C4.begin (a:C4 X wk g c A gs cs gv rc p kn od rm rl ps H) {z:Str}{r:R}{rl2:Addr} (hk:kn z=none) (hg:gv z=none) (hr:rc z=some r) (hz:z∉p) (h2:upd H A.op (.lst ((z::p).reverse.map V.str)) rl2=none):
 But [wk,A.op] H (upd (upd (upd H A.op (.lst ((z::p).reverse.map V.str))) rl2 (.lst [])) wk (.dK (wkD A rl2 .non)))/\
 C4 (rl2::X) wk g c A gs cs gv rc (z::p) kn od rm rl2 [] (upd (upd (upd H A.op (.lst ((z::p).reverse.map V.str))) rl2 (.lst [])) wk (.dK (wkD A rl2 .non))):=by
 obtain⟨kw,ws,e,k,hv⟩:=a.ew
 obtain⟨kg,kc,eh,eg,ec,bd⟩:=a.ho
 obtain⟨ts,et,tl⟩:=a.et
 have b1:But [A.op] H (upd H A.op (.lst ((z::p).reverse.map V.str))):=But.set _ (by simp)
 have t1:jg H (upd H A.op (.lst ((z::p).reverse.map V.str))):=CJ _ a.ep
 have nn:∀{q:Addr}{kv:List (Key×V)},H q=some (.dK kv)->q≠A.op:=fun e w=>by have:=a.ep;rw[<-w,e] at this;cases this
 have h20:H rl2=none:=by
  by_cases w:rl2=A.op
  ·rw[w,ak] at h2;cases h2
  ·rwa [ao w] at h2
 have nr:∀{q:Addr}{o:HO},H q=some o->q≠rl2:=fun e w=>by rw[w,h20] at e;cases e
 have s2:=au (.lst []) h2
 have ek1:=(ao (o:= .lst ((z::p).reverse.map V.str)) (nn a.ek)).trans a.ek
 have ek2:=s2 _ _ ek1
 have t2:jg H (upd (upd H A.op (.lst ((z::p).reverse.map V.str))) rl2 (.lst [])):=fun y xs w=>s2 _ _ (t1 y xs w)
 have t3:jg H (upd (upd (upd H A.op (.lst ((z::p).reverse.map V.str))) rl2 (.lst [])) wk (.dK (wkD A rl2 .non))):=fun y xs w=>vJ ek2 y xs (t2 y xs w)
 have b3:But [wk,A.op] H (upd (upd (upd H A.op (.lst ((z::p).reverse.map V.str))) rl2 (.lst [])) wk (.dK (wkD A rl2 .non))):=fun y o hy e=>by
  have h1:y≠wk:=fun w=>hy (by simp[w])
  have h3:y≠A.op:=fun w=>hy (by simp[w])
  rw[ao h1,ao (nr e),ao h3];exact e
 have at_:∀{y:Addr}{o:HO},H y=some o->y≠wk->y≠A.op->upd (upd (upd H A.op (.lst ((z::p).reverse.map V.str))) rl2 (.lst [])) wk (.dK (wkD A rl2 .non)) y=some o:=fun e h1 h3=>by
  rw[ao h1,ao (nr e),ao h3];exact e
 have nw:∀{q:Addr}{xs:List V},H q=some (.lst xs)->q≠wk:=fun e w=>by have:=a.ek;rw[<-w,e] at this;cases this
 have n2w:rl2≠wk:=fun w=>by have:=a.ek;rw[<-w,h20] at this;cases this
 refine⟨b3, ?_⟩
 exact
  {ek:=ak
   ho:=⟨kg,kc,t3 _ _ eh,at_ eg a.n5.1 (nn eg),at_ ec a.n6.1 (nn ec),bd.tups t3⟩
   ew:=⟨kw,ws,at_ e (Ne.symm a.n1) (nn e),k,hv⟩
   ep:=by rw[ao (nw a.ep),ao (nr a.ep),ak]
   et:=⟨ts,at_ et (nw et) (Ne.symm a.n2),(tl.but b3 t3 (fun y hy=>by
    have:y=wk\/y=A.op:=by simpa using hy
    rcases this with rfl | rfl
    ·exact a.sx _ gC.1
    ·exact a.sx _ gC.2.2.1)).less (X:=X) (fun _ h=>h) |>fun q=>⟨q.1,fun i x hx=>by
     obtain⟨T,l,as,r',ps',v',h1,h2',h3,h4,h5,h6⟩:=tl.2 i x hx
     have hlw:l∉[wk,A.op]:=fun w=>by
      have:l=wk\/l=A.op:=by simpa using w
      rcases this with rfl | rfl
      ·exact h6 (a.sx _ gC.1)
      ·exact h6 (a.sx _ gC.2.2.1)
     exact⟨T,l,as,r',ps',v',h1,t3 _ _ h2',b3 _ _ hlw h3,h4.tups t3,h5,fun w=>by
      rcases List.mem_cons.mp w with w | w
      ·exact nr h3 w
      ·exact h6 w⟩⟩⟩
   er:=by rw[ao n2w,ak];rfl
   row:=⟨by simp,by simp⟩
   ok:=a.ok
   om:=a.om
   bd:=a.bd.path
   n1:=a.n1
   n2:=a.n2
   n3:=nr a.ep
   n4:=nr et
   n5:=a.n5
   n6:=a.n6
   un:=fun x hx=>by
    rcases List.mem_cons.mp hx with w | w
    ·rw[w];exact⟨hk,hg,by rw[hr];simp⟩
    ·exact a.un x w
   pn:=List.nodup_cons.mpr ⟨hz,a.pn⟩
   k4:=a.k4
   xs:=fun y hy=>by
    rcases List.mem_cons.mp hy with w | w
    ·rw[w];exact⟨.lst [],by rw[ao n2w,ak],by simp⟩
    ·exact IV (IV (IV a.xs _ (by simp)) _ (by simp)) _ (by simp) y w
   sx:=fun y hy=>by
    have:y=wk\/y=A.wd\/y=A.op\/y=A.td\/y=rl2:=by simpa [W4.all] using hy
    rcases this with rfl | rfl | rfl | rfl | rfl
    ·exact List.mem_cons_of_mem _ (a.sx _ gC.1)
    ·exact List.mem_cons_of_mem _ (a.sx _ gC.2.1)
    ·exact List.mem_cons_of_mem _ (a.sx _ gC.2.2.1)
    ·exact List.mem_cons_of_mem _ (a.sx _ gC.2.2.2.1)
    ·simp}
end
section
variable {X:List Addr}{wk g c:Addr}{A:W4}{gs cs:List Str}{gv:Kn}{rc:Rn}{p:List Str}{kn:Kn}{od:List Str}{rm:Rm}{rl rl2:Addr}{ps ps0:List Rdp}{H H3:Hp}
theorem C4.close {z:Str}{r:R}{v:Int}{kw:List (Key×V)}{ts as:List Addr}{D T:Addr} (a:C4 (rl2::X) wk g c A gs cs gv rc (z::p) kn od rm rl2 ps H) (hr:rc z=some r) (got:mW r kn0 ps v)
 (ew:H A.wd=some (.dK kw)) (et:H A.td=some (.lst (ts.map V.ref)))
 (s3:aQ (upd (upd H A.op (.lst (p.reverse.map V.str))) A.wd (.dK (putK kw (.inr z) (.int v)))) H3) (eD:H3 D=some (.lst (as.map V.ref))) (fD:upd (upd H A.op (.lst (p.reverse.map V.str))) A.wd (.dK (putK kw (.inr z) (.int v))) D=none) (is:iC H3 as ps) (fT:H3 T=none)
 (erl:H rl=some (.lst (ps0.map fun q=>V.str q.1))) (aji:Rows kn ps0) (sx:∀y∈A.all wk rl,y∈X) (n3:A.op≠rl) (n4:A.td≠rl):
 But (A.all wk rl2) H (upd (upd (upd H3 T (.tup [.str z, .ref D])) A.td (.lst (ts.map V.ref++[.ref T]))) wk (.dK (wkD A rl .non)))/\
 C4 X wk g c A gs cs gv rc p (kn.put z v) (od++[z]) (rm.put z (r,ps,v)) rl ps0 (upd (upd (upd H3 T (.tup [.str z, .ref D])) A.td (.lst (ts.map V.ref++[.ref T]))) wk (.dK (wkD A rl .non)))/\Kn.Le kn (kn.put z v)/\ev kn r= .inr v:=by
 obtain⟨kw',ws,e',k,hv⟩:=a.ew
 rw[ew] at e';cases e'
 obtain⟨kg,kc,eh,eg,ec,bd⟩:=a.ho
 obtain⟨ts',et',tl⟩:=a.et
 rw[et] at et'
 have ets:ts'=ts:=by
  have:=Option.some.inj et'
  have h1:=HO.lst.inj this
  exact((List.map_inj_right (fun x y h=>V.ref.inj h)).mp h1).symm
 subst ets
 have hz:=a.un z (by simp)
 have hzp:z∉p:=(List.nodup_cons.mp a.pn).1
 have hev:ev kn r= .inr v:=lX (fun y u e=>by
  rcases uA e with w | w
  ·exact a.row.s _ w
  ·cases w) got.e
 have le:Kn.Le kn (kn.put z v):=Kn.vI hz.1
 have nn:∀{q:Addr}{kv:List (Key×V)},H q=some (.dK kv)->q≠A.op/\q≠A.td:=fun e=>⟨fun w=>(by have:=a.ep;rw[<-w,e] at this;cases this),fun w=>(by rw[<-w,e] at et;cases et)⟩
 have nl:∀{q:Addr}{xs:List V},H q=some (.lst xs)->q≠wk/\q≠A.wd:=fun e=>⟨fun w=>(by have:=a.ek;rw[<-w,e] at this;cases this),fun w=>(by rw[<-w,e] at ew;cases ew)⟩
 have up2:∀{y:Addr}{o:HO},H y=some o->y≠A.op->y≠A.wd->H3 y=some o:=fun e h1 h2=>s3 _ _ ((ao h2).trans ((ao h1).trans e))
 have up6:∀{y:Addr}{o:HO},H3 y=some o->y≠A.td->y≠wk->upd (upd (upd H3 T (.tup [.str z, .ref D])) A.td (.lst (ts'.map V.ref++[.ref T]))) wk (.dK (wkD A rl .non)) y=some o:=fun e h1 h2=>by
  rw[ao h2,ao h1,ao (fun w=>by rw[w,fT] at e;cases e)];exact e
 have op3:H3 A.op=some (.lst (p.reverse.map V.str)):=s3 _ _ ((ao (nl a.ep).2).trans ak)
 have wd3:H3 A.wd=some (.dK (putK kw (.inr z) (.int v))):=s3 _ _ ak
 have td3:=up2 et (Ne.symm a.n2) (nl et).2
 have wk3:=up2 a.ek (nn a.ek).1 a.n1
 have nT:∀{y:Addr}{o:HO},H3 y=some o->y≠T:=fun e w=>by rw[w,fT] at e;cases e
 have t6:jg H (upd (upd (upd H3 T (.tup [.str z, .ref D])) A.td (.lst (ts'.map V.ref++[.ref T]))) wk (.dK (wkD A rl .non))):=fun y xs e=>by
  have h1:y≠A.op:=fun w=>by have:=a.ep;rw[<-w,e] at this;cases this
  have h2:y≠A.wd:=fun w=>by rw[<-w,e] at ew;cases ew
  have h3:y≠A.td:=fun w=>by rw[<-w,e] at et;cases et
  have h4:y≠wk:=fun w=>by have:=a.ek;rw[<-w,e] at this;cases this
  exact up6 (up2 e h1 h2) h3 h4
 have t36:jg H3 (upd (upd (upd H3 T (.tup [.str z, .ref D])) A.td (.lst (ts'.map V.ref++[.ref T]))) wk (.dK (wkD A rl .non))):=fun y xs e=>up6 e (fun w=>by rw[w,td3] at e;cases e) (fun w=>by rw[w,wk3] at e;cases e)
 have b6:But (A.all wk rl2) H (upd (upd (upd H3 T (.tup [.str z, .ref D])) A.td (.lst (ts'.map V.ref++[.ref T]))) wk (.dK (wkD A rl .non))):=fun y o hy e=>by
  have h1:y≠A.op:=fun w=>hy (by simp[W4.all,w])
  have h2:y≠A.wd:=fun w=>hy (by simp[W4.all,w])
  have h3:y≠A.td:=fun w=>hy (by simp[W4.all,w])
  have h4:y≠wk:=fun w=>hy (by simp[W4.all,w])
  exact up6 (up2 e h1 h2) h3 h4
 have eT:upd (upd (upd H3 T (.tup [.str z, .ref D])) A.td (.lst (ts'.map V.ref++[.ref T]))) wk (.dK (wkD A rl .non)) T=some (.tup [.str z, .ref D]):=by
  rw[ao (Ne.symm (nT wk3)),ao (Ne.symm (nT td3)),ak]
 have nDX:∀y∈X,D≠y:=fun y hy w=>by
  obtain⟨o,eo,_⟩:=a.xs y (List.mem_cons_of_mem _ hy)
  have:∃o',upd (upd H A.op (.lst (p.reverse.map V.str))) A.wd (.dK (putK kw (.inr z) (.int v))) y=some o':=by
   by_cases w1:y=A.wd
   ·exact⟨_,by rw[w1];exact ak⟩
   ·rw[ao w1]
    by_cases w2:y=A.op
    ·exact⟨_,by rw[w2];exact ak⟩
    ·exact⟨o,(ao w2).trans eo⟩
  obtain⟨o',ho'⟩:=this
  rw[<-w,fD] at ho';cases ho'
 have hod:z∉od:=fun w=>a.bd.kn z w hz.1
 have ks:∃ws',nC (putK kw (.inr z) (.int v)) ws':=by
  by_cases w:z∈ws
  ·exact⟨_,k.Bc w _⟩
  ·exact⟨_,k.tH w _⟩
 obtain⟨ws',k'⟩:=ks
 have nrl:rl≠wk/\rl≠A.wd:=nl erl
 have ajj:=up6 (up2 erl (Ne.symm n3) nrl.2) (Ne.symm n4) nrl.1
 refine⟨b6, ?_,le,hev⟩
 exact
  {ek:=ak
   ho:=⟨kg,kc,t6 _ _ eh,up6 (up2 eg (nn eg).1 a.n5.2) (nn eg).2 a.n5.1,up6 (up2 ec (nn ec).1 a.n6.2) (nn ec).2 a.n6.1,bd.tups t6⟩
   ew:=⟨_,ws',up6 wd3 (nn ew).2 (Ne.symm a.n1),k',vK hv z v⟩
   ep:=up6 op3 a.n2 (nl a.ep).1
   et:=by
    refine⟨ts'++[T],by rw[ao (nl et).1,ak,List.map_append];rfl,by rw[List.length_append,List.length_append,tl.1];rfl,fun i x hx=> ?_⟩
    by_cases hi:i<od.length
    ·rw[List.getElem?_append_left hi] at hx
     obtain⟨T',l,as',r',ps',v',h1,h2,h3,h4,h5,h6⟩:=tl.2 i x hx
     have hxz:x≠z:=fun w=>hod (by rw[<-w];exact List.mem_of_getElem? hx)
     refine⟨T',l,as',r',ps',v',by rw[List.getElem?_append_left (by rw[tl.1];exact hi)];exact h1,t6 _ _ h2,b6 _ _ (fun w=>h6 (a.sx l w)) h3,h4.tups t6,by unfold Rm.put;rw[if_neg hxz];exact h5,fun w=>h6 (List.mem_cons_of_mem _ w)⟩
    ·have hi':i=od.length:=by
      have:=(List.getElem?_eq_some_iff.mp hx).1
      rw[List.length_append] at this
      have:i<od.length+1:=this
      omega
     subst hi'
     have hxz:x=z:=by
      rw[List.getElem?_append_right (Nat.le_refl _)] at hx
      simpa using hx.symm
     subst hxz
     refine⟨T,D,as,r,ps,v,by rw[<-tl.1,List.getElem?_append_right (Nat.le_refl _)];simp,eT,up6 eD ?_ ?_,is.tups t36,by unfold Rm.put;rw[if_pos rfl],fun w=>nDX _ w rfl⟩
     ·exact nDX _ (sx _ gC.2.2.2.1)
     ·exact nDX _ (sx _ gC.1)
   er:=ajj
   row:=aji.le le
   ok:=a.ok.tG hz.1 hz.2.1 hr got a.row
   om:=fun x=>by
    unfold Rm.put
    by_cases w:x=z
    ·rw[if_pos w];simp[w]
    ·rw[if_neg w,<-a.om x]
     simp[w]
   bd:=(BdI.step (gv:=gv) a.k4.b a.hr a.bd (Fb hz.2.1 hz.1 hr hev)).path
   n1:=a.n1
   n2:=a.n2
   n3:=n3
   n4:=n4
   n5:=a.n5
   n6:=a.n6
   un:=fun x hx=>⟨by
    unfold Kn.put
    rw[if_neg fun w=>hzp (by rw[<-w];exact hx)];exact(a.un x (by simp[hx])).1,(a.un x (by simp[hx])).2⟩
   pn:=(List.nodup_cons.mp a.pn).2
   k4:=a.k4
   xs:=fun y hy=>by
    obtain⟨o,eo,no⟩:=a.xs y (List.mem_cons_of_mem _ hy)
    by_cases w4:y=wk
    ·rw[w4];exact⟨_,ak,by simp⟩
    ·by_cases w3:y=A.td
     ·rw[w3];exact⟨_,by rw[ao (nl et).1];exact ak,by simp⟩
     ·by_cases w2:y=A.wd
      ·rw[w2];exact⟨_,up6 wd3 (nn ew).2 (Ne.symm a.n1),by simp⟩
      ·by_cases w1:y=A.op
       ·rw[w1];exact⟨_,up6 op3 a.n2 (nl a.ep).1,by simp⟩
       ·exact⟨o,up6 (up2 eo w1 w2) w3 w4,no⟩
   sx:=sx}
end
open PySem.Builtin.Int (intBits)
def R.Nb:R->Prop
 | .num n=>intBits n<=41
 | .rd _=>True
 | .bin _ a b=>a.Nb/\b.Nb
 | .pick a b c=>a.Nb/\b.Nb/\c.Nb
 | .cho a ns=>a.Nb/\1<=ns.length
theorem yd:∀{r:R},r.Lin->r.Nb
 | .num _,h=>h
 | .rd _,_=>trivial
 | .bin _ a b,h=>⟨yd h.1,yd h.2.1⟩
 | .pick a b c,h=>⟨yd h.1,yd h.2.1,yd h.2.2⟩
 | .cho a ns,h=>⟨yd h.1,h.2⟩
theorem adq {r:R} (h:r.Top):r.Nb:=by
 rcases h with h | ⟨x,s,rfl,hs⟩
 ·exact yd h
 ·exact⟨trivial,yd hs⟩
def bw (d:Nat):Nat:=434200 * 2 ^ d
theorem Ln (d:Nat):bw (d+1)=2 * bw d:=by unfold bw;rw[Nat.pow_succ];omega
theorem WW (d:Nat):434200<=bw d:=by
 unfold bw
 have:1<=2 ^ d:=Nat.one_le_two_pow
 exact Nat.le_mul_of_pos_right _ this
theorem Lp {op:Op}{u v:Int}{d:Nat} (hu:intBits u<=bw d) (hv:intBits v<=bw d):intBits (op.ap u v)<=bw (d+1):=by
 have h0:=WW d
 rw[Ln]
 cases op with
 | plus=>have:=intBits_add_le hu hv;show intBits (u+v)<=_;omega
 | minus=>have:=intBits_sub_le hu hv;show intBits (u - v)<=_;omega
 | times=>have:=intBits_mul_le hu hv;show intBits (u * v)<=_;omega
 | most=>
   show intBits (if v>u then v else u)<=_
   split<;>omega
theorem Qu {u v:Int}{d:Nat} (hd:d<=6) (hu:intBits u<=bw d) (hv:intBits v<=bw d):qR u v:=by
 have h:bw d<=bw 6:=Nat.mul_le_mul_left _ (Nat.pow_le_pow_right (by decide) hd)
 have h6:bw 6=27788800:=by decide
 exact .big (IntMulOk.of_le hu hv (by omega))
def st4 (p:List Str) (z:Str) (kn:Kn) (od:List Str):Ms:=(match p with |[]=>[z] | x::q=>x::q,kn,od)
def Qv (gv:Kn) (rc:Rn) (s:Ms) (e:Er):Prop:=∃t,jk gv rc s t/\lF gv rc t=some e
inductive Lo4 (f:Nat) (vs:List V) (H:Hp) (Q:VK):Prop
 | run {X:List Addr}{wk g c:Addr}{A:W4}{gs cs:List Str}{gv:Kn}{rc:Rn}{p:List Str}{kn:Kn}{od:List Str}{rm:Rm}{rl:Addr}{ps:List Rdp}{z:Str} (hv:vs=[.ref wk, .str z]) (cx:C4 X wk g c A gs cs gv rc p kn od rm rl ps H)
    (ct:kn z=none->∀x q,p=x::q->∃r,rc x=some r/\ev kn r= .inl z) (hf:14<=p.length+f)
    (q:∀v kn' od' rm' ps2 H',But (A.all wk rl) H H'->C4 X wk g c A gs cs gv rc p kn' od' rm' rl (ps++ps2) H'->kn' z=some v->Kn.Le kn kn'->jk gv rc (st4 p z kn od) (p,kn',od')->mW (.rd z) (kn0.puts ps) ps2 v->Q (.int v) H')
    (qe:∀e t H',But (A.all wk rl) H H'->Qv gv rc (st4 p z kn od) e->H' wk=some (.dK (wkD A rl (.ref t)))->ErT e t H'->iK H' A.h g c gs cs gv rc->Q (.int 0) H'):Lo4 f vs H Q
 | stop {wk g c rl t:Addr}{A:W4}{gs cs:List Str}{gv:Kn}{rc:Rn}{z:Str} (hv:vs=[.ref wk, .str z]) (ek:H wk=some (.dK (wkD A rl (.ref t)))) (ho:iK H A.h g c gs cs gv rc) (q:Q (.int 0) H):Lo4 f vs H Q
def Od (f:Nat):Sp:=fun vs H Q _=>Lo4 f vs H Q
inductive Wo4 (f d:Nat) (vs:List V) (H:Hp) (Q:VK):Prop
 | run {X:List Addr}{wk g c b:Addr}{A:W4}{gs cs:List Str}{gv:Kn}{rc:Rn}{x:Str}{p:List Str}{kn:Kn}{od:List Str}{rm:Rm}{rl:Addr}{ps:List Rdp}{r a:R} (hv:vs=[.ref wk, .ref b]) (cx:C4 X wk g c A gs cs gv rc (x::p) kn od rm rl ps H)
    (hr:rc x=some r) (hR:IsR H b a) (hd:a.depth<=d) (nb:a.Nb) (ct:∀kn' y,Kn.Le kn kn'->ev kn' a= .inl y->ev kn' r= .inl y) (hf:14<=(x::p).length+f)
    (q:∀v kn' od' rm' ps2 H',But (A.all wk rl) H H'->C4 X wk g c A gs cs gv rc (x::p) kn' od' rm' rl (ps++ps2) H'->Kn.Le kn kn'->jk gv rc (x::p,kn,od) (x::p,kn',od')->mW a (kn0.puts ps) ps2 v->intBits v<=bw d->Q (.int v) H')
    (qe:∀n e t H',But (A.all wk rl) H H'->Qv gv rc (x::p,kn,od) e->H' wk=some (.dK (wkD A rl (.ref t)))->ErT e t H'->iK H' A.h g c gs cs gv rc->intBits n<=bw d->Q (.int n) H'):Wo4 f d vs H Q
 | stop {wk b rl t:Addr}{A:W4}{a:R} (hv:vs=[.ref wk, .ref b]) (ek:H wk=some (.dK (wkD A rl (.ref t)))) (hR:IsR H b a) (nb:a.Nb) (q:∀n H',aQ H H'->intBits n<=41->Q (.int n) H'):Wo4 f d vs H Q
def Sv (f d:Nat):Sp:=fun vs H Q _=>Wo4 f d vs H Q
def af6 (f:Nat):Nat->Sp
 | 0=>fun _ _ _ _=>False
 | d+1=>Sv f d
def af7:Nat->Sp
 | 0=>fun _ _ _ _=>False
 | f+1=>Sv f 5
theorem Lq {a:R}{ps us:List Rdp}{v:Int}{kn:Kn} (g:mW a (kn0.puts ps) us v) (h:Rows kn (ps++us)):ev kn a= .inr v:=lX (fun y u e=>by
 rw[<-Kn.fW] at e
 rcases uA e with w | w
 ·exact h.s _ w
 ·cases w) g.e
theorem WX (d:Nat):intBits 0<=bw d:=by rw[show intBits 0=0 from rfl];omega
theorem Qv.of {gv:Kn}{rc:Rn}{s t:Ms}{e:Er} (m:jk gv rc s t) (h:Qv gv rc t e):Qv gv rc s e:=let ⟨u,m2,he⟩:=h;⟨u,m.trans m2,he⟩
theorem Oe {H:Hp}{wk rl:Addr}{A:W4}{v:V} (e:H wk=some (.dK (wkD A rl v))):cD H wk (.str "house") (some (.ref A.h)):=cD.k (k:= .inr "house") e
theorem Fj {H:Hp}{wk rl:Addr}{A:W4}{v:V} (e:H wk=some (.dK (wkD A rl v))):cD H wk (.str "worths") (some (.ref A.wd)):=cD.k (k:= .inr "worths") e
theorem Sw {H:Hp}{wk rl:Addr}{A:W4}{v:V} (e:H wk=some (.dK (wkD A rl v))):cD H wk (.str "open") (some (.ref A.op)):=cD.k (k:= .inr "open") e
theorem Og {H:Hp}{wk rl:Addr}{A:W4}{v:V} (e:H wk=some (.dK (wkD A rl v))):cD H wk (.str "reads") (some (.ref rl)):=cD.k (k:= .inr "reads") e
theorem Lr {H:Hp}{wk rl:Addr}{A:W4}{v:V} (e:H wk=some (.dK (wkD A rl v))):cD H wk (.str "told") (some (.ref A.td)):=cD.k (k:= .inr "told") e
theorem Ls {H:Hp}{wk rl:Addr}{A:W4}{v:V} (e:H wk=some (.dK (wkD A rl v))):cD H wk (.str "stop") (some v):=cD.k (k:= .inr "stop") e
theorem qJ {H:Hp}{wk rl:Addr}{A:W4}{v:V} (e:H wk=some (.dK (wkD A rl v))) (rl2:Addr):lD H wk (.str "reads") (.ref rl2) (upd H wk (.dK (wkD A rl2 v))):=lD.k (k:= .inr "reads") e (bD (by show 6<=1000;decide))
theorem ye {H:Hp}{wk rl:Addr}{A:W4}{v:V} (e:H wk=some (.dK (wkD A rl v))) (u:V):lD H wk (.str "stop") u (upd H wk (.dK (wkD A rl u))):=lD.k (k:= .inr "stop") e (bD (by show 6<=1000;decide))
end RB
namespace L2
open PySem PySem.Spec PyProof.Rows RB
def ajk (t:TS):TS:=fun D σ H=>∃N:St->Hp->Prop,(∀σ' H',N σ' H'->D.nx σ' H')/\t {D with nx:=N} σ H
theorem Qw {X:Cx}{st:Stmt}{t:TS} (h:QS X st t):QS X st (ajk t):=⟨by
 intro pins s σ H D I ⟨N,hN,q⟩
 refine thn (h.h pins s σ H _ I q) fun f s' q=> ?_
 cases f with
 | next=>obtain⟨σ',H',J,q⟩:=q;exact⟨σ',H',J,hN σ' H' q⟩
 | brk=>exact q
 | cont=>exact q
 | ret u=>exact q⟩
end L2
namespace RB
open PySem L2 PySem.Spec PyProof.Rows
theorem ErT.updk {e:Er}{t wk:Addr}{H:Hp}{kv:List (Key×V)}{o:HO} (h:ErT e t H) (ek:H wk=some (.dK kv)):ErT e t (upd H wk o):=by
 cases e with
 | no y=>
   have h:H t=_:=h
   exact(ao (fun z=>by rw[z,ek] at h;cases h)).trans h
 | ring zs=>
   obtain⟨l,h1,h2⟩:=h
   exact⟨l,(ao (fun z=>by rw[z,ek] at h1;cases h1)).trans h1,(ao (fun z=>by rw[z,ek] at h2;cases h2)).trans h2⟩
theorem iK.updk {H:Hp}{h g c wk:Addr}{gs cs:List Str}{gv:Kn}{rc:Rn}{kv:List (Key×V)}{o:HO} (a:iK H h g c gs cs gv rc) (ek:H wk=some (.dK kv)) (n1:g≠wk) (n2:c≠wk):iK (upd H wk o) h g c gs cs gv rc:=by
 obtain⟨kg,kc,e,e1,e2,b⟩:=a
 have t:jg H (upd H wk o):=vJ ek
 exact⟨kg,kc,t _ _ e,(ao n1).trans e1,(ao n2).trans e2,b.tups t⟩
theorem Qx {gv:Kn}{rc:Rn}{p:List Str}{z:Str}{kn:Kn}{od:List Str} (un:∀x∈p,kn x=none/\gv x=none/\rc x≠none) (ct:∀x q,p=x::q->∃r,rc x=some r/\ev kn r= .inl z) (hz:z∉p):jk gv rc (st4 p z kn od) (z::p,kn,od):=by
 cases p with
 | nil=>exact jk.refl _
 | cons x q=>
   obtain⟨r,hr,he⟩:=ct x q rfl
   obtain⟨h1,h2,_⟩:=un x (by simp)
   exact(jk.refl _).snoc (Iv h2 hr he hz) (G8 h2 h1 hr he)
theorem af8 {gv:Kn}{rc:Rn}{p:List Str}{z:Str}{kn:Kn}{od:List Str}{v:Int} (hk:kn z=some v):jk gv rc (st4 p z kn od) (p,kn,od):=by
 cases p with
 | nil=>exact(jk.refl _).snoc (zE hk) (EY (by rw[hk];simp))
 | cons x q=>exact jk.refl _
theorem ajl {gv:Kn}{rc:Rn}{p:List Str}{z:Str}{kn:Kn}{od:List Str}{v:Int} (un:∀x∈p,kn x=none/\gv x=none/\rc x≠none) (ct:kn z=none->∀x q,p=x::q->∃r,rc x=some r/\ev kn r= .inl z) (hg:gv z=some v) (ok:∀u,kn z=some u->u=v):jk gv rc (st4 p z kn od) (p,kn.put z v,od):=by
 have hkx:(kn.put z v) z=some v:=by unfold Kn.put;rw[if_pos rfl]
 cases hk:kn z with
 | some u=>
   have:kn.put z v=kn:=by
    funext y
    unfold Kn.put
    by_cases w:y=z
    ·rw[if_pos w,w,hk,ok u hk]
    ·rw[if_neg w]
   rw[this];exact af8 hk
 | none=>
   have hz:z∉p:=fun w=>by have:=(un z w).2.1;rw[hg] at this;cases this
   exact((Qx un (ct hk) hz).snoc (Fg hg) (La hk hg)).snoc (zE hkx) (EY (by rw[hkx];simp))
section
variable {prog:Program}{w:World}{A:Around}{E:Value->Shared->Prop}{s:Shared}
end
section
variable {prog:Program}{w:World}{A:Around}{R:Result->Shared->Prop}{I:Addr}{fp wr:List Addr}{G:Array GenState->Array GenState->Prop}{n:Nat}{P:Nat->Value->Prop}{St:Nat->Shared->Prop}
end
section
variable {prog:Program}{w:World}{A:Around}{E:Value->Shared->Prop}{s:Shared}
end
namespace SI
end SI
section
variable {prog:Program}{w:World}{A:Around}{E:Value->Shared->Prop}{s:Shared}
end
namespace SI
end SI
section
variable {prog:Program}{w:World}{A:Around}{E:Value->Shared->Prop}{s:Shared}
end
section
variable {prog:Program}{w:World}{A:Around}{E:Value->Shared->Prop}{s:Shared}
end
section
variable {prog:Program}{w:World}{A:Around}{E:Value->Shared->Prop}{s:Shared}
end
end RB
namespace TS
open PySem PyProof.Rows
section
variable {prog:Program}{w:World}{A:Around}{E:Value->Shared->Prop}{s:Shared}
end
section
variable {κ:PyProof.Rows.KeyKind}
end
section
variable {prog:Program}{w:World}{A:Around}{E:Value->Shared->Prop}{s:Shared}{κ:PyProof.Rows.KeyKind}
end
section
variable {prog:Program}{w:World}{A:Around}{E:Value->Shared->Prop}{s:Shared}{κ:PyProof.Rows.KeyKind}
end
section
variable {prog:Program}{w:World}{A:Around}{E:Value->Shared->Prop}{s:Shared}{κ:PyProof.Rows.KeyKind}{a b r:Array Keyed}{i j:Nat}{st st':SortSt}
end
section
variable {prog:Program}{w:World}{A:Around}{E:Value->Shared->Prop}{s:Shared}{κ:PyProof.Rows.KeyKind}{a b r:Array Keyed}{i j:Nat}{st st':SortSt}
end
section
variable {prog:Program}{w:World}{A:Around}{E:Value->Shared->Prop}{s:Shared}{κ:PyProof.Rows.KeyKind}{a b r:Array Keyed}{i j:Nat}{st st':SortSt}
end
section
variable {κ:PyProof.Rows.KeyKind}
end
section
variable {κ:PyProof.Rows.KeyKind}{a b r:Array Keyed}{i j:Nat}
end
section
variable {prog:Program}{w:World}{A:Around}{E:Value->Shared->Prop}{s:Shared}{κ:PyProof.Rows.KeyKind}{a b r:Array Keyed}{i j:Nat}{st st':SortSt}
end
section
variable {prog:Program}{w:World}{A:Around}{E:Value->Shared->Prop}{s:Shared}{κ:PyProof.Rows.KeyKind}{a b r:Array Keyed}{i j:Nat}{st st':SortSt}
end
section
variable {prog:Program}{w:World}{A:Around}{E:Value->Shared->Prop}{s:Shared}{κ:PyProof.Rows.KeyKind}{st:SortSt}
end
section
variable {prog:Program}{w:World}{A:Around}{E:Value->Shared->Prop}{s:Shared}{κ:PyProof.Rows.KeyKind}{st:SortSt}
end
section
variable {prog:Program}{w:World}{A:Around}{E:Value->Shared->Prop}{s:Shared}{κ:PyProof.Rows.KeyKind}{a₀:Array Keyed}{p₀:Array (Nat×Nat×Nat)}{b:Nat}{st:SortSt}
end
section
variable {prog:Program}{w:World}{A:Around}{E:Value->Shared->Prop}{s:Shared}{κ:PyProof.Rows.KeyKind}{a₀:Array Keyed}{p₀:Array (Nat×Nat×Nat)}{b:Nat}{st:SortSt}
end
section
variable {prog:Program}{w:World}{A:Around}{E:Value->Shared->Prop}{s:Shared}{κ:PyProof.Rows.KeyKind}{a₀:Array Keyed}{st:SortSt}{Rs:List (List Keyed)}{S:List Keyed}
end
section
variable {prog:Program}{w:World}{A:Around}{E:Value->Shared->Prop}{s:Shared}{κ:PyProof.Rows.KeyKind}{a₀:Array Keyed}{st:SortSt}{Rs:List (List Keyed)}{S:List Keyed}
end
section
variable {prog:Program}{w:World}{A:Around}{E:Value->Shared->Prop}{s:Shared}{κ:PyProof.Rows.KeyKind}{a₀:Array Keyed}{st:SortSt}{Rs:List (List Keyed)}{S:List Keyed}
end
section
variable {prog:Program}{w:World}{A:Around}{E:Value->Shared->Prop}{s:Shared}{κ:PyProof.Rows.KeyKind}
end
end TS
namespace RB
open PySem L2 PySem.Spec PyProof.Rows
namespace SI
end SI
section
variable {prog:Program}{w:World}{A:Around}{E:Value->Shared->Prop}{s:Shared}
end
end RB
namespace L2
open PySem PySem.Spec PyProof.Rows RB
section
variable {X:Cx}{pins:List (Addr×Obj)}{σ:List (Option V)}{H:Hp}{s:Shared}
end
end L2
namespace L2
open PySem PySem.Spec PyProof.Rows
namespace SI
end SI
end L2
namespace RB
open PySem L2 PySem.Spec PyProof.Rows
namespace SI
end SI
section
variable {prog:Program}{w:World}{A:Around}{E:Value->Shared->Prop}{s:Shared}
end
end RB
namespace L2
open PySem PySem.Spec PyProof.Rows RB
section
variable {X:Cx}{tg:Expr}
end
end L2
namespace RB
open PySem L2 PySem.Spec PyProof.Rows
end RB
namespace L2
open PySem PySem.Spec PyProof.Rows
section
variable {P:Program}{w:World}{A:Around}{E:Value->Shared->Prop}{s:Shared}
end
section
variable {P:Program}{w:World}{A:Around}{E:Value->Shared->Prop}{s:Shared}{u:Value}
end
section
variable {P:Program}{w:World}{A:Around}{E:Value->Shared->Prop}{s:Shared}{d it:Addr}{es:Array DictEntry}{ep i:Nat}
end
section
variable {P:Program}{w:World}{A:Around}{E:Value->Shared->Prop}{s:Shared}{d it:Addr}{es:Array DictEntry}{ep i:Nat}
end
section
variable {X:Cx}{tg:Expr}
end
section
variable {X:Cx}{pins:List (Addr×Obj)}{σ:St}{H:Hp}{s:Shared}{a:Addr}{kvs:List (Key×V)}{last:Option (V×V)}{y:Str}{u:Value}{A:Around}{E:Value->Shared->Prop}
end
section
variable {X:Cx}{o i:Expr}{pos:Pos}{td ty:TE}
end
section
variable {X:Cx}
end
end L2
namespace L2
open PySem PySem.Spec PyProof.Rows RB
end L2
namespace RB
open PySem L2 PySem.Spec PyProof.Rows
section
variable {ns:List Str}{gv:Kn}{rc:Rn}{kn1 kn2:Kn}{rm1 rm2:Rm}
end
end RB
namespace L2
open PySem PySem.Spec PyProof.Rows RB
end L2
namespace RB
open PySem L2 PySem.Spec PyProof.Rows
section
variable {K:PySem.W.Frag}{H:Hp}{kg kc kg' kc':List (Key×V)}{gs cs gs' cs':List Str}{gv gv':Kn}{rc rc':Rn}
end
end RB
namespace L2
open PySem PySem.Spec PyProof.Rows
end L2
namespace RB
open PySem L2 PySem.Spec PyProof.Rows
theorem ZJ:∀y∈yc,Wy y:=fun y hy=>by
 have h:=Lk y hy
 exact⟨by have:=h.2.1;omega,fun c hc=>by have:=h.2.2 c hc;unfold Ka at this;omega⟩
theorem Ho4.safe {gs cs:List Str}{gv:Kn}{rc:Rn}{H:Hp}{h g c:Addr} (k:Ho4 gs cs gv rc) (ho:iK H h g c gs cs gv rc) {ws:List Str} (hw:∀x∈ws,x∈yc):Iw gv rc ws (kn0,[]):=by
 obtain⟨kg,kc,_,_,_,b⟩:=ho
 exact ZG (NS:=yc) (cs:=cs) (fun x r e=>(k.o x r e).i) ZJ hw (fun x hx=>b.cm hx) (by have:=k.l;omega) k.b (fun x r e=>⟨(k.o x r e).t,by have:=(k.o x r e).d;omega⟩)
theorem Ho4.good {gs cs:List Str}{gv:Kn}{rc:Rn}{H:Hp}{h g c:Addr} (k:Ho4 gs cs gv rc) (ho:iK H h g c gs cs gv rc) {kn:Kn}{rm:Rm} (s:StG gv rc kn rm):(∀y,kn y≠none->y∈fL)/\RmG rm:=by
 obtain⟨kg,kc,_,_,_,b⟩:=ho
 have h1:∀y,kn y≠none->y∈fL:=fun y hy=>by
  rcases List.mem_append.mp (s.Nx b hy) with z | z
  ·exact List.mem_of_mem_take (k.gk y z)
  ·exact List.mem_of_mem_take (k.ck y z)
 exact⟨h1,s.rmG (fun x r e=>⟨(k.o x r e).g,by have:=(k.o x r e).d;omega⟩) fun y hy=>Qp y (h1 y hy)⟩
section
variable {gv:Kn}{rc:Rn}{ws us:List Str}{H H' G G':Hp}{t kd sd l t2 kd2 sd2 l2:Addr}{kw ks kw2 ks2:List (Key×V)}{sn sn2:List Str}{kn kn2:Kn}{rm rm2:Rm}
end
def abo:Sp:=fun vs H Q _=>∃(h g c wl:Addr) (gs cs:List Str) (gv:Kn) (rc:Rn) (ws:List Str),vs=[.ref h, .ref wl]/\iK H h g c gs cs gv rc/\Ho4 gs cs gv rc/\H wl=some (.lst (ws.map V.str))/\
 (∀(X:List Addr) (wk:Addr) (A:W4) (rl:Addr) (kn:Kn) (od:List Str) (rm:Rm) (ps:List Rdp) (H':Hp),aQ H H'->A.h=h->(∀z∈X,H z=none)->C4 X wk g c A gs cs gv rc [] kn od rm rl ps H'->mH gv rc ws (kn0,[]) (kn,od)->Q (.ref wk) H')/\
 (∀(wk:Addr) (A:W4) (rl t:Addr) (e:Er) (H':Hp),aQ H H'->H' wk=some (.dK (wkD A rl (.ref t)))->ErT e t H'->wJ gv rc ws (kn0,[]) e->Q (.ref wk) H')
def WY:Sp:=fun vs H Q _=>∃(h g c:Addr) (gs cs:List Str) (gv:Kn) (rc:Rn) (x:Str) (a:Int),vs=[.int a, .ref h, .str x]/\iK H h g c gs cs gv rc/\Iw gv rc [x] (kn0,[])/\
 (a=0->∀(v:Int) (kn:Kn) (rmN:Rm) (od:List Str) (H':Hp),aQ H H'->StG gv rc kn rmN->mH gv rc [x] (kn0,[]) (kn,od)->kn x=some v->Q (.int v) H')/\
 (a≠0->∀(l:Addr) (as:List Addr) (ps:List Rdp) (kn:Kn) (rmN:Rm) (od:List Str) (H':Hp),aQ H H'->H l=none->StG gv rc kn rmN->mH gv rc [x] (kn0,[]) (kn,od)->H' l=some (.lst (as.map V.ref))->iC H' as ps->((∃r v,rmN x=some (r,ps,v))\/(rmN x=none/\ps=[]))->Q (.ref l) H')/\
 (∀e t H',wJ gv rc [x] (kn0,[]) e->aQ H H'->H t=none->ErT e t H'->Q (.ref t) H')
def W0:Sp:=fun vs H Q _=>∃(h g c:Addr) (gs cs:List Str) (gv:Kn) (rc:Rn) (x:Str),vs=[.ref h, .str x]/\iK H h g c gs cs gv rc/\Ho4 gs cs gv rc/\x∈yc/\∀H',aQ H H'->Q (.bl true) H'
section
variable {gv:Kn}{rc:Rn}
theorem Xa {x:Str}{a b:Kn×List Str} (h:mH gv rc [x] a b):jk gv rc ([x],a) ([],b):=by
 obtain⟨c,m,rfl⟩:=h
 exact m
theorem zG {x:Str}{a:Kn×List Str}{e:Er} (h:wJ gv rc [x] a e):∃t,jk gv rc ([x],a) t/\lF gv rc t=some e:=by
 obtain⟨i,y,b,t,hi,hr,hm,he⟩:=h
 have hi0:i=0:=by
  have:=(List.getElem?_eq_some_iff.mp hi).1
  have:i<1:=this
  omega
 subst hi0
 cases hi
 have hr:a=b:=hr
 subst hr
 exact⟨t,hm,he⟩
theorem Dc {x:Str}{a b:Kn×List Str}{e:Er} (h:mH gv rc [x] a b) (h2:wJ gv rc [x] a e):False:=by
 obtain⟨t,hm,he⟩:=zG h2
 have:=hm.errs he (Xa h) (.inr rfl)
 rw[this] at he;cases he
theorem Sx {x:Str}{a:Kn×List Str}{e e':Er} (h:wJ gv rc [x] a e) (h2:wJ gv rc [x] a e'):e=e':=by
 obtain⟨t,hm,he⟩:=zG h
 obtain⟨t2,hm2,he2⟩:=zG h2
 have:=hm.errs he hm2 (.inl (by rw[he2];simp))
 subst this
 rw[he] at he2;exact Option.some.inj he2
theorem Uu {NS:List Str} (hin:∀x r,rc x=some r->r.In NS) (hok:∀y∈NS,PyData.strOk y=true) {x:Str}{a:Kn×List Str}{e:Er} (hx:x∈NS) (h:wJ gv rc [x] a e):adn e:=by
 obtain⟨t,hm,he⟩:=zG h
 have hn:∀y∈t.1,y∈NS:=hm.mvs.inv (I:=fun s=>∀y∈s.1,y∈NS) (fun _ _ h e=>Oa hin h e) (fun y hy=>by
  have:y=x:=by simpa using hy
  rw[this];exact hx)
 obtain⟨p,kn,od⟩:=t
 cases p with
 | nil=>cases he
 | cons y p=>
   unfold lF at he
   cases hk:kn y with
   | some v=>simp only[hk] at he;cases he
   | none=>
     simp only[hk] at he
     cases hg:gv y with
     | some v=>simp only[hg] at he;cases he
     | none=>
       simp only[hg] at he
       cases hr:rc y with
       | none=>
         simp only[hr] at he
         cases he
         exact hok y (hn y (by simp))
       | some r=>
         simp only[hr] at he
         cases hv:ev kn r with
         | inr v=>simp only[hv] at he;cases he
         | inl z=>
           simp only[hv] at he
           by_cases hz:z∈y::p
           ·rw[if_pos hz] at he
            cases he
            intro u hu
            unfold eU at hu
            refine hok u (hn u ?_)
            rcases List.mem_append.mp hu with w | w
            ·exact List.mem_reverse.mp (List.mem_of_mem_drop w)
            ·rw[show u=z by simpa using w];exact hz
           ·rw[if_neg hz] at he;cases he
end
theorem Xb:∀y∈yc,PyData.strOk y=true:=fun y hy=>HS (Lk y hy)
section
variable {gv:Kn}{rc:Rn}{ws:List Str}{H H':Hp}{t kd sd l:Addr}{kw ks:List (Key×V)}{sn:List Str}{kn:Kn}{rm:Rm}
end
end RB
namespace L2
open PySem PySem.Spec PyProof.Rows RB
theorem Jv {P:Program}{w:World} (a b:Addr) (x1 x2 y1 y2:Value) (n m:Nat) (d1 d2:Option Addr) (t1 t2:Array (Option Value)):
 MeetsIn P w (Builtin.«tuple.__ne__» ⟨[.ref a, .ref b],[]⟩)
  (fun A R s=>s.heap.get? a=some {cls:= .type "tuple",dict:=d1,data:= .seq #[x1,x2] n,slots:=t1}/\s.heap.get? b=some {cls:= .type "tuple",dict:=d2,data:= .seq #[y1,y2] m,slots:=t2}/\
    CT P w A.in1 s x1 y1/\CT P w A.in1 s x2 y2/\R (.ok (.ret (.bool false))) s):=by
 intro A R s z
 obtain⟨hp,g,d,tk,os⟩:=s
 obtain⟨z1,z2,e1,e2,z⟩:=z
 have f2:=AutoSeq1.sub_tuple_tuple
 wp_walk using AutoSeq1.wpAny_loadPart' z1,AutoSeq1.wpAny_loadPart' z2,wpAny_forIn_list _ (fun rest c s'=>c.1=none/\s'=⟨hp,g,d,tk,os⟩/\(rest=[(x1,y1),(x2,y2)]\/rest=[(x2,y2)]\/rest=[])) _
 case turn=>
  rintro⟨y,x⟩ rest c s' ⟨hc,rfl,h⟩
  rcases h with h | h | h
  ·cases h
   refine wpAny_bind (e1 _ _ ?_)
   wp_walk
   exact⟨rfl,rfl, .inr (.inl rfl)⟩
  ·cases h
   refine wpAny_bind (e2 _ _ ?_)
   wp_walk
   exact⟨rfl,rfl, .inr (.inr rfl)⟩
  ·cases h
 case fin=>
  rintro⟨c1,c2⟩ s' ⟨hc,rfl,_⟩
  simp only at hc
  subst hc
  wp_walk
  first | exact z | exact⟨_,rfl,z⟩
 case h=>exact⟨rfl,rfl, .inl rfl⟩
def af9 (K:PySem.W.Frag):R2:=fun x y H Q=>∃a b x1 x2 y1 y2,x= .ref a/\y= .ref b/\H a=some (.tup [x1,x2])/\H b=some (.tup [y1,y2])/\Wk K H x1 y1/\Wk K H x2 y2/\Q (.bl false) H
theorem Xc {X:Cx} (hu:X.A.units+66<cLine):QOp X (compareOp .NotEq) (af9 X.K):=⟨fun pins s σ H x y v u Q I rx ry h=>by
 obtain⟨a,b,x1,x2,y1,y2,rfl,rfl,ha,hb,q1,q2,q⟩:=h
 cases rx
 cases ry
 obtain⟨us,ru,ta,_⟩:=I.tuple (SqT.of ha)
 obtain⟨ws,rw',tb,_⟩:=I.tuple (SqT.of hb)
 obtain⟨u1,u2,rfl,k1,k2⟩:=vals2 ru
 obtain⟨v1,v2,rfl,k4,k5⟩:=vals2 rw'
 obtain⟨⟨c1,d1',dt1,t1⟩,hp,hc1,n,hd1⟩:=ta
 obtain⟨⟨c2,d2',dt2,t2⟩,hq,hc2,m,hd2⟩:=tb
 simp only at hc1 hd1 hc2 hd2
 subst hc1 hd1 hc2 hd2
 have hT:s.TypeIs (.ref a) "tuple":=⟨_,hp,rfl⟩
 refine wpAny_richCompare_same_room (op:= .NotEq) hT ⟨_,hq,rfl⟩ F.slot_tuple_ne (call_meetsIn F.slot_tuple_ne hT F.entry_tuple_ne (F.args_tuple_ne_2 _ _) (Jv a b _ _ _ _ n m d1' d2' t1 t2) ⟨hp,hq,Wl I k1 k4 q1 hu,Wl I k2 k5 q2 hu, ?_⟩) (by omega)
 exact⟨(fun x=>nomatch x),⟨.bl false,H,I,rfl,q⟩⟩⟩
end L2
namespace RB
open PySem L2 PySem.Spec PyProof.Rows
end RB
set_option maxHeartbeats 4000000
namespace K11
open PySem L2 PySem.Spec PyProof.Rows RB
abbrev GIq (s:Stmt) (x:Str):Prop:=(aj s).names.lookup x=some NameKind.globalImplicit
abbrev DBq (x:Str):Prop:=(x==("__debug__":Str))=false
local macro_rules | `(tactic| walk_at "ne") => `(tactic| first | assumption | exact Ne.symm (by assumption) | exact aH (by assumption) (by assumption) | exact Ne.symm (aH (by assumption) (by assumption)))
local macro_rules | `(tactic| walk_at "heap") => `(tactic| first | assumption | exact ak | (refine (ao (by walk_at "ne")).trans ?_; walk_at "heap"))
local macro_rules | `(tactic| walk_at "side") => `(tactic| first | with_reducible rfl | rfl | assumption | exact SqL.of (by walk_at "heap") | exact SqT.of (by walk_at "heap") | exact Or.inl (SqL.of (by walk_at "heap")) | exact Or.inr (SqT.of (by walk_at "heap")) | exact qT.str _ | exact qT.int _ | exact qT.bl _ | exact qT.tup (by walk_at "heap") | exact Or.inl ⟨rfl, _, SqL.of (by walk_at "heap")⟩ | exact Or.inl ⟨_, SqL.of (by walk_at "heap"), rfl⟩ | exact aga _ | exact Or.inl (by assumption) | exact Or.inr (by assumption) | walk_at "heap" | omega | (show _ ≤ sizeLine; decide) | (show _ < sizeLine; decide) | exact Or.inr ⟨by decide, by decide⟩ | exact Or.inl ⟨by decide, by decide⟩ | exact Or.inl ⟨by omega, by omega⟩ | exact Or.inr ⟨by omega, by omega⟩ | exact qR.inr ⟨by decide, by decide⟩ | exact qR.inl ⟨by decide, by decide⟩ | exact qR.inl ⟨by omega, by omega⟩ | exact qR.inr ⟨by omega, by omega⟩ | exact ⟨by omega, by decide⟩ | exact ⟨by omega, by assumption⟩ | exact ⟨by decide, by decide, by decide⟩ | exact ⟨_, SqT.of (by walk_at "heap")⟩ | exact ⟨_, SqL.of (by walk_at "heap")⟩ | (intro z; exact absurd (show (1 : Nat) = 0 from z.1) (by decide)) | (show Nat.log2 _ < 9000; decide +kernel) | ((rw [sizeLine_eq]); (try simp only [len_app]); omega) | exact Nat.le_of_lt (bD (by (simp only [List.length_cons, List.length_nil]); omega)) | decide +kernel)
local macro_rules | `(tactic| walk_at "v") => `(tactic| first
 | ((apply Exists.intro); (repeat apply Exists.intro); (refine And.intro ?_ ?_); walk_at "side")
 | ((refine And.intro ?_ ?_); walk_at "side"))
local macro_rules | `(tactic| walk_at "vs") => `(tactic| repeat walk_at "v")
def top (i:Nat):Stmt:=PySem.Challenge.pw_madeagain_k11_worths_and_reads.main.body.getD i (.Pass ⟨0,0,0,0⟩)
def yf (i j:Nat):Stmt:=match top i with
 | .ClassDef _ _ _ b _ _ _ _ _ _ _=>b.getD j (.Pass ⟨0,0,0,0⟩)
 | _=> .Pass ⟨0,0,0,0⟩
section
local macro_rules | `(tactic| walk_at "side") => `(tactic| first | exact K4 _ _ _ | exact HW _ _ _ | exact HX _ _ _ | exact aa7 _ _ _ | exact CQ _ _ _ | exact Nat.le_of_ble_eq_true rfl)
variable {P:Program}{w:World}{K:W.Frag}{mg:Str->Option Value}{base:Heap}{C:Addr}
abbrev lG:Stmt:=top 11
theorem Uv:bU ["kind","r","s"] ["kind","r","s"] (aj lG):=⟨rfl,rfl,rfl,by decide +kernel,rfl,by decide +kernel,by decide +kernel⟩
theorem rC:aF (aj lG) "kind":=by decide +kernel
theorem sO:aF (aj lG) "r":=by decide +kernel
theorem sS:aF (aj lG) "s":=by decide +kernel
theorem Jw:GIq lG "max":=by decide +kernel
theorem Jx:("max":Str)≠"__name__":=by decide +kernel
theorem Jy:DBq "max":=by decide +kernel
theorem Uw {f:Addr}{fd:FuncData} (pH:FnT K mg "joined" lG ["kind","r","s"] f fd) (T:Blt mg):aZ P w K mg base CX0 1 f fd ["kind","r","s"] Rx:=by
 refine pH.F.okQ Uv (fun vs H Q E h=> ?_) (fun cdv A outer s H vs Q E hr h=> ?_)
 ·obtain⟨op,u,v,rfl,_⟩:=h
  rfl
 obtain⟨op,u,v,rfl,hm,q⟩:=h
 refine⟨_,(az (cX (cN fU (aa 0 rC) aC (aY _)) (aA (bF (bW jW (aa 1 sO) (aa 2 sS)))) bY)
  (az (cX (cN fU (aa 0 rC) aC (aY _)) (aA (bF (bW jX (aa 1 sO) (aa 2 sS)))) bY)
  (az (cX (cN fU (aa 0 rC) aC (aY _)) (aA (bF (bW pC (aa 1 sO) (aa 2 sS)))) bY)
  (aA (bF (bR (Ru rfl) Jw T.aa5 Vw (aK (aa 1 sO) (aK (aa 2 sS) aq)) Jx Jy)))))), ?_⟩
 cases op with
 | plus=>walk_at "vs";exact q
 | minus=>walk_at "vs";exact q
 | times=>
   have hm:=hm rfl
   walk_at "vs";exact q
 | most=>walk_at "vs";exact q
abbrev cW:Stmt:=yf 12 0
theorem wU:bU ["self","r"] ["self","r"] (aj cW):=⟨rfl,rfl,rfl,by decide +kernel,rfl,by decide +kernel,by decide +kernel⟩
theorem iM:aF (aj cW) "self":=by decide +kernel
theorem uD:aF (aj cW) "r":=by decide +kernel
theorem wV {f:Addr}{fd:FuncData} (fM:gO K C "__init__" "Reckoning.__init__" cW ["self","r"] f fd) (rc:RkC K C):aZ P w K mg base CX0 1 f fd ["self","r"] (Nf C):=by
 refine fM.F.okQ wU (fun vs H Q E h=> ?_) (fun cdv A outer s H vs Q E hr h=> ?_)
 ·obtain⟨a,dx,b,r,rfl,_⟩:=h
  rfl
 obtain⟨a,dx,b,r,rfl,e,hR,hw,q⟩:=h
 have mX:=rc.cl
 have nT:=rc.nT
 have nF:=rc.nF
 have nR:=rc.nR
 refine⟨_,(az (mz (aa 0 iM) (dY (aK (aa 1 uD) aq)))
  (az (mz (aa 0 iM) (dY aq))
  (aA (mz (aa 0 iM) mF)))), ?_⟩
 walk_at "vs"
 intro a1 h1
 have e1:upd H a1 (.lst [V.ref b]) a=some (.ins C dx []):=(ao (aH e h1)).trans e
 walk_at "vs"
 intro a2 h2
 obtain⟨n2a,h2⟩:=iw h2
 obtain⟨n21,h2⟩:=iw h2
 have e2:upd (upd (upd H a1 (.lst [V.ref b])) a (.ins C dx (bf "todo" (.ref a1) []))) a2 (.lst []) a=some (.ins C dx (bf "todo" (.ref a1) [])):=(ao (Ne.symm n2a)).trans ak
 walk_at "vs"
 intro a3 h3
 obtain⟨n3a,h3⟩:=iw h3
 obtain⟨n32,h3⟩:=iw h3
 obtain⟨_,h3⟩:=iw h3
 obtain⟨n31,h3⟩:=iw h3
 have e3:upd (upd (upd (upd (upd H a1 (.lst [V.ref b])) a (.ins C dx (bf "todo" (.ref a1) []))) a2 (.lst [])) a (.ins C dx (bf "found" (.ref a2) (bf "todo" (.ref a1) [])))) a3 (.dK []) a=some (.ins C dx (bf "found" (.ref a2) (bf "todo" (.ref a1) []))):=(ao (Ne.symm n3a)).trans ak
 walk_at "vs"
 have n1a:a1≠a:=fun z=>by rw[z,e] at h1;cases h1
 refine q a1 a2 a3 _ (fun p o hp z=> ?_) h1 h2 h3 ⟨ak,⟨[.ref b], ?_, .cons (.r ?_) .nil⟩, ?_, ?_,Ne.symm n21, ?_⟩
 ·have hp:p≠a:=by simpa using hp
  rw[ao hp,ao (aH z h3),ao hp,ao (aH z h2),ao hp,ao (aH z h1)];exact z
 ·rw[ao n1a,ao (Ne.symm n31),ao n1a,ao (Ne.symm n21),ao n1a];exact ak
 ·refine hR.tups fun p xs z=> ?_
  have hp:p≠a:=fun y=>by rw[y,e] at z;cases z
  rw[ao hp,ao (aH z h3),ao hp,ao (aH z h2),ao hp,ao (aH z h1)];exact z
 ·rw[ao n2a,ao (Ne.symm n32),ao n2a];exact ak
 ·rw[ao n3a];exact ak
 ·show 0+0+2 *(wR r+0)<=10000;omega
abbrev aM:Stmt:=yf 12 2
theorem iQ:bU ["self","step","kind","names","s","r"] ["self","step"] (aj aM):=⟨rfl,rfl,rfl,by decide +kernel,rfl,by decide +kernel,by decide +kernel⟩
theorem uE:Loc (aj aM) "kind":=by decide +kernel
theorem aO:aF (aj aM) "step":=by decide +kernel
theorem cY:aF (aj aM) "kind":=by decide +kernel
theorem bu:aF (aj aM) "self":=by decide +kernel
theorem tK:Loc (aj aM) "names":=by decide +kernel
theorem mJ:aF (aj aM) "names":=by decide +kernel
theorem vP:GIq aM "len":=by decide +kernel
theorem vQ:("len":Str)≠"__name__":=by decide +kernel
theorem vR:DBq "len":=by decide +kernel
theorem yg:Loc (aj aM) "s":=by decide +kernel
theorem yh:Loc (aj aM) "r":=by decide +kernel
theorem rR:GIq aM "joined":=by decide +kernel
theorem yj:aF (aj aM) "s":=by decide +kernel
theorem yl:aF (aj aM) "r":=by decide +kernel
theorem rT:DBq "joined":=by decide +kernel
theorem Bh {f g:Addr}{fd gd:FuncData} (fX:gO K C "go_on" "Reckoning.go_on" aM ["self","step"] f fd) (pH:FnT K mg "joined" lG ["kind","r","s"] g gd) (Xd:aZ P w K mg base CX0 1 g gd ["kind","r","s"] Rx)
 (T:Blt mg) (rc:RkC K C):aZ P w K mg base CX0 2 f fd ["self","step"] (afW C):=by
 refine fX.F.okQ iQ (fun vs H Q E h=> ?_) (fun cdv A outer s H vs Q E hr h=> ?_)
 ·obtain⟨a,dx,a1,a2,a3,v,s,t,f,d,kn,c,rfl,_⟩:=h
  rfl
 obtain⟨a,dx,a1,a2,a3,v,st,t,fo,d,kn,c,rfl,rca,hst,hno,h1,hw,q⟩:=h
 have mX:=rc.cl
 have nT:=rc.nT
 have nF:=rc.nF
 have nR:=rc.nR
 have n13:=rca.n13
 have n23:=rca.n23
 obtain⟨e,⟨ws,e1,hws⟩,e2,e3,ne,hw0⟩:=id rca
 have e2:H a2=some (.lst (fo.map V.int)):=e2
 have e3:H a3=some (.dK (rdK d)):=e3
 refine⟨_,(az (bV (i:=2) iQ.nd rfl uE (cR bZ (aa 1 aO) aB))
  (aA (cX (cN fU (aa 2 cY) aC (aY _)) (aA (fQ (qb PySem.F.plainAttrs_list PySem.F.slot_list_append PySem.F.type_list_append iJ (cF (aa 0 bu)) (lq (cR bZ (aa 1 aO) aB) aq)))) (aA (cX (cN fU (aa 2 cY) aC (aY _)) (aA (fQ (qb PySem.F.plainAttrs_list PySem.F.slot_list_extend PySem.F.type_list_extend Aw (cF (aa 0 bu)) (PB (dY (K3 (gF (d9 aC (lq (cR bZ (aa 1 aO) aB) (lq (cR bZ (aa 1 aO) aB) aq)))) (lq (cR bZ (aa 1 aO) aB) aq))) aq)))) (aA (cX (cN fU (aa 2 cY) aC (aY _)) (aA (fQ (qb PySem.F.plainAttrs_list PySem.F.slot_list_extend PySem.F.type_list_extend Aw (cF (aa 0 bu)) (PB (dY (K3 (gF (d9 aC (lq (cR bZ (aa 1 aO) aB) aq))) (lq (cR bZ (aa 1 aO) aB) aq))) aq)))) (aA (cX (cN fU (aa 2 cY) aC (aY _)) (aA (fQ (qb PySem.F.plainAttrs_list PySem.F.slot_list_append PySem.F.type_list_append iJ (cF (aa 0 bu)) (ajc (MN (cN VD (Aq PySem.F.plainAttrs_list PySem.F.slot_list_pop PySem.F.type_list_pop vH (cF (aa 0 bu))) aB (aY _)) (cR bZ (aa 1 aO) aB) (cR bZ (aa 1 aO) aB)) aq)))) (aA (cX (cN fU (aa 2 cY) aC (aY _)) (az (bV (i:=3) iQ.nd rfl tK (cR bZ (aa 1 aO) aB))
  (aA (fQ (qb PySem.F.plainAttrs_list PySem.F.slot_list_append PySem.F.type_list_append iJ (cF (aa 0 bu)) (K3 (gF (d9 aC (lq (cR bZ (aa 3 mJ) (bW lA (Aq PySem.F.plainAttrs_list PySem.F.slot_list_pop PySem.F.type_list_pop vH (cF (aa 0 bu))) (bR ie vP T.wI pQ (aK (aa 3 mJ) aq) vQ vR))) aq))) aq))))) (aA (cX (cN fU (aa 2 cY) aC (aY _)) (az (bV (i:=4) iQ.nd rfl yg (Aq PySem.F.plainAttrs_list PySem.F.slot_list_pop PySem.F.type_list_pop vH (cF (aa 0 bu))))
  (az (bV (i:=5) iQ.nd rfl yh (Aq PySem.F.plainAttrs_list PySem.F.slot_list_pop PySem.F.type_list_pop vH (cF (aa 0 bu))))
  (aA (fQ (qb PySem.F.plainAttrs_list PySem.F.slot_list_append PySem.F.type_list_append iJ (cF (aa 0 bu)) (tE (bG (Xd.mono (by omega)) hr rR pH.m pH.F.kp pH.b .nil cQ (lq (cR bZ (aa 1 aO) aB) (aK (aa 5 yl) (aK (aa 4 yj) aq))) rT) aq)))))) (aA (fQ (qb PySem.F.plainAttrs_list PySem.F.slot_list_extend PySem.F.type_list_extend Aw (cF (aa 0 bu)) (PB (dY (K3 (gF (d9 aC (aK (aa 2 cY) aq))) (lq (cR bZ (aa 1 aO) aB) (lq (cR bZ (aa 1 aO) aB) aq)))) aq))))))))))))))))), ?_⟩
 have hi:=h1.inv _ _ rfl
 have hlw:ws.length=t.length:=hws.length
 have hlt:=PL t
 have hw1:d.length+fo.length+2 * wT t<=10000:=hw0
 cases hst with
 | @r b r hr'=>
   cases hr' with
   | @num _ n eb=>
     have hi:c=⟨t,fo++[n],d⟩:=hi
     have hz:(fo.map V.int).length<sizeLine:=by rw[List.length_map,sizeLine_eq];omega
     subst hi
     walk_at "vs"
     have b:But [a1,a2,a3] H (upd H a2 (.lst (fo.map V.int++[V.int n]))):=But.set _ (by simp)
     exact q _ b (rca.next b ((ao ne).trans e1) (hws.tups (rca.lists b)) (by rw[ak,List.map_append];rfl) ((ao (Ne.symm n23)).trans e3) hw)
   | rd eb=>exact absurd rfl (hno _)
   | @bin _ x y op ra rb eb hx hy=>
     have hi:c=⟨t++[.join op, .r rb, .r ra],fo,d⟩:=hi
     subst hi
     have hz:∀p:Addr,ws.length+[V.ref p,V.ref y,V.ref x].length<=sizeLine:=fun p=>by rw[sizeLine_eq];show ws.length+3<=_;omega
     have alm:atI [V.str op.word,V.ref x,V.ref y] 0=some (.str op.word):=mV (j:=0) rfl
     have aln:atI [V.str op.word,V.ref x,V.ref y] 1=some (.ref x):=mV (j:=1) rfl
     have alo:atI [V.str op.word,V.ref x,V.ref y] 2=some (.ref y):=mV (j:=2) rfl
     have fin:∀p1 p2,H p1=none->upd H p1 (.tup [V.str "join",V.str op.word]) p2=none->Q .non (upd (upd (upd H p1 (.tup [V.str "join",V.str op.word])) p2 (.lst [V.ref p1,V.ref y,V.ref x])) a1 (.lst (ws++[V.ref p1,V.ref y,V.ref x]))):=fun p1 p2 h1 h2=>by
      have b:But [a1,a2,a3] H (upd (upd (upd H p1 (.tup [V.str "join",V.str op.word])) p2 (.lst [V.ref p1,V.ref y,V.ref x])) a1 (.lst (ws++[V.ref p1,V.ref y,V.ref x]))):=(But.new _ h1).trans ((But.new _ h2).trans (But.set _ (by simp)))
      have tp:=rca.lists b
      have n1:p1≠a1:=fun z=>by rw[z,e1] at h1;cases h1
      have n2:p1≠p2:=fun z=>by rw[<-z,ak] at h2;cases h2
      have h2':=(iw h2).2
      refine q _ b (rca.next b ak ((hws.tups tp).app (.cons (.join ?_) (.cons (.r (hy.tups tp)) (.cons (.r (hx.tups tp)) .nil)))) ?_ ?_ hw)
      ·rw[ao n1,ao n2];exact ak
      ·rw[ao (Ne.symm ne),ao (aH e2 h2'),ao (aH e2 h1)];exact e2
      ·rw[ao (Ne.symm n13),ao (aH e3 h2'),ao (aH e3 h1)];exact e3
     have ex1:∀p1,H p1=none->upd H p1 (.tup [V.str "join",V.str op.word]) a1=some (.lst ws):=fun p1 h1=>(ao (aH e1 h1)).trans e1
     have ex2:∀p1 p2,H p1=none->upd H p1 (.tup [V.str "join",V.str op.word]) p2=none->upd (upd H p1 (.tup [V.str "join",V.str op.word])) p2 (.lst [V.ref p1,V.ref y,V.ref x]) a1=some (.lst ws):=fun p1 p2 h1 h2=>(ao (aH (ex1 p1 h1) h2)).trans (ex1 p1 h1)
     have ez:∀p1,H p1=none->upd H p1 (.tup [V.str "join",V.str op.word]) b=some (.tup [V.str op.word,V.ref x,V.ref y]):=fun p1 h1=>(ao (aH eb h1)).trans eb
     cases op with
     | plus=>
       walk_at "vs"
       intro p1 h1
       have ez1:=ez p1 h1
       walk_at "vs"
       intro p2 h2
       have ex:=ex2 p1 p2 h1 h2
       have hz1:=hz p1
       walk_at "vs"
       exact fin p1 p2 h1 h2
     | minus=>
       walk_at "vs"
       intro p1 h1
       have ez1:=ez p1 h1
       walk_at "vs"
       intro p2 h2
       have ex:=ex2 p1 p2 h1 h2
       have hz1:=hz p1
       walk_at "vs"
       exact fin p1 p2 h1 h2
     | times=>
       walk_at "vs"
       intro p1 h1
       have ez1:=ez p1 h1
       walk_at "vs"
       intro p2 h2
       have ex:=ex2 p1 p2 h1 h2
       have hz1:=hz p1
       walk_at "vs"
       exact fin p1 p2 h1 h2
     | most=>
       walk_at "vs"
       intro p1 h1
       have ez1:=ez p1 h1
       walk_at "vs"
       intro p2 h2
       have ex:=ex2 p1 p2 h1 h2
       have hz1:=hz p1
       walk_at "vs"
       exact fin p1 p2 h1 h2
   | @pick _ x y z ra rb rc eb hx hy hz0=>
     have hi:c=⟨t++[.branch rb rc, .r ra],fo,d⟩:=hi
     subst hi
     have hz:∀p:Addr,ws.length+[V.ref p,V.ref x].length<=sizeLine:=fun p=>by rw[sizeLine_eq];show ws.length+2<=_;omega
     walk_at "vs"
     intro p1 h1
     have ez1:upd H p1 (.tup [V.str "branch",V.ref y,V.ref z]) b=some (.tup [V.str "pick",V.ref x,V.ref y,V.ref z]):=(ao (aH eb h1)).trans eb
     walk_at "vs"
     intro p2 h2
     have ex:upd (upd H p1 (.tup [V.str "branch",V.ref y,V.ref z])) p2 (.lst [V.ref p1,V.ref x]) a1=some (.lst ws):=(ao (aH e1 (iw h2).2)).trans ((ao (aH e1 h1)).trans e1)
     have hz1:=hz p1
     walk_at "vs"
     have b:But [a1,a2,a3] H (upd (upd (upd H p1 (.tup [V.str "branch",V.ref y,V.ref z])) p2 (.lst [V.ref p1,V.ref x])) a1 (.lst (ws++[V.ref p1,V.ref x]))):=(But.new _ h1).trans ((But.new _ h2).trans (But.set _ (by simp)))
     have tp:=rca.lists b
     have n1:p1≠a1:=fun z=>by rw[z,e1] at h1;cases h1
     have n2:p1≠p2:=fun z=>by rw[<-z,ak] at h2;cases h2
     have h2':=(iw h2).2
     refine q _ b (rca.next b ak ((hws.tups tp).app (.cons (.branch (by rw[ao n1,ao n2];exact ak) (hy.tups tp) (hz0.tups tp)) (.cons (.r (hx.tups tp)) .nil))) ?_ ?_ hw)
     ·rw[ao (Ne.symm ne),ao (aH e2 h2'),ao (aH e2 h1)];exact e2
     ·rw[ao (Ne.symm n13),ao (aH e3 h2'),ao (aH e3 h1)];exact e3
   | @cho _ x y ra ns eb hx hy=>
     have hi:c=⟨t++[.among ns, .r ra],fo,d⟩:=hi
     subst hi
     have hz:∀p:Addr,ws.length+[V.ref p,V.ref x].length<=sizeLine:=fun p=>by rw[sizeLine_eq];show ws.length+2<=_;omega
     walk_at "vs"
     intro p1 h1
     have ez1:upd H p1 (.tup [V.str "among",V.ref y]) b=some (.tup [V.str "choose",V.ref x,V.ref y]):=(ao (aH eb h1)).trans eb
     walk_at "vs"
     intro p2 h2
     have ex:upd (upd H p1 (.tup [V.str "among",V.ref y])) p2 (.lst [V.ref p1,V.ref x]) a1=some (.lst ws):=(ao (aH e1 (iw h2).2)).trans ((ao (aH e1 h1)).trans e1)
     have hz1:=hz p1
     walk_at "vs"
     have b:But [a1,a2,a3] H (upd (upd (upd H p1 (.tup [V.str "among",V.ref y])) p2 (.lst [V.ref p1,V.ref x])) a1 (.lst (ws++[V.ref p1,V.ref x]))):=(But.new _ h1).trans ((But.new _ h2).trans (But.set _ (by simp)))
     have tp:=rca.lists b
     have n1:p1≠a1:=fun z=>by rw[z,e1] at h1;cases h1
     have n2:p1≠p2:=fun z=>by rw[<-z,ak] at h2;cases h2
     have h2':=(iw h2).2
     refine q _ b (rca.next b ak ((hws.tups tp).app (.cons (.among (by rw[ao n1,ao n2];exact ak) (tp _ _ hy)) (.cons (.r (hx.tups tp)) .nil))) ?_ ?_ hw)
     ·rw[ao (Ne.symm ne),ao (aH e2 h2'),ao (aH e2 h1)];exact e2
     ·rw[ao (Ne.symm n13),ao (aH e3 h2'),ao (aH e3 h1)];exact e3
 | @branch b x y ra rb eb hx hy=>
   obtain⟨g,v,hf,hi⟩:=hi
   have hf:fo=g++[v]:=hf
   subst hf
   subst hi
   have hl:((g++[v]).map V.int)[((g++[v]).map V.int).length - 1]? =some (.int v):=by rw[List.map_append,List.length_append];exact List.getElem?_concat_length
   have hd:((g++[v]).map V.int).dropLast=g.map V.int:=by rw[List.map_append];exact List.dropLast_concat
   have hz:ws.length<sizeLine:=by rw[sizeLine_eq];omega
   walk_at "vs"
   rw[hd]
   have nb:b≠a2:=fun z=>by rw[z,e2] at eb;cases eb
   have eb1:upd H a2 (.lst (g.map V.int)) b=some (.tup [V.str "branch",V.ref x,V.ref y]):=(ao nb).trans eb
   have e11:upd H a2 (.lst (g.map V.int)) a1=some (.lst ws):=(ao ne).trans e1
   have fin:∀(z:Addr) (rz:R),IsR H z rz->rz=(if v>0 then ra else rb)->Q .non (upd (upd H a2 (.lst (g.map V.int))) a1 (.lst (ws++[V.ref z]))):=fun z rz hz1 hz2=>by
    subst hz2
    have b:But [a1,a2,a3] H (upd (upd H a2 (.lst (g.map V.int))) a1 (.lst (ws++[V.ref z]))):=(But.set _ (by simp)).trans (But.set _ (by simp))
    have tp:=rca.lists b
    exact q _ b (rca.next b ak ((hws.tups tp).app (.cons (.r (hz1.tups tp)) .nil)) ((ao (Ne.symm ne)).trans ak) ((ao (Ne.symm n13)).trans ((ao (Ne.symm n23)).trans e3)) hw)
   by_cases hv:0<v
   ·refine afN hv ?_
    walk_at "vs"
    exact fin x ra hx (if_pos hv).symm
   ·refine afO hv ?_
    walk_at "vs"
    exact fin y rb hy (if_neg hv).symm
 | @among b x ns eb hx=>
   obtain⟨g,v,y,hf,hy,hi⟩:=hi
   have hf:fo=g++[v]:=hf
   subst hf
   subst hi
   have hl:((g++[v]).map V.int)[((g++[v]).map V.int).length - 1]? =some (.int v):=by rw[List.map_append,List.length_append];exact List.getElem?_concat_length
   have hd:((g++[v]).map V.int).dropLast=g.map V.int:=by rw[List.map_append];exact List.dropLast_concat
   have hz:ws.length<sizeLine:=by rw[sizeLine_eq];omega
   have hln:(ns.map V.str).length=ns.length:=List.length_map _
   have hpos:0<((ns.map V.str).length:Int):=by
    rw[hln]
    cases ns with
    | nil=>simp[rA] at hy
    | cons n ns=>simp only[List.length_cons];omega
   have hat:atI (ns.map V.str) (v % ((ns.map V.str).length:Int))=some (.str y):=by
    rw[hln] at hpos ⊢
    have z0:=Int.emod_nonneg v (show(ns.length:Int)≠0 by omega)
    obtain⟨k,hk⟩:=Int.eq_ofNat_of_zero_le z0
    unfold rA at hy
    rw[hk] at hy ⊢
    exact mV (by rw[List.getElem?_map,show ns[k]? =some y from hy];rfl)
   have nx:x≠a2:=fun z=>by rw[z,e2] at hx;cases hx
   have ex1:upd H a2 (.lst (((g++[v]).map V.int).dropLast)) x=some (.tup (ns.map V.str)):=(ao nx).trans hx
   have e11:upd H a2 (.lst (((g++[v]).map V.int).dropLast)) a1=some (.lst ws):=(ao ne).trans e1
   walk_at "vs"
   intro p1 h1
   have e12:upd (upd H a2 (.lst (((g++[v]).map V.int).dropLast))) p1 (.tup [V.str "read",V.str y]) a1=some (.lst ws):=(ao (aH e11 h1)).trans e11
   walk_at "vs"
   have n1:p1≠a1:=fun z=>by rw[z,e11] at h1;cases h1
   obtain⟨n2,h1'⟩:=iw h1
   have b:But [a1,a2,a3] H (upd (upd (upd H a2 (.lst (((g++[v]).map V.int).dropLast))) p1 (.tup [V.str "read",V.str y])) a1 (.lst (ws++[V.ref p1]))):=(But.set _ (by simp)).trans ((But.new _ h1).trans (But.set _ (by simp)))
   have tp:=rca.lists b
   refine q _ b (rca.next b ak ((hws.tups tp).app (.cons (.r (.rd ((ao n1).trans ak))) .nil)) ?_ ?_ hw)
   ·rw[ao (Ne.symm ne),ao (Ne.symm n2),ak,hd]
   ·rw[ao (Ne.symm n13),ao (aH e3 h1'),ao (Ne.symm n23)];exact e3
 | @join b op eb=>
   obtain⟨g,u,v,hf,hm,hi⟩:=hi
   have hf:fo=g++[u,v]:=hf
   subst hf
   subst hi
   have hl:((g++[u,v]).map V.int)[((g++[u,v]).map V.int).length - 1]? =some (.int v):=by simp
   have hd:((g++[u,v]).map V.int).dropLast=(g++[u]).map V.int:=by simp
   have hl2:((g++[u]).map V.int)[((g++[u]).map V.int).length - 1]? =some (.int u):=by simp
   have hd2:((g++[u]).map V.int).dropLast=g.map V.int:=by simp
   have hz:(g.map V.int).length<sizeLine:=by
    rw[List.length_map,sizeLine_eq]
    have:(g++[u,v]).length=g.length+2:=by rw[List.length_append];rfl
    omega
   have nb:b≠a2:=fun z=>by rw[z,e2] at eb;cases eb
   have na2:a≠a2:=fun z=>rca.ins (by simp[z])
   have hl3:(((g++[u,v]).map V.int).dropLast)[(((g++[u,v]).map V.int).dropLast).length - 1]? =some (.int u):=by rw[hd];exact hl2
   have hd3:(((g++[u,v]).map V.int).dropLast).dropLast=g.map V.int:=by rw[hd];exact hd2
   have hz3:((((g++[u,v]).map V.int).dropLast).dropLast).length<sizeLine:=by rw[hd3];exact hz
   walk_at "vs"
   have b:But [a1,a2,a3] H (upd H a2 (.lst (g.map V.int++[V.int (op.ap u v)]))):=But.set _ (by simp)
   have q1:=q _ b (rca.next b ((ao ne).trans e1) (hws.tups (rca.lists b)) (by rw[ak,List.map_append];rfl) ((ao (Ne.symm n23)).trans e3) hw)
   have eq:upd (upd (upd H a2 (.lst (((g++[u,v]).map V.int).dropLast))) a2 (.lst ((((g++[u,v]).map V.int).dropLast).dropLast))) a2 (.lst ((((g++[u,v]).map V.int).dropLast).dropLast++[V.int (op.ap u v)]))=upd H a2 (.lst (g.map V.int++[V.int (op.ap u v)])):=by rw[lR,lR,hd3]
   show Q .non (upd (upd (upd H a2 (.lst (((g++[u,v]).map V.int).dropLast))) a2 (.lst ((((g++[u,v]).map V.int).dropLast).dropLast))) a2 (.lst ((((g++[u,v]).map V.int).dropLast).dropLast++[V.int (op.ap u v)])))
   rw[eq]
   exact q1
end
section
local macro_rules | `(tactic| walk_at "side") => `(tactic| first | exact K4 _ _ _ | exact HW _ _ _ | exact HX _ _ _ | exact aa7 _ _ _ | exact CQ _ _ _ | exact Nat.le_of_ble_eq_true rfl)
variable {P:Program}{w:World}{K:W.Frag}{mg:Str->Option Value}{base:Heap}{C:Addr}
abbrev cG:Stmt:=yf 12 1
theorem pI:bU ["self","known","step"] ["self","known"] (aj cG):=⟨rfl,rfl,rfl,by decide +kernel,rfl,by decide +kernel,by decide +kernel⟩
theorem dF:aF (aj cG) "self":=by decide +kernel
theorem rW:Loc (aj cG) "step":=by decide +kernel
theorem cB:aF (aj cG) "step":=by decide +kernel
theorem iR:aF (aj cG) "known":=by decide +kernel
theorem ym {f g:Addr}{fd gd:FuncData} (eV:gO K C "lacking" "Reckoning.lacking" cG ["self","known"] f fd) (fX:gO K C "go_on" "Reckoning.go_on" aM ["self","step"] g gd) (Dd:aZ P w K mg base CX0 2 g gd ["self","step"] (afW C))
 (T:Blt mg) (rc:RkC K C):aZ P w K mg base CX0 3 f fd ["self","known"] (V2 C):=by
 refine eV.F.okQ pI (fun vs H Q E h=> ?_) (fun cdv A outer s H vs Q E hr h=> ?_)
 ·obtain⟨a,dx,a1,a2,a3,d,kn,n,c,c',rfl,_⟩:=h
  rfl
 obtain⟨a,dx,a1,a2,a3,dd,kn,n0,c0,c',rfl,adt,⟨kvs,ed,hkn⟩,nd3,hn0,hhalt,q⟩:=h
 have mX:=rc.cl
 have nT:=rc.nT
 have nF:=rc.nF
 have nR:=rc.nR
 have hdS:dd∉[a1,a2,a3]:=fun z=>by
  obtain⟨ws,e1,_⟩:=adt.e1
  have z:dd=a1\/dd=a2\/dd=a3:=by simpa using z
  rcases z with z | z | z
  ·rw[z,e1] at ed;cases ed
  ·rw[z,adt.e2] at ed;cases ed
  ·exact nd3 z
 refine⟨_,(az (HH PassesOwn.never (Hz (cF (aa 0 dF))) (az (bV (i:=2) pI.nd rfl rW (Aq PySem.F.plainAttrs_list PySem.F.slot_list_pop PySem.F.type_list_pop vH (cF (aa 0 dF))))
  (aA (cX (cN KY (cR bZ (aa 2 cB) aB) aC (aY _)) (aA (fQ (qG (aa 0 dF) mX fX.m (Dd.mono (by omega)) hr fX.b .nil cQ (aK (aa 2 cB) aq)))) (aA (cX (Ey (bh hr) (cR bZ (aa 2 cB) aB) (aa 1 iR)) (az (iy (bh hr) (cF (aa 0 dF)) (cR bZ (aa 2 cB) aB) (aW (bh hr) (aa 1 iR) (cR bZ (aa 2 cB) aB)))
  (aA (fQ (qb PySem.F.plainAttrs_list PySem.F.slot_list_append PySem.F.type_list_append iJ (cF (aa 0 dF)) (lq (aW (bh hr) (aa 1 iR) (cR bZ (aa 2 cB) aB)) aq))))) (az (fQ (qb PySem.F.plainAttrs_list PySem.F.slot_list_append PySem.F.type_list_append iJ (cF (aa 0 dF)) (aK (aa 2 cB) aq)))
  (aA (bF (cR bZ (aa 2 cB) aB))))))))))
  (aA (bF ni))), ?_⟩
 refine⟨fun n σ H'=>∃c t,σ=[some (.ref a),some (.ref dd),t]/\But [a1,a2,a3] H H'/\RcAt H' a C dx a1 a2 a3 c/\StN kn n c c',
  ⟨n0,c0,none,rfl,But.refl _ _,adt,hn0⟩, ?_⟩
 rintro n σ H1 ⟨c,t0,rfl,b1,rca,hst⟩
 have n13:=rca.n13
 have n23:=rca.n23
 have na:a∉[a1,a2,a3]:=rca.ins
 have na1:a≠a1:=fun z=>na (by simp[z])
 have na2:a≠a2:=fun z=>na (by simp[z])
 have na3:a≠a3:=fun z=>na (by simp[z])
 obtain⟨e,⟨ws,e1,hws⟩,e2,e3,ne,hw0⟩:=id rca
 have ed1:=b1 _ _ hdS ed
 rcases List.eq_nil_or_concat c.todo with hnil | ⟨t,st,hs⟩
 ·rw[hnil] at hws
  cases hws
  have ec:=hst.halt (.inl hnil)
  subst ec
  walk_at "vs"
  exact(q H1 b1 rca).1 hnil
 ·rw[List.concat_eq_append] at hs
  rw[hs] at hws
  obtain⟨us,v,rfl,hus,hv⟩:=hws.snoc
  have hlu:=hus.length
  have hlt:=PL t
  have hw1:c.rds.length+c.found.length+2 * wT (t++[st])<=10000:=by have:=hw0;unfold Cf.w at this;rw[hs] at this;exact this
  rw[nu] at hw1
  have hl:(us++[v])[(us++[v]).length - 1]? =some v:=by simp
  have hd:(us++[v]).dropLast=us:=List.dropLast_concat
  have hne:(us++[v]).isEmpty=false:=by simp
  have hz:us.length<sizeLine:=by rw[sizeLine_eq];omega
  refine⟨_,rfl,a,C,dx,_, .ref a1,rfl,e,mX,nT,K4 _ _ _,true, .inl ⟨us++[v],SqL.of e1,by simp⟩, ?_⟩
  refine(if_pos (rfl:true=true)).mpr ?_
  cases hst with
  | zero=>
    rcases hhalt with h | ⟨t',x,h,hx⟩
    ·rw[hs] at h;simp at h
    ·rw[hs] at h
     obtain⟨rfl,rfl⟩:=kW h
     refine⟨fun _ _=>False,fun _ _ z=>z.elim, ?_⟩
     cases hv with
     | @r p _ hr'=>
     cases hr' with
     | rd ep=>
     have np:p≠a1:=fun z=>by rw[z,e1] at ep;cases ep
     have nda:dd≠a1:=fun z=>hdS (by simp[z])
     have g1:cD (upd H1 a1 (.lst (us++[V.ref p]).dropLast)) dd (.str x) none:=by
      have:=cD.k (H:=upd H1 a1 (.lst (us++[V.ref p]).dropLast)) (k:= .inr x) ((ao nda).trans ed1)
      rw[hkn,hx] at this
      exact this
     have hzd:((us++[V.ref p]).dropLast).length<sizeLine:=by rw[hd];exact hz
     walk_at "vs"
     have hq:=(q H1 b1 rca).2 _ x hs
     have eq:upd (upd H1 a1 (.lst (us++[V.ref p]).dropLast)) a1 (.lst ((us++[V.ref p]).dropLast++[V.ref p]))=H1:=by rw[lR,hd,ac7 e1]
     show Q (.str x) (upd (upd H1 a1 (.lst (us++[V.ref p]).dropLast)) a1 (.lst ((us++[V.ref p]).dropLast++[V.ref p])))
     rw[eq]
     exact hq
  | @succ n _ c1 _ h1 ht=>
    have hi:=h1.inv _ _ hs
    refine⟨fun σ' H'=>Wr (∃c t,σ'=[some (.ref a),some (.ref dd),t]/\But [a1,a2,a3] H H'/\RcAt H' a C dx a1 a2 a3 c/\StN kn n c c'), ?_, ?_⟩
    ·rintro σ' H' ⟨h⟩
     exact⟨n,by omega,h⟩
    by_cases hrd:∃x,st= .r (.rd x)
    ·obtain⟨x,rfl⟩:=hrd
     obtain⟨val,hx,rfl⟩:=hi
     cases hv with
     | @r p _ hr'=>
     cases hr' with
     | rd ep=>
     have np:p≠a1:=fun z=>by rw[z,e1] at ep;cases ep
     have np3:p≠a3:=fun z=>by rw[z,e3] at ep;cases ep
     have nda:dd≠a1:=fun z=>hdS (by simp[z])
     have ajm:dd≠a3:=fun z=>hdS (by simp[z])
     have ne2:a2≠a1:=Ne.symm ne
     have ajn:a3≠a1:=Ne.symm n13
     have ajo:a3≠a2:=Ne.symm n23
     have hv0:fG kvs (.inr x)=some (.int val):=by rw[hkn,hx];rfl
     have ed2:upd H1 a1 (.lst (us++[V.ref p]).dropLast) dd=some (.dK kvs):=(ao nda).trans ed1
     have e32:upd H1 a1 (.lst (us++[V.ref p]).dropLast) a3=some (.dK (rdK c.rds)):=(ao ajn).trans e3
     have g1:cD (upd H1 a1 (.lst (us++[V.ref p]).dropLast)) dd (.str x) (some (.int val)):=by
      have:=cD.k (k:= .inr x) ed2
      rw[hv0] at this
      exact this
     have hlr:(rdK c.rds).length<sizeLine:=by rw[show(rdK c.rds).length=c.rds.length from List.length_map _,sizeLine_eq];omega
     have pt:lD (upd H1 a1 (.lst (us++[V.ref p]).dropLast)) a3 (.str x) (.int val) (upd (upd H1 a1 (.lst (us++[V.ref p]).dropLast)) a3 (.dK (rdK (tG c.rds x val)))):=by
      have:=lD.k (k:= .inr x) (v:= .int val) e32 hlr
      rw[Y7] at this
      exact this
     have ed3:upd (upd H1 a1 (.lst (us++[V.ref p]).dropLast)) a3 (.dK (rdK (tG c.rds x val))) dd=some (.dK kvs):=(ao ajm).trans ed2
     have g2:cD (upd (upd H1 a1 (.lst (us++[V.ref p]).dropLast)) a3 (.dK (rdK (tG c.rds x val)))) dd (.str x) (some (.int val)):=by
      have:=cD.k (k:= .inr x) ed3
      rw[hv0] at this
      exact this
     have hzf:(c.found.map V.int).length<sizeLine:=by rw[List.length_map,sizeLine_eq];omega
     walk_at "vs"
     have b2:But [a1,a2,a3] H1 (upd (upd (upd H1 a1 (.lst (us++[V.ref p]).dropLast)) a3 (.dK (rdK (tG c.rds x val)))) a2 (.lst (c.found.map V.int++[V.int val]))):=(But.set _ (by simp)).trans ((But.set _ (by simp)).trans (But.set _ (by simp)))
     have tp:=rca.lists b2
     refine⟨⟨⟨t,c.found++[val],tG c.rds x val⟩,_,rfl,b1.trans b2,rca.next b2 (ws:=us) ?_ (hus.tups tp) ?_ ?_ (Nat.le_trans h1.w hw0),ht⟩⟩
     ·rw[ao ne,ao n13,ak,hd]
     ·rw[ak,List.map_append];rfl
     ·rw[ao ajo,ak]
    ·have hno:∀x,st≠ .r (.rd x):=fun x z=>hrd ⟨x,z⟩
     obtain⟨p,k,xs,rfl,ep,hk⟩:=hv.hd hno
     have np:p≠a1:=fun z=>by rw[z,e1] at ep;cases ep
     have at0:atI (V.str k::xs) 0=some (.str k):=mV (j:=0) rfl
     walk_at "vs"
     refine afP (fun z=>hk (V.str.inj z)) ?_
     have b2:But [a1,a2,a3] H1 (upd H1 a1 (.lst (us++[V.ref p]).dropLast)):=But.set _ (by simp)
     have tp:=rca.lists b2
     have rc2:RcAt (upd H1 a1 (.lst (us++[V.ref p]).dropLast)) a C dx a1 a2 a3 ⟨t,c.found,c.rds⟩:=rca.next b2 (ws:=us) (by rw[ak,hd]) (hus.tups tp) ((ao (Ne.symm ne)).trans e2) ((ao (Ne.symm n13)).trans e3) (by show c.rds.length+c.found.length+2 * wT t<=10000;omega)
     have h1':St1 kn ⟨t++[st],c.found,c.rds⟩ c1:=by rw[<-hs];exact h1
     have hv2:=hv.tups tp
     have hwc:=Nat.le_trans h1.w hw0
     walk_at "vs"
     intro H3 b3 rc3
     exact⟨⟨c1,_,rfl,b1.trans (b2.trans b3),rc3,ht⟩⟩
end
section
variable {P:Program}{w:World}{K:W.Frag}{mg:Str->Option Value}{base:Heap}
abbrev cM:Stmt:=top 14
theorem Bj:bU ["thing"] ["thing"] (aj cM):=⟨rfl,rfl,rfl,by decide +kernel,rfl,by decide +kernel,by decide +kernel⟩
theorem jN:GIq cM "isinstance":=by decide +kernel
theorem uF:GIq cM "bool":=by decide +kernel
theorem uG:("bool":Str)≠"__name__":=by decide +kernel
theorem uH:DBq "bool":=by decide +kernel
theorem mK:aF (aj cM) "thing":=by decide +kernel
theorem jO:("isinstance":Str)≠"__name__":=by decide +kernel
theorem jP:DBq "isinstance":=by decide +kernel
theorem vU:GIq cM "int":=by decide +kernel
theorem vV:("int":Str)≠"__name__":=by decide +kernel
theorem vW:DBq "int":=by decide +kernel
theorem Bk {f:Addr}{fd:FuncData} (bH:FnT K mg "is_whole_number" cM ["thing"] f fd) (T:Blt mg) (kd:Kinds K):aZ P w K mg base CX0 1 f fd ["thing"] (K1 K):=by
 refine bH.F.okQ Bj (fun vs H Q E h=> ?_) (fun cdv A outer s H vs Q E hr h=> ?_)
 ·obtain⟨v,t,rfl,_⟩:=h
  rfl
 obtain⟨v,t,rfl,ht,q⟩:=h
 refine⟨_,(aA (bF (HF (bR tD jN T.cg bK (aK (aa 0 mK) (aK (nj (v:= .ty "int") vU T.Rr KJ rfl vV vW) aq)) jO jP) (KQ (Vy (bR tD jN T.cg bK (aK (aa 0 mK) (aK (nj (v:= .ty "bool") uF T.VF Rg rfl uG uH) aq)) jO jP)))))), ?_⟩
 have h1:=ht.ty
 have h2:=ht.isi kd (c:="int") (by simp[tys])
 have h3:=ht.isi kd (c:="bool") (by simp[tys])
 walk_at "vs"
 cases ht with
 | bl b=>walk_at "vs";exact q
 | int i=>walk_at "vs";exact q
 | non=>exact q
 | str x=>exact q
 | tup e h=>exact q
 | oth h hT k=>rcases hT with rfl | rfl<;>exact q
abbrev eZ:Stmt:=top 15
theorem Qy:bU ["told","thing"] ["told","thing"] (aj eZ):=⟨rfl,rfl,rfl,by decide +kernel,rfl,by decide +kernel,by decide +kernel⟩
theorem jd:GIq eZ "isinstance":=by decide +kernel
theorem uI:GIq eZ "tuple":=by decide +kernel
theorem uJ:("tuple":Str)≠"__name__":=by decide +kernel
theorem uK:DBq "tuple":=by decide +kernel
theorem ir:aF (aj eZ) "told":=by decide +kernel
theorem je:("isinstance":Str)≠"__name__":=by decide +kernel
theorem jf:DBq "isinstance":=by decide +kernel
theorem yo:GIq eZ "len":=by decide +kernel
theorem yp:("len":Str)≠"__name__":=by decide +kernel
theorem yq:DBq "len":=by decide +kernel
theorem gG:aF (aj eZ) "thing":=by decide +kernel
theorem IW:GIq eZ "all":=by decide +kernel
theorem Ja:GIq eZ "zip":=by decide +kernel
theorem Bl:DBq "is_same":=by decide +kernel
theorem Jb:("all":Str)≠"__name__":=by decide +kernel
theorem Jc:DBq "all":=by decide +kernel
theorem lH:GIq eZ "is_whole_number":=by decide +kernel
theorem lJ:DBq "is_whole_number":=by decide +kernel
theorem yr:GIq eZ "str":=by decide +kernel
theorem yt:("str":Str)≠"__name__":=by decide +kernel
theorem yu:DBq "str":=by decide +kernel
theorem De {d:Nat}{f g0:Addr}{fd gd0:FuncData} (gH:FnT K mg "is_same" eZ ["told","thing"] f fd) (Fl:aZ P w K mg base CX0 (d+1) f fd ["told","thing"] (fun vs H Q E=>0<d/\K7 K (d - 1) vs H Q E))
 (bH:FnT K mg "is_whole_number" cM ["thing"] g0 gd0) (gP:aZ P w K mg base CX0 1 g0 gd0 ["thing"] (K1 K)) (T:Blt mg) (kd:Kinds K):
 aZ P w K mg base CX0 (d+2) f fd ["told","thing"] (K7 K d):=by
 refine gH.F.okQ Qy (fun vs H Q E h=> ?_) (fun cdv A outer s H vs Q E hr h=> ?_)
 ·obtain⟨v,t,v',t',rfl,_⟩:=h
  rfl
 obtain⟨v,t,v',t',rfl,ht,hu,hd,q⟩:=h
 refine⟨_,(az (cX (mq (bR tD jd T.cg bK (aK (aa 0 ir) (aK (nj (v:= .ty "tuple") uI T.KZ Hw rfl uJ uK) aq)) je jf)) (az (cX (Cz (Cy (An (mq (bR tD jd T.cg bK (aK (aa 1 gG) (aK (nj (v:= .ty "tuple") uI T.KZ Hw rfl uJ uK) aq)) je jf))) (xR (cN KY (bR ie yo T.wI pQ (aK (aa 0 ir) aq) yp yq) (bR ie yo T.wI pQ (aK (aa 1 gG) aq) yp yq) (aY _))))) (aA (bF Hy)) bY)
  (aA (bF (bR (YZ rfl) IW T.afI acH (ac0 (CG rfl (n:=2) (fr:=[]) (N:=["part","other"]) (MJ (scX:=aj eZ) (NX:=["told","thing"]) rfl rfl (by decide +kernel)) (Zn Ja T.afL (aK (aa 0 ir) (aK (aa 1 gG) aq))) (fun _ _ _ _ _=>(Rv (K:=K) (n:=2) rfl rfl (pF (qgx (i:=0) (show List.Nodup (α:=Str) ["part","other"] by decide) (Pu (by decide +kernel))) (pF (qgx (i:=1) (show List.Nodup (α:=Str) ["part","other"] by decide) (Pu (by decide +kernel))) G6)))) (fun _ _ _ _ _=>Py) (fun _ _ _ _ _=>(bG (Fl.mono (by omega)) hr (glC (by decide +kernel)) gH.m gH.F.kp gH.b .nil cQ (aK (aa 0 (vz.ok (by decide +kernel))) (aK (aa 1 (vz.ok (by decide +kernel))) aq)) Bl))) aq) Jb Jc)))) bY)
  (az (cX (mq (bG (gP.mono (by omega)) hr lH bH.m bH.F.kp bH.b .nil cQ (aK (aa 0 ir) aq) lJ)) (aA (bF (HF (bG (gP.mono (by omega)) hr lH bH.m bH.F.kp bH.b .nil cQ (aK (aa 1 gG) aq) lJ) (KQ (vB fU (aa 0 ir) (aa 1 gG) (aY _)))))) bY)
  (aA (bF (HF (bR tD jd T.cg bK (aK (aa 0 ir) (aK (nj (v:= .ty "str") yr T.aa4 Vx rfl yt yu) aq)) je jf) (HF (bR tD jd T.cg bK (aK (aa 1 gG) (aK (nj (v:= .ty "str") yr T.aa4 Vx rfl yt yu) aq)) je jf) (KQ (vB fU (aa 0 ir) (aa 1 gG) (aY _))))))))), ?_⟩
 have h1:=ht.ty
 have h2:=ht.isi kd (c:="tuple") (by simp[tys])
 have h3:=ht.isi kd (c:="str") (by simp[tys])
 have g1:=hu.ty
 have g2:=hu.isi kd (c:="tuple") (by simp[tys])
 have g3:=hu.isi kd (c:="str") (by simp[tys])
 walk_at "vs"
 have ht2:=ht
 cases ht2 with
 | @tup a vs ts ea ha=>
   have ct:VH (M7 (.tup ts)) "tuple"=true:=rfl
   rw[ct]
   walk_at "vs"
   have hu2:=hu
   cases hu2 with
   | @tup b us rs eb hb=>
     have cu:VH (M7 (.tup rs)) "tuple"=true:=rfl
     rw[cu]
     walk_at "vs"
     have l1:=ha.length
     have l2:=hb.length
     by_cases hl:vs.length=us.length
     ·refine afR (by rw[hl];simp) ?_
      walk_at "vs"
      intro D hD
      have hd0:0<d:=by
       cases d with
       | zero=>exact absurd hd (by simp[DpT])
       | succ d=>omega
      obtain⟨d,rfl⟩:∃e,d=e+1:=⟨d - 1,by omega⟩
      obtain⟨hd1,hd2⟩:ts.length<=1000/\∀t∈ts,DpT d t:=hd
      have nDa:a≠D:=fun z=>by rw[z,hD] at ea;cases ea
      have nDb:b≠D:=fun z=>by rw[z,hD] at eb;cases eb
      refine Ub (fun i σ' H'=>(∃t1 t2,σ'=[t1,t2])/\H' D=some (.lst (((List.zipWith eE ts rs).take i).map V.bl))/\aQ H H') hl ?_ ?_ ?_ ?_
      ·exact⟨⟨none,none,rfl⟩,ak,au _ hD⟩
      ·intro i σ' H' hi hP
       exact⟨SqT.of (hP.2.2 _ _ ea),SqT.of (hP.2.2 _ _ eb)⟩
      ·intro i x y T0 σ' H' hx hy hP hT
       obtain⟨⟨t1,t2,rfl⟩,eD,kp⟩:=hP
       obtain⟨hi1,tx⟩:=ha.at hx
       obtain⟨hi2,ty⟩:=hb.at hy
       have S0:=kp.trans (au (.tup [x,y]) hT)
       have tx0:=tx.same S0
       have ty0:=ty.same S0
       have dx:=hd2 _ (List.getElem_mem hi1)
       have eT:upd H' T0 (.tup [x,y]) T0=some (.tup [x,y]):=ak
       have eD0:=(au (.tup [x,y]) hT) _ _ eD
       generalize upd H' T0 (.tup [x,y])=H0 at *
       walk_at "vs"
       intro H5 S5
       have eD5:=S5 _ _ eD0
       refine⟨_,eD5, ?_,⟨_,_,rfl⟩, ?_, ?_⟩
       ·rw[List.length_map,List.length_take];exact bD (by omega)
       ·rw[ak,<-Uc eE hi1 hi2,List.map_append];rfl
       ·exact oU _ hD (S0.trans S5)
      ·intro σ' H' hP
       obtain⟨_,eD,kp⟩:=hP
       rw[List.take_of_length_le (by simp;omega)] at eD
       have eq:eE (.tup ts) (.tup rs)=((List.zipWith eE ts rs).all id):=by rw[eE];exact Ih (by omega)
       rw[eq] at q
       walk_at "vs"
       exact q _ kp
     ·refine afQ (by simp;omega) ?_
      rw[show eE (.tup ts) (.tup rs)=false from by rw[eE];exact Ig (by omega)] at q
      walk_at "vs"
      exact q _ (aQ.refl _)
   | non=>walk_at "vs";exact q _ (aQ.refl _)
   | bl b=>walk_at "vs";exact q _ (aQ.refl _)
   | int i=>walk_at "vs";exact q _ (aQ.refl _)
   | str x=>walk_at "vs";exact q _ (aQ.refl _)
   | oth h hT k=>rcases hT with rfl | rfl<;>walk_at "vs"<;>exact q _ (aQ.refl _)
 | non=>walk_at "vs";exact q _ (aQ.refl _)
 | bl b=>walk_at "vs";exact q _ (aQ.refl _)
 | int i=>
   walk_at "vs"
   have hu2:=hu
   cases hu2 with
   | int j=>
     have ej:eE (.int i) (.int j)=decide (V.int i=V.int j):=by simp[eE]
     rw[ej] at q
     walk_at "vs";exact q _ (aQ.refl _)
   | non=>walk_at "vs";exact q _ (aQ.refl _)
   | bl b=>walk_at "vs";exact q _ (aQ.refl _)
   | str x=>walk_at "vs";exact q _ (aQ.refl _)
   | tup e h=>walk_at "vs";exact q _ (aQ.refl _)
   | oth h hT k=>rcases hT with rfl | rfl<;>walk_at "vs"<;>exact q _ (aQ.refl _)
 | str x=>
   walk_at "vs"
   have hu2:=hu
   cases hu2 with
   | str y=>
     have ej:eE (.str x) (.str y)=decide (V.str x=V.str y):=by simp[eE]
     rw[ej] at q
     walk_at "vs";exact q _ (aQ.refl _)
   | non=>walk_at "vs";exact q _ (aQ.refl _)
   | bl b=>walk_at "vs";exact q _ (aQ.refl _)
   | int j=>walk_at "vs";exact q _ (aQ.refl _)
   | tup e h=>walk_at "vs";exact q _ (aQ.refl _)
   | oth h hT k=>rcases hT with rfl | rfl<;>walk_at "vs"<;>exact q _ (aQ.refl _)
 | oth h hT k=>rcases hT with rfl | rfl<;>walk_at "vs"<;>exact q _ (aQ.refl _)
theorem Jd {f g0:Addr}{fd gd0:FuncData} (gH:FnT K mg "is_same" eZ ["told","thing"] f fd)
 (bH:FnT K mg "is_whole_number" cM ["thing"] g0 gd0) (gP:aZ P w K mg base CX0 1 g0 gd0 ["thing"] (K1 K)) (T:Blt mg) (kd:Kinds K):
 ∀d,aZ P w K mg base CX0 (d+2) f fd ["told","thing"] (K7 K d)
 | 0=>De gH (never fun vs H Q E h=>absurd h.1 (by omega)) bH gP T kd
 | d+1=>De gH ((Jd gH bH gP T kd d).imp fun vs H Q E h=>h.2) bH gP T kd
end
section
local macro_rules | `(tactic| walk_at "side") => `(tactic| first | exact zz _ _ _ _ | exact vL _ _ _ _ | exact zA _ _ _ _ | exact qI _ _ _ _ | exact (ig _ _ _ _).1 | exact (ig _ _ _ _).2.1 | exact (ig _ _ _ _).2.2.1 | exact (ig _ _ _ _).2.2.2 | exact Nat.le_of_ble_eq_true rfl)
variable {P:Program}{w:World}{K:W.Frag}{mg:Str->Option Value}{base:Heap}{CN CS CR:Addr}
abbrev bL:Stmt:=yf 17 0
theorem tL:bU ["self","records"] ["self","records"] (aj bL):=⟨rfl,rfl,rfl,by decide +kernel,rfl,by decide +kernel,by decide +kernel⟩
theorem pJ:aF (aj bL) "self":=by decide +kernel
theorem nH:aF (aj bL) "records":=by decide +kernel
theorem tM {f:Addr}{fd:FuncData} (cz:gO K CN "__init__" "NamedRecords.__init__" bL ["self","records"] f fd) (nc:NrC K CN):aZ P w K mg base CX0 1 f fd ["self","records"] (Ij CN):=by
 refine cz.F.okQ tL (fun vs H Q E h=> ?_) (fun cdv A outer s H vs Q E hr h=> ?_)
 ·obtain⟨a,dx,rcd,rfl,_⟩:=h
  rfl
 obtain⟨a,dx,rcd,rfl,e,q⟩:=h
 have mL:=nc.cl
 have nB:=nc.nB
 refine⟨_,(aA (mz (aa 0 pJ) (aa 1 nH))), ?_⟩
 walk_at "vs"
 exact q _ (But.set _ (by simp)) ak
abbrev cZ:Stmt:=yf 17 2
theorem tO:bU ["self","record"] ["self","record"] (aj cZ):=⟨rfl,rfl,rfl,by decide +kernel,rfl,by decide +kernel,by decide +kernel⟩
theorem tQ {f:Addr}{fd:FuncData} (dh:gO K CN "put_made" "NamedRecords.put_made" cZ ["self","record"] f fd):aZ P w K mg base CX0 1 f fd ["self","record"] aba:=by
 refine dh.F.okQ tO (fun vs H Q E h=> ?_) (fun cdv A outer s H vs Q E hr h=> ?_)
 ·obtain⟨⟨v,w,rfl⟩,_⟩:=h
  rfl
 obtain⟨⟨v,w,rfl⟩,q⟩:=h
 refine⟨_,(aA YX), ?_⟩
 exact q
abbrev aP:Stmt:=yf 17 1
theorem qK:bU ["self","name","r"] ["self","name","r"] (aj aP):=⟨rfl,rfl,rfl,by decide +kernel,rfl,by decide +kernel,by decide +kernel⟩
theorem mO:GIq aP "is_same":=by decide +kernel
theorem fY:aF (aj aP) "self":=by decide +kernel
theorem fZ:aF (aj aP) "name":=by decide +kernel
theorem pK:aF (aj aP) "r":=by decide +kernel
theorem mQ:DBq "is_same":=by decide +kernel
theorem qL {f g0:Addr}{fd gd0:FuncData} (cO:gO K CN "records_for" "NamedRecords.records_for" aP ["self","name","r"] f fd)
 (gH:FnT K mg "is_same" eZ ["told","thing"] g0 gd0) (Fl:aZ P w K mg base CX0 12 g0 gd0 ["told","thing"] (K7 K 10)) (T:Blt mg) (nc:NrC K CN):aZ P w K mg base CX0 13 f fd ["self","name","r"] (RQ CN):=by
 refine cO.F.okQ qK (fun vs H Q E h=> ?_) (fun cdv A outer s H vs Q E hr h=> ?_)
 ·obtain⟨o,dx,rcd,b,kr,rm,y,r,rfl,_⟩:=h
  rfl
 obtain⟨o,dx,rcd,b,kr,rm,y,r,rfl,eo,er,rD,hR,hg,hdp,q⟩:=h
 have mL:=nc.cl
 have nB:=nc.nB
 have lkB:List.lookup ("by_name":Str) (nrF rcd)=some (.ref rcd):=rfl
 refine⟨_,(az (cX (Cz (Ao (Ey (bh hr) (aa 1 fZ) (cF (aa 0 fY))) (zq (mq (bG (Fl.mono (by omega)) hr mO gH.m gH.F.kp gH.b .nil cQ (aK (aa 2 pK) (lq (cR bZ (aW (bh hr) (cF (aa 0 fY)) (aa 1 fZ)) aB) aq)) mQ))))) (aA (bF (dY (lq (aW (bh hr) (cF (aa 0 fY)) (aa 1 fZ)) aq)))) bY)
  (aA (bF (dY aq)))), ?_⟩
 have dr:cD H rcd (.str y) (fG kr (.inr y)):=cD.k (k:= .inr y) er
 cases erm:rm y with
 | none=>
   rw[rD.w y erm] at dr
   walk_at "vs"
   intro fl hfl
   exact q fl _ (au _ hfl) hfl fun kn=> .inr ⟨ak,fun r' ps v e=>by rw[erm] at e;cases e⟩
 | some qq=>
   obtain⟨r',ps,v'⟩:=qq
   obtain⟨bb,hbb,br,l,as,e1,R1,el,hRs,_⟩:=rD.v y _ erm
   rw[hbb] at dr
   have e1:H bb=some (.tup [.ref br, .ref l, .int v']):=e1
   have R1:IsR H br r':=R1
   have hat:atI [V.ref br, .ref l, .int v'] 0=some (.ref br):=rfl
   have t1:qF K H (.ref b) r.gB:=hR.afS
   have t2:qF K H (.ref br) r'.gB:=R1.afS
   have dp:DpT 10 r.gB:=(r.dpT hg).mono (by omega)
   walk_at "vs"
   intro H1 s1
   have dr1:cD H1 rcd (.str y) (some (.ref bb)):=by rw[<-hbb];exact cD.k (k:= .inr y) (s1 _ _ er)
   have eo1:=s1 _ _ eo
   by_cases hrr:r=r'
   ·rw[Zq hrr]
    subst hrr
    walk_at "vs"
    intro fl hfl
    exact q fl _ (s1.trans (au _ hfl)) (same_none s1 hfl) fun kn=> .inl ⟨bb,ps,v',ak,hbb,erm,Nat.zero_le _,fun j p hj=>by omega⟩
   ·rw[Zr hrr]
    walk_at "vs"
    intro fl hfl
    exact q fl _ (s1.trans (au _ hfl)) (same_none s1 hfl) fun kn=> .inr ⟨ak,fun r2 ps2 v2 e=>by
     rw[erm] at e;cases e;exact .inl (Ne.symm hrr)⟩
abbrev cH:Stmt:=yf 18 0
theorem yw:bU ["self","r","records"] ["self","r","records"] (aj cH):=⟨rfl,rfl,rfl,by decide +kernel,rfl,by decide +kernel,by decide +kernel⟩
theorem gD:aF (aj cH) "self":=by decide +kernel
theorem nJ:aF (aj cH) "r":=by decide +kernel
theorem pU:aF (aj cH) "records":=by decide +kernel
theorem oY:GIq cH "Reckoning":=by decide +kernel
theorem oZ:DBq "Reckoning":=by decide +kernel
theorem yx {f g0:Addr}{fd gd0:FuncData} (gA:gO K CS "__init__" "Settling.__init__" cH ["self","r","records"] f fd)
 (fM:gO K CR "__init__" "Reckoning.__init__" cW ["self","r"] g0 gd0) (yz:aZ P w K mg base CX0 1 g0 gd0 ["self","r"] (Nf CR))
 (yC:Mk K CR g0) (yD:mg "Reckoning"=some (.ref CR)) (sc:SeC K CS):aZ P w K mg base CX0 3 f fd ["self","r","records"] (Np CS CR):=by
 refine gA.F.okQ yw (fun vs H Q E h=> ?_) (fun cdv A outer s H vs Q E hr h=> ?_)
 ·obtain⟨a,dx,b,fl,r,rfl,_⟩:=h
  rfl
 obtain⟨a,dx,b,fl,r,rfl,e,hR,hw,q⟩:=h
 have jy:=sc.cl
 have nR:=sc.nR
 have nF:=sc.nF
 have nP:=sc.nP
 have nK:=sc.nK
 refine⟨_,(az (mz (aa 0 gD) (aa 1 nJ))
  (az (mz (aa 0 gD) (aa 2 pU))
  (az (mz (aa 0 gD) aB)
  (aA (mz (aa 0 gD) (CP yC (yz.mono (by omega)) hr oY yD fM.b .nil cQ (aK (aa 1 nJ) aq) oZ)))))), ?_⟩
 walk_at "vs"
 have F3:upd (upd (upd H a (.ins CS dx (bf "recipe" (.ref b) []))) a (.ins CS dx (bf "fitting" (.ref fl) (bf "recipe" (.ref b) [])))) a (.ins CS dx (bf "place" (.int 0) (bf "fitting" (.ref fl) (bf "recipe" (.ref b) []))))=upd H a (.ins CS dx (bf "place" (.int 0) (bf "fitting" (.ref fl) (bf "recipe" (.ref b) [])))):=by rw[lR,lR]
 rw[F3]
 have b1:But [a] H (upd H a (.ins CS dx (bf "place" (.int 0) (bf "fitting" (.ref fl) (bf "recipe" (.ref b) []))))):=But.set _ (by simp)
 have t1:jg H (upd H a (.ins CS dx (bf "place" (.int 0) (bf "fitting" (.ref fl) (bf "recipe" (.ref b) []))))):=fun p xs z=>(ao (fun y=>by rw[y,e] at z;cases z)).trans z
 have e1:upd H a (.ins CS dx (bf "place" (.int 0) (bf "fitting" (.ref fl) (bf "recipe" (.ref b) [])))) a=some (.ins CS dx (bf "place" (.int 0) (bf "fitting" (.ref fl) (bf "recipe" (.ref b) [])))):=ak
 have n1:∀{z},upd H a (.ins CS dx (bf "place" (.int 0) (bf "fitting" (.ref fl) (bf "recipe" (.ref b) [])))) z=none->H z=none:=fun z=>(iw z).2
 generalize upd H a (.ins CS dx (bf "place" (.int 0) (bf "fitting" (.ref fl) (bf "recipe" (.ref b) []))))=H1 at *
 intro rk dxr hrk hdxr hne
 have ajp:(upd H1 dxr (.own rk)) rk=none:=(ao (Ne.symm hne)).trans hrk
 have S1:=(au (.own rk) hdxr).trans (au (.ins CR dxr []) ajp)
 refine⟨rk,dxr,b,r,rfl,ak,(hR.tups t1).same S1,hw,fun a1 a2 a3 H2 b2 h1 h2 h3 rc2=>⟨rfl, ?_⟩⟩
 have h1:=same_none S1 h1
 have h2:=same_none S1 h2
 have h3:=same_none S1 h3
 have S2:aQ H1 H2:=fK S1 (fun p hp=>by
  have:p=rk:=by simpa using hp
  rw[this];exact hrk) b2
 have e2:=S2 _ _ e1
 have nak:a≠rk:=fun z=>by rw[<-z,e1] at hrk;cases hrk
 have na1:a≠a1:=fun z=>by rw[<-z,e1] at h1;cases h1
 have na2:a≠a2:=fun z=>by rw[<-z,e1] at h2;cases h2
 have na3:a≠a3:=fun z=>by rw[<-z,e1] at h3;cases h3
 walk_at "vs"
 have t3:jg H2 (upd H2 a (.ins CS dx (bf "reckoning" (.ref rk) (bf "place" (.int 0) (bf "fitting" (.ref fl) (bf "recipe" (.ref b) [])))))):=fun p xs z=>(ao (fun y=>by rw[y,e2] at z;cases z)).trans z
 refine q ⟨a,dx,b,fl,rk,dxr,a1,a2,a3,0⟩ _ ((b1.trans (But.of_same S2)).trans (But.set _ (by simp))) rfl rfl rfl rfl ak (rc2.move (S:=[a]) (But.set _ (by simp)) t3 ?_) ?_
 ·intro z hz w
  have w:z=a:=by simpa using w
  have hz:z=rk\/z=a1\/z=a2\/z=a3:=by simpa using hz
  rcases hz with y | y | y | y
  ·exact nak (w.symm.trans y)
  ·exact na1 (w.symm.trans y)
  ·exact na2 (w.symm.trans y)
  ·exact na3 (w.symm.trans y)
 ·intro z hz
  have hz:z=rk\/z=a1\/z=a2\/z=a3:=by simpa using hz
  rcases hz with rfl | rfl | rfl | rfl
  ·exact n1 hrk
  ·exact n1 h1
  ·exact n1 h2
  ·exact n1 h3
end
section
local macro_rules | `(tactic| walk_at "side") => `(tactic| first | exact zz _ _ _ _ | exact vL _ _ _ _ | exact zA _ _ _ _ | exact qI _ _ _ _ | exact (ig _ _ _ _).1 | exact (ig _ _ _ _).2.1 | exact (ig _ _ _ _).2.2.1 | exact (ig _ _ _ _).2.2.2 | exact CQ _ _ _ | exact Nat.le_of_ble_eq_true rfl)
variable {P:Program}{w:World}{K:W.Frag}{mg:Str->Option Value}{base:Heap}{CN CS CR:Addr}
abbrev bM:Stmt:=yf 18 3
theorem tR:bU ["self"] ["self"] (aj bM):=⟨rfl,rfl,rfl,by decide +kernel,rfl,by decide +kernel,by decide +kernel⟩
theorem pW:GIq bM "len":=by decide +kernel
theorem pL:aF (aj bM) "self":=by decide +kernel
theorem pX:("len":Str)≠"__name__":=by decide +kernel
theorem pY:DBq "len":=by decide +kernel
def Xe (CS:Addr):Sp:=fun vs H Q _=>∃(s dx b fl rk:Addr) (k:Nat) (xs:List V),vs=[.ref s]/\H s=some (.ins CS dx (seF b fl k rk))/\H fl=some (.lst xs)/\Q (.bl (decide (xs.length=0))) H
theorem tU {f:Addr}{fd:FuncData} (bA:gO K CS "was_reckoned" "Settling.was_reckoned" bM ["self"] f fd) (T:Blt mg) (sc:SeC K CS):aZ P w K mg base CX0 1 f fd ["self"] (Xe CS):=by
 refine bA.F.okQ tR (fun vs H Q E h=> ?_) (fun cdv A outer s H vs Q E hr h=> ?_)
 ·obtain⟨a,dx,b,fl,rk,k,xs,rfl,_⟩:=h
  rfl
 obtain⟨a,dx,b,fl,rk,k,xs,rfl,e,ef,q⟩:=h
 have jy:=sc.cl
 have nF:=sc.nF
 refine⟨_,(aA (bF (vB fU (bR ie pW T.wI pQ (PJ (cF (aa 0 pL)) aq) pX pY) aB (aY _)))), ?_⟩
 walk_at "vs"
 have:decide (V.int (xs.length:Int)=V.int 0)=decide (xs.length=0):=by
  by_cases z:xs.length=0
  ·rw[decide_eq_true z,z];rfl
  ·rw[decide_eq_false z]
   exact decide_eq_false fun w=>z (by have:=V.int.inj w;omega)
 rw[this]
 exact q
abbrev dR:Stmt:=yf 18 2
theorem Bm:bU ["self","worth"] ["self","worth"] (aj dR):=⟨rfl,rfl,rfl,by decide +kernel,rfl,by decide +kernel,by decide +kernel⟩
theorem gQ:aF (aj dR) "self":=by decide +kernel
theorem Bo {f:Addr}{fd:FuncData} (gb:gO K CS "fit_on" "Settling.fit_on" dR ["self","worth"] f fd) (sc:SeC K CS):aZ P w K mg base CX0 1 f fd ["self","worth"] (abb CS):=by
 refine gb.F.okQ Bm (fun vs H Q E h=> ?_) (fun cdv A outer s H vs Q E hr h=> ?_)
 ·obtain⟨a,dx,b,fl,rk,rb,br,l,k,as,ps,v,w',u,x,rfl,_⟩:=h
  rfl
 obtain⟨a,dx,b,fl,rk,rb,br,l,k,as,ps,v,w',u,x,rfl,e,ef,erb,el,hRs,hk,q⟩:=h
 have jy:=sc.cl
 have nF:=sc.nF
 have nP:=sc.nP
 refine⟨_,(az (mz (aa 0 gQ) (CG rfl (n:=1) (fr:=[1,0]) (N:=["record","worth","self"]) (MJ (scX:=aj dR) (NX:=["self","worth"]) rfl rfl (by decide +kernel)) (zu (cF (aa 0 gQ))) (fun _ _ _ _ _=>(qgx (i:=0) (show List.Nodup (α:=Str) ["record","worth","self"] by decide) (Pu (by decide +kernel)))) (fun _ _ _ _ _=>(Vz (cN fU (cR (M4 (K:=K) rfl) (cR (J4 (K:=K) rfl) (cR (M4 (K:=K) rfl) (aa 0 (vz.ok (by decide +kernel))) aB) (Zv (K:=K) rfl (aa 2 (vz.ok (by decide +kernel))))) aB) (aa 1 (vz.ok (by decide +kernel))) (aY _)))) (fun _ _ _ _ _=>(aa 0 (vz.ok (by decide +kernel))))))
  (aA (mz (aa 0 gQ) (bW jW (cF (aa 0 gQ)) aB)))), ?_⟩
 have hkl:k<ps.length:=(List.getElem?_eq_some_iff.mp hk).1
 have hka:k<as.length:=by rw[hRs.length];exact hkl
 have hae:as[k]? =some as[k]:=List.getElem?_eq_getElem hka
 obtain⟨p,hp,ep⟩:=hRs.get k _ hae
 rw[hk] at hp
 cases hp
 have ep:H as[k]=some (.tup [.str x, .int u]):=ep
 have a1:atI [V.ref br, .ref l, .int v] 1=some (.ref l):=rfl
 have a2:atI (as.map V.ref) (k:Int)=some (.ref as[k]):=mV (by rw[List.getElem?_map,hae];rfl)
 have a3:atI [V.str x, .int u] 1=some (.int u):=rfl
 walk_at "vs"
 intro D hD
 have sD:=au (.lst []) hD
 refine Ew (xs:=[.ref rb]) (fun i σ' H'=>(∃t,σ'=[t,some (.int w'),some (.ref a)])/\aQ H H'/\H' D=some (.lst (if i=0 then [] else if u=w' then [.ref rb] else []))) ?_ ?_ ?_ ?_
 ·exact⟨⟨none,rfl⟩,sD,ak⟩
 ·intro i σ' H' _ hP
  exact SqL.of (hP.2.1 _ _ ef)
 ·intro i y σ' H' hy hP
  obtain⟨⟨t,rfl⟩,S1,eD⟩:=hP
  obtain⟨rfl,rfl⟩:i=0/\y= .ref rb:=by
   match i,hy with
   | 0,hy=>exact⟨rfl,(Option.some.inj hy).symm⟩
   | i+1,hy=>simp at hy
  rw[if_pos rfl] at eD
  have e1:=S1 _ _ e
  have alp:=S1 _ _ erb
  have el1:=S1 _ _ el
  have ep1:=S1 _ _ ep
  have hz:([]:List V).length<sizeLine:=bD (by simp)
  walk_at "vs"
  refine Am (fun c=> ?_) (fun c=> ?_)
  ·have c:u=w':=V.int.inj (of_decide_eq_true c)
   walk_at "vs"
   refine⟨⟨_,rfl⟩,oU _ hD S1, ?_⟩
   rw[if_neg (by decide),if_pos c];exact ak
  ·have c:¬u=w':=fun z=>c (decide_eq_true (by rw[z]))
   refine⟨⟨_,rfl⟩,S1, ?_⟩
   rw[if_neg (by decide),if_neg c];exact eD
 ·intro σ' H1 hP
  obtain⟨_,S1,eD⟩:=hP
  rw[show(if([V.ref rb]:List V).length=0 then([]:List V) else if u=w' then [.ref rb] else [])=if u=w' then [.ref rb] else [] from if_neg (by simp)] at eD
  have e1:=S1 _ _ e
  have naD:a≠D:=fun z=>by rw[z,hD] at e;cases e
  walk_at "vs"
  refine q D _ ((But.of_same S1).trans ((But.set _ (by simp)).trans (But.set _ (by simp)))) hD ak ?_
  rw[ao (Ne.symm naD),ao (Ne.symm naD)];exact eD
end
section
local macro_rules | `(tactic| walk_at "side") => `(tactic| first | exact zz _ _ _ _ | exact vL _ _ _ _ | exact zA _ _ _ _ | exact qI _ _ _ _ | exact (ig _ _ _ _).1 | exact (ig _ _ _ _).2.1 | exact (ig _ _ _ _).2.2.1 | exact (ig _ _ _ _).2.2.2 | exact CQ _ _ _ | exact Nat.le_of_ble_eq_true rfl)
variable {P:Program}{w:World}{K:W.Frag}{mg:Str->Option Value}{base:Heap}{CN CS CR:Addr}
abbrev bI:Stmt:=yf 18 1
theorem mC:bU ["self","known","reads","name"] ["self","known"] (aj bI):=⟨rfl,rfl,rfl,by decide +kernel,rfl,by decide +kernel,by decide +kernel⟩
theorem dH:aF (aj bI) "self":=by decide +kernel
theorem rY:Loc (aj bI) "reads":=by decide +kernel
theorem uL:GIq bI "len":=by decide +kernel
theorem mj:aF (aj bI) "reads":=by decide +kernel
theorem uM:("len":Str)≠"__name__":=by decide +kernel
theorem uN:DBq "len":=by decide +kernel
theorem tV:Loc (aj bI) "name":=by decide +kernel
theorem jq:aF (aj bI) "name":=by decide +kernel
theorem jh:aF (aj bI) "known":=by decide +kernel
theorem zL {f g0 g1:Addr}{fd gd0 gd1:FuncData} (fH:gO K CS "lacking" "Settling.lacking" bI ["self","known"] f fd)
 (gb:gO K CS "fit_on" "Settling.fit_on" dR ["self","worth"] g0 gd0) (Df:aZ P w K mg base CX0 1 g0 gd0 ["self","worth"] (abb CS))
 (eV:gO K CR "lacking" "Reckoning.lacking" cG ["self","known"] g1 gd1) (zM:aZ P w K mg base CX0 3 g1 gd1 ["self","known"] (V2 CR))
 (T:Blt mg) (sc:SeC K CS) (rcC:RkC K CR):aZ P w K mg base CX0 4 f fd ["self","known"] (Ko CS CR):=by
 refine fH.F.okQ mC (fun vs H Q E h=> ?_) (fun cdv A0 outer s H vs Q E hr h=> ?_)
 ·obtain⟨A,d,kr,rm,y,r,kn,rfl,_⟩:=h
  rfl
 obtain⟨A,d,kr,rm,y,r,kn,rfl,se,rD,rf,rcg,⟨kvs,ed,hkn⟩,nd3,hfn,q⟩:=h
 have jy:=sc.cl
 have nR:=sc.nR
 have nF:=sc.nF
 have nP:=sc.nP
 have nK:=sc.nK
 have mX:=rcC.cl
 refine⟨_,(az (HH PassesOwn.never (Hz (cF (aa 0 dH))) (az (bV (i:=2) mC.nd rfl rY (cR bZ (cR fV (cF (aa 0 dH)) aB) aB))
  (az (cX (cN fU (cF (aa 0 dH)) (bR ie uL T.wI pQ (aK (aa 2 mj) aq) uM uN) (aY _)) (aA (bF ni)) bY)
  (az (bV (i:=3) mC.nd rfl tV (cR bZ (cR fV (aa 2 mj) (cF (aa 0 dH))) aB))
  (az (cX (oW (bh hr) (aa 3 jq) (aa 1 jh)) (aA (bF (aa 3 jq))) bY)
  (aA (fQ (qG (aa 0 dH) jy gb.m (Df.mono (by omega)) hr gb.b .nil cQ (lq (aW (bh hr) (aa 1 jh) (aa 3 jq)) aq)))))))))
  (aA (bF (qG (cF (aa 0 dH)) mX eV.m (zM.mono (by omega)) hr eV.b .nil cQ (aK (aa 1 jh) aq))))), ?_⟩
 have nds:d∉[A.s]:=fun z=>by
  have z:d=A.s:=by simpa using z
  have:=se.e
  rw[<-z,ed] at this;cases this
 refine⟨fun m σ H'=>∃(A1:SeD) (t1 t2:Option V),σ=[some (.ref A.s),some (.ref d),t1,t2]/\But [A.s] H H'/\vM CS CR kr rm y r kn A1 H'/\A1.s=A.s/\A1.b=A.b/\A1.rk=A.rk/\A1.a1=A.a1/\A1.a2=A.a2/\A1.a3=A.a3/\A1.dx=A.dx/\(A1.fl=A.fl\/H A1.fl=none)/\m=1000 - A1.k,
  ⟨_,A,none,none,rfl,But.refl _ _,se,rfl,rfl,rfl,rfl,rfl,rfl,rfl, .inl rfl,rfl⟩, ?_⟩
 rintro m σ H1 ⟨A1,t1,t2,rfl,b1,se1,es,eb,erk,ea1,ea2,ea3,edx,efl,rfl⟩
 have e1:=se1.e
 rw[es] at e1
 have tp1:jg H H1:=fun p xs z=>b1 p _ (fun w=>by
  have w:p=A.s:=by simpa using w
  have:=se.e
  rw[<-w,z] at this;cases this) z
 have ed1:=b1 _ _ nds ed
 have rD1:wO H1 kr rm:=rD.map fun b' q' z=>z.but b1 tp1 (fun y hy=> .inr fun xs w=>by
  have w':y=A.s:=by simpa using hy
  have:=se.e
  rw[<-w',w] at this;cases this)
 have fin:∀H2,But [A.s] H1 H2->But A.ft H H2:=fun H2 b=>(b1.trans b).mono (by simp[SeD.ft])
 rcases se1.f with⟨rb,ps,v,Jz,hval,hrm,hkle,hall⟩ | ⟨Jz,nof⟩
 ·obtain⟨bb,hbb,br,l,as,f1,R1,el,hRs,_⟩:=rD1.v y _ hrm
  rw[hval] at hbb
  cases hbb
  have f1:H1 rb=some (.tup [.ref br, .ref l, .int v]):=f1
  have hRs:iC H1 as ps:=hRs
  have got:=rf ps v hrm
  have hpl:ps.length<=900:=Nat.le_trans (Nu got.c r.xV) rcg.l
  have a0:atI [V.ref rb] 0=some (.ref rb):=rfl
  have a1:atI [V.ref br, .ref l, .int v] 1=some (.ref l):=rfl
  have hlm:(as.map V.ref).length=ps.length:=by rw[List.length_map];exact hRs.length
  walk_at "vs"
  refine⟨fun σ' H'=>∃(A2:SeD) (t1 t2:Option V),σ'=[some (.ref A.s),some (.ref d),t1,t2]/\But [A.s] H H'/\vM CS CR kr rm y r kn A2 H'/\A2.s=A.s/\A2.b=A.b/\A2.rk=A.rk/\A2.a1=A.a1/\A2.a2=A.a2/\A2.a3=A.a3/\A2.dx=A.dx/\(A2.fl=A.fl\/H A2.fl=none)/\A2.k=A1.k+1,fun σ' H' ⟨A2,t1,t2,z1,z2,z3,z4,z5,z6,z7,z8,z9,z10,z11,z12⟩=>⟨1000 - A2.k,by omega,A2,t1,t2,z1,z2,z3,z4,z5,z6,z7,z8,z9,z10,z11,rfl⟩, ?_⟩
  walk_at "vs"
  refine Am (fun c=> ?_) (fun c=> ?_)
  ·have c:A1.k=ps.length:=by have:=V.int.inj (of_decide_eq_true c);omega
   walk_at "vs"
   refine(q A1 H1 (fin H1 (But.refl _ _)) es eb erk ea1 ea2 ea3 efl se1).1 (.inl ⟨rb,ps,v,Jz,hval,hrm,fun p hp=> ?_⟩)
   obtain⟨j,hj⟩:=List.getElem?_of_mem hp
   exact hall j p (by rw[c];exact(List.getElem?_eq_some_iff.mp hj).1) hj
  ·have c:A1.k<ps.length:=by
    have:¬A1.k=ps.length:=fun z=>c (decide_eq_true (by rw[hlm,z]))
    omega
   have hka:A1.k<as.length:=by rw[hRs.length];exact c
   have hae:as[A1.k]? =some as[A1.k]:=List.getElem?_eq_getElem hka
   obtain⟨⟨x,u⟩,hp,ep⟩:=hRs.get A1.k _ hae
   have ep:H1 as[A1.k]=some (.tup [.str x, .int u]):=ep
   have a2:atI (as.map V.ref) (A1.k:Int)=some (.ref as[A1.k]):=mV (by rw[List.getElem?_map,hae];rfl)
   have a3:atI [V.str x, .int u] 0=some (.str x):=rfl
   have dw:cD H1 d (.str x) ((kn x).map V.int):=by rw[<-hkn];exact cD.k (k:= .inr x) ed1
   cases ekn:kn x with
   | none=>
     rw[ekn] at dw
     have dw:cD H1 d (.str x) none:=dw
     walk_at "vs"
     exact(q A1 H1 (fin H1 (But.refl _ _)) es eb erk ea1 ea2 ea3 efl se1).2 x ekn (Qh got.c hp hall)
   | some w'=>
     rw[ekn] at dw
     have dw:cD H1 d (.str x) (some (.int w')):=dw
     walk_at "vs"
     intro fl' H2 b2 hfl' e2 Ux
     have hs1:∀xs,H1 A.s≠some (.lst xs):=fun xs z=>by rw[e1] at z;cases z
     have tp2:jg H1 H2:=fun p xs z=>b2 p _ (fun w=>by
      have w:p=A.s:=by simpa using w
      rw[w,e1] at z;cases z) z
     obtain⟨cf,rc1,rch⟩:=se1.c
     have hns:∀{z:Addr},z≠A.s->z∉[A.s]:=fun h w=>h (by simpa using w)
     have nrk:A1.rk≠A.s:=fun z=>se1.n1 (by rw[es,z])
     have n1:A1.a1≠A.s:=fun z=>by obtain⟨ws,w1,_⟩:=rc1.e1;rw[z,e1] at w1;cases w1
     have n2:A1.a2≠A.s:=fun z=>by have w1:=rc1.e2;rw[z,e1] at w1;cases w1
     have n3:A1.a3≠A.s:=fun z=>by have w1:=rc1.e3;rw[z,e1] at w1;cases w1
     have f1n:fl'≠A1.a1:=fun z=>by obtain⟨ws,w1,_⟩:=rc1.e1;rw[<-z,hfl'] at w1;cases w1
     have f2n:fl'≠A1.a2:=fun z=>by have w1:=rc1.e2;rw[<-z,hfl'] at w1;cases w1
     refine⟨⟨A.s,A1.dx,A1.b,fl',A1.rk,A1.dxr,A1.a1,A1.a2,A1.a3,A1.k+1⟩,_,_,rfl,b1.trans b2,⟨e2,se1.hr.tups tp2,⟨cf,rc1.move b2 tp2 (fun z hz=> ?_),rch⟩, ?_,fun z=>nrk z.symm,f1n,f2n⟩,rfl,eb,erk,ea1,ea2,ea3,edx, .inr ?_,rfl⟩
     ·have hz:z=A1.rk\/z=A1.a1\/z=A1.a2\/z=A1.a3:=by simpa using hz
      rcases hz with rfl | rfl | rfl | rfl
      ·exact hns nrk
      ·exact hns n1
      ·exact hns n2
      ·exact hns n3
     ·by_cases huw:u=w'
      ·rw[if_pos huw] at Ux
       refine .inl ⟨rb,ps,v,Ux,hval,hrm,c,fun j p hj hpj=> ?_⟩
       have hj:j<A1.k+1:=hj
       by_cases hjk:j=A1.k
       ·rw[hjk,hp] at hpj;cases hpj
        rw[ekn,huw]
       ·exact hall j p (by omega) hpj
      ·rw[if_neg huw] at Ux
       refine .inr ⟨Ux,fun r2 ps2 v2 e=> ?_⟩
       rw[hrm] at e;cases e
       exact .inr ⟨(x,u),List.mem_of_getElem? hp,w',ekn,fun z=>huw z.symm⟩
     ·exact Ia b1 hfl' (hns (show fl'≠A.s from fun z=>by rw[z,e1] at hfl';cases hfl'))
 ·obtain⟨cf,rc1,rch⟩:=se1.c
  have alq:=rc1.e
  obtain⟨nn,cf',hst,hhalt,rch',gg⟩:=rch.afY hfn
  have knA:V1 H1 d kn:=⟨kvs,ed1,hkn⟩
  have alr:d≠A1.a3:=by rw[ea3];exact nd3
  walk_at "vs"
  intro H2 b2 rc2
  have tp2:=rc1.lists b2
  have nss:A1.s∉[A1.a1,A1.a2,A1.a3]:=fun z=>by
   have e1:=se1.e
   have z:A1.s=A1.a1\/A1.s=A1.a2\/A1.s=A1.a3:=by simpa using z
   rcases z with z | z | z
   ·obtain⟨ws,w1,_⟩:=rc1.e1;rw[z,w1] at e1;cases e1
   ·rw[z,rc1.e2] at e1;cases e1
   ·rw[z,rc1.e3] at e1;cases e1
  have nfl:A1.fl∉[A1.a1,A1.a2,A1.a3]:=fun z=>by
   have z:A1.fl=A1.a1\/A1.fl=A1.a2\/A1.fl=A1.a3:=by simpa using z
   rcases z with z | z | z
   ·exact se1.n2 z
   ·exact se1.n3 z
   ·rw[z,rc1.e3] at Jz;cases Jz
  have se2:vM CS CR kr rm y r kn A1 H2:=⟨b2 _ _ nss se1.e,se1.hr.tups tp2,⟨cf',rc2,rch'⟩, .inr ⟨b2 _ _ nfl Jz,nof⟩,se1.n1,se1.n2,se1.n3⟩
  have bb:But A.ft H H2:=(b1.mono (by simp[SeD.ft])).trans (b2.mono (by rw[ea1,ea2,ea3];simp[SeD.ft]))
  have qq:=q A1 H2 bb es eb erk ea1 ea2 ea3 efl se2
  unfold Goes at gg
  cases eev:ev kn r with
  | inr v=>
    rw[eev] at gg
    obtain⟨g1,g2,g3,g4⟩:=gg
    exact⟨fun _=>qq.1 (.inr ⟨b2 _ _ nfl Jz,nof,cf',v,rc2,g2,g3,g4⟩),fun t x z=>by rw[g1] at z;simp at z⟩
  | inl x=>
    rw[eev] at gg
    obtain⟨⟨t,g1⟩,g2,g3⟩:=gg
    refine⟨fun z=>by rw[g1] at z;simp at z,fun t' x' z=> ?_⟩
    rw[g1] at z
    obtain⟨_,z⟩:=kW z
    cases z
    exact qq.2 x g2 g3
end
section
local macro_rules | `(tactic| walk_at "side") => `(tactic| first | exact zz _ _ _ _ | exact vL _ _ _ _ | exact zA _ _ _ _ | exact qI _ _ _ _ | exact (ig _ _ _ _).1 | exact (ig _ _ _ _).2.1 | exact (ig _ _ _ _).2.2.1 | exact (ig _ _ _ _).2.2.2 | exact CQ _ _ _ | exact HW _ _ _ | exact HX _ _ _ | exact Nat.le_of_ble_eq_true rfl)
variable {P:Program}{w:World}{K:W.Frag}{mg:Str->Option Value}{base:Heap}{CN CS CR:Addr}
abbrev cP:Stmt:=yf 18 4
theorem vX:bU ["self"] ["self"] (aj cP):=⟨rfl,rfl,rfl,by decide +kernel,rfl,by decide +kernel,by decide +kernel⟩
theorem cI:aF (aj cP) "self":=by decide +kernel
theorem lB:GIq cP "list":=by decide +kernel
theorem qM:("list":Str)≠"__name__":=by decide +kernel
theorem qN:DBq "list":=by decide +kernel
theorem vY {f g0:Addr}{fd gd0:FuncData} (dJ:gO K CS "new_record" "Settling.new_record" cP ["self"] f fd)
 (bA:gO K CS "was_reckoned" "Settling.was_reckoned" bM ["self"] g0 gd0) (jz:aZ P w K mg base CX0 1 g0 gd0 ["self"] (Xe CS))
 (T:Blt mg) (sc:SeC K CS) (rcC:RkC K CR):aZ P w K mg base CX0 2 f fd ["self"] (RT CS CR):=by
 refine dJ.F.okQ vX (fun vs H Q E h=> ?_) (fun cdv A0 outer s H vs Q E hr h=> ?_)
 ·obtain⟨A,kr,rm,y,r,kn,rfl,_⟩:=h
  rfl
 obtain⟨A,kr,rm,y,r,kn,rfl,e,rD,rf,rcg,se,q⟩:=h
 have jy:=sc.cl
 have nR:=sc.nR
 have nF:=sc.nF
 have nP:=sc.nP
 have nK:=sc.nK
 have mX:=rcC.cl
 have nFo:=rcC.nF
 have nRe:=rcC.nR
 refine⟨_,(az (cX (mq (HR (aa 0 cI) jy bA.m (jz.mono (by omega)) hr bA.b .nil cQ)) (aA (bF (gF (PJ (cF (aa 0 cI)) (tE (adg rfl (cF (cF (aa 0 cI))) lB T.Ay) (lq (cR fV (cF (cF (aa 0 cI))) aB) aq)))))) bY)
  (aA (bF (gF (PJ (cF (aa 0 cI)) (tE (lW Ax lB T.Ay vA (lq (cR bZ (cR fV (cF (aa 0 cI)) aB) aB) aq) qM qN) (lq (cR bZ (cR fV (cF (aa 0 cI)) aB) aB) aq))))))), ?_⟩
 rcases se with⟨rb,ps,v,efl,hval,hrm,hall⟩ | ⟨efl,nof,c,v,rc1,hfo,got,rows⟩
 ·obtain⟨bb,hbb,br,l,as,f1,R1,el,hRs,_⟩:=rD.v y _ hrm
  rw[hval] at hbb
  cases hbb
  have f1:H rb=some (.tup [.ref br, .ref l, .int v]):=f1
  have hRs:iC H as ps:=hRs
  have got:=rf ps v hrm
  have hpl:ps.length<=900:=Nat.le_trans (Nu got.c r.xV) rcg.l
  have a0:atI [V.ref rb] 0=some (.ref rb):=rfl
  have a1:atI [V.ref br, .ref l, .int v] 1=some (.ref l):=rfl
  have a2:atI [V.ref br, .ref l, .int v] 2=some (.int v):=rfl
  walk_at "vs"
  intro l' hl'
  have s1:=au (.lst (as.map V.ref)) hl'
  have el1:upd H l' (.lst (as.map V.ref)) l'=some (.lst (as.map V.ref)):=ak
  have e1:=s1 _ _ e
  have Jz:=s1 _ _ efl
  have f11:=s1 _ _ f1
  generalize upd H l' (.lst (as.map V.ref))=H1 at *
  walk_at "vs"
  intro rb' hrb'
  have s2:=au (.tup [.ref A.b, .ref l', .int v]) hrb'
  exact q rb' l' as ps v false _ (s1.trans s2) ak hl' (s2 _ _ el1) (hRs.same (s1.trans s2)) ⟨got,⟨hall,(zx got.c).2⟩,hrm⟩ ⟨_,s2 _ _ Jz,rfl⟩
 ·have e1:=rc1.e
  have e2:=rc1.e2
  rw[hfo] at e2
  have e3:=rc1.e3
  have a0:atI [V.int v] 0=some (.int v):=rfl
  walk_at "vs"
  intro l' as H1 s1 hl' el1 hal hit
  have e1':=s1 _ _ e1
  have e2':H1 A.a2=some (.lst [.int v]):=s1 _ _ e2
  have eS:=s1 _ _ e
  have Jz:=s1 _ _ efl
  walk_at "vs"
  intro rb' hrb'
  have s2:=au (.tup [.ref A.b, .ref l', .int v]) hrb'
  have hR:iC H1 as c.rds:=Nr (by rw[hal];unfold rdK;rw[List.length_map]) fun j b p h1 h2=>by
   have h3:(rdK c.rds)[j]? =some (.inr p.1, .int p.2):=by unfold rdK;rw[List.getElem?_map,h2];rfl
   exact hit j b _ h1 h3
  exact q rb' l' as c.rds v true _ (s1.trans s2) ak hl' (s2 _ _ el1) (hR.same s2) ⟨got,rows,nof⟩ ⟨_,s2 _ _ Jz,rfl⟩
end
section
local macro_rules | `(tactic| walk_at "side") => `(tactic| first | exact CV _ _ _ _ _ _ | exact vN _ _ _ _ _ _ | exact Lb _ _ _ _ _ _ | exact CW _ _ _ _ _ _ | exact vO _ _ _ _ _ _ | exact sJ _ _ _ _ _ _ | exact (jx _ _ _ _ _ _).1 | exact (jx _ _ _ _ _ _).2.1 | exact (jx _ _ _ _ _ _).2.2.1 | exact (jx _ _ _ _ _ _).2.2.2.1 | exact (jx _ _ _ _ _ _).2.2.2.2 | exact (Fd _).1 | exact (Fd _).2 | exact (ig _ _ _ _).1 | exact (ig _ _ _ _).2.2.1 | exact (ig _ _ _ _).2.2.2 | exact Nat.le_of_ble_eq_true rfl)
variable {P:Program}{w:World}{K:W.Frag}{mg:Str->Option Value}{base:Heap}{CSe CN CS CR CM CNo CRi:Addr}
abbrev dz:Stmt:=yf 19 0
theorem Bp:bU ["self","house","old"] ["self","house","old"] (aj dz):=⟨rfl,rfl,rfl,by decide +kernel,rfl,by decide +kernel,by decide +kernel⟩
theorem dW:aF (aj dz) "self":=by decide +kernel
theorem mR:aF (aj dz) "house":=by decide +kernel
theorem vZ:aF (aj dz) "old":=by decide +kernel
theorem Bq {f:Addr}{fd:FuncData} (gR:gO K CSe "__init__" "Search.__init__" dz ["self","house","old"] f fd) (sc:SrC K CSe):aZ P w K mg base CX0 1 f fd ["self","house","old"] (Nv CSe):=by
 refine gR.F.okQ Bp (fun vs H Q E h=> ?_) (fun cdv A outer s H vs Q E hr h=> ?_)
 ·obtain⟨a,dx,h,g,c,o,rfl,_⟩:=h
  rfl
 obtain⟨a,dx,h,g,c,o,rfl,e,eh,q⟩:=h
 have qO:=sc.cl
 have nG:=sc.nG
 have nR:=sc.nR
 have nO:=sc.nO
 have nK:=sc.nK
 have nS:=sc.nS
 have nM:=sc.nM
 refine⟨_,(az (mz (aa 0 dW) (cR bZ (aa 1 mR) aB))
  (az (mz (aa 0 dW) (cR bZ (aa 1 mR) aB))
  (az (mz (aa 0 dW) (aa 2 vZ))
  (az (mz (aa 0 dW) mF)
  (az (mz (aa 0 dW) mF)
  (aA (mz (aa 0 dW) mF))))))), ?_⟩
 have nha:h≠a:=fun z=>by rw[z,e] at eh;cases eh
 have a0:atI [V.ref g, .ref c] 0=some (.ref g):=rfl
 have a1:atI [V.ref g, .ref c] 1=some (.ref c):=rfl
 walk_at "vs"
 rw[lR,lR]
 have b1:But [a] H (upd H a (.ins CSe dx (bf "old" (.ref o) (bf "recipes" (.ref c) (bf "given" (.ref g) []))))):=But.set _ (by simp)
 have e1:upd H a (.ins CSe dx (bf "old" (.ref o) (bf "recipes" (.ref c) (bf "given" (.ref g) [])))) a=some (.ins CSe dx (bf "old" (.ref o) (bf "recipes" (.ref c) (bf "given" (.ref g) [])))):=ak
 have n1:∀{z},upd H a (.ins CSe dx (bf "old" (.ref o) (bf "recipes" (.ref c) (bf "given" (.ref g) [])))) z=none->H z=none:=fun z=>(iw z).2
 generalize upd H a (.ins CSe dx (bf "old" (.ref o) (bf "recipes" (.ref c) (bf "given" (.ref g) []))))=H1 at *
 walk_at "vs"
 intro kd hkd
 have s2:=au (.dK []) hkd
 have ek2:upd H1 kd (.dK []) kd=some (.dK []):=ak
 have e2:=s2 _ _ e1
 generalize upd H1 kd (.dK [])=H2 at *
 have nka:kd≠a:=fun z=>by rw[z,e2] at ek2;cases ek2
 walk_at "vs"
 have b3:But [a] H2 (upd H2 a (.ins CSe dx (bf "known" (.ref kd) (bf "old" (.ref o) (bf "recipes" (.ref c) (bf "given" (.ref g) [])))))):=But.set _ (by simp)
 have e3:upd H2 a (.ins CSe dx (bf "known" (.ref kd) (bf "old" (.ref o) (bf "recipes" (.ref c) (bf "given" (.ref g) []))))) a=some (.ins CSe dx (bf "known" (.ref kd) (bf "old" (.ref o) (bf "recipes" (.ref c) (bf "given" (.ref g) []))))):=ak
 have ek3:upd H2 a (.ins CSe dx (bf "known" (.ref kd) (bf "old" (.ref o) (bf "recipes" (.ref c) (bf "given" (.ref g) []))))) kd=some (.dK []):=(ao nka).trans ek2
 have n3:∀{z},upd H2 a (.ins CSe dx (bf "known" (.ref kd) (bf "old" (.ref o) (bf "recipes" (.ref c) (bf "given" (.ref g) []))))) z=none->H2 z=none:=fun z=>(iw z).2
 generalize upd H2 a (.ins CSe dx (bf "known" (.ref kd) (bf "old" (.ref o) (bf "recipes" (.ref c) (bf "given" (.ref g) [])))))=H3 at *
 intro sd hsd
 have s4:=au (.dK []) hsd
 have es4:upd H3 sd (.dK []) sd=some (.dK []):=ak
 have nks:kd≠sd:=fun z=>by rw[<-z,ek3] at hsd;cases hsd
 have ek4:=s4 _ _ ek3
 have e4:=s4 _ _ e3
 generalize upd H3 sd (.dK [])=H4 at *
 have nsa:sd≠a:=fun z=>by rw[z,e4] at es4;cases es4
 walk_at "vs"
 have b5:But [a] H4 (upd H4 a (.ins CSe dx (bf "settled" (.ref sd) (bf "known" (.ref kd) (bf "old" (.ref o) (bf "recipes" (.ref c) (bf "given" (.ref g) []))))))):=But.set _ (by simp)
 have e5:upd H4 a (.ins CSe dx (bf "settled" (.ref sd) (bf "known" (.ref kd) (bf "old" (.ref o) (bf "recipes" (.ref c) (bf "given" (.ref g) [])))))) a=some (.ins CSe dx (bf "settled" (.ref sd) (bf "known" (.ref kd) (bf "old" (.ref o) (bf "recipes" (.ref c) (bf "given" (.ref g) [])))))):=ak
 have ek5:upd H4 a (.ins CSe dx (bf "settled" (.ref sd) (bf "known" (.ref kd) (bf "old" (.ref o) (bf "recipes" (.ref c) (bf "given" (.ref g) [])))))) kd=some (.dK []):=(ao nka).trans ek4
 have es5:upd H4 a (.ins CSe dx (bf "settled" (.ref sd) (bf "known" (.ref kd) (bf "old" (.ref o) (bf "recipes" (.ref c) (bf "given" (.ref g) [])))))) sd=some (.dK []):=(ao nsa).trans es4
 have n5:∀{z},upd H4 a (.ins CSe dx (bf "settled" (.ref sd) (bf "known" (.ref kd) (bf "old" (.ref o) (bf "recipes" (.ref c) (bf "given" (.ref g) [])))))) z=none->H4 z=none:=fun z=>(iw z).2
 generalize upd H4 a (.ins CSe dx (bf "settled" (.ref sd) (bf "known" (.ref kd) (bf "old" (.ref o) (bf "recipes" (.ref c) (bf "given" (.ref g) []))))))=H5 at *
 intro rd hrd
 have s6:=au (.dK []) hrd
 have er6:upd H5 rd (.dK []) rd=some (.dK []):=ak
 have nkr:kd≠rd:=fun z=>by rw[<-z,ek5] at hrd;cases hrd
 have nsr:sd≠rd:=fun z=>by rw[<-z,es5] at hrd;cases hrd
 have ek6:=s6 _ _ ek5
 have es6:=s6 _ _ es5
 have e6:=s6 _ _ e5
 generalize upd H5 rd (.dK [])=H6 at *
 have nra:rd≠a:=fun z=>by rw[z,e6] at er6;cases er6
 walk_at "vs"
 have hk0:H kd=none:=n1 hkd
 have hs0:H sd=none:=n1 (same_none s2 (n3 hsd))
 have hr0:H rd=none:=n1 (same_none s2 (n3 (same_none s4 (n5 hrd))))
 exact q kd sd rd _ ((b1.trans (But.of_same s2)).trans (b3.trans ((But.of_same s4).trans (b5.trans ((But.of_same s6).trans (But.set _ (by simp))))))) ak hk0 hs0 hr0 nks nkr nsr ((ao nka).trans ek6) ((ao nsa).trans es6) ((ao nra).trans er6)
abbrev dB:Stmt:=yf 3 0
theorem Br:bU ["self","name"] ["self","name"] (aj dB):=⟨rfl,rfl,rfl,by decide +kernel,rfl,by decide +kernel,by decide +kernel⟩
theorem pZ:GIq dB "MadeError":=by decide +kernel
theorem m6:aF (aj dB) "self":=by decide +kernel
theorem m7:aF (aj dB) "name":=by decide +kernel
theorem p6:DBq "MadeError":=by decide +kernel
theorem Bs {f:Addr}{fd:FuncData} (gU:gO K CNo "__init__" "NoName.__init__" dB ["self","name"] f fd) (zH:ExI K CNo f) (yE:ExU K CM) (rE:mg "MadeError"=some (.ref CM)) (nN:W.findIn K (.ref CNo) "name"=some none):aZ P w K mg base CX0 1 f fd ["self","name"] (abi CNo):=by
 refine gU.F.okQ Br (fun vs H Q E h=> ?_) (fun cdv A outer s H vs Q E hr h=> ?_)
 ·obtain⟨e,y,rfl,_⟩:=h
  rfl
 obtain⟨e,y,rfl,ee,⟨y1,y2⟩,q⟩:=h
 refine⟨_,(az (fQ (Wv yE pZ rE (aa 0 m6) (Wx (aa 1 m7) (by decide +kernel)) p6 ⟨rfl,rfl,rfl,rfl⟩))
  (aA (Sh rfl (aa 0 m6) (aa 1 m7) rfl))), ?_⟩
 walk_at "vs"
 intro z hz
 refine⟨e,CNo,f,none,rfl,ee,zH, ?_⟩
 walk_at "vs"
 exact q
abbrev dG:Stmt:=yf 4 0
theorem Fo:bU ["self","ring"] ["self","ring"] (aj dG):=⟨rfl,rfl,rfl,by decide +kernel,rfl,by decide +kernel,by decide +kernel⟩
theorem rF:GIq dG "MadeError":=by decide +kernel
theorem oK:aF (aj dG) "self":=by decide +kernel
theorem rG:DBq "MadeError":=by decide +kernel
theorem wW:GIq dG "list":=by decide +kernel
theorem wX:aF (aj dG) "ring":=by decide +kernel
theorem wY:("list":Str)≠"__name__":=by decide +kernel
theorem wZ:DBq "list":=by decide +kernel
theorem Fp {f:Addr}{fd:FuncData} (jj:gO K CRi "__init__" "Ring.__init__" dG ["self","ring"] f fd) (Oh:ExI K CRi f) (yE:ExU K CM) (rE:mg "MadeError"=some (.ref CM)) (nN:W.findIn K (.ref CRi) "ring"=some none) (T:Blt mg):aZ P w K mg base CX0 1 f fd ["self","ring"] (abj CRi):=by
 refine jj.F.okQ Fo (fun vs H Q E h=> ?_) (fun cdv A outer s H vs Q E hr h=> ?_)
 ·obtain⟨e,l,xs,rfl,_⟩:=h
  rfl
 obtain⟨e,l,xs,rfl,ee,el,hxl,q⟩:=h
 refine⟨_,(az (fQ (Wv yE rF rE (aa 0 oK) aC rG ⟨rfl,rfl,rfl,rfl⟩))
  (aA (Sh rfl (aa 0 oK) (lW Ax wW T.Ay vA (aK (aa 1 wX) aq) wY wZ) rfl))), ?_⟩
 walk_at "vs"
 intro l' hl'
 have nel:e≠l':=fun z=>by rw[z,hl'] at ee;cases ee
 have ee':upd H l' (.lst xs) e=some (wQ CRi none e):=(ao nel).trans ee
 walk_at "vs"
 exact fun dx hdx ne=>q l' dx hl' hdx ne
abbrev di:Stmt:=yf 19 1
theorem wK:bU ["self","name","r"] ["self","name"] (aj di):=⟨rfl,rfl,rfl,by decide +kernel,rfl,by decide +kernel,by decide +kernel⟩
theorem jl:aF (aj di) "name":=by decide +kernel
theorem lK:aF (aj di) "self":=by decide +kernel
theorem v5:GIq di "NoName":=by decide +kernel
theorem v7:DBq "NoName":=by decide +kernel
theorem Dg:Loc (aj di) "r":=by decide +kernel
theorem tW:GIq di "Settling":=by decide +kernel
theorem sU:aF (aj di) "r":=by decide +kernel
theorem tX:DBq "Settling":=by decide +kernel
theorem GC {f g0 g1 g2:Addr}{fd gd0 gd1 gd2:FuncData} (iT:gO K CSe "begin" "Search.begin" di ["self","name"] f fd)
 (cO:gO K CN "records_for" "NamedRecords.records_for" aP ["self","name","r"] g0 gd0) (rH:aZ P w K mg base CX0 13 g0 gd0 ["self","name","r"] (RQ CN))
 (gA:gO K CS "__init__" "Settling.__init__" cH ["self","r","records"] g1 gd1) (zN:aZ P w K mg base CX0 3 g1 gd1 ["self","r","records"] (Np CS CR))
 (Bt:Mk K CS g1) (Bu:mg "Settling"=some (.ref CS)) (gU:gO K CNo "__init__" "NoName.__init__" dB ["self","name"] g2 gd2) (Dh:aZ P w K mg base CX0 1 g2 gd2 ["self","name"] (abi CNo)) (zH:ExI K CNo g2) (Xf:W.isFn K (.ref g2)=true) (Hg:mg "NoName"=some (.ref CNo))
 (T:Blt mg) (sc:SrC K CSe) (nc:NrC K CN):aZ P w K mg base (CXd P w) 14 f fd ["self","name"] (NZ CSe CN CS CR CNo CRi):=by
 refine iT.F.okD wK (fun vs H Q E h=> ?_) (fun cdv A0 outer s H vs Q E hr h=> ?_)
 ·obtain⟨D,gs,cs,gv,rc,kg,kc,kr,rm,y,rfl,_⟩:=h
  rfl
 obtain⟨D,gs,cs,gv,rc,kg,kc,kr,rm,y,rfl,sh,q,qe⟩:=h
 have qO:=sc.cl
 have nR:=sc.nR
 have nO:=sc.nO
 have mL:=nc.cl
 have e:=sh.e
 have ec:=sh.ec
 have eo:=sh.eo
 have er:=sh.er
 have rD:=sh.rD
 refine⟨_,(az (cX (oW (bh hr) (aa 1 jl) (cF (aa 0 lK))) (aA (Kq zH (Dh.mono (by omega)) hr Xf gU.b v5 Hg (aK (aa 1 jl) aq) v7)) bY)
  (az (bV (i:=2) wK.nd rfl Dg (aW (bh hr) (cF (aa 0 lK)) (aa 1 jl)))
  (aA (bF (CP Bt (zN.mono (by omega)) hr tW Bu gA.b .nil cQ (aK (aa 2 sU) (tE (qG (cF (aa 0 lK)) mL cO.m (rH.mono (by omega)) hr cO.b .nil cQ (aK (aa 1 jl) (aK (aa 2 sU) aq))) aq)) tX))))), ?_⟩
 cases hrc:rc y with
 | none=>
   obtain⟨nm,qe⟩:=qe hrc
   have dc:cD H D.c (.str y) none:=by rw[<-sh.bd.rn y hrc];exact cD.k (k:= .inr y) ec
   walk_at "vs"
   intro e he
   refine⟨e,y,rfl,ak,nm,fun dx hdx ne=>⟨rfl,dx,upd H dx (.xd [("name", .str y)]), ?_,(ao (Ne.symm ne)).trans he,qe _ _ _ (au _ ((ao ne).symm.trans hdx)) ⟨rfl,dx,rfl,ak⟩⟩⟩
   rw[uC (Ne.symm ne),lR]
 | some r=>
   have q:=q r hrc
   obtain⟨br,hbr,hR⟩:=sh.bd.r y r hrc
   have rk0:=sh.bd.ok y r hrc
   have hg:=rk0.g
   have hd8:=rk0.d
   have hw:=rk0.w
   have dc:cD H D.c (.str y) (some (.ref br)):=by rw[<-hbr];exact cD.k (k:= .inr y) ec
   walk_at "vs"
   intro fl H1 s1 hfl fit
   have hR1:=hR.same s1
   walk_at "vs"
   intro a dx ha hdx hne
   have haH:(upd H1 dx (.own a)) a=none:=(ao (Ne.symm hne)).trans ha
   have S1:=(au (.own a) hdx).trans (au (.ins CS dx []) haH)
   refine⟨a,dx,br,fl,r,rfl,ak,hR1.same S1,hw,fun A H2 b2 eA eb efl ek e2 rc2 hfr=>⟨rfl, ?_⟩⟩
   have S2:aQ H1 H2:=fK S1 (fun p hp=>by
    have:p=a:=by simpa using hp
    rw[this];exact ha) b2
   have Uy:∀z∈[A.rk,A.a1,A.a2,A.a3],H1 z=none:=fun z hz=>same_none S1 (hfr z hz)
   have agb:H1 fl≠none:=fun z=>by
    rcases fit kn0 with⟨rb,ps,v,w1,_⟩ | ⟨w1,_⟩
    ·rw[z] at w1;cases w1
    ·rw[z] at w1;cases w1
   rw[<-eA]
   refine q A H2 (s1.trans S2) (fun z hz=> ?_) (fun kn=>⟨?_, ?_,⟨_,rc2,⟨0, .zero⟩⟩, ?_,fun z=> ?_,fun z=> ?_,fun z=> ?_⟩)
   ·have hz:z=A.s\/z=A.fl\/z=A.rk\/z=A.a1\/z=A.a2\/z=A.a3:=by simpa [SeD.ft] using hz
    rcases hz with w | w | w | w | w | w
    ·rw[w,eA];exact same_none s1 ha
    ·rw[w,efl];exact hfl
    ·exact same_none s1 (Uy z (by simp[w]))
    ·exact same_none s1 (Uy z (by simp[w]))
    ·exact same_none s1 (Uy z (by simp[w]))
    ·exact same_none s1 (Uy z (by simp[w]))
   ·rw[eA,eb,efl,ek];exact e2
   ·rw[eb];exact hR1.same S2
   ·rw[efl,ek];exact(fit kn).at fun o e=>S2 _ _ e
   ·have:=hfr A.rk (by simp)
    rw[<-z,eA,ak] at this;cases this
   ·exact agb (by rw[<-efl,z];exact Uy _ (by simp))
   ·exact agb (by rw[<-efl,z];exact Uy _ (by simp))
end
section
local macro_rules | `(tactic| walk_at "side") => `(tactic| first | exact CV _ _ _ _ _ _ | exact vN _ _ _ _ _ _ | exact Lb _ _ _ _ _ _ | exact CW _ _ _ _ _ _ | exact vO _ _ _ _ _ _ | exact sJ _ _ _ _ _ _ | exact (jx _ _ _ _ _ _).1 | exact (jx _ _ _ _ _ _).2.1 | exact (jx _ _ _ _ _ _).2.2.1 | exact (jx _ _ _ _ _ _).2.2.2.1 | exact (jx _ _ _ _ _ _).2.2.2.2 | exact (Fd _).1 | exact (Fd _).2 | exact (ig _ _ _ _).1 | exact (ig _ _ _ _).2.2.1 | exact (ig _ _ _ _).2.2.2 | exact Nat.le_of_ble_eq_true rfl)
variable {P:Program}{w:World}{K:W.Frag}{mg:Str->Option Value}{base:Heap}{CSe CN CS CR:Addr}
abbrev fu:Stmt:=yf 19 2
theorem Af:bU ["self","name","settling","record"] ["self","name","settling"] (aj fu):=⟨rfl,rfl,rfl,by decide +kernel,rfl,by decide +kernel,by decide +kernel⟩
theorem yF:Loc (aj fu) "record":=by decide +kernel
theorem nQ:aF (aj fu) "settling":=by decide +kernel
theorem jY:aF (aj fu) "self":=by decide +kernel
theorem mY:aF (aj fu) "name":=by decide +kernel
theorem lM:aF (aj fu) "record":=by decide +kernel
theorem JB {f g0 g1 g2:Addr}{fd gd0 gd1 gd2:FuncData} (jZ:gO K CSe "end" "Search.end" fu ["self","name","settling"] f fd)
 (dJ:gO K CS "new_record" "Settling.new_record" cP ["self"] g0 gd0) (w6:aZ P w K mg base CX0 2 g0 gd0 ["self"] (RT CS CR))
 (bA:gO K CS "was_reckoned" "Settling.was_reckoned" bM ["self"] g1 gd1) (jz:aZ P w K mg base CX0 1 g1 gd1 ["self"] (Xe CS))
 (dh:gO K CN "put_made" "NamedRecords.put_made" cZ ["self","record"] g2 gd2) (uO:aZ P w K mg base CX0 1 g2 gd2 ["self","record"] aba)
 (T:Blt mg) (sr:SrC K CSe) (sc:SeC K CS) (nc:NrC K CN):aZ P w K mg base CX0 3 f fd ["self","name","settling"] (RW CSe CN CS CR):=by
 refine jZ.F.okQ Af (fun vs H Q E h=> ?_) (fun cdv A0 outer s H vs Q E hr h=> ?_)
 ·obtain⟨H0,D,gs,cs,gv,rc,kg,kc,kr,rm,kn,rmN,rkn,od,Hf,A,y,r,rfl,_⟩:=h
  rfl
 obtain⟨H0,D,gs,cs,gv,rc,kg,kc,kr,rm,kn,rmN,rkn,od,Hf,A,y,r,rfl,sh,so,e,hR,se,hkn,hgv,hrc,hft,q⟩:=h
 have qO:=sr.cl
 have nK:=sr.nK
 have nS:=sr.nS
 have nM:=sr.nM
 have nO:=sr.nO
 have jy:=sc.cl
 have mL:=nc.cl
 obtain⟨e0,_,_,_,eo0,_,rD0,rf0,nks,nkr,nsr⟩:=sh.same so.sm
 have rfy:∀ps v,rm y=some (r,ps,v)->mW r kn0 ps v:=fun ps v h=>rf0 y r ps v h hgv hrc
 have rcgy:=sh.bd.ok y r hrc
 refine⟨_,(az (bV (i:=3) Af.nd rfl yF (HR (aa 2 nQ) jy dJ.m (w6.mono (by omega)) hr dJ.b .nil cQ))
  (az (iy (bh hr) (cF (aa 0 jY)) (aa 1 mY) (cR bZ (aa 3 lM) aB))
  (az (iy (bh hr) (cF (aa 0 jY)) (aa 1 mY) (aa 3 lM))
  (aA (cX (mq (HR (aa 2 nQ) jy bA.m (jz.mono (by omega)) hr bA.b .nil cQ)) (az (iy (bh hr) (cF (aa 0 jY)) (aa 1 mY) Hy)
  (aA (fQ (qG (cF (aa 0 jY)) mL dh.m (uO.mono (by omega)) hr dh.b .nil cQ (aK (aa 3 lM) aq))))) bY))))), ?_⟩
 walk_at "vs"
 intro rb l as ps v made H1 s1 erb hl el hRs rcd ⟨xs,efl,exs⟩
 obtain⟨kw,ws,ek,kk1,hkw⟩:=so.ek
 obtain⟨ks,es,rDs,kod⟩:=so.es
 obtain⟨kk,rs,er,kk3,hkk,hrn⟩:=so.er
 have hkl:kw.length<=60:=so.kl sh.bd kk1 hkw
 have hsl:ks.length<=60:=so.sl sh.bd kod rDs.s.w
 have hrm:rmN y=none:=by
  cases z:rmN y with
  | none=>rfl
  | some q'=>
    obtain⟨r1,ps1,v1⟩:=q'
    have:=(so.ok.b y r1 ps1 v1 z).2.2.1
    rw[hkn] at this;cases this
 have hry:rkn y=false:=by
  cases z:rkn y with
  | false=>rfl
  | true=>exact absurd hrm (hrn y z)
 have hrl:kk.length<=60:=so.sl sh.bd kk3 fun x z=>by
  have:rkn x=false:=by
   cases w:rkn x with
   | false=>rfl
   | true=>exact absurd z (hrn x w)
  rw[hkk,this];rfl
 have e1:=s1 _ _ e
 have e01:=s1 _ _ e0
 have ek1:=s1 _ _ ek
 have es1:=s1 _ _ es
 have er1:=s1 _ _ er
 have eo1:=s1 _ _ eo0
 have a2:atI [V.ref A.b, .ref l, .int v] 2=some (.int v):=rfl
 obtain⟨H2,eH2⟩:∃H2,H2=upd H1 D.kd (.dK (putK kw (.inr y) (.int v))):=⟨_,rfl⟩
 have dp1:lD H1 D.kd (.str y) (.int v) H2:=by rw[eH2];exact lD.k (k:= .inr y) ek1 (bD (by omega))
 have k2:∀{z:Addr}{o:HO},z≠D.kd->H1 z=some o->H2 z=some o:=fun h h'=>by rw[eH2];exact(ao h).trans h'
 have j2:∀{z:Addr}{o:HO},H1 z=some o->(∀ks',o≠ .dK ks')->H2 z=some o:=fun{z o} h1 h2=>k2 (fun w=>by rw[w,ek1] at h1;cases h1;exact h2 _ rfl) h1
 have ek2:H2 D.kd=some (.dK (putK kw (.inr y) (.int v))):=by rw[eH2];exact ak
 have es2:=k2 (Ne.symm nks) es1
 have er2:=k2 (Ne.symm nkr) er1
 have b2:But [D.kd,D.sd,D.rd] H1 H2:=by rw[eH2];exact But.set _ (by simp)
 have e02:=j2 e01 (by simp)
 have e2:=j2 e1 (by simp)
 have eo2:=j2 eo1 (by simp)
 have Ux:=j2 efl (by simp)
 have als:=j2 erb (by simp)
 clear eH2
 obtain⟨H3,eH3⟩:∃H3,H3=upd H2 D.sd (.dK (putK ks (.inr y) (.ref rb))):=⟨_,rfl⟩
 have dp2:lD H2 D.sd (.str y) (.ref rb) H3:=by rw[eH3];exact lD.k (k:= .inr y) es2 (bD (by omega))
 have k3:∀{z:Addr}{o:HO},z≠D.sd->H2 z=some o->H3 z=some o:=fun h h'=>by rw[eH3];exact(ao h).trans h'
 have j3:∀{z:Addr}{o:HO},H2 z=some o->(∀ks',o≠ .dK ks')->H3 z=some o:=fun{z o} h1 h2=>k3 (fun w=>by rw[w,es2] at h1;cases h1;exact h2 _ rfl) h1
 have es3:H3 D.sd=some (.dK (putK ks (.inr y) (.ref rb))):=by rw[eH3];exact ak
 have ek3:=k3 nks ek2
 have er3:=k3 (Ne.symm nsr) er2
 have b3:But [D.kd,D.sd,D.rd] H2 H3:=by rw[eH3];exact But.set _ (by simp)
 have e03:=j3 e02 (by simp)
 have e3:=j3 e2 (by simp)
 have eo3:=j3 eo2 (by simp)
 have alu:=j3 Ux (by simp)
 have B3:But [D.kd,D.sd,D.rd] H H3:=(But.of_same s1).trans (b2.trans b3)
 clear eH3
 have gs:=Zw so.sm s1
 have gi:=Zx so.sm s1
 have gt:jg H1 (grow Hf H H1):=Ug
 have gk:=G9 (Hf:=Hf) s1 ⟨_,ek,by simp⟩ so.fk
 have gss:=G9 (Hf:=Hf) s1 ⟨_,es,by simp⟩ so.fs
 have gr:=G9 (Hf:=Hf) s1 ⟨_,er,by simp⟩ so.fr
 have gl:grow Hf H H1 l=some (.lst (as.map V.ref)):=(Wg hl).trans el
 have ra:Gy [] (grow Hf H H1) rb (r,ps,v):=⟨A.b,l,as,gt _ _ erb,(hR.same s1).tups gt,gl,hRs.tups gt,by simp⟩
 have hgot:=rcd.1
 have hrows:=rcd.2.1
 have rDg:=rDs.same gs
 have hl0:H0 l=none:=by
  cases z:H0 l with
  | none=>rfl
  | some u=>have:=so.sm _ _ (so.h0 _ _ z);rw[hl] at this;cases this
 have rD':=rDg.put (x:=y) ra (gt _ _ erb) hl0 hrm (fun y' u b' br' l' v' w1 w2 w3=>by
  rintro rfl
  obtain⟨b2,h2,br2,l2,as2,x1,_,x3,_⟩:=rDs.s.v y' u w1
  rw[w2] at h2;cases h2
  have:=gs _ _ x1
  rw[w3] at this;cases this
  have:=so.sm _ _ x3
  rw[hl] at this;cases this)
 have ok':=so.ok.tG hkn hgv hrc hgot hrows
 have lek:Kn.Le kn (kn.put y v):=Kn.vI hkn
 have md':∀x r1 ps1 v1,(rmN.put y (r,ps,v)) x=some (r1,ps1,v1)->Rcd rm x r1 (kn.put y v) ps1 v1 (if x=y then made else rkn x):=fun x r1 ps1 v1 h=>by
  unfold Rm.put at h
  by_cases z:x=y
  ·rw[if_pos z] at h ⊢
   cases h
   rw[z];exact rcd.le lek
  ·rw[if_neg z] at h ⊢
   exact(so.md x r1 ps1 v1 h).le lek
 have hev:=adb hgot hrows
 have hyo:y∉od:=kod.none.mp (rDs.s.w y hrm)
 have hyw:y∉ws:=kk1.none.mp (by rw[hkw,hkn];rfl)
 have hyr:y∉rs:=kk3.none.mp (by rw[hkk,hry];rfl)
 have agc:∀{H'},But [D.kd,D.sd,D.rd] H1 H'->aQ (grow Hf H H1) H':=fun b z o h=>b z o (fun w=>by
  have w:z=D.kd\/z=D.sd\/z=D.rd:=by simpa using w
  rcases w with w | w | w
  ·rw[w,gk] at h;cases h
  ·rw[w,gss] at h;cases h
  ·rw[w,gr] at h;cases h) (gi z o h)
 have fin:∀H' kk' rs',But [D.kd,D.sd,D.rd] H1 H'->H' D.kd=some (.dK (putK kw (.inr y) (.int v)))->H' D.sd=some (.dK (putK ks (.inr y) (.ref rb)))->H' D.rd=some (.dK kk')->nC kk' rs'->(∀x,fG kk' (.inr x)=if(if x=y then made else rkn x)=true then some (.bl true) else none)->Q .non H':=fun H' kk' rs' bb h1 h2 h3 h4 h5=>by
  refine q v ps made (grow Hf H H1) H' ((But.of_same s1).trans bb) gs (fun z m hz=>G9 s1 m hz) ⟨agc bb,gk,gss,gr,⟨_,_,h1,kk1.tH hyw _,vK hkw y v⟩,⟨_,h2,rD',kod.tH hyo _⟩,⟨_,_,h3,h4,h5,fun x hx=> ?_⟩,ok',md',so.h0.trans gs⟩ hev
  unfold Rm.put
  by_cases z:x=y
  ·rw[if_pos z];simp
  ·rw[if_neg z] at hx ⊢;exact hrn x hx
 cases hm:made with
 | false=>
   rw[hm] at exs
   have hxs:decide (xs.length=0)=false:=exs
   walk_at "vs"
   rw[hxs]
   walk_at "vs"
   refine fin H3 kk rs (b2.trans b3) ek3 es3 er3 kk3 fun x=> ?_
   rw[hkk,hm]
   by_cases z:x=y
   ·rw[if_pos z,z,hry]
   ·rw[if_neg z]
 | true=>
   rw[hm] at exs
   have hxs:decide (xs.length=0)=true:=exs
   obtain⟨H4,eH4⟩:∃H4,H4=upd H3 D.rd (.dK (putK kk (.inr y) (.bl true))):=⟨_,rfl⟩
   have dp3:lD H3 D.rd (.str y) (.bl true) H4:=by rw[eH4];exact lD.k (k:= .inr y) er3 (bD (by omega))
   have k4:∀{z:Addr}{o:HO},z≠D.rd->H3 z=some o->H4 z=some o:=fun h h'=>by rw[eH4];exact(ao h).trans h'
   have j4:∀{z:Addr}{o:HO},H3 z=some o->(∀ks',o≠ .dK ks')->H4 z=some o:=fun{z o} h1 h2=>k4 (fun w=>by rw[w,er3] at h1;cases h1;exact h2 _ rfl) h1
   have er4:H4 D.rd=some (.dK (putK kk (.inr y) (.bl true))):=by rw[eH4];exact ak
   have ek4:=k4 nkr ek3
   have es4:=k4 nsr es3
   have b4:But [D.kd,D.sd,D.rd] H3 H4:=by rw[eH4];exact But.set _ (by simp)
   have e04:=j4 e03 (by simp)
   have eo4:=j4 eo3 (by simp)
   clear eH4
   walk_at "vs"
   rw[hxs]
   walk_at "vs"
   refine⟨⟨_,_,rfl⟩, ?_⟩
   refine fin H4 _ _ (b2.trans (b3.trans b4)) ek4 es4 er4 (kk3.tH hyr _) fun x=> ?_
   rw[lE,hm]
   by_cases z:x=y
   ·rw[if_pos (by rw[z]),if_pos z];rfl
   ·rw[if_neg (oX z),if_neg z];exact hkk x
end
section
local macro_rules | `(tactic| walk_at "side") => `(tactic| first | exact CV _ _ _ _ _ _ | exact vN _ _ _ _ _ _ | exact Lb _ _ _ _ _ _ | exact CW _ _ _ _ _ _ | exact vO _ _ _ _ _ _ | exact sJ _ _ _ _ _ _ | exact (jx _ _ _ _ _ _).1 | exact (jx _ _ _ _ _ _).2.1 | exact (jx _ _ _ _ _ _).2.2.1 | exact (jx _ _ _ _ _ _).2.2.2.1 | exact (jx _ _ _ _ _ _).2.2.2.2 | exact (Fd _).1 | exact (Fd _).2 | exact (ig _ _ _ _).1 | exact (ig _ _ _ _).2.2.1 | exact (ig _ _ _ _).2.2.2 | exact Nat.le_of_ble_eq_true rfl)
variable {P:Program}{w:World}{K:W.Frag}{mg:Str->Option Value}{base:Heap}{CSe CN CS CR CNo CRi:Addr}
abbrev bB:Stmt:=yf 19 5
theorem jA:bU ["self","name","path","begun","last","other"] ["self","name"] (aj bB):=⟨rfl,rfl,rfl,by decide +kernel,rfl,by decide +kernel,by decide +kernel⟩
theorem xg:Loc (aj bB) "path":=by decide +kernel
theorem xj:aF (aj bB) "name":=by decide +kernel
theorem v8:Loc (aj bB) "begun":=by decide +kernel
theorem dM:aF (aj bB) "path":=by decide +kernel
theorem xm:Loc (aj bB) "last":=by decide +kernel
theorem cA:aF (aj bB) "last":=by decide +kernel
theorem dN:aF (aj bB) "self":=by decide +kernel
theorem iz:aF (aj bB) "begun":=by decide +kernel
theorem v9:Loc (aj bB) "other":=by decide +kernel
theorem gf:aF (aj bB) "other":=by decide +kernel
theorem xq:GIq bB "Ring":=by decide +kernel
theorem xr:DBq "Ring":=by decide +kernel
theorem Fq {f g0 g1 g2 g3:Addr}{fd gd0 gd1 gd2 gd3:FuncData} (iu:gO K CSe "settle" "Search.settle" bB ["self","name"] f fd)
 (iT:gO K CSe "begin" "Search.begin" di ["self","name"] g0 gd0) (Je:aZ P w K mg base (CXd P w) 14 g0 gd0 ["self","name"] (NZ CSe CN CS CR CNo CRi))
 (fH:gO K CS "lacking" "Settling.lacking" bI ["self","known"] g1 gd1) (Bv:aZ P w K mg base CX0 4 g1 gd1 ["self","known"] (Ko CS CR))
 (jZ:gO K CSe "end" "Search.end" fu ["self","name","settling"] g2 gd2) (Lw:aZ P w K mg base CX0 3 g2 gd2 ["self","name","settling"] (RW CSe CN CS CR))
 (jj:gO K CRi "__init__" "Ring.__init__" dG ["self","ring"] g3 gd3) (GD:aZ P w K mg base CX0 1 g3 gd3 ["self","ring"] (abj CRi)) (Oh:ExI K CRi g3) (adu:W.isFn K (.ref g3)=true) (Sy:mg "Ring"=some (.ref CRi))
 (T:Blt mg) (sr:SrC K CSe) (sc:SeC K CS):aZ P w K mg base (CXd P w) 15 f fd ["self","name"] (Kr CSe CN CNo CRi):=by
 refine iu.F.okD jA (fun vs H Q E h=> ?_) (fun cdv A0 outer s H vs Q E hr h=> ?_)
 ·obtain⟨H0,D,gs,cs,gv,rc,kg,kc,kr,rm,kn,rmN,rkn,od,Hf,x,rfl,_⟩:=h
  rfl
 obtain⟨H0,D,gs,cs,gv,rc,kg,kc,kr,rm,knI,agd,age,odI,HfI,x,rfl,shI,soI,hx,q,qe⟩:=h
 have qO:=sr.cl
 have nG:=sr.nG
 have nK:=sr.nK
 have jy:=sc.cl
 have nle:=shI.bd.n
 have e0:=soI.sm _ _ shI.e
 refine⟨_,(az (bV (i:=2) jA.nd rfl xg (dY (aK (aa 1 xj) aq)))
  (az (bV (i:=3) jA.nd rfl v8 mF)
  (aA (HH PassesOwn.leaving (Hz (aa 2 dM)) (az (bV (i:=4) jA.nd rfl xm (cR fV (aa 2 dM) (aa3 Rj aB)))
  (az (cX (Ey (bh hr) (aa 4 cA) (cF (aa 0 dN))) (aA (iy (bh hr) (cF (aa 0 dN)) (aa 4 cA) (aW (bh hr) (cF (aa 0 dN)) (aa 4 cA)))) bY)
  (az (cX (Ey (bh hr) (aa 4 cA) (cF (aa 0 dN))) (az (fQ (Aq PySem.F.plainAttrs_list PySem.F.slot_list_pop PySem.F.type_list_pop vH (aa 2 dM)))
  (aA MT)) bY)
  (az (cX (oW (bh hr) (aa 4 cA) (aa 3 iz)) (aA (iy (bh hr) (aa 3 iz) (aa 4 cA) (qG (aa 0 dN) qO iT.m (Je.mono (by omega)) hr iT.b .nil R9 (aK (aa 4 cA) aq)))) bY)
  (az (bV (i:=5) jA.nd rfl v9 (qG (aW (bh hr) (aa 3 iz) (aa 4 cA)) jy fH.m (Bv.mono (by omega)) hr fH.b .nil cQ (PJ (cF (aa 0 dN)) aq)))
  (aA (cX (cN Rk (aa 5 gf) ni (aY _)) (aA (fQ (qG (aa 0 dN) qO jZ.m (Lw.mono (by omega)) hr jZ.b .nil cQ (aK (aa 4 cA) (lq (aW (bh hr) (aa 3 iz) (aa 4 cA)) aq))))) (aA (cX (cN Av (aa 5 gf) (aa 2 dM) rfl) (aA (Kq Oh (GD.mono (by omega)) hr adu jj.b xq Sy (Az (bW vG (qX qZ (aa 2 dM) (vD (qb PySem.F.plainAttrs_list PySem.F.slot_list_index PySem.F.type_list_index Kp (aa 2 dM) (aK (aa 5 gf) aq))) vC) (dY (aK (aa 5 gf) aq))) aq) xr)) (aA (fQ (qb PySem.F.plainAttrs_list PySem.F.slot_list_append PySem.F.type_list_append iJ (aa 2 dM) (aK (aa 5 gf) aq))))))))))))))))), ?_⟩
 walk_at "vs"
 intro pth hpth
 have s1:=au (.lst [.str x]) hpth
 have ep1:upd H pth (.lst [.str x]) pth=some (.lst [.str x]):=ak
 have so1:=soI.same s1
 generalize upd H pth (.lst [.str x])=H1 at *
 walk_at "vs"
 intro bgd hbgd
 have s2:=au (.dK []) hbgd
 have eb2:upd H1 bgd (.dK []) bgd=some (.dK []):=ak
 have so2:=so1.same s2
 have ep2:=s2 _ _ ep1
 have S2:=s1.trans s2
 have nn:pth≠bgd:=fun z=>by rw[<-z,ep1] at hbgd;cases hbgd
 have fI:∀{z:Addr},H z=none->HfI z=none:=fun{z} h=>by
  cases q':HfI z with
  | none=>rfl
  | some o=>have:=soI.sm _ _ q';rw[h] at this;cases this
 have hb0:=same_none s1 hbgd
 have alI:∀z∈[D.kd,D.sd,D.rd],H z≠none:=fun z hz=>by
  obtain⟨kw,ws,e2,_⟩:=soI.ek
  obtain⟨ks',e3,_⟩:=soI.es
  obtain⟨kk,rs,e4,_⟩:=soI.er
  have hz:z=D.kd\/z=D.sd\/z=D.rd:=by simpa using hz
  rcases hz with rfl | rfl | rfl
  ·rw[e2];simp
  ·rw[e3];simp
  ·rw[e4];simp
 generalize upd H1 bgd (.dK [])=H2 at *
 have lp0:LpG H0 CSe CN CS CR D pth bgd gs cs gv rc kg kc kr rm knI odI HfI H x [x] knI agd age odI (fun _=>none) HfI H2:=
  ⟨But.of_same S2,aQ.refl _,fun _ _ z=>z,shI,so2,ep2,fI hpth,fI hb0,hpth,hb0,fun z=>alI _ z hpth,fun z=>alI _ z hb0,nn,by simp,by simp,fun i hi=>by
    have:i=x:=by simpa using hi
    rw[this];exact .refl,Kn.Le.refl _,fun y hy=> .inl hy,⟨⟨[],[],eb2,⟨rfl,by simp⟩,fun y=>by rw[ux];rfl⟩,fun y hy=>absurd rfl hy,fun y A hy=>(nomatch hy),fun y A hy=>(nomatch hy),fun y y' A A' _ hy=>(nomatch hy)⟩, .inl rfl,fun y A hy=>(nomatch hy),Mvs.refl _⟩
 refine⟨fun m σ H'=>∃(is:List Str) (kn:Kn) (rmN:Rm) (rkn:Str->Bool) (od:List Str) (bg:Str->Option SeD) (Hf:Hp) (t1 t2:Option V),σ=[some (.ref D.so),some (.str x),some (.ref pth),some (.ref bgd),t1,t2]/\LpG H0 CSe CN CS CR D pth bgd gs cs gv rc kg kc kr rm knI odI HfI H x is kn rmN rkn od bg Hf H'/\jk gv rc ([x],knI,odI) (is.reverse,kn,od)/\m=Gp (gs++cs) kn is,
  ⟨_,[x],knI,agd,age,odI,fun _=>none,HfI,none,none,rfl,lp0,jk.refl _,rfl⟩, ?_⟩
 rintro m σ H3 ⟨is,kn,rmN,rkn,od,bg,Hf,t1,t2,rfl,lp,mn,rfl⟩
 have ep:=lp.ep
 have e3:=lp.so.sm _ _ lp.sh.e
 have hlen:=lp.len
 rcases List.eq_nil_or_concat is with hnil | ⟨js,i,his⟩
 ·subst hnil
  have ep:H3 pth=some (.lst []):=ep
  walk_at "vs"
  have hkx:kn x≠none:=by
   rcases lp.hd with z | ⟨_,z⟩
   ·cases z
   ·exact z
  exact q kn rmN rkn od Hf H3 lp.b lp.sf lp.fm lp.so mn lp.le hkx lp.new
 ·rw[List.concat_eq_append] at his
  subst his
  have hne:((js++[i]).map V.str).isEmpty=false:=by simp
  have hla:atI ((js++[i]).map V.str) (-1)=some (.str i):=Y6 (by rw[List.map_append];rfl)
  have hdl:((js++[i]).map V.str).dropLast=js.map V.str:=by rw[List.map_append];exact List.dropLast_concat
  have hll:((js++[i]).map V.str)[((js++[i]).map V.str).length - 1]? =some (.str i):=by simp
  have hjl:js.length+1<=61:=by rw[List.length_append] at hlen;exact hlen
  have un:=lp.un
  rw[List.dropLast_concat] at un
  refine⟨_,rfl,true, .inl ⟨_,SqL.of ep,by simp⟩, ?_⟩
  refine(if_pos (rfl:true=true)).mpr ?_
  refine⟨fun σ' H'=>Wr (∃(is:List Str) (kn':Kn) (rmN:Rm) (rkn:Str->Bool) (od:List Str) (bg:Str->Option SeD) (Hf:Hp) (t1 t2:Option V),σ'=[some (.ref D.so),some (.str x),some (.ref pth),some (.ref bgd),t1,t2]/\LpG H0 CSe CN CS CR D pth bgd gs cs gv rc kg kc kr rm knI odI HfI H x is kn' rmN rkn od bg Hf H'/\jk gv rc ([x],knI,odI) (is.reverse,kn',od)/\Gp (gs++cs) kn' is<Gp (gs++cs) kn (js++[i])),fun σ' H' ⟨⟨is',kn',NB,rkn',od',bg',Hf',t1',t2',z1,z2,z4,z3⟩⟩=>⟨_,z3,is',kn',NB,rkn',od',bg',Hf',t1',t2',z1,z2,z4,rfl⟩, ?_⟩
  obtain⟨kw,ws,ek,kkw,hkw⟩:=lp.so.ek
  have hkl:=lp.so.kl lp.sh.bd kkw hkw
  have eg3:=lp.so.sm _ _ lp.sh.eg
  have hbd:=lp.sh.bd
  have fine:=hx _ mn
  have dg:cD H3 D.g (.str i) ((gv i).map V.int):=by rw[<-hbd.g];exact cD.k (k:= .inr i) eg3
  have np:=lp.np
  simp only[List.mem_cons,List.not_mem_nil,or_false,not_or] at np
  cases hgv:gv i with
  | some v=>
    rw[hgv] at dg
    have dg:cD H3 D.g (.str i) (some (.int v)):=dg
    obtain⟨so4,le4⟩:=lp.so.giv ek kkw hkw hgv lp.sh.ne
    have hi:i∈gs++cs:=List.mem_append_left _ (hbd.gm (by rw[hgv];simp))
    have b4:But [D.kd,D.sd,D.rd] H3 (upd H3 D.kd (.dK (putK kw (.inr i) (.int v)))):=But.set _ (by simp)
    obtain⟨H4,eH4⟩:∃H4,H4=upd H3 D.kd (.dK (putK kw (.inr i) (.int v))):=⟨_,rfl⟩
    have dp:lD H3 D.kd (.str i) (.int v) H4:=by rw[eH4];exact lD.k (k:= .inr i) ek (bD (by omega))
    rw[<-eH4] at so4 b4
    have hmv:Mvs gv rc ((js++[i]).reverse,kn,od) ((js++[i]).reverse,kn.put i v,od):=by
     cases hkn:kn i with
     | none=>exact(Mvs.refl _).snoc (by rw[List.reverse_append];exact La hkn hgv)
     | some u=>
       have e:kn.put i v=kn:=by
        have:=le4 _ _ hkn
        unfold Kn.put at this
        rw[if_pos rfl] at this
        funext y
        unfold Kn.put
        by_cases w:y=i
        ·rw[if_pos w,w,hkn,this]
        ·rw[if_neg w]
       rw[e];exact Mvs.refl _
    have lp4:=lp.know b4 (aQ.refl _) (fun _ _ z=>z) so4 le4 (fun y hy=>by
     unfold Kn.put at hy
     by_cases w:y=i
     ·exact .inr w
     ·rw[if_neg w] at hy;exact .inl hy) (fun y hne h=>by unfold Kn.put;rw[if_neg hne];exact h) hmv
    have e4:=lp4.so.sm _ _ lp4.sh.e
    have ep4:=lp4.ep
    have dk4:cD H4 D.kd (.str i) (some (.int v)):=by
     obtain⟨kw4,ws4,ek4,_,hk4⟩:=lp4.so.ek
     have:fG kw4 (.inr i)=some (.int v):=by rw[hk4];unfold Kn.put;rw[if_pos rfl];rfl
     rw[<-this];exact cD.k (k:= .inr i) ek4
    have hk4:(kn.put i v) i≠none:=by unfold Kn.put;rw[if_pos rfl];simp
    have lp5:=lp4.pop hk4
    have mn4:jk gv rc ([x],knI,odI) ((js++[i]).reverse,kn.put i v,od):=by
     cases hkn:kn i with
     | none=>exact mn.snoc (by rw[List.reverse_append];exact Fg hgv) (by rw[List.reverse_append];exact La hkn hgv)
     | some u=>
       have e:kn.put i v=kn:=by
        have:=le4 _ _ hkn
        unfold Kn.put at this
        rw[if_pos rfl] at this
        funext y
        unfold Kn.put
        by_cases w:y=i
        ·rw[if_pos w,w,hkn,this]
        ·rw[if_neg w]
       rw[e];exact mn
    have mn5:jk gv rc ([x],knI,odI) (js.reverse,kn.put i v,od):=mn4.snoc (by rw[List.reverse_append];exact Fg hgv) (by rw[List.reverse_append];exact EY hk4)
    have un4:=lp4.un
    rw[List.dropLast_concat] at un4
    have hm:=Nz (ns:=gs++cs) (js:=js) fun j hj=>(un4 j hj).1
    walk_at "vs"
    rw[hdl]
    refine⟨js,_,_,_,_,_,_,_,_,rfl,lp5,mn5, ?_⟩
    cases hkn:kn i with
    | none=>
      have hu:=Io (v:=v) hi hkn
      rw[pG hkn]
      omega
    | some u=>
      have e:kn.put i v=kn:=by
       have:=le4 _ _ hkn
       unfold Kn.put at this
       rw[if_pos rfl] at this
       funext y
       unfold Kn.put
       by_cases w:y=i
       ·rw[if_pos w,w,hkn,this]
       ·rw[if_neg w]
      rw[e] at hm ⊢
      rw[zB (by rw[hkn];simp)]
      omega
  | none=>
    rw[hgv] at dg
    have dg:cD H3 D.g (.str i) none:=dg
    cases hkn:kn i with
    | some u=>
      have hk4:kn i≠none:=by rw[hkn];simp
      have dk4:cD H3 D.kd (.str i) (some (.int u)):=by
       have:fG kw (.inr i)=some (.int u):=by rw[hkw,hkn];rfl
       rw[<-this];exact cD.k (k:= .inr i) ek
      have lp5:=lp.pop hk4
      have mn5:jk gv rc ([x],knI,odI) (js.reverse,kn,od):=mn.snoc (by rw[List.reverse_append];exact zE hkn) (by rw[List.reverse_append];exact EY hk4)
      have hm:=Nz (ns:=gs++cs) (js:=js) fun j hj=>(un j hj).1
      walk_at "vs"
      rw[hdl]
      refine⟨js,_,_,_,_,_,_,_,_,rfl,lp5,mn5, ?_⟩
      rw[zB hk4]
      omega
    | none=>
      have dk4:cD H3 D.kd (.str i) none:=by
       have:fG kw (.inr i)=none:=by rw[hkw,hkn];rfl
       rw[<-this];exact cD.k (k:= .inr i) ek
      obtain⟨hfnr,hnm⟩:=fine i (by rw[List.reverse_append];rfl) hkn hgv
      cases hrc:rc i with
      | none=>
        obtain⟨kb,ks,eb,kkb,hkb⟩:=lp.bgi.e
        have hA:bg i=none:=by
         cases z:bg i with
         | none=>rfl
         | some A=>exact absurd hrc (lp.bgi.nm i (by rw[z];simp))
        have db:cD H3 bgd (.str i) none:=by
         have:fG kb (.inr i)=none:=by rw[hkb,hA];rfl
         rw[<-this];exact cD.k (k:= .inr i) eb
        have sh3:=lp.sh.same lp.so.sm
        walk_at "vs"
        refine⟨fun r' hr'=>(by rw[hrc] at hr';cases hr'),fun _=>⟨hnm hrc,fun cls d H' s' er=> ?_⟩⟩
        exact qe _ _ cls d H' mn (by rw[List.reverse_append];exact Wz hkn hgv hrc) (lp.b.trans (But.of_same s')) er
      | some r=>
        have hfn:=hfnr r hrc
        have hi:i∈gs++cs:=List.mem_append_right _ (hbd.cm (by rw[hrc];simp))
        have rcgi:=hbd.ok i r hrc
        have rfi:∀ps v,rm i=some (r,ps,v)->mW r kn0 ps v:=fun ps v h=>lp.sh.rf i r ps v h hgv hrc
        obtain⟨kb,ks,eb,kkb,hkb⟩:=lp.bgi.e
        cases hA:bg i with
        | some A=>
          have db:cD H3 bgd (.str i) (some (.ref A.s)):=by
           have:fG kb (.inr i)=some (.ref A.s):=by rw[hkb,hA];rfl
           rw[<-this];exact cD.k (k:= .inr i) eb
          have lp6:=lp
          obtain⟨kb6,ks6,eb6,kk6,adv⟩:=lp6.bgi.e
          obtain⟨r',hr',_,seo⟩:=lp6.bgi.ok i A hA hkn
          rw[hrc] at hr'
          cases hr'
          have e6:=lp6.so.sm _ _ lp6.sh.e
          have rD6:=lp6.sh.rD.same lp6.so.sm
          obtain⟨kw6,ws6,ek6,ajq,adw⟩:=lp6.so.ek
          have knA:V1 H3 D.kd kn:=⟨kw6,ek6,adw⟩
          have nd3:D.kd≠A.a3:=fun z=>(lp6.bgi.al i A hA A.a3 (by simp[SeD.ft])).2.2 (by rw[<-z];simp)
          have db6:cD H3 bgd (.str i) (some (.ref A.s)):=by
           have:fG kb6 (.inr i)=some (.ref A.s):=by rw[adv,hA];rfl
           rw[<-this];exact cD.k (k:= .inr i) eb6
          have eA6:=seo.e
          walk_at "vs"
          intro A' H7 b7 es eb' erk e1' e2' e3' efl so7
          have lp7:=lp6.gone hA b7 so7 hrc hgv es erk e1' e2' e3' efl
          have e7:=lp7.so.sm _ _ lp7.sh.e
          have ep7:=lp7.ep
          refine⟨fun hend=> ?_,fun z hzn hsk=> ?_⟩
          ·obtain⟨kb7,ks7,eb7,kk7,adx⟩:=lp7.bgi.e
           have db7:cD H7 bgd (.str i) (some (.ref A'.s)):=by
            have:fG kb7 (.inr i)=some (.ref A'.s):=by rw[adx];unfold lZ;rw[if_pos rfl];rfl
            rw[<-this];exact cD.k (k:= .inr i) eb7
           have ajr:=lp7.so
           have sh7:=lp7.sh
           have eA7:=so7.e
           have hR7:=so7.hr
           have hft:∀z∈A'.ft,z∉[D.kd,D.sd,D.rd]:=fun z hz w=>(lp7.bgi.al i A' (by unfold lZ;rw[if_pos rfl]) z hz).2.2 (by
            simp only[List.mem_cons,List.not_mem_nil,or_false] at w ⊢
            rcases w with q | q | q
            ·exact .inr (.inr (.inl q))
            ·exact .inr (.inr (.inr (.inl q)))
            ·exact .inr (.inr (.inr (.inr q))))
           walk_at "vs"
           intro v ps made Hf' H8 b8 sf8 fm8 so8 hev
           have lp8:=lp7.know b8 sf8 fm8 so8 (Kn.vI hkn) (fun y hy=>by
            unfold Kn.put at hy
            by_cases w:y=i
            ·exact .inr w
            ·rw[if_neg w] at hy;exact .inl hy) (fun y hne h=>by unfold Kn.put;rw[if_neg hne];exact h) ((Mvs.refl _).snoc (by rw[List.reverse_append];exact Fb hgv hkn hrc hev))
           walk_at "vs"
           refine⟨_,_,_,_,_,_,_,_,_,rfl,lp8,mn.snoc (by rw[List.reverse_append];exact Lg hgv hrc hev) (by rw[List.reverse_append];exact Fb hgv hkn hrc hev), ?_⟩
           have hu:=Io (v:=v) hi hkn
           rw[pG hkn,zB (by unfold Kn.put;rw[if_pos rfl];simp)]
           omega
          ·by_cases hj:z∈js++[i]
           ·have hin:inV (.str z) ((js++[i]).map V.str)=true:=by
             unfold inV
             rw[List.any_eq_true]
             exact⟨.str z,List.mem_map.mpr ⟨z,hj,rfl⟩,by show(z==z)=true;simp⟩
            have hfl:((js++[i]).map V.str).all p8=true:=by
             rw[List.all_eq_true]
             intro u hu
             obtain⟨k,hk,rfl⟩:=List.mem_map.mp hu
             rfl
            have hsz:((js++[i]).map V.str).length<sizeLine:=by rw[List.length_map];exact bD (by omega)
            obtain⟨agf,agg⟩:=Fi hj
            have hmvr:lF gv rc ((js++[i]).reverse,kn,od)=some (.ring (eU (js++[i]).reverse z)):=by
             rw[List.reverse_append]
             exact Iu hkn hgv hrc (hsk.ev hzn) (by show z∈[i].reverse++js.reverse;rw[<-List.reverse_append];exact List.mem_reverse.mpr hj)
            walk_at "vs"
            rw[hin]
            walk_at "vs"
            intro p1 hp1
            rw[show Cu ((js++[i]).map V.str) (some (((js++[i]).idxOf z:Nat):Int)) none=((js++[i]).drop ((js++[i]).idxOf z)).map V.str by rw[Ex,List.map_drop]]
            have sA:=au (.lst (((js++[i]).drop ((js++[i]).idxOf z)).map V.str)) hp1
            have eA:upd H7 p1 (.lst (((js++[i]).drop ((js++[i]).idxOf z)).map V.str)) p1=some (.lst (((js++[i]).drop ((js++[i]).idxOf z)).map V.str)):=ak
            have ajs:(((js++[i]).drop ((js++[i]).idxOf z)).map V.str).length<=61:=by rw[List.length_map,List.length_drop];omega
            generalize upd H7 p1 (.lst (((js++[i]).drop ((js++[i]).idxOf z)).map V.str))=HA at *
            walk_at "vs"
            intro p2 hp2
            have sB:=au (.lst [.str z]) hp2
            have eB:upd HA p2 (.lst [.str z]) p2=some (.lst [.str z]):=ak
            have eA2:=sB _ _ eA
            generalize upd HA p2 (.lst [.str z])=HB at *
            have hcl:(((js++[i]).drop ((js++[i]).idxOf z)).map V.str).length+[V.str z].length<=sizeLine:=Nat.le_of_lt (bD (by show _+1<=1000;omega))
            walk_at "vs"
            intro p3 hp3
            have eCC:((js++[i]).drop ((js++[i]).idxOf z)).map V.str++[V.str z]=(eU (js++[i]).reverse z).map V.str:=by
             unfold eU
             rw[List.reverse_reverse,List.map_append];rfl
            rw[eCC]
            have hrl:((eU (js++[i]).reverse z).map V.str).length<=1000:=by rw[<-eCC,List.length_append];show _+1<=1000;omega
            have sC:=au (.lst ((eU (js++[i]).reverse z).map V.str)) hp3
            have eC:upd HB p3 (.lst ((eU (js++[i]).reverse z).map V.str)) p3=some (.lst ((eU (js++[i]).reverse z).map V.str)):=ak
            generalize upd HB p3 (.lst ((eU (js++[i]).reverse z).map V.str))=HC at *
            walk_at "vs"
            intro e he
            have nep:p3≠e:=fun z'=>by rw[<-z',eC] at he;cases he
            refine⟨e,p3,_,rfl,ak,(ao nep).trans eC,hrl,fun l' dx hl' hdx ne=> ?_⟩
            have nel:l'≠e:=fun z'=>by rw[z',ak] at hl';cases hl'
            have hl0:HC l'=none:=(ao nel).symm.trans hl'
            have nld:dx≠l':=fun z'=>by rw[z',ak] at hdx;cases hdx
            have hd0:upd HC l' (.lst ((eU (js++[i]).reverse z).map V.str)) dx=none:=by
             rw[ao nld,ao ne] at hdx
             rw[ao nld];exact hdx
            have sD:=au (.lst ((eU (js++[i]).reverse z).map V.str)) hl0
            have sE:=au (.xd [("ring", .ref l')]) hd0
            refine⟨rfl,dx,upd (upd HC l' (.lst ((eU (js++[i]).reverse z).map V.str))) dx (.xd [("ring", .ref l')]), ?_,(ao (Ne.symm ne)).trans ((ao (Ne.symm nel)).trans he), ?_⟩
            ·rw[uC (H:=HC) (a:=e) (b:=l') (Ne.symm nel),uC (a:=e) (b:=dx) (Ne.symm ne),lR]
            ·exact qe _ _ _ _ _ mn hmvr (lp7.b.trans (But.of_same (sA.trans (sB.trans (sC.trans (sD.trans sE)))))) ⟨rfl,dx,l',rfl,ak,sE _ _ ak⟩
           ·have hin:inV (.str z) ((js++[i]).map V.str)=false:=by
             unfold inV
             rw[List.any_eq_false]
             intro u hu
             obtain⟨k,hk,rfl⟩:=List.mem_map.mp hu
             intro w
             have w:(k==z)=true:=w
             exact hj (eq_of_beq w▸hk)
            have hfl:((js++[i]).map V.str).all p8=true:=by
             rw[List.all_eq_true]
             intro u hu
             obtain⟨k,hk,rfl⟩:=List.mem_map.mp hu
             rfl
            have hsz:((js++[i]).map V.str).length<sizeLine:=by rw[List.length_map];exact bD (by omega)
            walk_at "vs"
            rw[hin]
            walk_at "vs"
            have em:((js++[i]).map V.str)++[V.str z]=(js++[i]++[z]).map V.str:=by rw[List.map_append (l₁:=js++[i])];rfl
            rw[em]
            refine⟨js++[i]++[z],_,_,_,_,_,_,_,_,rfl,lp7.push hkn hj hgv hrc hsk hzn,mn.snoc (by rw[List.reverse_append];exact Iv hgv hrc (hsk.ev hzn) (fun w=>hj (List.mem_reverse.mp (by rw[List.reverse_append];exact w)))) (by rw[List.reverse_append (as:=js++[i]),List.reverse_append];exact G8 hgv hkn hrc (hsk.ev hzn)), ?_⟩
            rw[pG hkn,pG hzn,List.length_append]
            simp only[List.length_cons,List.length_nil]
            omega
        | none=>
          have db:cD H3 bgd (.str i) none:=by
           have:fG kb (.inr i)=none:=by rw[hkb,hA];rfl
           rw[<-this];exact cD.k (k:= .inr i) eb
          have sh3:=lp.sh.same lp.so.sm
          have hkbl:kb.length<=60:=by
           rw[kkb.len]
           have:=ji (ws:=ks) (ns:=cs) kkb.nd fun y hy=>hbd.cm (lp.bgi.nm y fun z=>kkb.none.mp (by rw[hkb,z];rfl) hy)
           omega
          walk_at "vs"
          refine⟨fun r' hr'=> ?_,fun hn=>by rw[hrc] at hn;cases hn⟩
          rw[hrc] at hr'
          cases hr'
          intro A H4 s4 hA4 so4
          have lp6:=lp.begun s4 hA4 (so4 kn) hrc hgv hA eb
          have dpb:lD H4 bgd (.str i) (.ref A.s) (upd H4 bgd (.dK (putK kb (.inr i) (.ref A.s)))):=lD.k (k:= .inr i) (s4 _ _ eb) (bD (by omega))
          have hA:lZ bg i A i=some A:=by unfold lZ;rw[if_pos rfl]
          generalize upd H4 bgd (.dK (putK kb (.inr i) (.ref A.s)))=H5 at *
          obtain⟨kb6,ks6,eb6,kk6,adv⟩:=lp6.bgi.e
          obtain⟨r',hr',_,seo⟩:=lp6.bgi.ok i A hA hkn
          rw[hrc] at hr'
          cases hr'
          have e6:=lp6.so.sm _ _ lp6.sh.e
          have rD6:=lp6.sh.rD.same lp6.so.sm
          obtain⟨kw6,ws6,ek6,ajq,adw⟩:=lp6.so.ek
          have knA:V1 H5 D.kd kn:=⟨kw6,ek6,adw⟩
          have nd3:D.kd≠A.a3:=fun z=>(lp6.bgi.al i A hA A.a3 (by simp[SeD.ft])).2.2 (by rw[<-z];simp)
          have db6:cD H5 bgd (.str i) (some (.ref A.s)):=by
           have:fG kb6 (.inr i)=some (.ref A.s):=by rw[adv,hA];rfl
           rw[<-this];exact cD.k (k:= .inr i) eb6
          have eA6:=seo.e
          walk_at "vs"
          intro A' H7 b7 es eb' erk e1' e2' e3' efl so7
          have lp7:=lp6.gone hA b7 so7 hrc hgv es erk e1' e2' e3' efl
          have e7:=lp7.so.sm _ _ lp7.sh.e
          have ep7:=lp7.ep
          refine⟨fun hend=> ?_,fun z hzn hsk=> ?_⟩
          ·obtain⟨kb7,ks7,eb7,kk7,adx⟩:=lp7.bgi.e
           have db7:cD H7 bgd (.str i) (some (.ref A'.s)):=by
            have:fG kb7 (.inr i)=some (.ref A'.s):=by rw[adx];unfold lZ;rw[if_pos rfl];rfl
            rw[<-this];exact cD.k (k:= .inr i) eb7
           have ajr:=lp7.so
           have sh7:=lp7.sh
           have eA7:=so7.e
           have hR7:=so7.hr
           have hft:∀z∈A'.ft,z∉[D.kd,D.sd,D.rd]:=fun z hz w=>(lp7.bgi.al i A' (by unfold lZ;rw[if_pos rfl]) z hz).2.2 (by
            simp only[List.mem_cons,List.not_mem_nil,or_false] at w ⊢
            rcases w with q | q | q
            ·exact .inr (.inr (.inl q))
            ·exact .inr (.inr (.inr (.inl q)))
            ·exact .inr (.inr (.inr (.inr q))))
           walk_at "vs"
           intro v ps made Hf' H8 b8 sf8 fm8 so8 hev
           have lp8:=lp7.know b8 sf8 fm8 so8 (Kn.vI hkn) (fun y hy=>by
            unfold Kn.put at hy
            by_cases w:y=i
            ·exact .inr w
            ·rw[if_neg w] at hy;exact .inl hy) (fun y hne h=>by unfold Kn.put;rw[if_neg hne];exact h) ((Mvs.refl _).snoc (by rw[List.reverse_append];exact Fb hgv hkn hrc hev))
           walk_at "vs"
           refine⟨_,_,_,_,_,_,_,_,_,rfl,lp8,mn.snoc (by rw[List.reverse_append];exact Lg hgv hrc hev) (by rw[List.reverse_append];exact Fb hgv hkn hrc hev), ?_⟩
           have hu:=Io (v:=v) hi hkn
           rw[pG hkn,zB (by unfold Kn.put;rw[if_pos rfl];simp)]
           omega
          ·by_cases hj:z∈js++[i]
           ·have hin:inV (.str z) ((js++[i]).map V.str)=true:=by
             unfold inV
             rw[List.any_eq_true]
             exact⟨.str z,List.mem_map.mpr ⟨z,hj,rfl⟩,by show(z==z)=true;simp⟩
            have hfl:((js++[i]).map V.str).all p8=true:=by
             rw[List.all_eq_true]
             intro u hu
             obtain⟨k,hk,rfl⟩:=List.mem_map.mp hu
             rfl
            have hsz:((js++[i]).map V.str).length<sizeLine:=by rw[List.length_map];exact bD (by omega)
            obtain⟨agf,agg⟩:=Fi hj
            have hmvr:lF gv rc ((js++[i]).reverse,kn,od)=some (.ring (eU (js++[i]).reverse z)):=by
             rw[List.reverse_append]
             exact Iu hkn hgv hrc (hsk.ev hzn) (by show z∈[i].reverse++js.reverse;rw[<-List.reverse_append];exact List.mem_reverse.mpr hj)
            walk_at "vs"
            rw[hin]
            walk_at "vs"
            intro p1 hp1
            rw[show Cu ((js++[i]).map V.str) (some (((js++[i]).idxOf z:Nat):Int)) none=((js++[i]).drop ((js++[i]).idxOf z)).map V.str by rw[Ex,List.map_drop]]
            have sA:=au (.lst (((js++[i]).drop ((js++[i]).idxOf z)).map V.str)) hp1
            have eA:upd H7 p1 (.lst (((js++[i]).drop ((js++[i]).idxOf z)).map V.str)) p1=some (.lst (((js++[i]).drop ((js++[i]).idxOf z)).map V.str)):=ak
            have ajs:(((js++[i]).drop ((js++[i]).idxOf z)).map V.str).length<=61:=by rw[List.length_map,List.length_drop];omega
            generalize upd H7 p1 (.lst (((js++[i]).drop ((js++[i]).idxOf z)).map V.str))=HA at *
            walk_at "vs"
            intro p2 hp2
            have sB:=au (.lst [.str z]) hp2
            have eB:upd HA p2 (.lst [.str z]) p2=some (.lst [.str z]):=ak
            have eA2:=sB _ _ eA
            generalize upd HA p2 (.lst [.str z])=HB at *
            have hcl:(((js++[i]).drop ((js++[i]).idxOf z)).map V.str).length+[V.str z].length<=sizeLine:=Nat.le_of_lt (bD (by show _+1<=1000;omega))
            walk_at "vs"
            intro p3 hp3
            have eCC:((js++[i]).drop ((js++[i]).idxOf z)).map V.str++[V.str z]=(eU (js++[i]).reverse z).map V.str:=by
             unfold eU
             rw[List.reverse_reverse,List.map_append];rfl
            rw[eCC]
            have hrl:((eU (js++[i]).reverse z).map V.str).length<=1000:=by rw[<-eCC,List.length_append];show _+1<=1000;omega
            have sC:=au (.lst ((eU (js++[i]).reverse z).map V.str)) hp3
            have eC:upd HB p3 (.lst ((eU (js++[i]).reverse z).map V.str)) p3=some (.lst ((eU (js++[i]).reverse z).map V.str)):=ak
            generalize upd HB p3 (.lst ((eU (js++[i]).reverse z).map V.str))=HC at *
            walk_at "vs"
            intro e he
            have nep:p3≠e:=fun z'=>by rw[<-z',eC] at he;cases he
            refine⟨e,p3,_,rfl,ak,(ao nep).trans eC,hrl,fun l' dx hl' hdx ne=> ?_⟩
            have nel:l'≠e:=fun z'=>by rw[z',ak] at hl';cases hl'
            have hl0:HC l'=none:=(ao nel).symm.trans hl'
            have nld:dx≠l':=fun z'=>by rw[z',ak] at hdx;cases hdx
            have hd0:upd HC l' (.lst ((eU (js++[i]).reverse z).map V.str)) dx=none:=by
             rw[ao nld,ao ne] at hdx
             rw[ao nld];exact hdx
            have sD:=au (.lst ((eU (js++[i]).reverse z).map V.str)) hl0
            have sE:=au (.xd [("ring", .ref l')]) hd0
            refine⟨rfl,dx,upd (upd HC l' (.lst ((eU (js++[i]).reverse z).map V.str))) dx (.xd [("ring", .ref l')]), ?_,(ao (Ne.symm ne)).trans ((ao (Ne.symm nel)).trans he), ?_⟩
            ·rw[uC (H:=HC) (a:=e) (b:=l') (Ne.symm nel),uC (a:=e) (b:=dx) (Ne.symm ne),lR]
            ·exact qe _ _ _ _ _ mn hmvr (lp7.b.trans (But.of_same (sA.trans (sB.trans (sC.trans (sD.trans sE)))))) ⟨rfl,dx,l',rfl,ak,sE _ _ ak⟩
           ·have hin:inV (.str z) ((js++[i]).map V.str)=false:=by
             unfold inV
             rw[List.any_eq_false]
             intro u hu
             obtain⟨k,hk,rfl⟩:=List.mem_map.mp hu
             intro w
             have w:(k==z)=true:=w
             exact hj (eq_of_beq w▸hk)
            have hfl:((js++[i]).map V.str).all p8=true:=by
             rw[List.all_eq_true]
             intro u hu
             obtain⟨k,hk,rfl⟩:=List.mem_map.mp hu
             rfl
            have hsz:((js++[i]).map V.str).length<sizeLine:=by rw[List.length_map];exact bD (by omega)
            walk_at "vs"
            rw[hin]
            walk_at "vs"
            have em:((js++[i]).map V.str)++[V.str z]=(js++[i]++[z]).map V.str:=by rw[List.map_append (l₁:=js++[i])];rfl
            rw[em]
            refine⟨js++[i]++[z],_,_,_,_,_,_,_,_,rfl,lp7.push hkn hj hgv hrc hsk hzn,mn.snoc (by rw[List.reverse_append];exact Iv hgv hrc (hsk.ev hzn) (fun w=>hj (List.mem_reverse.mp (by rw[List.reverse_append];exact w)))) (by rw[List.reverse_append (as:=js++[i]),List.reverse_append];exact G8 hgv hkn hrc (hsk.ev hzn)), ?_⟩
            rw[pG hkn,pG hzn,List.length_append]
            simp only[List.length_cons,List.length_nil]
            omega
end
section
local macro_rules | `(tactic| walk_at "side") => `(tactic| first | exact CV _ _ _ _ _ _ | exact vN _ _ _ _ _ _ | exact Lb _ _ _ _ _ _ | exact CW _ _ _ _ _ _ | exact vO _ _ _ _ _ _ | exact sJ _ _ _ _ _ _ | exact (jx _ _ _ _ _ _).1 | exact (jx _ _ _ _ _ _).2.1 | exact (jx _ _ _ _ _ _).2.2.1 | exact (jx _ _ _ _ _ _).2.2.2.1 | exact (jx _ _ _ _ _ _).2.2.2.2 | exact Nat.le_of_ble_eq_true rfl)
variable {P:Program}{w:World}{K:W.Frag}{mg:Str->Option Value}{base:Heap}{CSe CN CS CR CNo CRi:Addr}
abbrev eX:Stmt:=top 20
theorem yG:bU ["house","old","wishes","search","name"] ["house","old","wishes"] (aj eX):=⟨rfl,rfl,rfl,by decide +kernel,rfl,by decide +kernel,by decide +kernel⟩
theorem Bw:Loc (aj eX) "search":=by decide +kernel
theorem Bx:GIq eX "Search":=by decide +kernel
theorem GF:aF (aj eX) "old":=by decide +kernel
theorem Di:aF (aj eX) "house":=by decide +kernel
theorem By:DBq "Search":=by decide +kernel
theorem BJ:aF (aj eX) "wishes":=by decide +kernel
theorem Ft:Loc (aj eX) "name":=by decide +kernel
theorem rJ:aF (aj eX) "search":=by decide +kernel
theorem Fv:aF (aj eX) "name":=by decide +kernel
theorem Oi {f g0 g1:Addr}{fd gd0 gd1:FuncData} (gJ:FnT K mg "searched" eX ["house","old","wishes"] f fd)
 (gR:gO K CSe "__init__" "Search.__init__" dz ["self","house","old"] g0 gd0) (Dj:aZ P w K mg base CX0 1 g0 gd0 ["self","house","old"] (Nv CSe))
 (iu:gO K CSe "settle" "Search.settle" bB ["self","name"] g1 gd1) (GJ:aZ P w K mg base (CXd P w) 15 g1 gd1 ["self","name"] (Kr CSe CN CNo CRi))
 (Jf:Mk K CSe g0) (Jg:mg "Search"=some (.ref CSe)) (T:Blt mg) (sr:SrC K CSe):aZ P w K mg base (CXd P w) 16 f fd ["house","old","wishes"] (xX CSe CN CNo CRi):=by
 refine gJ.F.okD yG (fun vs H Q E h=> ?_) (fun cdv A outer s H vs Q E hr h=> ?_)
 ·obtain⟨h,g,c,o,dxo,rcd,wl,gs,cs,gv,rc,kg,kc,kr,rm,ws,rfl,_⟩:=h
  rfl
 obtain⟨h,g,c,o,dxo,rcd,wl,gs,cs,gv,rc,kg,kc,kr,rm,ws,rfl,eh,eg,ec,bd,eo,er,rD,rf,ewl,hws,q,qe⟩:=h
 have qO:=sr.cl
 refine⟨_,(az (bV (i:=3) yG.nd rfl Bw (CP Jf (Dj.mono (by omega)) hr Bx Jg gR.b .nil cQ (aK (aa 0 Di) (aK (aa 1 GF) aq)) By))
  (az (HJ PassesOwn.leaving rfl (zu (aa 2 BJ)) (sI (i:=4) yG.nd rfl Ft) (aA (fQ (qG (aa 3 rJ) qO iu.m (GJ.mono (by omega)) hr iu.b .nil R9 (aK (aa 4 Fv) aq)))))
  (aA (bF (aa 3 rJ))))), ?_⟩
 walk_at "vs"
 intro a dx ha hdx hne
 have haH:(upd H dx (.own a)) a=none:=(ao (Ne.symm hne)).trans ha
 have S1:=(au (.own a) hdx).trans (au (.ins CSe dx []) haH)
 refine⟨a,dx,h,g,c,o,rfl,ak,S1 _ _ eh,fun kd sd rd H2 b2 e2 hk hs hr' nks nkr nsr ek2 es2 er2=>⟨rfl, ?_⟩⟩
 have hk0:=same_none S1 hk
 have hs0:=same_none S1 hs
 have hr0:=same_none S1 hr'
 have S2:aQ H H2:=fK S1 (fun p hp=>by
  have:p=a:=by simpa using hp
  rw[this];exact ha) b2
 have nka:kd≠a:=fun z=>by rw[z,ak] at hk;cases hk
 have nsa:sd≠a:=fun z=>by rw[z,ak] at hs;cases hs
 have nra:rd≠a:=fun z=>by rw[z,ak] at hr';cases hr'
 have sf0:aQ H (upd H a (.ins CSe dx (srF g c o kd sd rd))):=au _ ha
 have sm0:aQ (upd H a (.ins CSe dx (srF g c o kd sd rd))) H2:=fun z ob e=>by
  by_cases w:z=a
  ·subst w;rw[ak] at e;cases e;exact e2
  ·rw[ao w] at e;exact S2 _ _ e
 have shf:Jt CSe CN ⟨a,dx,g,c,o,dxo,rcd,kd,sd,rd⟩ gs cs gv rc kg kc kr rm (upd H a (.ins CSe dx (srF g c o kd sd rd))):=
  ⟨ak,sf0 _ _ eg,sf0 _ _ ec,bd.tups (aQ.tups sf0),sf0 _ _ eo,sf0 _ _ er,rD.same sf0,rf,nks,nkr,nsr⟩
 have so2:lY H ⟨a,dx,g,c,o,dxo,rcd,kd,sd,rd⟩ gv rc rm kn0 (fun _=>none) (fun _=>false) [] (upd H a (.ins CSe dx (srF g c o kd sd rd))) H2:=
  ⟨sm0,(ao nka).trans hk0,(ao nsa).trans hs0,(ao nra).trans hr0,⟨[],[],ek2,⟨rfl,by simp⟩,fun x=>by rw[ux];rfl⟩,⟨[],es2,RecM.nil,⟨rfl,by simp⟩⟩,⟨[],[],er2,⟨rfl,by simp⟩,fun x=>by rw[ux];rfl,fun x h=>(nomatch h)⟩,⟨fun x v e=>(nomatch e),fun x r ps v e=>(nomatch e)⟩,fun x r ps v e=>(nomatch e),sf0⟩
 have alv:=S2 _ _ ewl
 walk_at "vs"
 refine Ho (xs:=ws.map V.str) (fun i σ H'=>∃(kn:Kn) (rmN:Rm) (rkn:Str->Bool) (od:List Str) (Hf:Hp) (t:Option V),σ=[some (.ref h),some (.ref o),some (.ref wl),some (.ref a),t]/\aQ H H'/\aQ H Hf/\Jt CSe CN ⟨a,dx,g,c,o,dxo,rcd,kd,sd,rd⟩ gs cs gv rc kg kc kr rm Hf/\lY H ⟨a,dx,g,c,o,dxo,rcd,kd,sd,rd⟩ gv rc rm kn rmN rkn od Hf H'/\mH gv rc (ws.take i) (kn0,[]) (kn,od)/\(∀x∈ws.take i,kn x≠none)/\∀y,kn y≠none->∃x∈ws,Rch gv rc kn x y) ?_ ?_ ?_ ?_
 ·exact⟨_,_,_,_,_,none,rfl,S2,sf0,shf,so2,rfl,by simp,fun y hy=>absurd rfl hy⟩
 ·rintro i σ H' _ ⟨kn,rmN,rkn,od,Hf,t,_,S3,_⟩
  exact SqL.of (S3 _ _ ewl)
 ·rintro i v σ H3 hv ⟨kn,rmN,rkn,od,Hf,t,rfl,S3,sf3,sh3,so3,ru3,hw3,hr3⟩
  obtain⟨x,hxi,rfl⟩:∃x,ws[i]? =some x/\v=V.str x:=by
   rw[List.getElem?_map] at hv
   cases e:ws[i]? with
   | none=>rw[e] at hv;cases hv
   | some x=>rw[e] at hv;exact⟨x,rfl,(Option.some.inj hv).symm⟩
  have hxm:x∈ws:=List.mem_of_getElem? hxi
  have hxn:=fun t m=>hws i x (kn,od) t hxi ru3 m
  have e3:H3 a=some (.ins CSe dx (srF g c o kd sd rd)):=so3.sm _ _ sh3.e
  walk_at "vs"
  refine⟨H,⟨a,dx,g,c,o,dxo,rcd,kd,sd,rd⟩,gs,cs,gv,rc,kg,kc,kr,rm,kn,rmN,rkn,od,Hf,x,rfl,sh3,so3,hxn,fun kn' NB rkn' od' Hf' H4 b4 sf4 fm4 so4 mv4 le4 hx4 hr4=> ?_,fun t e cls d H4 mv4 he b4 er=>qe e cls d H4 ⟨i,x,(kn,od),t,hxi,ru3,mv4,he⟩ (fK S3 (fun p hp=> ?_) b4) er⟩
  case refine_2=>
   have hp:p=kd\/p=sd\/p=rd:=by simpa using hp
   rcases hp with rfl | rfl | rfl
   ·exact hk0
   ·exact hs0
   ·exact hr0
  refine⟨kn',NB,rkn',od',Hf',_,rfl,fK S3 (fun p hp=> ?_) b4,sf3.trans sf4,sh3.same sf4,so4,by rw[List.take_add_one,hxi];exact ru3.snoc mv4,fun y hy=> ?_,fun y hy=> ?_⟩
  ·have hp:p=kd\/p=sd\/p=rd:=by simpa using hp
   rcases hp with rfl | rfl | rfl
   ·exact hk0
   ·exact hs0
   ·exact hr0
  ·rw[List.take_add_one,hxi] at hy
   rcases List.mem_append.mp hy with z | z
   ·intro w
    cases e:kn y with
    | none=>exact hw3 y z e
    | some u=>rw[le4 y u e] at w;cases w
   ·have:y=x:=by simpa using z
    rw[this];exact hx4
  ·rcases hr4 y hy with z | z
   ·obtain⟨x',hx',r'⟩:=hr3 y z
    exact⟨x',hx',r'.le le4⟩
   ·exact⟨x,hxm,z⟩
 ·rintro σ H3 ⟨kn,rmN,rkn,od,Hf,t,rfl,S3,sf3,sh3,so3,ru3,hw3,hr3⟩
  walk_at "vs"
  rw[show ws.take (ws.map V.str).length=ws by rw[List.length_map];exact List.take_length] at hw3 ru3
  exact q ⟨a,dx,g,c,o,dxo,rcd,kd,sd,rd⟩ kn rmN rkn od Hf H3 S3 sf3 sh3 so3 ru3 hk0 hs0 hr0 hw3 hr3
--P Xg
abbrev iU:Stmt:=top 22
theorem Oj:bU ["house","name"] ["house","name"] (aj iU):=⟨rfl,rfl,rfl,by decide +kernel,rfl,by decide +kernel,by decide +kernel⟩
theorem yH:GIq iU "searched":=by decide +kernel
theorem uP:aF (aj iU) "name":=by decide +kernel
theorem tY:GIq iU "NamedRecords":=by decide +kernel
theorem tZ:DBq "NamedRecords":=by decide +kernel
theorem Dk:aF (aj iU) "house":=by decide +kernel
theorem yI:DBq "searched":=by decide +kernel
theorem Ol {f g0 g1:Addr}{fd gd0 gd1:FuncData} (lN:FnT K mg "worth_of" iU ["house","name"] f fd)
 (gJ:FnT K mg "searched" eX ["house","old","wishes"] g0 gd0) (BK:aZ P w K mg base (CXd P w) 16 g0 gd0 ["house","old","wishes"] (xX CSe CN CNo CRi))
 (cz:gO K CN "__init__" "NamedRecords.__init__" bL ["self","records"] g1 gd1) (jB:aZ P w K mg base CX0 1 g1 gd1 ["self","records"] (Ij CN))
 (jC:Mk K CN g1) (jD:mg "NamedRecords"=some (.ref CN))
 (T:Blt mg) (sr:SrC K CSe):aZ P w K mg base (CXd P w) 17 f fd ["house","name"] (N6 CNo CRi):=by
 refine lN.F.okD Oj (fun vs H Q E h=> ?_) (fun cdv A outer s H vs Q E hr h=> ?_)
 ·obtain⟨h,g,c,gs,cs,gv,rc,x,rfl,_⟩:=h
  rfl
 obtain⟨h,g,c,gs,cs,gv,rc,x,rfl,⟨kg,kc,eh,eg,ec,bd⟩,hws,q,qe⟩:=h
 have qO:=sr.cl
 have nK:=sr.nK
 have nS:=sr.nS
 refine⟨_,(aA (bF (aW (bh hr) (cF (bG (BK.mono (by omega)) hr yH gJ.m gJ.F.kp gJ.b .nil R9 (aK (aa 0 Dk) (tE (CP jC (jB.mono (by omega)) hr tY jD cz.b .nil cQ (afU mF aq) tZ) (PB (dY (aK (aa 1 uP) aq)) aq))) yI)) (aa 1 uP)))), ?_⟩
 walk_at "vs"
 intro rcd hrcd
 have S0:=au (.dK []) hrcd
 have er0:upd H rcd (.dK []) rcd=some (.dK []):=ak
 generalize upd H rcd (.dK [])=H0 at *
 walk_at "vs"
 intro o dxo ho hdxo hne
 have hoH:(upd H0 dxo (.own o)) o=none:=(ao (Ne.symm hne)).trans ho
 have S1:=(au (.own o) hdxo).trans (au (.ins CN dxo []) hoH)
 refine⟨o,dxo,rcd,rfl,ak,fun H2 b2 e2=>⟨rfl, ?_⟩⟩
 have S2':aQ H0 H2:=fK S1 (fun p hp=>by
  have:p=o:=by simpa using hp
  rw[this];exact ho) b2
 have S2:=S0.trans S2'
 have er2:=S2' _ _ er0
 walk_at "vs"
 intro wl hwl
 have s3:=au (.lst [.str x]) hwl
 have ajt:upd H2 wl (.lst [.str x]) wl=some (.lst ([x].map V.str)):=ak
 have S3:=S2.trans s3
 have eh3:=S3 _ _ eh
 have eg3:=S3 _ _ eg
 have ec3:=S3 _ _ ec
 have bd3:=bd.tups (aQ.tups S3)
 have er3:=s3 _ _ er2
 have e23:=s3 _ _ e2
 have rD3:wO (upd H2 wl (.lst [.str x])) [] (fun _=>none):=⟨⟨[],⟨rfl,by simp⟩⟩,fun x q e=>(nomatch e),fun x _=>ux⟩
 have rf3:RmF gv rc (fun _=>none):=fun x r ps v e=>(nomatch e)
 generalize upd H2 wl (.lst [.str x])=H3 at *
 walk_at "vs"
 refine⟨?_,fun e cls d H' he s' er=>qe e cls d H' he (S3.trans s') er⟩
 intro D kn rmN rkn sn Hf H4 s4 sf4 sh4 so4 ru4 hk4 hs4 hr4 hw4 hrch
 have S4:=S3.trans s4
 have e4:=so4.sm _ _ sh4.e
 obtain⟨kw,wn,ek,kkw,hkw⟩:=so4.ek
 obtain⟨ks,es,rDs,kks⟩:=so4.es
 obtain⟨v,hv⟩:∃v,kn x=some v:=by
  cases z:kn x with
  | none=>exact absurd z (hw4 x (by simp))
  | some v=>exact⟨v,rfl⟩
 have dk:cD H4 D.kd (.str x) (some (.int v)):=by
  have:=cD.k (k:= .inr x) ek
  rw[hkw,hv] at this;exact this
 walk_at "vs"
 exact q v kn rmN sn H4 S4 so4.ok ru4 hv
--Q Xg
--P Xh
abbrev gK:Stmt:=top 23
theorem Gr:bU ["house","name","settled"] ["house","name"] (aj gK):=⟨rfl,rfl,rfl,by decide +kernel,rfl,by decide +kernel,by decide +kernel⟩
theorem zO:Loc (aj gK) "settled":=by decide +kernel
theorem yJ:GIq gK "searched":=by decide +kernel
theorem o6:aF (aj gK) "name":=by decide +kernel
theorem uc:GIq gK "NamedRecords":=by decide +kernel
theorem ud:DBq "NamedRecords":=by decide +kernel
theorem Dl:aF (aj gK) "house":=by decide +kernel
theorem yK:DBq "searched":=by decide +kernel
theorem qd:aF (aj gK) "settled":=by decide +kernel
theorem Om {f g0 g1:Addr}{fd gd0 gd1:FuncData} (lO:FnT K mg "reads_of" gK ["house","name"] f fd)
 (gJ:FnT K mg "searched" eX ["house","old","wishes"] g0 gd0) (BK:aZ P w K mg base (CXd P w) 16 g0 gd0 ["house","old","wishes"] (xX CSe CN CNo CRi))
 (cz:gO K CN "__init__" "NamedRecords.__init__" bL ["self","records"] g1 gd1) (jB:aZ P w K mg base CX0 1 g1 gd1 ["self","records"] (Ij CN))
 (jC:Mk K CN g1) (jD:mg "NamedRecords"=some (.ref CN))
 (T:Blt mg) (sr:SrC K CSe):aZ P w K mg base (CXd P w) 17 f fd ["house","name"] (N7 CNo CRi):=by
 refine lO.F.okD Gr (fun vs H Q E h=> ?_) (fun cdv A outer s H vs Q E hr h=> ?_)
 ·obtain⟨h,g,c,gs,cs,gv,rc,x,rfl,_⟩:=h
  rfl
 obtain⟨h,g,c,gs,cs,gv,rc,x,rfl,⟨kg,kc,eh,eg,ec,bd⟩,hws,q,qe⟩:=h
 have qO:=sr.cl
 have nK:=sr.nK
 have nS:=sr.nS
 refine⟨_,(az (bV (i:=2) Gr.nd rfl zO (cF (bG (BK.mono (by omega)) hr yJ gJ.m gJ.F.kp gJ.b .nil R9 (aK (aa 0 Dl) (tE (CP jC (jB.mono (by omega)) hr uc jD cz.b .nil cQ (afU mF aq) ud) (PB (dY (aK (aa 1 o6) aq)) aq))) yK)))
  (aA (bF (MN (Ey (bh hr) (aa 1 o6) (aa 2 qd)) (cR bZ (aW (bh hr) (aa 2 qd) (aa 1 o6)) aB) (dY aq))))), ?_⟩
 walk_at "vs"
 intro rcd hrcd
 have S0:=au (.dK []) hrcd
 have er0:upd H rcd (.dK []) rcd=some (.dK []):=ak
 generalize upd H rcd (.dK [])=H0 at *
 walk_at "vs"
 intro o dxo ho hdxo hne
 have hoH:(upd H0 dxo (.own o)) o=none:=(ao (Ne.symm hne)).trans ho
 have S1:=(au (.own o) hdxo).trans (au (.ins CN dxo []) hoH)
 refine⟨o,dxo,rcd,rfl,ak,fun H2 b2 e2=>⟨rfl, ?_⟩⟩
 have S2':aQ H0 H2:=fK S1 (fun p hp=>by
  have:p=o:=by simpa using hp
  rw[this];exact ho) b2
 have S2:=S0.trans S2'
 have er2:=S2' _ _ er0
 walk_at "vs"
 intro wl hwl
 have s3:=au (.lst [.str x]) hwl
 have ajt:upd H2 wl (.lst [.str x]) wl=some (.lst ([x].map V.str)):=ak
 have S3:=S2.trans s3
 have eh3:=S3 _ _ eh
 have eg3:=S3 _ _ eg
 have ec3:=S3 _ _ ec
 have bd3:=bd.tups (aQ.tups S3)
 have er3:=s3 _ _ er2
 have e23:=s3 _ _ e2
 have rD3:wO (upd H2 wl (.lst [.str x])) [] (fun _=>none):=⟨⟨[],⟨rfl,by simp⟩⟩,fun x q e=>(nomatch e),fun x _=>ux⟩
 have rf3:RmF gv rc (fun _=>none):=fun x r ps v e=>(nomatch e)
 generalize upd H2 wl (.lst [.str x])=H3 at *
 walk_at "vs"
 refine⟨?_,fun e cls d H' he s' er=>qe e cls d H' he (S3.trans s') er⟩
 intro D kn rmN rkn sn Hf H4 s4 sf4 sh4 so4 ru4 hk4 hs4 hr4 hw4 hrch
 have S4:=S3.trans s4
 have e4:=so4.sm _ _ sh4.e
 obtain⟨kw,wn,ek,kkw,hkw⟩:=so4.ek
 obtain⟨ks,es,rDs,kks⟩:=so4.es
 obtain⟨v,hv⟩:∃v,kn x=some v:=by
  cases z:kn x with
  | none=>exact absurd z (hw4 x (by simp))
  | some v=>exact⟨v,rfl⟩
 have ds:=cD.k (k:= .inr x) es
 cases erm:rmN x with
 | none=>
   rw[rDs.s.w x erm] at ds
   walk_at "vs"
   intro l hl
   exact q l [] [] kn rmN sn _ (S4.trans (au _ hl)) (same_none S4 hl) so4.ok ru4 ak .nil (.inr ⟨erm,rfl⟩)
 | some qq=>
   obtain⟨r,ps,u⟩:=qq
   obtain⟨b,hb,br,l,as,eb,hR,el,hRs,_⟩:=rDs.s.v x _ erm
   rw[hb] at ds
   obtain⟨br',l',v',eb',hl'⟩:=rDs.f x _ b erm hb
   rw[eb] at eb'
   cases eb'
   have ebs:=so4.sm _ _ eb
   have els:=so4.sm _ _ el
   walk_at "vs"
   exact q l as ps kn rmN sn H4 S4 (same_none S3 hl') so4.ok ru4 els (hRs.tups (aQ.tups so4.sm)) (.inl ⟨r,u,erm⟩)
--Q Xh
end
section
variable {P:Program}{w:World}{K:W.Frag}{mg:Str->Option Value}{base:Heap}
abbrev iV:Stmt:=top 25
theorem Oo:bU ["script","k"] ["script","k"] (aj iV):=⟨rfl,rfl,rfl,by decide +kernel,rfl,by decide +kernel,by decide +kernel⟩
theorem mU:aF (aj iV) "k":=by decide +kernel
theorem GK:GIq iV "len":=by decide +kernel
theorem rK:aF (aj iV) "script":=by decide +kernel
theorem GP:("len":Str)≠"__name__":=by decide +kernel
theorem GQ:DBq "len":=by decide +kernel
theorem Oq {f:Addr}{fd:FuncData} (eY:FnT K mg "_law_cell" iV ["script","k"] f fd) (T:Blt mg):aZ P w K mg base CX0 1 f fd ["script","k"] (Li K):=by
 refine eY.F.okQ Oo (fun vs H Q E h=> ?_) (fun cdv A outer s H vs Q E hr h=> ?_)
 ·obtain⟨a,ns,k,rfl,_⟩:=h
  rfl
 obtain⟨a,ns,k,rfl,hS,h0,h80,q⟩:=h
 refine⟨_,(az (cX (cN VB (aa 1 mU) (bR ie GK T.wI pQ (aK (aa 0 rK) aq) GP GQ) (aY _)) (aA (bF (cR fV (aa 0 rK) (aa 1 mU)))) bY)
  (aA (bF (bW jW (bW jW (bW pC (bW pC aB (aa 1 mU)) (aa 1 mU)) (bW pC aB (aa 1 mU))) aB)))), ?_⟩
 walk_at "vs"
 refine Am (fun c1=> ?_) (fun c1=> ?_)
 ·have c1':k<((ns.map V.int).length:Int):=by simpa using c1
  obtain⟨v,j,hv,_⟩:=afM h0 c1'
  walk_at "vs"
  exact q _
 ·have m1:qR 5 k:= .inl ⟨by decide,by decide⟩
  have m2:qR (5 * k) k:= .inl ⟨by omega,by omega⟩
  have m3:qR 9 k:= .inl ⟨by decide,by decide⟩
  walk_at "vs"
  exact q _
abbrev iD:Stmt:=top 26
theorem Lx:bU ["script","k"] ["script","k"] (aj iD):=⟨rfl,rfl,rfl,by decide +kernel,rfl,by decide +kernel,by decide +kernel⟩
theorem yL:aF (aj iD) "k":=by decide +kernel
theorem nU:GIq iD "_law_cell":=by decide +kernel
theorem qg:aF (aj iD) "script":=by decide +kernel
theorem nW:DBq "_law_cell":=by decide +kernel
theorem Ly {f g:Addr}{fd gd:FuncData} (jQ:FnT K mg "_law_state" iD ["script","k"] f fd) (eY:FnT K mg "_law_cell" iV ["script","k"] g gd) (wg:aZ P w K mg base CX0 1 g gd ["script","k"] (Li K)) (T:Blt mg):
 aZ P w K mg base CX0 2 f fd ["script","k"] (abk K):=by
 refine jQ.F.okQ Lx (fun vs H Q E h=> ?_) (fun cdv A outer s H vs Q E hr h=> ?_)
 ·obtain⟨a,ns,k,rfl,_⟩:=h
  rfl
 obtain⟨a,ns,k,rfl,hS,h0,h1,q⟩:=h
 refine⟨_,(aA (bF (KR (lV aC (bG (wg.mono (by omega)) hr nU eY.m eY.F.kp eY.b .nil cQ (aK (aa 0 qg) (aK (aa 1 yL) aq)) nW) (lV aC (vB fU (bW lA (bG (wg.mono (by omega)) hr nU eY.m eY.F.kp eY.b .nil cQ (aK (aa 0 qg) (d9 aB aq)) nW) aB) aB (aY _)) (lV aC (aa 1 yL) Px)))))), ?_⟩
 walk_at "vs"
 intro p hp
 have s1:=au (.dK []) hp
 have hS1:=SqL.same s1 hS
 have e1:upd H p (.dK []) p=some (.dK []):=ak
 generalize upd H p (.dK [])=H1 at *
 walk_at "vs"
 intro n1
 walk_at "vs"
 intro n2
 walk_at "vs"
 refine⟨xY n1 (decide (V.int (n2 % 2)=V.int 1)) k,rfl,by show 3<=15;decide, ?_⟩
 have em:pP [] (xY n1 (decide (V.int (n2 % 2)=V.int 1)) k)=xY n1 (decide (V.int (n2 % 2)=V.int 1)) k:=rfl
 rw[em]
 exact q p _ (oU _ hp s1) hp ⟨_,_,_,ak,by omega,by omega⟩
abbrev dO:Stmt:=top 27
theorem sV:bU ["state","many","found","stir"] ["state","many"] (aj dO):=⟨rfl,rfl,rfl,by decide +kernel,rfl,by decide +kernel,by decide +kernel⟩
theorem dD:aF (aj dO) "state":=by decide +kernel
theorem Dm:Loc (aj dO) "found":=by decide +kernel
theorem o7:aF (aj dO) "many":=by decide +kernel
theorem Dn:aF (aj dO) "found":=by decide +kernel
theorem uQ:Loc (aj dO) "stir":=by decide +kernel
theorem o8:aF (aj dO) "stir":=by decide +kernel
theorem Ot {f:Addr}{fd:FuncData} (aD:FnT K mg "_law_take" dO ["state","many"] f fd) (T:Blt mg):aZ P w K mg base CX0 1 f fd ["state","many"] IK:=by
 refine aD.F.okQ sV (fun vs H Q E h=> ?_) (fun cdv A outer s H vs Q E hr h=> ?_)
 ·obtain⟨p,c,many,rfl,_⟩:=h
  rfl
 obtain⟨p,c,many,rfl,⟨rest,mixed,count,e,h0,h1⟩,hc,hm,hlg,q⟩:=h
 refine⟨_,(az (cX (An (mq (aW (bh hr) (aa 0 dD) aC))) (az (bV (i:=2) sV.nd rfl Dm (bW lA (aW (bh hr) (aa 0 dD) aC) (aa 1 o7)))
  (az (iy (bh hr) (aa 0 dD) aC (bW qY (aW (bh hr) (aa 0 dD) aC) (aa 1 o7)))
  (aA (bF (aa 2 Dn))))) bY)
  (az (iy (bh hr) (aa 0 dD) aC (bW jW (aW (bh hr) (aa 0 dD) aC) aB))
  (az (bV (i:=3) sV.nd rfl uQ (bW lA (bW jW (bW lA (aW (bh hr) (aa 0 dD) aC) aB) (bW pC aB (aW (bh hr) (aa 0 dD) aC))) aB))
  (az (bV (i:=3) sV.nd rfl uQ (bW lA (bW pC (aa 3 o8) (aa 3 o8)) aB))
  (az (iy (bh hr) (aa 0 dD) aC (bW lA (bW jW (bW pC (aa 3 o8) aB) aB) aB))
  (aA (bF (bW lA (bW qY (aW (bh hr) (aa 0 dD) aC) aB) (aa 1 o7))))))))), ?_⟩
 have d1:=Iz e
 have d2:=Up e
 have d3:=N8 e
 walk_at "vs"
 cases mixed with
 | false=>
   walk_at "vs"
   refine And.intro (CZ e _) ?_
   walk_at "vs"
   exact q _ _ (Int.emod_nonneg _ (by omega)) (Int.emod_lt_of_pos _ hm) (But.set _ (by simp)) ⟨_,_,_,ak,h0,by omega⟩
 | true=>
   walk_at "vs"
   refine And.intro (Lh e _) ?_
   have e2:upd H p (.dK (xY rest true (count+1))) p=some (.dK (xY rest true (count+1))):=ak
   have b2:But [p] H (upd H p (.dK (xY rest true (count+1)))):=But.set _ (by simp)
   clear d1 d2 d3
   generalize upd H p (.dK (xY rest true (count+1)))=H2 at *
   have d1:=Iz e2
   have d3:=N8 e2
   have m1:qR 70001 (count+1):= .inl ⟨by decide,by decide⟩
   have r0:=Int.emod_nonneg (rest % 2147483579+70001 *(count+1)) (show(2147483579:Int)≠0 by decide)
   have r1:=Int.emod_lt_of_pos (rest % 2147483579+70001 *(count+1)) (show(0:Int)<2147483579 by decide)
   have m2:qR ((rest % 2147483579+70001 *(count+1)) % 2147483579) ((rest % 2147483579+70001 *(count+1)) % 2147483579):= .inl ⟨by omega,by omega⟩
   have z1:=Int.emod_nonneg ((rest % 2147483579+70001 *(count+1)) % 2147483579 *((rest % 2147483579+70001 *(count+1)) % 2147483579)) (show(2147483563:Int)≠0 by decide)
   have z2:=Int.emod_lt_of_pos ((rest % 2147483579+70001 *(count+1)) % 2147483579 *((rest % 2147483579+70001 *(count+1)) % 2147483579)) (show(0:Int)<2147483563 by decide)
   have m3:qR ((rest % 2147483579+70001 *(count+1)) % 2147483579 *((rest % 2147483579+70001 *(count+1)) % 2147483579) % 2147483563) 50021:= .inl ⟨by omega,by omega⟩
   walk_at "vs"
   refine And.intro (CZ e2 _) ?_
   have e3:upd H2 p (.dK (xY (((rest % 2147483579+70001 *(count+1)) % 2147483579 *((rest % 2147483579+70001 *(count+1)) % 2147483579) % 2147483563 * 50021+7) % 2147483579) true (count+1))) p=some (.dK (xY (((rest % 2147483579+70001 *(count+1)) % 2147483579 *((rest % 2147483579+70001 *(count+1)) % 2147483579) % 2147483563 * 50021+7) % 2147483579) true (count+1))):=ak
   have d4:=Iz e3
   walk_at "vs"
   exact q _ _ (Int.emod_nonneg _ (by omega)) (Int.emod_lt_of_pos _ hm) (b2.trans (But.set _ (by simp))) ⟨_,_,_,ak,by omega,by omega⟩
end
section
variable {P:Program}{w:World}{K:W.Frag}{mg:Str->Option Value}{base:Heap}
abbrev fB:Stmt:=top 28
theorem Ag:bU ["state","kind"] ["state"] (aj fB):=⟨rfl,rfl,rfl,by decide +kernel,rfl,by decide +kernel,by decide +kernel⟩
theorem BL:Loc (aj fB) "kind":=by decide +kernel
theorem jE:GIq fB "_law_take":=by decide +kernel
theorem mD:aF (aj fB) "state":=by decide +kernel
theorem jF:DBq "_law_take":=by decide +kernel
theorem mZ:aF (aj fB) "kind":=by decide +kernel
theorem JC {f g0:Addr}{fd gd0:FuncData} (dZ:FnT K mg "_law_number" fB ["state"] f fd)
 (aD:FnT K mg "_law_take" dO ["state","many"] g0 gd0) (cU:aZ P w K mg base CX0 1 g0 gd0 ["state","many"] IK)
 (T:Blt mg):aZ P w K mg base CX0 2 f fd ["state"] WL:=by
 refine dZ.F.okQ Ag (fun vs H Q E h=> ?_) (fun cdv A outer s H vs Q E hr h=> ?_)
 ·obtain⟨p,c,rfl,_⟩:=h
  rfl
 obtain⟨p,c,rfl,st,hc,q⟩:=h
 refine⟨_,(az (bV (i:=1) Ag.nd rfl BL (bG (cU.mono (by omega)) hr jE aD.m aD.F.kp aD.b .nil cQ (aK (aa 0 mD) (d9 aB aq)) jF))
  (az (cX (cN fU (aa 1 mZ) aB (aY _)) (aA (bF (bW jX (bG (cU.mono (by omega)) hr jE aD.m aD.F.kp aD.b .nil cQ (aK (aa 0 mD) (Az (bW jW (bW pC aB (bW Ri aB aB)) aB) aq)) jF) (bW Ri aB aB)))) bY)
  (aA (bF (bW jX (bG (cU.mono (by omega)) hr jE aD.m aD.F.kp aD.b .nil cQ (aK (aa 0 mD) (lq (cR fV (dY (d9 aB (d9 aB (d9 aB aq)))) (aa 1 mZ)) aq)) jF) (cR fV (dY (d9 aB (d9 aB (d9 aB aq)))) (aa 1 mZ))))))), ?_⟩
 walk_at "vs"
 intro kind H1 k0 k1 b1 st1
 walk_at "vs"
 by_cases hk:kind=3
 ·rw[show decide (V.int kind=V.int 3)=true by subst hk;rfl]
  walk_at "vs"
  intro n H2 n0 n1 b2 st2
  have e10:(10:Int)^ Int.toNat 12=1000000000000:=by decide
  rw[e10] at n1
  walk_at "vs"
  rw[e10]
  exact q _ _ (WK (by omega)) (b1.trans b2) st2
 ·rw[show decide (V.int kind=V.int 3)=false from decide_eq_false fun z=>hk (by cases z;rfl)]
  have three:∃m d:Int,atI [V.int 5, .int 21, .int 2001] kind=some (.int m)/\atI [V.int 2, .int 10, .int 1000] kind=some (.int d)/\0<m/\m<=2001/\0<=d/\d<=1000:=by
   have:kind=0\/kind=1\/kind=2:=by omega
   rcases this with rfl | rfl | rfl
   ·exact⟨5,2,rfl,rfl,by decide,by decide,by decide,by decide⟩
   ·exact⟨21,10,rfl,rfl,by decide,by decide,by decide,by decide⟩
   ·exact⟨2001,1000,rfl,rfl,by decide,by decide,by decide,by decide⟩
  obtain⟨m,d,am,ad,m0,m1,d0,d1⟩:=three
  have hlg:m.natAbs.log2<9000:=Nat.lt_of_le_of_lt (Nat.log2_le_self _) (by omega)
  walk_at "vs"
  intro l hl
  have sl:=au (.lst [V.int 5, .int 21, .int 2001]) hl
  have el:upd H1 l (.lst [V.int 5, .int 21, .int 2001]) l=some (.lst [V.int 5, .int 21, .int 2001]):=ak
  replace st1:=st1.same sl
  replace b1:=b1.trans (But.of_same sl)
  generalize upd H1 l (.lst [V.int 5, .int 21, .int 2001])=H2 at *
  walk_at "vs"
  intro n H3 n0 n1 b3 st3
  replace b1:=b1.trans b3
  walk_at "vs"
  intro l2 hl2
  have sl2:=au (.lst [V.int 2, .int 10, .int 1000]) hl2
  have el2:upd H3 l2 (.lst [V.int 2, .int 10, .int 1000]) l2=some (.lst [V.int 2, .int 10, .int 1000]):=ak
  replace st3:=st3.same sl2
  replace b1:=b1.trans (But.of_same sl2)
  generalize upd H3 l2 (.lst [V.int 2, .int 10, .int 1000])=H4 at *
  walk_at "vs"
  exact q _ _ (WK (by omega)) b1 st3
abbrev gj:Stmt:=top 29
theorem Ou:bU ["state","some"] ["state","some"] (aj gj):=⟨rfl,rfl,rfl,by decide +kernel,rfl,by decide +kernel,by decide +kernel⟩
theorem oM:GIq gj "_law_take":=by decide +kernel
theorem nY:aF (aj gj) "state":=by decide +kernel
theorem oN:DBq "_law_take":=by decide +kernel
theorem o9:aF (aj gj) "some":=by decide +kernel
theorem uR:GIq gj "_law_number":=by decide +kernel
theorem uT:DBq "_law_number":=by decide +kernel
theorem GR:GIq gj "len":=by decide +kernel
theorem GX:("len":Str)≠"__name__":=by decide +kernel
theorem GZ:DBq "len":=by decide +kernel
theorem Ov {f g0 g1:Addr}{fd gd0 gd1:FuncData} (gq:FnT K mg "_law_leaf" gj ["state","some"] f fd)
 (aD:FnT K mg "_law_take" dO ["state","many"] g0 gd0) (cU:aZ P w K mg base CX0 1 g0 gd0 ["state","many"] IK)
 (dZ:FnT K mg "_law_number" fB ["state"] g1 gd1) (wj:aZ P w K mg base CX0 2 g1 gd1 ["state"] WL)
 (T:Blt mg):aZ P w K mg base CX0 3 f fd ["state","some"] Ss:=by
 refine gq.F.okQ Ou (fun vs H Q E h=> ?_) (fun cdv A outer s H vs Q E hr h=> ?_)
 ·obtain⟨p,l,c,ns,rfl,_⟩:=h
  rfl
 obtain⟨p,l,c,ns,rfl,st,hc,el,hn,q⟩:=h
 refine⟨_,(az (cX (Cz (Cy (cN (T8 hr.units) (aa 1 o9) (dY aq) (aY _)) (xR (cN fU (bG (cU.mono (by omega)) hr oM aD.m aD.F.kp aD.b .nil cQ (aK (aa 0 nY) (d9 aB aq)) oN) aB (aY _))))) (aA (bF (gF (d9 aC (tE (bG (wj.mono (by omega)) hr uR dZ.m dZ.F.kp dZ.b .nil cQ (aK (aa 0 nY) aq) uT) aq))))) bY)
  (aA (bF (gF (d9 aC (lq (cR fV (aa 1 o9) (bG (cU.mono (by omega)) hr oM aD.m aD.F.kp aD.b .nil cQ (aK (aa 0 nY) (tE (bR ie GR T.wI pQ (aK (aa 1 o9) aq) GX GZ) aq)) oN)) aq)))))), ?_⟩
 walk_at "vs"
 intro z hz
 have sz:=au (.lst []) hz
 have ez:upd H z (.lst []) z=some (.lst []):=ak
 replace st:=st.same sz
 replace el:=sz _ _ el
 have b0:But [p] H (upd H z (.lst [])):=But.of_same sz
 generalize upd H z (.lst [])=H0 at *
 have num:∀(Hx:Hp) (cx:Nat),But [p] H Hx->m9 Hx p cx->cx<=c+1->∀n H',PySem.Builtin.Int.intBits n<=41->But [p] Hx H'->m9 H' p (cx+2)->∀a,H' a=none->Q (.ref a) (upd H' a (.tup [.str "number", .int n])):=fun Hx cx bx sx hcx n H' hb b' s' a ha=>by
  have s2:=au (.tup [.str "number", .int n]) ha
  refine q a (.num n) _ (bx.trans (b'.trans (But.of_same s2))) ?_ (.num ak) hb
  obtain⟨r,m,k,e,h1,h2⟩:=s'.same s2
  exact⟨r,m,k,e,h1,by omega⟩
 cases ns with
 | nil=>
   walk_at "vs"
   intro n H1 hb b1 st1
   walk_at "vs"
   exact fun a ha=>num H0 c b0 st (by omega) n H1 hb b1 st1 a ha
 | cons y ys=>
   walk_at "vs"
   intro t H1 t0 t1 b1 st1
   have el1:=b1 _ _ (st.off el (by simp)) el
   walk_at "vs"
   by_cases ht:t=0
   ·rw[show decide (V.int t=V.int 0)=true by subst ht;rfl]
    walk_at "vs"
    intro n H2 hb b2 st2
    walk_at "vs"
    exact fun a ha=>num H1 (c+1) (b0.trans b1) st1 (Nat.le_refl _) n H2 hb b2 st2 a ha
   ·rw[show decide (V.int t=V.int 0)=false from decide_eq_false fun z=>ht (by cases z;rfl)]
    have hm0:(0:Int)<((((y::ys).map V.str).length:Nat):Int):=by rw[List.length_map];show(0:Int)<((ys.length+1:Nat):Int);omega
    have hlg:((((y::ys).map V.str).length:Nat):Int).natAbs.log2<9000:=Nat.lt_of_le_of_lt (Nat.log2_le_self _) (by rw[List.length_map,Int.natAbs_natCast];omega)
    walk_at "vs"
    intro n H2 n0 n1 b2 st2
    have el2:=b2 _ _ (st1.off el1 (by simp)) el1
    obtain⟨x,hx,hxm⟩:∃x,atI ((y::ys).map V.str) n=some (.str x)/\x∈y::ys:=by
     obtain⟨j,rfl⟩:=Int.eq_ofNat_of_zero_le n0
     have hj:j<(y::ys).length:=by rw[List.length_map] at n1;omega
     exact⟨(y::ys)[j],mV (by rw[List.getElem?_map,List.getElem?_eq_getElem hj];rfl),List.getElem_mem hj⟩
    walk_at "vs"
    intro a ha
    have s2:=au (.tup [.str "read", .str x]) ha
    refine q a (.rd x) _ (b0.trans (b1.trans (b2.trans (But.of_same s2)))) ?_ (.rd ak) hxm
    obtain⟨r,m,k,e,h1,h2⟩:=st2.same s2
    exact⟨r,m,k,e,h1,by omega⟩
end
section
variable {P:Program}{w:World}{K:W.Frag}{mg:Str->Option Value}{base:Heap}
abbrev aL:Stmt:=top 30
theorem jr:bU ["state","some","deep","kind","small","other","names","first","second"] ["state","some","deep"] (aj aL):=⟨rfl,rfl,rfl,by decide +kernel,rfl,by decide +kernel,by decide +kernel⟩
theorem BP:Loc (aj aL) "kind":=by decide +kernel
theorem gW:GIq aL "_law_take":=by decide +kernel
theorem cT:aF (aj aL) "state":=by decide +kernel
theorem fO:DBq "_law_take":=by decide +kernel
theorem iW:aF (aj aL) "kind":=by decide +kernel
theorem gM:aF (aj aL) "deep":=by decide +kernel
theorem uU:GIq aL "_law_leaf":=by decide +kernel
theorem fJ:aF (aj aL) "some":=by decide +kernel
theorem uV:DBq "_law_leaf":=by decide +kernel
theorem zP:Loc (aj aL) "small":=by decide +kernel
theorem zQ:Loc (aj aL) "other":=by decide +kernel
theorem eF:GIq aL "_law_recipe":=by decide +kernel
theorem eG:DBq "_law_recipe":=by decide +kernel
theorem ql:aF (aj aL) "small":=by decide +kernel
theorem qm:aF (aj aL) "other":=by decide +kernel
theorem zR:Loc (aj aL) "names":=by decide +kernel
theorem zT:GIq aL "tuple":=by decide +kernel
theorem zU:GIq aL "range":=by decide +kernel
theorem Dp:("len":Str)≠"__name__":=by decide +kernel
theorem Dq:DBq "len":=by decide +kernel
theorem zW:("tuple":Str)≠"__name__":=by decide +kernel
theorem zX:DBq "tuple":=by decide +kernel
theorem zY:aF (aj aL) "names":=by decide +kernel
theorem zZ:Loc (aj aL) "first":=by decide +kernel
theorem yM:Loc (aj aL) "second":=by decide +kernel
theorem pM:aF (aj aL) "second":=by decide +kernel
theorem qp:aF (aj aL) "first":=by decide +kernel
theorem wL {d:Nat}{f g0 g1:Addr}{fd gd0 gd1:FuncData} (aN:FnT K mg "_law_recipe" aL ["state","some","deep"] f fd)
 (aD:FnT K mg "_law_take" dO ["state","many"] g0 gd0) (cU:aZ P w K mg base CX0 1 g0 gd0 ["state","many"] IK)
 (gq:FnT K mg "_law_leaf" gj ["state","some"] g1 gd1) (m5:aZ P w K mg base CX0 3 g1 gd1 ["state","some"] Ss)
 (j0:aZ P w K mg base CX0 (d+3) f fd ["state","some","deep"] (ajh d)) (T:Blt mg):
 aZ P w K mg base CX0 (d+4) f fd ["state","some","deep"] (WM d):=by
 refine aN.F.okQ jr (fun vs H Q E h=> ?_) (fun cdv A outer s H vs Q E hr h=> ?_)
 ·obtain⟨p,l,c,ns,deep,rfl,_⟩:=h
  rfl
 obtain⟨p,l,c,ns,deep,rfl,hdeep,hd3,hp,hc,el,hn1,hg,q⟩:=h
 refine⟨_,(az (bV (i:=3) jr.nd rfl BP (bG (cU.mono (by omega)) hr gW aD.m aD.F.kp aD.b .nil cQ (aK (aa 0 cT) (d9 aB aq)) fO))
  (az (cX (Cz (Cy (cN fU (aa 2 gM) aB (aY _)) (xR (cN fU (aa 3 iW) aB (aY _))))) (aA (bF (bG (m5.mono (by omega)) hr uU gq.m gq.F.kp gq.b .nil cQ (aK (aa 0 cT) (aK (aa 1 fJ) aq)) uV))) bY)
  (az (cX (cN fU (aa 3 iW) aB (aY _)) (az (bV (i:=4) jr.nd rfl zP (gF (d9 aC (Az (bW jX (bG (cU.mono (by omega)) hr gW aD.m aD.F.kp aD.b .nil cQ (aK (aa 0 cT) (d9 aB aq)) fO) aB) aq))))
  (az (bV (i:=5) jr.nd rfl zQ (bG (j0.mono (by omega)) hr eF aN.m aN.F.kp aN.b .nil cQ (aK (aa 0 cT) (aK (aa 1 fJ) (Az (bW jX (aa 2 gM) aB) aq))) eG))
  (aA (bF (cR fV (dY (K3 (gF (d9 aC (aK (aa 4 ql) (aK (aa 5 qm) aq)))) (K3 (gF (d9 aC (aK (aa 5 qm) (aK (aa 4 ql) aq)))) aq))) (bG (cU.mono (by omega)) hr gW aD.m aD.F.kp aD.b .nil cQ (aK (aa 0 cT) (d9 aB aq)) fO)))))) bY)
  (az (cX (Cz (Ao (cN fU (aa 3 iW) aB (aY _)) (zq (cN (Uh hr.units) (aa 1 fJ) (dY aq) (aY _))))) (az (bV (i:=6) jr.nd rfl zR (lW M3 zT T.KZ Hw (ac0 (CG rfl (n:=1) (fr:=[1,0]) (N:=["k","some","state"]) (MJ (scX:=aj aL) (NX:=["state","some","deep","kind","small","other","names","first","second"]) rfl rfl (by decide +kernel)) (J3 zU T.Rq (Az (bW jW aB (bG (cU.mono (by omega)) hr gW aD.m aD.F.kp aD.b .nil cQ (aK (aa 0 cT) (d9 aB aq)) fO)) aq)) (fun _ _ _ _ _=>(qgx (i:=0) (show List.Nodup (α:=Str) ["k","some","state"] by decide) (Pu (by decide +kernel)))) (fun _ _ _ _ _=>Py) (fun _ _ _ _ _=>(cR (J4 (K:=K) rfl) (aa 1 (vz.ok (by decide +kernel))) (bG (cU.mono (by omega)) hr (glC (by decide +kernel)) aD.m aD.F.kp aD.b .nil cQ (aK (aa 2 (vz.ok (by decide +kernel))) (tE (bR (M5 (K:=K) rfl) (glC (by decide +kernel)) T.wI pQ (aK (aa 1 (vz.ok (by decide +kernel))) aq) Dp Dq) aq)) fO)))) aq) zW zX))
  (aA (bF (gF (d9 aC (tE (bG (j0.mono (by omega)) hr eF aN.m aN.F.kp aN.b .nil cQ (aK (aa 0 cT) (aK (aa 1 fJ) (Az (bW jX (aa 2 gM) aB) aq))) eG) (aK (aa 6 zY) aq))))))) bY)
  (az (bV (i:=7) jr.nd rfl zZ (bG (j0.mono (by omega)) hr eF aN.m aN.F.kp aN.b .nil cQ (aK (aa 0 cT) (aK (aa 1 fJ) (Az (bW jX (aa 2 gM) aB) aq))) eG))
  (az (bV (i:=8) jr.nd rfl yM (bG (j0.mono (by omega)) hr eF aN.m aN.F.kp aN.b .nil cQ (aK (aa 0 cT) (aK (aa 1 fJ) (Az (bW jX (aa 2 gM) aB) aq))) eG))
  (az (cX (cN VB (aa 3 iW) aB (aY _)) (aA (bF (gF (d9 aC (aK (aa 7 qp) (aK (aa 8 pM) (tE (bG (j0.mono (by omega)) hr eF aN.m aN.F.kp aN.b .nil cQ (aK (aa 0 cT) (aK (aa 1 fJ) (Az (bW jX (aa 2 gM) aB) aq))) eG) aq))))))) bY)
  (aA (bF (gF (lq (cR fV (dY (d9 aC (d9 aC (d9 aC (d9 aC aq))))) (bW jX (aa 3 iW) aB)) (aK (aa 7 qp) (aK (aa 8 pM) aq))))))))))))), ?_⟩
 have ht:=af4 d
 have nlp:=hp.off el (by simp)
 walk_at "vs"
 intro kind H1 k0 k1 b1 pl1
 have el1:=b1 _ _ nlp el
 have leafq:∀a r H',But [p] H1 H'->m9 H' p (c+1+3)->IsR H' a r->Gq ns r->Q (.ref a) H':=fun a r H' b pl R ok=>
  q a r H' (b1.trans b) (pl.mono (by omega)) R (ok.rc hg)
 cases d with
 | zero=>
   have hdeep:deep=0:=hdeep
   subst hdeep
   walk_at "vs"
   exact leafq
 | succ d=>
   have hdeep:deep=(d:Int)+1:=hdeep
   have hnd:¬(deep=0):=by omega
   have et:Qo (d+1)=14+3 * Qo d:=rfl
   walk_at "vs"
   refine Am (fun c0=>absurd (V.int.inj (of_decide_eq_true c0)) hnd) (fun _=> ?_)
   walk_at "vs"
   refine Am (fun c0=> ?_) (fun c0=> ?_)
   ·walk_at "vs"
    exact leafq
   ·have c0':¬(kind=0):=fun z=>c0 (by rw[z];rfl)
    walk_at "vs"
    --BRANCHES
    have pl:=pl1
    have B:=b1
    clear pl1
    refine Am (fun c1=> ?_) (fun c1=> ?_)
    ·walk_at "vs"
     intro n W1 n0 n1 b_ st_
     replace B:=B.trans b_
     replace el1:=b_ _ _ (pl.off el1 (by simp)) el1
     replace pl:=st_
     clear b_
     walk_at "vs"
     intro sm hsm
     have s_:=au (.tup [.str "number", .int (n - 3)]) hsm
     have esm:upd W1 sm (.tup [.str "number", .int (n - 3)]) sm=some (.tup [.str "number", .int (n - 3)]):=ak
     replace B:=B.trans (But.of_same s_)
     replace el1:=s_ _ _ el1
     replace pl:=pl.same s_
     generalize upd W1 sm (.tup [.str "number", .int (n - 3)])=W2 at *
     clear s_
     have Rsm:IsR W2 sm (.num (n - 3)):= .num esm
     clear esm
     walk_at "vs"
     intro a1 ra1 W3 b_ st_ Ra1 oF
     replace B:=B.trans b_
     replace el1:=b_ _ _ (pl.off el1 (by simp)) el1
     replace Rsm:=Rsm.tups (pl.tups b_)
     replace pl:=st_
     clear b_
     have ady:=oF.d
     walk_at "vs"
     intro t1 ht1
     have s_:=au (.tup [.str "times", .ref sm, .ref a1]) ht1
     have et1:upd W3 t1 (.tup [.str "times", .ref sm, .ref a1]) t1=some (.tup [.str "times", .ref sm, .ref a1]):=ak
     replace B:=B.trans (But.of_same s_)
     replace el1:=s_ _ _ el1
     replace Rsm:=Rsm.same s_
     replace Ra1:=Ra1.same s_
     replace pl:=pl.same s_
     generalize upd W3 t1 (.tup [.str "times", .ref sm, .ref a1])=W4 at *
     clear s_
     walk_at "vs"
     intro t2 ht2
     have s_:=au (.tup [.str "times", .ref a1, .ref sm]) ht2
     have et2:upd W4 t2 (.tup [.str "times", .ref a1, .ref sm]) t2=some (.tup [.str "times", .ref a1, .ref sm]):=ak
     replace B:=B.trans (But.of_same s_)
     replace el1:=s_ _ _ el1
     replace Rsm:=Rsm.same s_
     replace Ra1:=Ra1.same s_
     replace et1:=s_ _ _ et1
     replace pl:=pl.same s_
     generalize upd W4 t2 (.tup [.str "times", .ref a1, .ref sm])=W5 at *
     clear s_
     walk_at "vs"
     intro l9 hl9
     have s_:=au (.lst [.ref t1, .ref t2]) hl9
     have el9:upd W5 l9 (.lst [.ref t1, .ref t2]) l9=some (.lst [.ref t1, .ref t2]):=ak
     replace B:=B.trans (But.of_same s_)
     replace el1:=s_ _ _ el1
     replace Rsm:=Rsm.same s_
     replace Ra1:=Ra1.same s_
     replace et1:=s_ _ _ et1
     replace et2:=s_ _ _ et2
     replace pl:=pl.same s_
     generalize upd W5 l9 (.lst [.ref t1, .ref t2])=W6 at *
     clear s_
     walk_at "vs"
     intro m W7 m0 m1 b_ st_
     replace B:=B.trans b_
     replace el1:=b_ _ _ (pl.off el1 (by simp)) el1
     replace Rsm:=Rsm.tups (pl.tups b_)
     replace Ra1:=Ra1.tups (pl.tups b_)
     replace et1:=b_ _ _ (pl.off et1 (by simp)) et1
     replace et2:=b_ _ _ (pl.off et2 (by simp)) et2
     replace el9:=b_ _ _ (pl.off el9 (by simp)) el9
     replace pl:=st_
     clear b_
     have I1:IsR W7 t1 (.bin .times (.num (n - 3)) ra1):= .bin (op:= .times) et1 Rsm Ra1
     have I2:IsR W7 t2 (.bin .times ra1 (.num (n - 3))):= .bin (op:= .times) et2 Ra1 Rsm
     have sn:=Uq n0 n1
     have gn:R.Good (.num (n - 3)):=by show(n - 3).natAbs<10 ^ 40;omega
     have ln:R.Lin (.num (n - 3)):=Nat.le_trans sn (by decide)
     have two:m=0\/m=1:=by omega
     rcases two with rfl | rfl
     ·have hat:atI [V.ref t1, .ref t2] 0=some (.ref t1):=rfl
      walk_at "vs"
      exact q _ _ _ B (pl.mono (by omega)) I1 ⟨⟨ln,oF.l,fun _=> .inl ⟨_,rfl,sn⟩⟩,⟨trivial,oF.i⟩,by show max 1 ra1.depth+1<=_;omega,⟨gn,oF.g⟩⟩
     ·have hat:atI [V.ref t1, .ref t2] 1=some (.ref t2):=rfl
      walk_at "vs"
      exact q _ _ _ B (pl.mono (by omega)) I2 ⟨⟨oF.l,ln,fun _=> .inr ⟨_,rfl,sn⟩⟩,⟨oF.i,trivial⟩,by show max ra1.depth 1+1<=_;omega,⟨oF.g,gn⟩⟩
    ·skip
     walk_at "vs"
     refine Am (fun c2=> ?_) (fun c2=> ?_)
     ·walk_at "vs"
      intro z0 hz0
      have s_:=au (.lst []) hz0
      have ez0:upd H1 z0 (.lst []) z0=some (.lst []):=ak
      replace B:=B.trans (But.of_same s_)
      replace el1:=s_ _ _ el1
      replace pl:=pl.same s_
      generalize upd H1 z0 (.lst [])=W8 at *
      clear s_
      cases hns:ns with
      | nil=>
        subst hns
        walk_at "vs"
        intro a1 ra1 W9 b_ st_ Ra1 oF
        replace B:=B.trans b_
        replace el1:=b_ _ _ (pl.off el1 (by simp)) el1
        replace ez0:=b_ _ _ (pl.off ez0 (by simp)) ez0
        replace pl:=st_
        clear b_
        have ady:=oF.d
        walk_at "vs"
        intro a2 ra2 W10 b_ st_ Ra2 BR
        replace B:=B.trans b_
        replace el1:=b_ _ _ (pl.off el1 (by simp)) el1
        replace ez0:=b_ _ _ (pl.off ez0 (by simp)) ez0
        replace Ra1:=Ra1.tups (pl.tups b_)
        replace pl:=st_
        clear b_
        have aju:=BR.d
        walk_at "vs"
        refine Am (fun c3=> ?_) (fun c3=> ?_)
        ·walk_at "vs"
         intro a3 ra3 W11 b_ st_ Ra3 Lz
         replace B:=B.trans b_
         replace el1:=b_ _ _ (pl.off el1 (by simp)) el1
         replace ez0:=b_ _ _ (pl.off ez0 (by simp)) ez0
         replace Ra1:=Ra1.tups (pl.tups b_)
         replace Ra2:=Ra2.tups (pl.tups b_)
         replace pl:=st_
         clear b_
         have ajv:=Lz.d
         walk_at "vs"
         intro p9 hp9
         have s_:=au (.tup [.str "pick", .ref a1, .ref a2, .ref a3]) hp9
         have e9:upd W11 p9 (.tup [.str "pick", .ref a1, .ref a2, .ref a3]) p9=some (.tup [.str "pick", .ref a1, .ref a2, .ref a3]):=ak
         replace B:=B.trans (But.of_same s_)
         replace el1:=s_ _ _ el1
         replace ez0:=s_ _ _ ez0
         replace Ra1:=Ra1.same s_
         replace Ra2:=Ra2.same s_
         replace Ra3:=Ra3.same s_
         replace pl:=pl.same s_
         generalize upd W11 p9 (.tup [.str "pick", .ref a1, .ref a2, .ref a3])=W12 at *
         clear s_
         exact q _ _ _ B (pl.mono (by omega)) (.pick e9 Ra1 Ra2 Ra3) ⟨⟨oF.l,BR.l,Lz.l⟩,⟨oF.i,BR.i,Lz.i⟩,by show max ra1.depth (max ra2.depth ra3.depth)+1<=_;omega,⟨oF.g,BR.g,Lz.g⟩⟩
        ·have c3':¬kind<5:=by simpa using c3
         obtain⟨op,hop,hat⟩:∃op:Op,op≠ .times/\atI [V.str "plus",V.str "minus",V.str "most",V.str "plus"] (kind - 5)=some (.str op.word):=by
          have hm:kind - 5=0\/kind - 5=1\/kind - 5=2\/kind - 5=3:=by omega
          rcases hm with hm | hm | hm | hm
          ·rw[hm];exact⟨.plus,by decide,rfl⟩
          ·rw[hm];exact⟨.minus,by decide,rfl⟩
          ·rw[hm];exact⟨.most,by decide,rfl⟩
          ·rw[hm];exact⟨.plus,by decide,rfl⟩
         walk_at "vs"
         intro lz hlz
         have s_:=au (.lst [.str "plus", .str "minus", .str "most", .str "plus"]) hlz
         have elz:upd W10 lz (.lst [.str "plus", .str "minus", .str "most", .str "plus"]) lz=some (.lst [.str "plus", .str "minus", .str "most", .str "plus"]):=ak
         replace B:=B.trans (But.of_same s_)
         replace el1:=s_ _ _ el1
         replace ez0:=s_ _ _ ez0
         replace Ra1:=Ra1.same s_
         replace Ra2:=Ra2.same s_
         replace pl:=pl.same s_
         generalize upd W10 lz (.lst [.str "plus", .str "minus", .str "most", .str "plus"])=W13 at *
         clear s_
         walk_at "vs"
         intro p9 hp9
         have s_:=au (.tup [.str op.word, .ref a1, .ref a2]) hp9
         have e9:upd W13 p9 (.tup [.str op.word, .ref a1, .ref a2]) p9=some (.tup [.str op.word, .ref a1, .ref a2]):=ak
         replace B:=B.trans (But.of_same s_)
         replace el1:=s_ _ _ el1
         replace ez0:=s_ _ _ ez0
         replace Ra1:=Ra1.same s_
         replace Ra2:=Ra2.same s_
         replace elz:=s_ _ _ elz
         replace pl:=pl.same s_
         generalize upd W13 p9 (.tup [.str op.word, .ref a1, .ref a2])=W14 at *
         clear s_
         exact q _ _ _ B (pl.mono (by omega)) (.bin e9 Ra1 Ra2) ⟨⟨oF.l,BR.l,fun z=>absurd z hop⟩,⟨oF.i,BR.i⟩,by show max ra1.depth ra2.depth+1<=_;omega,⟨oF.g,BR.g⟩⟩
      | cons y ys=>
        have hlm:(ns.map V.str).length=ns.length:=List.length_map _
        have hl0:0<((ns.map V.str).length:Int):=by rw[hlm,hns];show(0:Int)<((ys.length+1:Nat):Int);omega
        have hlog:((ns.map V.str).length:Int).natAbs.log2<9000:=by
         rw[hlm]
         exact Nat.lt_of_le_of_lt (Nat.log2_le_self _) (by rw[Int.natAbs_natCast];omega)
        have hne:(ns.map V.str).isEmpty=false:=by rw[hns];rfl
        walk_at "vs"
        rw[hne]
        walk_at "vs"
        intro n9 W15 n90 n91 b_ st_
        replace B:=B.trans b_
        replace el1:=b_ _ _ (pl.off el1 (by simp)) el1
        replace ez0:=b_ _ _ (pl.off ez0 (by simp)) ez0
        replace pl:=st_
        clear b_
        walk_at "vs"
        intro D hD
        have nD:D∉[p]:=fun z=>pl.ne hD (by simpa using z)
        have nDp:D≠p:=by simpa using nD
        have hD0:=Ia B hD nD
        refine Pr (fun i σ' H'=>(∃t,σ'=t::[some (.ref l),some (.ref p)])/\∃ts:List Str,H' D=some (.lst (ts.map V.str))/\ts.length=i/\(∀x∈ts,x∈ns)/\But [p] H H'/\m9 H' p (c+1+1+i)) ?_ ?_ ?_
        ·exact⟨⟨none,rfl⟩,[],ak,rfl,by simp,B.upd _ hD0,pl.same (au _ hD)⟩
        ·intro i σ' H' hi hP
         obtain⟨⟨t,rfl⟩,ts,e,et',ho,hb,hpl⟩:=hP
         have elH:=hb _ _ nlp el
         have hi9:(i:Int)<10:=by omega
         walk_at "vs"
         intro n6 H5 n60 n61 b5 pl5
         have hb5:=hb.trans b5
         have el5:=hb5 _ _ nlp el
         have e5:=b5 _ _ nD e
         obtain⟨x,hx,hxm⟩:∃x,atI (ns.map V.str) n6=some (.str x)/\x∈ns:=by
          obtain⟨j,rfl⟩:=Int.eq_ofNat_of_zero_le n60
          have hj:j<ns.length:=by rw[hlm] at n61;omega
          exact⟨ns[j],mV (by rw[List.getElem?_map,List.getElem?_eq_getElem hj];rfl),List.getElem_mem hj⟩
         have hz:(ts.map V.str).length<sizeLine:=by rw[List.length_map];exact bD (by omega)
         walk_at "vs"
         refine⟨⟨_,rfl⟩,ts++[x], ?_,by rw[List.length_append,et'];rfl, ?_,hb5.upd _ hD0,pl5.keep (But.set _ (by simp)) (S:=[D]) (by simpa using Ne.symm nDp)⟩
         ·rw[List.map_append];exact ak
         ·intro y hy
          rcases List.mem_append.mp hy with z | z
          ·exact ho y z
          ·have:y=x:=by simpa using z
           rw[this];exact hxm
        ·intro σ' H' hP
         obtain⟨_,ts,e,et',ho,hb,hpl⟩:=hP
         clear B pl el1 ez0
         have B:=hb
         have pl:=hpl
         have el1:=hb _ _ nlp el
         clear hb hpl
         walk_at "vs"
         intro pt hpt
         have s_:=au (.tup (ts.map V.str)) hpt
         have ept:upd H' pt (.tup (ts.map V.str)) pt=some (.tup (ts.map V.str)):=ak
         replace B:=B.trans (But.of_same s_)
         replace el1:=s_ _ _ el1
         replace pl:=pl.same s_
         generalize upd H' pt (.tup (ts.map V.str))=W16 at *
         clear s_
         walk_at "vs"
         intro a1 ra1 W17 b_ st_ Ra1 oF
         replace B:=B.trans b_
         replace el1:=b_ _ _ (pl.off el1 (by simp)) el1
         replace ept:=b_ _ _ (pl.off ept (by simp)) ept
         replace pl:=st_
         clear b_
         have ady:=oF.d
         walk_at "vs"
         intro p9 hp9
         have s_:=au (.tup [.str "choose", .ref a1, .ref pt]) hp9
         have e9:upd W17 p9 (.tup [.str "choose", .ref a1, .ref pt]) p9=some (.tup [.str "choose", .ref a1, .ref pt]):=ak
         replace B:=B.trans (But.of_same s_)
         replace el1:=s_ _ _ el1
         replace ept:=s_ _ _ ept
         replace Ra1:=Ra1.same s_
         replace pl:=pl.same s_
         generalize upd W17 p9 (.tup [.str "choose", .ref a1, .ref pt])=W18 at *
         clear s_
         exact q _ _ _ B (pl.mono (by omega)) (.cho e9 Ra1 ept) ⟨⟨oF.l,by omega⟩,⟨oF.i,ho⟩,by show ra1.depth+1<=_;omega,⟨oF.g,by omega,by omega,fun x hx=>hg x (ho x hx)⟩⟩
     ·walk_at "vs"
      intro a1 ra1 W19 b_ st_ Ra1 oF
      replace B:=B.trans b_
      replace el1:=b_ _ _ (pl.off el1 (by simp)) el1
      replace pl:=st_
      clear b_
      have ady:=oF.d
      walk_at "vs"
      intro a2 ra2 W20 b_ st_ Ra2 BR
      replace B:=B.trans b_
      replace el1:=b_ _ _ (pl.off el1 (by simp)) el1
      replace Ra1:=Ra1.tups (pl.tups b_)
      replace pl:=st_
      clear b_
      have aju:=BR.d
      walk_at "vs"
      refine Am (fun c3=> ?_) (fun c3=> ?_)
      ·walk_at "vs"
       intro a3 ra3 W21 b_ st_ Ra3 Lz
       replace B:=B.trans b_
       replace el1:=b_ _ _ (pl.off el1 (by simp)) el1
       replace Ra1:=Ra1.tups (pl.tups b_)
       replace Ra2:=Ra2.tups (pl.tups b_)
       replace pl:=st_
       clear b_
       have ajv:=Lz.d
       walk_at "vs"
       intro p9 hp9
       have s_:=au (.tup [.str "pick", .ref a1, .ref a2, .ref a3]) hp9
       have e9:upd W21 p9 (.tup [.str "pick", .ref a1, .ref a2, .ref a3]) p9=some (.tup [.str "pick", .ref a1, .ref a2, .ref a3]):=ak
       replace B:=B.trans (But.of_same s_)
       replace el1:=s_ _ _ el1
       replace Ra1:=Ra1.same s_
       replace Ra2:=Ra2.same s_
       replace Ra3:=Ra3.same s_
       replace pl:=pl.same s_
       generalize upd W21 p9 (.tup [.str "pick", .ref a1, .ref a2, .ref a3])=W22 at *
       clear s_
       exact q _ _ _ B (pl.mono (by omega)) (.pick e9 Ra1 Ra2 Ra3) ⟨⟨oF.l,BR.l,Lz.l⟩,⟨oF.i,BR.i,Lz.i⟩,by show max ra1.depth (max ra2.depth ra3.depth)+1<=_;omega,⟨oF.g,BR.g,Lz.g⟩⟩
      ·have c3':¬kind<5:=by simpa using c3
       obtain⟨op,hop,hat⟩:∃op:Op,op≠ .times/\atI [V.str "plus",V.str "minus",V.str "most",V.str "plus"] (kind - 5)=some (.str op.word):=by
        have hm:kind - 5=0\/kind - 5=1\/kind - 5=2\/kind - 5=3:=by omega
        rcases hm with hm | hm | hm | hm
        ·rw[hm];exact⟨.plus,by decide,rfl⟩
        ·rw[hm];exact⟨.minus,by decide,rfl⟩
        ·rw[hm];exact⟨.most,by decide,rfl⟩
        ·rw[hm];exact⟨.plus,by decide,rfl⟩
       walk_at "vs"
       intro lz hlz
       have s_:=au (.lst [.str "plus", .str "minus", .str "most", .str "plus"]) hlz
       have elz:upd W20 lz (.lst [.str "plus", .str "minus", .str "most", .str "plus"]) lz=some (.lst [.str "plus", .str "minus", .str "most", .str "plus"]):=ak
       replace B:=B.trans (But.of_same s_)
       replace el1:=s_ _ _ el1
       replace Ra1:=Ra1.same s_
       replace Ra2:=Ra2.same s_
       replace pl:=pl.same s_
       generalize upd W20 lz (.lst [.str "plus", .str "minus", .str "most", .str "plus"])=W23 at *
       clear s_
       walk_at "vs"
       intro p9 hp9
       have s_:=au (.tup [.str op.word, .ref a1, .ref a2]) hp9
       have e9:upd W23 p9 (.tup [.str op.word, .ref a1, .ref a2]) p9=some (.tup [.str op.word, .ref a1, .ref a2]):=ak
       replace B:=B.trans (But.of_same s_)
       replace el1:=s_ _ _ el1
       replace Ra1:=Ra1.same s_
       replace Ra2:=Ra2.same s_
       replace elz:=s_ _ _ elz
       replace pl:=pl.same s_
       generalize upd W23 p9 (.tup [.str op.word, .ref a1, .ref a2])=W24 at *
       clear s_
       exact q _ _ _ B (pl.mono (by omega)) (.bin e9 Ra1 Ra2) ⟨⟨oF.l,BR.l,fun z=>absurd z hop⟩,⟨oF.i,BR.i⟩,by show max ra1.depth ra2.depth+1<=_;omega,⟨oF.g,BR.g⟩⟩
theorem Ah {f g0 g1:Addr}{fd gd0 gd1:FuncData} (aN:FnT K mg "_law_recipe" aL ["state","some","deep"] f fd)
 (aD:FnT K mg "_law_take" dO ["state","many"] g0 gd0) (cU:aZ P w K mg base CX0 1 g0 gd0 ["state","many"] IK)
 (gq:FnT K mg "_law_leaf" gj ["state","some"] g1 gd1) (m5:aZ P w K mg base CX0 3 g1 gd1 ["state","some"] Ss) (T:Blt mg):∀d,aZ P w K mg base CX0 (d+4) f fd ["state","some","deep"] (WM d)
 | 0=>wL aN aD cU gq m5 (never fun vs H Q E h=>h) T
 | d+1=>wL aN aD cU gq m5 (Ah aN aD cU gq m5 T d) T
theorem Jh {f g0 g1:Addr}{fd gd0 gd1:FuncData} (aN:FnT K mg "_law_recipe" aL ["state","some","deep"] f fd)
 (aD:FnT K mg "_law_take" dO ["state","many"] g0 gd0) (cU:aZ P w K mg base CX0 1 g0 gd0 ["state","many"] IK)
 (gq:FnT K mg "_law_leaf" gj ["state","some"] g1 gd1) (m5:aZ P w K mg base CX0 3 g1 gd1 ["state","some"] Ss) (T:Blt mg):aZ P w K mg base CX0 7 f fd ["state","some","deep"] abl:=by
 have ok:=Ah aN aD cU gq m5 T
 refine⟨fun vs H Q E h=> ?_,fun A outer s H args us vs Q E hr he hb hv hs=> ?_⟩
 ·obtain⟨p,l,c,ns,deep,rfl,_⟩:=h
  rfl
 ·obtain⟨p,l,c,ns,deep,rfl,h0,h4,hp,hc,el,hn,hg,q⟩:=hs
  obtain⟨d,rfl⟩:=Int.eq_ofNat_of_zero_le h0
  have hd:d=0\/d=1\/d=2\/d=3:=by omega
  have ht:Qo d<=290:=by rcases hd with rfl | rfl | rfl | rfl<;>decide
  exact((ok d).mono (by omega)).run A outer s H args us _ Q E hr he hb hv ⟨p,l,c,ns,_,rfl,rfl,by omega,hp,by omega,el,hn,hg,fun a r H' b pl R o=>q a r H' b (pl.mono (by omega)) R ⟨o.l,o.i,by have:=o.d;omega,o.g⟩⟩
end
section
variable {P:Program}{w:World}{K:W.Frag}{mg:Str->Option Value}{base:Heap}
abbrev iG:Stmt:=top 31
theorem Dr:bU ["some"] [] (aj iG):=⟨rfl,rfl,rfl,by decide +kernel,rfl,by decide +kernel,by decide +kernel⟩
theorem Ds:Loc (aj iG) "some":=by decide +kernel
theorem Dt:aF (aj iG) "some":=by decide +kernel
theorem LK {f:Addr}{fd:FuncData} (fP:FnT K mg "_law_names" iG [] f fd) (T:Blt mg):aZ P w K mg base CX0 1 f fd [] WN:=by
 refine fP.F.okQ Dr (fun vs H Q E h=> ?_) (fun cdv A outer s H vs Q E hr h=> ?_)
 ·obtain⟨rfl,_⟩:=h
  rfl
 obtain⟨rfl,q⟩:=h
 refine⟨_,(az (bV (i:=0) Dr.nd rfl Ds (dY (d9 aC (d9 aC (d9 aC (d9 aC (d9 aC (d9 aC (d9 aC (d9 aC (d9 aC (d9 aC (d9 aC (d9 aC (d9 aC (d9 aC aq))))))))))))))))
  (aA (bF (bW vG (aa 0 Dt) (dY (d9 aC (d9 aC (d9 aC (d9 aC aq))))))))), ?_⟩
 walk_at "vs"
 intro l1 h1
 have s1:=au (.lst [V.str "a", .str "b", .str "ab", .str "ba", .str "aa", .str "read", .str "plus", .str "zz", .str "number", .str "pick", .str "z", .str "abcdefgh", .str "most", .str "given"]) h1
 have e1:upd H l1 (.lst [V.str "a", .str "b", .str "ab", .str "ba", .str "aa", .str "read", .str "plus", .str "zz", .str "number", .str "pick", .str "z", .str "abcdefgh", .str "most", .str "given"]) l1=some (.lst [V.str "a", .str "b", .str "ab", .str "ba", .str "aa", .str "read", .str "plus", .str "zz", .str "number", .str "pick", .str "z", .str "abcdefgh", .str "most", .str "given"]):=ak
 generalize upd H l1 (.lst [V.str "a", .str "b", .str "ab", .str "ba", .str "aa", .str "read", .str "plus", .str "zz", .str "number", .str "pick", .str "z", .str "abcdefgh", .str "most", .str "given"])=H1 at *
 walk_at "vs"
 intro l2 h2
 have s2:=au (.lst [V.str "c", .str "aaaaaaaa", .str "times", .str "choose"]) h2
 have e2:upd H1 l2 (.lst [V.str "c", .str "aaaaaaaa", .str "times", .str "choose"]) l2=some (.lst [V.str "c", .str "aaaaaaaa", .str "times", .str "choose"]):=ak
 replace e1:=s2 _ _ e1
 generalize upd H1 l2 (.lst [V.str "c", .str "aaaaaaaa", .str "times", .str "choose"])=H2 at *
 walk_at "vs"
 intro l3 h3
 exact q l3 _ (s1.trans (s2.trans (au _ h3))) (same_none (s1.trans s2) h3) ak
end
section
variable {P:Program}{w:World}{K:W.Frag}{mg:Str->Option Value}{base:Heap}
abbrev aG:Stmt:=top 32
theorem d7:bU ["script","first","shape","many","given","recipes","names","k","name","state","some","cooked","j","at"] ["script","first"] (aj aG):=⟨rfl,rfl,rfl,by decide +kernel,rfl,by decide +kernel,by decide +kernel⟩
theorem BV:Loc (aj aG) "shape":=by decide +kernel
theorem wu:GIq aG "_law_cell":=by decide +kernel
theorem qt:aF (aj aG) "script":=by decide +kernel
theorem wz:DBq "_law_cell":=by decide +kernel
theorem Du:Loc (aj aG) "many":=by decide +kernel
theorem iY:aF (aj aG) "shape":=by decide +kernel
theorem BW:Loc (aj aG) "given":=by decide +kernel
theorem yN:Loc (aj aG) "recipes":=by decide +kernel
theorem BX:Loc (aj aG) "names":=by decide +kernel
theorem sW:aF (aj aG) "many":=by decide +kernel
theorem uW:GIq aG "_law_names":=by decide +kernel
theorem uX:DBq "_law_names":=by decide +kernel
theorem wA:GIq aG "enumerate":=by decide +kernel
theorem iZ:aF (aj aG) "names":=by decide +kernel
theorem Dv:Loc (aj aG) "name":=by decide +kernel
theorem Ji:Loc (aj aG) "k":=by decide +kernel
theorem BZ:Loc (aj aG) "state":=by decide +kernel
theorem uY:GIq aG "_law_state":=by decide +kernel
theorem Ca:aF (aj aG) "first":=by decide +kernel
theorem jG:aF (aj aG) "k":=by decide +kernel
theorem uZ:DBq "_law_state":=by decide +kernel
theorem j6:GIq aG "_law_take":=by decide +kernel
theorem jb:aF (aj aG) "state":=by decide +kernel
theorem j7:DBq "_law_take":=by decide +kernel
theorem rM:aF (aj aG) "given":=by decide +kernel
theorem lC:aF (aj aG) "name":=by decide +kernel
theorem ue:GIq aG "_law_number":=by decide +kernel
theorem uf:DBq "_law_number":=by decide +kernel
theorem Dw:Loc (aj aG) "some":=by decide +kernel
theorem dX:aF (aj aG) "recipes":=by decide +kernel
theorem ug:GIq aG "_law_recipe":=by decide +kernel
theorem nZ:aF (aj aG) "some":=by decide +kernel
theorem uh:DBq "_law_recipe":=by decide +kernel
theorem pq:GIq aG "len":=by decide +kernel
theorem pA:("len":Str)≠"__name__":=by decide +kernel
theorem pB:DBq "len":=by decide +kernel
theorem Aa:Loc (aj aG) "cooked":=by decide +kernel
theorem Dy:GIq aG "list":=by decide +kernel
theorem Dz:("list":Str)≠"__name__":=by decide +kernel
theorem DG:DBq "list":=by decide +kernel
theorem Cd:GIq aG "range":=by decide +kernel
theorem Fw:GIq aG "min":=by decide +kernel
theorem ju:aF (aj aG) "cooked":=by decide +kernel
theorem Fx:("min":Str)≠"__name__":=by decide +kernel
theorem Fy:DBq "min":=by decide +kernel
theorem Jj:Loc (aj aG) "j":=by decide +kernel
theorem G3:Loc (aj aG) "at":=by decide +kernel
theorem yO:aF (aj aG) "j":=by decide +kernel
theorem wM:aF (aj aG) "at":=by decide +kernel
theorem LQ {f g0 g1 g2 g3 g4 g5:Addr}{fd gd0 gd1 gd2 gd3 gd4 gd5:FuncData} (jR:FnT K mg "_law_house" aG ["script","first"] f fd)
 (eY:FnT K mg "_law_cell" iV ["script","k"] g0 gd0) (wg:aZ P w K mg base CX0 1 g0 gd0 ["script","k"] (Li K))
 (jQ:FnT K mg "_law_state" iD ["script","k"] g1 gd1) (Ow:aZ P w K mg base CX0 2 g1 gd1 ["script","k"] (abk K))
 (aD:FnT K mg "_law_take" dO ["state","many"] g2 gd2) (cU:aZ P w K mg base CX0 1 g2 gd2 ["state","many"] IK)
 (dZ:FnT K mg "_law_number" fB ["state"] g3 gd3) (wj:aZ P w K mg base CX0 2 g3 gd3 ["state"] WL)
 (aN:FnT K mg "_law_recipe" aL ["state","some","deep"] g4 gd4) (j0:aZ P w K mg base CX0 7 g4 gd4 ["state","some","deep"] abl)
 (fP:FnT K mg "_law_names" iG [] g5 gd5) (yP:aZ P w K mg base CX0 1 g5 gd5 [] WN)
 (T:Blt mg):aZ P w K mg base CX0 8 f fd ["script","first"] (abn K):=by
 refine jR.F.okQ d7 (fun vs H Q E h=> ?_) (fun cdv A outer s H vs Q E hr h=> ?_)
 ·obtain⟨a,zs,start,rfl,_⟩:=h
  rfl
 obtain⟨a,zs,start,rfl,hS,h0,h10,q⟩:=h
 refine⟨_,(az (bV (i:=2) d7.nd rfl BV (bW qY (bG (wg.mono (by omega)) hr wu eY.m eY.F.kp eY.b .nil cQ (aK (aa 0 qt) (d9 aB aq)) wz) aB))
  (az (bV (i:=3) d7.nd rfl Du (bW jW aB (bW lA (aa 2 iY) aB)))
  (az (bV (i:=4) d7.nd rfl BW mF)
  (az (bV (i:=5) d7.nd rfl yN mF)
  (az (bV (i:=6) d7.nd rfl BX (qX qZ (MP (yP.mono (by omega)) hr uW fP.m fP.F.kp fP.b .nil cQ uX) vC (vD (aa 3 sW))))
  (az (HJ PassesOwn.never rfl (Zu wA T.M6 (aK (aa 6 iZ) aq)) (Pz rfl (pF (sI (i:=7) d7.nd rfl Ji) (pF (sI (i:=8) d7.nd rfl Dv) G6))) (az (bV (i:=9) d7.nd rfl BZ (bG (Ow.mono (by omega)) hr uY jQ.m jQ.F.kp jQ.b .nil cQ (aK (aa 0 qt) (Az (bW jW (aa 1 Ca) (aa 7 jG)) aq)) uZ))
  (aA (cX (Cz (Cy (cN fU (bG (cU.mono (by omega)) hr j6 aD.m aD.F.kp aD.b .nil cQ (aK (aa 9 jb) (d9 aB aq)) j7) aB (aY _)) (xR (cN fU (aa 7 jG) aB (aY _))))) (aA (iy (bh hr) (aa 4 rM) (aa 8 lC) (bG (wj.mono (by omega)) hr ue dZ.m dZ.F.kp dZ.b .nil cQ (aK (aa 9 jb) aq) uf))) (az (bV (i:=10) d7.nd rfl Dw (cR fV (dY (lq (qX qZ (aa 6 iZ) vC (vD (aa 7 jG))) (lq (qX qZ (aa 6 iZ) vC (vD (aa 7 jG))) (lq (qX qZ (aa 6 iZ) vC (vD (aa 7 jG))) (Az (bW vG (aa 6 iZ) (dY (d9 aC aq))) aq))))) (bW lA (bW qY (aa 2 iY) aB) aB)))
  (az (iy (bh hr) (aa 5 dX) (aa 8 lC) (bG (j0.mono (by omega)) hr ug aN.m aN.F.kp aN.b .nil cQ (aK (aa 9 jb) (aK (aa 10 nZ) (Az (bW jW aB (bG (cU.mono (by omega)) hr j6 aD.m aD.F.kp aD.b .nil cQ (aK (aa 9 jb) (d9 aB aq)) j7)) aq))) uh))
  (aA (cX (cN fU (aa 7 jG) (bW jW aB (bW lA (bW qY (aa 2 iY) aB) (aa 3 sW))) (aY _)) (aA (iy (bh hr) (aa 5 dX) (aa 8 lC) (gF (d9 aC (K3 (gF (d9 aC (lq (cR fV (aa 10 nZ) (bG (cU.mono (by omega)) hr j6 aD.m aD.F.kp aD.b .nil cQ (aK (aa 9 jb) (tE (bR ie pq T.wI pQ (aK (aa 10 nZ) aq) pA pB) aq)) j7)) aq))) (lq (aW (bh hr) (aa 5 dX) (aa 8 lC)) aq)))))) bY))))))))
  (az (bV (i:=11) d7.nd rfl Aa (lW (V3 rfl) Dy T.Ay vA (aK (aa 5 dX) aq) Dz DG))
  (az (HJ PassesOwn.never rfl (J3 Cd T.Rq (tE (bR (Y5 rfl) Fw T.afJ acG (Az (bW lA (bW qY (aa 2 iY) aB) aB) (Az (bW jX (bR ie pq T.wI pQ (aK (aa 11 ju) aq) pA pB) aB) aq)) Fx Fy) aq)) (sI (i:=12) d7.nd rfl Jj) (az (bV (i:=13) d7.nd rfl G3 (bW jX (bW jX (bR ie pq T.wI pQ (aK (aa 11 ju) aq) pA pB) aB) (aa 12 yO)))
  (aA (iy (bh hr) (aa 5 dX) (cR fV (aa 11 ju) (aa 13 wM)) (aW (bh hr) (aa 5 dX) (cR fV (aa 11 ju) (bW lA (bW jW (bW qY (aa 2 iY) aB) (bW pC aB (aa 12 yO))) (aa 13 wM))))))))
  (aA (bF (gF (aK (aa 4 rM) (aK (aa 5 dX) aq))))))))))))), ?_⟩
 walk_at "vs"
 intro n0
 have hm0:=Int.emod_nonneg (n0 / 2) (show(13:Int)≠0 by decide)
 have hm8:=Int.emod_lt_of_pos (n0 / 2) (show(0:Int)<13 by decide)
 obtain⟨m,hm⟩:∃m:Nat,(m:Int)=2+n0 / 2 % 13:=⟨(2+n0 / 2 % 13).toNat,by omega⟩
 have m2:2<=m/\m<=14:=by omega
 walk_at "vs"
 intro g hg0
 have s1:=au (.dK []) hg0
 have e1:upd H g (.dK []) g=some (.dK []):=ak
 generalize upd H g (.dK [])=H1 at *
 walk_at "vs"
 intro c hc
 have hc0:=same_none s1 hc
 have ngc:g≠c:=fun z=>by rw[z,hc] at e1;cases e1
 have s2:=au (.dK []) hc
 have e2:upd H1 c (.dK []) c=some (.dK []):=ak
 replace e1:=s2 _ _ e1
 replace s1:=s1.trans s2
 generalize upd H1 c (.dK [])=H2 at *
 walk_at "vs"
 intro l0 H3 s3 hl0 el0
 replace e1:=s3 _ _ e1
 replace e2:=s3 _ _ e2
 replace s1:=s1.trans s3
 have hcut:Cu (fL.map V.str) none (some (2+n0 / 2 % 13))=(fL.take m).map V.str:=by rw[<-hm,VR,List.map_take]
 walk_at "vs"
 rw[hcut]
 intro nl hnl
 have s4:=au (.lst ((fL.take m).map V.str)) hnl
 have enl:upd H3 nl (.lst ((fL.take m).map V.str)) nl=some (.lst ((fL.take m).map V.str)):=ak
 replace e1:=s4 _ _ e1
 replace e2:=s4 _ _ e2
 replace s1:=s1.trans s4
 generalize upd H3 nl (.lst ((fL.take m).map V.str))=H4 at *
 have hrl:(fL.take m).length=m:=by rw[List.length_take,show fL.length=18 from rfl];omega
 have hnd:(fL.take m).Nodup:=ZF.sublist (List.take_sublist _ _)
 walk_at "vs"
 refine Wa (xs:=(fL.take m).map V.str) (fun j σ' H'=>Wr (∃(t7 t8 t9 t10:Option V) (gs cs:List Str) (gv:Kn) (rc:Rn),σ'=[some (.ref a),some (.int start),some (.int (n0 / 2)),some (.int (2+n0 / 2 % 13)),some (.ref g),some (.ref c),some (.ref nl),t7,t8,t9,t10,none,none,none]/\aQ H H'/\H' nl=some (.lst ((fL.take m).map V.str))/\HoI H' g c ((fL.take m).take j) gs cs gv rc/\(1<=j->("a":Str)∈gs))) ?_ ?_ ?_ ?_
 ·exact⟨⟨_,_,_,_,_,_,_,_,rfl,s1,enl,HoI.nil e1 e2 ngc,fun z=>absurd z (by decide)⟩⟩
 ·rintro j σ' H' _ ⟨⟨_,_,_,_,_,_,_,_,_,_,e,_⟩⟩
  exact SqL.of e
 ·rintro j v T σ' Z hv hT ⟨⟨t7,t8,t9,t10,gs,cs,gv,rc,rfl,SX,enl,hI,ha⟩⟩
  obtain⟨x,hxj,rfl⟩:∃x,(fL.take m)[j]? =some x/\v=V.str x:=by
   rw[List.getElem?_map] at hv
   cases e:(fL.take m)[j]? with
   | none=>rw[e] at hv;cases hv
   | some x=>rw[e] at hv;exact⟨x,rfl,(Option.some.inj hv).symm⟩
  have hj:j<m:=by rw[<-hrl];exact(List.getElem?_eq_some_iff.mp hxj).1
  have hxn:x∉(fL.take m).take j:=R6 hnd hxj (Nat.le_refl _)
  have hkl:((fL.take m).take j).length<=50:=by rw[List.length_take];omega
  have hst:(fL.take m).take (j+1)=(fL.take m).take j++[x]:=by rw[List.take_add_one,hxj];rfl
  have s_:=au (.tup [.int (j:Int), .str x]) hT
  have eT:upd Z T (.tup [.int (j:Int), .str x]) T=some (.tup [.int (j:Int), .str x]):=ak
  replace enl:=s_ _ _ enl
  replace hI:=hI.same s_
  replace SX:=SX.trans s_
  generalize upd Z T (.tup [.int (j:Int), .str x])=Z1 at *
  clear s_
  have hS1:=SqL.same SX hS
  walk_at "vs"
  intro p Z2 s2 hp2 st
  have S1:aQ Z1 Z2:=s2
  have hp0:H p=none:=same_none SX hp2
  obtain⟨⟨kg9,eg9⟩,⟨kc9,ec9⟩⟩:=hI.dk
  have npc:p≠c:=fun z=>by rw[<-z,hp2] at ec9;cases ec9
  have npg:p≠g:=fun z=>by rw[<-z,hp2] at eg9;cases eg9
  have nlg:nl∉[g]:=fun z=>by rw[show nl=g by simpa using z,eg9] at enl;cases enl
  have nlc:nl∉[c]:=fun z=>by rw[show nl=c by simpa using z,ec9] at enl;cases enl
  have hpS:∀z∈[p],Z1 z=none:=fun z hz=>by rw[show z=p by simpa using hz];exact hp2
  have hgS:∀z∈[g],H z=none:=fun z hz=>by rw[show z=g by simpa using hz];exact hg0
  have hcS:∀z∈[c],H z=none:=fun z hz=>by rw[show z=c by simpa using hz];exact hc0
  have ha0:j=0->x=("a":Str):=fun z=>by
   subst z
   rw[List.getElem?_take_of_lt (by omega)] at hxj
   exact(Option.some.inj hxj).symm
  walk_at "vs"
  intro t Z3 t0 t1 b3 st3
  have S3:=fK S1 hpS b3
  clear b3 st S1 s2
  walk_at "vs"
  refine Am (fun c1=> ?_) (fun c1=> ?_)
  ·walk_at "vs"
   intro n Z4 hb b4 st4
   have S4:=fK S3 hpS b4
   obtain⟨Z5,dp,b5,t5,hI5⟩:=(hI.same S4).Wh hkl (v:=n) hxn hb
   walk_at "vs"
   exact⟨⟨_,_,_,_,_,_,_,_,rfl,fK (SX.trans S4) hgS b5,b5 _ _ nlg (S4 _ _ enl),by rw[hst];exact hI5,fun _=>by
    by_cases z:j=0
    ·rw[ha0 z];simp
    ·exact List.mem_append_left _ (ha (by omega))⟩⟩
  ·walk_at "vs"
   refine Am (fun c2=> ?_) (fun c2=> ?_)
   ·walk_at "vs"
    intro n Z4 hb b4 st4
    have S4:=fK S3 hpS b4
    obtain⟨Z5,dp,b5,t5,hI5⟩:=(hI.same S4).Wh hkl (v:=n) hxn hb
    walk_at "vs"
    exact⟨⟨_,_,_,_,_,_,_,_,rfl,fK (SX.trans S4) hgS b5,b5 _ _ nlg (S4 _ _ enl),by rw[hst];exact hI5,fun _=>by
     by_cases z:j=0
     ·rw[ha0 z];simp
     ·exact List.mem_append_left _ (ha (by omega))⟩⟩
   ·have hj0:¬j=0:=fun z=>c2 (by subst z;rfl)
    have hcj:Cu ((fL.take m).map V.str) none (some (j:Int))=((fL.take m).take j).map V.str:=by rw[VR,<-List.map_take]
    have en3:=S3 _ _ enl
    walk_at "vs"
    rw[hcj]
    intro l1 hl1
    have q1:=au (.lst (((fL.take m).take j).map V.str)) hl1
    have el1:upd Z3 l1 (.lst (((fL.take m).take j).map V.str)) l1=some (.lst (((fL.take m).take j).map V.str)):=ak
    replace en3:=q1 _ _ en3
    replace st3:=st3.same q1
    replace S3:=S3.trans q1
    generalize upd Z3 l1 (.lst (((fL.take m).take j).map V.str))=Z4 at *
    walk_at "vs"
    rw[hcj]
    intro l2 hl2
    have q2:=au (.lst (((fL.take m).take j).map V.str)) hl2
    have el2:upd Z4 l2 (.lst (((fL.take m).take j).map V.str)) l2=some (.lst (((fL.take m).take j).map V.str)):=ak
    replace en3:=q2 _ _ en3
    replace st3:=st3.same q2
    replace el1:=q2 _ _ el1
    replace S3:=S3.trans q2
    generalize upd Z4 l2 (.lst (((fL.take m).take j).map V.str))=Z5 at *
    walk_at "vs"
    rw[hcj]
    intro l3 hl3
    have q3:=au (.lst (((fL.take m).take j).map V.str)) hl3
    have el3:upd Z5 l3 (.lst (((fL.take m).take j).map V.str)) l3=some (.lst (((fL.take m).take j).map V.str)):=ak
    replace en3:=q3 _ _ en3
    replace st3:=st3.same q3
    replace el1:=q3 _ _ el1
    replace el2:=q3 _ _ el2
    replace S3:=S3.trans q3
    generalize upd Z5 l3 (.lst (((fL.take m).take j).map V.str))=Z6 at *
    clear q1 q2 q3
    walk_at "vs"
    intro l4 hl4
    have q4:=au (.lst [.str "nowhere"]) hl4
    have el4:upd Z6 l4 (.lst [.str "nowhere"]) l4=some (.lst [.str "nowhere"]):=ak
    replace en3:=q4 _ _ en3
    replace st3:=st3.same q4
    replace el1:=q4 _ _ el1
    replace el2:=q4 _ _ el2
    replace el3:=q4 _ _ el3
    replace S3:=S3.trans q4
    generalize upd Z6 l4 (.lst [.str "nowhere"])=Z7 at *
    clear q4
    have hc2:((fL.take m).map V.str).length+[V.str "nowhere"].length<=sizeLine:=Nat.le_of_lt (bD (by rw[List.length_map,hrl];show _+1<=1000;omega))
    walk_at "vs"
    intro l5 hl5
    have q5:=au (.lst ((fL.take m).map V.str++[.str "nowhere"])) hl5
    have el5:upd Z7 l5 (.lst ((fL.take m).map V.str++[.str "nowhere"])) l5=some (.lst ((fL.take m++(["nowhere"]:List Str)).map V.str)):=by rw[ak,List.map_append];rfl
    replace st3:=st3.same q5
    replace el1:=q5 _ _ el1
    replace el2:=q5 _ _ el2
    replace el3:=q5 _ _ el3
    replace S3:=S3.trans q5
    generalize upd Z7 l5 (.lst ((fL.take m).map V.str++[.str "nowhere"]))=Z8 at *
    clear q5 en3
    walk_at "vs"
    intro l6 hl6
    have q6:=au (.lst [.ref l1, .ref l2, .ref l3, .ref l5]) hl6
    have el6:upd Z8 l6 (.lst [.ref l1, .ref l2, .ref l3, .ref l5]) l6=some (.lst [.ref l1, .ref l2, .ref l3, .ref l5]):=ak
    replace st3:=st3.same q6
    replace el1:=q6 _ _ el1
    replace el2:=q6 _ _ el2
    replace el3:=q6 _ _ el3
    replace el5:=q6 _ _ el5
    replace S3:=S3.trans q6
    generalize upd Z8 l6 (.lst [.ref l1, .ref l2, .ref l3, .ref l5])=Z9 at *
    clear q6
    obtain⟨sl,us,hat,esl,hin,hu1,hu2⟩:∃(sl:Addr) (us:List Str),atI [V.ref l1, .ref l2, .ref l3, .ref l5] (n0 / 2 / 13 % 4)=some (.ref sl)/\Z9 sl=some (.lst (us.map V.str))/\(∀y∈us,y∈yc)/\1<=us.length/\us.length<=20:=by
     have w0:=Int.emod_nonneg (n0 / 2 / 13) (show(4:Int)≠0 by decide)
     have w4:=Int.emod_lt_of_pos (n0 / 2 / 13) (show(0:Int)<4 by decide)
     have hw:n0 / 2 / 13 % 4=0\/n0 / 2 / 13 % 4=1\/n0 / 2 / 13 % 4=2\/n0 / 2 / 13 % 4=3:=by omega
     have hs:∀y∈(fL.take m).take j,y∈yc:=fun y hy=>List.mem_append_left _ (List.mem_of_mem_take (List.mem_of_mem_take hy))
     have hl:((fL.take m).take j).length=j:=by rw[List.length_take,hrl];omega
     rcases hw with hw | hw | hw | hw
     ·rw[hw];exact⟨l1,_,rfl,el1,hs,by omega,by omega⟩
     ·rw[hw];exact⟨l2,_,rfl,el2,hs,by omega,by omega⟩
     ·rw[hw];exact⟨l3,_,rfl,el3,hs,by omega,by omega⟩
     ·rw[hw]
      refine⟨l5,_,rfl,el5,fun y hy=> ?_, ?_, ?_⟩
      ·rcases List.mem_append.mp hy with z | z
       ·exact List.mem_append_left _ (List.mem_of_mem_take z)
       ·exact List.mem_append_right _ z
      ·rw[List.length_append,hrl];show 1<=m+1;omega
      ·rw[List.length_append,hrl];show m+1<=20;omega
    clear el1 el2 el3 el5
    have hug:∀y∈us,oG y:=fun y hy=>Lk y (hin y hy)
    walk_at "vs"
    intro d Za d0 d1 ba sta
    replace esl:=ba _ _ (st3.off esl (by simp)) esl
    have Sa:=fK S3 hpS ba
    clear ba st3 S3
    walk_at "vs"
    intro b1 r Zb bb stb R1 hr1
    replace esl:=bb _ _ (sta.off esl (by simp)) esl
    have Sb:=fK Sa hpS bb
    clear bb sta Sa
    have hIb:=hI.same Sb
    obtain⟨Zc,dp,bc,tc,hIc⟩:=hIb.tG hkl hxn R1 (hr1.ok hin)
    obtain⟨_,⟨kcb,ecb⟩⟩:=hIb.dk
    have nsc:sl∉[c]:=fun z=>by rw[show sl=c by simpa using z,ecb] at esl;cases esl
    replace esl:=bc _ _ nsc esl
    replace stb:=stb.keep bc (by simpa using npc)
    have Sc:=fK (SX.trans Sb) hcS bc
    have enc:=bc _ _ nlc (Sb _ _ enl)
    have hxs:x∈cs++[x]:=by simp
    walk_at "vs"
    refine Am (fun c3=> ?_) (fun c3=> ?_)
    ·have hlu:(us.map V.str).length=us.length:=List.length_map _
     have hlg:((((us.map V.str).length:Nat)):Int).natAbs.log2<9000:=Nat.lt_of_le_of_lt (Nat.log2_le_self _) (by rw[hlu,Int.natAbs_natCast];omega)
     have hm1:(0:Int)<(((us.map V.str).length:Nat):Int):=by rw[hlu];omega
     walk_at "vs"
     intro n Zd n0' n1' bd std
     obtain⟨y,hy,hyu⟩:=WR (us:=us) n0' (by rw[<-hlu];exact n1')
     replace esl:=bd _ _ (stb.off esl (by simp)) esl
     have hId:=hIc.keep bd (by simpa using Ne.symm npg) (by simpa using Ne.symm npc) (stb.tups bd)
     have Sd:=fK Sc (fun z hz=>by rw[show z=p by simpa using hz];exact hp0) bd
     have end_:=bd _ _ (stb.off enc (by simp)) enc
     walk_at "vs"
     intro a1 ha1
     have q1:=au (.tup [.str "read", .str y]) ha1
     have ea1:upd Zd a1 (.tup [.str "read", .str y]) a1=some (.tup [.str "read", .str y]):=ak
     replace hId:=hId.same q1
     replace Sd:=Sd.trans q1
     replace end_:=q1 _ _ end_
     generalize upd Zd a1 (.tup [.str "read", .str y])=Ze at *
     clear q1
     obtain⟨b2,r2,dg,R2,hr2⟩:=hId.get hxs
     have:r2=r:=by
      unfold Rn.put at hr2
      rw[if_pos rfl] at hr2;exact(Option.some.inj hr2).symm
     subst this
     walk_at "vs"
     intro a2 ha2
     have q2:=au (.tup [.str "times", .ref a1, .ref b2]) ha2
     have ea2:upd Ze a2 (.tup [.str "times", .ref a1, .ref b2]) a2=some (.tup [.str "times", .ref a1, .ref b2]):=ak
     replace hId:=hId.same q2
     replace Sd:=Sd.trans q2
     replace end_:=q2 _ _ end_
     replace ea1:=q2 _ _ ea1
     replace R2:=R2.same q2
     generalize upd Ze a2 (.tup [.str "times", .ref a1, .ref b2])=Zf at *
     clear q2
     obtain⟨Zg,dp2,bg,tg,hIg⟩:=hId.af5 (by rw[<-hst,List.length_take];omega) hxs (.bin (op:= .times) ea2 (.rd ea1) R2) (hr1.okT hin (hin y hyu))
     walk_at "vs"
     exact⟨⟨_,_,_,_,_,_,_,_,rfl,fK Sd hcS bg,bg _ _ nlc end_,by rw[hst];exact hIg,fun _=>ha (by omega)⟩⟩
    ·walk_at "vs"
     exact⟨⟨_,_,_,_,_,_,_,_,rfl,Sc,enc,by rw[hst];exact hIc,fun _=>ha (by omega)⟩⟩
 ·rintro σ' H5 ⟨⟨t7,t8,t9,t10,gs,cs,gv,rc,rfl,SX,enl,hI,ha⟩⟩
  rw[List.length_map,hrl] at hI ha
  rw[List.take_of_length_le (by rw[hrl];exact Nat.le_refl _)] at hI
  have ha:("a":Str)∈gs:=ha (by omega)
  have hkl:(fL.take m).length<=50:=by omega
  obtain⟨kc,ec,kkc,_⟩:=hI.kc
  have hlc:cs.length<=14:=by have:=hI.l;omega
  have hlk:kc.map (fun kv=>kV kv.1)=cs.map V.str:=by
   have:=kkc.k
   rw[show(kc.map fun kv=>kV kv.1)=(kc.map (·.1)).map kV by rw[List.map_map];rfl,this,List.map_map];rfl
  walk_at "vs"
  rw[hlk]
  intro ck hck
  have q1:=au (.lst (cs.map V.str)) hck
  have eck:upd H5 ck (.lst (cs.map V.str)) ck=some (.lst (cs.map V.str)):=ak
  replace hI:=hI.same q1
  replace SX:=SX.trans q1
  generalize upd H5 ck (.lst (cs.map V.str))=H6 at *
  clear q1 ec enl
  have hlm:(cs.map V.str).length=cs.length:=List.length_map _
  have w0:=Int.emod_nonneg (n0 / 2 / 700) (show(4:Int)≠0 by decide)
  have w4:=Int.emod_lt_of_pos (n0 / 2 / 700) (show(0:Int)<4 by decide)
  walk_at "vs"
  refine Tf (fun i σ' H'=>Wr (∃(t12 t13:Option V) (rc:Rn),σ'=[some (.ref a),some (.int start),some (.int (n0 / 2)),some (.int (2+n0 / 2 % 13)),some (.ref g),some (.ref c),some (.ref nl),t7,t8,t9,t10,some (.ref ck),t12,t13]/\aQ H H'/\H' ck=some (.lst (cs.map V.str))/\HoI H' g c (fL.take m) gs cs gv rc)) ?_ ?_ ?_
  ·exact⟨⟨_,_,_,rfl,SX,eck,hI⟩⟩
  ·clear SX eck hI
   rintro i σ' Z hi ⟨⟨t12,t13,rc,rfl,SX,eck,hI⟩⟩
   have hi2:i+1<cs.length:=by
    rw[hlm] at hi
    split at hi<;>omega
   have ei:(0+(i:Int))=(i:Int):=by omega
   rw[ei]
   have hp1:(0:Int)<(((cs.map V.str).length:Nat):Int) - 1 - (i:Int):=by rw[hlm];omega
   have v0:=Int.emod_nonneg (n0 / 2 / 2800+3 *(i:Int)) (show(((cs.map V.str).length:Nat):Int) - 1 - (i:Int)≠0 by omega)
   have v1:=Int.emod_lt_of_pos (n0 / 2 / 2800+3 *(i:Int)) hp1
   obtain⟨xb,hxb,mxb⟩:=WR (us:=cs) v0 (by rw[<-hlm];omega)
   obtain⟨xa,hxa,mxa⟩:=WR (us:=cs) (n:=(((cs.map V.str).length:Nat):Int) - 1 - (i:Int)) (by omega) (by rw[<-hlm];omega)
   obtain⟨b2,r2,dg,R2,hr2⟩:=hI.get mxb
   obtain⟨Z2,dp,bb,tt,hI2⟩:=hI.af5 hkl mxa R2 (hI.o xb r2 hr2)
   have m1:qR 3 (i:Int):= .inl ⟨by decide,by decide⟩
   obtain⟨_,⟨kcz,ecz⟩⟩:=hI.dk
   have ncc:ck∉[c]:=fun z=>by rw[show ck=c by simpa using z,ecz] at eck;cases eck
   walk_at "vs"
   exact⟨⟨_,_,_,rfl,fK SX (fun z hz=>by rw[show z=c by simpa using hz];exact hc0) bb,bb _ _ ncc eck,hI2⟩⟩
  ·rintro σ' Z ⟨⟨t12,t13,rc,rfl,SX,eck,hI⟩⟩
   walk_at "vs"
   intro h hh
   have q1:=au (.tup [.ref g, .ref c]) hh
   exact q h g c gs cs gv rc _ (SX.trans q1) (same_none SX hh) hg0 hc0 ngc ((hI.same q1).ado hkl ak) (hI.ho4 (fun x hx=>List.take_subset_take_left _ (by omega) hx) (by omega) ha)
end
section
local macro_rules | `(tactic| walk_at "side") => `(tactic| first | exact Oe (by assumption) | exact Fj (by assumption) | exact Sw (by assumption) | exact Og (by assumption) | exact Lr (by assumption) | exact Ls (by assumption))
variable {P:Program}{w:World}{K:W.Frag}{mg:Str->Option Value}{base:Heap}
abbrev cV:Stmt:=top 34
theorem pN:bU ["walk","name","given","recipes","outer","worth"] ["walk","name"] (aj cV):=⟨rfl,rfl,rfl,by decide +kernel,rfl,by decide +kernel,by decide +kernel⟩
theorem aJ:aF (aj cV) "walk":=by decide +kernel
theorem Ab:Loc (aj cV) "recipes":=by decide +kernel
theorem DK:Loc (aj cV) "given":=by decide +kernel
theorem aX:aF (aj cV) "name":=by decide +kernel
theorem sX:aF (aj cV) "given":=by decide +kernel
theorem qu:aF (aj cV) "recipes":=by decide +kernel
theorem DN:Loc (aj cV) "outer":=by decide +kernel
theorem DP:Loc (aj cV) "worth":=by decide +kernel
theorem wB:GIq cV "_law_worth":=by decide +kernel
theorem wC:DBq "_law_worth":=by decide +kernel
theorem DQ:aF (aj cV) "worth":=by decide +kernel
theorem DX:aF (aj cV) "outer":=by decide +kernel
abbrev cC:Stmt:=top 33
theorem qP:bU ["walk","recipe","kind","one","other"] ["walk","recipe"] (aj cC):=⟨rfl,rfl,rfl,by decide +kernel,rfl,by decide +kernel,by decide +kernel⟩
theorem DY:Loc (aj cC) "kind":=by decide +kernel
theorem dI:aF (aj cC) "recipe":=by decide +kernel
theorem gY:aF (aj cC) "walk":=by decide +kernel
theorem gZ:aF (aj cC) "kind":=by decide +kernel
theorem u0:GIq cC "int":=by decide +kernel
theorem u5:("int":Str)≠"__name__":=by decide +kernel
theorem u6:DBq "int":=by decide +kernel
theorem n8:GIq cC "_law_look":=by decide +kernel
theorem oh:DBq "_law_look":=by decide +kernel
theorem Fz:Loc (aj cC) "one":=by decide +kernel
theorem jH:GIq cC "_law_worth":=by decide +kernel
theorem jJ:DBq "_law_worth":=by decide +kernel
theorem iI:aF (aj cC) "one":=by decide +kernel
theorem FJ:GIq cC "len":=by decide +kernel
theorem FN:("len":Str)≠"__name__":=by decide +kernel
theorem FP:DBq "len":=by decide +kernel
theorem Ce:Loc (aj cC) "other":=by decide +kernel
theorem FQ:GIq cC "max":=by decide +kernel
theorem j8:aF (aj cC) "other":=by decide +kernel
theorem FT:("max":Str)≠"__name__":=by decide +kernel
theorem FW:DBq "max":=by decide +kernel
theorem yQ {f d:Nat} (hd6:d<=5) {fa g0:Addr}{fd gd0:FuncData} (bJ:FnT K mg "_law_worth" cC ["walk","recipe"] fa fd)
 (cJ:FnT K mg "_law_look" cV ["walk","name"] g0 gd0) (lQ:aZ P w K mg base CX0 (8 * f+1) g0 gd0 ["walk","name"] (Od f))
 (pO:aZ P w K mg base CX0 (8 * f+2+d) fa fd ["walk","recipe"] (af6 f d)) (T:Blt mg):
 aZ P w K mg base CX0 (8 * f+2+d+1) fa fd ["walk","recipe"] (Sv f d):=by
 refine bJ.F.okQ qP (fun vs H Q E h=> ?_) (fun cdv Ar outer s H vs Q E hr h=> ?_)
 ·have h:Wo4 f d vs H Q:=h
  cases h with
  | run hv=>subst hv;rfl
  | stop hv=>subst hv;rfl
 have h:Wo4 f d vs H Q:=h
 refine⟨_,(az (bV (i:=2) qP.nd rfl DY (cR bZ (aa 1 dI) aB))
  (az (cX (Cz (Cy (cN fU (aa 2 gZ) aC (aY _)) (xR (cN xT (aW (bh hr) (aa 0 gY) aC) ni (aY _))))) (aA (bF (cR fV (dY (lq (cR bZ (aa 1 dI) aB) (d9 aB aq))) (lW Ro u0 T.Rr KJ (afT (vB KY (aa 2 gZ) aC (aY _)) aq) u5 u6)))) bY)
  (az (cX (cN fU (aa 2 gZ) aC (aY _)) (aA (bF (bG (lQ.mono (by omega)) hr n8 cJ.m cJ.F.kp cJ.b .nil cQ (aK (aa 0 gY) (lq (cR bZ (aa 1 dI) aB) aq)) oh))) bY)
  (az (bV (i:=3) qP.nd rfl Fz (bG (pO.mono (by omega)) hr jH bJ.m bJ.F.kp bJ.b .nil cQ (aK (aa 0 gY) (lq (cR bZ (aa 1 dI) aB) aq)) jJ))
  (az (cX (cN fU (aa 2 gZ) aC (aY _)) (aA (bF (bG (lQ.mono (by omega)) hr n8 cJ.m cJ.F.kp cJ.b .nil cQ (aK (aa 0 gY) (lq (cR bZ (cR bZ (aa 1 dI) aB) (bW lA (aa 3 iI) (bR ie FJ T.wI pQ (lq (cR bZ (aa 1 dI) aB) aq) FN FP))) aq)) oh))) bY)
  (az (cX (cN fU (aa 2 gZ) aC (aY _)) (aA (bF (bG (pO.mono (by omega)) hr jH bJ.m bJ.F.kp bJ.b .nil cQ (aK (aa 0 gY) (lq (cR bZ (aa 1 dI) (bW jX aB (lW Ro u0 T.Rr KJ (afT (vB VD (aa 3 iI) aB (aY _)) aq) u5 u6))) aq)) jJ))) bY)
  (az (bV (i:=4) qP.nd rfl Ce (bG (pO.mono (by omega)) hr jH bJ.m bJ.F.kp bJ.b .nil cQ (aK (aa 0 gY) (lq (cR bZ (aa 1 dI) aB) aq)) jJ))
  (aA (bF (aW (bh hr) (KR (lV aC (bW jW (aa 3 iI) (aa 4 j8)) (lV aC (bW jX (aa 3 iI) (aa 4 j8)) (lV aC (bW pC (aa 3 iI) (aa 4 j8)) (lV aC (bR (Ru rfl) FQ T.aa5 Vw (aK (aa 3 iI) (aK (aa 4 j8) aq)) FT FW) Px))))) (aa 2 gZ))))))))))), ?_⟩
 cases h with
 | @stop wk b rl t A a hv ek hR nb q=>
   subst hv
   cases hR with
   | @num _ n e=>
     walk_at "vs"
     intro l hl
     have q_:=au (.lst [V.int n, .int 0]) hl
     have el:upd H l (.lst [V.int n, .int 0]) l=some (.lst [V.int n, .int 0]):=ak
     have hat:atI [V.int n,V.int 0] 0=some (.int n):=rfl
     generalize upd H l (.lst [V.int n, .int 0])=H1 at *
     walk_at "vs"
     exact q _ _ q_ nb
   | @rd _ x e=>
     walk_at "vs"
     intro l hl
     have q_:=au (.lst [V.str x, .int 0]) hl
     have el:upd H l (.lst [V.str x, .int 0]) l=some (.lst [V.str x, .int 0]):=ak
     have hat:atI [V.str x,V.int 0] 1=some (.int 0):=rfl
     generalize upd H l (.lst [V.str x, .int 0])=H1 at *
     walk_at "vs"
     exact q _ _ q_ (by decide)
   | @bin _ x y op r1 r2 e h1 h2=>
     cases op
     all_goals
      walk_at "vs"
      intro l hl
      have q_:=au (.lst [.ref x, .int 0]) hl
      have el:upd H l (.lst [.ref x, .int 0]) l=some (.lst [.ref x, .int 0]):=ak
      have hat:atI [V.ref x, .int 0] 1=some (.int 0):=rfl
      generalize upd H l (.lst [.ref x, .int 0])=H1 at *
      walk_at "vs"
      exact q _ _ q_ (by decide)
   | @pick _ x y z r1 r2 r3 e h1 h2 h3=>
     walk_at "vs"
     intro l hl
     have q_:=au (.lst [V.ref x, .int 0]) hl
     have el:upd H l (.lst [V.ref x, .int 0]) l=some (.lst [V.ref x, .int 0]):=ak
     have hat:atI [V.ref x,V.int 0] 1=some (.int 0):=rfl
     generalize upd H l (.lst [V.ref x, .int 0])=H1 at *
     walk_at "vs"
     exact q _ _ q_ (by decide)
   | @cho _ x y r1 ns e h1 h2=>
     walk_at "vs"
     intro l hl
     have q_:=au (.lst [V.ref x, .int 0]) hl
     have el:upd H l (.lst [V.ref x, .int 0]) l=some (.lst [V.ref x, .int 0]):=ak
     have hat:atI [V.ref x,V.int 0] 1=some (.int 0):=rfl
     generalize upd H l (.lst [V.ref x, .int 0])=H1 at *
     walk_at "vs"
     exact q _ _ q_ (by decide)
 | @run X wk g c b A gs cs gv rc x p kn od rm rl ps r a hv cx hrc hR hd nb ct hf q qe=>
   subst hv
   have ek:=cx.ek
   have h0:=WW d
   cases hR with
   | @num _ n e=>
     walk_at "vs"
     intro l hl
     have q_:=au (.lst [V.int n, .int 0]) hl
     have el:upd H l (.lst [V.int n, .int 0]) l=some (.lst [V.int n, .int 0]):=ak
     have hat:atI [V.int n,V.int 0] 0=some (.int n):=rfl
     generalize upd H l (.lst [V.int n, .int 0])=H1 at *
     walk_at "vs"
     have nb':PySem.Builtin.Int.intBits n<=41:=nb
     exact q n kn od rm [] _ (But.of_same q_) (by rw[List.append_nil];exact cx.same q_) (Kn.Le.refl _) (jk.refl _) RC (by omega)
   | @rd _ z e=>
     walk_at "vs"
     refine Lo4.run rfl cx (fun hz x' q' hq=> ?_) hf (fun v kn' od' rm' ps2 H' b1 cx' hv le m got=>q v kn' od' rm' ps2 H' b1 cx' le m got (by have:=cx'.bits hv;omega)) (fun e' t H' b1 ea ek' er ho=>qe 0 e' t H' b1 ea ek' er ho (by rw[show PySem.Builtin.Int.intBits 0=0 from rfl];omega))
     cases hq
     exact⟨r,hrc,ct kn z (Kn.Le.refl _) (by show look kn z=_;unfold look;rw[hz])⟩
   | @bin _ b1 b2 op r1 r2 e h1 h2=>
     cases d with
     | zero=>have:=qQ (.bin op r1 r2);omega
     | succ d=>
       have hdd:max r1.depth r2.depth+1<=d+1:=hd
       have h0d:=WW d
       have hget:=fun(H':Hp) (p':Addr) (u v:Int) (z:H' p'=some (.dK (pP [] (opK u v))))=>Zh op z
       cases op
       all_goals
        walk_at "vs"
        refine Wo4.run (x:=x) (p:=p) (r:=r) rfl cx hrc h1 (by omega) nb.1 (fun kn' y le he=>ct kn' y le (by simp only[ev];rw[he])) hf ?_ ?_
        ·intro u kn1 od1 rm1 us H1 bb1 cx1 le1 m1 Ox bt1
         have t1:=cx.tups bb1 cx.sx
         replace e:=t1 _ _ e
         replace h2:=h2.tups t1
         have ek1:=cx1.ek
         have ev1:=Lq Ox cx1.row
         walk_at "vs"
         refine Wo4.run (x:=x) (p:=p) (r:=r) rfl cx1 hrc h2 (by omega) nb.2 (fun kn' y le he=>ct kn' y (le1.trans le) (by simp only[ev];rw[lX le ev1];simp only;rw[he])) hf ?_ ?_
         ·intro v kn2 od2 rm2 vs2 H2 bb2 cx2 le2 m2 Oz bt2
          replace e:=(cx1.tups bb2 cx1.sx) _ _ e
          have cm:qR u v:=Qu (by omega) bt1 bt2
          walk_at "vs"
          intro pd hpd
          walk_at "vs"
          refine⟨opK u v,rfl,(by show 4<=15;decide), ?_⟩
          have S3:aQ H2 (upd (upd H2 pd (.dK [])) pd (.dK (pP [] (opK u v)))):=by rw[lR];exact au _ hpd
          walk_at "vs"
          refine⟨hget _ _ u v ak, ?_⟩
          rw[List.append_assoc] at cx2
          rw[Kn.fW] at Oz
          exact q _ _ _ _ _ _ (bb1.trans (bb2.trans (But.of_same S3))) (cx2.same S3) (le1.trans le2) (m1.trans m2) (RD Ox Oz) (Lp bt1 bt2)
         ·intro n e' t H2 bb2 ea ek2 er ho bt2
          replace e:=(cx1.tups bb2 cx1.sx) _ _ e
          have cm:qR u n:=Qu (by omega) bt1 bt2
          walk_at "vs"
          intro pd hpd
          walk_at "vs"
          refine⟨opK u n,rfl,(by show 4<=15;decide), ?_⟩
          have S3:aQ H2 (upd (upd H2 pd (.dK [])) pd (.dK (pP [] (opK u n)))):=by rw[lR];exact au _ hpd
          walk_at "vs"
          refine⟨hget _ _ u n ak, ?_⟩
          exact qe _ e' t _ (bb1.trans (bb2.trans (But.of_same S3))) (ea.of m1) (S3 _ _ ek2) (er.same S3) (ho.same S3) (Lp bt1 bt2)
        ·intro n e' t H1 bb1 ea ek1 er ho bt1
         have t1:=cx.tups bb1 cx.sx
         replace e:=t1 _ _ e
         replace h2:=h2.tups t1
         walk_at "vs"
         refine Wo4.stop rfl ek1 h2 nb.2 ?_
         intro n2 H2 s2 bt2
         replace e:=s2 _ _ e
         have agh:PySem.Builtin.Int.intBits n2<=bw d:=by omega
         have cm:qR n n2:=Qu (by omega) bt1 agh
         walk_at "vs"
         intro pd hpd
         walk_at "vs"
         refine⟨opK n n2,rfl,(by show 4<=15;decide), ?_⟩
         have S3:aQ H2 (upd (upd H2 pd (.dK [])) pd (.dK (pP [] (opK n n2)))):=by rw[lR];exact au _ hpd
         replace S3:=s2.trans S3
         walk_at "vs"
         refine⟨hget _ _ n n2 ak, ?_⟩
         exact qe _ e' t _ (bb1.trans (But.of_same S3)) ea (S3 _ _ ek1) (er.same S3) (ho.same S3) (Lp bt1 agh)
   | @pick _ b1 b2 b3 r1 r2 r3 e h1 h2 h3=>
     cases d with
     | zero=>have:=qQ (.pick r1 r2 r3);omega
     | succ d=>
       have hdd:max r1.depth (max r2.depth r3.depth)+1<=d+1:=hd
       have h0d:=WW d
       have hbs:=Ln d
       walk_at "vs"
       refine Wo4.run (x:=x) (p:=p) (r:=r) rfl cx hrc h1 (by omega) nb.1 (fun kn' y le he=>ct kn' y le (by simp only[ev];rw[he])) hf ?_ ?_
       ·intro u kn1 od1 rm1 us H1 bb1 cx1 le1 m1 Ox bt1
        have t1:=cx.tups bb1 cx.sx
        replace e:=t1 _ _ e
        replace h2:=h2.tups t1
        replace h3:=h3.tups t1
        have ek1:=cx1.ek
        have ev1:=Lq Ox cx1.row
        have fin:∀(s:R),s=(if u>0 then r2 else r3)->∀v kn' od' rm' ps2 H',But (A.all wk rl) H1 H'->C4 X wk g c A gs cs gv rc (x::p) kn' od' rm' rl ((ps++us)++ps2) H'->Kn.Le kn1 kn'->jk gv rc (x::p,kn1,od1) (x::p,kn',od')->mW s (kn0.puts (ps++us)) ps2 v->PySem.Builtin.Int.intBits v<=bw d->Q (.int v) H':=fun s hs v kn2 od2 rm2 vs2 H2 bb2 cx2 le2 m2 Oz bt2=>by
         subst hs
         rw[List.append_assoc] at cx2
         rw[Kn.fW] at Oz
         exact q _ _ _ _ _ _ (bb1.trans bb2) cx2 (le1.trans le2) (m1.trans m2) (Nh Ox Oz) (by omega)
        have fine:∀n e' t H',But (A.all wk rl) H1 H'->Qv gv rc (x::p,kn1,od1) e'->H' wk=some (.dK (wkD A rl (.ref t)))->ErT e' t H'->iK H' A.h g c gs cs gv rc->PySem.Builtin.Int.intBits n<=bw d->Q (.int n) H':=fun n e' t H2 bb2 ea ek2 er ho bt2=>qe n e' t H2 (bb1.trans bb2) (ea.of m1) ek2 er ho (by omega)
        by_cases hu:u>0
        ·have hat:atI [V.str "pick", .ref b1, .ref b2, .ref b3] (3 - if decide (0<u)=true then 1 else 0)=some (.ref b2):=by rw[show decide (0<u)=true from decide_eq_true hu];rfl
         walk_at "vs"
         refine Wo4.run (x:=x) (p:=p) (r:=r) rfl cx1 hrc h2 (by omega) nb.2.1 (fun kn' y le he=>ct kn' y (le1.trans le) (by simp only[ev];rw[lX le ev1];simp only;rw[if_pos hu];exact he)) hf (fin r2 (by rw[if_pos hu])) fine
        ·have hat:atI [V.str "pick", .ref b1, .ref b2, .ref b3] (3 - if decide (0<u)=true then 1 else 0)=some (.ref b3):=by rw[show decide (0<u)=false from decide_eq_false hu];rfl
         walk_at "vs"
         refine Wo4.run (x:=x) (p:=p) (r:=r) rfl cx1 hrc h3 (by omega) nb.2.2 (fun kn' y le he=>ct kn' y (le1.trans le) (by simp only[ev];rw[lX le ev1];simp only;rw[if_neg hu];exact he)) hf (fin r3 (by rw[if_neg hu])) fine
       ·intro n e' t H1 bb1 ea ek1 er ho bt1
        have t1:=cx.tups bb1 cx.sx
        replace e:=t1 _ _ e
        replace h2:=h2.tups t1
        replace h3:=h3.tups t1
        by_cases hu:n>0
        ·have hat:atI [V.str "pick", .ref b1, .ref b2, .ref b3] (3 - if decide (0<n)=true then 1 else 0)=some (.ref b2):=by rw[show decide (0<n)=true from decide_eq_true hu];rfl
         walk_at "vs"
         refine Wo4.stop rfl ek1 h2 nb.2.1 ?_
         intro n2 H2 s2 bt2
         exact qe _ e' t _ (bb1.trans (But.of_same s2)) ea (s2 _ _ ek1) (er.same s2) (ho.same s2) (by omega)
        ·have hat:atI [V.str "pick", .ref b1, .ref b2, .ref b3] (3 - if decide (0<n)=true then 1 else 0)=some (.ref b3):=by rw[show decide (0<n)=false from decide_eq_false hu];rfl
         walk_at "vs"
         refine Wo4.stop rfl ek1 h3 nb.2.2 ?_
         intro n2 H2 s2 bt2
         exact qe _ e' t _ (bb1.trans (But.of_same s2)) ea (s2 _ _ ek1) (er.same s2) (ho.same s2) (by omega)
   | @cho _ b1 b2 r1 ns e h1 h2=>
     cases d with
     | zero=>have:=qQ (.cho r1 ns);omega
     | succ d=>
       have hdd:r1.depth+1<=d+1:=hd
       have h0d:=WW d
       have hbs:=Ln d
       have hnl:1<=ns.length:=nb.2
       have hlm:(ns.map V.str).length=ns.length:=List.length_map _
       have hlp:(0:Int)<(((ns.map V.str).length:Nat):Int):=by rw[hlm];omega
       have nameAt:∀u:Int,∃y,rA ns u=some y/\atI (ns.map V.str) (u % (((ns.map V.str).length:Nat):Int))=some (.str y):=fun u=>by
        obtain⟨y,hy⟩:=Ke hnl u
        refine⟨y,hy, ?_⟩
        have h1:=Int.emod_nonneg u (show((ns.length:Nat):Int)≠0 by omega)
        rw[hlm]
        obtain⟨k,hk⟩:=Int.eq_ofNat_of_zero_le h1
        rw[hk]
        unfold rA at hy
        rw[hk] at hy
        exact mV (by rw[List.getElem?_map];have hy:ns[k]? =some y:=hy;rw[hy];rfl)
       walk_at "vs"
       refine Wo4.run (x:=x) (p:=p) (r:=r) rfl cx hrc h1 (by omega) nb.1 (fun kn' y le he=>ct kn' y le (by simp only[ev];rw[he])) hf ?_ ?_
       ·intro u kn1 od1 rm1 us H1 bb1 cx1 le1 m1 Ox bt1
        have t1:=cx.tups bb1 cx.sx
        replace e:=t1 _ _ e
        replace h2:=t1 _ _ h2
        have ek1:=cx1.ek
        have ev1:=Lq Ox cx1.row
        obtain⟨y,hy,hat⟩:=nameAt u
        walk_at "vs"
        refine Lo4.run rfl cx1 (fun hz x' q' hq=> ?_) hf (fun v kn2 od2 rm2 vs2 H2 bb2 cx2 hv le2 m2 Oz=> ?_) (fun e' t H2 bb2 ea ek2 er ho=>qe 0 e' t H2 (bb1.trans bb2) (ea.of m1) ek2 er ho (WX _))
        ·cases hq
         exact⟨r,hrc,ct kn1 y le1 (by simp only[ev];rw[ev1];simp only[hy];unfold look;rw[hz])⟩
        ·have bt2:=cx2.bits hv
         rw[List.append_assoc] at cx2
         rw[Kn.fW] at Oz
         exact q _ _ _ _ _ _ (bb1.trans bb2) cx2 (le1.trans le2) (m1.trans m2) (RG Ox hy Oz) (by omega)
       ·intro n e' t H1 bb1 ea ek1 er ho bt1
        have t1:=cx.tups bb1 cx.sx
        replace e:=t1 _ _ e
        replace h2:=t1 _ _ h2
        obtain⟨y,hy,hat⟩:=nameAt n
        walk_at "vs"
        exact Lo4.stop rfl ek1 ho (qe 0 e' t H1 bb1 ea ek1 er ho (WX _))
end
section
local macro_rules | `(tactic| walk_at "side") => `(tactic| first | exact Oe (by assumption) | exact Fj (by assumption) | exact Sw (by assumption) | exact Og (by assumption) | exact Lr (by assumption) | exact Ls (by assumption) | exact qJ (by assumption) _ | exact ye (by assumption) _)
variable {P:Program}{w:World}{K:W.Frag}{mg:Str->Option Value}{base:Heap}
theorem Ai {f:Nat}{fa g0:Addr}{fd gd0:FuncData} (cJ:FnT K mg "_law_look" cV ["walk","name"] fa fd)
 (bJ:FnT K mg "_law_worth" cC ["walk","recipe"] g0 gd0) (pO:aZ P w K mg base CX0 (8 * f) g0 gd0 ["walk","recipe"] (af7 f)) (T:Blt mg):
 aZ P w K mg base CX0 (8 * f+1) fa fd ["walk","name"] (Od f):=by
 refine cJ.F.okQ pN (fun vs H Q E h=> ?_) (fun cdv Ar outer s H vs Q E hr h=> ?_)
 ·have h:Lo4 f vs H Q:=h
  cases h with
  | run hv=>subst hv;rfl
  | stop hv=>subst hv;rfl
 have h:Lo4 f vs H Q:=h
 refine⟨_,(az (acK (aW (bh hr) (aa 0 aJ) aC) (Pz rfl (pF (sI (i:=2) pN.nd rfl DK) (pF (sI (i:=3) pN.nd rfl Ab) G6))))
  (az (cX (cN xT (aW (bh hr) (aa 0 aJ) aC) ni (aY _)) (aA (bF aB)) bY)
  (az (Qw (cX (Ey (bh hr) (aa 1 aX) (aa 2 sX)) (aA (iy (bh hr) (aW (bh hr) (aa 0 aJ) aC) (aa 1 aX) (aW (bh hr) (aa 2 sX) (aa 1 aX)))) (aA (cX (Cz (Ao (oW (bh hr) (aa 1 aX) (aW (bh hr) (aa 0 aJ) aC)) (zq (oW (bh hr) (aa 1 aX) (aa 3 qu))))) (aA (iy (bh hr) (aa 0 aJ) aC (gF (d9 aC (aK (aa 1 aX) aq))))) (aA (cX (Cz (Ao (oW (bh hr) (aa 1 aX) (aW (bh hr) (aa 0 aJ) aC)) (zq (cN Av (aa 1 aX) (aW (bh hr) (aa 0 aJ) aC) rfl)))) (aA (iy (bh hr) (aa 0 aJ) aC (gF (d9 aC (Az (bW vG (qX qZ (aW (bh hr) (aa 0 aJ) aC) (vD (qb PySem.F.plainAttrs_list PySem.F.slot_list_index PySem.F.type_list_index Kp (aW (bh hr) (aa 0 aJ) aC) (aK (aa 1 aX) aq))) vC) (dY (aK (aa 1 aX) aq))) aq))))) (aA (cX (oW (bh hr) (aa 1 aX) (aW (bh hr) (aa 0 aJ) aC)) (az (bV (i:=4) pN.nd rfl DN (aW (bh hr) (aa 0 aJ) aC))
  (az (fQ (qb PySem.F.plainAttrs_list PySem.F.slot_list_append PySem.F.type_list_append iJ (aW (bh hr) (aa 0 aJ) aC) (aK (aa 1 aX) aq)))
  (az (iy (bh hr) (aa 0 aJ) aC (dY aq))
  (az (bV (i:=5) pN.nd rfl DP (bG (pO.mono (by omega)) hr wB bJ.m bJ.F.kp bJ.b .nil cQ (aK (aa 0 aJ) (lq (aW (bh hr) (aa 3 qu) (aa 1 aX)) aq)) wC))
  (az (cX (cN Rk (aW (bh hr) (aa 0 aJ) aC) ni (aY _)) (az (Qw (fQ (Aq PySem.F.plainAttrs_list PySem.F.slot_list_pop PySem.F.type_list_pop vH (aW (bh hr) (aa 0 aJ) aC))))
  (az (iy (bh hr) (aW (bh hr) (aa 0 aJ) aC) (aa 1 aX) (aa 5 DQ))
  (aA (fQ (qb PySem.F.plainAttrs_list PySem.F.slot_list_append PySem.F.type_list_append iJ (aW (bh hr) (aa 0 aJ) aC) (K3 (gF (aK (aa 1 aX) (ac0 (CG rfl (n:=1) (fr:=[0]) (N:=["other","walk"]) (MJ (scX:=aj cV) (NX:=["walk","name","given","recipes","outer","worth"]) rfl rfl (by decide +kernel)) (zu (aW (bh hr) (aa 0 aJ) aC)) (fun _ _ _ _ _=>(qgx (i:=0) (show List.Nodup (α:=Str) ["other","walk"] by decide) (Pu (by decide +kernel)))) (fun _ _ _ _ _=>Py) (fun _ _ _ _ _=>(gF (aK (aa 0 (vz.ok (by decide +kernel))) (lq (aW (bh hr) (aW (bh hr) (aa 1 (vz.ok (by decide +kernel))) aC) (aa 0 (vz.ok (by decide +kernel)))) aq))))) aq))) aq)))))) bY)
  (aA (iy (bh hr) (aa 0 aJ) aC (aa 4 DX)))))))) bY))))))))
  (az (cX (cN xT (aW (bh hr) (aa 0 aJ) aC) ni (aY _)) (aA (bF aB)) bY)
  (az (cX (cN Jr (aa 1 aX) (aW (bh hr) (aa 0 aJ) aC) rfl) (aA (fQ (qb PySem.F.plainAttrs_list PySem.F.slot_list_append PySem.F.type_list_append iJ (aW (bh hr) (aa 0 aJ) aC) (aK (aa 1 aX) aq)))) bY)
  (aA (bF (aW (bh hr) (aW (bh hr) (aa 0 aJ) aC) (aa 1 aX))))))))), ?_⟩
 cases h with
 | @stop wk g c rl t A gs cs gv rc z hv ek ho q=>
   subst hv
   obtain⟨kg,kc,eh,_⟩:=ho
   walk_at "vs"
   exact q
 | @run X wk g c A gs cs gv rc p kn od rm rl ps z hv cx ct hf q qe=>
   subst hv
   have ek:=cx.ek
   obtain⟨kg,kc,eh,eg,ec,bd⟩:=id cx.ho
   obtain⟨kw,ws,ew,kkw,hvw⟩:=id cx.ew
   walk_at "vs"
   refine⟨fun σ' H'=>Wr ((∃(t4 t5:Option V) (v:Int) (kn1:Kn) (od1:List Str) (rm1:Rm),σ'=[some (.ref wk),some (.str z),some (.ref g),some (.ref c),t4,t5]/\But (A.all wk rl) H H'/\C4 X wk g c A gs cs gv rc p kn1 od1 rm1 rl ps H'/\kn1 z=some v/\Kn.Le kn kn1/\jk gv rc (st4 p z kn od) (p,kn1,od1))\/
    (∃(t4 t5:Option V) (e:Er) (t:Addr),σ'=[some (.ref wk),some (.str z),some (.ref g),some (.ref c),t4,t5]/\But (A.all wk rl) H H'/\Qv gv rc (st4 p z kn od) e/\H' wk=some (.dK (wkD A rl (.ref t)))/\ErT e t H'/\iK H' A.h g c gs cs gv rc)), ?_, ?_⟩
   ·rintro σ' H1 ⟨⟨t4,t5,v,kn1,od1,rm1,rfl,b1,cx1,hv1,le1,m1⟩ | ⟨t4,t5,e,t,rfl,b1,ea,ek1,er,ho1⟩⟩
    ·have ek1:=cx1.ek
     have er1:=cx1.er
     obtain⟨kw1,ws1,ew1,kk1,hv1'⟩:=id cx1.ew
     have lk:=cx1.row.look hv1
     have en:(ps.map fun q=>V.str q.1)=(ps.map (·.1)).map V.str:=by rw[List.map_map];rfl
     have hfl:(ps.map fun q=>V.str q.1).all p8=true:=by rw[en];exact Fe _
     by_cases hm:z∈ps.map (·.1)
     ·have hin:inV (.str z) (ps.map fun q=>V.str q.1)=true:=by rw[en];exact NP hm
      have hvm:(z,v)∈ps:=by
       obtain⟨p0,hp0,rfl⟩:=List.mem_map.mp hm
       have:=cx1.row.s p0 hp0
       rw[hv1] at this
       rw[show v=p0.2 from Option.some.inj this];exact hp0
      rw[if_pos hvm] at lk
      have dw:cD H1 A.wd (.str z) (some (.int v)):=by
       have:=cD.k (k:= .inr z) ew1
       rw[hv1',hv1] at this;exact this
      walk_at "vs"
      rw[hin]
      walk_at "vs"
      exact q v kn1 od1 rm1 [] H1 b1 (by rw[List.append_nil];exact cx1) hv1 le1 m1 lk
     ·have hin:inV (.str z) (ps.map fun q=>V.str q.1)=false:=by rw[en];exact Wm hm
      have hvm:(z,v)∉ps:=fun w=>hm (List.mem_map.mpr ⟨_,w,rfl⟩)
      rw[if_neg hvm] at lk
      obtain⟨b2,cx2⟩:=cx1.rd lk.2
      have ek2:=cx2.ek
      obtain⟨kw2,ws2,ew2,kk2,ajw⟩:=id cx2.ew
      have hz:(ps.map fun q=>V.str q.1).length<sizeLine:=by rw[List.length_map];exact bD (by have:=cx1.rlen;omega)
      have dw:cD (upd H1 rl (.lst ((ps.map fun q=>V.str q.1)++[.str z]))) A.wd (.str z) (some (.int v)):=by
       have:=cD.k (k:= .inr z) ew2
       rw[ajw,hv1] at this;exact this
      walk_at "vs"
      rw[hin]
      walk_at "vs"
      exact q v kn1 od1 rm1 [(z,v)] _ (b1.trans b2) cx2 hv1 le1 m1 lk.1
    ·walk_at "vs"
     exact qe e t H1 b1 ea ek1 er ho1
   ·cases hgz:gv z with
    | some v=>
      obtain⟨H1,dp,b1,cx1,le1⟩:=cx.giv hgz
      have dg:cD H g (.str z) (some (.int v)):=by
       have:=cD.k (k:= .inr z) eg
       rw[bd.g,hgz] at this;exact this
      walk_at "vs"
      refine⟨.inl ⟨_,_,v,_,od,rm,rfl,b1,cx1,by unfold Kn.put;rw[if_pos rfl],le1,ajl cx.un ct hgz fun u hu=> ?_⟩⟩
      rcases cx.ok.a _ _ hu with w1 | ⟨w1,_⟩
      ·rw[hgz] at w1;exact(Option.some.inj w1).symm
      ·rw[hgz] at w1;cases w1
    | none=>
      have dg:cD H g (.str z) none:=by
       have:=cD.k (k:= .inr z) eg
       rw[bd.g,hgz] at this;exact this
      cases hkz:kn z with
      | some v=>
        have dw:cD H A.wd (.str z) (some (.int v)):=by
         have:=cD.k (k:= .inr z) ew
         rw[hvw,hkz] at this;exact this
        walk_at "vs"
        exact⟨.inl ⟨_,_,v,kn,od,rm,rfl,But.refl _ _,cx,hkz,Kn.Le.refl _,af8 hkz⟩⟩
      | none=>
        have dw:cD H A.wd (.str z) none:=by
         have:=cD.k (k:= .inr z) ew
         rw[hvw,hkz] at this;exact this
        cases hrz:rc z with
        | none=>
          have dc:cD H c (.str z) none:=by
           have:=cD.k (k:= .inr z) ec
           rw[bd.rn z hrz] at this;exact this
          walk_at "vs"
          intro t ht
          have q_:=au (.tup [.str "none", .str z]) ht
          have et:upd H t (.tup [.str "none", .str z]) t=some (.tup [.str "none", .str z]):=ak
          have ek1:=q_ _ _ ek
          have ho1:=cx.ho.same q_
          generalize upd H t (.tup [.str "none", .str z])=H1 at *
          have dp:=ye ek1 (.ref t)
          walk_at "vs"
          have hzp:z∉p:=fun w=>(cx.un z w).2.2 hrz
          refine⟨.inr ⟨_,_, .no z,t,rfl,fun y o hy e=>(ao (fun w=>hy (by simp[W4.all,w]))).trans (q_ _ _ e),⟨_,Qx cx.un (ct hkz) hzp,Wz hkz hgz hrz⟩,ak,ErT.updk (e:= .no z) et ek1,ho1.updk ek1 cx.n5.1 cx.n6.1⟩⟩
        | some r=>
          obtain⟨bz,hbz,hRz⟩:=bd.r z r hrz
          have dc:cD H c (.str z) (some (.ref bz)):=hbz▸cD.k (k:= .inr z) ec
          have ep:=cx.ep
          by_cases hzp:z∈p
          ·obtain⟨x,q0,rfl⟩:∃x q0,p=x::q0:=by
            cases p with
            | nil=>cases hzp
            | cons x q0=>exact⟨x,q0,rfl⟩
           obtain⟨r',hr',he'⟩:=ct hkz x q0 rfl
           obtain⟨hx1,hx2,_⟩:=cx.un x (by simp)
           have hzr:z∈(x::q0).reverse:=List.mem_reverse.mpr hzp
           have hin:=NP hzr
           have hfl:=Fe (x::q0).reverse
           obtain⟨agf,agg⟩:=Fi hzr
           have hpl:=cx.plen
           have herr:=Iu (p:=q0) (od:=od) hx1 hx2 hr' he' hzp
           have hcut:Cu ((x::q0).reverse.map V.str) (some (((x::q0).reverse.idxOf z:Nat):Int)) none=((x::q0).reverse.drop ((x::q0).reverse.idxOf z)).map V.str:=by rw[Ex,List.map_drop]
           walk_at "vs"
           rw[hin]
           walk_at "vs"
           intro p1 hp1
           rw[hcut]
           have sA:=au (.lst (((x::q0).reverse.drop ((x::q0).reverse.idxOf z)).map V.str)) hp1
           have eA:upd H p1 (.lst (((x::q0).reverse.drop ((x::q0).reverse.idxOf z)).map V.str)) p1=some (.lst (((x::q0).reverse.drop ((x::q0).reverse.idxOf z)).map V.str)):=ak
           have hdl:(((x::q0).reverse.drop ((x::q0).reverse.idxOf z)).map V.str).length<=61:=by rw[List.length_map,List.length_drop,List.length_reverse];omega
           generalize upd H p1 (.lst (((x::q0).reverse.drop ((x::q0).reverse.idxOf z)).map V.str))=HA at *
           walk_at "vs"
           intro p2 hp2
           have sB:=au (.lst [.str z]) hp2
           have eB:upd HA p2 (.lst [.str z]) p2=some (.lst [.str z]):=ak
           replace eA:=sB _ _ eA
           replace sA:=sA.trans sB
           generalize upd HA p2 (.lst [.str z])=HB at *
           have hcl:(((x::q0).reverse.drop ((x::q0).reverse.idxOf z)).map V.str).length+[V.str z].length<=sizeLine:=Nat.le_of_lt (bD (by show _+1<=1000;omega))
           walk_at "vs"
           intro p3 hp3
           have eCC:((x::q0).reverse.drop ((x::q0).reverse.idxOf z)).map V.str++[V.str z]=(eU (x::q0) z).map V.str:=by
            unfold eU
            rw[List.map_append];rfl
           rw[eCC]
           have sC:=au (.lst ((eU (x::q0) z).map V.str)) hp3
           have eC:upd HB p3 (.lst ((eU (x::q0) z).map V.str)) p3=some (.lst ((eU (x::q0) z).map V.str)):=ak
           replace sA:=sA.trans sC
           generalize upd HB p3 (.lst ((eU (x::q0) z).map V.str))=HC at *
           walk_at "vs"
           intro t ht
           have sD:=au (.tup [.str "ring", .ref p3]) ht
           have et:upd HC t (.tup [.str "ring", .ref p3]) t=some (.tup [.str "ring", .ref p3]):=ak
           replace eC:=sD _ _ eC
           replace sA:=sA.trans sD
           have ek1:=sA _ _ ek
           have ho1:=cx.ho.same sA
           generalize upd HC t (.tup [.str "ring", .ref p3])=HD at *
           have dp:=ye ek1 (.ref t)
           walk_at "vs"
           exact⟨.inr ⟨_,_, .ring (eU (x::q0) z),t,rfl,fun y o hy e=>(ao (fun w=>hy (by simp[W4.all,w]))).trans (sA _ _ e),⟨_,jk.refl _,herr⟩,ak,ErT.updk (e:= .ring (eU (x::q0) z)) ⟨p3,et,eC⟩ ek1,ho1.updk ek1 cx.n5.1 cx.n6.1⟩⟩
          ·have hin:=Wm (z:=z) (cs:=p.reverse) (fun w=>hzp (List.mem_reverse.mp w))
           have hfl:=Fe p.reverse
           have hpl:=cx.plen
           cases f with
           | zero=>omega
           | succ f=>
             have hsz:(p.reverse.map V.str).length<sizeLine:=by rw[List.length_map,List.length_reverse];exact bD (by omega)
             have eop:p.reverse.map V.str++[V.str z]=(z::p).reverse.map V.str:=by simp
             walk_at "vs"
             rw[hin]
             walk_at "vs"
             intro rl2 h2
             rw[eop] at h2
             rw[eop]
             obtain⟨b3,cx2⟩:=cx.begin hkz hgz hrz hzp h2
             have h20:H rl2=none:=by
              by_cases w:rl2=A.op
              ·rw[w,ak] at h2;cases h2
              ·rwa [ao w] at h2
             have nr2:∀{y:Addr}{o:HO},H y=some o->y≠rl2:=fun e w=>by rw[w,h20] at e;cases e
             have nko:wk≠A.op:=fun w=>by rw[<-w,ek] at ep;cases ep
             have nrk:rl≠wk/\rl≠A.wd:=⟨fun w=>(by have:=cx.er;rw[w,ek] at this;cases this),fun w=>(by have:=cx.er;rw[w,ew] at this;cases this)⟩
             have nco:c≠A.op:=fun w=>by rw[w,ep] at ec;cases ec
             have ek1:upd (upd H A.op (.lst ((z::p).reverse.map V.str))) rl2 (.lst []) wk=some (.dK (wkD A rl .non)):=(ao (nr2 ek)).trans ((ao nko).trans ek)
             have dp:=qJ ek1 rl2
             have ec3:=b3 _ _ (by simp[cx.n6.1,nco]) ec
             have dc3:cD (upd (upd (upd H A.op (.lst ((z::p).reverse.map V.str))) rl2 (.lst [])) wk (.dK (wkD A rl2 .non))) c (.str z) (some (.ref bz)):=hbz▸cD.k (k:= .inr z) ec3
             have t3:jg H (upd (upd (upd H A.op (.lst ((z::p).reverse.map V.str))) rl2 (.lst [])) wk (.dK (wkD A rl2 .non))):=cx.tups b3 (fun y hy=>by
              have:y=wk\/y=A.op:=by simpa using hy
              rcases this with rfl | rfl
              ·exact cx.sx _ gC.1
              ·exact cx.sx _ gC.2.2.1)
             have ajx:=hRz.tups t3
             have ajy:=b3 _ _ (by simp[nrk.1,Ne.symm cx.n3]) cx.er
             walk_at "vs"
             generalize upd (upd (upd H A.op (.lst ((z::p).reverse.map V.str))) rl2 (.lst [])) wk (.dK (wkD A rl2 .non))=H3 at *
             have ok4:=cx.k4.o z r hrz
             have bto:∀{H9:Hp},But (A.all wk rl2) H3 H9->But (A.all wk rl) H H9:=fun b9 y o hy e=>b9 y o (fun w=>by
              have:y=wk\/y=A.wd\/y=A.op\/y=A.td\/y=rl2:=by simpa [W4.all] using w
              rcases this with rfl | rfl | rfl | rfl | rfl
              ·exact hy gC.1
              ·exact hy gC.2.1
              ·exact hy gC.2.2.1
              ·exact hy gC.2.2.2.1
              ·exact nr2 e rfl) (b3 y o (fun w=>by
              have:y=wk\/y=A.op:=by simpa using w
              rcases this with rfl | rfl
              ·exact hy gC.1
              ·exact hy gC.2.2.1) e)
             have ent:=Qx (od:=od) cx.un (ct hkz) hzp
             refine Wo4.run (x:=z) (p:=p) (r:=r) rfl cx2 hrz ajx ok4.d (adq ok4.t) (fun kn' y _ he=>he) (by show 14<=p.length+1+f;omega) ?_ ?_
             ·intro v kn1 od1 rm1 ps2 H4 b4 cx4 le4 m4 ajz bt4
              rw[List.nil_append] at cx4
              have ek4:=cx4.ek
              obtain⟨kw4,ws4,ew4,kk4,hv4⟩:=id cx4.ew
              obtain⟨ts,et4,_⟩:=id cx4.et
              have ep4:H4 A.op=some (.lst (p.reverse.map V.str++[.str z])):=by rw[eop];exact cx4.ep
              have er4:=cx4.er
              obtain⟨hz1,hz2,_⟩:=cx4.un z (by simp)
              have ajA:=b4 _ _ (by simp[W4.all,nrk.1,nrk.2,Ne.symm cx.n3,Ne.symm cx.n4,nr2 cx.er]) ajy
              have nwo:A.wd≠A.op:=fun w=>by rw[w,ep4] at ew4;cases ew4
              have nto:A.td≠A.wd:=fun w=>by rw[w,ew4] at et4;cases et4
              have ntk:A.td≠wk:=fun w=>by rw[w,ek4] at et4;cases et4
              have nro:rl2≠A.wd:=fun w=>by rw[w,ew4] at er4;cases er4
              have ew5:upd H4 A.op (.lst (p.reverse.map V.str)) A.wd=some (.dK kw4):=(ao nwo).trans ew4
              have ek5:upd H4 A.op (.lst (p.reverse.map V.str)) wk=some (.dK (wkD A rl2 .non)):=(ao nko).trans ek4
              have dp5:lD (upd H4 A.op (.lst (p.reverse.map V.str))) A.wd (.str z) (.int v) (upd (upd H4 A.op (.lst (p.reverse.map V.str))) A.wd (.dK (putK kw4 (.inr z) (.int v)))):=lD.k (k:= .inr z) ew5 (bD (Nat.le_trans (cx4.kl kk4 hv4) (by decide)))
              have ek6:upd (upd H4 A.op (.lst (p.reverse.map V.str))) A.wd (.dK (putK kw4 (.inr z) (.int v))) wk=some (.dK (wkD A rl2 .non)):=(ao cx.n1).trans ek5
              have er6:upd (upd H4 A.op (.lst (p.reverse.map V.str))) A.wd (.dK (putK kw4 (.inr z) (.int v))) rl2=some (.lst (ps2.map fun q=>V.str q.1)):=(ao nro).trans ((ao (Ne.symm cx4.n3)).trans er4)
              have ew6:upd (upd H4 A.op (.lst (p.reverse.map V.str))) A.wd (.dK (putK kw4 (.inr z) (.int v))) A.wd=some (.dK (putK kw4 (.inr z) (.int v))):=ak
              have et6:upd (upd H4 A.op (.lst (p.reverse.map V.str))) A.wd (.dK (putK kw4 (.inr z) (.int v))) A.td=some (.lst (ts.map V.ref)):=(ao nto).trans ((ao (Ne.symm cx.n2)).trans et4)
              have hlast:(p.reverse.map V.str++[V.str z])[(p.reverse.map V.str++[V.str z]).length - 1]? =some (.str z):=by simp
              have hdrop:(p.reverse.map V.str++[V.str z]).dropLast=p.reverse.map V.str:=List.dropLast_concat
              walk_at "vs"
              refine⟨fun σ' H'=>Wr (σ'=[some (.ref wk),some (.str z),some (.ref g),some (.ref c),some (.ref rl),some (.int v)]/\H'=upd H4 A.op (.lst (p.reverse.map V.str))), ?_, ?_⟩
              rotate_left
              ·walk_at "vs"
               exact⟨⟨rfl,by rw[hdrop]⟩⟩
              rintro σ' H5 ⟨⟨rfl,rfl⟩⟩
              walk_at "vs"
              generalize hH6:upd (upd H4 A.op (.lst (p.reverse.map V.str))) A.wd (.dK (putK kw4 (.inr z) (.int v)))=H6 at *
              intro D hD
              have sD:=au (.lst []) hD
              refine Ew (xs:=ps2.map fun q=>V.str q.1) (fun i σ' H'=>Wr ((∃t,σ'=[t,some (.ref wk)])/\aQ H6 H'/\∃as:List Addr,H' D=some (.lst (as.map V.ref))/\as.length=i/\iC H' as (ps2.take i))) ?_ ?_ ?_ ?_
              ·exact⟨⟨none,rfl⟩,sD,[],ak,rfl, .nil⟩
              ·rintro i σ' H' _ ⟨_,S,_⟩
               exact SqL.of (S _ _ er6)
              ·rintro i u σ' Z hu ⟨⟨t,rfl⟩,S,as,eD,hl,is⟩
               obtain⟨q0,hq0,rfl⟩:∃q0,ps2[i]? =some q0/\u=V.str q0.1:=by
                rw[List.getElem?_map] at hu
                cases e:ps2[i]? with
                | none=>rw[e] at hu;cases hu
                | some x=>rw[e] at hu;exact⟨x,rfl,(Option.some.inj hu).symm⟩
               have hqm:=List.mem_of_getElem? hq0
               have hqk:=cx4.row.s q0 hqm
               have hqz:q0.1≠z:=fun w=>by rw[w,hz1] at hqk;cases hqk
               have hil:i<ps2.length:=(List.getElem?_eq_some_iff.mp hq0).1
               have hrl:=cx4.rlen
               have ekZ:=S _ _ ek6
               have dq:cD Z A.wd (.str q0.1) (some (.int q0.2)):=by
                have:=cD.k (k:= .inr q0.1) (S _ _ ew6)
                rw[vK hv4 z v] at this
                unfold Kn.put at this
                rw[if_neg hqz,hqk] at this;exact this
               walk_at "vs"
               intro b5 hb5
               have q_:=au (.tup [.str q0.1, .int q0.2]) hb5
               have eb5:upd Z b5 (.tup [.str q0.1, .int q0.2]) b5=some (.tup (rdV q0)):=ak
               replace S:=S.trans q_
               replace eD:=q_ _ _ eD
               replace is:=is.same q_
               generalize upd Z b5 (.tup [.str q0.1, .int q0.2])=Z1 at *
               have hz:(as.map V.ref).length<sizeLine:=by rw[List.length_map];exact bD (by omega)
               walk_at "vs"
               have tp:jg Z1 (upd Z1 D (.lst (as.map V.ref++[.ref b5]))):=CJ _ eD
               refine⟨⟨_,rfl⟩,oU _ hD S,as++[b5], ?_, ?_, ?_⟩
               ·rw[List.map_append];exact ak
               ·rw[List.length_append,hl];rfl
               ·rw[List.take_add_one,hq0]
                exact iC.snoc (tp _ _ eb5) (is.tups tp)
              ·rintro σ' H7 ⟨_,S,as,eD,hl,is⟩
               rw[List.length_map,List.take_length] at is
               walk_at "vs"
               intro Tt hT
               have s7:=au (.tup [.str z, .ref D]) hT
               have hH3:aQ (upd (upd H4 A.op (.lst (p.reverse.map V.str))) A.wd (.dK (putK kw4 (.inr z) (.int v)))) H7:=by rw[hH6];exact S
               have cl:=C4.close (X:=X) (rl:=rl) (ps0:=ps) (T:=Tt) cx4 hrz ajz ew4 et4 hH3 eD (by rw[hH6];exact hD) is hT ajA (cx.row.le le4) cx.sx cx.n3 cx.n4
               have ek8:upd H7 Tt (.tup [.str z, .ref D]) wk=some (.dK (wkD A rl2 .non)):=s7 _ _ (S _ _ ek6)
               have et8:upd H7 Tt (.tup [.str z, .ref D]) A.td=some (.lst (ts.map V.ref)):=s7 _ _ (S _ _ et6)
               have htz:(ts.map V.ref).length<sizeLine:=by
                rw[List.length_map]
                obtain⟨ts',et',tl'⟩:=cx4.et
                rw[et4] at et'
                have h1:=HO.lst.inj (Option.some.inj et')
                have h2:=congrArg List.length h1
                rw[List.length_map,List.length_map,tl'.1] at h2
                exact bD (by have:=cx4.olen;omega)
               have ek9:upd (upd H7 Tt (.tup [.str z, .ref D])) A.td (.lst (ts.map V.ref++[.ref Tt])) wk=some (.dK (wkD A rl2 .non)):=(ao (Ne.symm ntk)).trans ek8
               have dp9:=qJ ek9 rl
               walk_at "vs"
               obtain⟨bc,cxc,lec,evc⟩:=cl
               have hkx:(kn1.put z v) z=some v:=by unfold Kn.put;rw[if_pos rfl]
               exact⟨.inl ⟨_,_,v,_,_,_,rfl,bto (b4.trans bc),cxc,hkx,le4.trans lec,((ent.trans m4).snoc (Lg hz2 hrz evc) (Fb hz2 hz1 hrz evc)).snoc (zE hkx) (EY (by rw[hkx];simp))⟩⟩
             ·intro n e t H4 b4 ea ek4 er4 ho4 bt4
              have dp4:=qJ ek4 rl
              walk_at "vs"
              refine⟨.inr ⟨_,_,e,t,rfl,fun y o hy e'=>(ao (fun w=>hy (by simp[W4.all,w]))).trans (bto b4 y o hy e'),ea.of ent,ak,er4.updk ek4,ho4.updk ek4 cx.n5.1 cx.n6.1⟩⟩
end
section
variable {P:Program}{w:World}{K:W.Frag}{mg:Str->Option Value}{base:Heap}
theorem Aj {f:Nat}{fa g0:Addr}{fd gd0:FuncData} (bJ:FnT K mg "_law_worth" cC ["walk","recipe"] fa fd)
 (cJ:FnT K mg "_law_look" cV ["walk","name"] g0 gd0) (lQ:aZ P w K mg base CX0 (8 * f+1) g0 gd0 ["walk","name"] (Od f)) (T:Blt mg):∀d,d<=5->aZ P w K mg base CX0 (8 * f+2+d+1) fa fd ["walk","recipe"] (Sv f d)
 | 0,h=>yQ h bJ cJ lQ (never fun vs H Q E h=>h) T
 | d+1,h=>yQ h bJ cJ lQ (Aj bJ cJ lQ T d (by omega)) T
theorem Ea {fa g0:Addr}{fd gd0:FuncData} (bJ:FnT K mg "_law_worth" cC ["walk","recipe"] fa fd)
 (cJ:FnT K mg "_law_look" cV ["walk","name"] g0 gd0) (T:Blt mg):∀f,aZ P w K mg base CX0 (8 * f+1) g0 gd0 ["walk","name"] (Od f)
 | 0=>Ai cJ bJ (never fun vs H Q E h=>h) T
 | f+1=>Ai cJ bJ ((Aj bJ cJ (Ea bJ cJ T f) T 5 (by omega)).mono (by omega)) T
abbrev dU:Stmt:=top 35
theorem um:bU ["house","wishes","walk","name"] ["house","wishes"] (aj dU):=⟨rfl,rfl,rfl,by decide +kernel,rfl,by decide +kernel,by decide +kernel⟩
theorem Cg:Loc (aj dU) "walk":=by decide +kernel
theorem Ac:aF (aj dU) "house":=by decide +kernel
theorem yR:aF (aj dU) "wishes":=by decide +kernel
theorem Ci:Loc (aj dU) "name":=by decide +kernel
theorem u9:GIq dU "_law_look":=by decide +kernel
theorem Cj:aF (aj dU) "name":=by decide +kernel
theorem rN:aF (aj dU) "walk":=by decide +kernel
theorem vd:DBq "_law_look":=by decide +kernel
theorem JD {f g0:Addr}{fd gd0:FuncData} (jm:FnT K mg "_law_walked" dU ["house","wishes"] f fd)
 (cJ:FnT K mg "_law_look" cV ["walk","name"] g0 gd0) (lQ:aZ P w K mg base CX0 113 g0 gd0 ["walk","name"] (Od 14)) (T:Blt mg):aZ P w K mg base CX0 114 f fd ["house","wishes"] abo:=by
 refine jm.F.okQ um (fun vs H Q E h=> ?_) (fun cdv Ar outer s H vs Q E hr h=> ?_)
 ·obtain⟨h,g,c,wl,gs,cs,gv,rc,ws,rfl,_⟩:=h
  rfl
 obtain⟨h,g,c,wl,gs,cs,gv,rc,ws,rfl,ho,k4,ewl,q,qe⟩:=h
 refine⟨_,(az (bV (i:=2) um.nd rfl Cg (KR (lV aC (aa 0 Ac) (lV aC mF (lV aC (dY aq) (lV aC (dY aq) (lV aC (dY aq) (lV aC ni Px))))))))
  (az (HJ PassesOwn.never rfl (zu (aa 1 yR)) (sI (i:=3) um.nd rfl Ci) (aA (fQ (bG (lQ.mono (by omega)) hr u9 cJ.m cJ.F.kp cJ.b .nil cQ (aK (aa 2 rN) (aK (aa 3 Cj) aq)) vd))))
  (aA (bF (aa 2 rN))))), ?_⟩
 walk_at "vs"
 intro wk hwk
 have s0:=au (.dK []) hwk
 have e0:upd H wk (.dK []) wk=some (.dK []):=ak
 generalize upd H wk (.dK [])=H0 at *
 walk_at "vs"
 intro wd hwd
 have s1:=au (.dK []) hwd
 have e1:upd H0 wd (.dK []) wd=some (.dK []):=ak
 have SA:=s0.trans s1
 have adz:=same_none s0 hwd
 have e01:=s1 _ _ e0
 have n1:wk≠wd:=fun z=>by rw[<-z,e0] at hwd;cases hwd
 generalize upd H0 wd (.dK [])=H1 at *
 walk_at "vs"
 intro op hop
 have s3:=au (.lst []) hop
 have e3:upd H1 op (.lst []) op=some (.lst []):=ak
 have ajB:=same_none SA hop
 replace SA:=SA.trans s3
 replace e01:=s3 _ _ e01
 replace e1:=s3 _ _ e1
 generalize upd H1 op (.lst [])=H2 at *
 walk_at "vs"
 intro rl hrl
 have s4:=au (.lst []) hrl
 have e4:upd H2 rl (.lst []) rl=some (.lst []):=ak
 have ajC:=same_none SA hrl
 replace SA:=SA.trans s4
 replace e01:=s4 _ _ e01
 replace e1:=s4 _ _ e1
 have n3:op≠rl:=fun z=>by rw[<-z,e3] at hrl;cases hrl
 replace e3:=s4 _ _ e3
 generalize upd H2 rl (.lst [])=H3 at *
 walk_at "vs"
 intro td htd
 have s5:=au (.lst []) htd
 have e5:upd H3 td (.lst []) td=some (.lst []):=ak
 have ajD:=same_none SA htd
 replace SA:=SA.trans s5
 replace e01:=s5 _ _ e01
 replace e1:=s5 _ _ e1
 have n2:op≠td:=fun z=>by rw[<-z,e3] at htd;cases htd
 have n4:td≠rl:=fun z=>by rw[z,e4] at htd;cases htd
 replace e3:=s5 _ _ e3
 replace e4:=s5 _ _ e4
 generalize upd H3 td (.lst [])=H4 at *
 clear s0 s1 s3 s4 s5
 walk_at "vs"
 refine⟨wkD ⟨h,wd,op,td⟩ rl .non,rfl,by show 6<=15;decide, ?_⟩
 rw[show pP [] (wkD ⟨h,wd,op,td⟩ rl .non)=wkD ⟨h,wd,op,td⟩ rl .non from rfl]
 have S5:=oU (.dK (wkD ⟨h,wd,op,td⟩ rl .non)) hwk SA
 have nk:∀{y:Addr}{o:HO},H4 y=some o->y≠wk->upd H4 wk (.dK (wkD ⟨h,wd,op,td⟩ rl .non)) y=some o:=fun e n=>(ao n).trans e
 have nl:∀{y:Addr},H4 y=some (.lst [])->y≠wk:=fun e z=>by rw[z,e01] at e;cases e
 obtain⟨kg,kc,eh,eg,ec,bd⟩:=id ho
 have cx0:C4 [wk,wd,op,td,rl] wk g c ⟨h,wd,op,td⟩ gs cs gv rc [] kn0 [] (fun _=>none) rl [] (upd H4 wk (.dK (wkD ⟨h,wd,op,td⟩ rl .non))):=
  {ek:=ak
   ho:=ho.same S5
   ew:=⟨[],[],nk e1 (Ne.symm n1),⟨rfl,by simp⟩,fun _=>rfl⟩
   ep:=nk e3 (nl e3)
   et:=⟨[],nk e5 (nl e5),rfl,fun i x hx=>by simp at hx⟩
   er:=nk e4 (nl e4)
   row:=⟨by simp,by simp⟩
   ok:=⟨fun x v e=>(by cases e),fun x r ps v e=>(by cases e)⟩
   om:=fun x=>by simp
   bd:={nd:=List.nodup_nil,kn:=(fun x h=>by cases h),rc:=(fun x h=>by cases h),b:=(fun x v h=>by
    have h:(none:Option Int)=some v:=h
    cases h)}
   n1:=n1
   n2:=n2
   n3:=n3
   n4:=n4
   n5:=⟨fun z=>(by rw[z,hwk] at eg;cases eg),fun z=>(by have:=eg;rw[show g=wd from z,adz] at this;cases this)⟩
   n6:=⟨fun z=>(by rw[z,hwk] at ec;cases ec),fun z=>(by have:=ec;rw[show c=wd from z,adz] at this;cases this)⟩
   un:=fun x hx=>by cases hx
   pn:=List.nodup_nil
   k4:=k4
   xs:=fun z hz=>by
    have:z=wk\/z=wd\/z=op\/z=td\/z=rl:=by simpa using hz
    rcases this with rfl | rfl | rfl | rfl | rfl
    ·exact⟨_,ak,by simp⟩
    ·exact⟨_,nk e1 (Ne.symm n1),by simp⟩
    ·exact⟨_,nk e3 (nl e3),by simp⟩
    ·exact⟨_,nk e5 (nl e5),by simp⟩
    ·exact⟨_,nk e4 (nl e4),by simp⟩
   sx:=fun z hz=>hz}
 have hX:∀z∈[wk,wd,op,td,rl],H z=none:=fun z hz=>by
  have:z=wk\/z=wd\/z=op\/z=td\/z=rl:=by simpa using hz
  rcases this with rfl | rfl | rfl | rfl | rfl
  ·exact hwk
  ·exact adz
  ·exact ajB
  ·exact ajD
  ·exact ajC
 generalize upd H4 wk (.dK (wkD ⟨h,wd,op,td⟩ rl .non))=H5 at *
 clear nk nl SA e01 e1 e3 e4 e5
 have alw:=S5 _ _ ewl
 walk_at "vs"
 refine Ho (xs:=ws.map V.str) (fun i σ' H'=>Wr (∃(t3:Option V),σ'=[some (.ref h),some (.ref wl),some (.ref wk),t3]/\aQ H H'/\((∃(kn:Kn) (od:List Str) (rm:Rm) (ps:List Rdp),C4 [wk,wd,op,td,rl] wk g c ⟨h,wd,op,td⟩ gs cs gv rc [] kn od rm rl ps H'/\mH gv rc (ws.take i) (kn0,[]) (kn,od))\/
  ∃(e:Er) (t:Addr),H' wk=some (.dK (wkD ⟨h,wd,op,td⟩ rl (.ref t)))/\ErT e t H'/\wJ gv rc ws (kn0,[]) e))) ?_ ?_ ?_ ?_
 ·exact⟨⟨_,rfl,S5, .inl ⟨_,_,_,_,cx0,rfl⟩⟩⟩
 ·rintro i σ' H' _ ⟨⟨_,_,S,_⟩⟩
  exact SqL.of (S _ _ ewl)
 ·rintro i v σ' Z hv ⟨⟨t3,rfl,S,hh⟩⟩
  obtain⟨x,hx,rfl⟩:∃x,ws[i]? =some x/\v=V.str x:=by
   rw[List.getElem?_map] at hv
   cases e:ws[i]? with
   | none=>rw[e] at hv;cases hv
   | some x=>rw[e] at hv;exact⟨x,rfl,(Option.some.inj hv).symm⟩
  have ht1:ws.take (i+1)=ws.take i++[x]:=by rw[List.take_add_one,hx];rfl
  rcases hh with⟨kn,od,rm,ps,cx,ru⟩ | ⟨e,t,ek,er,ru⟩
  ·walk_at "vs"
   refine Lo4.run rfl cx (fun _ x' q' hq=>by cases hq) (by show 14<=0+14;decide) ?_ ?_
   ·intro v kn' od' rm' ps2 H' b' cx' hv' le' m' got'
    walk_at "vs"
    refine⟨⟨_,rfl,fK S (fun z hz=>hX z hz) b', .inl ⟨_,_,_,_,cx', ?_⟩⟩⟩
    rw[ht1];exact ru.snoc m'
   ·intro e t H' b' ea ek er ho'
    walk_at "vs"
    obtain⟨tt,hm,he⟩:=ea
    exact⟨⟨_,rfl,fK S (fun z hz=>hX z hz) b', .inr ⟨e,t,ek,er,i,x,(kn,od),tt,hx,ru,hm,he⟩⟩⟩
  ·walk_at "vs"
   refine Lo4.stop rfl ek (ho.same S) ?_
   walk_at "vs"
   exact⟨⟨_,rfl,S, .inr ⟨e,t,ek,er,ru⟩⟩⟩
 ·rintro σ' H' ⟨⟨t3,rfl,S,hh⟩⟩
  rw[List.length_map,List.take_length] at hh
  walk_at "vs"
  rcases hh with⟨kn,od,rm,ps,cx,ru⟩ | ⟨e,t,ek,er,ru⟩
  ·exact q _ wk ⟨h,wd,op,td⟩ rl kn od rm ps H' S rfl hX cx ru
  ·exact qe wk ⟨h,wd,op,td⟩ rl t e H' S ek er ru
end
theorem JF:("ValueError":Str)≠"__name__":=by decide +kernel
section
local macro_rules | `(tactic| walk_at "side") => `(tactic| first | exact qT.lst (by walk_at "heap") | exact ClV.own _ | exact ClV.ty _ | exact Qq | exact Qs)
variable {P:Program}{w:World}{K:W.Frag}{mg:Str->Option Value}{base:Heap}{CM CNo CRi CRd CRc CDd CTx CRw:Addr}
abbrev bN:Stmt:=top 36
theorem yS:bU ["e","kinds"] ["e"] (aj bN):=⟨rfl,rfl,rfl,by decide +kernel,rfl,by decide +kernel,by decide +kernel⟩
theorem yU:Loc (aj bN) "kinds":=by decide +kernel
theorem aR:GIq bN "isinstance":=by decide +kernel
theorem xu:GIq bN "NoText":=by decide +kernel
theorem xx:DBq "NoText":=by decide +kernel
theorem cL:aF (aj bN) "e":=by decide +kernel
theorem aU:("isinstance":Str)≠"__name__":=by decide +kernel
theorem aV:DBq "isinstance":=by decide +kernel
theorem xF:GIq bN "NoDeed":=by decide +kernel
theorem xG:DBq "NoDeed":=by decide +kernel
theorem vf:GIq bN "NoRecord":=by decide +kernel
theorem vg:DBq "NoRecord":=by decide +kernel
theorem xH:GIq bN "NoRead":=by decide +kernel
theorem xJ:DBq "NoRead":=by decide +kernel
theorem yV:aF (aj bN) "kinds":=by decide +kernel
theorem rZ:GIq bN "ValueError":=by decide +kernel
theorem su:DBq "ValueError":=by decide +kernel
theorem yW:GIq bN "NoRow":=by decide +kernel
theorem yX:DBq "NoRow":=by decide +kernel
theorem qw:GIq bN "Ring":=by decide +kernel
theorem qx:DBq "Ring":=by decide +kernel
theorem oO:GIq bN "NoName":=by decide +kernel
theorem oR:DBq "NoName":=by decide +kernel
theorem qy:GIq bN "list":=by decide +kernel
theorem qz:("list":Str)≠"__name__":=by decide +kernel
theorem qC:DBq "list":=by decide +kernel
theorem Jk {f:Addr}{fd:FuncData} (iH:FnT K mg "_law_refusal" bN ["e"] f fd) (rk:RfK K CM CNo CRi CRd CRc CDd CTx CRw)
 (Hg:mg "NoName"=some (.ref CNo)) (Sy:mg "Ring"=some (.ref CRi)) (ZK:mg "NoRead"=some (.ref CRd)) (Uz:mg "NoRecord"=some (.ref CRc)) (ZL:mg "NoDeed"=some (.ref CDd)) (ZM:mg "NoText"=some (.ref CTx)) (adA:mg "NoRow"=some (.ref CRw)) (zVE:mg "ValueError"=none) (kd:Kinds K)
 (T:Blt mg):aZ P w K mg base CX0 1 f fd ["e"] (abm CNo CRi):=by
 refine iH.F.okQ yS (fun vs H Q E h=> ?_) (fun cdv A outer s H vs Q E hr h=> ?_)
 ·obtain⟨p,cls,d,e,rfl,_⟩:=h
  rfl
 obtain⟨p,cls,d,e,rfl,ep,er,q⟩:=h
 obtain⟨kN,kR,nN,nR,eN,eR,N1,N2,N3,N4,N5,NV,NN,NR,R1,R2,R3,R4,R5,RV,RN,RR⟩:=rk
 refine⟨_,(az (bV (i:=1) yS.nd rfl yU (dY (tE (bR mG aR T.cg bK (aK (aa 0 cL) (aK (qD (v:= .ref CRd) xH ZK rfl xJ) aq)) aU aV) (tE (bR mG aR T.cg bK (aK (aa 0 cL) (aK (qD (v:= .ref CRc) vf Uz rfl vg) aq)) aU aV) (tE (bR mG aR T.cg bK (aK (aa 0 cL) (aK (qD (v:= .ref CDd) xF ZL rfl xG) aq)) aU aV) (tE (bR mG aR T.cg bK (aK (aa 0 cL) (aK (qD (v:= .ref CTx) xu ZM rfl xx) aq)) aU aV) aq))))))
  (az (cX (cN Av Hy (bW vG (aa 1 yV) (dY (tE (bR mG aR T.cg bK (aK (aa 0 cL) (aK (qD (v:= .ref CRw) yW adA rfl yX) aq)) aU aV) (ajb (Vy (bR mG aR T.cg bK (aK (aa 0 cL) (aK (nj (v:= .ty "ValueError") rZ zVE Js rfl JF su) aq)) aU aV)) aq)))) rfl) (aA (bF (gF (d9 aC (d9 ni aq))))) bY)
  (az (cX (Cz (Ao (mq (bR mG aR T.cg bK (aK (aa 0 cL) (aK (qD (v:= .ref CNo) oO Hg rfl oR) aq)) aU aV)) (zq (An (mq (bR mG aR T.cg bK (aK (aa 0 cL) (aK (qD (v:= .ref CRi) qw Sy rfl qx) aq)) aU aV)))))) (aA (bF (gF (d9 aC (PJ (Qn (aa 0 cL)) aq))))) bY)
  (az (cX (Cz (Ao (mq (bR mG aR T.cg bK (aK (aa 0 cL) (aK (qD (v:= .ref CRi) qw Sy rfl qx) aq)) aU aV)) (Ao (An (mq (bR mG aR T.cg bK (aK (aa 0 cL) (aK (qD (v:= .ref CNo) oO Hg rfl oR) aq)) aU aV))) (zq (mq (bR tD aR T.cg bK (PJ (Qn (aa 0 cL)) (aK (nj (v:= .ty "list") qy T.Ay vA rfl qz qC) aq)) aU aV)))))) (aA (bF (gF (d9 aC (tE (lW Ax qy T.Ay vA (PJ (Qn (aa 0 cL)) aq) qz qC) aq))))) bY)
  (aA (bF (gF (d9 aC (d9 ni aq))))))))), ?_⟩
 cases e with
 | no y=>
   obtain⟨rfl,dx,rfl,ed⟩:=er
   walk_at "vs"
   intro p1 hp1
   have s1:=au (.lst [V.bl false, .bl false, .bl false, .bl false]) hp1
   have e1:upd H p1 (.lst [V.bl false, .bl false, .bl false, .bl false]) p1=some (.lst [V.bl false, .bl false, .bl false, .bl false]):=ak
   have ep1:=s1 _ _ ep
   have ed1:=s1 _ _ ed
   generalize upd H p1 (.lst [V.bl false, .bl false, .bl false, .bl false])=H1 at *
   walk_at "vs"
   intro p2 hp2
   have s2:=au (.lst [V.bl false, .bl (!true)]) hp2
   have e2:upd H1 p2 (.lst [V.bl false, .bl (!true)]) p2=some (.lst [V.bl false, .bl false]):=ak
   have e12:=s2 _ _ e1
   have ep2:=s2 _ _ ep1
   have ed2:=s2 _ _ ed1
   generalize upd H1 p2 (.lst [V.bl false, .bl (!true)])=H2 at *
   walk_at "vs"
   intro p3 hp3
   have s3:=au (.lst ([V.bl false, .bl false, .bl false, .bl false]++[V.bl false, .bl false])) hp3
   have e3:upd H2 p3 (.lst ([V.bl false, .bl false, .bl false, .bl false]++[V.bl false, .bl false])) p3=some (.lst [V.bl false, .bl false, .bl false, .bl false, .bl false, .bl false]):=ak
   have ep3:=s3 _ _ ep2
   have ed3:=s3 _ _ ed2
   have S4:=s1.trans (s2.trans s3)
   have hin:inV (.bl true) [V.bl false, .bl false, .bl false, .bl false, .bl false, .bl false]=false:=by decide +kernel
   have hfl:[V.bl false, .bl false, .bl false, .bl false, .bl false, .bl false].all p8=true:=by decide +kernel
   generalize upd H2 p3 (.lst ([V.bl false, .bl false, .bl false, .bl false]++[V.bl false, .bl false]))=H3 at *
   walk_at "vs"
   intro t ht
   exact q t _ (S4.trans (au _ ht)) (same_none S4 ht) ak
 | ring zs=>
   obtain⟨rfl,dx,l,rfl,ed,el⟩:=er
   walk_at "vs"
   intro p1 hp1
   have s1:=au (.lst [V.bl false, .bl false, .bl false, .bl false]) hp1
   have e1:upd H p1 (.lst [V.bl false, .bl false, .bl false, .bl false]) p1=some (.lst [V.bl false, .bl false, .bl false, .bl false]):=ak
   have ep1:=s1 _ _ ep
   have ed1:=s1 _ _ ed
   have el1:=s1 _ _ el
   generalize upd H p1 (.lst [V.bl false, .bl false, .bl false, .bl false])=H1 at *
   walk_at "vs"
   intro p2 hp2
   have s2:=au (.lst [V.bl false, .bl (!true)]) hp2
   have e2:upd H1 p2 (.lst [V.bl false, .bl (!true)]) p2=some (.lst [V.bl false, .bl false]):=ak
   have e12:=s2 _ _ e1
   have ep2:=s2 _ _ ep1
   have ed2:=s2 _ _ ed1
   have el2:=s2 _ _ el1
   generalize upd H1 p2 (.lst [V.bl false, .bl (!true)])=H2 at *
   walk_at "vs"
   intro p3 hp3
   have s3:=au (.lst ([V.bl false, .bl false, .bl false, .bl false]++[V.bl false, .bl false])) hp3
   have e3:upd H2 p3 (.lst ([V.bl false, .bl false, .bl false, .bl false]++[V.bl false, .bl false])) p3=some (.lst [V.bl false, .bl false, .bl false, .bl false, .bl false, .bl false]):=ak
   have ep3:=s3 _ _ ep2
   have ed3:=s3 _ _ ed2
   have el3:=s3 _ _ el2
   have S4:=s1.trans (s2.trans s3)
   have hin:inV (.bl true) [V.bl false, .bl false, .bl false, .bl false, .bl false, .bl false]=false:=by decide +kernel
   have hfl:[V.bl false, .bl false, .bl false, .bl false, .bl false, .bl false].all p8=true:=by decide +kernel
   generalize upd H2 p3 (.lst ([V.bl false, .bl false, .bl false, .bl false]++[V.bl false, .bl false]))=H3 at *
   walk_at "vs"
   intro l' hl'
   have s4:=au (.lst (zs.map V.str)) hl'
   have el4:upd H3 l' (.lst (zs.map V.str)) l'=some (.lst (zs.map V.str)):=ak
   generalize upd H3 l' (.lst (zs.map V.str))=H4 at *
   walk_at "vs"
   intro t ht
   have s5:=au (.tup [.str "ring", .ref l']) ht
   exact q t _ (S4.trans (s4.trans s5)) (same_none (S4.trans s4) ht) ⟨l',ak,s5 _ _ el4⟩
abbrev dm:Stmt:=top 37
theorem jT:bU ["ask","house","name","caught","found","e"] ["ask","house","name"] (aj dm):=⟨rfl,rfl,rfl,by decide +kernel,rfl,by decide +kernel,by decide +kernel⟩
theorem rO:Loc (aj dm) "caught":=by decide +kernel
theorem oA:Loc (aj dm) "found":=by decide +kernel
theorem G4:aF (aj dm) "ask":=by decide +kernel
theorem yZ:GIq dm "worth_of":=by decide +kernel
theorem vh:aF (aj dm) "name":=by decide +kernel
theorem sY:aF (aj dm) "house":=by decide +kernel
theorem za:DBq "worth_of":=by decide +kernel
theorem zb:GIq dm "reads_of":=by decide +kernel
theorem zc:DBq "reads_of":=by decide +kernel
theorem JG:(aj dm).names.lookup ("e":Str)=some NameKind.local:=by decide +kernel
theorem xK:GIq dm "MadeError":=by decide +kernel
theorem JH:aF (aj dm) "e":=by decide +kernel
theorem xM:DBq "MadeError":=by decide +kernel
theorem rP:aF (aj dm) "caught":=by decide +kernel
theorem uo:GIq dm "_law_refusal":=by decide +kernel
theorem uq:DBq "_law_refusal":=by decide +kernel
theorem Eb:aF (aj dm) "found":=by decide +kernel
theorem OD {f g0 g1 g2:Addr}{fd gd0 gd1 gd2:FuncData} (gw:FnT K mg "_law_told" dm ["ask","house","name"] f fd) (rk:RfK K CM CNo CRi CRd CRc CDd CTx CRw)
 (lN:FnT K mg "worth_of" iU ["house","name"] g0 gd0) (Qz:aZ P w K mg base (CXd P w) 17 g0 gd0 ["house","name"] (N6 CNo CRi))
 (lO:FnT K mg "reads_of" gK ["house","name"] g2 gd2) (QB:aZ P w K mg base (CXd P w) 17 g2 gd2 ["house","name"] (N7 CNo CRi))
 (iH:FnT K mg "_law_refusal" bN ["e"] g1 gd1) (JK:aZ P w K mg base CX0 1 g1 gd1 ["e"] (abm CNo CRi))
 (rE:mg "MadeError"=some (.ref CM)) (T:Blt mg):aZ P w K mg base CX0 18 f fd ["ask","house","name"] WY:=by
 refine gw.F.okQ jT (fun vs H Q E h=> ?_) (fun cdv A outer s H vs Q E hr h=> ?_)
 ·obtain⟨h,g,c,gs,cs,gv,rc,x,a,rfl,_⟩:=h
  rfl
 obtain⟨h,g,c,gs,cs,gv,rc,x,a,rfl,ho,hsf,q,q1,qe⟩:=h
 have S:=jT
 have eN:=rk.eN
 have eR:=rk.eR
 have exc:∀e cls d H1,wJ gv rc [x] (kn0,[]) e->aQ H H1->Ju CNo CRi e cls d H1->W.exmOne K cls (.ref CM)=some true:=fun e cls d H1 he s1 er=>by
  cases e with
  | no y=>rw[er.1];exact eN
  | ring zs=>rw[er.1];exact eR
 refine⟨_,(az (bV (i:=3) jT.nd rfl rO ni)
  (az (bV (i:=4) jT.nd rfl oA ni)
  (az (ZC (i:=5) rfl rfl rfl jT.nd rfl JG xK rE (fun pn xe E hX=>(aA (cX (cN fU (aa 0 G4) aB (aY _)) (aA (bV (i:=4) jT.nd rfl oA (M9 (Qz.mono (by omega)) hr yZ lN.m lN.F.kp lN.b .nil hX (aK (aa 1 sY) (aK (aa 2 vh) aq)) za))) (aA (bV (i:=4) jT.nd rfl oA (M9 (QB.mono (by omega)) hr zb lO.m lO.F.kp lO.b .nil hX (aK (aa 1 sY) (aK (aa 2 vh) aq)) zc)))))) (fun e=>(aA (bV (i:=3) jT.nd rfl rO (aa 5 JH)))) xM)
  (az (cX (cN xT (aa 3 rP) ni (aY _)) (aA (bF (bG (JK.mono (by omega)) hr uo iH.m iH.F.kp iH.b .nil cQ (aK (aa 3 rP) aq) uq))) bY)
  (aA (bF (aa 4 Eb))))))), ?_⟩
 by_cases ha:a=0
 ·walk_at "vs"
  rw[show decide (V.int a=V.int 0)=true by subst ha;rfl]
  walk_at "vs"
  refine⟨?_, ?_⟩
  ·intro v kn rmN od H1 s1 st ru hk
   walk_at "vs"
   exact q ha v kn rmN od H1 s1 st ru hk
  ·intro e cls d H1 he s1 er
   refine⟨exc e cls d H1 he s1 er,fun p hp=> ?_⟩
   have s2:=au (zK cls d p) hp
   have ep2:upd H1 p (zK cls d p) p=some (zK cls d p):=ak
   have er2:=er.same s2
   generalize upd H1 p (zK cls d p)=H2 at *
   walk_at "vs"
   intro t H3 s3 ht et
   walk_at "vs"
   exact qe e t H3 he (s1.trans (s2.trans s3)) (same_none (s1.trans s2) ht) et
 ·walk_at "vs"
  rw[show decide (V.int a=V.int 0)=false by exact decide_eq_false fun z=>ha (by cases z;rfl)]
  walk_at "vs"
  refine⟨?_, ?_⟩
  ·intro l as ps kn rmN od H1 s1 hl st ru el isr hh
   walk_at "vs"
   exact q1 ha l as ps kn rmN od H1 s1 hl st ru el isr hh
  ·intro e cls d H1 he s1 er
   refine⟨exc e cls d H1 he s1 er,fun p hp=> ?_⟩
   have s2:=au (zK cls d p) hp
   have ep2:upd H1 p (zK cls d p) p=some (zK cls d p):=ak
   have er2:=er.same s2
   generalize upd H1 p (zK cls d p)=H2 at *
   walk_at "vs"
   intro t H3 s3 ht et
   walk_at "vs"
   exact qe e t H3 he (s1.trans (s2.trans s3)) (same_none (s1.trans s2) ht) et
end
section
local macro_rules | `(tactic| walk_at "side") => `(tactic| first | exact Fj (by assumption) | exact Lr (by assumption) | exact Ls (by assumption) | exact qT.lst (by walk_at "heap"))
variable {P:Program}{w:World}{K:W.Frag}{mg:Str->Option Value}{base:Heap}
abbrev bQ:Stmt:=top 38
theorem oE:bU ["house","name","walk","worth","reads","due"] ["house","name"] (aj bQ):=⟨rfl,rfl,rfl,by decide +kernel,rfl,by decide +kernel,by decide +kernel⟩
theorem Ec:Loc (aj bQ) "walk":=by decide +kernel
theorem ur:GIq bQ "_law_walked":=by decide +kernel
theorem jn:aF (aj bQ) "name":=by decide +kernel
theorem j9:aF (aj bQ) "house":=by decide +kernel
theorem uv:DBq "_law_walked":=by decide +kernel
theorem Ck:Loc (aj bQ) "worth":=by decide +kernel
theorem kh:GIq bQ "_law_told":=by decide +kernel
theorem kj:DBq "_law_told":=by decide +kernel
theorem Cm:Loc (aj bQ) "reads":=by decide +kernel
theorem jo:aF (aj bQ) "walk":=by decide +kernel
theorem kE:aF (aj bQ) "reads":=by decide +kernel
theorem kI:aF (aj bQ) "worth":=by decide +kernel
theorem jK:GIq bQ "isinstance":=by decide +kernel
theorem Ed:GIq bQ "bool":=by decide +kernel
theorem Ef:("bool":Str)≠"__name__":=by decide +kernel
theorem Eg:DBq "bool":=by decide +kernel
theorem jL:("isinstance":Str)≠"__name__":=by decide +kernel
theorem jM:DBq "isinstance":=by decide +kernel
theorem FZ:GIq bQ "int":=by decide +kernel
theorem Ga:("int":Str)≠"__name__":=by decide +kernel
theorem Gb:DBq "int":=by decide +kernel
theorem Gd:Loc (aj bQ) "due":=by decide +kernel
theorem vm:aF (aj bQ) "due":=by decide +kernel
theorem Eh:GIq bQ "list":=by decide +kernel
theorem Ei:("list":Str)≠"__name__":=by decide +kernel
theorem Ej:DBq "list":=by decide +kernel
theorem LR {f g0 g1:Addr}{fd gd0 gd1:FuncData} (jU:FnT K mg "_law_right" bQ ["house","name"] f fd) (kd:Kinds K)
 (jm:FnT K mg "_law_walked" dU ["house","wishes"] g0 gd0) (Ma:aZ P w K mg base CX0 114 g0 gd0 ["house","wishes"] abo)
 (gw:FnT K mg "_law_told" dm ["ask","house","name"] g1 gd1) (Cp:aZ P w K mg base CX0 18 g1 gd1 ["ask","house","name"] WY) (T:Blt mg):aZ P w K mg base CX0 115 f fd ["house","name"] W0:=by
 refine jU.F.okQ oE (fun vs H Q E h=> ?_) (fun cdv Ar outer s H vs Q E hr h=> ?_)
 ·obtain⟨h,g,c,gs,cs,gv,rc,x,rfl,_⟩:=h
  rfl
 obtain⟨h,g,c,gs,cs,gv,rc,x,rfl,ho,k4,hx,q⟩:=h
 have hsf:Iw gv rc [x] (kn0,[]):=k4.safe ho (fun y hy=>by rw[show y=x by simpa using hy];exact hx)
 have kii:=kd "int" (by simp[tys]) "int" (by simp[tys])
 have kib:=kd "int" (by simp[tys]) "bool" (by simp[tys])
 have kll:=kd "list" (by simp[tys]) "list" (by simp[tys])
 refine⟨_,(az (bV (i:=2) oE.nd rfl Ec (bG (Ma.mono (by omega)) hr ur jm.m jm.F.kp jm.b .nil cQ (aK (aa 0 j9) (PB (dY (aK (aa 1 jn) aq)) aq)) uv))
  (az (bV (i:=3) oE.nd rfl Ck (bG (Cp.mono (by omega)) hr kh gw.m gw.F.kp gw.b .nil cQ (d9 aB (aK (aa 0 j9) (aK (aa 1 jn) aq))) kj))
  (az (bV (i:=4) oE.nd rfl Cm (bG (Cp.mono (by omega)) hr kh gw.m gw.F.kp gw.b .nil cQ (d9 aB (aK (aa 0 j9) (aK (aa 1 jn) aq))) kj))
  (az (cX (cN xT (aW (bh hr) (aa 2 jo) aC) ni (aY _)) (aA (bF (HF (vB (Bb hr.units) (aa 3 kI) (aW (bh hr) (aa 2 jo) aC) (aY _)) (KQ (vB (Bb hr.units) (aa 4 kE) (aW (bh hr) (aa 2 jo) aC) (aY _)))))) bY)
  (az (cX (Cz (Cy (An (mq (bR tD jK T.cg bK (aK (aa 3 kI) (aK (nj (v:= .ty "int") FZ T.Rr KJ rfl Ga Gb) aq)) jL jM))) (Cy (mq (bR tD jK T.cg bK (aK (aa 3 kI) (aK (nj (v:= .ty "bool") Ed T.VF Rg rfl Ef Eg) aq)) jL jM)) (xR (cN KY (aa 3 kI) (aW (bh hr) (aW (bh hr) (aa 2 jo) aC) (aa 1 jn)) (aY _)))))) (aA (bF Hy)) bY)
  (az (Qw (bV (i:=5) oE.nd rfl Gd (cR fV (bW vG (dY (PB (dY aq) aq)) (CG rfl (n:=2) (fr:=[1]) (N:=["one","some","name"]) (MJ (scX:=aj bQ) (NX:=["house","name","walk","worth","reads","due"]) rfl rfl (by decide +kernel)) (zu (aW (bh hr) (aa 2 jo) aC)) (fun _ _ _ _ _=>(Rv (K:=K) (n:=2) rfl rfl (pF (qgx (i:=0) (show List.Nodup (α:=Str) ["one","some","name"] by decide) (Pu (by decide +kernel))) (pF (qgx (i:=1) (show List.Nodup (α:=Str) ["one","some","name"] by decide) (Pu (by decide +kernel))) G6)))) (fun _ _ _ _ _=>(Vz (cN fU (aa 0 (vz.ok (by decide +kernel))) (aa 2 (vz.ok (by decide +kernel))) (aY _)))) (fun _ _ _ _ _=>(aa 1 (vz.ok (by decide +kernel)))))) (aa3 Rj aB))))
  (az (cX (Cz (Cy (An (mq (bR tD jK T.cg bK (aK (aa 4 kE) (aK (nj (v:= .ty "list") Eh T.Ay vA rfl Ei Ej) aq)) jL jM))) (xR (cN (PK hr.units) (aa 4 kE) (aa 5 vm) (aY _))))) (aA (bF Hy)) bY)
  (az (fQ (qb PySem.F.plainAttrs_list PySem.F.slot_list_append PySem.F.type_list_append iJ (aa 4 kE) (K3 (gF (d9 aC (d9 aB aq))) aq)))
  (aA (bF (vB (Bb hr.units) (bG (Cp.mono (by omega)) hr kh gw.m gw.F.kp gw.b .nil cQ (d9 aB (aK (aa 0 j9) (aK (aa 1 jn) aq))) kj) (aa 5 vm) (aY _)))))))))))), ?_⟩
 walk_at "vs"
 intro w0 hw0
 have q_:=au (.lst [.str x]) hw0
 have ew0:upd H w0 (.lst [.str x]) w0=some (.lst ([x].map V.str)):=ak
 have ho1:=ho.same q_
 have S0:aQ H _:=q_
 generalize upd H w0 (.lst [.str x])=H1 at *
 clear q_
 walk_at "vs"
 refine⟨?_, ?_⟩
 ·intro X wk A rl kn od rm ps H2 s2 hA hX cx ru
  have ho2:=ho1.same s2
  replace S0:=S0.trans s2
  walk_at "vs"
  refine⟨fun _=> ?_,fun w=>absurd rfl w,fun e t H' he=>absurd he (fun he=>Dc ru he)⟩
  intro v kn2 rm2 od2 H3 s3 st2 ru2 hk2
  have ed:=Runs.det ru.runs ru2.runs
  cases ed
  have ho3:=ho2.same s3
  replace S0:=S0.trans s3
  have S03:=S0
  walk_at "vs"
  refine⟨fun _=> ?_,fun e t H' he=>absurd he (fun he=>Dc ru he)⟩
  intro l2 as2 ps2 kn3 rm3 od3 H4 s4 hl2 st3 ru3 el2 is2 hq2
  have ed:=Runs.det ru.runs ru3.runs
  cases ed
  have erm:rm3=rm:=Su rfl st3 cx.ok
  subst erm
  have cx4:=(cx.same s3).same s4
  have ho4:=ho3.same s4
  replace S0:=S0.trans s4
  have ek4:=cx4.ek
  obtain⟨kw,ws,ew,kkw,hvw⟩:=id cx4.ew
  have dw:cD H4 A.wd (.str x) (some (.int v)):=by
   have:=cD.k (k:= .inr x) ew
   rw[hvw,hk2] at this;exact this
  walk_at "vs"
  refine Am (fun c=>absurd c (by simp)) (fun _=> ?_)
  walk_at "vs"
  have S24:=s3.trans s4
  obtain⟨ts,etd,tl⟩:=id cx.et
  have Xi:=S24 _ _ etd
  have hgd:=k4.good ho cx.ok
  have hpg:∀p∈ps2,oG p.1:=fun p hp=>by
   rcases hq2 with⟨r,v',e⟩ | ⟨_,e⟩
   ·exact Qp _ (hgd.1 _ (by rw[(cx.ok.b _ _ _ _ e).2.2.2.2.s p hp];simp))
   ·rw[e] at hp;cases hp
  have hpl:ps2.length<=60:=by
   rcases hq2 with⟨r,v',e⟩ | ⟨_,e⟩
   ·have hrow:=(cx.ok.b _ _ _ _ e).2.2.2.2
    have:=ji hrow.nd (ns:=fL) fun y hy=>by
     obtain⟨q0,hq0,rfl⟩:=List.mem_map.mp hy
     exact hgd.1 _ (by rw[hrow.s q0 hq0];simp)
    rw[List.length_map] at this
    exact Nat.le_trans this (by decide)
   ·rw[e];exact Nat.zero_le _
  refine⟨fun σ' H'=>Wr (∃(dl:Addr) (asd:List Addr),σ'=[some (.ref h),some (.str x),some (.ref wk),some (.int v),some (.ref l2),some (.ref dl)]/\aQ H4 H'/\H' dl=some (.lst (asd.map V.ref))/\iC H' asd ps2/\dl≠l2), ?_, ?_⟩
  rotate_left
  ·walk_at "vs"
   intro e0 he0
   have q_:=au (.lst []) he0
   have ee0:upd H4 e0 (.lst []) e0=some (.lst []):=ak
   have n02:e0≠l2:=fun z=>by rw[<-z,he0] at el2;cases el2
   have S5:aQ H4 _:=q_
   replace ek4:=q_ _ _ ek4
   replace Xi:=q_ _ _ Xi
   generalize upd H4 e0 (.lst [])=H5 at *
   clear q_
   walk_at "vs"
   intro e1 he1
   have q_:=au (.lst [.ref e0]) he1
   have ee1:upd H5 e1 (.lst [.ref e0]) e1=some (.lst [.ref e0]):=ak
   replace S5:=S5.trans q_
   replace ek4:=q_ _ _ ek4
   replace Xi:=q_ _ _ Xi
   replace ee0:=q_ _ _ ee0
   generalize upd H5 e1 (.lst [.ref e0])=H6 at *
   clear q_
   walk_at "vs"
   intro D hD
   have S26:=S24.trans S5
   refine Ew (xs:=ts.map V.ref) (fun i σ' H'=>Wr ((∃t u,σ'=[t,u,some (.str x)])/\aQ H6 H'/\∃rs:List Addr,H' D=some (.lst (rs.map V.ref))/\((x∉od.take i/\rs=[])\/(∃l as r ps' v',rs=[l]/\H6 l=some (.lst (as.map V.ref))/\iC H6 as ps'/\rm3 x=some (r,ps',v')/\l≠l2/\x∈od.take i)))) ?_ ?_ ?_ ?_
   ·exact⟨⟨none,none,rfl⟩,au _ hD,[],ak, .inl ⟨by simp,rfl⟩⟩
   ·rintro i σ' H' _ ⟨_,S,_⟩
    exact SqL.of (S _ _ Xi)
   ·rintro i u σ' Z hu ⟨⟨t1,t2,rfl⟩,S,rs,eD,hrs⟩
    obtain⟨Ti,hTi,rfl⟩:∃Ti,ts[i]? =some Ti/\u=V.ref Ti:=by
     rw[List.getElem?_map] at hu
     cases e:ts[i]? with
     | none=>rw[e] at hu;cases hu
     | some y=>rw[e] at hu;exact⟨y,rfl,(Option.some.inj hu).symm⟩
    have hil:i<od.length:=by rw[<-tl.1];exact(List.getElem?_eq_some_iff.mp hTi).1
    obtain⟨y,hy⟩:∃y,od[i]? =some y:=⟨_,List.getElem?_eq_getElem hil⟩
    obtain⟨T',l,as,r,ps',v',f1,f2,f3,f4,f5,_⟩:=tl.2 i y hy
    rw[hTi] at f1
    cases f1
    have eT:=S _ _ (S26 _ _ f2)
    have htk:od.take (i+1)=od.take i++[y]:=by rw[List.take_add_one,hy];rfl
    have hyn:y∉od.take i:=R6 cx.bd.nd hy (Nat.le_refl _)
    have nl2:l≠l2:=fun z=>by have:=s3 _ _ f3;rw[z,hl2] at this;cases this
    by_cases hyx:y=x
    ·subst hyx
     have hr0:rs=[]:=hrs.elim (fun z=>z.2) fun⟨_,_,_,_,_,_,_,_,_,_,z⟩=>absurd z hyn
     subst hr0
     have hz:(([]:List Addr).map V.ref).length<sizeLine:=bD (by decide)
     walk_at "vs"
     refine Am (fun _=> ?_) (fun c=>absurd (decide_eq_true rfl) c)
     walk_at "vs"
     exact⟨⟨_,_,rfl⟩,oU _ hD S,[l],ak, .inr ⟨l,as,r,ps',v',rfl,S26 _ _ f3,f4.same S26,f5,nl2,by rw[htk];simp⟩⟩
    ·walk_at "vs"
     refine Am (fun c=>absurd (V.str.inj (of_decide_eq_true c)) hyx) (fun _=> ?_)
     refine⟨⟨_,_,rfl⟩,S,rs,eD, ?_⟩
     rcases hrs with⟨z1,z2⟩ | ⟨l',as',r'',ps'',v'',z1,z2,z3,z4,z5,z6⟩
     ·refine .inl ⟨fun w=> ?_,z2⟩
      rw[htk] at w
      rcases List.mem_append.mp w with w | w
      ·exact z1 w
      ·exact hyx (show x=y by simpa using w).symm
     ·exact .inr ⟨l',as',r'',ps'',v'',z1,z2,z3,z4,z5,by rw[htk];exact List.mem_append_left _ z6⟩
   ·rintro σ' Z ⟨_,S,rs,eD,hrs⟩
    rw[List.length_map,tl.1,List.take_length] at hrs
    have alx:=S _ _ ee1
    have hcat:[V.ref e0].length+(rs.map V.ref).length<=sizeLine:=by
     refine Nat.le_of_lt (bD ?_)
     rcases hrs with⟨_,rfl⟩ | ⟨_,_,_,_,_,rfl,_⟩
     ·show 1+0<=1000;decide
     ·show 1+1<=1000;decide
    rcases hrs with⟨z1,rfl⟩ | ⟨l,as,r,ps',v',rfl,z2,z3,z4,z5,z6⟩
    ·have hrx:rm3 x=none:=by
      cases e:rm3 x with
      | none=>rfl
      | some q0=>exact absurd ((cx.om x).mpr (by rw[e];simp)) z1
     have hp0:ps2=[]:=by
      rcases hq2 with⟨r,v',e⟩ | ⟨_,e⟩
      ·rw[hrx] at e;cases e
      ·exact e
     subst hp0
     walk_at "vs"
     intro e2 he2
     have q2:=au (.lst ([V.ref e0]++([]:List Addr).map V.ref)) he2
     have ee2:upd Z e2 (.lst ([V.ref e0]++([]:List Addr).map V.ref)) e2=some (.lst [V.ref e0]):=ak
     have eeZ:=q2 _ _ (S _ _ ee0)
     have hat:atI [V.ref e0] (-1)=some (.ref e0):=rfl
     have S6:=S5.trans (S.trans q2)
     generalize upd Z e2 (.lst ([V.ref e0]++([]:List Addr).map V.ref))=Z2 at *
     walk_at "vs"
     exact⟨⟨e0,[],rfl,S6,eeZ, .nil,n02⟩⟩
    ·have hp0:ps'=ps2:=by
      rcases hq2 with⟨r0,v0,e⟩ | ⟨e,_⟩
      ·rw[z4] at e;cases e;rfl
      ·rw[z4] at e;cases e
     subst hp0
     walk_at "vs"
     intro e2 he2
     have q2:=au (.lst ([V.ref e0]++[l].map V.ref)) he2
     have ee2:upd Z e2 (.lst ([V.ref e0]++[l].map V.ref)) e2=some (.lst [V.ref e0,V.ref l]):=ak
     have elZ:=q2 _ _ (S _ _ z2)
     have isZ:=(z3.same S).same q2
     have hat:atI [V.ref e0,V.ref l] (-1)=some (.ref l):=rfl
     have S6:=S5.trans (S.trans q2)
     generalize upd Z e2 (.lst ([V.ref e0]++[l].map V.ref))=Z2 at *
     walk_at "vs"
     exact⟨⟨l,as,rfl,S6,elZ,isZ,z5⟩⟩
  rintro σ' H5 ⟨⟨dl,asd,rfl,s5,edl,isd,nd⟩⟩
  have el5:=s5 _ _ el2
  have is5:=is2.same s5
  have dt1:pD K H5 (.ref l2) (.list (ps2.map rdD)):= .lst (SqL.of el5) (uB is5)
  have dt2:pD K H5 (.ref dl) (.list (ps2.map rdD)):= .lst (SqL.of edl) (uB isd)
  have dsh:=Qd hpg
  have ho5:=ho4.same s5
  have S5:=S0.trans s5
  walk_at "vs"
  intro pa hpa
  have q_:=au (.tup [.str "a", .int 1]) hpa
  have epa:upd H5 pa (.tup [.str "a", .int 1]) pa=some (.tup [.str "a", .int 1]):=ak
  replace el5:=q_ _ _ el5
  replace edl:=q_ _ _ edl
  replace isd:=isd.same q_
  replace ho5:=ho5.same q_
  replace S5:=S5.trans q_
  generalize upd H5 pa (.tup [.str "a", .int 1])=H6 at *
  clear q_ dt1 dt2
  have hz:(as2.map V.ref).length<sizeLine:=by rw[List.length_map,is2.length];exact bD (by omega)
  have tp:jg H6 (upd H6 l2 (.lst (as2.map V.ref++[.ref pa]))):=CJ _ el5
  have ajE:H l2=none:=by
   refine same_none ?_ hl2
   exact S03
  have S6:=oU (.lst (as2.map V.ref++[.ref pa])) ajE S5
  obtain⟨kg,kc,eh,eg,ec,bd⟩:=id ho5
  have ho6:iK (upd H6 l2 (.lst (as2.map V.ref++[.ref pa]))) h g c gs cs gv rc:=⟨kg,kc,tp _ _ eh,(ao (fun z=>by rw[z,el5] at eg;cases eg)).trans eg,(ao (fun z=>by rw[z,el5] at ec;cases ec)).trans ec,bd.tups tp⟩
  replace edl:=(ao (o:= .lst (as2.map V.ref++[.ref pa])) nd).trans edl
  replace isd:=isd.tups tp
  walk_at "vs"
  generalize upd H6 l2 (.lst (as2.map V.ref++[.ref pa]))=H7 at *
  refine⟨fun _=> ?_,fun e t H' he=>absurd he (fun he=>Dc ru he)⟩
  intro l3 as3 ps3 kn4 rm4 od4 H8 s8 hl3 st4 ru4 el3 is3 hq3
  have ed:=Runs.det ru.runs ru4.runs
  cases ed
  have erm:rm4=rm3:=Su rfl st4 cx.ok
  subst erm
  have ep3:ps3=ps2:=by
   rcases hq3 with⟨r,v',e⟩ | ⟨e,e2⟩
   ·rcases hq2 with⟨r',v'',e'⟩ | ⟨e',_⟩
    ·rw[e] at e';cases e';rfl
    ·rw[e] at e';cases e'
   ·rcases hq2 with⟨r',v'',e'⟩ | ⟨e',e2'⟩
    ·rw[e] at e';cases e'
    ·rw[e2,e2']
  subst ep3
  have dt1:pD K H8 (.ref l3) (.list (ps3.map rdD)):= .lst (SqL.of el3) (uB is3)
  have dt2:pD K H8 (.ref dl) (.list (ps3.map rdD)):= .lst (SqL.of (s8 _ _ edl)) (uB (isd.same s8))
  walk_at "vs"
  exact q _ (S6.trans s8)
 ·intro wk A rl t e H2 s2 ek er ru
  have ho2:=ho1.same s2
  replace S0:=S0.trans s2
  have eok:adn e:=Uu (NS:=yc) (fun y r hr=>(k4.o y r hr).i) Xb hx ru
  have dsh:=Us eok
  walk_at "vs"
  refine⟨fun _ v2 kn2 rm2 od2 H3 s3 st2 ru2=>absurd ru (fun ru=>Dc ru2 ru),fun w=>absurd rfl w, ?_⟩
  intro e2 t2 H3 he2 s3 ht2 et2
  have:=Sx ru he2
  subst this
  have ho3:=ho2.same s3
  replace S0:=S0.trans s3
  replace ek:=s3 _ _ ek
  replace er:=er.same s3
  walk_at "vs"
  refine⟨fun _ l2 as2 ps2 kn3 rm3 od3 H4 s4 hl2 st3 ru3=>absurd ru (fun ru=>Dc ru3 ru), ?_⟩
  intro e3 t3 H4 he3 s4 ht3 et3
  have:=Sx ru he3
  subst this
  replace S0:=S0.trans s4
  replace ek:=s4 _ _ ek
  replace er:=er.same s4
  replace et2:=et2.same s4
  have d1:pD K H4 (.ref t2) (erD e):=et2.dat
  have d2:pD K H4 (.ref t) (erD e):=er.dat
  have d3:pD K H4 (.ref t3) (erD e):=et3.dat
  walk_at "vs"
  exact q _ S0
end
section
variable {P:Program}{w:World}{K:W.Frag}{mg:Str->Option Value}{base:Heap}
theorem ZP {H:Hp}{kg kc:List (Key×V)}{gs cs:List Str}{gv:Kn}{rc:Rn} (b:Be H kg kc gs cs gv rc):∀p∈kg,Ez p.2=true:=fun p hp=>by
 obtain⟨k1,v⟩:=p
 have hv:=Ni b.k1 hp
 have hk:k1∈kg.map (·.1):=List.mem_map.mpr ⟨_,hp,rfl⟩
 rw[b.k1.k] at hk
 obtain⟨x,_,rfl⟩:=List.mem_map.mp hk
 rw[b.g] at hv
 cases e:gv x with
 | none=>rw[e] at hv;cases hv
 | some u=>rw[e] at hv;cases hv;rfl
theorem ZQ {H:Hp}{kg kc:List (Key×V)}{gs cs:List Str}{gv:Kn}{rc:Rn} (b:Be H kg kc gs cs gv rc):∀p∈kc,Ez p.2=true:=fun p hp=>by
 obtain⟨k1,v⟩:=p
 have hv:=Ni b.k2 hp
 have hk:k1∈kc.map (·.1):=List.mem_map.mpr ⟨_,hp,rfl⟩
 rw[b.k2.k] at hk
 obtain⟨x,_,rfl⟩:=List.mem_map.mp hk
 cases e:rc x with
 | none=>rw[b.rn x e] at hv;cases hv
 | some u=>
   obtain⟨b',hb',_⟩:=b.r x u e
   rw[hb'] at hv;cases hv;rfl
abbrev m8:Stmt:=top 39
theorem Mf:bU ["script","house","name","handed"] ["script"] (aj m8):=⟨rfl,rfl,rfl,by decide +kernel,rfl,by decide +kernel,by decide +kernel⟩
theorem Mg:Loc (aj m8) "house":=by decide +kernel
theorem Ek:GIq m8 "_law_house":=by decide +kernel
theorem JL:aF (aj m8) "script":=by decide +kernel
theorem El:DBq "_law_house":=by decide +kernel
theorem Em:GIq m8 "_law_names":=by decide +kernel
theorem En:DBq "_law_names":=by decide +kernel
theorem OJ:Loc (aj m8) "name":=by decide +kernel
theorem JM:Loc (aj m8) "handed":=by decide +kernel
theorem Gs:GIq m8 "dict":=by decide +kernel
theorem wD:aF (aj m8) "house":=by decide +kernel
theorem Gu:("dict":Str)≠"__name__":=by decide +kernel
theorem Gv:DBq "dict":=by decide +kernel
theorem Ak:aF (aj m8) "handed":=by decide +kernel
theorem Eo:GIq m8 "_law_right":=by decide +kernel
theorem O1:aF (aj m8) "name":=by decide +kernel
theorem Ep:DBq "_law_right":=by decide +kernel
theorem adB {f g0 g1 g2:Addr}{fd gd0 gd1 gd2:FuncData} (Xj:FnT K mg "law" m8 ["script"] f fd)
 (jR:FnT K mg "_law_house" aG ["script","first"] g0 gd0) (O2:aZ P w K mg base CX0 8 g0 gd0 ["script","first"] (abn K))
 (fP:FnT K mg "_law_names" iG [] g1 gd1) (yP:aZ P w K mg base CX0 1 g1 gd1 [] WN)
 (jU:FnT K mg "_law_right" bQ ["house","name"] g2 gd2) (O3:aZ P w K mg base CX0 115 g2 gd2 ["house","name"] W0)
 (T:Blt mg):aZ P w K mg base CX0 116 f fd ["script"] (Rp K):=by
 refine Xj.F.okQ Mf (fun vs H Q E h=> ?_) (fun cdv A0 outer s H vs Q E hr h=> ?_)
 ·obtain⟨a,ns,rfl,_⟩:=h
  rfl
 obtain⟨a,zs,rfl,hS,h63,q⟩:=h
 refine⟨_,(az (bV (i:=1) Mf.nd rfl Mg (bG (O2.mono (by omega)) hr Ek jR.m jR.F.kp jR.b .nil cQ (aK (aa 0 JL) (d9 aB aq)) El))
  (az (HJ PassesOwn.never rfl (zu (bW vG (qX qZ (MP (yP.mono (by omega)) hr Em fP.m fP.F.kp fP.b .nil cQ En) vC (vD aB)) (dY (d9 aC aq)))) (sI (i:=2) Mf.nd rfl OJ) (az (bV (i:=3) Mf.nd rfl JM (gF (tE (lW Ng Gs T.VG Rh (lq (cR bZ (aa 1 wD) aB) aq) Gu Gv) (tE (lW Ng Gs T.VG Rh (lq (cR bZ (aa 1 wD) aB) aq) Gu Gv) aq))))
  (aA (cX (Cz (Cy (An (mq (bG (O3.mono (by omega)) hr Eo jU.m jU.F.kp jU.b .nil cQ (aK (aa 3 Ak) (aK (aa 2 O1) aq)) Ep))) (xR (cN (Xc hr.u66) (aa 3 Ak) (aa 1 wD) (aY _))))) (aA (bF Hy)) bY))))
  (aA (bF Hy)))), ?_⟩
 walk_at "vs"
 intro h g c gs cs gv rc H1 s1 hh hg hc ngc ho k4
 walk_at "vs"
 intro l0 H2 s2 hl0 el0
 have hcut:Cu (fL.map V.str) none (some 18)=fL.map V.str:=rfl
 walk_at "vs"
 rw[hcut]
 intro l1 hl1
 have q_:=au (.lst (fL.map V.str)) hl1
 have el1:upd H2 l1 (.lst (fL.map V.str)) l1=some (.lst (fL.map V.str)):=ak
 replace s2:=s2.trans q_
 generalize upd H2 l1 (.lst (fL.map V.str))=H3 at *
 clear q_
 walk_at "vs"
 intro l2 hl2
 have q_:=au (.lst [.str "nowhere"]) hl2
 have el2:upd H3 l2 (.lst [.str "nowhere"]) l2=some (.lst [.str "nowhere"]):=ak
 replace s2:=s2.trans q_
 replace el1:=q_ _ _ el1
 generalize upd H3 l2 (.lst [.str "nowhere"])=H4 at *
 clear q_
 have hcat:(fL.map V.str).length+[V.str "nowhere"].length<=sizeLine:=Nat.le_of_lt (bD (by show 18+1<=1000;decide))
 walk_at "vs"
 intro l3 hl3
 have q_:=au (.lst (fL.map V.str++[.str "nowhere"])) hl3
 have el3:upd H4 l3 (.lst (fL.map V.str++[.str "nowhere"])) l3=some (.lst (yc.map V.str)):=by rw[ak];show _=some (HO.lst ((fL++(["nowhere"]:List Str)).map V.str));rw[List.map_append];rfl
 replace s2:=s2.trans q_
 generalize upd H4 l3 (.lst (fL.map V.str++[.str "nowhere"]))=H5 at *
 clear q_ el1 el2
 have ho5:=ho.same s2
 obtain⟨kg,kc,eh,eg,ec,bd⟩:=id ho5
 walk_at "vs"
 refine Ho (xs:=yc.map V.str) (fun i σ' H'=>Wr (∃t2 t3:Option V,σ'=[some (.ref a),some (.ref h),t2,t3]/\aQ H5 H')) ?_ ?_ ?_ ?_
 ·exact⟨⟨_,_,rfl,aQ.refl _⟩⟩
 ·rintro i σ' H' _ ⟨⟨_,_,_,S⟩⟩
  exact SqL.of (S _ _ el3)
 ·rintro i v σ' Z hv ⟨⟨t2,t3,rfl,S⟩⟩
  obtain⟨x,hx,rfl⟩:∃x,yc[i]? =some x/\v=V.str x:=by
   rw[List.getElem?_map] at hv
   cases e:yc[i]? with
   | none=>rw[e] at hv;cases hv
   | some x=>rw[e] at hv;exact⟨x,rfl,(Option.some.inj hv).symm⟩
  have hxm:=List.mem_of_getElem? hx
  have ehZ:=S _ _ eh
  have rdg:Rd Z g (.dK kg):= .inl (S _ _ eg)
  walk_at "vs"
  intro p1 hp1
  have q1:=au (.dK kg) hp1
  have ep1:upd Z p1 (.dK kg) p1=some (.dK kg):=ak
  replace S:=S.trans q1
  generalize upd Z p1 (.dK kg)=Z1 at *
  clear q1 rdg
  replace ehZ:=S _ _ eh
  have rdc:Rd Z1 c (.dK kc):= .inl (S _ _ ec)
  walk_at "vs"
  intro p2 hp2
  have q1:=au (.dK kc) hp2
  have ep2:upd Z1 p2 (.dK kc) p2=some (.dK kc):=ak
  replace S:=S.trans q1
  replace ep1:=q1 _ _ ep1
  generalize upd Z1 p2 (.dK kc)=Z2 at *
  clear q1 rdc
  walk_at "vs"
  intro hd hhd
  have q1:=au (.tup [.ref p1, .ref p2]) hhd
  have ehd:upd Z2 hd (.tup [.ref p1, .ref p2]) hd=some (.tup [.ref p1, .ref p2]):=ak
  replace S:=S.trans q1
  replace ep1:=q1 _ _ ep1
  replace ep2:=q1 _ _ ep2
  generalize upd Z2 hd (.tup [.ref p1, .ref p2])=Z3 at *
  clear q1
  have hoZ:iK Z3 hd p1 p2 gs cs gv rc:=⟨kg,kc,ehd,ep1,ep2,bd.tups (aQ.tups S)⟩
  walk_at "vs"
  intro Z4 s4
  replace S:=S.trans s4
  have v1:Wk K Z4 (.ref p1) (.ref g):= .inl (.inl (.inr ⟨p1,g,kg,rfl,rfl, .inl (s4 _ _ ep1), .inl (S _ _ eg),ZP bd⟩))
  have v2:Wk K Z4 (.ref p2) (.ref c):= .inl (.inl (.inr ⟨p2,c,kc,rfl,rfl, .inl (s4 _ _ ep2), .inl (S _ _ ec),ZQ bd⟩))
  have e1:=s4 _ _ ehd
  have e2:=S _ _ eh
  walk_at "vs"
  exact⟨⟨_,_,rfl,S⟩⟩
 ·rintro σ' H' ⟨⟨t2,t3,rfl,S⟩⟩
  walk_at "vs"
  exact q _
end
theorem jt {K:W.Frag}{h:Heap}{mg:Str->Option Value} (X:K.In h) (G:h.Ns mainGlobals mg) {x:Str}{st:Stmt}{ps:List Str}{f:Addr}{oc:Value}{od an:Option Addr}{osl:Array (Option Value)}{kV doc pm cdv ct:Value}
 (a:W.nsIn K mainGlobals x=some (some (.ref f))) (l:K.lookup f=some ⟨oc,od, .func (W.fnOf x x (bO st) (bC st) (aj st) .none kV doc pm an cdv ct),osl⟩) (c:W.codeIn K cdv x=true) (k:W.keepIn K (.ref f)=true)
 (hb:∀us:List Value,us.length=ps.length->bindArgs (W.fnOf x x (bO st) (bC st) (aj st) .none kV doc pm an cdv ct) ⟨us,[]⟩=pure (ps.zip us)):
 FnT K mg x st ps f (W.fnOf x x (bO st) (bC st) (aj st) .none kV doc pm an cdv ct):=
 ⟨kZ l c k,Binds.all hb,W.mg_of X G a⟩
theorem len0 {p:List Value->Prop} (h:p []) (us:List Value) (hl:us.length=0):p us:=by
 obtain rfl:=List.eq_nil_of_length_eq_zero hl;exact h
theorem UG {p:List Value->Prop} (h:∀x0,p [x0]) (us:List Value) (hl:us.length=1):p us:=by
 match us,hl with |[x0],_=>exact h x0
theorem rQ {p:List Value->Prop} (h:∀x0 x1,p [x0,x1]) (us:List Value) (hl:us.length=2):p us:=by
 match us,hl with |[x0,x1],_=>exact h x0 x1
theorem O4 {p:List Value->Prop} (h:∀x0 x1 x2,p [x0,x1,x2]) (us:List Value) (hl:us.length=3):p us:=by
 match us,hl with |[x0,x1,x2],_=>exact h x0 x1 x2
theorem aly {p:List Value->Prop} (h:∀x0 x1 x2 x3,p [x0,x1,x2,x3]) (us:List Value) (hl:us.length=4):p us:=by
 match us,hl with |[x0,x1,x2,x3],_=>exact h x0 x1 x2 x3
theorem alz {p:List Value->Prop} (h:∀x0 x1 x2 x3 x4,p [x0,x1,x2,x3,x4]) (us:List Value) (hl:us.length=5):p us:=by
 match us,hl with |[x0,x1,x2,x3,x4],_=>exact h x0 x1 x2 x3 x4
theorem alA {p:List Value->Prop} (h:∀x0 x1 x2 x3 x4 x5,p [x0,x1,x2,x3,x4,x5]) (us:List Value) (hl:us.length=6):p us:=by
 match us,hl with |[x0,x1,x2,x3,x4,x5],_=>exact h x0 x1 x2 x3 x4 x5
theorem all_mk {l:W.OpenLaw}{w:World}{K:W.Frag}{h:Heap}{mg:Str->Option Value}{fa f1 f2 f3 f4 f5 f6 f7 f8 f9 f10 f11 f12 f13 f14 f15 f16 f17 f18 f19 f20 f21:Addr} (X:K.In h) (G:h.Ns mainGlobals mg) (hfa:mg "law"=some (.ref fa))
 {od1 an1 od2 an2 od3 an3 od4 an4 od5 an5 od6 an6 od7 an7 od8 an8 od9 an9 ajF ajG ajH ajI ajJ ajK ajL ajM ajN ajO ajP ajQ ajR ajS ajT ajU ajV ajW ajX ajY ajZ aj0 aj1 agi:Option Addr}{sl1 sl2 sl3 sl4 sl5 sl6 sl7 sl8 sl9 aj2 aj3 aj4 aj5 aj6 aj7 aj8 aj9 aka akb akc akd:Array (Option Value)}{oc1 kV1 dc1 pm1 cd1 ct1 oc2 kV2 dc2 pm2 cd2 ct2 oc3 kV3 dc3 pm3 cd3 ct3 oc4 kV4 dc4 pm4 cd4 ct4 oc5 kV5 dc5 pm5 cd5 ct5 oc6 kV6 dc6 pm6 cd6 ct6 oc7 kV7 dc7 pm7 cd7 ct7 oc8 kV8 dc8 pm8 cd8 ct8 oc9 kV9 dc9 pm9 cd9 ct9 ake akf akg akh agj aki akj akk akl akm agk akn ako akp akq akr agl aks akt aku akv akx agm aky akz akA akB akC agn akD akE akF akG akH ago akI akJ akK akL akM agp akN akO akP akQ akR agq akS akT akU akV akW agr akX akY akZ ak0 ak1 ags ak2 ak3 ak4 ak5 ak6 agt ak7 ak8 agu agv agw adC agx:Value}
 (a1:W.nsIn K mainGlobals "joined"=some (some (.ref f1))) (l1:K.lookup f1=some ⟨oc1,od1, .func (W.fnOf "joined" "joined" (bO lG) (bC lG) (aj lG) .none kV1 dc1 pm1 an1 cd1 ct1),sl1⟩) (c1:W.codeIn K cd1 "joined"=true) (k1:W.keepIn K (.ref f1)=true)
 (a2:W.nsIn K mainGlobals "is_whole_number"=some (some (.ref f2))) (l2:K.lookup f2=some ⟨oc2,od2, .func (W.fnOf "is_whole_number" "is_whole_number" (bO cM) (bC cM) (aj cM) .none kV2 dc2 pm2 an2 cd2 ct2),sl2⟩) (c2:W.codeIn K cd2 "is_whole_number"=true) (k2:W.keepIn K (.ref f2)=true)
 (a3:W.nsIn K mainGlobals "is_same"=some (some (.ref f3))) (l3:K.lookup f3=some ⟨oc3,od3, .func (W.fnOf "is_same" "is_same" (bO eZ) (bC eZ) (aj eZ) .none kV3 dc3 pm3 an3 cd3 ct3),sl3⟩) (c3:W.codeIn K cd3 "is_same"=true) (k3:W.keepIn K (.ref f3)=true)
 (a4:W.nsIn K mainGlobals "searched"=some (some (.ref f4))) (l4:K.lookup f4=some ⟨oc4,od4, .func (W.fnOf "searched" "searched" (bO eX) (bC eX) (aj eX) .none kV4 dc4 pm4 an4 cd4 ct4),sl4⟩) (c4:W.codeIn K cd4 "searched"=true) (k4:W.keepIn K (.ref f4)=true)
 (a5:W.nsIn K mainGlobals "worth_of"=some (some (.ref f5))) (l5:K.lookup f5=some ⟨oc5,od5, .func (W.fnOf "worth_of" "worth_of" (bO iU) (bC iU) (aj iU) .none kV5 dc5 pm5 an5 cd5 ct5),sl5⟩) (c5:W.codeIn K cd5 "worth_of"=true) (k5:W.keepIn K (.ref f5)=true)
 (a6:W.nsIn K mainGlobals "reads_of"=some (some (.ref f6))) (l6:K.lookup f6=some ⟨oc6,od6, .func (W.fnOf "reads_of" "reads_of" (bO gK) (bC gK) (aj gK) .none kV6 dc6 pm6 an6 cd6 ct6),sl6⟩) (c6:W.codeIn K cd6 "reads_of"=true) (k6:W.keepIn K (.ref f6)=true)
 (a7:W.nsIn K mainGlobals "_law_cell"=some (some (.ref f7))) (l7:K.lookup f7=some ⟨oc7,od7, .func (W.fnOf "_law_cell" "_law_cell" (bO iV) (bC iV) (aj iV) .none kV7 dc7 pm7 an7 cd7 ct7),sl7⟩) (c7:W.codeIn K cd7 "_law_cell"=true) (k7:W.keepIn K (.ref f7)=true)
 (a8:W.nsIn K mainGlobals "_law_state"=some (some (.ref f8))) (l8:K.lookup f8=some ⟨oc8,od8, .func (W.fnOf "_law_state" "_law_state" (bO iD) (bC iD) (aj iD) .none kV8 dc8 pm8 an8 cd8 ct8),sl8⟩) (c8:W.codeIn K cd8 "_law_state"=true) (k8:W.keepIn K (.ref f8)=true)
 (a9:W.nsIn K mainGlobals "_law_take"=some (some (.ref f9))) (l9:K.lookup f9=some ⟨oc9,od9, .func (W.fnOf "_law_take" "_law_take" (bO dO) (bC dO) (aj dO) .none kV9 dc9 pm9 an9 cd9 ct9),sl9⟩) (c9:W.codeIn K cd9 "_law_take"=true) (k9:W.keepIn K (.ref f9)=true)
 (a10:W.nsIn K mainGlobals "_law_number"=some (some (.ref f10))) (l10:K.lookup f10=some ⟨ake,ajF, .func (W.fnOf "_law_number" "_law_number" (bO fB) (bC fB) (aj fB) .none akf akg akh ajG agj aki),aj2⟩) (c10:W.codeIn K agj "_law_number"=true) (k10:W.keepIn K (.ref f10)=true)
 (a11:W.nsIn K mainGlobals "_law_leaf"=some (some (.ref f11))) (l11:K.lookup f11=some ⟨akj,ajH, .func (W.fnOf "_law_leaf" "_law_leaf" (bO gj) (bC gj) (aj gj) .none akk akl akm ajI agk akn),aj3⟩) (c11:W.codeIn K agk "_law_leaf"=true) (k11:W.keepIn K (.ref f11)=true)
 (a12:W.nsIn K mainGlobals "_law_recipe"=some (some (.ref f12))) (l12:K.lookup f12=some ⟨ako,ajJ, .func (W.fnOf "_law_recipe" "_law_recipe" (bO aL) (bC aL) (aj aL) .none akp akq akr ajK agl aks),aj4⟩) (c12:W.codeIn K agl "_law_recipe"=true) (k12:W.keepIn K (.ref f12)=true)
 (a13:W.nsIn K mainGlobals "_law_names"=some (some (.ref f13))) (l13:K.lookup f13=some ⟨akt,ajL, .func (W.fnOf "_law_names" "_law_names" (bO iG) (bC iG) (aj iG) .none aku akv akx ajM agm aky),aj5⟩) (c13:W.codeIn K agm "_law_names"=true) (k13:W.keepIn K (.ref f13)=true)
 (a14:W.nsIn K mainGlobals "_law_house"=some (some (.ref f14))) (l14:K.lookup f14=some ⟨akz,ajN, .func (W.fnOf "_law_house" "_law_house" (bO aG) (bC aG) (aj aG) .none akA akB akC ajO agn akD),aj6⟩) (c14:W.codeIn K agn "_law_house"=true) (k14:W.keepIn K (.ref f14)=true)
 (a15:W.nsIn K mainGlobals "_law_worth"=some (some (.ref f15))) (l15:K.lookup f15=some ⟨akE,ajP, .func (W.fnOf "_law_worth" "_law_worth" (bO cC) (bC cC) (aj cC) .none akF akG akH ajQ ago akI),aj7⟩) (c15:W.codeIn K ago "_law_worth"=true) (k15:W.keepIn K (.ref f15)=true)
 (a16:W.nsIn K mainGlobals "_law_look"=some (some (.ref f16))) (l16:K.lookup f16=some ⟨akJ,ajR, .func (W.fnOf "_law_look" "_law_look" (bO cV) (bC cV) (aj cV) .none akK akL akM ajS agp akN),aj8⟩) (c16:W.codeIn K agp "_law_look"=true) (k16:W.keepIn K (.ref f16)=true)
 (a17:W.nsIn K mainGlobals "_law_walked"=some (some (.ref f17))) (l17:K.lookup f17=some ⟨akO,ajT, .func (W.fnOf "_law_walked" "_law_walked" (bO dU) (bC dU) (aj dU) .none akP akQ akR ajU agq akS),aj9⟩) (c17:W.codeIn K agq "_law_walked"=true) (k17:W.keepIn K (.ref f17)=true)
 (a18:W.nsIn K mainGlobals "_law_refusal"=some (some (.ref f18))) (l18:K.lookup f18=some ⟨akT,ajV, .func (W.fnOf "_law_refusal" "_law_refusal" (bO bN) (bC bN) (aj bN) .none akU akV akW ajW agr akX),aka⟩) (c18:W.codeIn K agr "_law_refusal"=true) (k18:W.keepIn K (.ref f18)=true)
 (a19:W.nsIn K mainGlobals "_law_told"=some (some (.ref f19))) (l19:K.lookup f19=some ⟨akY,ajX, .func (W.fnOf "_law_told" "_law_told" (bO dm) (bC dm) (aj dm) .none akZ ak0 ak1 ajY ags ak2),akb⟩) (c19:W.codeIn K ags "_law_told"=true) (k19:W.keepIn K (.ref f19)=true)
 (a20:W.nsIn K mainGlobals "_law_right"=some (some (.ref f20))) (l20:K.lookup f20=some ⟨ak3,ajZ, .func (W.fnOf "_law_right" "_law_right" (bO bQ) (bC bQ) (aj bQ) .none ak4 ak5 ak6 aj0 agt ak7),akc⟩) (c20:W.codeIn K agt "_law_right"=true) (k20:W.keepIn K (.ref f20)=true)
 (a21:W.nsIn K mainGlobals "law"=some (some (.ref f21))) (l21:K.lookup f21=some ⟨ak8,aj1, .func (W.fnOf "law" "law" (bO m8) (bC m8) (aj m8) .none agu agv agw agi adC agx),akd⟩) (c21:W.codeIn K adC "law"=true) (k21:W.keepIn K (.ref f21)=true)
 (kd:Kinds K)
 {CK:Addr} (ACK:W.nsIn K mainGlobals "Reckoning"=some (some (.ref CK)))
 {ZR:Addr}{agy agz:Option Addr}{agA:Array (Option Value)}{agB agC agD agE abp agF:Value}
 (ZS:W.findIn K (.ref CK) "__init__"=some (some (.ref ZR))) (ZV:W.isFn K (.ref ZR)=true) (adD:K.lookup ZR=some ⟨agB,agy, .func (W.fnOf "__init__" "Reckoning.__init__" (bO cW) (bC cW) (aj cW) .none agC agD agE agz abp agF),agA⟩) (adE:W.codeIn K abp "Reckoning.__init__"=true) (ZW:W.keepIn K (.ref ZR)=true)
 {ZX:Addr}{agG agH:Option Addr}{agI:Array (Option Value)}{agJ agK agL agM abq agN:Value}
 (adF:W.findIn K (.ref CK) "lacking"=some (some (.ref ZX))) (adG:W.isFn K (.ref ZX)=true) (adH:K.lookup ZX=some ⟨agJ,agG, .func (W.fnOf "lacking" "Reckoning.lacking" (bO cG) (bC cG) (aj cG) .none agK agL agM agH abq agN),agI⟩) (adI:W.codeIn K abq "Reckoning.lacking"=true) (ZZ:W.keepIn K (.ref ZX)=true)
 {Z0:Addr}{agO agP:Option Addr}{agQ:Array (Option Value)}{agR agS agT agU abr agV:Value}
 (adJ:W.findIn K (.ref CK) "go_on"=some (some (.ref Z0))) (adK:W.isFn K (.ref Z0)=true) (adL:K.lookup Z0=some ⟨agR,agO, .func (W.fnOf "go_on" "Reckoning.go_on" (bO aM) (bC aM) (aj aM) .none agS agT agU agP abr agV),agQ⟩) (adM:W.codeIn K abr "Reckoning.go_on"=true) (aaa:W.keepIn K (.ref Z0)=true)
 (adN:W.plainGet K CK Str.empty=true) (adO:W.hasDictIn K CK=true) (adP:W.plainOver K CK=true) (adQ:W.findIn K (.ref CK) "__setattr__"=some (some (.builtin "object.__setattr__"))) (adR:W.makesIn K CK=true) (adS:W.keepIn K (.ref CK)=true)
 (Jl:W.findIn K (.ref CK) "todo"=some none)
 (Ge:W.findIn K (.ref CK) "found"=some none)
 (Gf:W.findIn K (.ref CK) "reads"=some none)
 {CN:Addr} (ACN:W.nsIn K mainGlobals "NamedRecords"=some (some (.ref CN)))
 {aab:Addr}{agW agX:Option Addr}{agY:Array (Option Value)}{agZ ag0 ag1 ag2 abt ag3:Value}
 (aac:W.findIn K (.ref CN) "__init__"=some (some (.ref aab))) (aad:W.isFn K (.ref aab)=true) (adT:K.lookup aab=some ⟨agZ,agW, .func (W.fnOf "__init__" "NamedRecords.__init__" (bO bL) (bC bL) (aj bL) .none ag0 ag1 ag2 agX abt ag3),agY⟩) (adU:W.codeIn K abt "NamedRecords.__init__"=true) (aae:W.keepIn K (.ref aab)=true)
 {aaf:Addr}{ag4 ag5:Option Addr}{ag6:Array (Option Value)}{ag7 ag8 ag9 aha abu ahb:Value}
 (adV:W.findIn K (.ref CN) "records_for"=some (some (.ref aaf))) (adW:W.isFn K (.ref aaf)=true) (adX:K.lookup aaf=some ⟨ag7,ag4, .func (W.fnOf "records_for" "NamedRecords.records_for" (bO aP) (bC aP) (aj aP) .none ag8 ag9 aha ag5 abu ahb),ag6⟩) (adY:W.codeIn K abu "NamedRecords.records_for"=true) (aag:W.keepIn K (.ref aaf)=true)
 {aah:Addr}{ahc ahd:Option Addr}{ahe:Array (Option Value)}{ahf ahg ahh ahi abv ahj:Value}
 (adZ:W.findIn K (.ref CN) "put_made"=some (some (.ref aah))) (ad0:W.isFn K (.ref aah)=true) (ad1:K.lookup aah=some ⟨ahf,ahc, .func (W.fnOf "put_made" "NamedRecords.put_made" (bO cZ) (bC cZ) (aj cZ) .none ahg ahh ahi ahd abv ahj),ahe⟩) (ad2:W.codeIn K abv "NamedRecords.put_made"=true) (aai:W.keepIn K (.ref aah)=true)
 (ad3:W.plainGet K CN Str.empty=true) (ad4:W.hasDictIn K CN=true) (ad5:W.plainOver K CN=true) (ad6:W.findIn K (.ref CN) "__setattr__"=some (some (.builtin "object.__setattr__"))) (ad7:W.makesIn K CN=true) (ad8:W.keepIn K (.ref CN)=true)
 (zf:W.findIn K (.ref CN) "by_name"=some none)
 {CS:Addr} (ACS:W.nsIn K mainGlobals "Settling"=some (some (.ref CS)))
 {aaj:Addr}{ahk ahl:Option Addr}{ahm:Array (Option Value)}{ahn aho ahp ahq abw ahr:Value}
 (aak:W.findIn K (.ref CS) "__init__"=some (some (.ref aaj))) (aal:W.isFn K (.ref aaj)=true) (ad9:K.lookup aaj=some ⟨ahn,ahk, .func (W.fnOf "__init__" "Settling.__init__" (bO cH) (bC cH) (aj cH) .none aho ahp ahq ahl abw ahr),ahm⟩) (aea:W.codeIn K abw "Settling.__init__"=true) (aam:W.keepIn K (.ref aaj)=true)
 {aan:Addr}{ahs aht:Option Addr}{ahu:Array (Option Value)}{ahv ahw ahx ahy abx ahz:Value}
 (aeb:W.findIn K (.ref CS) "lacking"=some (some (.ref aan))) (aec:W.isFn K (.ref aan)=true) (aed:K.lookup aan=some ⟨ahv,ahs, .func (W.fnOf "lacking" "Settling.lacking" (bO bI) (bC bI) (aj bI) .none ahw ahx ahy aht abx ahz),ahu⟩) (aee:W.codeIn K abx "Settling.lacking"=true) (aao:W.keepIn K (.ref aan)=true)
 {aap:Addr}{ahA ahB:Option Addr}{ahC:Array (Option Value)}{ahD ahE ahF ahG aby ahH:Value}
 (aef:W.findIn K (.ref CS) "fit_on"=some (some (.ref aap))) (aeg:W.isFn K (.ref aap)=true) (aeh:K.lookup aap=some ⟨ahD,ahA, .func (W.fnOf "fit_on" "Settling.fit_on" (bO dR) (bC dR) (aj dR) .none ahE ahF ahG ahB aby ahH),ahC⟩) (aei:W.codeIn K aby "Settling.fit_on"=true) (aaq:W.keepIn K (.ref aap)=true)
 {aar:Addr}{ahI ahJ:Option Addr}{ahK:Array (Option Value)}{ahL ahM ahN ahO abz ahP:Value}
 (aej:W.findIn K (.ref CS) "was_reckoned"=some (some (.ref aar))) (aek:W.isFn K (.ref aar)=true) (ael:K.lookup aar=some ⟨ahL,ahI, .func (W.fnOf "was_reckoned" "Settling.was_reckoned" (bO bM) (bC bM) (aj bM) .none ahM ahN ahO ahJ abz ahP),ahK⟩) (aem:W.codeIn K abz "Settling.was_reckoned"=true) (aas:W.keepIn K (.ref aar)=true)
 {aat:Addr}{ahQ ahR:Option Addr}{ahS:Array (Option Value)}{ahT ahU ahV ahW abA ahX:Value}
 (aen:W.findIn K (.ref CS) "new_record"=some (some (.ref aat))) (aeo:W.isFn K (.ref aat)=true) (aep:K.lookup aat=some ⟨ahT,ahQ, .func (W.fnOf "new_record" "Settling.new_record" (bO cP) (bC cP) (aj cP) .none ahU ahV ahW ahR abA ahX),ahS⟩) (aeq:W.codeIn K abA "Settling.new_record"=true) (aau:W.keepIn K (.ref aat)=true)
 (aer:W.plainGet K CS Str.empty=true) (aes:W.hasDictIn K CS=true) (aet:W.plainOver K CS=true) (aeu:W.findIn K (.ref CS) "__setattr__"=some (some (.builtin "object.__setattr__"))) (aev:W.makesIn K CS=true) (aew:W.keepIn K (.ref CS)=true)
 (Cq:W.findIn K (.ref CS) "recipe"=some none)
 (zg:W.findIn K (.ref CS) "fitting"=some none)
 (Gg:W.findIn K (.ref CS) "place"=some none)
 (uw:W.findIn K (.ref CS) "reckoning"=some none)
 {CE:Addr} (ACE:W.nsIn K mainGlobals "Search"=some (some (.ref CE)))
 {aav:Addr}{ahY ahZ:Option Addr}{ah0:Array (Option Value)}{ah1 ah2 ah3 ah4 abB ah5:Value}
 (aaw:W.findIn K (.ref CE) "__init__"=some (some (.ref aav))) (aax:W.isFn K (.ref aav)=true) (aex:K.lookup aav=some ⟨ah1,ahY, .func (W.fnOf "__init__" "Search.__init__" (bO dz) (bC dz) (aj dz) .none ah2 ah3 ah4 ahZ abB ah5),ah0⟩) (aey:W.codeIn K abB "Search.__init__"=true) (aay:W.keepIn K (.ref aav)=true)
 {aaz:Addr}{ah6 ah7:Option Addr}{ah8:Array (Option Value)}{ah9 aia aib aic abC aid:Value}
 (aez:W.findIn K (.ref CE) "begin"=some (some (.ref aaz))) (aeA:W.isFn K (.ref aaz)=true) (aeB:K.lookup aaz=some ⟨ah9,ah6, .func (W.fnOf "begin" "Search.begin" (bO di) (bC di) (aj di) .none aia aib aic ah7 abC aid),ah8⟩) (aeC:W.codeIn K abC "Search.begin"=true) (aaA:W.keepIn K (.ref aaz)=true)
 {aaB:Addr}{aie aif:Option Addr}{aih:Array (Option Value)}{aii aij aik ail abD aim:Value}
 (aeD:W.findIn K (.ref CE) "end"=some (some (.ref aaB))) (aeE:W.isFn K (.ref aaB)=true) (aeF:K.lookup aaB=some ⟨aii,aie, .func (W.fnOf "end" "Search.end" (bO fu) (bC fu) (aj fu) .none aij aik ail aif abD aim),aih⟩) (aeG:W.codeIn K abD "Search.end"=true) (aaC:W.keepIn K (.ref aaB)=true)
 {aaD:Addr}{ain aio:Option Addr}{aip:Array (Option Value)}{aiq air ais ait abE aiu:Value}
 (aeH:W.findIn K (.ref CE) "settle"=some (some (.ref aaD))) (aeI:W.isFn K (.ref aaD)=true) (aeJ:K.lookup aaD=some ⟨aiq,ain, .func (W.fnOf "settle" "Search.settle" (bO bB) (bC bB) (aj bB) .none air ais ait aio abE aiu),aip⟩) (aeK:W.codeIn K abE "Search.settle"=true) (aaE:W.keepIn K (.ref aaD)=true)
 (aeL:W.plainGet K CE Str.empty=true) (aeM:W.hasDictIn K CE=true) (aeN:W.plainOver K CE=true) (aeO:W.findIn K (.ref CE) "__setattr__"=some (some (.builtin "object.__setattr__"))) (aeP:W.makesIn K CE=true) (aeQ:W.keepIn K (.ref CE)=true)
 (Gh:W.findIn K (.ref CE) "given"=some none)
 (zj:W.findIn K (.ref CE) "recipes"=some none)
 (Mh:W.findIn K (.ref CE) "old"=some none)
 (Gi:W.findIn K (.ref CE) "known"=some none)
 (zm:W.findIn K (.ref CE) "settled"=some none)
 (wF:W.findIn K (.ref CE) "reckoned"=some none)
 {CNo:Addr} (aeR:W.nsIn K mainGlobals "NoName"=some (some (.ref CNo)))
 {Xk:Addr}{aiv aiw:Option Addr}{aix:Array (Option Value)}{aiy aiz aiA aiB abF aiC:Value}
 (aeS:W.findIn K (.ref CNo) "__init__"=some (some (.ref Xk)))
 (aaF:W.isFn K (.ref Xk)=true)
 (aeT:K.lookup Xk=some ⟨aiy,aiv, .func (W.fnOf "__init__" "NoName.__init__" (bO dB) (bC dB) (aj dB) .none aiz aiA aiB aiw abF aiC),aix⟩)
 (aeU:W.codeIn K abF "NoName.__init__"=true)
 (aaG:W.keepIn K (.ref Xk)=true)
 {aiD ak9:Str}{aeV:Addr}{aiE abG:List Value}{aiF:List Str}{aeW:List Value}{aiG:Bool}{aeX:Option Bool}{aiH:Option Addr}{aiI aiJ aiK aiL aiM:Option Value}
 (Xl:K.lookup CNo=some (excClassObj aiD ak9 CNo aeV aiE abG true aiF aeW aiG aeX aiH aiI aiJ aiK aiL aiM "ValueError.__new__"))
 (Xm:W.nsOkIn K aeV=true)
 (Xn:W.nsIn K aeV "__init__"=some (some (.ref Xk)))
 (Xo:W.tailIn K [.type "ValueError", .type "Exception", .type "BaseException", .type "object"] abG=true)
 (Xp:W.findIn K (.ref CNo) "__setattr__"=some (some (.builtin "object.__setattr__")))
 (SM:W.findIn K (.ref CNo) "name"=some none)
 {CRi:Addr} (aeY:W.nsIn K mainGlobals "Ring"=some (some (.ref CRi)))
 {Xq:Addr}{aiN aiO:Option Addr}{aiP:Array (Option Value)}{aiQ aiR aiS aiT abH aiU:Value}
 (aeZ:W.findIn K (.ref CRi) "__init__"=some (some (.ref Xq)))
 (aaH:W.isFn K (.ref Xq)=true)
 (ae0:K.lookup Xq=some ⟨aiQ,aiN, .func (W.fnOf "__init__" "Ring.__init__" (bO dG) (bC dG) (aj dG) .none aiR aiS aiT aiO abH aiU),aiP⟩)
 (ae1:W.codeIn K abH "Ring.__init__"=true)
 (aaI:W.keepIn K (.ref Xq)=true)
 {aiV ala:Str}{ae2:Addr}{aiW abI:List Value}{aiX:List Str}{ae3:List Value}{aiY:Bool}{ae4:Option Bool}{aiZ:Option Addr}{ai0 ai1 ai2 ai3 ai4:Option Value}
 (Xr:K.lookup CRi=some (excClassObj aiV ala CRi ae2 aiW abI true aiX ae3 aiY ae4 aiZ ai0 ai1 ai2 ai3 ai4 "ValueError.__new__"))
 (Xu:W.nsOkIn K ae2=true)
 (Xv:W.nsIn K ae2 "__init__"=some (some (.ref Xq)))
 (Xw:W.tailIn K [.type "ValueError", .type "Exception", .type "BaseException", .type "object"] abI=true)
 (Xx:W.findIn K (.ref CRi) "__setattr__"=some (some (.builtin "object.__setattr__")))
 (SN:W.findIn K (.ref CRi) "ring"=some none)
 {CM:Addr} (ACM:W.nsIn K mainGlobals "MadeError"=some (some (.ref CM)))
 (spM:W.specialIn K (.ref CM) "__getattribute__"=some (some (.builtin "type.__getattribute__")))
 (rdM:W.readsIn K CM (.type "type")=true)
 (fcM:W.findCls K (.ref CM) (.type "type") "__init__"=some (.val (.builtin "ValueError.__init__")))
 {CRd:Addr} (ae5:W.nsIn K mainGlobals "NoRead"=some (some (.ref CRd)))
 {CRc:Addr} (ae6:W.nsIn K mainGlobals "NoRecord"=some (some (.ref CRc)))
 {CDd:Addr} (ae7:W.nsIn K mainGlobals "NoDeed"=some (some (.ref CDd)))
 {CTx:Addr} (ae8:W.nsIn K mainGlobals "NoText"=some (some (.ref CTx)))
 {CRw:Addr} (ae9:W.nsIn K mainGlobals "NoRow"=some (some (.ref CRw)))
 (Xy:W.findIn K (.ref CNo) "__getattribute__"=some (some (.builtin "BaseException.__getattribute__")))
 (Xz:W.findIn K (.ref CNo) "__getattr__"=some none)
 (XC:W.findIn K (.ref CNo) "__class__"=some (some (.builtin "object.__class__")))
 (XD:W.mroIn K CNo (.type "BaseException")=some true)
 (XF:W.mroIn K CNo (.type "object")=some true)
 (XH:(W.clsIn K CNo).isSome=true)
 (XJ:W.hasDictIn K CNo=true)
 (XM:W.findIn K (.ref CRi) "__getattribute__"=some (some (.builtin "BaseException.__getattribute__")))
 (XN:W.findIn K (.ref CRi) "__getattr__"=some none)
 (XQ:W.findIn K (.ref CRi) "__class__"=some (some (.builtin "object.__class__")))
 (XR:W.mroIn K CRi (.type "BaseException")=some true)
 (XS:W.mroIn K CRi (.type "object")=some true)
 (XX:(W.clsIn K CRi).isSome=true)
 (X3:W.hasDictIn K CRi=true)
 (eN:W.exmOne K (.ref CNo) (.ref CM)=some true)
 (eR:W.exmOne K (.ref CRi) (.ref CM)=some true)
 (N1:W.kitOne K (.ref CNo) (.ref CRd)=some false)
 (N2:W.kitOne K (.ref CNo) (.ref CRc)=some false)
 (N3:W.kitOne K (.ref CNo) (.ref CDd)=some false)
 (N4:W.kitOne K (.ref CNo) (.ref CTx)=some false)
 (N5:W.kitOne K (.ref CNo) (.ref CRw)=some false)
 (NV:W.kitOne K (.ref CNo) (.type "ValueError")=some true)
 (R1:W.kitOne K (.ref CRi) (.ref CRd)=some false)
 (R2:W.kitOne K (.ref CRi) (.ref CRc)=some false)
 (R3:W.kitOne K (.ref CRi) (.ref CDd)=some false)
 (R4:W.kitOne K (.ref CRi) (.ref CTx)=some false)
 (R5:W.kitOne K (.ref CRi) (.ref CRw)=some false)
 (RV:W.kitOne K (.ref CRi) (.type "ValueError")=some true)
 (NN:W.kitOne K (.ref CNo) (.ref CNo)=some true)
 (NR:W.kitOne K (.ref CNo) (.ref CRi)=some false)
 (RN:W.kitOne K (.ref CRi) (.ref CNo)=some false)
 (RR:W.kitOne K (.ref CRi) (.ref CRi)=some true)
 (zV:W.nsIn K mainGlobals "ValueError"=some none)
 (X4:W.nsIn K mainGlobals "len"=some none)
 (Mi:W.nsIn K mainGlobals "range"=some none)
 (X5:W.nsIn K mainGlobals "str"=some none)
 (X6:W.nsIn K mainGlobals "int"=some none)
 (QC:W.nsIn K mainGlobals "list"=some none)
 (Mj:W.nsIn K mainGlobals "tuple"=some none)
 (wG:W.nsIn K mainGlobals "isinstance"=some none)
 (QD:W.nsIn K mainGlobals "bool"=some none)
 (QF:W.nsIn K mainGlobals "dict"=some none)
 (X7:W.nsIn K mainGlobals "sum"=some none)
 (X8:W.nsIn K mainGlobals "all"=some none)
 (Yb:W.nsIn K mainGlobals "any"=some none)
 (Yc:W.nsIn K mainGlobals "max"=some none)
 (Yd:W.nsIn K mainGlobals "min"=some none)
 (Jm:W.nsIn K mainGlobals "sorted"=some none)
 (Ye:W.nsIn K mainGlobals "set"=some none)
 (zp:W.nsIn K mainGlobals "enumerate"=some none)
 (Yg:W.nsIn K mainGlobals "zip"=some none)
 (Cr:W.nsIn K mainGlobals "reversed"=some none)
 (Yh:W.nsIn K mainGlobals "abs"=some none)
 :∃fd:FuncData,(∀(s:Shared) (v:Value),BindsTo s fd ⟨[v],[]⟩ [("script",v)])/\∀base:Heap,K.In base->base.Ns mainGlobals mg->aZ l.prog w K mg base CX0 116 fa fd ["script"] (Rp K):=by
 have e:=hfa.symm.trans (W.mg_of X G a21)
 cases e
 have pH:FnT K mg "joined" lG ["kind","r","s"] _ _:=jt X G a1 l1 c1 k1 (O4 (fun _ _ _=>rfl))
 have bH:FnT K mg "is_whole_number" cM ["thing"] _ _:=jt X G a2 l2 c2 k2 (UG (fun _=>rfl))
 have gH:FnT K mg "is_same" eZ ["told","thing"] _ _:=jt X G a3 l3 c3 k3 (rQ (fun _ _=>rfl))
 have gJ:FnT K mg "searched" eX ["house","old","wishes"] _ _:=jt X G a4 l4 c4 k4 (O4 (fun _ _ _=>rfl))
 have lN:FnT K mg "worth_of" iU ["house","name"] _ _:=jt X G a5 l5 c5 k5 (rQ (fun _ _=>rfl))
 have lO:FnT K mg "reads_of" gK ["house","name"] _ _:=jt X G a6 l6 c6 k6 (rQ (fun _ _=>rfl))
 have eY:FnT K mg "_law_cell" iV ["script","k"] _ _:=jt X G a7 l7 c7 k7 (rQ (fun _ _=>rfl))
 have jQ:FnT K mg "_law_state" iD ["script","k"] _ _:=jt X G a8 l8 c8 k8 (rQ (fun _ _=>rfl))
 have aD:FnT K mg "_law_take" dO ["state","many"] _ _:=jt X G a9 l9 c9 k9 (rQ (fun _ _=>rfl))
 have dZ:FnT K mg "_law_number" fB ["state"] _ _:=jt X G a10 l10 c10 k10 (UG (fun _=>rfl))
 have gq:FnT K mg "_law_leaf" gj ["state","some"] _ _:=jt X G a11 l11 c11 k11 (rQ (fun _ _=>rfl))
 have aN:FnT K mg "_law_recipe" aL ["state","some","deep"] _ _:=jt X G a12 l12 c12 k12 (O4 (fun _ _ _=>rfl))
 have fP:FnT K mg "_law_names" iG [] _ _:=jt X G a13 l13 c13 k13 (len0 rfl)
 have jR:FnT K mg "_law_house" aG ["script","first"] _ _:=jt X G a14 l14 c14 k14 (rQ (fun _ _=>rfl))
 have bJ:FnT K mg "_law_worth" cC ["walk","recipe"] _ _:=jt X G a15 l15 c15 k15 (rQ (fun _ _=>rfl))
 have cJ:FnT K mg "_law_look" cV ["walk","name"] _ _:=jt X G a16 l16 c16 k16 (rQ (fun _ _=>rfl))
 have jm:FnT K mg "_law_walked" dU ["house","wishes"] _ _:=jt X G a17 l17 c17 k17 (rQ (fun _ _=>rfl))
 have iH:FnT K mg "_law_refusal" bN ["e"] _ _:=jt X G a18 l18 c18 k18 (UG (fun _=>rfl))
 have gw:FnT K mg "_law_told" dm ["ask","house","name"] _ _:=jt X G a19 l19 c19 k19 (O4 (fun _ _ _=>rfl))
 have jU:FnT K mg "_law_right" bQ ["house","name"] _ _:=jt X G a20 l20 c20 k20 (rQ (fun _ _=>rfl))
 have Xj:FnT K mg "law" m8 ["script"] _ _:=jt X G a21 l21 c21 k21 (UG (fun _=>rfl))
 have fM:gO K CK "__init__" "Reckoning.__init__" cW ["self","r"] _ _:=⟨kZ adD adE ZW,Binds.all (rQ (fun _ _=>rfl)),⟨ZS,ZV,ZW⟩⟩
 have eV:gO K CK "lacking" "Reckoning.lacking" cG ["self","known"] _ _:=⟨kZ adH adI ZZ,Binds.all (rQ (fun _ _=>rfl)),⟨adF,adG,ZZ⟩⟩
 have fX:gO K CK "go_on" "Reckoning.go_on" aM ["self","step"] _ _:=⟨kZ adL adM aaa,Binds.all (rQ (fun _ _=>rfl)),⟨adJ,adK,aaa⟩⟩
 have alb:Cls K CK:=⟨adN,adO,adP,adQ⟩
 have yC:Mk K CK _:=⟨adR,ZS,ZV,adS⟩
 have yD:=W.mg_of X G ACK
 have cz:gO K CN "__init__" "NamedRecords.__init__" bL ["self","records"] _ _:=⟨kZ adT adU aae,Binds.all (rQ (fun _ _=>rfl)),⟨aac,aad,aae⟩⟩
 have cO:gO K CN "records_for" "NamedRecords.records_for" aP ["self","name","r"] _ _:=⟨kZ adX adY aag,Binds.all (O4 (fun _ _ _=>rfl)),⟨adV,adW,aag⟩⟩
 have dh:gO K CN "put_made" "NamedRecords.put_made" cZ ["self","record"] _ _:=⟨kZ ad1 ad2 aai,Binds.all (rQ (fun _ _=>rfl)),⟨adZ,ad0,aai⟩⟩
 have alc:Cls K CN:=⟨ad3,ad4,ad5,ad6⟩
 have jC:Mk K CN _:=⟨ad7,aac,aad,ad8⟩
 have jD:=W.mg_of X G ACN
 have gA:gO K CS "__init__" "Settling.__init__" cH ["self","r","records"] _ _:=⟨kZ ad9 aea aam,Binds.all (O4 (fun _ _ _=>rfl)),⟨aak,aal,aam⟩⟩
 have fH:gO K CS "lacking" "Settling.lacking" bI ["self","known"] _ _:=⟨kZ aed aee aao,Binds.all (rQ (fun _ _=>rfl)),⟨aeb,aec,aao⟩⟩
 have gb:gO K CS "fit_on" "Settling.fit_on" dR ["self","worth"] _ _:=⟨kZ aeh aei aaq,Binds.all (rQ (fun _ _=>rfl)),⟨aef,aeg,aaq⟩⟩
 have bA:gO K CS "was_reckoned" "Settling.was_reckoned" bM ["self"] _ _:=⟨kZ ael aem aas,Binds.all (UG (fun _=>rfl)),⟨aej,aek,aas⟩⟩
 have dJ:gO K CS "new_record" "Settling.new_record" cP ["self"] _ _:=⟨kZ aep aeq aau,Binds.all (UG (fun _=>rfl)),⟨aen,aeo,aau⟩⟩
 have ald:Cls K CS:=⟨aer,aes,aet,aeu⟩
 have Bt:Mk K CS _:=⟨aev,aak,aal,aew⟩
 have Bu:=W.mg_of X G ACS
 have gR:gO K CE "__init__" "Search.__init__" dz ["self","house","old"] _ _:=⟨kZ aex aey aay,Binds.all (O4 (fun _ _ _=>rfl)),⟨aaw,aax,aay⟩⟩
 have iT:gO K CE "begin" "Search.begin" di ["self","name"] _ _:=⟨kZ aeB aeC aaA,Binds.all (rQ (fun _ _=>rfl)),⟨aez,aeA,aaA⟩⟩
 have jZ:gO K CE "end" "Search.end" fu ["self","name","settling"] _ _:=⟨kZ aeF aeG aaC,Binds.all (O4 (fun _ _ _=>rfl)),⟨aeD,aeE,aaC⟩⟩
 have iu:gO K CE "settle" "Search.settle" bB ["self","name"] _ _:=⟨kZ aeJ aeK aaE,Binds.all (rQ (fun _ _=>rfl)),⟨aeH,aeI,aaE⟩⟩
 have ale:Cls K CE:=⟨aeL,aeM,aeN,aeO⟩
 have Jf:Mk K CE _:=⟨aeP,aaw,aax,aeQ⟩
 have Jg:=W.mg_of X G ACE
 have T:Blt mg:=⟨W.mg_none_of X G X4,W.mg_none_of X G Mi,W.mg_none_of X G X5,W.mg_none_of X G X6,W.mg_none_of X G QC,W.mg_none_of X G Mj,W.mg_none_of X G wG,W.mg_none_of X G QD,W.mg_none_of X G QF,W.mg_none_of X G X7,W.mg_none_of X G X8,W.mg_none_of X G Yb,W.mg_none_of X G Yc,W.mg_none_of X G Yd,W.mg_none_of X G Jm,W.mg_none_of X G Ye,W.mg_none_of X G zp,W.mg_none_of X G Yg,W.mg_none_of X G Cr,W.mg_none_of X G Yh⟩
 refine⟨W.fnOf "law" "law" (bO m8) (bC m8) (aj m8) .none agu agv agw agi adC agx,fun s v=> .of_eq rfl,fun base _ _=> ?_⟩
 have gU:gO K CNo "__init__" "NoName.__init__" dB ["self","name"] _ _:=⟨kZ aeT aeU aaG,Binds.all (rQ (fun _ _=>rfl)),⟨aeS,aaF,aaG⟩⟩
 have jj:gO K CRi "__init__" "Ring.__init__" dG ["self","ring"] _ _:=⟨kZ ae0 ae1 aaI,Binds.all (rQ (fun _ _=>rfl)),⟨aeZ,aaH,aaI⟩⟩
 have zH:ExI K CNo _:=⟨⟨_,_,_,_,_,_,_,_,_,_,_,_,_,_,_,Xl,Xm,Xn,Xo⟩,Xp⟩
 have Oh:ExI K CRi _:=⟨⟨_,_,_,_,_,_,_,_,_,_,_,_,_,_,_,Xr,Xu,Xv,Xw⟩,Xx⟩
 have cuM:ExU K CM:=⟨spM,rdM,fcM⟩
 have mM:=W.mg_of X G ACM
 have mNo:=W.mg_of X G aeR
 have mRi:=W.mg_of X G aeY
 have NI:=Bs (P:=l.prog) (w:=w) (base:=base) (mg:=mg) gU zH cuM mM SM
 have RI:=Fp (P:=l.prog) (w:=w) (base:=base) (mg:=mg) jj Oh cuM mM SN T
 have rkc:RkC K CK:=⟨alb,Jl,Ge,Gf⟩
 have nrc:NrC K CN:=⟨alc,zf⟩
 have sec:SeC K CS:=⟨ald,Cq,zg,Gg,uw⟩
 have src:SrC K CE:=⟨ale,Gh,zj,Mh,Gi,zm,wF⟩
 have D1:=Uw (P:=l.prog) (w:=w) (base:=base) pH T
 have D2:=wV (P:=l.prog) (w:=w) (base:=base) (mg:=mg) fM rkc
 have D3:=Bh (P:=l.prog) (w:=w) (base:=base) fX pH D1 T rkc
 have D4:=ym (P:=l.prog) (w:=w) (base:=base) eV fX D3 T rkc
 have D5:=Bk (P:=l.prog) (w:=w) (base:=base) bH T kd
 have D6:=Jd (P:=l.prog) (w:=w) (base:=base) gH bH D5 T kd 10
 have D7:=tM (P:=l.prog) (w:=w) (base:=base) (mg:=mg) cz nrc
 have D8:=tQ (P:=l.prog) (w:=w) (base:=base) (mg:=mg) dh
 have D9:=qL (P:=l.prog) (w:=w) (base:=base) cO gH D6 T nrc
 have C1:=yx (P:=l.prog) (w:=w) (base:=base) gA fM D2 yC yD sec
 have C2:=tU (P:=l.prog) (w:=w) (base:=base) bA T sec
 have C3:=Bo (P:=l.prog) (w:=w) (base:=base) (mg:=mg) gb sec
 have C4:=zL (P:=l.prog) (w:=w) (base:=base) fH gb C3 eV D4 T sec rkc
 have C5:=vY (P:=l.prog) (w:=w) (base:=base) dJ bA C2 T sec rkc
 have C6:=Bq (P:=l.prog) (w:=w) (base:=base) (mg:=mg) gR src
 have C7:=GC (P:=l.prog) (w:=w) (base:=base) (CRi:=CRi) iT cO D9 gA C1 Bt Bu gU NI zH aaF mNo T src nrc
 have C8:=JB (P:=l.prog) (w:=w) (base:=base) jZ dJ C5 bA C2 dh D8 T src sec nrc
 have C9:=Fq (P:=l.prog) (w:=w) (base:=base) iu iT C7 fH C4 jZ C8 jj RI Oh aaH mRi T src sec
 have CC:=Oi (P:=l.prog) (w:=w) (base:=base) gJ gR C6 iu C9 Jf Jg T src
 have rk:RfK K CM CNo CRi CRd CRc CDd CTx CRw:=⟨⟨Xy,Xz,XC,XD,XF,XH⟩,⟨XM,XN,XQ,XR,XS,XX⟩,⟨SM,XJ⟩,⟨SN,X3⟩,eN,eR,N1,N2,N3,N4,N5,NV,NN,NR,R1,R2,R3,R4,R5,RV,RN,RR⟩
 have DW:=Ol (P:=l.prog) (w:=w) (base:=base) lN gJ CC cz D7 jC jD T src
 have DR:=Om (P:=l.prog) (w:=w) (base:=base) lO gJ CC cz D7 jC jD T src
 have F1:=Oq (P:=l.prog) (w:=w) (base:=base) eY T
 have F2:=Ly (P:=l.prog) (w:=w) (base:=base) jQ eY F1 T
 have F3:=Ot (P:=l.prog) (w:=w) (base:=base) aD T
 have F4:=JC (P:=l.prog) (w:=w) (base:=base) dZ aD F3 T
 have F5:=Ov (P:=l.prog) (w:=w) (base:=base) gq aD F3 dZ F4 T
 have F6:=Jh (P:=l.prog) (w:=w) (base:=base) aN aD F3 gq F5 T
 have F7:=LK (P:=l.prog) (w:=w) (base:=base) fP T
 have F8:=LQ (P:=l.prog) (w:=w) (base:=base) jR eY F1 jQ F2 aD F3 dZ F4 aN F6 fP F7 T
 have F9:=Ea (P:=l.prog) (w:=w) (base:=base) bJ cJ T 14
 have FA:=JD (P:=l.prog) (w:=w) (base:=base) jm cJ F9 T
 have FB:=Jk (P:=l.prog) (w:=w) (base:=base) iH rk mNo mRi (W.mg_of X G ae5) (W.mg_of X G ae6) (W.mg_of X G ae7) (W.mg_of X G ae8) (W.mg_of X G ae9) (W.mg_none_of X G zV) kd T
 have FC:=OD (P:=l.prog) (w:=w) (base:=base) gw rk lN DW lO DR iH FB mM T
 have FD:=LR (P:=l.prog) (w:=w) (base:=base) jU kd jm FA gw FC T
 exact adB Xj jR F8 fP F7 jU FD T
theorem walk {l:W.OpenLaw}{q:Program}{loose:List Str}{XP:(Str->Option Value)->Heap->Prop}{YP:World->Heap->Prop}{d:DefRec}{K:Params->W.Frag} (hn:l.most=some 63) (hdf:d.params.defaults=[])
 (hY:∀(w:World) (h:Heap),YP w h->(K w.params).In h)
 (F:∀(w:World) (mg:Str->Option Value) (fa:Addr) (h:Heap),(K w.params).In h->h.Ns mainGlobals mg->mg d.name=some (.ref fa)->
   ∃fd:FuncData,(∀(s:Shared) (u:Value),BindsTo s fd ⟨[u],[]⟩ [("script",u)])/\∀base:Heap,(K w.params).In base->base.Ns mainGlobals mg->aZ l.prog w (K w.params) mg base CX0 116 fa fd ["script"] (Rp (K w.params))):
 W.WalkO q loose XP YP l.row.toRowW d [] (fun f vs=>PySem.call f vs):=
 L2.Rc (n:=63) (k:=116) (x:="script") (CX:=fun _=>CX0) (sp:=fun w=>Rp (K w.params)) hn (by decide) hdf ⟨rfl,by decide,by decide⟩ hY F (fun _ _ a ns hl _ hS=>⟨a,ns,rfl,hS,hl,fun _=>rfl⟩) fun _ _ _ _ _ z=>z
end K11
open PySem PySem.W PyProof.Rows
namespace PySem.W.Fast
def tw1313894032713228019:Nat:=0
def tw1397988041226481058:Nat:=0
def tw4600484962945598894:Nat:=0
def tw7051625950411801527:Nat:=0
def tw10870791798003584903:Nat:=0
def tw3567744948520287029:Nat:=0
def tw4144113277880013796:Nat:=0
def tw15915659197818398056:Nat:=0
def tw11997412188320405715:Nat:=0
def tw4868856073300698488:Nat:=0
def tw15969796830540540206:Nat:=0
def tw11273345199698334748:Nat:=0
def tw7943242515666791890:Nat:=0
def tw5175965997957788924:Nat:=0
def tw17240665797664976085:Nat:=0
def tw884349094275481594:Nat:=0
def tw7945732703747713172:Nat:=0
def tw12064002828167168585:Nat:=0
def tw17389798916711914948:Nat:=0
def tw12777670894057761324:Nat:=0
def tw12292662953076212359:Nat:=0
def tw9197281389465590748:Nat:=0
def tw2138502959287447361:Nat:=0
def tw17327532667515867459:Nat:=0
def tw7517292379727029159:Nat:=0
def tw14209018789891248559:Nat:=0
def tw14511804895603241218:Nat:=0
def tw5392148520688511435:Nat:=0
def tw10664880936432984017:Nat:=0
def tw7472485564776804182:Nat:=0
def tw14435990982036999074:Nat:=0
def tw620738734723125835:Nat:=0
def tw6536899399247156892:Nat:=0
def tw15563933066523533450:Nat:=0
def tw8126920827183241586:Nat:=0
def tw4422611184617448146:Nat:=0
def tw13519341091980049833:Nat:=0
def tw9671739384611394739:Nat:=0
def tw16887163827734929414:Nat:=0
def tw2679726325051340350:Nat:=0
def tw4311883253615866981:Nat:=0
def tw13431158804749591013:Nat:=0
def tw5885809877121641489:Nat:=0
def tw3845909990915372462:Nat:=0
def tw2424891445695562282:Nat:=0
def tw7309098203694651568:Nat:=0
def tw1216920931766124782:Nat:=0
def tw6894636730544922160:Nat:=0
def tw1257667915701474017:Nat:=0
def tw10871873023504601457:Nat:=0
def tw9648721164621479810:Nat:=0
def tw18022516362849078201:Nat:=0
def tw17609441865404890940:Nat:=0
def tw12666353922124039611:Nat:=0
def tw3359797422028336144:Nat:=0
def tw10743059390689377425:Nat:=0
def tw16095670083005137690:Nat:=0
def tw12426410032312273950:Nat:=0
def tw12521743598335182738:Nat:=0
def tw13720349942555286306:Nat:=0
def tw5706930754203878091:Nat:=0
def tw18094176647338048276:Nat:=0
def tw17656192910480949362:Nat:=0
def tw1553974454561137745:Nat:=0
def tw12123770391898764906:Nat:=0
def tw9998727497466195644:Nat:=0
def tw6736203366641565847:Nat:=0
def tw1213783741155789244:Nat:=0
def tw6155328193344088165:Nat:=0
def tw16596280388595284134:Nat:=0
def tw9481427194040666423:Nat:=0
def tw2815456735496925298:Nat:=0
def tw11634987201044654853:Nat:=0
def tw7631564771453743947:Nat:=0
def tw10018407718069216471:Nat:=0
def tw3164642682938223062:Nat:=0
def tw6642147459217861700:Nat:=0
def tw7539429381380955905:Nat:=0
def tw13887477760041484728:Nat:=0
def tw12479863046113800911:Nat:=0
def tw1273567276577983656:Nat:=0
def tw16273458865537355456:Nat:=0
def tw2528143017524985911:Nat:=0
def tw10262662814902587982:Nat:=0
def tw16401807102158792244:Nat:=0
def tw6259625361199150051:Nat:=0
def tw8670725766463304514:Nat:=0
def tw3651228977275349286:Nat:=0
def tw409587858314229699:Nat:=0
def tw7962672506379755913:Nat:=0
def tw5430018314655533962:Nat:=0
def tw11456945775357365085:Nat:=0
def tw7466096179508156004:Nat:=0
def tw6380925918677056789:Nat:=0
def tw9267753147144120214:Nat:=0
def tw8478631719332612486:Nat:=0
def tw7315306508964208857:Nat:=0
def tw9377581331402650309:Nat:=0
def tw9296178583007187105:Nat:=0
def tw5194863877483121759:Nat:=0
def tw4564729771118813728:Nat:=0
def tw772688814857410346:Nat:=0
def tw6924082019815627943:Nat:=0
def tw11973337233662428811:Nat:=0
def tw12006739148578715560:Nat:=0
def tw10899493714847516947:Nat:=0
def tw9400897835441716254:Nat:=0
def tw6925381509773525283:Nat:=0
def tw1181492781980586606:Nat:=0
def tw7911543298356157655:Nat:=0
def tw17193967514276026259:Nat:=0
def tw8245184674644194336:Nat:=0
def tw1007687171449281621:Nat:=0
def tw12815050050783296693:Nat:=0
def tw11601216736260535867:Nat:=0
def tw4395509470209075828:Nat:=0
def tw17746639558403817071:Nat:=0
def tw13880728898285354303:Nat:=0
def tw4186155490693318754:Nat:=0
def tw4777992676848728247:Nat:=0
def tw14752041354483615575:Nat:=0
def tw9352697337975212479:Nat:=0
def tw10371732295215256379:Nat:=0
def tw11179885466890468054:Nat:=0
def tw12252053869399372691:Nat:=0
def tw14249716908464339054:Nat:=0
def tw13909029265513827624:Nat:=0
def tw5911950919133162284:Nat:=0
def tw2535466170529084464:Nat:=0
def tw16999325375272275595:Nat:=0
def tw16364755761843506663:Nat:=0
def tw4871343583640800929:Nat:=0
def tw6569656998427331570:Nat:=0
def tw316800803877950920:Nat:=0
def tw13356667777914528736:Nat:=0
def tw2738072747164494481:Nat:=0
def tw9297539914988132076:Nat:=0
def tw382270948691740951:Nat:=0
def tw10860002307712472590:Nat:=0
def tw10042569819405320785:Nat:=0
def tw10179965799634742239:Nat:=0
def tw15554398795301415480:Nat:=0
def tw7583282828531153341:Nat:=0
def tw18044052405971786721:Nat:=0
def tw3541858835550517874:Nat:=0
def tw10982125620835009537:Nat:=0
def tw8701821316082136522:Nat:=0
def tw14583825538889430866:Nat:=0
def tw1568063722178920068:Nat:=0
def tw1391921730939363601:Nat:=0
def tw8984498613331921914:Nat:=0
def tw11848784773054484496:Nat:=0
def tw1036585287256241326:Nat:=0
def tw2617520712700028196:Nat:=0
def tw2083268736883192015:Nat:=0
def tw4076862724753663574:Nat:=0
def tw16860515554289202031:Nat:=0
def tw8903848304585440739:Nat:=0
def tw14189856894448748238:Nat:=0
def tw1022798721788595809:Nat:=0
def tw15141118627895752139:Nat:=0
def tw14210536711554335930:Nat:=0
def tw8985684008399711097:Nat:=0
def tw13012999536510392392:Nat:=0
def tw5024027721115960462:Nat:=0
def tw9713676834167440111:Nat:=0
def tw13629872486713042585:Nat:=0
def tw7923469636941136895:Nat:=0
def tw11102875425882696716:Nat:=0
def tw13256015905387419125:Nat:=0
def tw15529907919358366406:Nat:=0
def tw17809236215591161813:Nat:=0
def tw3557449424503637058:Nat:=0
def tw2393811419703741511:Nat:=0
def tw2938677051666333336:Nat:=0
def tw533867417213313366:Nat:=0
def tw1327522847034825437:Nat:=0
def tw5144702062354099922:Nat:=0
def tw17097888916445837380:Nat:=0
def tw13135511852750586038:Nat:=0
def tw17596647231117409254:Nat:=0
def tw17192929407942942688:Nat:=0
def tw8795288503454180685:Nat:=0
def tw851463228758775351:Nat:=0
def tw7111801779602488999:Nat:=0
def tw7366768523587767670:Nat:=0
def tw10600312102329939287:Nat:=0
def tw2935876482267236774:Nat:=0
def tw17055157397780711191:Nat:=0
def tw16443226445292580738:Nat:=0
def tw11409248088817558711:Nat:=0
def tw15090357184977276865:Nat:=0
def tw7732218323763892812:Nat:=0
def tw1169173566230340889:Nat:=0
def tw1598362424678162538:Nat:=0
def tw15430812557816272575:Nat:=0
def tw9143140295946431904:Nat:=0
def tw1642382525302586886:Nat:=0
def tw16028361102089699376:Nat:=0
def tw12651971929050813863:Nat:=0
def tw17113642449563364738:Nat:=0
def tw12414099672088849806:Nat:=0
def tw2452836875653300753:Nat:=0
def tw6277188123555951405:Nat:=0
def tw5403770444017781639:Nat:=0
def tw8775644872515324911:Nat:=0
def tw9626656076950143318:Nat:=0
def tw14237100848338733021:Nat:=0
def tw8226950847642019996:Nat:=0
def tw7201659261460329868:Nat:=0
def tw6051230897049612720:Nat:=0
def tw10026346675500956325:Nat:=0
def tw16918785466398594290:Nat:=0
def tw11334936762780671645:Nat:=0
def tw5944689101394658326:Nat:=0
def tw10976471540406339125:Nat:=0
def tw808289045342621541:Nat:=0
def tw16449012001326655763:Nat:=0
def tw8149386411034498536:Nat:=0
def tw16114678592869212064:Nat:=0
def tw15014877347297906925:Nat:=0
def tw15725180157925868085:Nat:=0
def tw669253673137895745:Nat:=0
def tw6829622610188162716:Nat:=0
def tw114253483504190355:Nat:=0
def tw5755414259113466959:Nat:=0
def tw380757812298069794:Nat:=0
def tw12334749265641326811:Nat:=0
def tw8305977589257989010:Nat:=0
def tw8936906855660303441:Nat:=0
def tw2513086184084717412:Nat:=0
def tw17192918506314336800:Nat:=0
def tw2263383587862295175:Nat:=0
def tw133408403262694202:Nat:=0
def tw18304236929019905151:Nat:=0
def tw9086257913059002493:Nat:=0
def tw1755917186685353216:Nat:=0
def tw15322960654523138327:Nat:=0
def tw526366008425095100:Nat:=0
def tw2379708676074883622:Nat:=0
def tw4626255785997611112:Nat:=0
def tw4099245054757207786:Nat:=0
def tw11899690940967605730:Nat:=0
def tw17453637177082228925:Nat:=0
def tw9680350402760228236:Nat:=0
def tw6030208309705153675:Nat:=0
def tw16303105368185904104:Nat:=0
def tw2512147993243879340:Nat:=0
def tw11945444358947114993:Nat:=0
def tw9067945245795423643:Nat:=0
def tw2080215239938905202:Nat:=0
def tw3439972438405307871:Nat:=0
def tw9422943534534383187:Nat:=0
def tw5735863443713363175:Nat:=0
def tw14427579979669952922:Nat:=0
def tw10692207002090775056:Nat:=0
def tw18265529190656393483:Nat:=0
def tw16059555973012465727:Nat:=0
def tw11857960214665949038:Nat:=0
def tw4023995243841906096:Nat:=0
def tw12948102136036948177:Nat:=0
def tw13680105637230546190:Nat:=0
def tw3445813326389578539:Nat:=0
def tw6398940437362695573:Nat:=0
def tw15758084416977378754:Nat:=0
def tw17872639555901833527:Nat:=0
def tw17416740693667331473:Nat:=0
def tw11169554718723785792:Nat:=0
def tw10977867012825576868:Nat:=0
def tw15239258173844229548:Nat:=0
def tw8453256143539629396:Nat:=0
def tw278443127886076595:Nat:=0
def tw13460859710622350286:Nat:=0
def tw15604913479069233116:Nat:=0
def tw14116767662696660553:Nat:=0
def tw1008067123271421759:Nat:=0
def tw8263858477685997428:Nat:=0
def tw15274181070428296421:Nat:=0
def tw9859099122316924441:Nat:=0
def tw4946129650145517474:Nat:=0
def tw18212790074909027288:Nat:=0
def tw1996186828580288581:Nat:=0
def tw3385833838254989004:Nat:=0
def tw15369683985340612190:Nat:=0
def tw3719865076236171127:Nat:=0
def tw4965505559549008662:Nat:=0
def tw8755323144404861502:Nat:=0
def tw3985369762293319627:Nat:=0
def tw10427075889865742313:Nat:=0
def tw17738962240006679386:Nat:=0
def tw13617691759381700726:Nat:=0
def tw13896396057300562372:Nat:=0
def tw11962456926714539857:Nat:=0
def tw5869749492097021931:Nat:=0
def tw771843622071679077:Nat:=0
def tw9320584625582464127:Nat:=0
def tw3381161874923433039:Nat:=0
def tw8532412665160326792:Nat:=0
def tw18150121746933333411:Nat:=0
def tw13704917668475334191:Nat:=0
def tw16166643831749567759:Nat:=0
def tw4060520327332589867:Nat:=0
def tw9642904905451915114:Nat:=0
def tw11696837830611314635:Nat:=0
def tw16150864523022997117:Nat:=0
def tw5429055324358873996:Nat:=0
def tw16685867563336679243:Nat:=0
def tw2693221076967079553:Nat:=0
def tw13363610215279257420:Nat:=0
def tw9316304813356090357:Nat:=0
def tw3961136072784449350:Nat:=0
def tw1599290578664423327:Nat:=0
def tw11864788909464987261:Nat:=0
def tw1164391306505613771:Nat:=0
def tw7247529050561665150:Nat:=0
def tw1928347126701283628:Nat:=0
def tw2656569038873738274:Nat:=0
def tw14067827578121806846:Nat:=0
def tw6920393945333459748:Nat:=0
def tw1939496667376805407:Nat:=0
def tw1428461948120227465:Nat:=0
def tw14469932948542316858:Nat:=0
def tw13215299064092874044:Nat:=0
def tw12654216009883730531:Nat:=0
def tw9934535643436540710:Nat:=0
def tw1161732381660472822:Nat:=0
def tw5352677772560203218:Nat:=0
def tw12783728575543226002:Nat:=0
def tw5191545703611793437:Nat:=0
def tw17690654913273290766:Nat:=0
def tw1608471717812519017:Nat:=0
def tw16220701836185646945:Nat:=0
def tw4348638344258390012:Nat:=0
def tw633073338987747604:Nat:=0
def tw1281351242178408112:Nat:=0
def tw13222758428923833326:Nat:=0
def tw10126431535115892726:Nat:=0
def tw13213978091848586790:Nat:=0
def tw6757276049147077593:Nat:=0
def tw13755765474815502595:Nat:=0
def tw11456051742378882463:Nat:=0
def tw16392541160126885048:Nat:=0
def tw2914495767352268479:Nat:=0
def tw11018464187014105991:Nat:=0
def tw6143284587504835597:Nat:=0
def tw18279566559897488119:Nat:=0
def tw14999918813407451868:Nat:=0
def tw12882389722046316098:Nat:=0
def tw4483320277820594984:Nat:=0
def tw10922176543393670756:Nat:=0
def tw14457432160086066378:Nat:=0
def tw805127116046916596:Nat:=0
def tw8056497014609185071:Nat:=0
def tw8540204713873354547:Nat:=0
def tw9681625284723071162:Nat:=0
def tw11318544194435802923:Nat:=0
def tw7246569557767636562:Nat:=0
def tw2394988396517108400:Nat:=0
def tw11921444263961267449:Nat:=0
def tw2013772278075189737:Nat:=0
def tw7810270650439502595:Nat:=0
def tw10497711942500938170:Nat:=0
def tw8491303718185988021:Nat:=0
def tw14747035108435689019:Nat:=0
def tw4971934771076288108:Nat:=0
def tw7607376480679488260:Nat:=0
def tw2745572860509200343:Nat:=0
def tw4904628281175671138:Nat:=0
def tw646156020881875285:Nat:=0
def tw17269567100139415824:Nat:=0
def tw728461292122021024:Nat:=0
def tw3938925360989999826:Nat:=0
def tw5912868266365320200:Nat:=0
def tw11091055695079325742:Nat:=0
def tw850161900510482708:Nat:=0
def tw13412209748547889588:Nat:=0
def tw9824792611055234327:Nat:=0
def tw4421868988891291166:Nat:=0
def tw10626144429239462997:Nat:=0
def tw14207360307104498507:Nat:=0
def tw16229221851223408560:Nat:=0
def tw9140346635401668495:Nat:=0
def tw7913858892323529548:Nat:=0
def tw16144734560558894833:Nat:=0
def tw966754620913785522:Nat:=0
def tw4747408115035234846:Nat:=0
def tw6992477406952353252:Nat:=0
def tw602667196814254423:Nat:=0
def tw15521865611449458590:Nat:=0
def tw13201396285279245623:Nat:=0
def tw9182321107097373401:Nat:=0
def tw11815486533436713577:Nat:=0
def tw8273685913862520478:Nat:=0
def tw18198054927902910093:Nat:=0
def tw4204074726921854398:Nat:=0
def tw17859453374580062024:Nat:=0
def tw15066126899974995539:Nat:=0
def tw11370113285929952491:Nat:=0
def tw15444839335493387782:Nat:=0
def tw15344337417804927511:Nat:=0
def tw18233245115514719518:Nat:=0
def tw17178090528441598326:Nat:=0
def tw15222381244236936251:Nat:=0
def tw8091579153988587025:Nat:=0
def tw14932140604572758718:Nat:=0
def tw3592105265812785440:Nat:=0
def tw13723849602767541743:Nat:=0
def tw5226538385527211010:Nat:=0
def tw3247078340603074615:Nat:=0
def tw5578030275405283753:Nat:=0
def tw12587461655689063121:Nat:=0
def tw1679623456098942938:Nat:=0
def tw14397275501690102021:Nat:=0
def tw6965202637517650330:Nat:=0
def tw5855133568025769425:Nat:=0
def tw14766948833239488800:Nat:=0
def tw8714031055130938750:Nat:=0
def tw5033498749684840183:Nat:=0
def tw3970757720308918227:Nat:=0
def tw9697681326315562804:Nat:=0
def tw15103397004285250569:Nat:=0
def tw12118520535726292951:Nat:=0
def tw18019417159167583047:Nat:=0
def tw16115128349273622269:Nat:=0
def tw2995965017452680461:Nat:=0
def tw5657573254843720887:Nat:=0
def tw15851594382628312268:Nat:=0
def tw17201390092088765738:Nat:=0
def tw15878247899172919659:Nat:=0
def tw3798905876874286839:Nat:=0
def tw11461169127145785144:Nat:=0
def tw6091705569796128290:Nat:=0
def tw5398499595151116594:Nat:=0
def tw633573059094157510:Nat:=0
def tw12362351236848799728:Nat:=0
def tw10516157043687976103:Nat:=0
end PySem.W.Fast
set_option maxRecDepth 100000 in
set_option maxHeartbeats 0 in
theorem PySem.Challenge.cw_madeagain_k11_worths_and_reads_holds : PySem.Challenge.rw_madeagain_k11_worths_and_reads.Holds := by
 w_on;o_law;k_head;(case hw=>w_witness2)
 k_fill
 refine K11.walk (l:=PySem.Challenge.rw_madeagain_k11_worths_and_reads) rfl rfl (fun w h Y=>PySem.W.kIn_of Y) ?F
 case F=>
  intro w mg fa h KX G hmg
  refine' K11.all_mk KX G hmg ?a1 ?l1 ?c1 ?k1 ?a2 ?l2 ?c2 ?k2 ?a3 ?l3 ?c3 ?k3 ?a4 ?l4 ?c4 ?k4 ?a5 ?l5 ?c5 ?k5 ?a6 ?l6 ?c6 ?k6 ?a7 ?l7 ?c7 ?k7 ?a8 ?l8 ?c8 ?k8 ?a9 ?l9 ?c9 ?k9 ?a10 ?l10 ?c10 ?k10 ?a11 ?l11 ?c11 ?k11 ?a12 ?l12 ?c12 ?k12 ?a13 ?l13 ?c13 ?k13 ?a14 ?l14 ?c14 ?k14 ?a15 ?l15 ?c15 ?k15 ?a16 ?l16 ?c16 ?k16 ?a17 ?l17 ?c17 ?k17 ?a18 ?l18 ?c18 ?k18 ?a19 ?l19 ?c19 ?k19 ?a20 ?l20 ?c20 ?k20 ?a21 ?l21 ?c21 ?k21 ?kd ?ACK ?ZS ?ZV ?adD ?adE ?ZW ?adF ?adG ?adH ?adI ?ZZ ?adJ ?adK ?adL ?adM ?aaa ?adN ?adO ?adP ?adQ ?adR ?adS ?Jl ?Ge ?Gf ?ACN ?aac ?aad ?adT ?adU ?aae ?adV ?adW ?adX ?adY ?aag ?adZ ?ad0 ?ad1 ?ad2 ?aai ?ad3 ?ad4 ?ad5 ?ad6 ?ad7 ?ad8 ?zf ?ACS ?aak ?aal ?ad9 ?aea ?aam ?aeb ?aec ?aed ?aee ?aao ?aef ?aeg ?aeh ?aei ?aaq ?aej ?aek ?ael ?aem ?aas ?aen ?aeo ?aep ?aeq ?aau ?aer ?aes ?aet ?aeu ?aev ?aew ?Cq ?zg ?Gg ?uw ?ACE ?aaw ?aax ?aex ?aey ?aay ?aez ?aeA ?aeB ?aeC ?aaA ?aeD ?aeE ?aeF ?aeG ?aaC ?aeH ?aeI ?aeJ ?aeK ?aaE ?aeL ?aeM ?aeN ?aeO ?aeP ?aeQ ?Gh ?zj ?Mh ?Gi ?zm ?wF ?aeR ?aeS ?aaF ?aeT ?aeU ?aaG ?Xl ?Xm ?Xn ?Xo ?Xp ?SM ?aeY ?aeZ ?aaH ?ae0 ?ae1 ?aaI ?Xr ?Xu ?Xv ?Xw ?Xx ?SN ?ACM ?spM ?rdM ?fcM ?ae5 ?ae6 ?ae7 ?ae8 ?ae9 ?Xy ?Xz ?XC ?XD ?XF ?XH ?XJ ?XM ?XN ?XQ ?XR ?XS ?XX ?X3 ?eN ?eR ?N1 ?N2 ?N3 ?N4 ?N5 ?NV ?R1 ?R2 ?R3 ?R4 ?R5 ?RV ?NN ?NR ?RN ?RR ?zV ?X4 ?Mi ?X5 ?X6 ?QC ?Mj ?wG ?QD ?QF ?X7 ?X8 ?Yb ?Yc ?Yd ?Jm ?Ye ?zp ?Yg ?Cr ?Yh
  (case a1=>k_is);(case l1=>k_is);(case c1=>k_is);(case k1=>k_is)
  (case a2=>k_is);(case l2=>k_is);(case c2=>k_is);(case k2=>k_is)
  (case a3=>k_is);(case l3=>k_is);(case c3=>k_is);(case k3=>k_is)
  (case a4=>k_is);(case l4=>k_is);(case c4=>k_is);(case k4=>k_is)
  (case a5=>k_is);(case l5=>k_is);(case c5=>k_is);(case k5=>k_is)
  (case a6=>k_is);(case l6=>k_is);(case c6=>k_is);(case k6=>k_is)
  (case a7=>k_is);(case l7=>k_is);(case c7=>k_is);(case k7=>k_is)
  (case a8=>k_is);(case l8=>k_is);(case c8=>k_is);(case k8=>k_is)
  (case a9=>k_is);(case l9=>k_is);(case c9=>k_is);(case k9=>k_is)
  (case a10=>k_is);(case l10=>k_is);(case c10=>k_is);(case k10=>k_is)
  (case a11=>k_is);(case l11=>k_is);(case c11=>k_is);(case k11=>k_is)
  (case a12=>k_is);(case l12=>k_is);(case c12=>k_is);(case k12=>k_is)
  (case a13=>k_is);(case l13=>k_is);(case c13=>k_is);(case k13=>k_is)
  (case a14=>k_is);(case l14=>k_is);(case c14=>k_is);(case k14=>k_is)
  (case a15=>k_is);(case l15=>k_is);(case c15=>k_is);(case k15=>k_is)
  (case a16=>k_is);(case l16=>k_is);(case c16=>k_is);(case k16=>k_is)
  (case a17=>k_is);(case l17=>k_is);(case c17=>k_is);(case k17=>k_is)
  (case a18=>k_is);(case l18=>k_is);(case c18=>k_is);(case k18=>k_is)
  (case a19=>k_is);(case l19=>k_is);(case c19=>k_is);(case k19=>k_is)
  (case a20=>k_is);(case l20=>k_is);(case c20=>k_is);(case k20=>k_is)
  (case a21=>k_is);(case l21=>k_is);(case c21=>k_is);(case k21=>k_is)
  (case kd=>exact RB.VJ (by kernel_rfl))
  (case ACK=>k_is);(case ZS=>k_is);(case ZV=>k_is);(case adD=>k_is);(case adE=>k_is);(case ZW=>k_is);(case adF=>k_is);(case adG=>k_is);(case adH=>k_is);(case adI=>k_is);(case ZZ=>k_is);(case adJ=>k_is);(case adK=>k_is);(case adL=>k_is);(case adM=>k_is);(case aaa=>k_is);(case adN=>k_is);(case adO=>k_is);(case adP=>k_is);(case adQ=>k_is);(case adR=>k_is);(case adS=>k_is);(case Jl=>k_is);(case Ge=>k_is);(case Gf=>k_is);(case ACN=>k_is);(case aac=>k_is);(case aad=>k_is);(case adT=>k_is);(case adU=>k_is);(case aae=>k_is);(case adV=>k_is);(case adW=>k_is);(case adX=>k_is);(case adY=>k_is);(case aag=>k_is);(case adZ=>k_is);(case ad0=>k_is);(case ad1=>k_is);(case ad2=>k_is);(case aai=>k_is);(case ad3=>k_is);(case ad4=>k_is);(case ad5=>k_is);(case ad6=>k_is);(case ad7=>k_is);(case ad8=>k_is);(case zf=>k_is);(case ACS=>k_is);(case aak=>k_is);(case aal=>k_is);(case ad9=>k_is);(case aea=>k_is);(case aam=>k_is);(case aeb=>k_is);(case aec=>k_is);(case aed=>k_is);(case aee=>k_is);(case aao=>k_is);(case aef=>k_is);(case aeg=>k_is);(case aeh=>k_is);(case aei=>k_is);(case aaq=>k_is);(case aej=>k_is);(case aek=>k_is);(case ael=>k_is);(case aem=>k_is);(case aas=>k_is);(case aen=>k_is);(case aeo=>k_is);(case aep=>k_is);(case aeq=>k_is);(case aau=>k_is);(case aer=>k_is);(case aes=>k_is);(case aet=>k_is);(case aeu=>k_is);(case aev=>k_is);(case aew=>k_is);(case Cq=>k_is);(case zg=>k_is);(case Gg=>k_is);(case uw=>k_is);(case ACE=>k_is);(case aaw=>k_is);(case aax=>k_is);(case aex=>k_is);(case aey=>k_is);(case aay=>k_is);(case aez=>k_is);(case aeA=>k_is);(case aeB=>k_is);(case aeC=>k_is);(case aaA=>k_is);(case aeD=>k_is);(case aeE=>k_is);(case aeF=>k_is);(case aeG=>k_is);(case aaC=>k_is);(case aeH=>k_is);(case aeI=>k_is);(case aeJ=>k_is);(case aeK=>k_is);(case aaE=>k_is);(case aeL=>k_is);(case aeM=>k_is);(case aeN=>k_is);(case aeO=>k_is);(case aeP=>k_is);(case aeQ=>k_is);(case Gh=>k_is);(case zj=>k_is);(case Mh=>k_is);(case Gi=>k_is);(case zm=>k_is);(case wF=>k_is)
  (case aeR=>k_is)
  (case aeS=>k_is)
  (case aaF=>k_is)
  (case aeT=>k_is)
  (case aeU=>k_is)
  (case aaG=>k_is)
  (case Xl=>k_is)
  (case Xm=>kernel_rfl)
  (case Xn=>kernel_rfl)
  (case Xo=>kernel_rfl)
  (case Xp=>kernel_rfl)
  (case SM=>kernel_rfl)
  (case aeY=>k_is)
  (case aeZ=>k_is)
  (case aaH=>k_is)
  (case ae0=>k_is)
  (case ae1=>k_is)
  (case aaI=>k_is)
  (case Xr=>k_is)
  (case Xu=>kernel_rfl)
  (case Xv=>kernel_rfl)
  (case Xw=>kernel_rfl)
  (case Xx=>kernel_rfl)
  (case SN=>kernel_rfl)
  (case ACM=>k_is)
  (case spM=>kernel_rfl)
  (case rdM=>kernel_rfl)
  (case fcM=>kernel_rfl)
  (case ae5=>k_is)
  (case ae6=>k_is)
  (case ae7=>k_is)
  (case ae8=>k_is)
  (case ae9=>k_is)
  (case Xy=>kernel_rfl)
  (case Xz=>kernel_rfl)
  (case XC=>kernel_rfl)
  (case XD=>kernel_rfl)
  (case XF=>kernel_rfl)
  (case XH=>kernel_rfl)
  (case XJ=>kernel_rfl)
  (case XM=>kernel_rfl)
  (case XN=>kernel_rfl)
  (case XQ=>kernel_rfl)
  (case XR=>kernel_rfl)
  (case XS=>kernel_rfl)
  (case XX=>kernel_rfl)
  (case X3=>kernel_rfl)
  (case eN=>kernel_rfl)
  (case eR=>kernel_rfl)
  (case N1=>kernel_rfl)
  (case N2=>kernel_rfl)
  (case N3=>kernel_rfl)
  (case N4=>kernel_rfl)
  (case N5=>kernel_rfl)
  (case NV=>kernel_rfl)
  (case R1=>kernel_rfl)
  (case R2=>kernel_rfl)
  (case R3=>kernel_rfl)
  (case R4=>kernel_rfl)
  (case R5=>kernel_rfl)
  (case RV=>kernel_rfl)
  (case NN=>kernel_rfl)
  (case NR=>kernel_rfl)
  (case RN=>kernel_rfl)
  (case RR=>kernel_rfl)
  (case zV=>k_is)
  (case X4=>k_is);(case Mi=>k_is);(case X5=>k_is);(case X6=>k_is);(case QC=>k_is);(case Mj=>k_is);(case wG=>k_is);(case QD=>k_is);(case QF=>k_is);(case X7=>k_is);(case X8=>k_is);(case Yb=>k_is);(case Yc=>k_is);(case Yd=>k_is);(case Jm=>k_is);(case Ye=>k_is);(case zp=>k_is);(case Yg=>k_is);(case Cr=>k_is);(case Yh=>k_is)
