import PyProof.Rows.All
import Wide.All
import OpenK.AllK
import Wide.FinOn
import Lean
import PyProof.EqAt
import PyProof.EqKinds
import PyProof.TupleCall
import KE.KTops
import KE.KIntText
import KE.KTryMore
import PyProof.ExcBaseAll.ValueError
import PyProof.ZipIter
import KE.KTurns
import PyProof.Rows.SetFrom
import KE.KxText
import PyProof.Rows.SumGenD
import KE.KDictList
import PyProof.DictWalks
import KE.KEqDict
import KE.KDictOf
import PyProof.Rows.SortStr
import PyProof.Rows.SortWalk
import PyProof.WalksEnum
import KE.KItemsList
import PySem.Challenge.RW_madeagain_k36_whole_changed_numbers
set_option Elab.async false
set_option linter.all false
set_option maxRecDepth 100000
noncomputable section
namespace L2
open PySem PySem.Spec PyProof.Rows
abbrev Key:=Sum Int Str
def Bo:Key->Value->Bool
 | .inl k,v=>Value.isInt k v
 | .inr x,v=>Value.isStrOf x v
def ae8 (w:World):Key->Int
 | .inl k=>hashInt k
 | .inr x=>hashStr w x
theorem gD:∀{k:Key}{v:Value},Bo k v=true->(∃i t,k=Sum.inl i/\v=Value.int i t)\/(∃x t,k=Sum.inr x/\v=Value.str x t)
 | .inl i,v,h=>by
   obtain⟨t,e⟩:=Value.isInt_shape (k:=i) (v:=v) h
   exact .inl ⟨i,t,rfl,e⟩
 | .inr x,v,h=>by
   obtain⟨t,e⟩:=Value.isStrOf_shape (x:=x) (v:=v) h
   exact .inr ⟨x,t,rfl,e⟩
theorem Ng (i:Int) (t:Tok):Bo (.inl i) (.int i t)=true:=by simp[Bo,Value.isInt]
theorem Nh (x:Str) (t:Tok):Bo (.inr x) (.str x t)=true:=by simp[Bo,Value.isStrOf]
theorem Xj (a b:Int):decide ((Sum.inl a:Key)=Sum.inl b)=(a==b):=by
 by_cases e:a=b
 ·subst e;simp
 ·have h:¬(Sum.inl a:Key)=Sum.inl b:=fun q=>e (Sum.inl.inj q)
  rw[decide_eq_false h]
  exact(beq_eq_false_iff_ne.mpr e).symm
theorem Xk (a b:Str):decide ((Sum.inr a:Key)=Sum.inr b)=decide (a=b):=by
 by_cases e:a=b
 ·subst e;simp
 ·have h:¬(Sum.inr a:Key)=Sum.inr b:=fun q=>e (Sum.inr.inj q)
  rw[decide_eq_false h,decide_eq_false e]
theorem Xl (a:Int) (b:Str):decide ((Sum.inl a:Key)=Sum.inr b)=false:=decide_eq_false (fun q=>nomatch q)
theorem Xm (a:Str) (b:Int):decide ((Sum.inr a:Key)=Sum.inl b)=false:=decide_eq_false (fun q=>nomatch q)
def cV (prog:Program) (w:World):PySem.KeyKind prog w Key where
 is:=Bo
 hash:=ae8 w
 inj:=fun v a b ha hb=>by
  rcases gD ha with⟨i,t,rfl,rfl⟩ | ⟨x,t,rfl,rfl⟩
  ·rcases gD hb with⟨j,u,rfl,e⟩ | ⟨y,u,rfl,e⟩
   ·injection e with e1 _;rw[e1]
   ·exact nomatch e
  ·rcases gD hb with⟨j,u,rfl,e⟩ | ⟨y,u,rfl,e⟩
   ·exact nomatch e
   ·injection e with e1 _;rw[e1]
 byValue:=fun k v h=>by
  rcases gD h with⟨i,t,rfl,rfl⟩ | ⟨x,t,rfl,rfl⟩<;>rfl
 pyHash:=fun hv h=>by
  rcases gD hv with⟨i,t,rfl,rfl⟩ | ⟨x,t,rfl,rfl⟩
  ·exact wpAny_pyHash_int h
  ·exact wpAny_pyHash_str h
 eqBool:=fun hu hv h=>by
  rcases gD hu with⟨i,t,rfl,rfl⟩ | ⟨x,t,rfl,rfl⟩
  ·rcases gD hv with⟨j,u,rfl,rfl⟩ | ⟨y,u,rfl,rfl⟩
   ·rw[Xj] at h;exact wpAny_eqBool_int h
   ·rw[Xl] at h;exact SeqAt.EqAt.int_str i t y u _ _ _ _ h
  ·rcases gD hv with⟨j,u,rfl,rfl⟩ | ⟨y,u,rfl,rfl⟩
   ·rw[Xm] at h;exact SeqAt.EqAt.str_int x t j u _ _ _ _ h
   ·rw[Xk] at h;exact wpAny_eqBool_str h
 «strs»:=fun k x t v h=>by
  rcases gD h with⟨i,u,rfl,e⟩ | ⟨y,u,rfl,e⟩
  ·exact nomatch e
  ·injection e with e1 _
   subst e1
   cases v<;>rfl
theorem HD (prog:Program) (w:World) (i:Int) (t:Tok):(cV prog w).is (.inl i) (.int i t)=true:=Ng i t
theorem HF (prog:Program) (w:World) (x:Str) (t:Tok):(cV prog w).is (.inr x) (.str x t)=true:=Nh x t
end L2
namespace L2
open PySem PySem.Spec PyProof.Rows
inductive V where
 | non | bl (b:Bool) | int (i:Int) | str (x:Str) | byt (b:Array UInt8) | flt (b:UInt64) | ref (a:Addr) | ty (n:String)
 deriving DecidableEq
def RelV:V->Value->Prop
 | .non,u=>u=Value.none
 | .bl b,u=>u=Value.bool b
 | .int i,u=>∃t,u=Value.int i t
 | .str x,u=>∃t,u=Value.str x t
 | .byt b,u=>∃t,u=Value.bytes b t
 | .flt b,u=>∃t,u=Value.float b t
 | .ref a,u=>u=Value.ref a
 | .ty n,u=>u=Value.type n
abbrev Vals:List V->List Value->Prop:=Paired RelV
theorem Vals.length {xs:List V}{us:List Value} (r:Vals xs us):xs.length=us.length:=Paired.length r
theorem Vals.get:∀{xs:List V}{us:List Value}{i:Nat}{x:V},Vals xs us->xs[i]? =some x->∃u,us[i]? =some u/\RelV x u
 | _,_,_,_, .nil,e=>by simp at e
 | _,_,0,_, .cons r _,e=>by simp at e;subst e;exact⟨_,rfl,r⟩
 | _,_,i+1,x, .cons _ t,e=>by
   obtain⟨u,h1,h2⟩:=Vals.get (i:=i) (x:=x) t (by simpa using e)
   exact⟨u,by simpa using h1,h2⟩
theorem Vals.append:∀{xs ys:List V}{us ws:List Value},Vals xs us->Vals ys ws->Vals (xs++ys) (us++ws)
 | _,_,_,_, .nil,s=>s
 | _,_,_,_, .cons r t,s=> .cons r (Vals.append t s)
theorem Vals.take:∀{xs:List V}{us:List Value} (n:Nat),Vals xs us->Vals (xs.take n) (us.take n)
 | _,_,0,_=> .nil
 | _,_,_+1, .nil=> .nil
 | _,_,n+1, .cons r t=> .cons r (Vals.take n t)
theorem Vals.drop:∀{xs:List V}{us:List Value} (n:Nat),Vals xs us->Vals (xs.drop n) (us.drop n)
 | _,_,0,r=>r
 | _,_,_+1, .nil=> .nil
 | _,_,n+1, .cons _ t=>Vals.drop n t
def tu:Option V->Option Value->Prop
 | some v,some u=>RelV v u
 | none,none=>True
 | _,_=>False
def KV {κ:Type}:List (κ×V)->List (κ×Value)->Prop:=Paired fun(p:κ×V) (q:κ×Value)=>p.1=q.1/\RelV p.2 q.2
def kV:Key->V
 | .inl i=> .int i
 | .inr x=> .str x
inductive HO where
 | lst (xs:List V)
 | tup (xs:List V)
 | dK (kvs:List (Key×V)) | dT (kvs:List (List Key×V))
 | set (S:Int->Bool) (n:Nat)
 | ins (C dx:Addr) (fs:List (Str×V))
 | own (x:Addr)
 | xd (fs:List (Str×V))
 | met (f x:Addr)
 | rng (lo hi:Int)
 | frz (o:Obj) (u:HO)
 | tbl (ps:Array Value)
 | ext (φ:Heap->Prop)
abbrev Hp:=Addr->Option HO
def upd (H:Hp) (a:Addr) (o:HO):Hp:=fun b=>if b=a then some o else H b
theorem aq {H:Hp}{a:Addr}{o:HO}:upd H a o a=some o:=by unfold upd;rw[if_pos rfl]
theorem au {H:Hp}{a b:Addr}{o:HO} (h:b≠a):upd H a o b=H b:=by unfold upd;rw[if_neg h]
theorem tD {H:Hp}{a:Addr}{o u:HO}:upd (upd H a o) a u=upd H a u:=by
 funext b;unfold upd;split<;>rfl
theorem abg {H:Hp}{a b:Addr}{o u:HO} (h:H a=some o) (h':H b=some u) (d:o≠u):a≠b:=by
 intro e;subst e;rw[h] at h';exact d (Option.some.inj h')
theorem aL {H:Hp}{a b:Addr}{o:HO} (h:H a=some o) (h':H b=none):a≠b:=by
 intro e;subst e;rw[h] at h';cases h'
section
variable (P:Program) (w:World)
def eG (H:Hp) (h:Heap) (a:Addr):HO->Prop
 | .lst xs=>xs.length<=sizeLine/\∃(its:List Value) (n:Nat),Vals xs its/\h.get? a=some {cls:= .type "list",data:= .seq its.toArray n}
 | .tup xs=>xs.length<=sizeLine/\∃its:List Value,Vals xs its/\IsTup h a its.toArray
 | .dK kvs=>kvs.length<=sizeLine/\(a==sysModules)=false/\∃vs,KV kvs vs/\h.DictOf (cV P w) a vs
 | .dT kvs=>kvs.length<=sizeLine/\(a==sysModules)=false/\∃xs:List (List Key×Addr×Value),
     Paired (fun(p:List Key×V) (q:List Key×Addr×Value)=>p.1=q.1/\H q.2.1=some (.tup (p.1.map kV))/\RelV p.2 q.2.2) kvs xs/\
     ∃o es ep,h.get? a=some o/\o.ExactDict/\o.data= .dict es ep/\es.toList=xs.map (entryOfKey (tupleKind (cV P w)))/\(xs.map (·.1)).Nodup
 | .set S n=>h.SetOf (intKind P w) a S n
 | .ins C dx fs=>H dx=some (.own a)/\fs.length<=1000/\dx≠a/\h.get? a=some (PySem.W.instObj C dx)/\
     ∃mA,h.Ns1 dx mA/\(∀f,tu (fs.lookup f) (mA f))/\PySem.Within mA (fs.map (·.1))
 | .own _=>∃o,h.get? a=some o
 | .xd fs=>∃mA,h.Ns1 a mA/\∀f,tu (fs.lookup f) (mA f)
 | .rng lo hi=>∃t u v,h.get? a=some {cls:= .type "range",data:= .fields #[.int lo t, .int hi u, .int 1 v]}
 | .frz o u=>h.get? a=some o/\eG H h a u
 | .tbl ps=>h.get? a=some {cls:= .none,data:= .fields ps}
 | .met f x=>h.get? a=some (PySem.W.methodObj (.ref f) (.ref x))
 | .ext φ=>φ h/\(∃o,h.get? a=some o)/\∀h1 h2:Heap,φ h1->(∀o,h1.get? a=some o->h2.get? a=some o)->φ h2
def HOk (H:Hp) (h:Heap):Prop:=∀a o,H a=some o->eG P w H h a o
end
section
variable {P:Program}{w:World}{H H':Hp}{h h':Heap}{a:Addr}{o:HO}
theorem eG.lt (x:eG P w H h a o):a<h.objs.size:=by
 cases o with
 | lst xs=>obtain⟨_,_,_,_,e⟩:=x;exact Heap.lt_size e
 | tup xs=>obtain⟨_,_,_,p⟩:=x;exact p.lt
 | dK kvs=>obtain⟨_,_,_,_,o,_,_,e,_⟩:=x;exact Heap.lt_size e
 | dT kvs=>obtain⟨_,_,_,_,o,_,_,e,_⟩:=x;exact Heap.lt_size e
 | set S n=>obtain⟨o,_,_,_,e,_⟩:=x;exact Heap.lt_size e
 | ins C dx fs=>obtain⟨_,_,_,e,_⟩:=x;exact Heap.lt_size e
 | own y=>obtain⟨_,e⟩:=x;exact Heap.lt_size e
 | xd fs=>obtain⟨_,⟨_,_,_,e,_⟩,_⟩:=x;exact Heap.lt_size e
 | rng lo hi=>obtain⟨_,_,_,e⟩:=x;exact Heap.lt_size e
 | frz ob u=>obtain⟨e,_⟩:=x;exact Heap.lt_size e
 | tbl ps=>exact Heap.lt_size (show h.get? a=some _ from x)
 | met f y=>exact Heap.lt_size (show h.get? a=some _ from x)
 | ext φ=>obtain⟨_,⟨_,e⟩,_⟩:=x;exact Heap.lt_size e
theorem Paired.Xn {α β:Type}{F G:α->β->Prop}:∀{l₁:List α}{l₂:List β},Paired F l₁ l₂->(∀a b,F a b->G a b)->Paired G l₁ l₂
 | _,_, .nil,_=> .nil
 | _,_, .cons r t,f=> .cons (f _ _ r) (Paired.Xn t f)
theorem eG.stay (x:eG P w H h a o) (k:∀b u,(b=a\/H b=some (.own a))->h.get? b=some u->h'.get? b=some u)
 (ho:∀b,H b=some (.own a)->H' b=some (.own a)) (ht:∀b xs,H b=some (.tup xs)->H' b=some (.tup xs)):eG P w H' h' a o:=by
 induction o with
 | lst xs=>obtain⟨z,its,n,r,e⟩:=x;exact⟨z,its,n,r,k _ _ (.inl rfl) e⟩
 | tup xs=>obtain⟨z,its,r,ob,e,c⟩:=x;exact⟨z,its,r,ob,k _ _ (.inl rfl) e,c⟩
 | dK kvs=>obtain⟨z,y,vs,r,ob,es,ep,e,c⟩:=x;exact⟨z,y,vs,r,ob,es,ep,k _ _ (.inl rfl) e,c⟩
 | dT kvs=>
   obtain⟨z,y,xs,r,ob,es,ep,e,c⟩:=x
   exact⟨z,y,xs,Paired.Xn r fun p q z=>⟨z.1,ht _ _ z.2.1,z.2.2⟩,ob,es,ep,k _ _ (.inl rfl) e,c⟩
 | set S n=>obtain⟨ob,es,ep,t,e,c⟩:=x;exact⟨ob,es,ep,t,k _ _ (.inl rfl) e,c⟩
 | ins C dx fs=>
   obtain⟨d,z,ne,e,mA,⟨od,es,ep,e2,c⟩,r⟩:=x
   exact⟨ho _ d,z,ne,k _ _ (.inl rfl) e,mA,⟨od,es,ep,k _ _ (.inr d) e2,c⟩,r⟩
 | own y=>obtain⟨ob,e⟩:=x;exact⟨ob,k _ _ (.inl rfl) e⟩
 | xd fs=>obtain⟨mA,⟨od,es,ep,e,c⟩,r⟩:=x;exact⟨mA,⟨od,es,ep,k _ _ (.inl rfl) e,c⟩,r⟩
 | rng lo hi=>obtain⟨t,u,v,e⟩:=x;exact⟨t,u,v,k _ _ (.inl rfl) e⟩
 | frz ob u ih=>obtain⟨e,q⟩:=x;exact⟨k _ _ (.inl rfl) e,ih q⟩
 | tbl ps=>
   have e:h.get? a=some {cls:= .none,data:= .fields ps}:=x
   show h'.get? a=some {cls:= .none,data:= .fields ps}
   exact k a _ (.inl rfl) e
 | met f y=>
   have e:h.get? a=some (PySem.W.methodObj (.ref f) (.ref y)):=x
   show h'.get? a=some (PySem.W.methodObj (.ref f) (.ref y))
   exact k a _ (.inl rfl) e
 | ext φ=>obtain⟨p,⟨o,e⟩,st⟩:=x;exact⟨st _ _ p fun o q=>k _ _ (.inl rfl) q,⟨o,k _ _ (.inl rfl) e⟩,st⟩
theorem HOk.lt (x:HOk P w H h) (e:H a=some o):a<h.objs.size:=(x a o e).lt
theorem HOk.fresh (x:HOk P w H h) (e:h.objs.size<=a):H a=none:=by
 cases q:H a with
 | none=>rfl
 | some u=>exact absurd (Nat.lt_of_lt_of_le (x.lt q) e) (Nat.lt_irrefl _)
theorem HOk.kept (x:HOk P w H h) (k:∀b u,h.get? b=some u->h'.get? b=some u):HOk P w H h':=fun a o e=>
 (x a o e).stay (fun b u _ q=>k b u q) (fun _ q=>q) fun _ _ q=>q
theorem HOk.laid (x:HOk P w H h) (k:∀b u,h.get? b=some u->h'.get? b=some u) (hp:h.objs.size<=a) (new:eG P w (upd H a o) h' a o):HOk P w (upd H a o) h':=fun b u e=>by
 have hn:=x.fresh hp
 by_cases hb:b=a
 ·subst hb;rw[aq] at e;cases e;exact new
 ·rw[au hb] at e
  exact(x b u e).stay (fun c v _ q=>k c v q) (fun c q=>by rw[au (aL q hn)];exact q) fun c xs q=>by rw[au (aL q hn)];exact q
end
def Rd (H:Hp) (a:Addr) (u:HO):Prop:=H a=some u\/∃o,H a=some (.frz o u)
theorem Rd.ok {P:Program}{w:World}{H:Hp}{h:Heap}{a:Addr}{u:HO} (r:Rd H a u) (x:HOk P w H h):eG P w H h a u:=by
 rcases r with r | ⟨o,r⟩
 ·exact x a u r
 ·obtain⟨_,q⟩:=x a _ r
  exact q
def Mut:Option HO->Prop
 | some (.lst _)=>True
 | some (.dK _)=>True
 | some (.dT _)=>True
 | some (.set _ _)=>True
 | some (.ins _ _ _)=>True
 | some (.ext _)=>True
 | _=>False
section
variable {P:Program}{w:World}{H:Hp}{h h':Heap}{x e:Addr}{o':HO}
theorem HOk.write (ok:HOk P w H h) (mu:Mut (H x)) (he:e=x\/H e=some (.own x)) (k:∀b u,b≠e->h.get? b=some u->h'.get? b=some u) (heo:∃u,h'.get? e=some u)
 (new:eG P w (upd H x o') h' x o'):HOk P w (upd H x o') h':=fun b u q=>by
 have nown:∀c y,H c=some (.own y)->c≠x:=fun c y r z=>by subst z;rw[r] at mu;exact mu
 have ntup:∀c xs,H c=some (.tup xs)->c≠x:=fun c xs r z=>by subst z;rw[r] at mu;exact mu
 by_cases hb:b=x
 ·subst hb;rw[aq] at q;cases q;exact new
 ·rw[au hb] at q
  by_cases hbe:b=e
  ·have q':H b=some (.own x):=by
    rcases he with z | z
    ·exact absurd (hbe.trans z) hb
    ·rw[hbe];exact z
   rw[q] at q';cases q'
   obtain⟨v,hv⟩:=heo
   exact⟨v,by rw[hbe];exact hv⟩
  ·refine(ok b u q).stay (fun c v hc r=>k c v ?_ r) (fun c r=>by rw[au (nown c b r)];exact r) fun c xs r=>by rw[au (ntup c xs r)];exact r
   rcases hc with rfl | hc
   ·exact hbe
   ·rintro rfl
    rcases he with z | z
    ·exact nown c b hc z
    ·rw[hc] at z;cases z;exact hb rfl
end
structure Un (fs ex:List Addr) (H H':Hp) (h h':Heap):Prop where
 keep:∀b o,h.get? b=some o->H b=none->b∉fs->b∉ex->h'.get? b=some o
 slot:∀b o,h.get? b=some o->H b=none->b∈fs->b∉ex->∃sl,h'.get? b=some {o with slots:=sl}
 free:∀b o,h.get? b=some o->H b=none->b∉ex->H' b=none
 there:∀b o,h.get? b=some o->b∉ex->∃o',h'.get? b=some o'
 tups:∀b xs,H b=some (.tup xs)->H' b=some (.tup xs)
 frzs:∀b o u,H b=some (.frz o u)->H' b=some (.frz o u)
 tbls:∀b ps,H b=some (.tbl ps)->∃more,H' b=some (.tbl (ps++more))
section
variable {fs fs' ex ex':List Addr}{H H1 H2:Hp}{h h1 h2 h':Heap}{a x e:Addr}{o:HO}
theorem Un.any (u:Un fs ex H H1 h h1) {b:Addr}{ob:Obj} (q:h.get? b=some ob) (n:H b=none) (hx:b∉ex):∃sl,h1.get? b=some {ob with slots:=sl}:=by
 by_cases hb:b∈fs
 ·exact u.slot b ob q n hb hx
 ·exact⟨ob.slots,u.keep b ob q n hb hx⟩
theorem Un.kept (k:∀b u,h.get? b=some u->h'.get? b=some u):Un fs ex H H h h':=
 ⟨fun b ob q _ _ _=>k b ob q,fun b ob q _ _ _=>⟨ob.slots,k b ob q⟩,fun _ _ _ n _=>n,fun b ob q _=>⟨ob,k b ob q⟩,fun _ _ q=>q,fun _ _ _ q=>q,fun _ ps q=>⟨#[],by rw[q];simp⟩⟩
theorem Un.refl:Un fs ex H H h h:=Un.kept fun _ _ q=>q
theorem Un.laid (k:∀b u,h.get? b=some u->h'.get? b=some u) (hp:h.objs.size<=a) (hn:H a=none):Un fs ex H (upd H a o) h h' where
 keep:=fun b u q _ _ _=>k b u q
 slot:=fun b u q _ _ _=>⟨u.slots,k b u q⟩
 free:=fun b u q n _=>by rw[au (Nat.ne_of_lt (Nat.lt_of_lt_of_le (Heap.lt_size q) hp))];exact n
 there:=fun b u q _=>⟨u,k b u q⟩
 tups:=fun b xs q=>by rw[au (aL q hn)];exact q
 frzs:=fun b u xs q=>by rw[au (aL q hn)];exact q
 tbls:=fun b ps q=>⟨#[],by rw[au (aL q hn),q];simp⟩
theorem Un.write (mu:Mut (H x)) (he:e=x\/H e=some (.own x)) (k:∀b u,b≠e->h.get? b=some u->h'.get? b=some u) (heo:∃u,h'.get? e=some u):Un fs ex H (upd H x o) h h':=by
 have hx:∀b,H b=none->b≠x:=fun b n z=>by subst z;rw[n] at mu;exact mu
 have hb:∀b,H b=none->b≠e:=fun b n z=>by
  subst z
  rcases he with r | r
  ·exact hx b n r
  ·rw[n] at r;cases r
 have hm:∀b u,H b=some u->¬Mut (some u)->b≠x:=fun b u q nm z=>by subst z;rw[q] at mu;exact nm mu
 refine⟨fun b u q n _ _=>k b u (hb b n) q,fun b u q n _ _=>⟨u.slots,k b u (hb b n) q⟩,fun b u q n _=>by rw[au (hx b n)];exact n,fun b u q _=> ?_,
  fun b xs q=>by rw[au (hm b _ q fun z=>z)];exact q,fun b u xs q=>by rw[au (hm b _ q fun z=>z)];exact q,fun b ps q=>⟨#[],by rw[au (hm b _ q fun z=>z),q];simp⟩⟩
 by_cases hbe:b=e
 ·subst hbe;exact heo
 ·exact⟨u,k b u hbe q⟩
end
def trk (h:Heap) (H:Hp):List Addr:=(List.range h.objs.size).filter fun a=>(H a).isSome
def Gn (h:Heap) (H:Hp):Heap:=PySem.W.hideAll h (trk h H)
theorem Ni (h:Heap) (H:Hp):(Gn h H).objs.size=h.objs.size:=PySem.W.hideAll_size _ _
theorem Oz {h:Heap}{H:Hp}{b:Addr}{o:Obj} (e:h.get? b=some o) (n:H b=none):(Gn h H).get? b=some o:=
 PySem.W.hideAll_get _ e fun hm=>by
  have q:(H b).isSome=true:=(List.mem_filter.mp hm).2
  rw[n] at q;simp at q
theorem R0 {h:Heap}{H:Hp}{b:Addr}{o:Obj} (e:(Gn h H).get? b=some o):h.get? b=some o/\H b=none:=by
 have e':h.get? b=some o:=PySem.W.of_hideAll (trk h H) e
 refine⟨e', ?_⟩
 cases q:H b with
 | none=>rfl
 | some x=>
   have hm:b∈trk h H:=List.mem_filter.mpr ⟨List.mem_range.mpr (Heap.lt_size e'),by simp[q]⟩
   have z:(Gn h H).get? b=none:=PySem.W.hideAll_none (trk h H) hm
   rw[z] at e;cases e
end L2
namespace L2
open PySem PySem.Spec PyProof.Rows
structure Mod (K:PySem.W.Frag) (mg:Str->Option Value) (base:Heap):Prop where
 kin:K.In base
 glob:base.Ns mainGlobals mg
 blt:∃mb,base.Ns builtinsNs mb/\∀x:Str,x≠"__name__"->mb x=bootBuiltins x
 nolimit:base.NoLimit
structure Cx where
 prog:Program
 w:World
 K:PySem.W.Frag
 mg:Str->Option Value
 base:Heap
 A:Around
 N:List Str
 s₀:Shared
 H₀:Hp
 env:Env
 outer:List Env
 stack:List Env
 ex:List Addr
 fn:Str->Bool
 calm:Bool
 pn:List (Addr×Obj)
 xe:Value->Shared->Prop
def frs (l:List Env):List Addr:=l.filterMap (·.frame)
abbrev Cx.fs (X:Cx):List Addr:=frs X.outer
def Vis (sc:Scope) (x:Str):Prop:=sc.names.lookup x=some .local\/sc.names.lookup x=some .cell\/sc.names.lookup x=some .free
def Loc (sc:Scope) (x:Str):Prop:=sc.names.lookup x=some .local\/sc.names.lookup x=some .cell
def Look (env:Env) (h:Heap) (m:Str->Option Value) (x:Str) (u:Value):Prop:=
 (env.kindOf x=some .local/\m x=some u)\/((env.kindOf x=some .cell\/env.kindOf x=some .free)/\∃c,env.cells.lookup x=some c/\h.IsCell c (some u))
structure Cx.Ok (X:Cx):Prop where
 mod:Mod X.K X.mg X.base
 kind:X.env.scope.kind= .function
 glob:X.env.globals=mainGlobals
 blt:X.env.builtins=builtinsNs
 above:X.s₀.heap.objs.size<=X.env.locals
 inj:∀x y c,X.env.cells.lookup x=some c->X.env.cells.lookup y=some c->x=y
 has:∀x,(X.env.kindOf x=some .cell\/X.env.kindOf x=some .free)->∃c,X.env.cells.lookup x=some c
 cab:∀x c,X.fn x=true->X.env.cells.lookup x=some c->X.s₀.heap.objs.size<=c
 hd:X.calm=true->X.A.handled=none
 frames:X.A.frames=some X.stack
 stk:X.stack=X.outer\/(X.stack=X.env::X.outer/\X.env.frame=some X.env.locals)
 exf:∀b∈X.ex,b≠X.env.locals/\∀x c,X.env.cells.lookup x=some c->c≠b
 bs:∀b o,X.base.get? b=some o->X.s₀.heap.get? b=some o/\X.H₀ b=none
 bsz:X.base.objs.size<=X.s₀.heap.objs.size
 noex:∀b o,X.base.get? b=some o->b∉X.ex
 exfs:∀b∈X.ex,b∉X.fs
 funs:X.s₀.heap.FunFrames X.base X.outer
 frf:∀b∈X.fs,X.H₀ b=none
structure Inv (X:Cx) (pins:List (Addr×Obj)) (σ:List (Option V)) (H:Hp) (s:Shared):Prop where
 ok:X.Ok
 os:s.os=X.s₀.os
 bare:AllBare s.gens
 base:Un X.fs X.ex X.H₀ H X.s₀.heap s.heap
 loc:∃m,s.heap.Ns X.env.locals m/\∀(i:Nat) (x:Str) (v:V),X.N[i]? =some x->σ[i]? =some (some v)->Vis X.env.scope x->∃u,RelV v u/\Look X.env s.heap m x u
 cell:∀x c,X.env.cells.lookup x=some c->∃v,s.heap.IsCell c v
 free:H X.env.locals=none
 rE:∀x c,X.env.cells.lookup x=some c->H c=none
 pin:∀p∈X.pn++pins,s.heap.get? p.1=some p.2/\H p.1=none/\p.1≠X.env.locals/\p.1∉X.fs/\∀v,p.2.data≠ .cell v
 hok:HOk X.prog X.w H s.heap
 len:σ.length=X.N.length
section
variable {X:Cx}{pins:List (Addr×Obj)}{σ:List (Option V)}{H H':Hp}{s:Shared}{h':Heap}
theorem Cx.Ok.nofr (ok:X.Ok) {b:Addr}{o:Obj} (e:X.base.get? b=some o):b∉X.fs:=fun hb=>by
 have:=(ok.funs.mem hb).1
 rw[e] at this;cases this
theorem Inv.bs (I:Inv X pins σ H s):∀b o,X.base.get? b=some o->s.heap.get? b=some o/\H b=none:=fun b o e=>
 ⟨I.base.keep b o (I.ok.bs b o e).1 (I.ok.bs b o e).2 (I.ok.nofr e) (I.ok.noex b o e),I.base.free b o (I.ok.bs b o e).1 (I.ok.bs b o e).2 (I.ok.noex b o e)⟩
theorem Inv.bk (I:Inv X pins σ H s):∀b o,X.base.get? b=some o->s.heap.get? b=some o:=fun b o e=>(I.bs b o e).1
theorem Inv.mod (I:Inv X pins σ H s):Mod X.K X.mg X.base:=I.ok.mod
theorem Inv.kIn (I:Inv X pins σ H s):X.K.In s.heap:=I.ok.mod.kin.keeps I.bk
theorem Inv.lt (I:Inv X pins σ H s):X.env.locals<s.heap.objs.size:=let ⟨_,hn,_⟩:=I.loc;hn.lt
theorem Inv.sz (I:Inv X pins σ H s):X.s₀.heap.objs.size<=s.heap.objs.size:=Nat.le_trans I.ok.above (Nat.le_of_lt I.lt)
theorem Inv.nofs (I:Inv X pins σ H s) {a:Addr} (h:s.heap.objs.size<=a):a∉X.fs:=fun hb=>by
 obtain⟨_,o,ho,_⟩:=I.ok.funs.mem hb
 exact absurd (Nat.lt_of_lt_of_le (Heap.lt_size ho) (Nat.le_trans I.sz h)) (Nat.lt_irrefl _)
theorem Inv.cne (I:Inv X pins σ H s):∀x c,X.env.cells.lookup x=some c->c≠X.env.locals:=fun x c e z=>by
 obtain⟨v,o,ho,hd⟩:=I.cell x c e
 obtain⟨m,⟨o',es,ep,ho',hd',_⟩,_⟩:=I.loc
 rw[z,ho'] at ho;cases ho;rw[hd'] at hd;cases hd
theorem Inv.funs (I:Inv X pins σ H s):s.heap.FunFrames X.base X.outer:=by
 have all:∀(l:List Env),(∀b∈frs l,b∈X.fs)->X.s₀.heap.FunFrames X.base l->s.heap.FunFrames X.base l:=by
  intro l
  induction l with
  | nil=>intro _ _;trivial
  | cons env r ih=>
    intro hs hl
    obtain⟨hk,⟨L,o,hf,hn,ho,hd⟩,hr⟩:=hl
    have hL:L∈X.fs:=hs L (by unfold frs;rw[List.filterMap_cons,hf];exact List.mem_cons_self)
    obtain⟨sl,e⟩:=I.base.slot L o ho (I.ok.frf L hL) hL fun z=>I.ok.exfs L z hL
    exact⟨hk,⟨L,_,hf,hn,e,hd⟩,ih (fun b hb=>hs b (by unfold frs;rw[List.filterMap_cons,hf];exact List.mem_cons_of_mem _ hb)) hr⟩
 exact all X.outer (fun _ hb=>hb) I.ok.funs
theorem Inv.stack (I:Inv X pins σ H s):s.heap.FunFrames X.base X.stack:=by
 rcases I.ok.stk with e | ⟨e,hf⟩
 ·rw[e];exact I.funs
 ·rw[e]
  obtain⟨m,hn,_⟩:=I.loc
  refine .cons (by rw[I.ok.kind];decide) hf hn ?_ I.funs
  exact Heap.get?_none_of_le (Nat.le_trans I.ok.bsz I.ok.above)
theorem Inv.Gp (I:Inv X pins σ H s):∀b∈frs X.stack,b∈X.env.locals::X.fs:=fun b hb=>by
 rcases I.ok.stk with e | ⟨e,hf⟩
 ·rw[e] at hb;exact List.mem_cons_of_mem _ hb
 ·rw[e] at hb
  unfold frs at hb
  rw[List.filterMap_cons,hf] at hb
  exact hb
theorem Inv.Lw (I:Inv X pins σ H s):∀b∈frs X.stack,H b=none:=fun b hb=>by
 rcases List.mem_cons.mp (I.Gp b hb) with e | hb
 ·rw[e];exact I.free
 ·obtain⟨_,o,ho,_⟩:=I.ok.funs.mem hb
  exact I.base.free b o ho (I.ok.frf b hb) fun z=>I.ok.exfs b z hb
theorem Inv.step {g':Array GenState}{t':Nat}{d':Drawn}{ch:List Addr} (I:Inv X pins σ H s)
 (hch:∀b∈ch,(b∈X.ex\/X.s₀.heap.objs.size<=b)/\b≠X.env.locals/\(∀x c,X.env.cells.lookup x=some c->c≠b)/\∀p∈X.pn++pins,p.1≠b)
 (keep:∀b o,b≠X.env.locals->b∉X.fs->b∉ch->s.heap.get? b=some o->H b=none->h'.get? b=some o)
 (slot:∀b o,b≠X.env.locals->b∈X.fs->b∉ch->s.heap.get? b=some o->H b=none->∃sl,h'.get? b=some {o with slots:=sl}) (free:∀b o,b∉ch->s.heap.get? b=some o->H b=none->H' b=none)
 (there:∀b o,b∉ch->s.heap.get? b=some o->∃o',h'.get? b=some o')
 (tups:∀b xs,H b=some (.tup xs)->H' b=some (.tup xs)) (frzs:∀b o u,H b=some (.frz o u)->H' b=some (.frz o u)) (tbls:∀b ps,H b=some (.tbl ps)->∃more,H' b=some (.tbl (ps++more)))
 (ns:∀m,s.heap.Ns X.env.locals m->h'.Ns X.env.locals m) (hok:HOk X.prog X.w H' h') (hg:AllBare g'):
 Inv X pins σ H' {s with heap:=h',gens:=g',drawn:=d',toks:=t'}:=by
 have neL:∀b o,X.s₀.heap.get? b=some o->b≠X.env.locals:=fun b o e=>Nat.ne_of_lt (Nat.lt_of_lt_of_le (Heap.lt_size e) I.ok.above)
 have neC:∀b o,X.s₀.heap.get? b=some o->b∉X.ex->b∉ch:=fun b o e hx hb=>by
  rcases(hch b hb).1 with z | z
  ·exact hx z
  ·exact absurd (Nat.lt_of_lt_of_le (Heap.lt_size e) z) (Nat.lt_irrefl _)
 have cellK:∀x c,X.env.cells.lookup x=some c->∀v,s.heap.IsCell c v->h'.IsCell c v:=fun x c e v ⟨o,ho,hd⟩=>by
  have nch:c∉ch:=fun z=>(hch c z).2.2.1 x c e rfl
  by_cases hc:c∈X.fs
  ·obtain⟨sl,q⟩:=slot c o (I.cne x c e) hc nch ho (I.rE x c e)
   exact⟨_,q,hd⟩
  ·exact⟨o,keep c o (I.cne x c e) hc nch ho (I.rE x c e),hd⟩
 refine⟨I.ok,I.os,hg,⟨fun b o e n hb hx=> ?_,fun b o e n hb hx=> ?_,fun b o e n hx=> ?_,fun b o e hx=> ?_,fun b xs e=>tups b xs (I.base.tups b xs e),fun b o xs e=>frzs b o xs (I.base.frzs b o xs e),fun b ps e=> ?_⟩, ?_,fun x c e=> ?_, ?_,fun x c e=> ?_,fun p hp=> ?_,hok,I.len⟩
 ·exact keep b o (neL b o e) hb (neC b o e hx) (I.base.keep b o e n hb hx) (I.base.free b o e n hx)
 ·obtain⟨sl,e1⟩:=I.base.slot b o e n hb hx
  obtain⟨sl',e2⟩:=slot b _ (neL b o e) hb (neC b o e hx) e1 (I.base.free b o e n hx)
  exact⟨sl',e2⟩
 ·obtain⟨o',e1⟩:=I.base.there b o e hx
  exact free b o' (neC b o e hx) e1 (I.base.free b o e n hx)
 ·obtain⟨o',e1⟩:=I.base.there b o e hx
  exact there b o' (neC b o e hx) e1
 ·obtain⟨m1,e1⟩:=I.base.tbls b ps e
  obtain⟨m2,e2⟩:=tbls b _ e1
  exact⟨m1++m2,by rw[e2,Array.append_assoc]⟩
 ·obtain⟨m,hn,hl⟩:=I.loc
  refine⟨m,ns m hn,fun i x v e1 e2 e3=> ?_⟩
  obtain⟨u,r,l⟩:=hl i x v e1 e2 e3
  refine⟨u,r, ?_⟩
  rcases l with l | ⟨k,c,e,z⟩
  ·exact .inl l
  ·exact .inr ⟨k,c,e,cellK x c e _ z⟩
 ·obtain⟨v,z⟩:=I.cell x c e
  exact⟨v,cellK x c e v z⟩
 ·obtain⟨m,⟨o,_,_,ho,_⟩,_⟩:=I.loc
  exact free _ o (fun z=>(hch _ z).2.1 rfl) ho I.free
 ·obtain⟨v,o,ho,hd⟩:=I.cell x c e
  exact free c o (fun z=>(hch c z).2.2.1 x c e rfl) ho (I.rE x c e)
 ·obtain⟨e,n,ne,nf,d⟩:=I.pin p hp
  have nch:p.1∉ch:=fun z=>(hch p.1 z).2.2.2 p hp rfl
  exact⟨keep p.1 p.2 ne nf nch e n,free p.1 p.2 nch e n,ne,nf,d⟩
theorem Inv.un {t':Nat} (I:Inv X pins σ H s) (u:Un X.fs [] H H' s.heap h') (hok:HOk X.prog X.w H' h'):Inv X pins σ H' {s with heap:=h',toks:=t'}:=by
 obtain⟨m,⟨o,es,ep,ho,r⟩,_⟩:=id I.loc
 obtain⟨sl,hL⟩:=u.any ho I.free (by simp)
 exact I.step (g':=s.gens) (d':=s.drawn) (ch:=[]) (fun _ z=>nomatch z) (fun b o _ hb _ e n=>u.keep b o e n hb (by simp)) (fun b o _ hb _ e n=>u.slot b o e n hb (by simp)) (fun b o _ e n=>u.free b o e n (by simp)) (fun b o _ e=>u.there b o e (by simp)) u.tups u.frzs u.tbls (fun m' hm=>by
  obtain⟨o',es',ep',ho',r'⟩:=hm
  rw[ho] at ho';cases ho'
  exact⟨_,es',ep',hL,r'⟩) hok I.bare
theorem Inv.call {g':Array GenState}{t':Nat}{d':Drawn}{ch:List Addr} (I:Inv X pins σ H s) (u:Un (frs X.stack) ch H H' s.heap h') (hok:HOk X.prog X.w H' h') (hg:AllBare g')
 (hch:∀b∈ch,(b∈X.ex\/X.s₀.heap.objs.size<=b)/\b≠X.env.locals/\(∀x c,X.env.cells.lookup x=some c->c≠b)/\∀p∈X.pn++pins,p.1≠b):
 Inv X pins σ H' {s with heap:=h',gens:=g',drawn:=d',toks:=t'}:=by
 obtain⟨m,⟨o,es,ep,ho,r⟩,_⟩:=id I.loc
 obtain⟨sl,hL⟩:=u.any ho I.free fun z=>(hch _ z).2.1 rfl
 exact I.step (ch:=ch) hch (fun b o hL hb hc e n=>u.keep b o e n (fun z=>(List.mem_cons.mp (I.Gp b z)).elim hL hb) hc) (fun b o _ _ hc e n=>u.any e n hc) (fun b o hc e n=>u.free b o e n hc) (fun b o hc e=>u.there b o e hc) u.tups u.frzs u.tbls (fun m' hm=>by
  obtain⟨o',es',ep',ho',r'⟩:=hm
  rw[ho] at ho';cases ho'
  exact⟨_,es',ep',hL,r'⟩) hok hg
theorem Inv.turned {t':Nat}{it:Addr} (I:Inv X pins σ H s) (k:∀b o,b≠it->s.heap.get? b=some o->h'.get? b=some o) (hn:H it=none) (hL:it≠X.env.locals)
 (h1:it∈X.ex\/X.s₀.heap.objs.size<=it) (h2:∀x c,X.env.cells.lookup x=some c->c≠it) (h3:∀p∈X.pn++pins,p.1≠it):Inv X pins σ H {s with heap:=h',toks:=t'}:=by
 have nit:∀b u,H b=some u->b≠it:=fun b u e z=>by rw[z,hn] at e;cases e
 refine I.step (g':=s.gens) (d':=s.drawn) (ch:=[it]) (fun b hb=> ?_) (fun b o _ _ hc e _=>k b o (fun z=>hc (by simp[z])) e) (fun b o _ _ hc e _=>⟨o.slots,k b o (fun z=>hc (by simp[z])) e⟩) (fun _ _ _ _ n=>n)
  (fun b o hc e=>⟨o,k b o (fun z=>hc (by simp[z])) e⟩) (fun _ _ e=>e) (fun _ _ _ e=>e) (fun b ps e=>⟨#[],by rw[e];simp⟩) (fun m hm=> ?_) (fun b u e=> ?_) I.bare
 ·have e:b=it:=by simpa using hb
  subst e
  exact⟨h1,hL,h2,h3⟩
 ·obtain⟨o,es,ep,ho,r⟩:=hm
  exact⟨o,es,ep,k _ o (Ne.symm hL) ho,r⟩
 ·refine(I.hok b u e).stay (fun c v hc q=>k c v ?_ q) (fun _ q=>q) fun _ _ q=>q
  rcases hc with z | z
  ·rw[z];exact nit b u e
  ·exact nit c _ z
theorem Inv.tok (I:Inv X pins σ H s) (t:Nat):Inv X pins σ H {s with toks:=t}:=I.un (h':=s.heap) (t':=t) Un.refl I.hok
theorem Inv.kept {t':Nat} (I:Inv X pins σ H s) (k:∀b u,s.heap.get? b=some u->h'.get? b=some u):Inv X pins σ H {s with heap:=h',toks:=t'}:=I.un (Un.kept k) (I.hok.kept k)
theorem Inv.laid {a:Addr}{o:HO}{t':Nat} (I:Inv X pins σ H s) (k:∀b u,s.heap.get? b=some u->h'.get? b=some u) (hp:s.heap.objs.size<=a) (new:eG X.prog X.w (upd H a o) h' a o):
 Inv X pins σ (upd H a o) {s with heap:=h',toks:=t'}:=I.un (Un.laid k hp (I.hok.fresh hp)) (I.hok.laid k hp new)
theorem Inv.write {x e:Addr}{o:HO}{t':Nat} (I:Inv X pins σ H s) (mu:Mut (H x)) (he:e=x\/H e=some (.own x)) (k:∀b u,b≠e->s.heap.get? b=some u->h'.get? b=some u) (heo:∃u,h'.get? e=some u)
 (new:eG X.prog X.w (upd H x o) h' x o):Inv X pins σ (upd H x o) {s with heap:=h',toks:=t'}:=I.un (Un.write mu he k heo) (I.hok.write mu he k heo new)
theorem Inv.Lx {pins':List (Addr×Obj)} (I:Inv X pins σ H s) (h:∀p∈pins',s.heap.get? p.1=some p.2/\H p.1=none/\p.1≠X.env.locals/\p.1∉X.fs/\∀v,p.2.data≠ .cell v):Inv X pins' σ H s:=
 ⟨I.ok,I.os,I.bare,I.base,I.loc,I.cell,I.free,I.rE,fun p hp=>(List.mem_append.mp hp).elim (fun z=>I.pin p (List.mem_append_left _ z)) (h p),I.hok,I.len⟩
theorem HH {N:List Str} (hN:N.Nodup) {i j:Nat}{x:Str} (a:N[i]? =some x) (b:N[j]? =some x):i=j:=by
 obtain⟨h1,e1⟩:=List.getElem?_eq_some_iff.mp a
 obtain⟨h2,e2⟩:=List.getElem?_eq_some_iff.mp b
 exact(List.getElem_inj hN).mp (e1.trans e2.symm)
theorem Fo {M:Model}{A:Around}{E:Value->Shared->Prop}{i:Nat}{x:Str}{v:V}{u:Value}{Q:Unit->Shared->Prop} (I:Inv X pins σ H s) (hN:X.N.Nodup) (hi:X.N[i]? =some x) (hx:Loc X.env.scope x) (r:RelV v u)
 (h:∀s',Inv X pins (σ.set i (some v)) H s'->(∃a,Heap.SameBut a s.heap s'.heap/\(a=X.env.locals\/X.env.cells.lookup x=some a))->Q () s') (hf:X.fn x=true\/X.env.scope.names.lookup x=some .local:=by first | exact .inl rfl | exact .inr rfl | assumption):wpAny M A (storeName X.env x u) Q E s:=by
 obtain⟨m,hn,hl⟩:=id I.loc
 have hcls:(X.env.scope.kind== .class||(X.env.scope.kind== .module&&X.env.locals !=X.env.globals))=false:=by rw[I.ok.kind];rfl
 have hiσ:i<σ.length:=by rw[I.len];exact(List.getElem?_eq_some_iff.mp hi).1
 have cne:=I.cne
 have tracked:∀{a:Addr}{h':Heap},(∃o,s.heap.get? a=some o/\H a=none)->Heap.SameBut a s.heap h'->HOk X.prog X.w H h':=fun{a h'} ha hs b ob e=>by
  obtain⟨_,_,hfree⟩:=ha
  refine(I.hok b ob e).stay (fun c w' hc q=>(hs.2 c ?_).trans q) (fun _ q=>q) fun _ _ q=>q
  rintro rfl
  rcases hc with rfl | hc
  ·rw[hfree] at e;cases e
  ·rw[hfree] at hc;cases hc
 rcases hx with hk | hk
 ·refine wpAny_storeName_local hk hn (fun h' hn' hs=> ?_) hcls
  obtain⟨oL,_,_,hoL,_⟩:=id hn
  refine h _ ⟨I.ok,I.os,I.bare,⟨fun b o e n hb hx=> ?_,fun b o e n hb hx=> ?_,I.base.free,fun b o e hx=> ?_,I.base.tups,I.base.frzs,I.base.tbls⟩,⟨_,hn',fun j y v' e1 e2 e3=> ?_⟩,fun y c e=> ?_,I.free,I.rE,fun p hp=> ?_,tracked ⟨oL,hoL,I.free⟩ hs,by simpa using I.len⟩ ⟨_,hs, .inl rfl⟩
  ·exact(hs.2 b (Nat.ne_of_lt (Nat.lt_of_lt_of_le (Heap.lt_size e) I.ok.above))).trans (I.base.keep b o e n hb hx)
  ·obtain⟨sl,e1⟩:=I.base.slot b o e n hb hx
   exact⟨sl,(hs.2 b (Nat.ne_of_lt (Nat.lt_of_lt_of_le (Heap.lt_size e) I.ok.above))).trans e1⟩
  ·obtain⟨o',e1⟩:=I.base.there b o e hx
   exact⟨o',(hs.2 b (Nat.ne_of_lt (Nat.lt_of_lt_of_le (Heap.lt_size e) I.ok.above))).trans e1⟩
  ·by_cases hj:j=i
   ·subst hj
    rw[hi] at e1;cases e1
    rw[List.getElem?_set_self hiσ] at e2
    cases e2
    exact⟨u,r, .inl ⟨hk,by simp⟩⟩
   ·rw[List.getElem?_set_ne (Ne.symm hj)] at e2
    obtain⟨u',r',q⟩:=hl j y v' e1 e2 e3
    refine⟨u',r', ?_⟩
    rcases q with⟨k,e⟩ | ⟨k,c,e,z⟩
    ·refine .inl ⟨k, ?_⟩
     have:y≠x:=fun e=>hj (HH hN e1 (e▸hi))
     simp[this,e]
    ·exact .inr ⟨k,c,e,z.sameBut hs (cne y c e)⟩
  ·obtain⟨w',z⟩:=I.cell y c e
   exact⟨w',z.sameBut hs (cne y c e)⟩
  ·obtain⟨e,n,ne,nf,d⟩:=I.pin p hp
   exact⟨(hs.2 p.1 ne).trans e,n,ne,nf,d⟩
 ·have hfn:X.fn x=true:=by
   rcases hf with z | z
   ·exact z
   ·rw[z] at hk;cases hk
  obtain⟨c,hc⟩:=I.ok.has x (.inl hk)
  obtain⟨w',z⟩:=I.cell x c hc
  refine wpAny_storeName_cell I.ok.kind hk hc z (fun h' hc' hs=> ?_)
  obtain⟨oc,hoc,hocd⟩:=id z
  refine h {s with heap:=h'} ⟨I.ok,I.os,I.bare,⟨fun b o e n hb hx=> ?_,fun b o e n hb hx=> ?_,I.base.free,fun b o e hx=> ?_,I.base.tups,I.base.frzs,I.base.tbls⟩,⟨m,hn.sameBut hs (Ne.symm (cne x c hc)),fun j y v' e1 e2 e3=> ?_⟩,fun y c' e=> ?_,I.free,I.rE,fun p hp=> ?_,tracked ⟨oc,hoc,I.rE x c hc⟩ hs,by simpa using I.len⟩ ⟨c,hs, .inr hc⟩
  ·exact(hs.2 b (Nat.ne_of_lt (Nat.lt_of_lt_of_le (Heap.lt_size e) (I.ok.cab x c hfn hc)))).trans (I.base.keep b o e n hb hx)
  ·obtain⟨sl,e1⟩:=I.base.slot b o e n hb hx
   exact⟨sl,(hs.2 b (Nat.ne_of_lt (Nat.lt_of_lt_of_le (Heap.lt_size e) (I.ok.cab x c hfn hc)))).trans e1⟩
  ·obtain⟨o',e1⟩:=I.base.there b o e hx
   exact⟨o',(hs.2 b (Nat.ne_of_lt (Nat.lt_of_lt_of_le (Heap.lt_size e) (I.ok.cab x c hfn hc)))).trans e1⟩
  ·by_cases hj:j=i
   ·subst hj
    rw[hi] at e1;cases e1
    rw[List.getElem?_set_self hiσ] at e2
    cases e2
    exact⟨u,r, .inr ⟨.inl hk,c,hc,hc'⟩⟩
   ·rw[List.getElem?_set_ne (Ne.symm hj)] at e2
    obtain⟨u',r',q⟩:=hl j y v' e1 e2 e3
    refine⟨u',r', ?_⟩
    rcases q with q | ⟨k,c',e,z'⟩
    ·exact .inl q
    ·refine .inr ⟨k,c',e,z'.sameBut hs ?_⟩
     rintro rfl
     exact hj (HH hN e1 (I.ok.inj _ _ _ e hc▸hi))
  ·by_cases hcc:c'=c
   ·subst hcc;exact⟨_,hc'⟩
   ·obtain⟨w2,z2⟩:=I.cell y c' e
    exact⟨w2,z2.sameBut hs hcc⟩
  ·obtain⟨e,n,ne,nf,d⟩:=I.pin p hp
   refine⟨(hs.2 p.1 ?_).trans e,n,ne,nf,d⟩
   intro q
   rw[q,hoc] at e
   have q':oc=p.2:=Option.some.inj e
   exact d w' (by rw[<-q'];exact hocd)
theorem HJ {M:Model}{A:Around}{E:Value->Shared->Prop}{i:Nat}{x:Str}{v:V}{u:Value}{Q:Unit->Shared->Prop} (I:Inv X pins σ H s) (hN:X.N.Nodup) (hi:X.N[i]? =some x) (hx:Loc X.env.scope x) (r:RelV v u)
 (h:∀s',Inv X pins (σ.set i (some v)) H s'->Q () s') (hf:X.fn x=true\/X.env.scope.names.lookup x=some .local:=by first | exact .inl rfl | exact .inr rfl | assumption):wpAny M A (storeName X.env x u) Q E s:=
 Fo I hN hi hx r (fun s' I' _=>h s' I') hf
theorem Inv.call' {s':Shared}{ch:List Addr} (I:Inv X pins σ H s) (ho:s'.os=s.os) (u:Un (frs X.stack) ch H H' s.heap s'.heap) (hok:HOk X.prog X.w H' s'.heap) (hg:AllBare s'.gens)
 (hch:∀b∈ch,(b∈X.ex\/X.s₀.heap.objs.size<=b)/\b≠X.env.locals/\(∀x c,X.env.cells.lookup x=some c->c≠b)/\∀p∈X.pn++pins,p.1≠b):Inv X pins σ H' s':=by
 obtain⟨h',g',d',t',o'⟩:=s'
 have e:o'=s.os:=ho
 subst e
 exact I.call (g':=g') (t':=t') (d':=d') u hok hg hch
end
abbrev XK:=Value->Option Addr->Hp->Prop
abbrev St:=List (Option V)
abbrev VK:=V->Hp->Prop
abbrev TE:=St->Hp->VK->Prop
abbrev TT:=St->Hp->(Bool->Hp->Prop)->Prop
abbrev TA:=St->Hp->(List V->Hp->Prop)->Prop
structure Ends where
 nx:St->Hp->Prop
 rt:VK
 bk:St->Hp->Prop:=fun _ _=>False
 ct:St->Hp->Prop:=fun _ _=>False
abbrev TS:=Ends->St->Hp->Prop
def EP (X:Cx) (pins:List (Addr×Obj)) (σ:St) (Q:VK) (u:Value) (s':Shared):Prop:=∃v H',Inv X pins σ H' s'/\RelV v u/\Q v H'
def TP (X:Cx) (pins:List (Addr×Obj)) (σ:St) (Q:Bool->Hp->Prop) (b:Bool) (s':Shared):Prop:=∃H',Inv X pins σ H' s'/\Q b H'
def AP (X:Cx) (pins:List (Addr×Obj)) (σ:St) (Q:List V->Hp->Prop) (us:List Value) (s':Shared):Prop:=∃vs H',Inv X pins σ H' s'/\Vals vs us/\Q vs H'
def SP (X:Cx) (pins:List (Addr×Obj)) (D:Ends) (f:Flow) (s':Shared):Prop:=
 match f with
 | .next=>∃σ' H',Inv X pins σ' H' s'/\D.nx σ' H'
 | .brk=>∃σ' H',Inv X pins σ' H' s'/\D.bk σ' H'
 | .cont=>∃σ' H',Inv X pins σ' H' s'/\D.ct σ' H'
 | .ret u=>∃v σ' H',Inv X pins σ' H' s'/\RelV v u/\D.rt v H'
def PE (X:Cx) (e:Expr) (t:TE):Prop:=
 ∀(pins:List (Addr×Obj)) (s:Shared) (σ:St) (H:Hp) (Q:VK),Inv X pins σ H s->t σ H Q->wpAny (model X.prog X.w) X.A (eval e X.env) (EP X pins σ Q) X.xe s
def PT (X:Cx) (e:Expr) (t:TT):Prop:=
 ∀(pins:List (Addr×Obj)) (s:Shared) (σ:St) (H:Hp) (Q:Bool->Hp->Prop),Inv X pins σ H s->t σ H Q->wpAny (model X.prog X.w) X.A (isTrue e X.env (eval e X.env)) (TP X pins σ Q) X.xe s
def PW (X:Cx) (e:Expr) (t:TT):Prop:=
 ∀(whole:Sem Value) (pins:List (Addr×Obj)) (s:Shared) (σ:St) (H:Hp) (Q:Bool->Hp->Prop),Inv X pins σ H s->t σ H Q->wpAny (model X.prog X.w) X.A (isTrue e X.env whole) (TP X pins σ Q) X.xe s
theorem PW.pt {X:Cx}{e:Expr}{t:TT} (h:PW X e t):PT X e t:=h _
def PA (X:Cx) (es:List Expr) (t:TA):Prop:=
 ∀(pos:Pos) (pins:List (Addr×Obj)) (s:Shared) (σ:St) (H:Hp) (Q:List V->Hp->Prop),Inv X pins σ H s->t σ H Q->wpAny (model X.prog X.w) X.A (spliced (backTo pos (starEach es X.env))) (AP X pins σ Q) X.xe s
def PS (X:Cx) (st:Stmt) (t:TS):Prop:=
 ∀(pins:List (Addr×Obj)) (s:Shared) (σ:St) (H:Hp) (D:Ends),Inv X pins σ H s->t D σ H->wpAny (model X.prog X.w) X.A (exec st X.env) (SP X pins D) X.xe s
def PSs (X:Cx) (st:List Stmt) (t:TS):Prop:=
 ∀(pins:List (Addr×Obj)) (s:Shared) (σ:St) (H:Hp) (D:Ends),Inv X pins σ H s->t D σ H->wpAny (model X.prog X.w) X.A (execs st X.env) (SP X pins D) X.xe s
theorem thn {α:Type}{t:Sem α}{Q Q':α->Shared->Prop}{M:Model}{A:Around}{E:Value->Shared->Prop}{s:Shared} (h:wpAny M A t Q E s) (hQ:∀a s,Q a s->Q' a s):wpAny M A t Q' E s:=wpAny_mono h hQ fun _ _ x=>x
end L2
namespace L2
open PySem PySem.Spec PyProof.Rows
section
variable {X:Cx}
def Xo (i:Nat):TE:=fun σ H Q=>∃v,σ[i]? =some (some v)/\Q v H
def tC (v:V):TE:=fun _ H Q=>Q v H
theorem Xp {i:Nat}{x:Str}{pos:Pos} (hN:X.N[i]? =some x) (hv:Vis X.env.scope x) (hd:(x==("__debug__":Str))=false:=by decide) (hcd:(x==("__classdict__":Str))=false:=by decide):PE X (.Name x pos) (Xo i):=by
 intro pins s σ H Q I h
 obtain⟨v,e,h⟩:=h
 obtain⟨m,hn,hl⟩:=I.loc
 obtain⟨u,r,l⟩:=hl i x v hN e hv
 have fin:EP X pins σ Q u s:=⟨v,H,I,r,h⟩
 rcases l with⟨hk,hm⟩ | ⟨hk,c,hc,hcell⟩
 ·exact wpAny_Name (wpAny_loadName_local I.ok.kind hk hn hm fin) hd
 ·rcases hk with hk | hk
  ·exact wpAny_Name (wpAny_loadName_cell I.ok.kind hk hc hcell fin) hd
  ·exact wpAny_Name (wpAny_loadName_free I.ok.kind hk hc hcell fin hcd) hd
theorem Xq {i j pos}:PE X (.Constant (.int i) j pos) (tC (.int i)):=fun _ _ _ H _ I h=>wpAny_Constant_int ⟨.int i,H,I.tok _,⟨_,rfl⟩,h⟩
theorem abh {b j pos}:PE X (.Constant (.bool b) j pos) (tC (.bl b)):=fun _ _ _ H _ I h=>Constant_bool ⟨.bl b,H,I,rfl,h⟩
theorem Xr {j pos}:PE X (.Constant .none j pos) (tC .non):=fun _ _ _ H _ I h=>Constant_none ⟨.non,H,I,rfl,h⟩
theorem Xu {x j pos}:PE X (.Constant (.str x) j pos) (tC (.str x)):=fun _ _ _ H _ I h=>Calls.Constant_str ⟨.str x,H,I.tok _,⟨_,rfl⟩,h⟩
def Gl (X:Cx) (x:Str):Prop:=X.env.kindOf x=some .globalImplicit
theorem Gq {E:Value->Shared->Prop}{pins:List (Addr×Obj)}{s:Shared}{σ:St}{H:Hp}{x:Str}{u:Value}{pos:Pos}{Q:Value->Shared->Prop} (I:Inv X pins σ H s) (hg:Gl X x) (hm:X.mg x=some u) (h:Q u s)
 (hd:(x==("__debug__":Str))=false:=by decide):wpAny (model X.prog X.w) X.A (eval (.Name x pos) X.env) Q E s:=
 Calls.Name_function_global I.ok.kind hg (Calls.loadGlobal_global (by rw[I.ok.glob];exact I.mod.glob.keeps I.bk) hm h) hd
theorem uW {E:Value->Shared->Prop}{pins:List (Addr×Obj)}{s:Shared}{σ:St}{H:Hp}{x:Str}{u:Value}{pos:Pos}{Q:Value->Shared->Prop} (I:Inv X pins σ H s) (hg:Gl X x) (hm:X.mg x=none) (hv:bootBuiltins x=some u) (h:Q u s)
 (hn:x≠"__name__":=by decide) (hd:(x==("__debug__":Str))=false:=by decide):wpAny (model X.prog X.w) X.A (eval (.Name x pos) X.env) Q E s:=by
 obtain⟨mb,h1,h2⟩:=I.mod.blt
 exact Calls.Name_function_global I.ok.kind hg (Calls.loadGlobal_builtin (by rw[I.ok.glob];exact I.mod.glob.keeps I.bk) hm (by rw[I.ok.blt];exact h1.keeps I.bk) ((h2 x hn).trans hv) h) hd
theorem R6 {x:Str}{v:V}{u:Value}{pos:Pos} (hg:Gl X x) (hm:X.mg x=some u) (r:RelV v u) (hd:(x==("__debug__":Str))=false:=by decide):PE X (.Name x pos) (tC v):=
 fun _ _ _ H _ I h=>Gq I hg hm ⟨v,H,I,r,h⟩ hd
theorem R7 {x:Str}{v:V}{u:Value}{pos:Pos} (hg:Gl X x) (hm:X.mg x=none) (hv:bootBuiltins x=some u) (r:RelV v u) (hn:x≠"__name__":=by decide) (hd:(x==("__debug__":Str))=false:=by decide):PE X (.Name x pos) (tC v):=
 fun _ _ _ H _ I h=>uW I hg hm hv ⟨v,H,I,r,h⟩ hn hd
variable {a b:Expr}{ta tb:TE}{pos:Pos}
def PC (X:Cx) (op:CmpOp) (a b:Expr) (t:TE):Prop:=
 ∀(pins:List (Addr×Obj)) (s:Shared) (σ:St) (H:Hp) (Q:VK),Inv X pins σ H s->t σ H Q->
  wpAny (model X.prog X.w) X.A (eval a X.env) (fun v s₁=>wpAny (model X.prog X.w) X.A (eval b X.env) (fun u s₂=>wpAny (model X.prog X.w) X.A (compareOp op v u) (EP X pins σ Q) X.xe s₂) X.xe s₁) X.xe s
def tB (t:TE):TT:=fun σ H Q=>t σ H fun x H1=>∃c,x= .bl c/\Q c H1
theorem OD {op:CmpOp}{t:TE} (h:PC X op a b t) (h1:behindInMarks op b=false:=by first | exact nobehind _ (by decide) (by decide) | rfl):PT X (.Compare a [op] [b] pos) (tB t):=by
 intro pins s σ H Q I hw
 refine wpAny_isTrue_Compare1 (thn (h pins s σ H _ I hw) fun v s1 h1=>thn h1 fun u s2 h2=>thn h2 fun c s3 ⟨x,H1,I1,r1,q1⟩=> ?_) h1
 obtain⟨d,rfl,q⟩:=q1
 cases r1
 exact wpAny_truthy_bool ⟨H1,I1,q⟩
theorem Xv {e:Expr}{t:TE} (h:PE X e t) (he:∀whole,isTrue e X.env whole=(do let v <-whole;standAt e.pos;holding [v] (truthy v)):=by intro _;rfl):PT X e (tB t):=by
 intro pins s σ H Q I hw
 refine isTrue_plain (thn (h pins s σ H _ I hw) fun v s1 ⟨x,H1,I1,r1,q1⟩=> ?_) (he _)
 obtain⟨d,rfl,q⟩:=q1
 cases r1
 exact wpAny_truthy_bool ⟨H1,I1,q⟩
variable {tA tB':TT}{rest:List Expr}
def abi (t u:TT):TT:=fun σ H Q=>t σ H fun c H1=>if c=true then u σ H1 Q else Q false H1
def tOr (t u:TT):TT:=fun σ H Q=>t σ H fun c H1=>if c=true then Q true H1 else u σ H1 Q
def abj (t:TT):TT:=fun σ H Q=>t σ H fun c H1=>Q (!c) H1
theorem R8 (ha:PT X a tA):PW X (.BoolOp .And [a] pos) tA:=by
 intro wh pins s σ H Q I h
 refine isTrue_and (thn (ha pins s σ H Q I h) fun c s1 e=> ?_)
 cases c with
 | true=>exact isTrue_and_nil e
 | false=>exact e
theorem Xw (ha:PT X a tA):PW X (.BoolOp .Or [a] pos) tA:=by
 intro wh pins s σ H Q I h
 refine isTrue_or (thn (ha pins s σ H Q I h) fun c s1 e=> ?_)
 cases c with
 | false=>exact isTrue_or_nil e
 | true=>exact e
theorem Xx (ha:PT X a tA) (hb:PW X (.BoolOp .And (b::rest) pos) tB'):PW X (.BoolOp .And (a::b::rest) pos) (abi tA tB'):=by
 intro wh pins s σ H Q I h
 refine isTrue_and (thn (ha pins s σ H _ I h) fun c s1 ⟨H1,I1,q1⟩=> ?_)
 cases c with
 | true=>exact hb wh pins s1 σ H1 Q I1 q1
 | false=>exact⟨H1,I1,q1⟩
theorem abk (ha:PT X a tA) (hb:PW X (.BoolOp .Or (b::rest) pos) tB'):PW X (.BoolOp .Or (a::b::rest) pos) (tOr tA tB'):=by
 intro wh pins s σ H Q I h
 refine isTrue_or (thn (ha pins s σ H _ I h) fun c s1 ⟨H1,I1,q1⟩=> ?_)
 cases c with
 | true=>exact⟨H1,I1,q1⟩
 | false=>exact hb wh pins s1 σ H1 Q I1 q1
theorem Xy (ha:PT X a tA):PT X (.UnaryOp .Not a pos) (abj tA):=by
 intro pins s σ H Q I h
 exact isTrue_not (ha pins s σ H (fun c H1=>Q (!c) H1) I h)
def V8 (ta tb:TE):TE:=fun σ H Q=>ta σ H fun x H1=>∃c,x= .bl c/\if c=true then tb σ H1 Q else Q (.bl false) H1
def V9 (ta:TE):TE:=fun σ H Q=>ta σ H fun x H1=>∃c,x= .bl c/\Q (.bl (!c)) H1
theorem Xz {op}{t:TE} (h:PE X a t):PE X (.BoolOp op [a] pos) t:=fun pins s σ H Q I hw=>BoolOp_one (h pins s σ H Q I hw)
theorem XC (ha:PE X a ta) (hb:PE X (.BoolOp .And (b::rest) pos) tb):PE X (.BoolOp .And (a::b::rest) pos) (V8 ta tb):=by
 intro pins s σ H Q I h
 refine BoolOp_and (thn (ha pins s σ H _ I h) fun v s1 ⟨x,H1,I1,r1,q1⟩=> ?_)
 obtain⟨c,rfl,q1⟩:=q1
 cases r1
 refine wpAny_truthy_bool ?_
 cases c with
 | true=>exact hb pins s1 σ H1 Q I1 q1
 | false=>exact⟨.bl false,H1,I1,rfl,q1⟩
theorem XD (ha:PE X a ta):PE X (.UnaryOp .Not a pos) (V9 ta):=by
 intro pins s σ H Q I h
 refine UnaryOp_ (thn (ha pins s σ H _ I h) fun v s1 ⟨x,H1,I1,r1,q1⟩=> ?_)
 obtain⟨c,rfl,q1⟩:=q1
 cases r1
 exact not_of (wpAny_truthy_bool ⟨.bl (!c),H1,I1,rfl,q1⟩)
def tIf (t:TT) (ta tb:TE):TE:=fun σ H Q=>t σ H fun c H1=>if c=true then ta σ H1 Q else tb σ H1 Q
theorem OJ {c:Expr} (hc:PT X c tA) (ha:PE X a ta) (hb:PE X b tb):PE X (.IfExp c a b pos) (tIf tA ta tb):=by
 intro pins s σ H Q I h
 refine wpAny_IfExp (thn (hc pins s σ H _ I h) fun d s1 ⟨H1,I1,q1⟩=> ?_)
 cases d with
 | true=>exact ha pins s1 σ H1 Q I1 q1
 | false=>exact hb pins s1 σ H1 Q I1 q1
end
end L2
namespace L2
open PySem PySem.Spec PyProof.Rows
def SqL (K:PySem.W.Frag) (H:Hp) (a:Addr) (xs:List V):Prop:=
 Rd H a (.lst xs)\/
  ∃(o:Obj) (its:Array Value) (n:Nat),K.lookup a=some o/\o.cls= .type "list"/\o.dict=none/\o.data= .seq its n/\its.size<=sizeLine/\Vals xs its.toList
def SqT (K:PySem.W.Frag) (H:Hp) (a:Addr) (xs:List V):Prop:=
 Rd H a (.tup xs)\/
  ∃(o:Obj) (its:Array Value) (n:Nat),K.lookup a=some o/\o.cls= .type "tuple"/\o.data= .seq its n/\its.size<=sizeLine/\Vals xs its.toList
def ae9:Value->Option V
 | .none=>some .non
 | .bool b=>some (.bl b)
 | .int i _=>some (.int i)
 | .str x _=>some (.str x)
 | .bytes b _=>some (.byt b)
 | .float b _=>some (.flt b)
 | .ref a=>some (.ref a)
 | .type n=>some (.ty n)
 | _=>none
theorem RelV.abs {x:V}{u:Value} (r:RelV x u):ae9 u=some x:=by
 cases x with
 | non=>cases r;rfl
 | bl _=>cases r;rfl
 | int _=>obtain⟨t,rfl⟩:=r;rfl
 | str _=>obtain⟨t,rfl⟩:=r;rfl
 | byt _=>obtain⟨t,rfl⟩:=r;rfl
 | flt _=>obtain⟨t,rfl⟩:=r;rfl
 | ref _=>cases r;rfl
 | ty _=>cases r;rfl
theorem RelV.inj {x y:V}{u:Value} (r:RelV x u) (q:RelV y u):x=y:=Option.some.inj (r.abs.symm.trans q.abs)
theorem Vals.inj:∀{xs ys:List V}{us:List Value},Vals xs us->Vals ys us->xs=ys
 | _,_,_, .nil, .nil=>rfl
 | _,_,_, .cons r t, .cons r' t'=>by rw[r.inj r',Vals.inj t t']
section
variable {X:Cx}{pins:List (Addr×Obj)}{σ:St}{H:Hp}{s:Shared}{a:Addr}{xs ys:List V}
theorem SqL.of {K:PySem.W.Frag} (h:H a=some (.lst xs)):SqL K H a xs:= .inl (.inl h)
theorem SqT.of {K:PySem.W.Frag} (h:H a=some (.tup xs)):SqT K H a xs:= .inl (.inl h)
theorem Inv.list (I:Inv X pins σ H s) (h:SqL X.K H a xs):∃its:List Value,Vals xs its/\PlainL s.heap a its.toArray/\xs.length<=sizeLine:=by
 rcases h with h | ⟨o,its,n,hk,hc,hd,hs,hz,r⟩
 ·obtain⟨z,its,n,r,e⟩:=h.ok I.hok
  exact⟨its,r,⟨_,n,e,rfl,rfl,rfl⟩,z⟩
 ·refine⟨its.toList,r,⟨o,n,I.kIn a o hk,hc,hd,by simpa using hs⟩, ?_⟩
  have e:=r.length
  simp only[Array.length_toList] at e
  omega
theorem Inv.tuple (I:Inv X pins σ H s) (h:SqT X.K H a xs):∃its:List Value,Vals xs its/\IsTup s.heap a its.toArray/\xs.length<=sizeLine:=by
 rcases h with h | ⟨o,its,n,hk,hc,hs,hz,r⟩
 ·obtain⟨z,its,r,p⟩:=h.ok I.hok
  exact⟨its,r,p,z⟩
 ·refine⟨its.toList,r,⟨o,I.kIn a o hk,hc,n,by simpa using hs⟩, ?_⟩
  have e:=r.length
  simp only[Array.length_toList] at e
  omega
theorem Inv.HN (I:Inv X pins σ H s) (h:SqL X.K H a xs) (h':SqL X.K H a ys):xs=ys:=by
 obtain⟨its,r,⟨o,n,e,_,_,d⟩,_⟩:=I.list h
 obtain⟨its',r',⟨o',n',e',_,_,d'⟩,_⟩:=I.list h'
 rw[e] at e';cases e'
 rw[d] at d'
 injection d' with d1 _
 have:its=its':=by simpa using congrArg Array.toList d1
 subst this
 exact r.inj r'
theorem Inv.Fp (I:Inv X pins σ H s) (h:SqT X.K H a xs) (h':SqT X.K H a ys):xs=ys:=by
 obtain⟨its,r,⟨o,e,_,n,d⟩,_⟩:=I.tuple h
 obtain⟨its',r',⟨o',e',_,n',d'⟩,_⟩:=I.tuple h'
 rw[e] at e';cases e'
 rw[d] at d'
 injection d' with d1 _
 have:its=its':=by simpa using congrArg Array.toList d1
 subst this
 exact r.inj r'
end
abbrev Cx.wish (X:Cx) (E:Value->Shared->Prop):Cx:={X with xe:=E}
abbrev Cx.nox (X:Cx):Cx:=X.wish fun _ _=>False
theorem Cx.Ok.wish {X:Cx} (ok:X.Ok) (E:Value->Shared->Prop):(X.wish E).Ok:=
 ⟨ok.mod,ok.kind,ok.glob,ok.blt,ok.above,ok.inj,ok.has,ok.cab,ok.hd,ok.frames,ok.stk,ok.exf,ok.bs,ok.bsz,ok.noex,ok.exfs,ok.funs,ok.frf⟩
theorem Cx.Ok.unwish {X:Cx}{E:Value->Shared->Prop} (ok:(X.wish E).Ok):X.Ok:=
 ⟨ok.mod,ok.kind,ok.glob,ok.blt,ok.above,ok.inj,ok.has,ok.cab,ok.hd,ok.frames,ok.stk,ok.exf,ok.bs,ok.bsz,ok.noex,ok.exfs,ok.funs,ok.frf⟩
section
variable {X:Cx}{pins:List (Addr×Obj)}{σ:St}{H:Hp}{s:Shared}{E:Value->Shared->Prop}
theorem Inv.wish (I:Inv X pins σ H s) (E:Value->Shared->Prop):Inv (X.wish E) pins σ H s:=⟨I.ok.wish E,I.os,I.bare,I.base,I.loc,I.cell,I.free,I.rE,I.pin,I.hok,I.len⟩
theorem Inv.unwish (I:Inv (X.wish E) pins σ H s):Inv X pins σ H s:=⟨I.ok.unwish,I.os,I.bare,I.base,I.loc,I.cell,I.free,I.rE,I.pin,I.hok,I.len⟩
theorem SP.unwish {D:Ends}{f:Flow}{s':Shared} (h:SP (X.wish E) pins D f s'):SP X pins D f s':=by
 cases f with
 | next=>obtain⟨σ',H',I,q⟩:=h;exact⟨σ',H',I.unwish,q⟩
 | brk=>obtain⟨σ',H',I,q⟩:=h;exact⟨σ',H',I.unwish,q⟩
 | cont=>obtain⟨σ',H',I,q⟩:=h;exact⟨σ',H',I.unwish,q⟩
 | ret u=>obtain⟨v,σ',H',I,r,q⟩:=h;exact⟨v,σ',H',I.unwish,r,q⟩
theorem PSs.nox {st:List Stmt}{t:TS} (h:PSs X.nox st t):PSs X st t:=fun pins s σ H D I hw=>
 wpAny_mono (h pins s σ H D (I.wish _) hw) (fun _ _ q=>q.unwish) fun _ _ z=>False.elim z
end
section
variable {X:Cx}{st:Stmt}{rest:List Stmt}{t u:TS}{e:Expr}{te:TE}{pos:Pos}
def Ly:TS:=fun D σ H=>D.nx σ H
def abl (t u:TS):TS:=fun D σ H=>t {D with nx:=u D} σ H
theorem R9:PSs X [] Ly:=fun _ _ σ H _ I h=>wpAny_execs_nil ⟨σ,H,I,h⟩
theorem O1 (h1:PS X st t) (h2:PSs X rest u):PSs X (st::rest) (abl t u):=by
 intro pins s σ H D I h
 refine wpAny_execs_cons (thn (h1 pins s σ H {D with nx:=u D} I h) fun f s1 q=> ?_)
 cases f with
 | next=>
   obtain⟨σ',H',I',q⟩:=q
   exact h2 pins s1 σ' H' D I' q
 | ret v=>exact q
 | brk=>exact q
 | cont=>exact q
theorem Sd (h1:PS X st t):PSs X [st] t:=by
 intro pins s σ H D I h
 refine wpAny_execs_cons (thn (h1 pins s σ H D I h) fun f s1 q=> ?_)
 cases f with
 | next=>exact wpAny_execs_nil q
 | ret v=>exact q
 | brk=>exact q
 | cont=>exact q
def O2:TS:=fun D σ H=>D.bk σ H
def Wa:TS:=fun D σ H=>D.ct σ H
theorem Sg:PS X (.Pass pos) Ly:=fun _ _ σ H _ I h=>wpAny_Pass ⟨σ,H,I,h⟩
theorem O3:PS X (.Break pos) O2:=fun _ _ σ H _ I h=>wpAny_Break ⟨σ,H,I,h⟩
theorem HQ:PS X (.Continue pos) Wa:=fun _ _ σ H _ I h=>wpAny_Continue ⟨σ,H,I,h⟩
theorem Inv.quiet {pins:List (Addr×Obj)}{σ:St}{H:Hp}{s:Shared} (I:Inv X pins σ H s):interactive X.env=false:=by simp[interactive,I.ok.kind]
def Wb (te:TE):TS:=fun D σ H=>te σ H fun _ H1=>D.nx σ H1
theorem Sh (he:PE X e te) (hs:swapsWith e none pos.line X.env=pure false:=by rfl):PS X (.Expr e pos) (Wb te):=by
 intro pins s σ H D I h
 exact wpAny_Expr_any (thn (he pins s σ H _ I h) fun v s1 ⟨x,H1,I1,r1,q1⟩=>⟨σ,H1,I1,q1⟩) I.quiet hs
def abm (te:TE):TS:=fun D σ H=>te σ H D.rt
theorem XF (he:PE X e te):PS X (.Return (some e) pos) (abm te):=by
 intro pins s σ H D I h
 exact wpAny_Return_some (thn (he pins s σ H _ I h) fun v s1 ⟨x,H1,I1,r1,q1⟩=>⟨x,σ,H1,I1,r1,q1⟩)
def abn (c:TT) (t u:TS):TS:=fun D σ H=>c σ H fun b H1=>if b=true then t D σ H1 else u D σ H1
theorem abo {c:Expr}{a b:List Stmt}{tc:TT} (hc:PT X c tc) (ha:PSs X a t) (hb:PSs X b u):PS X (.If c a b pos) (abn tc t u):=by
 intro pins s σ H D I h
 refine wpAny_If (thn (hc pins s σ H _ I h) fun d s1 ⟨H1,I1,q1⟩=> ?_)
 cases d with
 | true=>exact ha pins s1 σ H1 D I1 q1
 | false=>exact hb pins s1 σ H1 D I1 q1
def O4:TS:=fun _ _ _=>False
theorem O5:PS X st O4:=fun _ _ _ _ _ _ h=>h.elim
end
abbrev TG:=V->St->Hp->(St->Hp->Prop)->Prop
abbrev TGs:=List V->St->Hp->(St->Hp->Prop)->Prop
def PG (X:Cx) (target:Expr) (t:TG):Prop:=
 ∀(pins:List (Addr×Obj)) (s:Shared) (σ:St) (H:Hp) (v:V) (u:Value) (Q:St->Hp->Prop),Inv X pins σ H s->RelV v u->t v σ H Q->
  wpAny (model X.prog X.w) X.A (assign target X.env u) (fun _ s'=>∃σ' H',Inv X pins σ' H' s'/\Q σ' H') X.xe s
def PGs (X:Cx) (ts:List Expr) (t:TGs):Prop:=
 ∀(pins:List (Addr×Obj)) (s:Shared) (σ:St) (H:Hp) (vs:List V) (us:List Value) (Q:St->Hp->Prop),Inv X pins σ H s->Vals vs us->t vs σ H Q->
  wpAny (model X.prog X.w) X.A (assignInOrder ((assignEach ts X.env).map (·.2)) us) (fun _ s'=>∃σ' H',Inv X pins σ' H' s'/\Q σ' H') X.xe s
section
variable {X:Cx}{pos:Pos}
def zc (i:Nat):TG:=fun v σ H Q=>Q (σ.set i (some v)) H
theorem Lz {i:Nat}{x:Str} (hN:X.N.Nodup) (hi:X.N[i]? =some x) (hx:Loc X.env.scope x) (hf:X.fn x=true\/X.env.scope.names.lookup x=some .local:=by first | exact .inl rfl | exact .inr rfl | assumption):PG X (.Name x pos) (zc i):=by
 intro pins s σ H v u Q I r h
 exact wpAny_assign_Name (HJ I hN hi hx r (fun s' I'=>⟨_,H,I',h⟩) hf)
def abp:TGs:=fun vs σ H Q=>vs=[]/\Q σ H
def Wd (t:TG) (u:TGs):TGs:=fun vs σ H Q=>∃v r,vs=v::r/\t v σ H fun σ' H'=>u r σ' H' Q
theorem Sq:PGs X [] abp:=by
 intro pins s σ H vs us Q I r h
 obtain⟨e,h⟩:=h
 subst e
 cases r
 exact assignInOrder_nil ⟨σ,H,I,h⟩
theorem O6 {e:Expr}{es:List Expr}{t:TG}{u:TGs} (h1:PG X e t) (h2:PGs X es u)
 (hs:(assignEach (e::es) X.env).map (·.2)=assign e X.env::(assignEach es X.env).map (·.2):=by rfl):PGs X (e::es) (Wd t u):=by
 intro pins s σ H vs us Q I r h
 obtain⟨v,vr,e1,h⟩:=h
 subst e1
 cases r with
 | cons r rr=>
   rw[hs]
   refine assignInOrder_cons (thn (h1 pins s σ H _ _ _ I r h) fun _ s1 ⟨σ1,H1,I1,q1⟩=> ?_)
   exact h2 pins s1 σ1 H1 _ _ Q I1 rr q1
def XH (K:PySem.W.Frag) (n:Nat) (t:TGs):TG:=fun v σ H Q=>∃a xs,v= .ref a/\SqT K H a xs/\xs.length=n/\t xs σ H Q
theorem XJ {es:List Expr}{k:Nat}{t:TGs}{n:Nat} (hc:X.calm=true) (h:PGs X es t)
 (hn:(assignEach es X.env).length=n:=by rfl) (hst:(assignEach es X.env).findIdx? (·.1)=none:=by rfl):PG X (.Tuple es k pos) (XH X.K n t):=by
 intro pins s σ H v u Q I r hw
 obtain⟨a,xs,e1,hq,hl,hw⟩:=hw
 subst e1
 cases r
 obtain⟨its,rv,ht,hz⟩:=I.tuple hq
 refine assign_Tuple_tuple (I.ok.hd hc) ht (by simp[hn,<-hl,rv.length]) hst fun h' hx=> ?_
 have I1:Inv X pins σ H {s with heap:=h'}:=I.kept (t':=s.toks) fun b o e=>hx b o (Nat.ne_of_lt (Heap.lt_size e)) e
 exact h pins _ σ H xs _ Q I1 (by simpa using rv) hw
def Nj (te:TE) (g:TG):TS:=fun D σ H=>te σ H fun x H1=>g x σ H1 D.nx
theorem XM {tg e:Expr}{te:TE}{g:TG} (he:PE X e te) (hg:PG X tg g) (hs:swapsWithSole [tg] e pos.line X.env=pure false:=by rfl) (hw:swappedStores [tg] e X.env=pure none:=by rfl)
 (h1:(assignEach [tg] X.env).map (·.2)=[assign tg X.env]:=by rfl):PS X (.Assign [tg] e pos) (Nj te g):=by
 intro pins s σ H D I h
 refine wpAny_Assign_stores (thn (he pins s σ H _ I h) fun v s1 ⟨x,H1,I1,r1,q1⟩=> ?_) hs hw
 rw[h1]
 exact thn (hg pins s1 σ H1 x v _ I1 r1 q1) fun _ s2 q=>q
theorem XN {i:Nat}{x:Str}{e:Expr}{te:TE}{pos':Pos} (hN:X.N.Nodup) (hi:X.N[i]? =some x) (hx:Loc X.env.scope x) (he:PE X e te) (hs:swapsWith e (some (.Name x pos')) pos.line X.env=pure false:=by rfl) (hf:X.fn x=true\/X.env.scope.names.lookup x=some .local:=by first | exact .inl rfl | exact .inr rfl | assumption):
 PS X (.Assign [.Name x pos'] e pos) (Nj te (zc i)):=by
 intro pins s σ H D I h
 refine wpAny_Assign_Name (thn (he pins s σ H _ I h) fun v s1 ⟨y,H1,I1,r1,q1⟩=> ?_) hs
 exact HJ I1 hN hi hx r1 (fun s2 I2=>⟨_,H1,I2,q1⟩) hf
end
section
variable {X:Cx}{pos:Pos}
def O7 (c:TT) (tb:TS):TS:=fun D σ H=>∃W:Nat->St->Hp->Prop,(∃m,W m σ H)/\∀m σ H,W m σ H->
 c σ H fun b H1=>if b=true then∃N:St->Hp->Prop,(∀σ' H',N σ' H'->∃m',m'<m/\W m' σ' H')/\tb {D with nx:=N,ct:=N,bk:=D.nx} σ H1 else D.nx σ H1
theorem O8 {c:Expr}{body:List Stmt}{tc:TT}{tb:TS} (hp:PassesOwn (model X.prog X.w) X.A X.env X.xe) (hc:PT X c tc) (hb:PSs X body tb):PS X (.While c body [] pos) (O7 tc tb):=by
 intro pins s σ H D I h
 obtain⟨W,⟨m0,w0⟩,turn⟩:=h
 refine wpAny_While (codeAny_whileLoop (fun n s'=>∃σ' H',Inv X pins σ' H' s'/\W n σ' H') ?_ m0 ⟨σ,H,I,w0⟩)
 rintro n s1 ⟨σ1,H1,I1,w1⟩
 refine wpAny_passesOwn hp (thn (hc pins s1 σ1 H1 _ I1 (turn n σ1 H1 w1)) fun b s2 ⟨H2,I2,q2⟩=> ?_)
 cases b with
 | true=>
   obtain⟨N,hN,q2⟩:=q2
   rw[if_pos rfl]
   refine wpAny_passesOwn hp (thn (hb pins s2 σ1 H2 _ I2 q2) fun f s3 q3=> ?_)
   cases f with
   | next=>
     obtain⟨σ3,H3,I3,n3⟩:=q3
     obtain⟨m',hm,w3⟩:=hN σ3 H3 n3
     exact⟨m',hm,σ3,H3,I3,w3⟩
   | cont=>
     obtain⟨σ3,H3,I3,n3⟩:=q3
     obtain⟨m',hm,w3⟩:=hN σ3 H3 n3
     exact⟨m',hm,σ3,H3,I3,w3⟩
   | brk=>exact q3
   | ret v=>exact q3
 | false=>
   rw[if_neg Bool.false_ne_true]
   exact wpAny_execs_nil ⟨σ1,H2,I2,q2⟩
end
structure It where
 go:Nat->Hp->Prop
 yld:Nat->Hp->V->Hp->Prop
 stop:Nat->Hp->Prop
def Af (X:Cx) (pins:List (Addr×Obj)) (H:Hp) (b:Addr):Prop:=
 H b=none/\b≠X.env.locals/\b∉X.fs/\(b∈X.ex\/X.s₀.heap.objs.size<=b)/\(∀x c,X.env.cells.lookup x=some c->c≠b)/\∀p∈X.pn++pins,p.1≠b
theorem Inv.Gr {X:Cx}{pins:List (Addr×Obj)}{σ:St}{H H':Hp}{s:Shared}{b:Addr} (I:Inv X pins σ H s) (hb:s.heap.objs.size<=b) (hn:H' b=none):Af X pins H' b:=by
 refine⟨hn,Nat.ne_of_gt (Nat.lt_of_lt_of_le I.lt hb),I.nofs hb, .inr (Nat.le_trans I.sz hb),fun x c e z=> ?_,fun p hp z=> ?_⟩
 ·obtain⟨v,q⟩:=I.cell x c e
  exact absurd (Nat.lt_of_lt_of_le q.lt (by rw[z];exact hb)) (Nat.lt_irrefl _)
 ·exact absurd (Nat.lt_of_lt_of_le (Heap.lt_size (I.pin p hp).1) (by rw[z];exact hb)) (Nat.lt_irrefl _)
structure Turn (P:Program) (w:World) (K:PySem.W.Frag) (tg:Expr) (J:It) (fp:List Addr) (it:Addr) (tn:Nat->Heap->Prop):Prop where
 mem:it∈fp
 obj:∀i h,tn i h->∀b∈fp,∃o,h.get? b=some o/\∀v,o.data≠ .cell v
 keep:∀i h h',tn i h->(∀b∈fp,∀o,h.get? b=some o->h'.get? b=some o)->tn i h'
 item:∀(X:Cx),X.prog=P->X.w=w->X.K=K->X.calm=true->∀(i:Nat) (pins:List (Addr×Obj)) (s:Shared) (σ:St) (H:Hp) (E:Value->Shared->Prop),Inv X pins σ H s->(∀b∈fp,Af X pins H b)->tn i s.heap->J.go i H->
  wpAny (model P w) X.A (pyNext (.ref it)) (fun r s1=>∃u,r=some u/\
   wpAny (model P w) X.A (letOwnedTupleGo tg (.ref it) u) (fun _ s2=>∃x H',Inv X pins σ H' s2/\RelV x u/\J.yld i H x H'/\tn (i+1) s2.heap/\∀b∈fp,H' b=none) E s1) E s
 done:∀(X:Cx),X.prog=P->X.w=w->X.K=K->X.calm=true->∀(i:Nat) (pins:List (Addr×Obj)) (s:Shared) (σ:St) (H:Hp) (E:Value->Shared->Prop),Inv X pins σ H s->(∀b∈fp,Af X pins H b)->tn i s.heap->J.stop i H->
  wpAny (model P w) X.A (pyNext (.ref it)) (fun r s1=>r=none/\Inv X pins σ H s1) E s
 self:∀(A:Around) (i:Nat) (s:Shared) (Q:Value->Shared->Prop) (E:Value->Shared->Prop),tn i s.heap->Q (.ref it) s->wpAny (model P w) A (pyIter (.ref it)) Q E s
abbrev TI:=St->Hp->(It->Hp->Prop)->Prop
def PIE (X:Cx) (pins:List (Addr×Obj)) (σ:St) (tg:Expr) (R:It->Hp->Prop) (itv:Value) (s2:Shared):Prop:=
 ∃(it:Addr) (fp:List Addr) (tn:Nat->Heap->Prop) (J:It) (H':Hp),itv= .ref it/\Inv X pins σ H' s2/\Turn X.prog X.w X.K tg J fp it tn/\tn 0 s2.heap/\(∀b∈fp,Af X pins H' b)/\R J H'
def PI (X:Cx) (tg iter:Expr) (wi:TI):Prop:=
 ∀(pins:List (Addr×Obj)) (s:Shared) (σ:St) (H:Hp) (R:It->Hp->Prop),Inv X pins σ H s->wi σ H R->
  wpAny (model X.prog X.w) X.A (eval iter X.env) (fun v s1=>wpAny (model X.prog X.w) X.A (pyIter v) (PIE X pins σ tg R) X.xe s1) X.xe s
theorem O9 {M:Model}{A:Around}{E:Value->Shared->Prop}{s:Shared}{tg:Expr}{it:Addr}{u:Value}{o:Obj}{n:String}{vs:Array Value}{Q:Unit->Shared->Prop} (ho:s.heap.get? it=some o) (hc:o.cls= .type n) (hd:o.data= .fields vs)
 (hn:["enumerate","zip","dict_itemiterator","dict_reverseitemiterator","odict_iterator","itertools.zip_longest","itertools.pairwise"].contains n=false) (hQ:Q () s):wpAny M A (letOwnedTupleGo tg (.ref it) u) Q E s:=by
 unfold letOwnedTupleGo
 cases tg<;>first
  | exact wpAny_pure hQ
  | (cases u<;>first
      | exact wpAny_pure hQ
      | (refine wpAny_bind (wpAny_load ho ?_)
         rw[hc,hd]
         show wpAny M A (if(["enumerate","zip","dict_itemiterator","dict_reverseitemiterator","odict_iterator","itertools.zip_longest","itertools.pairwise"].contains n&&vs[0]? ==some (rawInt _))=true then _ else _) Q E s
         rw[if_neg (by intro h;rw[hn,Bool.false_and] at h;cases h)]
         exact wpAny_pure hQ))
def Itl (K:PySem.W.Frag) (a:Addr):It:=
 ⟨fun i H=>∃xs x,SqL K H a xs/\xs[i]? =some x,fun i H x H'=>H'=H/\∀xs,SqL K H a xs->xs[i]? =some x,fun i H=>∃xs,SqL K H a xs/\xs.length<=i⟩
def Itr (lo:Int) (n:Nat):It:=⟨fun i _=>i<n,fun i H x H'=>H'=H/\x= .int (lo+i),fun i _=>n<=i⟩
theorem Nk {P:Program}{w:World}{K:PySem.W.Frag}{tg:Expr} (a it:Addr):Turn P w K tg (Itl K a) [it] it (fun i h=>h.IsListIter it a i) where
 mem:=by simp
 obj:=fun i h st b hb=>by
  have e:b=it:=by simpa using hb
  subst e
  obtain⟨o,e,c,d⟩:=st
  exact⟨o,e,fun v z=>by rw[d] at z;cases z⟩
 keep:=fun i h h' st k=>st.at fun o e=>k it (by simp) o e
 item:=by
  intro X hP hw hK hc i pins s σ H E I hf st hg
  subst hP hw hK
  obtain⟨xs,x,hq,hx⟩:=hg
  obtain⟨its,rv,p,hz⟩:=I.list hq
  obtain⟨u,hu,ru⟩:=rv.get hx
  obtain⟨f0,f1,f2,f3,f4,f5⟩:=hf it (by simp)
  refine wpAny_pyNext_list_item st p.isList (x:=u) (by simpa using hu) fun h' st' sb=> ?_
  have I1:Inv X pins σ H {s with heap:=h'}:=I.turned (t':=s.toks) (fun b o hb e=>(sb.2 b hb).trans e) f0 f1 f3 f4 f5
  obtain⟨o,e,c,d⟩:=id st'
  exact⟨u,rfl,O9 (s:={s with heap:=h'}) e c d (by decide) ⟨x,H,I1,ru,⟨rfl,fun ys hy=>by rw[I.HN hy hq];exact hx⟩,st',fun b hb=>(hf b hb).1⟩⟩
 done:=by
  intro X hP hw hK hc i pins s σ H E I hf st hg
  subst hP hw hK
  obtain⟨xs,hq,hx⟩:=hg
  obtain⟨its,rv,p,hz⟩:=I.list hq
  obtain⟨f0,f1,f2,f3,f4,f5⟩:=hf it (by simp)
  have hl:=rv.length
  exact wpAny_pyNext_list_end (I.ok.hd hc) st p.isList (by simp;omega) fun h' eb=>⟨rfl,I.turned (t':=s.toks) (fun b o hb e=>eb b o hb e) f0 f1 f3 f4 f5⟩
 self:=fun _ _ _ _ _ st h=>wpAny_pyIter_listiter st h
theorem J5 {P:Program}{w:World}{K:PySem.W.Frag}{tg:Expr} (it:Addr) (lo:Int) (n:Nat):Turn P w K tg (Itr lo n) [it] it (fun i h=>IsRangeIter h it (lo+(i:Nat)* 1) ((n:Int) - (i:Nat)) 1) where
 mem:=by simp
 obj:=fun i h st b hb=>by
  have e:b=it:=by simpa using hb
  subst e
  exact⟨_,st,fun v z=>by
   have z':Data.fields _=Data.cell v:=z
   cases z'⟩
 keep:=fun i h h' st k=>k it (by simp) _ st
 item:=by
  intro X hP hw hK hc i pins s σ H E I hf st hg
  subst hP hw hK
  obtain⟨f0,f1,f2,f3,f4,f5⟩:=hf it (by simp)
  have W:=Walks.range (prog:=X.prog) (w:=X.w) (I.ok.hd hc) it lo 1 n
  refine W.item i s _ _ hg st fun v h' tk hv st' kk=> ?_
  obtain⟨t,rfl⟩:=hv
  have I1:Inv X pins σ H {s with heap:=h',toks:=tk}:=I.turned (fun b o hb e=>kk b o (by simpa using hb) e) f0 f1 f3 f4 f5
  refine⟨_,rfl,O9 (s:={s with heap:=h',toks:=tk}) (n:="range_iterator") st' rfl rfl (by decide) ⟨.int (lo+i),H,I1,⟨t, ?_⟩,⟨rfl,rfl⟩,st',fun b hb=>(hf b hb).1⟩⟩
  rw[Int.mul_one]
 done:=by
  intro X hP hw hK hc i pins s σ H E I hf st hg
  subst hP hw hK
  obtain⟨f0,f1,f2,f3,f4,f5⟩:=hf it (by simp)
  exact wpAny_pyNext_range_end (I.ok.hd hc) st (by have:n<=i:=hg;omega) fun h' eb=>⟨rfl,I.turned (t':=s.toks) (fun b o hb e=>eb b o hb e) f0 f1 f3 f4 f5⟩
 self:=fun _ _ _ _ _ st h=>wpAny_pyIter_rangeiter st h
end L2
namespace L2
open PySem PySem.Spec PyProof.Rows
section
variable {X:Cx}{tg:Expr}
def We (K:PySem.W.Frag) (tl:TE):TI:=fun σ H R=>tl σ H fun x H1=>∃a,x= .ref a/\(∃xs,SqL K H1 a xs)/\R (Itl K a) H1
theorem Ss {l:Expr}{tl:TE} (hl:PE X l tl):PI X tg l (We X.K tl):=by
 intro pins s σ H R I h
 refine thn (hl pins s σ H _ I h) fun v s1 ⟨x,H1,I1,r1,q1⟩=> ?_
 obtain⟨a,e,⟨xs,hq⟩,q⟩:=q1
 subst e
 cases r1
 obtain⟨its,rv,p,hz⟩:=I1.list hq
 refine wpAny_pyIter_list p.isList ?_
 refine⟨s1.heap.objs.size,[s1.heap.objs.size],_,_,H1,rfl,I1.kept (t':=s1.toks) fun b o e=>Heap.get?_push_of_some _ e,Nk a _,⟨_,Heap.get?_push_size _ rfl,rfl,rfl⟩,fun b hb=> ?_,q⟩
 have e:b=s1.heap.objs.size:=by simpa using hb
 subst e
 exact I1.Gr (Nat.le_refl _) (I1.hok.fresh (Nat.le_refl _))
theorem HR {pins:List (Addr×Obj)}{σ:St}{H:Hp}{s:Shared}{R:It->Hp->Prop}{E:Value->Shared->Prop}{lo hi:Int}{t u v:Tok}{tk:Nat} (I:Inv X pins σ H s) (h1: -(2 ^ 62)<=lo) (h2:lo<2 ^ 62) (h3: -(2 ^ 62)<=hi) (h4:hi<2 ^ 62)
 (q:R (Itr lo (hi - lo).toNat) H):wpAny (model X.prog X.w) X.A (pyIter (.ref s.heap.objs.size)) (PIE X pins σ tg R) E {s with heap:=s.heap.push {cls:= .type "range",data:= .fields #[.int lo t, .int hi u, .int 1 v]},toks:=tk}:=by
 refine wpAny_pyIter_range (IsRange.new ..) (small_one h1 h2 h3 h4) ?_
 have I1:Inv X pins σ H {s with heap:=s.heap.push {cls:= .type "range",data:= .fields #[.int lo t, .int hi u, .int 1 v]},toks:=tk}:=I.kept fun b o e=>Heap.get?_push_of_some _ e
 refine⟨(s.heap.push {cls:= .type "range",data:= .fields #[.int lo t, .int hi u, .int 1 v]}).objs.size,[(s.heap.push {cls:= .type "range",data:= .fields #[.int lo t, .int hi u, .int 1 v]}).objs.size],_,_,H,rfl,
  I1.kept (t':=tk) fun b o e=>Heap.get?_push_of_some _ e,J5 _ lo (hi - lo).toNat, ?_,fun b hb=> ?_,q⟩
 ·have e1:lo+((0:Nat):Int)* 1=lo:=by simp
  have e2:(((hi - lo).toNat:Nat):Int) - ((0:Nat):Int)=Builtin.Range.rangeSize lo hi 1:=by rw[rangeSize_one];split<;>omega
  show IsRangeIter _ _ (lo+((0:Nat):Int)* 1) ((((hi - lo).toNat:Nat):Int) - ((0:Nat):Int)) 1
  rw[e1,e2]
  exact Heap.get?_push_size _ rfl
 ·have e:b=(s.heap.push {cls:= .type "range",data:= .fields #[.int lo t, .int hi u, .int 1 v]}).objs.size:=by simpa using hb
  subst e
  exact I1.Gr (Nat.le_refl _) (I1.hok.fresh (Nat.le_refl _))
def Wf (ta:TA):TI:=fun σ H R=>ta σ H fun vs H1=>∃j:Int,vs=[.int j]/\ -(2 ^ 62)<=j/\j<2 ^ 62/\R (Itr 0 j.toNat) H1
def Wg (ta:TA):TI:=fun σ H R=>ta σ H fun vs H1=>∃i j:Int,vs=[.int i, .int j]/\(-(2 ^ 62)<=i/\i<2 ^ 62/\ -(2 ^ 62)<=j/\j<2 ^ 62)/\R (Itr i (j - i).toNat) H1
theorem Nm {a:Expr}{ta:TA}{p pos:Pos} (hg:Gl X "range") (hm:X.mg "range"=none) (ha:PA X [a] ta) (hs:starEach [a] X.env=[(false,eval a X.env)]:=by rfl):PI X tg (.Call (.Name "range" p) [a] [] pos) (Wf ta):=by
 intro pins s σ H R I h
 refine Call_ (uW I hg hm boot_range (PyProof.Rows.callWith_type1 (thn (ha pos pins s σ H _ I h) fun us s1 ⟨vs,H1,I1,r1,q1⟩=> ?_) hs rfl))
 obtain⟨j,e,q1,q2,q⟩:=q1
 subst e
 cases r1 with
 | cons r rr=>
   cases rr
   obtain⟨t,rfl⟩:=r
   exact call_range_1 (HR I1 (by omega) (by omega) q1 q2 (by simpa using q))
theorem Np {a b:Expr}{ta:TA}{p pos:Pos} (hg:Gl X "range") (hm:X.mg "range"=none) (ha:PA X [a,b] ta) (hs:starEach [a,b] X.env=[(false,eval a X.env),(false,eval b X.env)]:=by rfl) (hs2:starEach [b] X.env=[(false,eval b X.env)]:=by rfl):
 PI X tg (.Call (.Name "range" p) [a,b] [] pos) (Wg ta):=by
 intro pins s σ H R I h
 refine Call_ (uW I hg hm boot_range (PyProof.Rows.callWith_type1 (thn (ha pos pins s σ H _ I h) fun us s1 ⟨vs,H1,I1,r1,q1⟩=> ?_) (by rw[hs,hs2]) (by rw[hs2];rfl)))
 obtain⟨i,j,e,⟨q1,q2,q3,q4⟩,q⟩:=q1
 subst e
 cases r1 with
 | cons r rr=>
   cases rr with
   | cons r' rr=>
     cases rr
     obtain⟨t,rfl⟩:=r
     obtain⟨t',rfl⟩:=r'
     exact call_range_2 (HR I1 q1 q2 q3 q4 q)
def abq (wi:TI) (g:TG) (tb:TS):TS:=fun D σ H=>wi σ H fun J H1=>∃W:Nat->Nat->St->Hp->Prop,(∃m,W 0 m σ H1)/\∀i m σ H,W i m σ H->
 (J.stop i H/\D.nx σ H)\/(J.go i H/\∃N:St->Hp->Prop,(∀σ' H',N σ' H'->∃m',m'<m/\W (i+1) m' σ' H')/\∀x H',J.yld i H x H'->g x σ H' fun σ2 H2=>tb {D with nx:=N,ct:=N,bk:=D.nx} σ2 H2)
def Cy (fp:List Addr) (h:Heap):List (Addr×Obj):=fp.filterMap fun b=>(h.get? b).map fun o=>(b,o)
theorem tE {fp:List Addr}{h:Heap}{b:Addr}{o:Obj} (hb:b∈fp) (e:h.get? b=some o):(b,o)∈Cy fp h:=List.mem_filterMap.mpr ⟨b,hb,by rw[e];rfl⟩
theorem Nq {fp:List Addr}{h:Heap}{p:Addr×Obj} (hp:p∈Cy fp h):p.1∈fp/\h.get? p.1=some p.2:=by
 obtain⟨b,hb,e⟩:=List.mem_filterMap.mp hp
 cases q:h.get? b with
 | none=>rw[q] at e;cases e
 | some o=>
   rw[q] at e
   have e':(b,o)=p:=Option.some.inj e
   subst e'
   exact⟨hb,q⟩
theorem Inv.pinned {pins:List (Addr×Obj)}{σ:St}{H:Hp}{s:Shared}{fp:List Addr} (I:Inv X pins σ H s) (hf:∀b∈fp,Af X pins H b) (ho:∀b∈fp,∃o,s.heap.get? b=some o/\∀v,o.data≠ .cell v):Inv X (pins++Cy fp s.heap) σ H s:=
 I.Lx fun p hp=>(List.mem_append.mp hp).elim (fun z=>I.pin p (List.mem_append_right _ z)) fun z=>by
   obtain⟨hb,e⟩:=Nq z
   obtain⟨f0,f1,f2,_⟩:=hf p.1 hb
   obtain⟨o,e',d⟩:=ho p.1 hb
   rw[e] at e';cases e'
   exact⟨e,f0,f1,f2,d⟩
theorem Inv.unpinned {pins pl:List (Addr×Obj)}{σ:St}{H:Hp}{s:Shared} (I:Inv X (pins++pl) σ H s):Inv X pins σ H s:=I.Lx fun p hp=>I.pin p (List.mem_append_right _ (List.mem_append_left _ hp))
theorem XQ {iter:Expr}{body:List Stmt}{wi:TI}{g:TG}{tb:TS}{pos:Pos} (hp:PassesOwn (model X.prog X.w) X.A X.env X.xe) (hc:X.calm=true) (hi:PI X tg iter wi) (hg:PG X tg g) (hb:PSs X body tb)
 (hs:∀x,foldedSetIterable iter X.env x=pure x:=by intro _;rfl):PS X (.For tg iter body [] pos) (abq wi g tb):=by
 intro pins s σ H D I h
 refine wpAny_For (thn (hi pins s σ H _ I h) fun v s1 h1=>thn h1 fun itv s2 h2=> ?_) hs
 obtain⟨it,fp,tn,J,H2,e,I2,T,st2,f2,W,⟨m0,w0⟩,turn⟩:=h2
 subst e
 have stat:∀{H':Hp},(∀b∈fp,H' b=none)->∀b∈fp,Af X pins H' b:=fun hn b hb=>⟨hn b hb,(f2 b hb).2⟩
 refine codeAny_forLoop_any (fun n s'=>∃i σ' H',Inv X pins σ' H' s'/\tn i s'.heap/\(∀b∈fp,H' b=none)/\W i n σ' H') ?_ m0 ⟨0,σ,H2,I2,st2,fun b hb=>(f2 b hb).1,w0⟩
 rintro n s3 ⟨i,σ3,H3,I3,st3,fr3,w3⟩
 rcases turn i n σ3 H3 w3 with⟨stop,qn⟩ | ⟨go,N,hN,step⟩
 ·refine wpAny_passesOwn hp (thn (T.done X rfl rfl rfl hc i pins s3 σ3 H3 X.xe I3 (stat fr3) st3 stop) fun r s4 ⟨hr,I4⟩=> ?_)
  subst hr
  exact wpAny_execs_nil ⟨σ3,H3,I4,qn⟩
 ·refine wpAny_passesOwn hp (thn (T.item X rfl rfl rfl hc i pins s3 σ3 H3 X.xe I3 (stat fr3) st3 go) fun r s4 ⟨u,hr,h4⟩=> ?_)
  subst hr
  refine wpAny_passesOwn hp (thn h4 fun _ s5 ⟨x,H5,I5,r5,y5,st5,fr5⟩=> ?_)
  have I5':=I5.pinned (stat fr5) (T.obj _ _ st5)
  refine wpAny_passesOwn hp (thn (hg _ s5 σ3 H5 x u _ I5' r5 (step x H5 y5)) fun _ s6 ⟨σ6,H6,I6,q6⟩=> ?_)
  refine wpAny_passesOwn hp (thn (hb _ s6 σ6 H6 _ I6 q6) fun f s7 q7=> ?_)
  have again:∀{σ7:St}{H7:Hp},Inv X (pins++Cy fp s5.heap) σ7 H7 s7->N σ7 H7->∃m,m<n/\∃i σ' H',Inv X pins σ' H' s7/\tn i s7.heap/\(∀b∈fp,H' b=none)/\W i m σ' H':=fun{σ7 H7} I7 n7=>by
   obtain⟨m',hm,w7⟩:=hN σ7 H7 n7
   refine⟨m',hm,i+1,σ7,H7,I7.unpinned,T.keep _ _ _ st5 fun b hb o e=>(I7.pin (b,o) (List.mem_append_right _ (List.mem_append_right _ (tE hb e)))).1,fun b hb=> ?_,w7⟩
   obtain⟨o,e,d⟩:=T.obj _ _ st5 b hb
   exact(I7.pin (b,o) (List.mem_append_right _ (List.mem_append_right _ (tE hb e)))).2.1
  cases f with
  | next=>obtain⟨σ7,H7,I7,n7⟩:=q7;exact again I7 n7
  | cont=>obtain⟨σ7,H7,I7,n7⟩:=q7;exact again I7 n7
  | brk=>obtain⟨σ7,H7,I7,q7⟩:=q7;exact⟨σ7,H7,I7.unpinned,q7⟩
  | ret v=>obtain⟨x7,σ7,H7,I7,r7,q7⟩:=q7;exact⟨x7,σ7,H7,I7.unpinned,r7,q7⟩
end
theorem HS {K:PySem.W.Frag}{a:Addr}{xs:List V}{g:TG}{tb:TS}{D:Ends}{σ:St}{H:Hp} (Pv:Nat->St->Hp->Prop) (h0:Pv 0 σ H) (hl:∀i σ H,i<=xs.length->Pv i σ H->SqL K H a xs)
 (hs:∀i x σ H,xs[i]? =some x->Pv i σ H->g x σ H fun σ2 H2=>tb {D with nx:=Pv (i+1),ct:=Pv (i+1),bk:=D.nx} σ2 H2) (hd:∀σ H,Pv xs.length σ H->D.nx σ H):
 ∃W:Nat->Nat->St->Hp->Prop,(∃m,W 0 m σ H)/\∀i m σ H,W i m σ H->
  ((Itl K a).stop i H/\D.nx σ H)\/((Itl K a).go i H/\∃N:St->Hp->Prop,(∀σ' H',N σ' H'->∃m',m'<m/\W (i+1) m' σ' H')/\∀x H',(Itl K a).yld i H x H'->g x σ H' fun σ2 H2=>tb {D with nx:=N,ct:=N,bk:=D.nx} σ2 H2):=by
 refine⟨fun i m σ H=>m=xs.length - i/\i<=xs.length/\Pv i σ H,⟨xs.length,by simp,Nat.zero_le _,h0⟩, ?_⟩
 rintro i m σ H ⟨rfl,hi,p⟩
 have q:=hl i σ H hi p
 by_cases hlt:i<xs.length
 ·refine .inr ⟨⟨xs,xs[i],q,by simp[hlt]⟩,Pv (i+1),fun σ' H' p'=>⟨xs.length - (i+1),by omega,rfl,hlt,p'⟩,fun x H' y=> ?_⟩
  obtain⟨e,y⟩:=y
  subst e
  exact hs i x σ _ (y xs q) p
 ·have e:i=xs.length:=by omega
  subst e
  exact .inl ⟨⟨xs,q,Nat.le_refl _⟩,hd σ H p⟩
theorem Fq {lo:Int}{n:Nat}{g:TG}{tb:TS}{D:Ends}{σ:St}{H:Hp} (Pv:Nat->St->Hp->Prop) (h0:Pv 0 σ H)
 (hs:∀i σ H,i<n->Pv i σ H->g (.int (lo+i)) σ H fun σ2 H2=>tb {D with nx:=Pv (i+1),ct:=Pv (i+1),bk:=D.nx} σ2 H2) (hd:∀σ H,Pv n σ H->D.nx σ H):
 ∃W:Nat->Nat->St->Hp->Prop,(∃m,W 0 m σ H)/\∀i m σ H,W i m σ H->
  ((Itr lo n).stop i H/\D.nx σ H)\/((Itr lo n).go i H/\∃N:St->Hp->Prop,(∀σ' H',N σ' H'->∃m',m'<m/\W (i+1) m' σ' H')/\∀x H',(Itr lo n).yld i H x H'->g x σ H' fun σ2 H2=>tb {D with nx:=N,ct:=N,bk:=D.nx} σ2 H2):=by
 refine⟨fun i m σ H=>m=n - i/\i<=n/\Pv i σ H,⟨n,by simp,Nat.zero_le _,h0⟩, ?_⟩
 rintro i m σ H ⟨rfl,hi,p⟩
 by_cases hlt:i<n
 ·refine .inr ⟨hlt,Pv (i+1),fun σ' H' p'=>⟨n - (i+1),by omega,rfl,hlt,p'⟩,fun x H' y=> ?_⟩
  obtain⟨e,y⟩:=y
  subst e y
  exact hs i σ _ hlt p
 ·have e:i=n:=by omega
  subst e
  exact .inl ⟨Nat.le_refl _,hd σ H p⟩
end L2
namespace L2
open PySem PySem.Spec PyProof.Rows
abbrev R2:=V->V->Hp->VK->Prop
def OpR (X:Cx) (f:Value->Value->Sem Value) (r:R2):Prop:=
 ∀(pins:List (Addr×Obj)) (s:Shared) (σ:St) (H:Hp) (x y:V) (v u:Value) (Q:VK),Inv X pins σ H s->RelV x v->RelV y u->r x y H Q->
  wpAny (model X.prog X.w) X.A (f v u) (EP X pins σ Q) X.xe s
def UnR (X:Cx) (f:Value->Sem Value) (r:V->Hp->VK->Prop):Prop:=
 ∀(pins:List (Addr×Obj)) (s:Shared) (σ:St) (H:Hp) (x:V) (v:Value) (Q:VK),Inv X pins σ H s->RelV x v->r x H Q->
  wpAny (model X.prog X.w) X.A (f v) (EP X pins σ Q) X.xe s
def o8 (X:Cx) (f:Value) (r:List V->Hp->VK->Prop):Prop:=
 ∀(pins:List (Addr×Obj)) (s:Shared) (σ:St) (H:Hp) (xs:List V) (us:List Value) (Q:VK),Inv X pins σ H s->Vals xs us->r xs H Q->
  wpAny (model X.prog X.w) X.A (call f us) (EP X pins σ Q) X.xe s
def afa (X:Cx) (r:V->Hp->(Bool->Hp->Prop)->Prop):Prop:=
 ∀(pins:List (Addr×Obj)) (s:Shared) (σ:St) (H:Hp) (x:V) (v:Value) (Q:Bool->Hp->Prop),Inv X pins σ H s->RelV x v->r x H Q->
  wpAny (model X.prog X.w) X.A (truthy v) (TP X pins σ Q) X.xe s
def tOp (r:R2) (ta tb:TE):TE:=fun σ H Q=>ta σ H fun x H1=>tb σ H1 fun y H2=>r x y H2 Q
def tUn (r:V->Hp->VK->Prop) (ta:TE):TE:=fun σ H Q=>ta σ H fun x H1=>r x H1 Q
def rI (C:Int->Int->Prop) (g:Int->Int->V):R2:=fun x y H Q=>∃i j,x= .int i/\y= .int j/\C i j/\Q (g i j) H
def rI0 (g:Int->Int->V):R2:=fun x y H Q=>∃i j,x= .int i/\y= .int j/\Q (g i j) H
def rU (g:Int->V):V->Hp->VK->Prop:=fun x H Q=>∃i,x= .int i/\Q (g i) H
section
variable {X:Cx}{a b c:Expr}{ta tb tc:TE}{pos:Pos}
theorem XR (ha:PE X a ta) (hb:PE X b tb) {pins:List (Addr×Obj)}{s:Shared}{σ:St}{H:Hp}{R:V->V->Hp->Prop} (I:Inv X pins σ H s)
 (h:ta σ H fun x H1=>tb σ H1 fun y H2=>R x y H2) {Q:Value->Shared->Prop}{f:Value->Value->Sem Value}
 (hf:∀v u s2 x y H2,Inv X pins σ H2 s2->RelV x v->RelV y u->R x y H2->wpAny (model X.prog X.w) X.A (f v u) Q X.xe s2):
 wpAny (model X.prog X.w) X.A (eval a X.env) (fun v s₁=>wpAny (model X.prog X.w) X.A (eval b X.env) (fun u s₂=>wpAny (model X.prog X.w) X.A (f v u) Q X.xe s₂) X.xe s₁) X.xe s:=by
 refine thn (ha pins s σ H _ I h) fun v s1 ⟨x,H1,I1,r1,q1⟩=> ?_
 refine thn (hb pins s1 σ H1 _ I1 q1) fun u s2 ⟨y,H2,I2,r2,q2⟩=> ?_
 exact hf v u s2 x y H2 I2 r1 r2 q2
theorem abr {op:Operator}{r:R2} (ho:OpR X (binaryOp op) r) (ha:PE X a ta) (hb:PE X b tb):PE X (.BinOp a op b pos) (tOp r ta tb):=by
 intro pins s σ H Q I h
 exact wpAny_BinOp (XR ha hb I h fun v u s2 x y H2 I2 rx ry q=>ho pins s2 σ H2 x y v u Q I2 rx ry q)
theorem abt {op:UnaryOp}{r:V->Hp->VK->Prop} (ho:UnR X (unaryOp op) r) (ha:PE X a ta):PE X (.UnaryOp op a pos) (tUn r ta):=by
 intro pins s σ H Q I h
 exact UnaryOp_ (thn (ha pins s σ H _ I h) fun v s1 ⟨x,H1,I1,r1,q1⟩=>ho pins s1 σ H1 x v Q I1 r1 q1)
theorem opI {f:Value->Value->Sem Value}{C:Int->Int->Prop}{g:Int->Int->Int}
 (rule:∀(i j:Int) (t u:Tok) (s:Shared) (Q:Value->Shared->Prop) (E:Value->Shared->Prop),C i j->Q (.int (g i j) s.toks) {s with toks:=s.toks+1}->wpAny (model X.prog X.w) X.A (f (.int i t) (.int j u)) Q E s):
 OpR X f (rI C fun i j=> .int (g i j)):=by
 intro pins s σ H x y v u Q I rx ry h
 obtain⟨i,j,rfl,rfl,hc,q⟩:=h
 obtain⟨t,rfl⟩:=rx
 obtain⟨t',rfl⟩:=ry
 exact rule i j t t' s _ _ hc ⟨.int (g i j),H,I.tok _,⟨_,rfl⟩,q⟩
theorem abu {f:Value->Value->Sem Value}{g:Int->Int->Int}
 (rule:∀(i j:Int) (t u:Tok) (s:Shared) (Q:Value->Shared->Prop) (E:Value->Shared->Prop),Q (.int (g i j) s.toks) {s with toks:=s.toks+1}->wpAny (model X.prog X.w) X.A (f (.int i t) (.int j u)) Q E s):
 OpR X f (rI0 fun i j=> .int (g i j)):=by
 intro pins s σ H x y v u Q I rx ry h
 obtain⟨i,j,rfl,rfl,q⟩:=h
 obtain⟨t,rfl⟩:=rx
 obtain⟨t',rfl⟩:=ry
 exact rule i j t t' s _ _ ⟨.int (g i j),H,I.tok _,⟨_,rfl⟩,q⟩
theorem abv {f:Value->Value->Sem Value}{g:Int->Int->Bool}
 (rule:∀(i j:Int) (t u:Tok) (s:Shared) (Q:Value->Shared->Prop) (E:Value->Shared->Prop),Q (.bool (g i j)) s->wpAny (model X.prog X.w) X.A (f (.int i t) (.int j u)) Q E s):
 OpR X f (rI0 fun i j=> .bl (g i j)):=by
 intro pins s σ H x y v u Q I rx ry h
 obtain⟨i,j,rfl,rfl,q⟩:=h
 obtain⟨t,rfl⟩:=rx
 obtain⟨t',rfl⟩:=ry
 exact rule i j t t' s _ _ ⟨.bl (g i j),H,I,rfl,q⟩
def Su (i j:Int):Prop:=0<=j/\j<=1000000/\i.natAbs<2 ^ 64
def Cz (i j:Int):Prop:=(-(2 ^ 64)<i/\i<2 ^ 64)\/(-(2 ^ 64)<j/\j<2 ^ 64)
theorem Cz.ok {i j:Int} (h:Cz i j):IntMulOk i j:=by
 rcases h with⟨h1,h2⟩ | ⟨h1,h2⟩
 ·exact .of_left (intBits_le_64 h1 h2)
 ·exact .of_right (intBits_le_64 h1 h2)
theorem XS:OpR X (binaryOp .Add) (rI0 fun i j=> .int (i+j)):=abu fun _ _ _ _ _ _ _ q=>add_int q
theorem XX:OpR X (binaryOp .Sub) (rI0 fun i j=> .int (i - j)):=abu fun _ _ _ _ _ _ _ q=>sub_int q
theorem X3:OpR X (binaryOp .Mult) (rI Cz fun i j=> .int (i * j)):=opI fun _ _ _ _ _ _ _ hc q=>mul_int q hc.ok
theorem X4:OpR X (binaryOp .Mod) (rI (fun _ j=>0<j) fun i j=> .int (i % j)):=opI fun i j _ _ _ _ _ hc q=>by
 have h1:(0:Int)<j:=hc
 exact mod_int' (by omega) (by rw[Int.fmod_eq_emod_of_nonneg i (by omega)];exact q)
theorem X5:OpR X (binaryOp .Pow) (rI Su fun i j=> .int (i ^ j.toNat)):=opI fun _ _ _ _ _ _ _ hc q=>pow_int_small hc.1 hc.2.1 hc.2.2 q
theorem unI {f:Value->Sem Value}{g:Int->Int}
 (rule:∀(i:Int) (t:Tok) (s:Shared) (Q:Value->Shared->Prop) (E:Value->Shared->Prop),Q (.int (g i) s.toks) {s with toks:=s.toks+1}->wpAny (model X.prog X.w) X.A (f (.int i t)) Q E s):
 UnR X f (rU fun i=> .int (g i)):=by
 intro pins s σ H x v Q I rx h
 obtain⟨i,rfl,q⟩:=h
 obtain⟨t,rfl⟩:=rx
 exact rule i t s _ _ ⟨.int (g i),H,I.tok _,⟨_,rfl⟩,q⟩
theorem X6:UnR X (unaryOp .USub) (rU fun i=> .int (-i)):=unI fun _ _ _ _ _ q=>neg_int q
end
def abw:V->V->Bool
 | .non, .non=>true | .non, .int _=>true | .int _, .non=>true | .non, .bl _=>true | .bl _, .non=>true | .non, .str _=>true | .str _, .non=>true
 | .int _, .int _=>true | .bl _, .bl _=>true | .str _, .str _=>true | .byt _, .byt _=>true
 | .int _, .str _=>true | .str _, .int _=>true | .bl _, .str _=>true | .str _, .bl _=>true
 | _,_=>false
def rEq:R2:=fun x y H Q=>abw x y=true/\Q (.bl (decide (x=y))) H
def rNe:R2:=fun x y H Q=>abw x y=true/\Q (.bl (!decide (x=y))) H
theorem LC {i j:Int}:decide (V.int i=V.int j)=(i==j):=by
 rw[Bool.eq_iff_iff]
 simp
theorem Pa {i j:Bool}:decide (V.bl i=V.bl j)=(i==j):=by
 rw[Bool.eq_iff_iff]
 simp
theorem LK {i j:Str}:decide (V.str i=V.str j)=(i==j):=by
 rw[Bool.eq_iff_iff]
 simp
theorem LQ {i j:Array UInt8}:decide (V.byt i=V.byt j)=(i.toList==j.toList):=by
 rw[Bool.eq_iff_iff]
 cases i
 cases j
 simp
section
variable {X:Cx}{a b c:Expr}{ta tb tc:TE}{pos:Pos}
theorem dY {pins:List (Addr×Obj)}{σ:St}{H:Hp}{s:Shared}{Q:VK}{k k':Bool} (I:Inv X pins σ H s) (q:Q (.bl k) H) (e:k=k'):EP X pins σ Q (.bool k') s:=by
 subst e
 exact⟨.bl k,H,I,rfl,q⟩
theorem abx:OpR X (compareOp .Eq) rEq:=by
 intro pins s σ H x y v u Q I rx ry h
 obtain⟨hs,q⟩:=h
 cases x with
 | non=>
   cases rx
   cases y with
   | non=>cases ry;exact PySem.EqNone.eq_none_none (dY I q (by simp))
   | bl j=>cases ry;exact PySem.EqNone.eq_none_bool (dY I q (by simp))
   | int j=>obtain⟨t',rfl⟩:=ry;exact PySem.EqNone.eq_none_int (dY I q (by simp))
   | str j=>obtain⟨t',rfl⟩:=ry;exact PySem.EqNone.eq_none_str (dY I q (by simp))
   | _=>exact absurd (show false=true from hs) Bool.false_ne_true
 | bl i=>
   cases rx
   cases y with
   | non=>cases ry;exact PySem.EqNone.eq_bool_none (dY I q (by simp))
   | bl j=>cases ry;exact eq_bool (dY I q Pa)
   | str j=>obtain⟨t',rfl⟩:=ry;exact PySem.EqMixed.eq_bool_str (dY I q (by simp))
   | _=>exact absurd (show false=true from hs) Bool.false_ne_true
 | int i=>
   obtain⟨t,rfl⟩:=rx
   cases y with
   | non=>cases ry;exact PySem.EqNone.eq_int_none (dY I q (by simp))
   | int j=>obtain⟨t',rfl⟩:=ry;exact eq_int (dY I q LC)
   | str j=>obtain⟨t',rfl⟩:=ry;exact PySem.EqMixed.eq_int_str (dY I q (by simp))
   | _=>exact absurd (show false=true from hs) Bool.false_ne_true
 | str i=>
   obtain⟨t,rfl⟩:=rx
   cases y with
   | non=>cases ry;exact PySem.EqNone.eq_str_none (dY I q (by simp))
   | bl j=>cases ry;exact PySem.EqMixed.eq_str_bool (dY I q (by simp))
   | int j=>obtain⟨t',rfl⟩:=ry;exact PySem.EqMixed.eq_str_int (dY I q (by simp))
   | str j=>obtain⟨t',rfl⟩:=ry;exact eq_str (dY I q LK)
   | _=>exact absurd (show false=true from hs) Bool.false_ne_true
 | byt i=>
   obtain⟨t,rfl⟩:=rx
   cases y with
   | byt j=>obtain⟨t',rfl⟩:=ry;exact PySem.W.eq_bytes (dY I q LQ)
   | _=>exact absurd (show false=true from hs) Bool.false_ne_true
 | _=>cases y<;>exact absurd (show false=true from hs) Bool.false_ne_true
theorem aby:OpR X (compareOp .NotEq) rNe:=by
 intro pins s σ H x y v u Q I rx ry h
 obtain⟨hs,q⟩:=h
 cases x with
 | non=>
   cases rx
   cases y with
   | non=>cases ry;exact PySem.EqNone.ne_none_none (dY I q (by simp))
   | bl j=>cases ry;exact PySem.EqNone.ne_none_bool (dY I q (by simp))
   | int j=>obtain⟨t',rfl⟩:=ry;exact PySem.EqNone.ne_none_int (dY I q (by simp))
   | str j=>obtain⟨t',rfl⟩:=ry;exact PySem.EqNone.ne_none_str (dY I q (by simp))
   | _=>exact absurd (show false=true from hs) Bool.false_ne_true
 | bl i=>
   cases rx
   cases y with
   | non=>cases ry;exact PySem.EqNone.ne_bool_none (dY I q (by simp))
   | bl j=>cases ry;exact ne_bool (dY I q (congrArg not Pa))
   | str j=>obtain⟨t',rfl⟩:=ry;exact PySem.EqMixed.ne_bool_str (dY I q (by simp))
   | _=>exact absurd (show false=true from hs) Bool.false_ne_true
 | int i=>
   obtain⟨t,rfl⟩:=rx
   cases y with
   | non=>cases ry;exact PySem.EqNone.ne_int_none (dY I q (by simp))
   | int j=>obtain⟨t',rfl⟩:=ry;exact ne_int (dY I q (congrArg not LC))
   | str j=>obtain⟨t',rfl⟩:=ry;exact PySem.EqMixed.ne_int_str (dY I q (by simp))
   | _=>exact absurd (show false=true from hs) Bool.false_ne_true
 | str i=>
   obtain⟨t,rfl⟩:=rx
   cases y with
   | non=>cases ry;exact PySem.EqNone.ne_str_none (dY I q (by simp))
   | bl j=>cases ry;exact PySem.EqMixed.ne_str_bool (dY I q (by simp))
   | int j=>obtain⟨t',rfl⟩:=ry;exact PySem.EqMixed.ne_str_int (dY I q (by simp))
   | str j=>obtain⟨t',rfl⟩:=ry;exact ne_str (dY I q (congrArg not LK))
   | _=>exact absurd (show false=true from hs) Bool.false_ne_true
 | byt i=>
   obtain⟨t,rfl⟩:=rx
   cases y with
   | byt j=>obtain⟨t',rfl⟩:=ry;exact PySem.W.ne_bytes (dY I q (congrArg not LQ))
   | _=>exact absurd (show false=true from hs) Bool.false_ne_true
 | _=>cases y<;>exact absurd (show false=true from hs) Bool.false_ne_true
theorem abz:OpR X (compareOp .Lt) (rI0 fun i j=> .bl (decide (i<j))):=abv fun _ _ _ _ _ _ _ q=>lt_int q
theorem abA:OpR X (compareOp .Gt) (rI0 fun i j=> .bl (decide (j<i))):=abv fun _ _ _ _ _ _ _ q=>gt_int q
theorem X7:OpR X (compareOp .Is) (fun x y H Q=>y= .non/\Q (.bl (decide (x= .non))) H):=by
 intro pins s σ H x y v u Q I rx ry h
 obtain⟨rfl,q⟩:=h
 cases ry
 refine is_none_gen (dY I q ?_)
 cases x<;>first
  | (cases rx;rfl)
  | (obtain⟨t,rfl⟩:=rx;rfl)
theorem X8 (b:Expr) {op:CmpOp} (h:op≠ .In:=by decide) (h2:op≠ .NotIn:=by decide):behindInMarks op b=false:=by
 have e1:(op==CmpOp.In)=false:=by cases op<;>first | rfl | exact absurd rfl h
 have e2:(op==CmpOp.NotIn)=false:=by cases op<;>first | rfl | exact absurd rfl h2
 cases b<;>simp[behindInMarks,e1,e2]
theorem Sv {op:CmpOp}{r:R2} (ho:OpR X (compareOp op) r) (ha:PE X a ta) (hb:PE X b tb) (hm:behindInMarks op b=false):PE X (.Compare a [op] [b] pos) (tOp r ta tb):=by
 intro pins s σ H Q I h
 exact wpAny_Compare1 (XR ha hb I h fun v u s2 x y H2 I2 rx ry q=>ho pins s2 σ H2 x y v u Q I2 rx ry q) hm
def Wh (t:TE):TT:=fun σ H Q=>t σ H fun x H'=>∃k,x= .bl k/\Q k H'
theorem Sw {op:CmpOp}{r:R2} (ho:OpR X (compareOp op) r) (ha:PE X a ta) (hb:PE X b tb) (hm:behindInMarks op b=false):PT X (.Compare a [op] [b] pos) (Wh (tOp r ta tb)):=by
 intro pins s σ H Q I h
 refine wpAny_isTrue_Compare1 (thn (ha pins s σ H _ I h) fun v s1 ⟨x,H1,I1,r1,q1⟩=>thn (hb pins s1 σ H1 _ I1 q1) fun u s2 ⟨y,H2,I2,r2,q2⟩=>
  thn (ho pins s2 σ H2 x y v u _ I2 r1 r2 q2) fun c s3 ⟨z,H3,I3,r3,k,e,q3⟩=> ?_) hm
 subst e
 cases r3
 exact wpAny_truthy_bool ⟨H3,I3,q3⟩
def Yb (K:PySem.W.Frag) (x:V) (H:Hp) (k:Bool):Prop:=
 match x with
 | .non=>k=false
 | .bl b=>k=b
 | .int i=>k=(i !=0)
 | .str y=>y.length<=sizeLine/\k=((y.length:Int) !=0)
 | .byt y=>y.size<=sizeLine/\k=((y.size:Int) !=0)
 | .ref p=>(∃xs,SqL K H p xs/\k= !xs.isEmpty)\/(∃xs,SqT K H p xs/\k= !xs.isEmpty)\/∃kvs,H p=some (.dK kvs)/\k= !kvs.isEmpty
 | _=>False
theorem J6 {κ:Type}{kvs:List (κ×V)}{vs:List (κ×Value)} (r:KV kvs vs):(!vs.isEmpty)= !kvs.isEmpty:=by
 cases r<;>rfl
theorem CG {xs:List V}{its:List Value} (r:Vals xs its):(!its.toArray.isEmpty)= !xs.isEmpty:=by
 cases r<;>simp
theorem CJ:(sizeLine:Nat)<2 ^ 63:=by rw[sizeLine_eq];decide
theorem Yc:afa X (fun x H Q=>∃k,Yb X.K x H k/\Q k H):=by
 intro pins s σ H x v Q I rx h
 obtain⟨k,e,q⟩:=h
 have hl:=CJ
 have hs:sizeLine=16777216:=sizeLine_eq
 cases x with
 | non=>
   cases rx
   have e':k=false:=e
   subst e'
   exact truthy_none ⟨H,I,q⟩
 | bl b=>
   cases rx
   have e':k=b:=e
   subst e'
   exact wpAny_truthy_bool ⟨H,I,q⟩
 | int i=>
   obtain⟨t,rfl⟩:=rx
   have e':k=(i !=0):=e
   subst e'
   exact PySem.P.truthy_int ⟨H,I,q⟩
 | str y=>
   obtain⟨t,rfl⟩:=rx
   obtain⟨hy,e'⟩:y.length<=sizeLine/\k=((y.length:Int) !=0):=e
   subst e'
   exact PySem.P.truthy_str (by omega) ⟨H,I.tok _,q⟩
 | byt y=>
   obtain⟨t,rfl⟩:=rx
   obtain⟨hy,e'⟩:y.size<=sizeLine/\k=((y.size:Int) !=0):=e
   subst e'
   exact PySem.W.truthy_bytes (by omega) ⟨H,I.tok _,q⟩
 | ref p=>
   cases rx
   have e':(∃xs,SqL X.K H p xs/\k= !xs.isEmpty)\/(∃xs,SqT X.K H p xs/\k= !xs.isEmpty)\/∃kvs,H p=some (.dK kvs)/\k= !kvs.isEmpty:=e
   rcases e' with⟨xs,hx,e'⟩ | ⟨xs,hx,e'⟩ | ⟨kvs,hx,e'⟩
   ·subst e'
    obtain⟨its,r,pl,hz⟩:=I.list hx
    have hlen:=r.length
    exact wpAny_truthy_list pl.isList (by simp only[List.size_toArray];omega) ⟨H,I.tok _,by rw[CG r];exact q⟩
   ·subst e'
    obtain⟨its,r,pl,hz⟩:=I.tuple hx
    have hlen:=r.length
    exact truthy_tuple pl (by simp only[List.size_toArray];omega) ⟨H,I.tok _,by rw[CG r];exact q⟩
   ·subst e'
    obtain⟨hz,hS,vs,r,m⟩:kvs.length<=sizeLine/\(p==sysModules)=false/\∃vs,KV kvs vs/\s.heap.DictOf (cV X.prog X.w) p vs:=I.hok p _ hx
    have hlen:kvs.length=vs.length:=Paired.length r
    exact wpAny_truthy_dict hS m (by omega) ⟨H,I.tok _,by rw[J6 r];exact q⟩
 | _=>exact(show False from e).elim
theorem Pb (ha:PE X a ta) (he:∀whole,isTrue a X.env whole=(do let v <-whole;standAt a.pos;holding [v] (truthy v))):
 PT X a (fun σ H Q=>ta σ H fun x H'=>∃k,Yb X.K x H' k/\Q k H'):=by
 intro pins s σ H Q I h
 exact isTrue_plain (thn (ha pins s σ H _ I h) fun v s1 ⟨x,H1,I1,r1,q1⟩=>Yc pins s1 σ H1 x v Q I1 r1 q1) (he _)
theorem J7:OpR X (binaryOp .Add) (fun x y H Q=>∃i j,x= .str i/\y= .str j/\i.length+j.length<=sizeLine/\Q (.str (i++j)) H):=by
 intro pins s σ H x y v u Q I rx ry h
 obtain⟨i,j,rfl,rfl,hz,q⟩:=h
 obtain⟨t,rfl⟩:=rx
 obtain⟨t',rfl⟩:=ry
 exact add_str (fun t' tk=>⟨.str (i++j),H,I.tok _,⟨_,rfl⟩,q⟩) hz
theorem vals1 {x:V}{us:List Value} (r:Vals [x] us):∃u,us=[u]/\RelV x u:=by
 cases r with
 | cons r1 r2=>cases r2;exact⟨_,rfl,r1⟩
theorem vals2 {x y:V}{us:List Value} (r:Vals [x,y] us):∃u w',us=[u,w']/\RelV x u/\RelV y w':=by
 cases r with
 | cons r1 r2=>
   cases r2 with
   | cons r3 r4=>cases r4;exact⟨_,_,rfl,r1,r3⟩
theorem Nr (hc:X.calm=true):o8 X (.builtin "max") (fun xs H Q=>∃i j,xs=[.int i, .int j]/\Q (.int (if j>i then j else i)) H):=by
 intro pins s σ H xs us Q I r h
 obtain⟨i,j,rfl,q⟩:=h
 obtain⟨u,w',rfl,⟨t,rfl⟩,⟨t',rfl⟩⟩:=vals2 r
 refine max_two_ints (I.ok.hd hc) fun h' tk k=>⟨_,H,I.kept k, ?_,q⟩
 by_cases hj:j>i
 ·rw[if_pos hj,if_pos hj];exact⟨_,rfl⟩
 ·rw[if_neg hj,if_neg hj];exact⟨_,rfl⟩
theorem Nt:o8 X (.type "int") (fun xs H Q=>(∃i,xs=[.int i]/\Q (.int i) H)\/∃k,xs=[.bl k]/\Q (.int (if k then 1 else 0)) H):=by
 intro pins s σ H xs us Q I r h
 rcases h with⟨i,rfl,q⟩ | ⟨k,rfl,q⟩
 ·obtain⟨u,rfl,t,rfl⟩:=vals1 r
  exact call_int_int ⟨.int i,H,I,⟨_,rfl⟩,q⟩
 ·obtain⟨u,rfl,r1⟩:=vals1 r
  cases r1
  exact call_int_bool ⟨.int (if k then 1 else 0),H,I.tok _,⟨_,rfl⟩,q⟩
end
end L2
namespace L2
open PySem PySem.Spec PyProof.Rows
structure J8 (h:Heap) (x dx C:Addr) (mA:Str->Option Value):Prop where
 obj:h.get? x=some (PySem.W.instObj C dx)
 ns:h.Ns1 dx mA
 ne:dx≠x
theorem Nu {h:Heap}{dx:Addr}{mA:Str->Option Value} (n:h.Ns1 dx mA):∃od,h.get? dx=some od/\∀name,PySem.W.lookIn name od=some (mA name):=by
 obtain⟨o,es,ep,ho,hd,hk,_,hm⟩:=n
 refine⟨o,ho,fun name=> ?_⟩
 have e:=hm name
 unfold nsFind findBy at e
 rw[<-Array.find?_toList] at e
 unfold PySem.W.lookIn
 rw[hd]
 dsimp only
 split
 ·rename_i y q
  rw[q] at e
  exact congrArg some e
 ·rename_i q
  rw[q] at e
  have a:es.toList.any (·.refKey)=false:=by
   rw[List.any_eq_false]
   intro y hy
   obtain⟨z,t,hkey⟩:=hk y (Array.mem_toList_iff.mp hy)
   simp[DictEntry.refKey,hkey]
  have a':¬es.toList.any (·.refKey)=true:=by rw[a];exact Bool.false_ne_true
  rw[if_neg a']
  exact congrArg some e
theorem J8.look {h:Heap}{x dx C:Addr}{mA:Str->Option Value} (I:J8 h x dx C mA):∃od,PySem.W.InstAt h x (PySem.W.instObj C dx) C (some od)/\∀name,PySem.W.lookIn name od=some (mA name):=
 let ⟨od,ho,hl⟩:=Nu I.ns
 ⟨od,⟨I.obj,rfl,rfl,ho⟩,hl⟩
section
variable {prog:Program}{w:World}{A:Around}{E:Value->Shared->Prop}{s:Shared}{K:PySem.W.Frag}{x dx C f:Addr}{mA:Str->Option Value}{name:Str}{v:Value}
theorem get_map {expr:Bool}{Q:Value->Shared->Prop} (X:K.In s.heap) (I:J8 s.heap x dx C mA) (hg:PySem.W.plainGet K C name=true) (hh:PySem.W.hasDictIn K C=true)
 (ha:PySem.W.findIn K (.ref C) name=some none) (hv:mA name=some v) (hv':PySem.W.handedIn v=true) (h:Q v {s with toks:=s.toks+1}):
 wpAny (model prog w) A (getAttr (.ref x) name expr) Q E s:=by
 obtain⟨od,J,hl⟩:=I.look
 exact PySem.W.get_value X J (PySem.W.plainGet_of hg).1 (PySem.W.findObj_own hh ha rfl (by rw[hl,hv])) hv' h
theorem Pg {pl:Sem Bool}{Q:Value×List Value->Shared->Prop} (X:K.In s.heap) (I:J8 s.heap x dx C mA) (hg:PySem.W.plainGet K C name=true)
 (hf:PySem.W.findIn K (.ref C) name=some (some (.ref f))) (ht:PySem.W.isFn K (.ref f)=true) (hv:mA name=none) (h:Q (.ref f,[.ref x]) s):
 wpAny (model prog w) A (getMethod (.ref x) name pl) Q E s:=by
 obtain⟨od,J,hl⟩:=I.look
 exact PySem.W.method_fn X J (PySem.W.plainGet_of hg).1 (PySem.W.plainGet_of hg).2 hf (beq_iff_eq.mp ht) (by show(PySem.W.lookIn name od).map (·.isSome)=some false;rw[hl,hv];rfl) h
theorem Sx {ns:List Str}{Q:Unit->Shared->Prop} (X:K.In s.heap) (I:J8 s.heap x dx C mA)
 (hs:PySem.W.findIn K (.ref C) "__setattr__"=some (some (.builtin "object.__setattr__"))) (hp:PySem.W.plainOver K C=true) (ht:PySem.W.takerIn K C name=some none) (hh:PySem.W.hasDictIn K C=true)
 (hw:PySem.Within mA ns) (hsz:ns.length<=sizeLine)
 (h:∀h',J8 h' x dx C (fun y=>if y=name then some v else mA y)->Heap.SameBut dx s.heap h'->Q () {s with heap:=h',toks:=s.toks+2}):
 wpAny (model prog w) A (setAttr (.ref x) name v) Q E s:=by
 obtain⟨od,J,hl⟩:=I.look
 refine PySem.W.set_plain X J hs (PySem.W.osa_open (s:={s with toks:=s.toks+1}) (r:=none) X J hp ht fun b=> ?_)
 obtain⟨cd,hc,hd'⟩:=PySem.W.any_some hh
 have hx:s.heap.get? x=some ⟨.ref C,some dx, .plain, #[]⟩:=I.obj
 refine wpAny_bind (wpAny_pure (wpAny_bind (wpAny_bind (wpAny_loadPart hx (wpAny_bind (PySem.W.Looks.here (s:={s with toks:=s.toks+1}) (PySem.W.looks_clsIn X hc) ?_))))))
 rw[hd']
 refine wpAny_pure (a:=some dx) (wpAny_bind (wpAny_pure (wpAny_bind ?_)))
 refine wpAny_nsSet1 (s:={s with toks:=s.toks+1}) I.ns fun h' hn2 hs2=> ?_
 obtain⟨oD,esD,epD,hoD,hdD,hcD⟩:=hn2.count (PySem.Within.cons name v hw)
 refine wpAny_bind (wpAny_lookBehind hoD (by rw[hdD];exact pastItsLine_dict (Nat.le_trans hcD (by rw[List.length_cons];omega))) ?_)
 exact wpAny_pure (h _ ⟨(hs2.2 _ (Ne.symm I.ne)).trans I.obj,hn2,I.ne⟩ hs2)
theorem Ph {R:Result->Shared->Prop}{vs:List Value}{kw:List (Str×Value)} (X:K.In s.heap) (hm:PySem.W.makesIn K C=true)
 (hi:PySem.W.findIn K (.ref C) "__init__"=some (some (.ref f))) (hf:PySem.W.typeIn K (.ref f)=some (.type "function"))
 (h:codeAny (model prog w) (A.under (.builtin "type.__call__" ⟨.ref C::vs,kw⟩)) (.call (.ref f) ⟨.ref (s.heap.objs.size+1)::vs,kw⟩) (PySem.W.InitBack (s.heap.objs.size+1) R)
   {s with heap:=(s.heap.push PySem.W.emptyDict).push (PySem.W.instObj C s.heap.objs.size)}):
 codeAny (model prog w) A (.call (.ref C) ⟨vs,kw⟩) R s:=by
 obtain⟨hh,g,d,t,os⟩:=s
 exact PySem.W.make_core (PySem.W.makes_of X hm) (PySem.W.looks_findIn X hi) (fun self=>PySem.W.bind_fn X self hf) (.inl rfl) h
end
def aW (f:Str) (v:V):List (Str×V)->List (Str×V)
 |[]=>[(f,v)]
 | (g,x)::r=>if g=f then(g,v)::r else(g,x)::aW f v r
theorem Bp (f g:Str) (v:V):∀fs:List (Str×V),(aW f v fs).lookup g=if g=f then some v else fs.lookup g
 |[]=>by
  show List.lookup g [(f,v)]=_
  by_cases h:g=f
  ·have hb:(g==f)=true:=beq_iff_eq.mpr h
   simp only[List.lookup,hb,if_pos h]
  ·have hb:(g==f)=false:=beq_eq_false_iff_ne.mpr h
   simp only[List.lookup,hb,if_neg h]
 | (k,x)::r=>by
   have ih:=Bp f g v r
   rw[show aW f v ((k,x)::r)=(if k=f then(k,v)::r else(k,x)::aW f v r) from rfl]
   by_cases hk:k=f
   ·rw[if_pos hk]
    by_cases h:g=k
    ·have hb:(g==k)=true:=beq_iff_eq.mpr h
     simp only[List.lookup,hb,if_pos (h.trans hk)]
    ·have hb:(g==k)=false:=beq_eq_false_iff_ne.mpr h
     simp only[List.lookup,hb,if_neg (fun e:g=f=>h (e.trans hk.symm))]
   ·rw[if_neg hk]
    by_cases h:g=k
    ·have hb:(g==k)=true:=beq_iff_eq.mpr h
     simp only[List.lookup,hb,if_neg (fun e:g=f=>hk (h.symm.trans e))]
    ·have hb:(g==k)=false:=beq_eq_false_iff_ne.mpr h
     simp only[List.lookup,hb]
     exact ih
theorem Ag (f:Str) (v:V):∀fs:List (Str×V),f∈(aW f v fs).map (·.1)/\∀g,g∈fs.map (·.1)->g∈(aW f v fs).map (·.1)
 |[]=>⟨by simp[aW],fun g h=>by simp at h⟩
 | (k,x)::r=>by
   obtain⟨i1,i2⟩:=Ag f v r
   rw[show aW f v ((k,x)::r)=(if k=f then(k,v)::r else(k,x)::aW f v r) from rfl]
   by_cases hk:k=f
   ·rw[if_pos hk]
    subst hk
    exact⟨by simp,fun g h=>by simpa using h⟩
   ·rw[if_neg hk]
    refine⟨?_,fun g h=> ?_⟩
    ·rw[List.map_cons]
     exact List.mem_cons_of_mem _ i1
    ·rw[List.map_cons] at h ⊢
     rcases List.mem_cons.mp h with e | e
     ·exact List.mem_cons.mpr (.inl e)
     ·exact List.mem_cons_of_mem _ (i2 g e)
theorem Bq (f:Str) (v:V):∀fs:List (Str×V),(aW f v fs).length<=fs.length+1
 |[]=>by simp[aW]
 | (k,x)::r=>by
   have ih:=Bq f v r
   rw[show aW f v ((k,x)::r)=(if k=f then(k,v)::r else(k,x)::aW f v r) from rfl]
   by_cases hk:k=f
   ·rw[if_pos hk,List.length_cons,List.length_cons];omega
   ·rw[if_neg hk,List.length_cons,List.length_cons];omega
theorem tu.some_of {v:V}{o:Option Value} (r:tu (some v) o):∃u,o=some u/\RelV v u:=by
 cases o with
 | none=>exact(show False from r).elim
 | some u=>exact⟨u,rfl,r⟩
theorem tu.none_of {o:Option Value} (r:tu none o):o=none:=by
 cases o with
 | none=>rfl
 | some u=>exact(show False from r).elim
theorem Nv {v:V}{u:Value} (r:RelV v u):PySem.W.handedIn u=true:=by
 cases v with
 | non=>cases(show u=Value.none from r);rfl
 | bl b=>cases(show u=Value.bool b from r);rfl
 | int i=>obtain⟨t,e⟩:=(show∃t,u=Value.int i t from r);cases e;rfl
 | str x=>obtain⟨t,e⟩:=(show∃t,u=Value.str x t from r);cases e;rfl
 | byt b=>obtain⟨t,e⟩:=(show∃t,u=Value.bytes b t from r);cases e;rfl
 | flt b=>obtain⟨t,e⟩:=(show∃t,u=Value.float b t from r);cases e;rfl
 | ref a=>cases(show u=Value.ref a from r);rfl
 | ty n=>cases(show u=Value.type n from r);rfl
section
variable {P:Program}{w:World}{H H':Hp}{h h':Heap}{a C dx:Addr}{fs fs':List (Str×V)}
theorem Cm (hok:HOk P w H h) (e:H a=some (.ins C dx fs)):∃mA,J8 h a dx C mA/\(∀f,tu (fs.lookup f) (mA f))/\PySem.Within mA (fs.map (·.1))/\fs.length<=1000/\H dx=some (.own a):=by
 obtain⟨d,z,ne,ob,mA,n,r,q⟩:=(show eG P w H h a (.ins C dx fs) from hok a _ e)
 exact⟨mA,⟨ob,n,ne⟩,r,q,z,d⟩
end
structure Cls (K:PySem.W.Frag) (C:Addr):Prop where
 pg:PySem.W.plainGet K C Str.empty=true
 hd:PySem.W.hasDictIn K C=true
 po:PySem.W.plainOver K C=true
 sa:PySem.W.findIn K (.ref C) "__setattr__"=some (some (.builtin "object.__setattr__"))
theorem Cls.get {K:PySem.W.Frag}{C:Addr} (c:Cls K C) (f:Str):PySem.W.plainGet K C f=true:=c.pg
def iQ (K:PySem.W.Frag) (C:Addr) (f:Str):Prop:=PySem.W.findIn K (.ref C) f=some none
theorem iQ.taker {K:PySem.W.Frag}{C:Addr}{f:Str} (n:iQ K C f):PySem.W.takerIn K C f=some none:=by
 unfold PySem.W.takerIn
 rw[show PySem.W.findIn K (.ref C) f=some none from n]
 rfl
structure Meth (K:PySem.W.Frag) (C:Addr) (m:Str) (f:Addr):Prop where
 at_:PySem.W.findIn K (.ref C) m=some (some (.ref f))
 fn:PySem.W.isFn K (.ref f)=true
 kp:PySem.W.keepIn K (.ref f)=true
section
variable {X:Cx}{pins:List (Addr×Obj)}{σ:St}{H:Hp}{s:Shared}{a C dx:Addr}{fs:List (Str×V)}{f:Str}{v:V}{A:Around}{E:Value->Shared->Prop}
theorem J9 {b:Bool}{Q:Value->Shared->Prop} (I:Inv X pins σ H s) (e:H a=some (.ins C dx fs)) (c:Cls X.K C) (n:iQ X.K C f) (l:fs.lookup f=some v)
 (h:∀u s',Inv X pins σ H s'->RelV v u->Q u s'):wpAny (model X.prog X.w) A (getAttr (.ref a) f b) Q E s:=by
 obtain⟨mA,O,r,_,_,_⟩:=Cm I.hok e
 obtain⟨u,hu,ru⟩:=tu.some_of (v:=v) (o:=mA f) (by rw[<-l];exact r f)
 exact get_map I.kIn O (c.get f) c.hd n hu (Nv ru) (h u _ (I.tok _) ru)
theorem CP {m:Str}{g:Addr}{pl:Sem Bool}{Q:Value×List Value->Shared->Prop} (I:Inv X pins σ H s) (e:H a=some (.ins C dx fs)) (c:Cls X.K C) (k:Meth X.K C m g) (l:fs.lookup m=none)
 (h:Q (.ref g,[.ref a]) s):wpAny (model X.prog X.w) A (getMethod (.ref a) m pl) Q E s:=by
 obtain⟨mA,O,r,_,_,_⟩:=Cm I.hok e
 have hn:mA m=none:=tu.none_of (by rw[<-l];exact r m)
 exact Pg I.kIn O (c.get m) k.at_ k.fn hn h
theorem Ka {y:V}{u:Value}{Q:Unit->Shared->Prop} (I:Inv X pins σ H s) (e:H a=some (.ins C dx fs)) (c:Cls X.K C) (n:iQ X.K C f) (hl:fs.length<1000) (ry:RelV y u)
 (h:∀s',Inv X pins σ (upd H a (.ins C dx (aW f y fs))) s'->Q () s'):wpAny (model X.prog X.w) A (setAttr (.ref a) f u) Q E s:=by
 obtain⟨mA,O,r,wi,_,ho⟩:=Cm I.hok e
 have hz:(fs.map (·.1)).length<=sizeLine:=by rw[List.length_map,sizeLine_eq];omega
 refine Sx I.kIn O c.sa c.po n.taker c.hd wi hz fun h' O' sb=>h _ ?_
 have hd:∃o,h'.get? dx=some o:=let ⟨o,_,_,e',_⟩:=O'.ns;⟨o,e'⟩
 refine I.write (x:=a) (e:=dx) (by rw[e];exact True.intro) (.inr ho) (fun b q hb z=>(sb.2 b hb).trans z) hd ?_
 refine⟨by rw[au O.ne];exact ho, ?_,O.ne,O'.obj,_,O'.ns,fun g=> ?_,fun g hg=> ?_⟩
 ·have:=Bq f y fs;omega
 ·show tu ((aW f y fs).lookup g) (if g=f then some u else mA g)
  rw[Bp]
  by_cases q:g=f
  ·rw[if_pos q,if_pos q];exact ry
  ·rw[if_neg q,if_neg q];exact r g
 ·by_cases q:g=f
  ·rw[q];exact(Ag f y fs).1
  ·refine(Ag f y fs).2 g (wi g fun z=>hg ?_)
   show(if g=f then some u else mA g)=none
   rw[if_neg q];exact z
theorem Inv.made (I:Inv X pins σ H s):Inv X pins σ (upd (upd H s.heap.objs.size (.own (s.heap.objs.size+1))) (s.heap.objs.size+1) (.ins C s.heap.objs.size []))
 {s with heap:=(s.heap.push PySem.W.emptyDict).push (PySem.W.instObj C s.heap.objs.size)}:=by
 have e1:(s.heap.push PySem.W.emptyDict).get? s.heap.objs.size=some PySem.W.emptyDict:=Heap.get?_push_size s.heap rfl
 have e2:((s.heap.push PySem.W.emptyDict).push (PySem.W.instObj C s.heap.objs.size)).get? (s.heap.objs.size+1)=some (PySem.W.instObj C s.heap.objs.size):=by
  have:=Heap.get?_push_size (s.heap.push PySem.W.emptyDict) (o:=PySem.W.instObj C s.heap.objs.size) rfl
  rwa [Heap.size_push] at this
 have e3:(s.heap.push PySem.W.emptyDict).Ns s.heap.objs.size (fun _=>none):=⟨PySem.W.emptyDict, #[],_,e1,rfl,(fun e he=>absurd he (by simp)),fun _=>rfl⟩
 have I1:=I.laid (a:=s.heap.objs.size) (o:= .own (s.heap.objs.size+1)) (h':=s.heap.push PySem.W.emptyDict) (t':=s.toks) (fun b u q=>Heap.get?_push_of_some _ q) (Nat.le_refl _) ⟨_,e1⟩
 refine I1.laid (a:=s.heap.objs.size+1) (o:= .ins C s.heap.objs.size []) (t':=s.toks) (fun b u q=>Heap.get?_push_of_some _ q) (Nat.le_of_eq (Heap.size_push _ _)) ?_
 have ne:s.heap.objs.size≠s.heap.objs.size+1:=Nat.ne_of_lt (Nat.lt_succ_self _)
 refine⟨by rw[au ne,aq],Nat.zero_le _,ne,e2,fun _=>none,(Heap.Ns1.of_empty e3).at fun o q=>Heap.get?_push_of_some _ q,fun _=>True.intro,fun y hy=>absurd rfl hy⟩
theorem Sy {prog:Program}{w:World}{env:Env}{e:Expr}{f:Str}{pos:Pos}{s:Shared}{Q:Value->Shared->Prop} (hb:attributeBase e f env (eval e env)=eval e env)
 (h:wpAny (model prog w) A (eval e env) (fun o s₁=>wpAny (model prog w) A (getAttr o f true) Q E s₁) E s):wpAny (model prog w) A (eval (.Attribute e f pos) env) Q E s:=
 Attribute_any_ h (by rw[arm_eval_Attribute,hb])
end
def Yd (K:PySem.W.Frag) (ta:TE) (f:Str):TE:=fun σ H Q=>ta σ H fun x H1=>∃a C dx fs v,x= .ref a/\H1 a=some (.ins C dx fs)/\Cls K C/\iQ K C f/\fs.lookup f=some v/\Q v H1
def abB (K:PySem.W.Frag) (ta tv:TE) (f:Str):TS:=fun D σ H=>tv σ H fun y H1=>ta σ H1 fun x H2=>∃a C dx fs,x= .ref a/\H2 a=some (.ins C dx fs)/\Cls K C/\iQ K C f/\fs.length<1000/\
 D.nx σ (upd H2 a (.ins C dx (aW f y fs)))
section
variable {X:Cx}{o e value:Expr}{f:Str}{pos pos' tpos:Pos}{ta tv:TE}
theorem Ye (he:PE X e ta) (hb:attributeBase e f X.env (eval e X.env)=eval e X.env):PE X (.Attribute e f pos) (Yd X.K ta f):=by
 intro pins s σ H Q I h
 refine Sy hb (thn (he pins s σ H _ I h) fun u s1 ⟨x,H1,I1,rx,a,C,dx,fs,v,ex,ea,c,n,l,q⟩=> ?_)
 subst ex
 obtain rfl:u=Value.ref a:=rx
 exact J9 I1 ea c n l fun u' s2 I2 ru=>⟨v,H1,I2,ru,q⟩
theorem Yg (ha:PE X o ta) (hv:PE X value tv) (hs:swapsWith value (some (.Attribute o f pos')) pos.line X.env=pure false):PS X (.Assign [.Attribute o f pos'] value pos) (abB X.K ta tv f):=by
 intro pins s σ H D I h
 refine plainObj_wpAny_Assign_Attribute (thn (hv pins s σ H _ I h) fun u s1 ⟨y,H1,I1,ry,q⟩=>thn (ha pins s1 σ H1 _ I1 q) fun ov s2 ⟨x,H2,I2,rx,a,C,dx,fs,ex,ea,c,n,l,q2⟩=> ?_) hs
 subst ex
 obtain rfl:ov=Value.ref a:=rx
 exact Ka I2 ea c n l ry fun s3 I3=>⟨σ,_,I3,q2⟩
end
section
variable {X:Cx}{pins:List (Addr×Obj)}{σ:St}{H:Hp}{s:Shared}{A:Around}{E:Value->Shared->Prop}{Q:Value->Shared->Prop}{c:Value}{b:Bool}
inductive qH (K:PySem.W.Frag) (H:Hp):V->Value->Prop where
 | non:qH K H .non (.type "NoneType")
 | bl (x:Bool):qH K H (.bl x) (.type "bool")
 | int (i:Int):qH K H (.int i) (.type "int")
 | str (x:Str):qH K H (.str x) (.type "str")
 | flt (x:UInt64):qH K H (.flt x) (.type "float")
 | lst {a:Addr}{xs:List V} (e:H a=some (.lst xs)):qH K H (.ref a) (.type "list")
 | frz {a:Addr}{o:Obj}{xs:List V} (e:H a=some (.frz o (.lst xs))):qH K H (.ref a) (.type "list")
 | tup {a:Addr}{xs:List V} (e:H a=some (.tup xs)):qH K H (.ref a) (.type "tuple")
 | dK {a:Addr}{kvs:List (Key×V)} (e:H a=some (.dK kvs)):qH K H (.ref a) (.type "dict")
 | dT {a:Addr}{kvs:List (List Key×V)} (e:H a=some (.dT kvs)):qH K H (.ref a) (.type "dict")
 | ins {a C dx:Addr}{fs:List (Str×V)} (e:H a=some (.ins C dx fs)) (cl:Cls K C) (ha:PySem.W.findIn K (.ref C) "__class__"=some (some (.builtin "object.__class__")))
    (hn:PySem.W.specialIn K (.builtin "object.__class__") "__get__"=some (some (.builtin "getset_descriptor.__get__"))) (htk:PySem.W.takesIn K (.builtin "object.__class__")=some true)
    (hm:PySem.W.mroIn K C (.type "object")=some true):qH K H (.ref a) (.ref C)
theorem Nx {x:V}{u t:Value} (I:Inv X pins σ H s) (rx:RelV x u) (ty:qH X.K H x t) (e:PySem.W.kitOne X.K t c=some b) (h:∀tk,Q (.bool b) {s with toks:=tk}):
 wpAny (model X.prog X.w) A (call (.builtin "isinstance") [u,c]) Q E s:=by
 cases ty with
 | non=>cases(show u=Value.none from rx);exact PySem.W.kia_one PySem.W.kitx_none I.kIn True.intro e (fun z=>nomatch z) h
 | bl y=>cases(show u=Value.bool y from rx);exact PySem.W.kia_one PySem.W.kitx_bool I.kIn True.intro e (fun z=>nomatch z) h
 | int i=>obtain⟨t,q⟩:=(show∃t,u=Value.int i t from rx);cases q;exact PySem.W.kia_one PySem.W.kitx_int I.kIn True.intro e (fun z=>nomatch z) h
 | str y=>obtain⟨t,q⟩:=(show∃t,u=Value.str y t from rx);cases q;exact PySem.W.kia_one PySem.W.kitx_str I.kIn True.intro e (fun z=>nomatch z) h
 | flt y=>obtain⟨t,q⟩:=(show∃t,u=Value.float y t from rx);cases q;exact PySem.W.kia_one PySem.W.kitx_float I.kIn True.intro e (fun z=>nomatch z) h
 | @lst a xs ea=>
   cases(show u=Value.ref a from rx)
   obtain⟨_,_,n,_,h1⟩:=(show eG X.prog X.w H s.heap a (.lst xs) from I.hok a _ ea)
   exact PySem.W.kia_one PySem.W.kitx_list I.kIn ⟨_,h1,rfl⟩ e (fun z=>nomatch z) h
 | @frz a ob xs ea=>
   cases(show u=Value.ref a from rx)
   obtain⟨_,_,_,n,_,h1⟩:=(show eG X.prog X.w H s.heap a (.frz ob (.lst xs)) from I.hok a _ ea)
   exact PySem.W.kia_one PySem.W.kitx_list I.kIn ⟨_,h1,rfl⟩ e (fun z=>nomatch z) h
 | @tup a xs ea=>
   cases(show u=Value.ref a from rx)
   obtain⟨_,_,_,p⟩:=(show eG X.prog X.w H s.heap a (.tup xs) from I.hok a _ ea)
   obtain⟨o,h1,h2,_⟩:=p
   exact PySem.W.kia_one PySem.W.kitx_tuple I.kIn ⟨o,h1,h2⟩ e (fun z=>nomatch z) h
 | @dK a kvs ea=>
   cases(show u=Value.ref a from rx)
   obtain⟨_,_,vs,_,p⟩:=(show eG X.prog X.w H s.heap a (.dK kvs) from I.hok a _ ea)
   obtain⟨o,es,ep,h1,h2,_⟩:=p
   exact PySem.W.kia_one PySem.W.kitx_dict I.kIn ⟨o,h1,h2.1⟩ e (fun z=>nomatch z) h
 | @dT a kvs ea=>
   cases(show u=Value.ref a from rx)
   obtain⟨_,_,xs,_,o,es,ep,h1,h2,_⟩:=(show eG X.prog X.w H s.heap a (.dT kvs) from I.hok a _ ea)
   exact PySem.W.kia_one PySem.W.kitx_dict I.kIn ⟨o,h1,h2.1⟩ e (fun z=>nomatch z) h
 | @ins a C dx fs ea cl ha hn htk hm=>
   cases(show u=Value.ref a from rx)
   obtain⟨mA,O,_⟩:=Cm I.hok ea
   obtain⟨od,J,_⟩:=O.look
   exact PySem.W.kia_one (PySem.W.kitx_own (cl.get _) cl.hd ha hn htk hm) I.kIn J e (fun z=>nomatch z) h
end
end L2
namespace L2
open PySem PySem.Spec PyProof.Rows
structure kY (k:Nat) (A:Around):Prop where
 hd:A.handled=none
 dp:A.depth+3 * k+5<recursionLimit
 un:A.units+16 * k+200<cLine
theorem kY.mono {j k:Nat}{A:Around} (r:kY k A) (h:j<=k):kY j A:=⟨r.hd,by have:=r.dp;omega,by have:=r.un;omega⟩
theorem kY.deeper {k:Nat}{A:Around} (r:kY (k+1) A) (env:Env):kY k (A.deeper env):=
 ⟨r.hd,by have:=r.dp;show A.depth+1+3 * k+5<_;omega,by have:=r.un;show A.units+3+16 * k+200<_;omega⟩
theorem Kc {A:Around}{C:Addr}{us:List Value}{kw:List (Str×Value)}:(A.under (.builtin "type.__call__" ⟨.ref C::us,kw⟩)).depth=A.depth+1:=by
 first | rfl | simp[Around.under,Code.weight,Code.isCreation,Code.isGuard,Code.isCaller,Code.frames,Code.isFrame,guardIds]
theorem Kd {A:Around}{C:Addr}{us:List Value}{kw:List (Str×Value)}:(A.under (.builtin "type.__call__" ⟨.ref C::us,kw⟩)).units=A.units+1:=by
 first | rfl | simp[Around.under,Code.cUnits,Code.frames,Code.isFrame]
theorem kY.make {k:Nat}{A:Around} (r:kY (k+1) A) (C:Addr) (us:List Value) (kw:List (Str×Value)):kY k (A.under (.builtin "type.__call__" ⟨.ref C::us,kw⟩)):=
 ⟨r.hd,by have:=r.dp;rw[Kc];omega,by have:=r.un;rw[Kd];omega⟩
theorem kY.depth {k:Nat}{A:Around} (r:kY k A):A.depth<recursionLimit:=by have:=r.dp;omega
theorem kY.units {k:Nat}{A:Around} (r:kY k A):A.units+64<cLine:=by have:=r.un;omega
def SM:TA:=fun _ H Q=>Q [] H
def o9 (ta:TE) (tr:TA):TA:=fun σ H Q=>ta σ H fun x H1=>tr σ H1 fun xs H2=>Q (x::xs) H2
section
variable {X:Cx}{e:Expr}{es:List Expr}{te:TE}{t:TA}{pos:Pos}
theorem Yh:PA X [] SM:=fun _ _ _ _ H Q I h=>Calls.spliced_nil ⟨[],H,I, .nil,h⟩
theorem SN (ha:PE X e te) (hr:PA X es t) (hs:starEach (e::es) X.env=(false,eval e X.env)::starEach es X.env:=by rfl):PA X (e::es) (o9 te t):=by
 intro pos pins s σ H Q I h
 rw[hs]
 show wpAny _ _ (spliced ((false,eval e X.env)::backTo pos (starEach es X.env))) _ _ s
 refine Calls.spliced_cons (thn (ha pins s σ H _ I h) fun u s1 ⟨x,H1,I1,r1,q1⟩=> ?_)
 exact thn (hr pos pins s1 σ H1 _ I1 q1) fun us s2 ⟨xs,H2,I2,r2,q2⟩=>⟨x::xs,H2,I2, .cons r1 r2,q2⟩
def abC (t:TA):TE:=fun σ H Q=>t σ H fun xs H1=>xs.length<=sizeLine/\∀p,H1 p=none->Q (.ref p) (upd H1 p (.tup xs))
def abD (t:TA):TE:=fun σ H Q=>t σ H fun xs H1=>xs.length<=sizeLine/\∀p,H1 p=none->Q (.ref p) (upd H1 p (.lst xs))
theorem Yi {x1} (h:PA X es t):PE X (.Tuple es x1 pos) (abC t):=by
 intro pins s σ H Q I hq
 refine wpAny_Tuple_spliced (thn (h pos pins s σ H _ I hq) fun us s1 ⟨xs,H1,I1,r,z,q⟩=>⟨by rw[<-r.length];exact z, ?_⟩)
 have hf:H1 s1.heap.objs.size=none:=I1.hok.fresh (Nat.le_refl _)
 refine⟨.ref s1.heap.objs.size,upd H1 s1.heap.objs.size (.tup xs),I1.laid (t':=s1.toks) (fun b u e=>Heap.get?_push_of_some _ e) (Nat.le_refl _) ?_,rfl,q _ hf⟩
 exact⟨z,us,r,⟨_,Heap.get?_push_size _ rfl,rfl,_,rfl⟩⟩
theorem Yj (h:PA X es t):PE X (.List es pos) (abD t):=by
 intro pins s σ H Q I hq
 refine wpAny_List_spliced (thn (h pos pins s σ H _ I hq) fun us s1 ⟨xs,H1,I1,r,z,q⟩=>⟨by rw[<-r.length];exact z, ?_⟩)
 have hf:H1 s1.heap.objs.size=none:=I1.hok.fresh (Nat.le_refl _)
 refine⟨.ref s1.heap.objs.size,upd H1 s1.heap.objs.size (.lst xs),I1.laid (t':=s1.toks) (fun b u e=>Heap.get?_push_of_some _ e) (Nat.le_refl _) ?_,rfl,q _ hf⟩
 exact⟨z,us,0,r,Heap.get?_push_size _ rfl⟩
end
abbrev Sp:=List V->Hp->VK->XK->Prop
abbrev CXT:=List Env->Hp->Shared->XK->Value->Shared->Prop
structure Ke (P:Program) (w:World) (K:PySem.W.Frag) (mg:Str->Option Value) (base:Heap) (A:Around) (outer:List Env) (s:Shared) (H:Hp):Prop where
 frames:A.frames=some outer
 mod:Mod K mg base
 bs:∀b o,base.get? b=some o->s.heap.get? b=some o/\H b=none
 bsz:base.objs.size<=s.heap.objs.size
 funs:s.heap.FunFrames base outer
 frf:∀b∈frs outer,H b=none
 hok:HOk P w H s.heap
 bare:AllBare s.gens
def CE (outer:List Env) (P:Program) (w:World) (H:Hp) (s:Shared) (Q:VK) (u:Value) (s':Shared):Prop:=
 ∃v H',s'.os=s.os/\AllBare s'.gens/\Un (frs outer) [] H H' s.heap s'.heap/\HOk P w H' s'.heap/\RelV v u/\Q v H'
def CR (CX:CXT) (outer:List Env) (P:Program) (w:World) (H:Hp) (s:Shared) (Q:VK) (E:XK) (r:Result) (s':Shared):Prop:=
 match r with
 | .ok (.ret u)=>CE outer P w H s Q u s'
 | .ok _=>False
 | .error e=>CX outer H s E e s'
structure bF (P:Program) (w:World) (K:PySem.W.Frag) (mg:Str->Option Value) (base:Heap) (CX:CXT) (k:Nat) (f:Addr) (fd:FuncData) (ps:List Str) (sp:Sp):Prop where
 len:∀vs H Q E,sp vs H Q E->vs.length=ps.length
 run:∀(A:Around) (outer:List Env) (s:Shared) (H:Hp) (args:Args) (us:List Value) (vs:List V) (Q:VK) (E:XK),kY k A->Ke P w K mg base A outer s H->BindsTo s fd args (ps.zip us)->Vals vs us->sp vs H Q E->
  codeAny (model P w) A (.call (.ref f) args) (CR CX outer P w H s Q E) s
theorem bF.mono {P:Program}{w:World}{K:PySem.W.Frag}{mg:Str->Option Value}{base:Heap}{CX:CXT}{j k:Nat}{f:Addr}{fd:FuncData}{ps:List Str}{sp:Sp} (F:bF P w K mg base CX j f fd ps sp) (h:j<=k):
 bF P w K mg base CX k f fd ps sp:=⟨F.len,fun A outer s H args us vs Q E hr=>F.run A outer s H args us vs Q E (hr.mono h)⟩
theorem bF.imp {P:Program}{w:World}{K:PySem.W.Frag}{mg:Str->Option Value}{base:Heap}{CX:CXT}{k:Nat}{f:Addr}{fd:FuncData}{ps:List Str}{sp sp':Sp} (F:bF P w K mg base CX k f fd ps sp)
 (h:∀vs H Q E,sp' vs H Q E->sp vs H Q E):bF P w K mg base CX k f fd ps sp':=
 ⟨fun vs H Q E q=>F.len vs H Q E (h _ _ _ _ q),fun A outer s H args us vs Q E hr he hb hv hs=>F.run A outer s H args us vs Q E hr he hb hv (h _ _ _ _ hs)⟩
theorem Ke.make {P:Program}{w:World}{K:PySem.W.Frag}{mg:Str->Option Value}{base:Heap}{A:Around}{outer:List Env}{s:Shared}{H:Hp} (e:Ke P w K mg base A outer s H) (C:Addr) (us:List Value) (kw:List (Str×Value)):
 Ke P w K mg base (A.under (.builtin "type.__call__" ⟨.ref C::us,kw⟩)) outer s H:=⟨by first | exact e.frames | (simpa [Around.under,Code.envs,Code.isFrame,pushEnvs] using e.frames),e.mod,e.bs,e.bsz,e.funs,e.frf,e.hok,e.bare⟩
section
variable {X:Cx}{pins:List (Addr×Obj)}{σ:St}{H:Hp}{s s':Shared}
theorem Inv.env0 (I:Inv X pins σ H s):Ke X.prog X.w X.K X.mg X.base X.A X.stack s H:=
 ⟨I.ok.frames,I.ok.mod,I.bs,Nat.le_trans I.ok.bsz I.sz,I.stack,I.Lw,I.hok,I.bare⟩
theorem Inv.after {Q:VK}{u:Value} (I:Inv X pins σ H s) (h:CE X.stack X.prog X.w H s Q u s'):EP X pins σ Q u s':=by
 obtain⟨v,H',os,bare,un,hok,r,q⟩:=h
 obtain⟨hh,g,d,t,os'⟩:=s'
 obtain rfl:os'=s.os:=os
 exact⟨v,H',I.call (h':=hh) (g':=g) (d':=d) (t':=t) (ch:=[]) un hok bare (fun b z=>absurd z (by simp)),r,q⟩
end
def Wi (sp:Sp) (dvs:List V) (E:XK) (t:TA):TE:=fun σ H Q=>t σ H fun vs H1=>sp (vs++dvs) H1 Q E
def LR (C:Addr) (m:Str) (sp:Sp) (dvs:List V) (E:XK) (ta:TE) (t:TA):TE:=fun σ H Q=>ta σ H fun x H1=>∃a dx fs,x= .ref a/\H1 a=some (.ins C dx fs)/\fs.lookup m=none/\
 t σ H1 fun vs H2=>sp (x::(vs++dvs)) H2 Q E
def Wj (C:Addr) (sp:Sp) (dvs:List V) (E:XK) (t:TA):TE:=fun σ H Q=>t σ H fun vs H1=>∀x dx,H1 x=none->H1 dx=none->dx≠x->
 sp (.ref x::(vs++dvs)) (upd (upd H1 dx (.own x)) x (.ins C dx [])) (fun v H2=>v= .non/\Q (.ref x) H2) E
def Binds (K:PySem.W.Frag) (fd:FuncData) (ps:List Str) (ds:List Value):Prop:=
 ∀(s:Shared) (us:List Value),K.In s.heap->(us++ds).length=ps.length->BindsTo s fd ⟨us,[]⟩ (ps.zip (us++ds))
theorem Binds.all {K:PySem.W.Frag}{fd:FuncData}{ps:List Str} (h:∀us:List Value,us.length=ps.length->bindArgs fd ⟨us,[]⟩=pure (ps.zip us)):Binds K fd ps []:=fun s us _ hl=>by
 rw[List.append_nil] at hl ⊢
 exact .of_eq (h us hl)
def Passes (CX:CXT) (X:Cx) (E:XK):Prop:=∀(pins:List (Addr×Obj)) (σ:St) (H:Hp) (s:Shared) (e:Value) (s':Shared),Inv X pins σ H s->CX X.stack H s E e s'->X.xe e s'
section
variable {X:Cx}{CX:CXT}{k:Nat}{f C:Addr}{fd:FuncData}{ps:List Str}{sp:Sp}{dvs:List V}{ds:List Value}{E:XK}{x m:Str}{p pos apos:Pos}{e o:Expr}{es:List Expr}{ta:TE}{t:TA}
theorem Kf {pins:List (Addr×Obj)}{σ:St}{H:Hp}{s:Shared}{Q:VK}{us:List Value}{vs:List V} (F:bF X.prog X.w X.K X.mg X.base CX k f fd ps sp) (hr:kY k X.A) (hb:Binds X.K fd ps ds) (hd:Vals dvs ds) (hx:Passes CX X E)
 (I:Inv X pins σ H s) (r:Vals vs us) (h:sp (vs++dvs) H Q E):wpAny (model X.prog X.w) X.A (call (.ref f) us) (EP X pins σ Q) X.xe s:=by
 have r2:Vals (vs++dvs) (us++ds):=r.append hd
 have hl:(us++ds).length=ps.length:=by rw[<-r2.length];exact F.len _ _ _ _ h
 refine wpAny_call (codeAny_mono (F.run X.A X.stack s H ⟨us,[]⟩ (us++ds) (vs++dvs) Q E hr I.env0 (hb s us I.kIn hl) r2 h) fun r s' hq=> ?_)
 cases r with
 | error e=>exact hx pins σ H s e s' I hq
 | ok fl=>
   cases fl with
   | ret u=>exact I.after hq
   | next=>exact False.elim hq
   | brk=>exact False.elim hq
   | cont=>exact False.elim hq
theorem SQ (F:bF X.prog X.w X.K X.mg X.base CX k f fd ps sp) (hr:kY k X.A) (hg:Gl X x) (hm:X.mg x=some (.ref f)) (hk:PySem.W.keepIn X.K (.ref f)=true) (hb:Binds X.K fd ps ds) (hd:Vals dvs ds) (hx:Passes CX X E)
 (ha:PA X (e::es) t) (hdb:(x==("__debug__":Str))=false:=by decide) (he:starEach (e::es) X.env=(false,eval e X.env)::starEach es X.env:=by rfl) (hpl:(backTo pos (starEach es X.env)).any (·.1)=false:=by rfl):
 PE X (.Call (.Name x p) (e::es) [] pos) (Wi sp dvs E t):=by
 intro pins s σ H Q I h
 refine wpAny_Call_Name_kw (Gq I hg hm ?_ hdb)
 refine PySem.W.callWith_K (h₀:=X.base) I.ok.mod.kin hk (thn (ha pos pins s σ H _ I h) fun us s1 ⟨vs,H1,I1,r,q⟩=>⟨I1.kIn, ?_⟩) he hpl
 exact Kf F hr hb hd hx I1 r q
theorem SX {pl:Sem Bool} (he:PE X o ta) (c:Cls X.K C) (hm:Meth X.K C m f) (F:bF X.prog X.w X.K X.mg X.base CX k f fd ps sp) (hr:kY k X.A) (hb:Binds X.K fd ps ds) (hd:Vals dvs ds) (hx:Passes CX X E) (ha:PA X (e::es) t)
 (hst:starEach (e::es) X.env=(false,eval e X.env)::starEach es X.env:=by rfl) (hpl:(backTo pos (starEach es X.env)).any (·.1)=false:=by rfl)
 (ht:eval (.Call (.Attribute o m apos) (e::es) [] pos) X.env=(do
   let ov <-eval o X.env
   standAt apos.atName
   let (f,first) <-holding [ov] (getMethod ov m pl)
   callWith pos f first (backTo pos (starEach (e::es) X.env)) (backToKw pos (keywordEach [] X.env))):=by rfl):
 PE X (.Call (.Attribute o m apos) (e::es) [] pos) (LR C m sp dvs E ta t):=by
 intro pins s σ H Q I h
 refine PySem.W.methodCall_KW (pl:=pl) (thn (he pins s σ H _ I h) fun u s1 ⟨x,H1,I1,rx,a,dx,fs,ex,ea,l,q⟩=> ?_) ht
 subst ex
 obtain rfl:u=Value.ref a:=rx
 refine CP I1 ea c hm l ?_
 refine PySem.W.callWith_K (first:=[.ref a]) (h₀:=X.base) I.ok.mod.kin hm.kp (thn (ha pos pins s1 σ H1 _ I1 q) fun us s2 ⟨vs,H2,I2,r,q2⟩=>⟨I2.kIn, ?_⟩) hst hpl
 exact Kf (us:= .ref a::us) (vs:= .ref a::vs) F hr hb hd hx I2 (.cons rfl r) q2
theorem Pj {pl:Sem Bool} (he:PE X o ta) (c:Cls X.K C) (hm:Meth X.K C m f) (F:bF X.prog X.w X.K X.mg X.base CX k f fd ps sp) (hr:kY k X.A) (hb:Binds X.K fd ps ds) (hd:Vals dvs ds) (hx:Passes CX X E)
 (ht:eval (.Call (.Attribute o m apos) [] [] pos) X.env=(do
   let ov <-eval o X.env
   standAt apos.atName
   let (f,first) <-holding [ov] (getMethod ov m pl)
   callWith pos f first (backTo pos (starEach [] X.env)) (backToKw pos (keywordEach [] X.env))):=by rfl):
 PE X (.Call (.Attribute o m apos) [] [] pos) (LR C m sp dvs E ta SM):=by
 intro pins s σ H Q I h
 refine PySem.W.methodCall_KW (pl:=pl) (thn (he pins s σ H _ I h) fun u s1 ⟨x,H1,I1,rx,a,dx,fs,ex,ea,l,q⟩=> ?_) ht
 subst ex
 obtain rfl:u=Value.ref a:=rx
 refine CP I1 ea c hm l ?_
 exact PySem.W.callWith_K0 (first:=[.ref a]) I1.kIn hm.kp (Kf (us:=[.ref a]) (vs:=[.ref a]) F hr hb hd hx I1 (.cons rfl .nil) q)
structure Mk (K:PySem.W.Frag) (C f:Addr):Prop where
 makes:PySem.W.makesIn K C=true
 init:PySem.W.findIn K (.ref C) "__init__"=some (some (.ref f))
 fn:PySem.W.isFn K (.ref f)=true
 kp:PySem.W.keepIn K (.ref C)=true
theorem Pk {pins:List (Addr×Obj)}{σ:St}{H:Hp}{s:Shared}{Q:VK}{us:List Value}{vs:List V} (M:Mk X.K C f) (F:bF X.prog X.w X.K X.mg X.base CX k f fd ps sp) (hr:kY (k+1) X.A) (hb:Binds X.K fd ps ds) (hd:Vals dvs ds)
 (hx:Passes CX X E) (I:Inv X pins σ H s) (r:Vals vs us)
 (h:∀x dx,H x=none->H dx=none->dx≠x->sp (.ref x::(vs++dvs)) (upd (upd H dx (.own x)) x (.ins C dx [])) (fun v H2=>v= .non/\Q (.ref x) H2) E):
 wpAny (model X.prog X.w) X.A (call (.ref C) us) (EP X pins σ Q) X.xe s:=by
 have hq:=h (s.heap.objs.size+1) s.heap.objs.size (I.hok.fresh (Nat.le_succ _)) (I.hok.fresh (Nat.le_refl _)) (Nat.ne_of_lt (Nat.lt_succ_self _))
 have I2:=Inv.made (C:=C) I
 have r2:Vals (V.ref (s.heap.objs.size+1)::(vs++dvs)) (Value.ref (s.heap.objs.size+1)::(us++ds)):= .cons rfl (r.append hd)
 have hl:(Value.ref (s.heap.objs.size+1)::us++ds).length=ps.length:=by
  have e:=r2.length
  rw[F.len _ _ _ _ hq] at e
  exact e.symm
 refine wpAny_call (Ph (f:=f) I.kIn M.makes M.init (beq_iff_eq.mp M.fn) (codeAny_mono (F.run _ X.stack _ _ ⟨Value.ref (s.heap.objs.size+1)::us,[]⟩ (Value.ref (s.heap.objs.size+1)::(us++ds)) _ _ E (hr.make C us [])
  (I2.env0.make C us []) (hb _ (Value.ref (s.heap.objs.size+1)::us) I2.kIn hl) r2 hq) fun r s' hq'=> ?_))
 cases r with
 | error e=>exact hx pins σ _ _ e s' I2 hq'
 | ok fl=>
   cases fl with
   | ret u=>
     obtain⟨v,H',I3,rv,ev,q3⟩:=I2.after hq'
     subst ev
     exact⟨rv,⟨V.ref (s.heap.objs.size+1),H',I3,rfl,q3⟩⟩
   | next=>exact False.elim hq'
   | brk=>exact False.elim hq'
   | cont=>exact False.elim hq'
theorem Tc (M:Mk X.K C f) (F:bF X.prog X.w X.K X.mg X.base CX k f fd ps sp) (hr:kY (k+1) X.A) (hg:Gl X x) (hm:X.mg x=some (.ref C)) (hb:Binds X.K fd ps ds) (hd:Vals dvs ds) (hx:Passes CX X E)
 (ha:PA X (e::es) t) (hdb:(x==("__debug__":Str))=false:=by decide) (he:starEach (e::es) X.env=(false,eval e X.env)::starEach es X.env:=by rfl) (hpl:(backTo pos (starEach es X.env)).any (·.1)=false:=by rfl):
 PE X (.Call (.Name x p) (e::es) [] pos) (Wj C sp dvs E t):=by
 intro pins s σ H Q I h
 refine wpAny_Call_Name_kw (Gq I hg hm ?_ hdb)
 refine PySem.W.callWith_K (h₀:=X.base) I.ok.mod.kin M.kp (thn (ha pos pins s σ H _ I h) fun us s1 ⟨vs,H1,I1,r,q⟩=>⟨I1.kIn, ?_⟩) he hpl
 exact Pk M F hr hb hd hx I1 r q
end
section
variable {X:Cx}{CX:CXT}{k:Nat}{f C:Addr}{fd:FuncData}{ps ks:List Str}{sp:Sp}{E:XK}{x m:Str}{p pos apos kpos:Pos}{e o:Expr}{es:List Expr}{kws:List Keyword}{te ta:TE}{t tk:TA}{nm:Option Str}
variable {g:List Value->List Value->List Value}{gV:List V->List V->List V}
end
structure bU (N P:List Str) (sc:Scope):Prop where
 kind:sc.kind= .function
 co:sc.isCoroutine=false
 gen:sc.isGenerator=false
 nd:N.Nodup
 pre:N.take P.length=P
 par:∀x∈P,sc.names.lookup x=some .local\/sc.names.lookup x=some .cell
 nofree:∀y∈sc.names,y.2≠ .free
theorem Ft {kindOf:Str->Option NameKind}{x:Str}:∀{binds:List (Str×Value)}{m:Str->Option Value},(∀v,(x,v)∉binds)->bindL kindOf binds m x=m x
 |[],_,_=>rfl
 | (n,v)::r,m,h=>by
   unfold bindL
   rw[Ft fun w hw=>h w (List.mem_cons_of_mem _ hw)]
   split
   ·have:x≠n:=by rintro rfl;exact h v List.mem_cons_self
    simp[this]
   ·rfl
theorem Fv {kindOf:Str->Option NameKind}{x:Str}:∀{binds:List (Str×Value)}{m:Str->Option Value},(∀v,(x,v)∉binds)->bindC kindOf binds m x=m x
 |[],_,_=>rfl
 | (n,v)::r,m,h=>by
   unfold bindC
   rw[Fv fun w hw=>h w (List.mem_cons_of_mem _ hw)]
   split
   ·rfl
   ·have:x≠n:=by rintro rfl;exact h v List.mem_cons_self
    simp[this]
theorem Fw {kindOf:Str->Option NameKind}{x:Str}{v:Value}:∀{P:List Str}{vs:List Value}{i:Nat}{m:Str->Option Value},P.Nodup->P[i]? =some x->vs[i]? =some v->kindOf x=some .local->
 bindL kindOf (P.zip vs) m x=some v
 |[],_,_,_,_,h,_,_=>by simp at h
 | _::_,[],_,_,_,_,h,_=>by simp at h
 | p::P,w::vs,0,m,nd,h1,h2,hk=>by
   simp at h1 h2;subst h1;subst h2
   show bindL kindOf ((p,w)::P.zip vs) m p=_
   unfold bindL
   rw[Ft fun v hv=>(List.nodup_cons.mp nd).1 (List.of_mem_zip hv).1,if_pos hk]
   simp
 | p::P,w::vs,i+1,m,nd,h1,h2,hk=>by
   show bindL kindOf ((p,w)::P.zip vs) m x=_
   unfold bindL
   exact Fw (i:=i) (List.nodup_cons.mp nd).2 (by simpa using h1) (by simpa using h2) hk
theorem Fx {kindOf:Str->Option NameKind}{x:Str}{v:Value}:∀{P:List Str}{vs:List Value}{i:Nat}{m:Str->Option Value},P.Nodup->P[i]? =some x->vs[i]? =some v->kindOf x≠some .local->
 bindC kindOf (P.zip vs) m x=some v
 |[],_,_,_,_,h,_,_=>by simp at h
 | _::_,[],_,_,_,_,h,_=>by simp at h
 | p::P,w::vs,0,m,nd,h1,h2,hk=>by
   simp at h1 h2;subst h1;subst h2
   show bindC kindOf ((p,w)::P.zip vs) m p=_
   unfold bindC
   rw[Fv fun v hv=>(List.nodup_cons.mp nd).1 (List.of_mem_zip hv).1,if_neg hk]
   simp
 | p::P,w::vs,i+1,m,nd,h1,h2,hk=>by
   show bindC kindOf ((p,w)::P.zip vs) m x=_
   unfold bindC
   exact Fx (i:=i) (List.nodup_cons.mp nd).2 (by simpa using h1) (by simpa using h2) hk
def start (N:List Str) (vs:List V):St:=vs.map some++List.replicate (N.length - vs.length) none
def Kg (CX:CXT) (P:Program) (w:World) (K:PySem.W.Frag) (mg:Str->Option Value) (base:Heap) (N:List Str) (qual:Str) (scope:Scope) (f:Addr) (cd:Value) (A:Around) (outer:List Env) (s:Shared) (H:Hp) (E:XK):Cx where
 prog:=P
 w:=w
 K:=K
 mg:=mg
 base:=base
 A:=A.deeper (envOfC qual scope s.heap.objs.size f cd)
 N:=N
 s₀:=s
 H₀:=H
 env:=envOfC qual scope s.heap.objs.size f cd
 outer:=outer
 stack:=envOfC qual scope s.heap.objs.size f cd::outer
 ex:=[]
 calm:=true
 fn:=fun _=>true
 pn:=[]
 xe:=fun e s'=>wpAny (model P w) (A.deeper (envOfC qual scope s.heap.objs.size f cd)) (leaving (envOfC qual scope s.heap.objs.size f cd) e) (fun _ s''=>CX outer H s E e s'') (fun e' s''=>CX outer H s E e' s'') s'
theorem HW {sc:Scope}{n:Nat}{x:Str} (h:sc.names.lookup x=some .cell):∃c,(cellsFrom n sc.names []).lookup x=some c:=by
 have q:=PySem.W.cellsFrom_some sc.names n [] (.inl h)
 exact Option.isSome_iff_exists.mp q
theorem Ny {CX:CXT}{P:Program}{w:World}{K:PySem.W.Frag}{mg:Str->Option Value}{base:Heap}{N ps:List Str}{qual:Str}{scope:Scope}{f:Addr}{cd:Value}{A:Around}{outer:List Env}{s s1:Shared}{H:Hp}{E:XK}{us:List Value}{vs:List V}
 (S:bU N ps scope) (hd:A.handled=none) (e0:Ke P w K mg base A outer s H) (hl:vs.length=ps.length) (r:Vals vs us)
 (x:InCallC s s.heap.objs.size (bindL (envOfC qual scope s.heap.objs.size f cd).kindOf (ps.zip us) fun _=>none) (cellsFrom (s.heap.objs.size+1) scope.names []) (bindC (envOfC qual scope s.heap.objs.size f cd).kindOf (ps.zip us) fun _=>none) s1):
 Inv (Kg CX P w K mg base N qual scope f cd A outer s H E) [] (start N vs) H s1:=by
 have hpl:ps.length<=N.length:=by have:=congrArg List.length S.pre;rw[List.length_take] at this;omega
 obtain⟨h1,tk,rfl,hk⟩:=x.done
 have noA:∀b:Addr,b∉(Kg CX P w K mg base N qual scope f cd A outer s H E).ex:=fun b z=>absurd (show b∈([]:List Addr) from z) (by simp)
 refine⟨⟨e0.mod,S.kind,rfl,rfl,Nat.le_refl _,fun y z c h1 h2=> ?_,fun y hy=> ?_,fun y c _ h=> ?_,fun _=>hd,Around.frames_deeper e0.frames, .inr ⟨rfl,rfl⟩,fun b z=>absurd z (noA b),e0.bs,e0.bsz,fun b _ _=>noA b,fun b z=>absurd z (noA b),e0.funs,e0.frf⟩,
  rfl,e0.bare,Un.kept hk,⟨_,x.toInCall.ns,fun i y v h1 h2 h3=> ?_⟩,fun y c h=>⟨_,x.cell y c h⟩,e0.hok.fresh (Nat.le_refl _),fun y c h=> ?_,fun p hp=>absurd (show p∈([]:List (Addr×Obj)) from hp) (by simp),e0.hok.kept hk, ?_⟩
 ·exact name_of_addr x.apart (PySem.mem_of_lookup h1) (PySem.mem_of_lookup h2)
 ·have hy:scope.names.lookup y=some .cell\/scope.names.lookup y=some .free:=hy
  rcases hy with hy | hy
  ·exact HW hy
  ·exact absurd rfl (S.nofree _ (PySem.mem_of_lookup hy))
 ·exact Nat.le_of_lt (x.above y c (PySem.mem_of_lookup h))
 ·have hi:i<vs.length:=by
   unfold start at h2
   by_cases hi:i<vs.length
   ·exact hi
   ·rw[List.getElem?_append_right (by simpa using hi)] at h2
    rw[List.getElem?_replicate] at h2
    split at h2<;>cases h2
  have ha:vs[i]? =some v:=by
   unfold start at h2
   rw[List.getElem?_append_left (by simpa using hi),List.getElem?_map] at h2
   cases e:vs[i]? with
   | none=>rw[e] at h2;cases h2
   | some a=>rw[e] at h2;cases h2;rfl
  obtain⟨u,hu,rv⟩:=r.get ha
  have hp:ps[i]? =some y:=by
   rw[<-S.pre,List.getElem?_take_of_lt (by omega)];exact h1
  have ndP:ps.Nodup:=by rw[<-S.pre];exact S.nd.sublist (List.take_sublist _ _)
  refine⟨u,rv, ?_⟩
  rcases S.par y (List.mem_of_getElem? hp) with k | k
  ·exact .inl ⟨k,Fw ndP hp hu k⟩
  ·obtain⟨c,e⟩:=HW (n:=s.heap.objs.size+1) k
   refine .inr ⟨.inl k,c,e, ?_⟩
   have q:=x.cell y c e
   rw[Fx ndP hp hu (by show scope.names.lookup y≠_;rw[k];decide)] at q
   exact q
 ·exact e0.hok.fresh (Nat.le_of_lt (x.above y c (PySem.mem_of_lookup h)))
 ·unfold start
  show _=N.length
  rw[List.length_append,List.length_map,List.length_replicate]
  omega
theorem abE {CX:CXT}{P:Program}{w:World}{K:PySem.W.Frag}{mg:Str->Option Value}{base:Heap}{k:Nat}{f:Addr}{name qual:Str}{params:Arguments}{body:List Stmt}{scope:Scope}{dV kV doc pm cdv ct oc:Value}{an od:Option Addr}
 {osl:Array (Option Value)}{N ps:List Str}{sp:Sp} (lk:K.lookup f=some ⟨oc,od, .func (PySem.W.fnOf name qual params body scope dV kV doc pm an cdv ct),osl⟩) (hcd:PySem.W.codeIn K cdv qual=true) (S:bU N ps scope)
 (len:∀vs H Q E,sp vs H Q E->vs.length=ps.length)
 (hbody:∀(A:Around) (outer:List Env) (s:Shared) (H:Hp) (vs:List V) (Q:VK) (E:XK),kY k (A.deeper (envOfC qual scope s.heap.objs.size f cdv))->sp vs H Q E->
   ∃t,PSs (Kg CX P w K mg base N qual scope f cdv A outer s H E) body t/\t {nx:=fun _ H'=>Q .non H',rt:=Q} (start N vs) H):
 bF P w K mg base CX (k+1) f (PySem.W.fnOf name qual params body scope dV kV doc pm an cdv ct) ps sp:=by
 refine⟨len,fun A outer s H args us vs Q E hr e0 hb r hsp=> ?_⟩
 have hl:=len _ _ _ _ hsp
 have KX:K.In s.heap:=e0.mod.kin.keeps fun b o e=>(e0.bs b o e).1
 have lim:s.heap.NoLimit:=e0.mod.nolimit.keeps fun b o e=>(e0.bs b o e).1
 have hkind:∀y∈ps.zip us,scope.names.lookup y.1=some .local\/(scope.names.lookup y.1=some .cell/\((cellsFrom (s.heap.objs.size+1) scope.names []).lookup y.1).isSome=true):=fun⟨n,v⟩ hy=>by
  rcases S.par n (List.of_mem_zip hy).1 with q | q
  ·exact .inl q
  ·exact .inr ⟨q,PySem.W.cellsFrom_some _ _ _ (.inl q)⟩
 refine codeAny_call_function hr.depth (KX _ _ lk) rfl S.co S.gen rfl (PySem.W.codeRec_of KX hcd) (hb _ _ _ _ ?_)
 refine wpAny_newFunctionEnv_cells S.kind hkind fun env he s1 x=> ?_
 subst he
 refine⟨lim.keeps x.toInCall.keep,codeAny_func ?_⟩
 obtain⟨t,ht,hq⟩:=hbody A outer s H vs Q E (hr.deeper _) hsp
 have I:Inv (Kg CX P w K mg base N qual scope f cdv A outer s H E) [] (start N vs) H s1:=Ny S hr.hd e0 hl r x
 refine wpAny_mono (ht [] s1 (start N vs) H _ I hq) (fun fl s' hs=> ?_) fun e s' hs=>hs
 have fin:∀{σ':St}{H':Hp}{v:V}{u:Value},Inv (Kg CX P w K mg base N qual scope f cdv A outer s H E) [] σ' H' s'->RelV v u->Q v H'->CE outer P w H s Q u s':=
  fun{σ' H' v u} J rv q=>⟨v,H',J.os,J.bare,J.base,J.hok,rv,q⟩
 cases fl with
 | ret u=>
   obtain⟨v,σ',H',J,rv,q⟩:=hs
   exact fin J rv q
 | next=>
   obtain⟨σ',H',J,q⟩:=hs
   exact fin (v:=V.non) (u:=Value.none) J rfl q
 | brk=>
   obtain⟨_,_,_,q⟩:=hs
   exact False.elim q
 | cont=>
   obtain⟨_,_,_,q⟩:=hs
   exact False.elim q
end L2
namespace L2
open PySem PySem.Spec PyProof.Rows
section
variable {X:Cx}{x:Str}{p pos:Pos}{e:Expr}{es:List Expr}{t:TA}{id T:String}{r:List V->Hp->VK->Prop}
def tCB (r:List V->Hp->VK->Prop) (t:TA):TE:=fun σ H Q=>t σ H fun vs H1=>r vs H1 Q
theorem Pn (hc:o8 X (.builtin id) r) (hg:Gl X x) (hm:X.mg x=none) (hv:bootBuiltins x=some (.builtin id)) (ha:PA X (e::es) t) (hn:x≠"__name__":=by decide) (hdb:(x==("__debug__":Str))=false:=by decide)
 (he:starEach (e::es) X.env=(false,eval e X.env)::starEach es X.env:=by rfl) (hpl:(backTo pos (starEach es X.env)).any (·.1)=false:=by rfl):PE X (.Call (.Name x p) (e::es) [] pos) (tCB r t):=by
 intro pins s σ H Q I h
 refine wpAny_Call_Name_kw (uW I hg hm hv ?_ hn hdb)
 exact PyProof.Rows.callWith_builtin1 (thn (ha pos pins s σ H _ I h) fun us s1 ⟨vs,H1,I1,r1,q1⟩=>hc pins s1 σ H1 vs us Q I1 r1 q1) he hpl
theorem Nz (hc:o8 X (.type T) r) (hg:Gl X x) (hm:X.mg x=none) (hv:bootBuiltins x=some (.type T)) (ha:PA X (e::es) t) (hn:x≠"__name__":=by decide) (hdb:(x==("__debug__":Str))=false:=by decide)
 (he:starEach (e::es) X.env=(false,eval e X.env)::starEach es X.env:=by rfl) (hpl:(backTo pos (starEach es X.env)).any (·.1)=false:=by rfl):PE X (.Call (.Name x p) (e::es) [] pos) (tCB r t):=by
 intro pins s σ H Q I h
 refine wpAny_Call_Name_kw (uW I hg hm hv ?_ hn hdb)
 exact PyProof.Rows.callWith_type1 (thn (ha pos pins s σ H _ I h) fun us s1 ⟨vs,H1,I1,r1,q1⟩=>hc pins s1 σ H1 vs us Q I1 r1 q1) he hpl
end
end L2
namespace HT
open PySem PyProof.Rows
section
open PySem.SeqAt
open PySem.AutoSeq1 (wpAny_loadPart')
open PySem.MeetsSeq PySem.MeetsSeq2 PySem.MeetsSeq3
end
section
variable {prog:Program}{w:World}{A:Around}{E:Value->Shared->Prop}{s:Shared}
def sIx (n d:Nat):Option Int->Nat
 | none=>d
 | some v=>if v<0 then(v+(n:Int)).toNat else min v.toNat n
theorem Pq (n d:Nat):sIx n d none=d:=rfl
theorem Td (n d k:Nat):sIx n d (some (k:Int))=min k n:=by
 show(if(k:Int)<0 then((k:Int)+(n:Int)).toNat else min (k:Int).toNat n)=min k n
 rw[if_neg (by omega),Int.toNat_natCast]
end
end HT
namespace L2
open PySem PySem.Spec PyProof.Rows
abbrev TO:=St->Hp->(Option Int->Hp->Prop)->Prop
def PO (X:Cx) (e:Option Expr) (t:TO):Prop:=
 ∀(pins:List (Addr×Obj)) (s:Shared) (σ:St) (H:Hp) (Q:Option Int->Hp->Prop),Inv X pins σ H s->t σ H Q->
  wpAny (model X.prog X.w) X.A (evalPart e X.env) (fun u s'=>∃o H',Inv X pins σ H' s'/\IsPart u o/\Q o H') X.xe s
def Ma:TO:=fun _ H Q=>Q none H
def Wk (t:TE):TO:=fun σ H Q=>t σ H fun x H1=>∃i,x= .int i/\Q (some i) H1
section
variable {X:Cx}{e:Expr}{te:TE}{lo hi:Option Expr}{tl th:TO}{pos p2:Pos}
theorem Te:PO X none Ma:=by
 intro pins s σ H Q I h
 rw[evalPart_none]
 exact wpAny_pure ⟨none,H,I, .none,h⟩
theorem Tf (h:PE X e te):PO X (some e) (Wk te):=by
 intro pins s σ H Q I hw
 rw[evalPart_some]
 refine thn (h pins s σ H _ I hw) fun u s1 ⟨x,H1,I1,r1,q1⟩=> ?_
 obtain⟨i,rfl,q⟩:=q1
 obtain⟨t,rfl⟩:=r1
 exact⟨some i,H1,I1, .int i t,q⟩
def SlR (X:Cx) (r:V->Option Int->Option Int->Hp->VK->Prop):Prop:=
 ∀(pins:List (Addr×Obj)) (s:Shared) (σ:St) (H:Hp) (x:V) (v vl vu:Value) (lo hi:Option Int) (sl:Addr) (Q:VK),Inv X pins σ H s->RelV x v->s.heap.IsSliceOf sl vl vu .none->IsPart vl lo->IsPart vu hi->r x lo hi H Q->
  ∃T id,typeLookup (.type T) "__getitem__"=pure (some (.builtin id))/\s.TypeIs v T/\wpAny (model X.prog X.w) X.A (getItem v (.ref sl)) (EP X pins σ Q) X.xe s
def tSl (r:V->Option Int->Option Int->Hp->VK->Prop) (te:TE) (tl th:TO):TE:=fun σ H Q=>te σ H fun x H1=>tl σ H1 fun l H2=>th σ H2 fun u H3=>r x l u H3 Q
theorem Pr {r:V->Option Int->Option Int->Hp->VK->Prop} (hr:SlR X r) (he:PE X e te) (hl:PO X lo tl) (hu:PO X hi th):PE X (.Subscript e (.Slice lo hi none p2) pos) (tSl r te tl th):=by
 intro pins s σ H Q I h
 refine Subscript_ (thn (he pins s σ H _ I h) fun v s1 ⟨x,H1,I1,r1,q1⟩=> ?_)
 refine wpAny_Slice (thn (hl pins s1 σ H1 _ I1 q1) fun vl s2 ⟨l,H2,I2,pl,q2⟩=>thn (hu pins s2 σ H2 _ I2 q2) fun vu s3 ⟨u,H3,I3,pu,q3⟩=> ?_)
 rw[evalPart_none]
 refine wpAny_pure ?_
 have I4:Inv X pins σ H3 {s3 with heap:=s3.heap.push {cls:= .type "slice",data:= .fields #[vl,vu, .none]}}:=I3.kept (t':=s3.toks) fun b ob q=>Heap.get?_push_of_some _ q
 obtain⟨T,id,hT,ht,hg⟩:=hr pins {s3 with heap:=s3.heap.push {cls:= .type "slice",data:= .fields #[vl,vu, .none]}} σ H3 x v vl vu l u s3.heap.objs.size Q I4 r1 (Heap.IsSliceOf.new ..) pl pu q3
 show wpAny (model X.prog X.w) X.A (subscriptTail e (.Slice lo hi none p2) v (.ref s3.heap.objs.size)) (EP X pins σ Q) X.xe {s3 with heap:=s3.heap.push {cls:= .type "slice",data:= .fields #[vl,vu, .none]}}
 exact tail_any (ops:=[.ref s3.heap.objs.size,v]) ht hT hg (by with_unfolding_all rfl)
def HX (xs:List V) (lo hi:Option Int):List V:=(xs.drop (HT.sIx xs.length 0 lo)).take (HT.sIx xs.length xs.length hi - HT.sIx xs.length 0 lo)
theorem HY (xs:List V) (lo hi:Option Int):(HX xs lo hi).length<=xs.length:=by
 unfold HX
 rw[List.length_take,List.length_drop]
 omega
end
end L2
namespace L2
open PySem PySem.Spec PyProof.Rows
def ixN (n:Nat) (i:Int):Option Nat:=if 0<=i then(if i<n then some i.toNat else none) else if -(n:Int)<=i then some (i+n).toNat else none
def atI {α:Type} (xs:List α) (i:Int):Option α:=(ixN xs.length i).bind fun j=>xs[j]?
theorem Tg {n:Nat}{i:Int}{j:Nat} (h:ixN n i=some j):seqIndex? i n=some j/\j<n/\ -(n:Int)<=i/\i<n:=by
 unfold ixN at h
 by_cases h0:0<=i
 ·rw[if_pos h0] at h
  by_cases h1:i<n
  ·rw[if_pos h1] at h
   have e:i.toNat=j:=Option.some.inj h
   exact⟨by rw[seqIndex_of h0 h1,e],by omega,by omega,h1⟩
  ·rw[if_neg h1] at h;cases h
 ·rw[if_neg h0] at h
  by_cases h1: -(n:Int)<=i
  ·rw[if_pos h1] at h
   have e:(i+n).toNat=j:=Option.some.inj h
   exact⟨by rw[seqIndex_neg (by omega) h1,e],by omega,h1,by omega⟩
  ·rw[if_neg h1] at h;cases h
theorem Gs {α:Type}{xs:List α}{i:Int}{v:α} (h:atI xs i=some v):∃j,seqIndex? i xs.length=some j/\xs[j]? =some v/\j<xs.length/\ -(xs.length:Int)<=i/\i<xs.length:=by
 unfold atI at h
 cases e:ixN xs.length i with
 | none=>rw[e] at h;cases h
 | some j=>
   rw[e] at h
   obtain⟨h1,h2,h3,h4⟩:=Tg e
   exact⟨j,h1,h,h2,h3,h4⟩
theorem fW {α:Type}{xs:List α}{j:Nat}{v:α} (h:xs[j]? =some v):atI xs (j:Int)=some v:=by
 have hj:j<xs.length:=(List.getElem?_eq_some_iff.mp h).1
 have e:ixN xs.length (j:Int)=some j:=by
  unfold ixN
  rw[if_pos (by omega),if_pos (by omega)];simp
 unfold atI;rw[e];exact h
def Mf (b:Expr):Prop:=∀o i,subscripted b false o i=operate [o,i] (getItem o i)
def IxR (X:Cx) (r:R2):Prop:=
 ∀(value slice:Expr) (pins:List (Addr×Obj)) (s:Shared) (σ:St) (H:Hp) (x y:V) (v u:Value) (Q:VK),Inv X pins σ H s->RelV x v->RelV y u->r x y H Q->
  subscripted slice false v u=operate [v,u] (getItem v u)->wpAny (model X.prog X.w) X.A (subscriptTail value slice v u) (EP X pins σ Q) X.xe s
def MtR (X:Cx) (id:String) (r:V->List V->Hp->VK->Prop):Prop:=
 ∀(pins:List (Addr×Obj)) (s:Shared) (σ:St) (H:Hp) (x:V) (xs:List V) (v:Value) (us:List Value) (Q:VK),Inv X pins σ H s->RelV x v->Vals xs us->r x xs H Q->
  wpAny (model X.prog X.w) X.A (call (.builtin id) (v::us)) (EP X pins σ Q) X.xe s
section
variable {X:Cx}{a b:Expr}{ta tb:TE}{pos:Pos}
theorem abF {r:R2} (hr:IxR X r) (ha:PE X a ta) (hb:PE X b tb) (hs:Mf b):PE X (.Subscript a b pos) (tOp r ta tb):=by
 intro pins s σ H Q I h
 exact Subscript_ (XR ha hb I h fun v u s2 x y H2 I2 rx ry q=>hr a b pins s2 σ H2 x y v u Q I2 rx ry q (hs _ _))
def Yk (K:PySem.W.Frag):R2:=fun x y H Q=>∃p xs i v,x= .ref p/\y= .int i/\SqL K H p xs/\atI xs i=some v/\Q v H
def Yl (K:PySem.W.Frag):R2:=fun x y H Q=>∃p xs i v,x= .ref p/\y= .int i/\SqT K H p xs/\atI xs i=some v/\Q v H
def abG:R2:=fun x y H Q=>∃z i c,x= .str z/\y= .int i/\z.length<=sizeLine/\atI z.cps.toList i=some c/\Q (.str ⟨#[c]⟩) H
theorem Ti:IxR X (Yk X.K):=by
 intro value slice pins s σ H x y v u Q I rx ry h hs
 obtain⟨p,xs,i,z,rfl,rfl,hq,he,q⟩:=h
 cases rx
 obtain⟨t,rfl⟩:=ry
 obtain⟨its,r,pl,hz⟩:=I.list hq
 obtain⟨j,h1,h2,h3,h4,h5⟩:=Gs he
 obtain⟨w,ew,rw'⟩:=r.get h2
 have hl:=r.length
 have hn:=CJ
 have fin:EP X pins σ Q w s:=⟨z,H,I,rw',q⟩
 by_cases h0:0<=i
 ·have hj:i.toNat=j:=by
   rw[seqIndex_of h0 h5] at h1
   exact Option.some.inj h1
  exact item_listR pl.isList h0 (by omega) (by rw[hj];simpa using ew) fin hs
 ·have hj:(i+(its.toArray.size:Int)).toNat=j:=by
   rw[seqIndex_neg (by omega) h4] at h1
   rw[List.size_toArray,<-hl]
   exact Option.some.inj h1
  exact subscriptTail_builtinR (x:=w) pl.isList.typeIs slot_list_getitem.lookup
   (wpAny_getItem_list_neg (Q:=fun r s'=>r=w/\EP X pins σ Q r s') pl.isList (by omega) (by rw[List.size_toArray]<;>omega) (by omega) (by rw[hj];simpa using ew) ⟨rfl,fin⟩) hs
theorem Ym:IxR X (Yl X.K):=by
 intro value slice pins s σ H x y v u Q I rx ry h hs
 obtain⟨p,xs,i,z,rfl,rfl,hq,he,q⟩:=h
 cases rx
 obtain⟨t,rfl⟩:=ry
 obtain⟨its,r,pl,hz⟩:=I.tuple hq
 obtain⟨j,h1,h2,h3,h4,h5⟩:=Gs he
 obtain⟨w,ew,rw'⟩:=r.get h2
 have hl:=r.length
 have hn:=CJ
 have fin:EP X pins σ Q w s:=⟨z,H,I,rw',q⟩
 exact subscriptTail_builtinR (x:=w) pl.typeIs slot_tuple_getitem.lookup
  (getItem_tuple (j:=j) (Q:=fun r s'=>r=w/\EP X pins σ Q r s') pl (by omega) (by omega) (by rw[List.size_toArray,<-hl];exact h1) (by simpa using ew) ⟨rfl,fin⟩) hs
theorem Yn:IxR X abG:=by
 intro value slice pins s σ H x y v u Q I rx ry h hs
 obtain⟨z,i,c,rfl,rfl,hz,he,q⟩:=h
 obtain⟨t,rfl⟩:=rx
 obtain⟨t',rfl⟩:=ry
 obtain⟨j,h1,h2,h3,h4,h5⟩:=Gs he
 have hl:z.cps.toList.length=z.length:=by simp[Str.length]
 rw[hl] at h1 h4 h5
 have hn:=CJ
 exact tail_any (typeIs_str s z t) slot_str_getitem.lookup (getItem_str (c:=c) (by
  have e1:decide (i< -(2 ^ 63:Int))=false:=decide_eq_false (by omega)
  have e2:decide (i >= 2 ^ 63)=false:=decide_eq_false (by omega)
  rw[e1,e2,Bool.or_false]) (by rw[h1];simpa using h2) ⟨.str ⟨#[c]⟩,H,I.tok _,⟨_,rfl⟩,q⟩) hs
theorem Gu (lo hi:Option Int) (n:Nat):(sliceBounds lo hi none n).1=((HT.sIx n 0 lo:Nat):Int)/\(sliceBounds lo hi none n).2.1=((HT.sIx n n hi:Nat):Int)/\(sliceBounds lo hi none n).2.2=1:=by
 refine⟨?_, ?_,rfl⟩
 ·cases lo with
  | none=>simp[sliceBounds,HT.sIx]
  | some i=>
    simp only[sliceBounds,HT.sIx,Option.getD_none,show(1:Int)>0 by decide,if_true]
    by_cases h:i<0
    ·simp only[h,if_true]<;>omega
    ·simp only[h,if_false]<;>omega
 ·cases hi with
  | none=>simp[sliceBounds,HT.sIx]
  | some i=>
    simp only[sliceBounds,HT.sIx,Option.getD_none,show(1:Int)>0 by decide,if_true]
    by_cases h:i<0
    ·simp only[h,if_true]<;>omega
    ·simp only[h,if_false]<;>omega
theorem Et (its:List Value) (lo hi:Option Int):slicePick its.toArray lo hi none=((its.drop (HT.sIx its.length 0 lo)).take (HT.sIx its.length its.length hi - HT.sIx its.length 0 lo)).toArray:=by
 obtain⟨h1,h2,h3⟩:=Gu lo hi its.toArray.size
 unfold slicePick
 rw[h1,h2,h3]
 simp only[sliceRange_one,pick_run,List.size_toArray]<;>rfl
def abH (K:PySem.W.Frag):V->Option Int->Option Int->Hp->VK->Prop:=fun x lo hi H Q=>∃a xs,x= .ref a/\SqL K H a xs/\∀p,H p=none->Q (.ref p) (upd H p (.lst (HX xs lo hi)))
theorem Tj:SlR X (abH X.K):=by
 intro pins s σ H x v vl vu lo hi sl Q I rx hs pl pu h
 obtain⟨a,xs,rfl,hx,q⟩:=h
 cases rx
 obtain⟨its,r,ht,hz⟩:=I.list hx
 have hlen:=r.length
 refine⟨"list",_,slot_list_getitem.lookup,ht.isList.typeIs, ?_⟩
 refine wpAny_getItem_list_slice ht.isList hs pl pu .none (by simp) ?_ (by rw[List.size_toArray]<;>omega)
 rw[Et,<-hlen]
 refine⟨.ref s.heap.objs.size,_,I.laid (t':=s.toks) (o:= .lst (HX xs lo hi)) (fun b ob q=>Heap.get?_push_of_some _ q) (Nat.le_refl _) ?_,rfl,q _ (I.hok.fresh (Nat.le_refl _))⟩
 exact⟨Nat.le_trans (HY xs lo hi) hz,_,0,(r.drop (HT.sIx xs.length 0 lo)).take (HT.sIx xs.length xs.length hi - HT.sIx xs.length 0 lo),Heap.get?_push_size _ rfl⟩
def uX:V->Bool
 | .non=>true
 | .bl _=>true
 | .int _=>true
 | .str _=>true
 | _=>false
def eqV:V->V->Bool
 | .non, .non=>true
 | .bl a, .bl b=>a==b
 | .bl a, .int b=>(if a then 1 else 0)==b
 | .int a, .bl b=>a==(if b then 1 else 0)
 | .int a, .int b=>a==b
 | .str a, .str b=>a==b
 | _,_=>false
theorem Yo {A:Around}{s:Shared}{y x:V}{u v:Value} (ry:RelV y u) (rx:RelV x v) (fy:uX y=true) (fx:uX x=true):SeqAt.EqAt A s u v (eqV y x):=by
 cases y with
 | non=>
   cases ry
   cases x with
   | non=>cases rx;exact SeqAt.EqAt.same _
   | bl b=>cases rx;exact SeqAt.EqAt.none_bool b
   | int b=>obtain⟨t,rfl⟩:=rx;exact SeqAt.EqAt.none_int b t
   | str b=>obtain⟨t,rfl⟩:=rx;exact SeqAt.EqAt.none_str b t
   | _=>exact absurd (show false=true from fx) Bool.false_ne_true
 | bl a=>
   cases ry
   cases x with
   | non=>cases rx;exact SeqAt.EqAt.bool_none a
   | bl b=>cases rx;exact SeqAt.EqAt.bool_bool a b
   | int b=>obtain⟨t,rfl⟩:=rx;exact SeqAt.EqAt.bool_int a b t
   | str b=>obtain⟨t,rfl⟩:=rx;exact SeqAt.EqAt.bool_str a b t
   | _=>exact absurd (show false=true from fx) Bool.false_ne_true
 | int a=>
   obtain⟨t',rfl⟩:=ry
   cases x with
   | non=>cases rx;exact SeqAt.EqAt.int_none a t'
   | bl b=>cases rx;exact SeqAt.EqAt.int_bool a t' b
   | int b=>obtain⟨t,rfl⟩:=rx;exact SeqAt.EqAt.int_int a t' b t
   | str b=>obtain⟨t,rfl⟩:=rx;exact SeqAt.EqAt.int_str a t' b t
   | _=>exact absurd (show false=true from fx) Bool.false_ne_true
 | str a=>
   obtain⟨t',rfl⟩:=ry
   cases x with
   | non=>cases rx;exact SeqAt.EqAt.str_none a t'
   | bl b=>cases rx;exact SeqAt.EqAt.str_bool a t' b
   | int b=>obtain⟨t,rfl⟩:=rx;exact SeqAt.EqAt.str_int a t' b t
   | str b=>obtain⟨t,rfl⟩:=rx;exact SeqAt.EqAt.str_str a t' b t
   | _=>exact absurd (show false=true from fx) Bool.false_ne_true
 | _=>exact absurd (show false=true from fy) Bool.false_ne_true
def eqU (x:V) (u:Value):Bool:=match u with
 | .none=>eqV .non x
 | .bool b=>eqV (.bl b) x
 | .int i _=>eqV (.int i) x
 | .str z _=>eqV (.str z) x
 | _=>false
theorem Pu {x y:V}{u:Value} (r:RelV y u) (f:uX y=true):eqU x u=eqV y x:=by
 cases y with
 | non=>cases r;rfl
 | bl b=>cases r;rfl
 | int i=>obtain⟨t,rfl⟩:=r;rfl
 | str z=>obtain⟨t,rfl⟩:=r;rfl
 | _=>exact absurd (show false=true from f) Bool.false_ne_true
theorem zf {x:V}:∀{xs:List V}{us:List Value},Vals xs us->xs.all uX=true->us.any (eqU x)=xs.any fun y=>eqV y x
 | _,_, .nil,_=>rfl
 | y::xs,u::us, .cons r t,f=>by
   rw[List.all_cons,Bool.and_eq_true] at f
   rw[List.any_cons,List.any_cons,Pu r f.1,zf t f.2]
theorem uY {A:Around}{s:Shared}{x:V}{v:Value} (rx:RelV x v) (fx:uX x=true):∀{xs:List V}{us:List Value},Vals xs us->xs.all uX=true->∀u∈us,SeqAt.EqAt A s u v (eqU x u)
 | _,_, .nil,_=>fun u hu=>by cases hu
 | y::xs,u::us, .cons r t,f=>fun u' hu=>by
   rw[List.all_cons,Bool.and_eq_true] at f
   rcases List.mem_cons.mp hu with rfl | hu
   ·rw[Pu r f.1];exact Yo r rx f.1 fx
   ·exact uY rx fx t f.2 u' hu
def inV (x:V) (xs:List V):Bool:=xs.any fun y=>eqV y x
def rIn (K:PySem.W.Frag) (neg:Bool):R2:=fun x y H Q=>∃p xs,y= .ref p/\(SqL K H p xs\/SqT K H p xs)/\uX x=true/\xs.all uX=true/\Q (.bl (if neg then !inV x xs else inV x xs)) H
theorem NB:OpR X (compareOp .In) (rIn X.K false):=by
 intro pins s σ H x y v u Q I rx ry h
 obtain⟨p,xs,rfl,hq,fx,fs,q⟩:=h
 cases ry
 rcases hq with hq | hq
 ·obtain⟨its,r,pl,hz⟩:=I.list hq
  refine SeqAt.in_listAt (eqU x) pl.isList (fun w hw=>uY rx fx r fs w (by simpa using hw)) ⟨.bl _,H,I,rfl, ?_⟩
  rw[show its.toArray.any (eqU x)=its.any (eqU x) by simp,zf r fs]
  exact q
 ·obtain⟨its,r,pl,hz⟩:=I.tuple hq
  refine SeqAt.in_tupleAt (eqU x) pl (fun w hw=>uY rx fx r fs w (by simpa using hw)) ⟨.bl _,H,I,rfl, ?_⟩
  rw[show its.toArray.any (eqU x)=its.any (eqU x) by simp,zf r fs]
  exact q
theorem Gv:OpR X (compareOp .NotIn) (rIn X.K true):=by
 intro pins s σ H x y v u Q I rx ry h
 obtain⟨p,xs,rfl,hq,fx,fs,q⟩:=h
 cases ry
 rcases hq with hq | hq
 ·obtain⟨its,r,pl,hz⟩:=I.list hq
  refine SeqAt.notIn_listAt (eqU x) pl.isList (fun w hw=>uY rx fx r fs w (by simpa using hw)) ⟨.bl _,H,I,rfl, ?_⟩
  rw[show its.toArray.any (eqU x)=its.any (eqU x) by simp,zf r fs]
  exact q
 ·obtain⟨its,r,pl,hz⟩:=I.tuple hq
  refine SeqAt.notIn_tupleAt (eqU x) pl (fun w hw=>uY rx fx r fs w (by simpa using hw)) ⟨.bl _,H,I,rfl, ?_⟩
  rw[show its.toArray.any (eqU x)=its.any (eqU x) by simp,zf r fs]
  exact q
theorem Gw:o8 X (.builtin "len") (fun xs H Q=>∃p ys,xs=[.ref p]/\(SqL X.K H p ys\/SqT X.K H p ys)/\Q (.int ys.length) H):=by
 intro pins s σ H xs us Q I r h
 obtain⟨p,ys,rfl,hq,q⟩:=h
 obtain⟨u,rfl,rx⟩:=vals1 r
 cases rx
 have hn:=CJ
 rcases hq with hq | hq
 ·obtain⟨its,r',pl,hz⟩:=I.list hq
  have hlen:=r'.length
  exact Calls.call_len_list pl.isList (by simp only[List.size_toArray]<;>omega) ⟨.int ys.length,H,I.tok _,⟨s.toks+1,by rw[List.size_toArray,hlen]⟩,q⟩
 ·obtain⟨its,r',pl,hz⟩:=I.tuple hq
  have hlen:=r'.length
  exact len_tuple pl (by simp only[List.size_toArray]<;>omega) ⟨.int ys.length,H,I.tok _,⟨s.toks+1,by rw[List.size_toArray,hlen]⟩,q⟩
theorem Gx:o8 X (.type "list") (fun xs H Q=>∃p ys,xs=[.ref p]/\(SqL X.K H p ys\/SqT X.K H p ys)/\∀l,H l=none->Q (.ref l) (upd H l (.lst ys))):=by
 intro pins s σ H xs us Q I r h
 obtain⟨p,ys,rfl,hq,q⟩:=h
 obtain⟨u,rfl,rx⟩:=vals1 r
 cases rx
 have fin:∀(its:List Value),Vals ys its->ys.length<=sizeLine->∀(h':Heap) (c':Nat),(∀b o',s.heap.get? b=some o'->h'.get? b=some o')->
  h'.get? s.heap.objs.size=some {cls:= .type "list",dict:=none,data:= .seq its.toArray c',slots:= #[]}->EP X pins σ Q (.ref s.heap.objs.size) {s with heap:=h'}:=fun its r' hz h' c' kp e=>
  ⟨.ref s.heap.objs.size,_,I.laid (t':=s.toks) kp (Nat.le_refl _) (show eG X.prog X.w _ h' _ (.lst ys) from⟨hz,its,c',r',e⟩),rfl,q _ (I.hok.fresh (Nat.le_refl _))⟩
 rcases hq with hq | hq
 ·obtain⟨its,r',pl,hz⟩:=I.list hq
  have hlen:=r'.length
  obtain⟨o,ho,hc,n,hd⟩:=pl.isList
  exact call_list_seq p (.inl rfl) ho hc hd (fun h' c' kp e=>fin its r' hz h' c' kp e) (by simp only[List.size_toArray]<;>omega)
 ·obtain⟨its,r',pl,hz⟩:=I.tuple hq
  have hlen:=r'.length
  obtain⟨o,ho,hc,n,hd⟩:=pl
  exact call_list_seq p (.inr rfl) ho hc hd (fun h' c' kp e=>fin its r' hz h' c' kp e) (by simp only[List.size_toArray]<;>omega)
theorem Eu:o8 X (.type "tuple") (fun xs H Q=>∃p ys,xs=[.ref p]/\((SqL X.K H p ys/\∀l,H l=none->Q (.ref l) (upd H l (.tup ys)))\/(SqT X.K H p ys/\Q (.ref p) H))):=by
 intro pins s σ H xs us Q I r h
 obtain⟨p,ys,rfl,h⟩:=h
 obtain⟨u,rfl,rx⟩:=vals1 r
 cases rx
 rcases h with⟨hq,q⟩ | ⟨hq,q⟩
 ·obtain⟨its,r',pl,hz⟩:=I.list hq
  have hlen:=r'.length
  refine call_tuple_list pl.isList (fun h' kp=> ?_) (by simp only[List.size_toArray]<;>omega)
  have I1:Inv X pins σ H {s with heap:=h'}:=I.kept (t':=s.toks) kp
  have I2:Inv X pins σ (upd H h'.objs.size (.tup ys)) {s with heap:=h'.push {cls:= .type "tuple",data:= .seq its.toArray}}:=
   I1.laid (t':=s.toks) (fun b o e=>Heap.get?_push_of_some _ e) (Nat.le_refl _) (show eG X.prog X.w _ _ _ (.tup ys) from⟨hz,its,r',IsTup.new _ _⟩)
  exact⟨.ref h'.objs.size,_,I2,rfl,q _ (I1.hok.fresh (Nat.le_refl _))⟩
 ·obtain⟨its,r',pl,hz⟩:=I.tuple hq
  exact call_tuple_same pl ⟨.ref p,H,I,rfl,q⟩
def tyV (K:PySem.W.Frag) (T:String) (x:V) (H:Hp):Prop:=match x with
 | .str _=>T="str"
 | .int _=>T="int"
 | .ref p=>(T="list"/\∃xs,SqL K H p xs)\/(T="tuple"/\∃o,K.lookup p=some o/\o.cls= .type "tuple"/\o.dict=none)\/
     (T="dict"/\((∃kvs,H p=some (.dK kvs))\/∃kvs,H p=some (.dT kvs)))\/(T="set"/\∃S n,H p=some (.set S n))
 | _=>False
theorem Px {pins:List (Addr×Obj)}{σ:St}{H:Hp}{s:Shared}{T:String}{x:V}{v:Value} (I:Inv X pins σ H s) (r:RelV x v) (ty:tyV X.K T x H):
 s.TypeIs v T/\∀a,v= .ref a->∃ob,s.heap.get? a=some ob/\ob.dict=none:=by
 cases x with
 | str z=>
   obtain⟨t,rfl⟩:=r
   cases(show T="str" from ty)
   exact⟨typeIs_str s z t,fun _ e=>nomatch e⟩
 | int i=>
   obtain⟨t,rfl⟩:=r
   cases(show T="int" from ty)
   exact⟨typeIs_int s i t,fun _ e=>nomatch e⟩
 | ref p=>
   cases r
   rcases ty with⟨rfl,xs,hq⟩ | ⟨rfl,o,hk,hc,hd⟩ | ⟨rfl,hk⟩ | ⟨rfl,S,n,hk⟩
   ·obtain⟨its,_,pl,_⟩:=I.list hq
    refine⟨pl.isList.typeIs,fun a e=> ?_⟩
    cases e
    obtain⟨o,n,e,c,hd,_⟩:=pl
    exact⟨o,e,hd⟩
   ·refine⟨⟨o,I.kIn p o hk,hc⟩,fun a e=> ?_⟩
    cases e
    exact⟨o,I.kIn _ o hk,hd⟩
   ·have z:∃o,s.heap.get? p=some o/\o.ExactDict:=by
     rcases hk with⟨kvs,hk⟩ | ⟨kvs,hk⟩
     ·obtain⟨_,_,_,_,o,_,_,e,ex,_⟩:=I.hok p _ hk
      exact⟨o,e,ex⟩
     ·obtain⟨_,_,_,_,o,_,_,e,ex,_⟩:=I.hok p _ hk
      exact⟨o,e,ex⟩
    obtain⟨o,e,ex⟩:=z
    refine⟨⟨o,e,ex.1⟩,fun a e2=> ?_⟩
    cases e2
    exact⟨o,e,ex.2.1⟩
   ·obtain⟨o,_,_,_,e,ex,_⟩:=I.hok p _ hk
    refine⟨⟨o,e,ex.1⟩,fun a e2=> ?_⟩
    cases e2
    exact⟨o,e,ex.2.1⟩
 | _=>exact False.elim ty
def abI (K:PySem.W.Frag) (T:String) (r:V->List V->Hp->VK->Prop) (to:TE):TE:=fun σ H Q=>to σ H fun x H1=>tyV K T x H1/\r x [] H1 Q
def tBM (K:PySem.W.Frag) (T:String) (r:V->List V->Hp->VK->Prop) (to:TE) (t:TA):TE:=fun σ H Q=>to σ H fun x H1=>tyV K T x H1/\t σ H1 fun xs H2=>r x xs H2 Q
variable {o e:Expr}{es:List Expr}{to:TE}{t:TA}{name:Str}{apos cpos:Pos}{T id:String}{r:V->List V->Hp->VK->Prop}
theorem Yp (pa:PlainAttrs T) (slot:Slot T name id) (hty:typeOf (.builtin id)=pure (.type "method_descriptor")) (hm:MtR X id r) (ho:PE X o to)
 (hbase:attributeBase o name X.env (eval o X.env)=eval o X.env:=by rfl) (hline:(apos.endLine==cpos.line)=true:=by rfl):PE X (.Call (.Attribute o name apos) [] [] cpos) (abI X.K T r to):=by
 intro pins s σ H Q I h
 refine wpAny_Call_method0_late hbase hline (thn (ho pins s σ H _ I h) fun v s1 ⟨x,H1,I1,r1,ty,q1⟩=> ?_)
 obtain⟨h1,h2⟩:=Px I1 r1 ty
 exact⟨T,id,pa,slot,hty,h1,h2,Calls.callWith_builtin rfl (PySem.evalArgs_none (hm pins s1 σ H1 x [] v [] Q I1 r1 .nil q1))⟩
theorem abJ (pa:PlainAttrs T) (slot:Slot T name id) (hty:typeOf (.builtin id)=pure (.type "method_descriptor")) (hm:MtR X id r) (ho:PE X o to) (ha:PA X (e::es) t)
 (hbase:attributeBase o name X.env (eval o X.env)=eval o X.env:=by rfl)
 (hfew:((backTo cpos (starEach (e::es) X.env)).all (fun x=> !x.1)&&(backToKw cpos (keywordEach [] X.env)).all (fun x=>x.1.isSome)
   &&decide ((e::es).length+([]:List Keyword).length+(if([]:List Keyword).isEmpty then 0 else 1)<30))=true:=by rfl)
 (hline:(apos.endLine==cpos.line)=true:=by rfl) (hs:starEach (e::es) X.env=(false,eval e X.env)::starEach es X.env:=by rfl) (hplain:(backTo cpos (starEach es X.env)).any (·.1)=false:=by rfl):
 PE X (.Call (.Attribute o name apos) (e::es) [] cpos) (tBM X.K T r to t):=by
 intro pins s σ H Q I h
 refine wpAny_Call_method_late hbase hfew hline rfl (thn (ho pins s σ H _ I h) fun v s1 ⟨x,H1,I1,r1,ty,q1⟩=> ?_)
 obtain⟨h1,h2⟩:=Px I1 r1 ty
 refine⟨T,id,pa,slot,hty,h1,h2, ?_⟩
 have hA:=ha cpos pins s1 σ H1 _ I1 q1
 rw[hs] at hA ⊢
 refine Calls.callWith_builtin (by show(false||(backTo cpos (starEach es X.env)).any (·.1))=false;rw[hplain]<;>rfl) (Calls.evalArgs_plain ?_)
 exact thn hA fun us s2 ⟨vs,H2,I2,r2,q2⟩=>hm pins s2 σ H2 x vs v us Q I2 r1 r2 q2
/- xs.append(e),list.index on a module's tuple .. are MtR facts of 06m -/
end
end L2
namespace L2
open PySem PySem.Spec PyProof.Rows
def MtM (X:Cx) (id:String) (r:V->List V->Hp->VK->Prop):Prop:=
 ∀(pins:List (Addr×Obj)) (s:Shared) (σ:St) (H:Hp) (x:V) (xs:List V) (v:Value) (us:List Value) (Q:VK),Inv X pins σ H s->RelV x v->Vals xs us->r x xs H Q->
  wpAny (model X.prog X.w) X.A (call (.builtin id) (v::us)) (EP X pins σ Q) X.xe s
theorem Vals.one:∀{x:V}{us:List Value},Vals [x] us->∃u,us=[u]/\RelV x u
 | _,_, .cons r .nil=>⟨_,rfl,r⟩
theorem Vals.two:∀{x y:V}{us:List Value},Vals [x,y] us->∃u v,us=[u,v]/\RelV x u/\RelV y v
 | _,_,_, .cons r (.cons q .nil)=>⟨_,_,rfl,r,q⟩
theorem Vals.zero:∀{us:List Value},Vals [] us->us=[]
 | _, .nil=>rfl
theorem Vals.dropLast {xs:List V}{us:List Value} (h:Vals xs us):Vals xs.dropLast us.dropLast:=by
 induction h with
 | nil=>exact .nil
 | cons r t ih=>
   cases t with
   | nil=>exact .nil
   | cons q t'=>exact .cons r ih
theorem Kh {α:Type} (l:List α):l.eraseIdx (l.length - 1)=l.dropLast:=by
 induction l with
 | nil=>rfl
 | cons a r ih=>
   cases r with
   | nil=>rfl
   | cons b r=>
     have e:(a::b::r).length - 1=((b::r).length - 1)+1:=by
      have h1:(a::b::r).length=r.length+2:=rfl
      have h2:(b::r).length=r.length+1:=rfl
      omega
     rw[e,List.eraseIdx_cons_succ,ih]
     all_goals rfl
section
variable {X:Cx}{pins:List (Addr×Obj)}{σ:St}{H:Hp}{s:Shared}{l b:Addr}{xs ys zs:List V}
theorem Inv.lset {its its':List Value}{n:Nat}{f:Array Value->Array Value}{t':Nat} (I:Inv X pins σ H s) (hH:H l=some (.lst xs))
 (e:s.heap.get? l=some {cls:= .type "list",data:= .seq its.toArray n}) (hf:f its.toArray=its'.toArray) (hv:Vals ys its') (hz:ys.length<=sizeLine):
 Inv X pins σ (upd H l (.lst ys)) {s with heap:=s.heap.update l (Obj.mapSeq f),toks:=t'}:=by
 have q:=PySem.IsL.update e f
 rw[hf] at q
 refine I.write (x:=l) (e:=l) (by rw[hH];exact trivial) (.inl rfl) (fun b' u hb hu=>(Heap.get?_update_other s.heap (Obj.mapSeq f) (Ne.symm hb)).trans hu) ⟨_,q⟩ ?_
 exact⟨hz,its',_,hv,q⟩
theorem Inv.lnew {its:List Value}{t':Nat} (I:Inv X pins σ H s) (hv:Vals ys its) (hz:ys.length<=sizeLine):
 Inv X pins σ (upd H s.heap.objs.size (.lst ys)) {s with heap:=s.heap.push {cls:= .type "list",data:= .seq its.toArray},toks:=t'}:=
 I.laid (fun _ _ q=>Heap.get?_push_of_some _ q) (Nat.le_refl _) ⟨hz,its,0,hv,Heap.get?_push_size _ rfl⟩
theorem Inv.fresh (I:Inv X pins σ H s):H s.heap.objs.size=none:=I.hok.fresh (Nat.le_refl _)
theorem Inv.NK (I:Inv X pins σ H s) (hH:H l=some (.lst xs)):xs.length<=sizeLine/\∃(its:List Value) (n:Nat),Vals xs its/\xs.length=its.length/\s.heap.get? l=some {cls:= .type "list",data:= .seq its.toArray n}:=by
 obtain⟨z,its,n,r,e⟩:=I.hok l _ hH
 exact⟨z,its,n,r,r.length,e⟩
theorem Py {n:Nat} (h:n<=sizeLine):Builtin.List.listTooLong n=false:=by
 unfold Builtin.List.listTooLong
 exact decide_eq_false (by omega)
end
section
variable {X:Cx}
def Mg:V->List V->Hp->VK->Prop:=fun x vs H Q=>∃l xs y,x= .ref l/\vs=[y]/\H l=some (.lst xs)/\xs.length<sizeLine/\Q .non (upd H l (.lst (xs++[y])))
theorem Fy:MtM X "list.append" Mg:=by
 intro pins s σ H x vs v us Q I rx rv h
 obtain⟨l,xs,y,rfl,rfl,hH,hz,q⟩:=h
 cases rx
 obtain⟨u,rfl,ru⟩:=rv.one
 obtain⟨z,its,n,r,hl,e⟩:=I.NK hH
 refine call_meets F.slot_list_append ⟨_,e,rfl⟩ F.entry_list_append (F.args_list_append_2 _ _) (PySem.list_append l its.toArray n u (by rw[List.size_toArray];omega)) ⟨e, ?_⟩
 refine⟨.non,_,I.lset (its':=its++[u]) hH e (by simp) (r.append (.cons ru .nil)) ?_,rfl,q⟩
 rw[List.length_append,List.length_singleton]
 omega
def Mh:V->List V->Hp->VK->Prop:=fun x vs H Q=>∃l b xs zs,x= .ref l/\vs=[.ref b]/\H l=some (.lst xs)/\H b=some (.lst zs)/\xs.length+zs.length<=sizeLine/\Q .non (upd H l (.lst (xs++zs)))
theorem NP:MtM X "list.extend" Mh:=by
 intro pins s σ H x vs v us Q I rx rv h
 obtain⟨l,b,xs,zs,rfl,rfl,hH,hB,hz,q⟩:=h
 cases rx
 obtain⟨u,rfl,ru⟩:=rv.one
 cases ru
 obtain⟨z,its,n,r,hl,e⟩:=I.NK hH
 obtain⟨z2,its2,n2,r2,hl2,e2⟩:=I.NK hB
 have hsz:its.toArray.size+its2.toArray.size<=sizeLine:=by rw[List.size_toArray,List.size_toArray];omega
 have hlong:¬(!its.toArray.isEmpty&&Builtin.List.listTooLong (its.toArray.size+its2.toArray.size))=true:=by
  rw[Py hsz,Bool.and_false]
  exact Bool.false_ne_true
 refine call_meets F.slot_list_extend ⟨_,e,rfl⟩ F.entry_list_extend (F.args_list_extend_2 _ _)
  (AutoSeq1.list_extend_list_list_0 l its.toArray n b its2.toArray n2 hlong (by rw[List.size_toArray];omega) (by omega)) ⟨e,e2, ?_⟩
 refine⟨.non,_,I.lset (its':=its++its2) hH e (by simp) (r.append r2) ?_,rfl,q⟩
 rw[List.length_append]
 omega
def abK:V->List V->Hp->VK->Prop:=fun x vs H Q=>∃l xs y,x= .ref l/\vs=[]/\H l=some (.lst xs)/\xs[xs.length - 1]? =some y/\Q y (upd H l (.lst xs.dropLast))
theorem Yq:MtM X "list.pop" abK:=by
 intro pins s σ H x vs v us Q I rx rv h
 obtain⟨l,xs,y,rfl,rfl,hH,hy,q⟩:=h
 cases rx
 have hus:=rv.zero
 subst hus
 obtain⟨z,its,n,r,hl,e⟩:=I.NK hH
 obtain⟨u,hu,ru⟩:=r.get hy
 have hy':its.toArray[its.toArray.size - 1]? =some u:=by
  show its.toArray[its.length - 1]? =some u
  rw[<-Array.getElem?_toList,<-hl]
  exact hu
 refine call_meets F.slot_list_pop ⟨_,e,rfl⟩ F.entry_list_pop (F.args_list_pop_1 _) (MeetsSeq.list_pop_last l its.toArray n u hy' (by rw[List.size_toArray];omega)) ⟨e, ?_⟩
 refine⟨y,_,I.lset (its':=its.dropLast) hH e ?_ r.dropLast ?_,ru,q⟩
 ·show its.toArray.eraseIdxIfInBounds (its.toArray.size - 1)=its.dropLast.toArray
  rw[List.size_toArray,List.eraseIdxIfInBounds_toArray,Kh]
 ·rw[List.length_dropLast]
  omega
def abL:R2:=fun x y H Q=>∃l b xs zs,x= .ref l/\y= .ref b/\H l=some (.lst xs)/\H b=some (.lst zs)/\xs.length+zs.length<=sizeLine/\∀p,H p=none->Q (.ref p) (upd H p (.lst (xs++zs)))
theorem Yr:OpR X (binaryOp .Add) abL:=by
 intro pins s σ H x y v u Q I rx ry h
 obtain⟨l,b,xs,zs,rfl,rfl,hH,hB,hz,q⟩:=h
 cases rx
 cases ry
 obtain⟨z,its,n,r,hl,e⟩:=I.NK hH
 obtain⟨z2,its2,n2,r2,hl2,e2⟩:=I.NK hB
 refine PySem.P.add_list e e2 ?_ (by rw[List.size_toArray,List.size_toArray];omega)
 have ea:its.toArray++its2.toArray=(its++its2).toArray:=by simp
 rw[ea]
 exact⟨.ref _,_,I.lnew (t':=s.toks) (r.append r2) (by rw[List.length_append];omega),rfl,q _ I.fresh⟩
theorem len_rep {α:Type} (xs:List α) (k:Nat):(List.replicate k xs).flatten.length=k * xs.length:=by
 induction k with
 | zero=>simp
 | succ k ih=>rw[List.replicate_succ,List.flatten_cons,List.length_append,ih,Nat.succ_mul,Nat.add_comm]
end
section
variable {prog:Program}{w:World}{A:Around}{E:Value->Shared->Prop}{s:Shared}
end
section
variable {X:Cx}
end
end L2
namespace L2
open PySem PySem.Spec PyProof.Rows
section
variable {κ:Type} [DecidableEq κ]
def cP (kvs:List (κ×V)) (k:κ):Option V:=(kvs.find? fun kv=>decide (kv.1=k)).map (·.2)
def putK (kvs:List (κ×V)) (k:κ) (v:V):List (κ×V):=
 if(kvs.any fun kv=>decide (kv.1=k))=true then kvs.map (fun kv=>if kv.1=k then(kv.1,v) else kv) else kvs++[(k,v)]
theorem uZ {k:κ}:cP ([]:List (κ×V)) k=none:=rfl
theorem ju {p:κ×V}{r:List (κ×V)}{k:κ} (e:p.1=k):cP (p::r) k=some p.2:=by simp[cP,List.find?_cons,e]
theorem jw {p:κ×V}{r:List (κ×V)}{k:κ} (e:¬p.1=k):cP (p::r) k=cP r k:=by simp[cP,List.find?_cons,e]
theorem u0 (k:κ):∀kvs:List (κ×V),(kvs.any fun kv=>decide (kv.1=k))=(cP kvs k).isSome
 |[]=>rfl
 | p::r=>by
   rw[List.any_cons]
   by_cases e:p.1=k
   ·simp only[ju e,decide_eq_true e,Bool.true_or,Option.isSome_some]
   ·rw[jw e,decide_eq_false e,Bool.false_or];exact u0 k r
theorem Ia (k j:κ) (y:V):∀kvs:List (κ×V),cP (kvs.map fun kv=>if kv.1=k then(kv.1,y) else kv) j=(cP kvs j).map fun x=>if j=k then y else x
 |[]=>rfl
 | p::r=>by
   have ih:=Ia k j y r
   rw[List.map_cons]
   by_cases h:p.1=k
   ·rw[if_pos h]
    by_cases e:p.1=j
    ·rw[ju (p:=(p.1,y)) e,ju e,Option.map_some,if_pos (e.symm.trans h)]
    ·rw[jw (p:=(p.1,y)) e,jw e,ih]
   ·rw[if_neg h]
    by_cases e:p.1=j
    ·rw[ju (p:=p) e,ju e,Option.map_some,if_neg (fun z=>h (e.trans z))]
    ·rw[jw (p:=p) e,jw e,ih]
theorem Fz (k j:κ) (y:V):∀kvs:List (κ×V),cP kvs k=none->cP (kvs++[(k,y)]) j=if j=k then some y else cP kvs j
 |[],_=>by
  by_cases e:k=j
  ·rw[if_pos e.symm];exact ju (p:=(k,y)) e
  ·rw[if_neg (fun z=>e z.symm)];exact jw (p:=(k,y)) e
 | p::r,hn=>by
   rw[List.cons_append]
   have hk:¬p.1=k:=fun z=>by rw[ju z] at hn;cases hn
   rw[jw hk] at hn
   have ih:=Fz k j y r hn
   by_cases e:p.1=j
   ·rw[ju e,ju e,if_neg (fun z=>hk (e.trans z))]
   ·rw[jw e,jw e,ih]
theorem lU (kvs:List (κ×V)) (k j:κ) (y:V):cP (putK kvs k y) j=if j=k then some y else cP kvs j:=by
 unfold putK
 by_cases a:(kvs.any fun kv=>decide (kv.1=k))=true
 ·rw[if_pos a,Ia]
  rw[u0] at a
  by_cases e:j=k
  ·obtain⟨x,hx⟩:=Option.isSome_iff_exists.mp a
   rw[if_pos e,e,hx,Option.map_some,if_pos rfl]
  ·rw[if_neg e]
   cases cP kvs j with
   | none=>rfl
   | some x=>rw[Option.map_some,if_neg e]
 ·rw[if_neg a]
  refine Fz k j y kvs ?_
  rw[u0] at a
  cases q:cP kvs k with
  | none=>rfl
  | some x=>rw[q] at a;exact(a rfl).elim
theorem u5 (kvs:List (κ×V)) (k:κ) (v:V):(putK kvs k v).length<=kvs.length+1:=by
 unfold putK
 split
 ·rw[List.length_map];omega
 ·rw[List.length_append,List.length_cons,List.length_nil];omega
theorem tu.rF {o:Option V}{u:Option Value} (r:tu o u):o.isSome=u.isSome:=by
 cases o with
 | none=>cases u with
   | none=>rfl
   | some _=>exact(show False from r).elim
 | some _=>cases u with
   | none=>exact(show False from r).elim
   | some _=>rfl
theorem tu.getD {o:Option V}{u:Option Value}{d:V}{d':Value} (r:tu o u) (rd:RelV d d'):RelV (o.getD d) (u.getD d'):=by
 cases o with
 | none=>cases u with
   | none=>exact rd
   | some _=>exact(show False from r).elim
 | some _=>cases u with
   | none=>exact(show False from r).elim
   | some _=>exact r
theorem KV.val {kvs:List (κ×V)}{vs:List (κ×Value)} (r:KV kvs vs) (k:κ):tu (cP kvs k) (valueAt vs k):=by
 unfold KV at r
 induction r with
 | nil=>exact True.intro
 | @cons p q ps qs h t ih=>
   obtain⟨h1,h2⟩:=h
   by_cases e:p.1=k
   ·have e':q.1=k:=h1.symm.trans e
    have b:valueAt (q::qs) k=some q.2:=by simp[valueAt,List.find?_cons,e']
    rw[ju e,b];exact h2
   ·have e':¬q.1=k:=fun z=>e (h1.trans z)
    have b:valueAt (q::qs) k=valueAt qs k:=by simp[valueAt,List.find?_cons,e']
    rw[jw e,b];exact ih
theorem KV.any {kvs:List (κ×V)}{vs:List (κ×Value)} (r:KV kvs vs) (k:κ):(kvs.any fun kv=>decide (kv.1=k))=vs.any fun kv=>decide (kv.1=k):=by
 unfold KV at r
 induction r with
 | nil=>rfl
 | cons h t ih=>rw[List.any_cons,List.any_cons,ih,h.1]
theorem KV.repl {kvs:List (κ×V)}{vs:List (κ×Value)} (r:KV kvs vs) (k:κ) {y:V}{u:Value} (ry:RelV y u):
 KV (kvs.map fun kv=>if kv.1=k then(kv.1,y) else kv) (vs.map fun kv=>if kv.1=k then(kv.1,u) else kv):=by
 unfold KV at r ⊢
 induction r with
 | nil=>exact .nil
 | @cons p q ps qs h t ih=>
   rw[List.map_cons,List.map_cons]
   refine .cons ?_ ih
   obtain⟨h1,h2⟩:=h
   by_cases e:p.1=k
   ·rw[if_pos e,if_pos (h1.symm.trans e)];exact⟨h1,ry⟩
   ·rw[if_neg e,if_neg (fun z=>e (h1.trans z))];exact⟨h1,h2⟩
theorem KV.put {kvs:List (κ×V)}{vs:List (κ×Value)} (r:KV kvs vs) (k:κ) {y:V}{u:Value} (ry:RelV y u):KV (putK kvs k y) (stored vs k u):=by
 unfold putK stored
 rw[r.any k]
 by_cases e:(vs.any fun kv=>decide (kv.1=k))=true
 ·rw[if_pos e,if_pos e];exact r.repl k ry
 ·rw[if_neg e,if_neg e];exact Paired.snoc r ⟨rfl,ry⟩
theorem KV.length {kvs:List (κ×V)}{vs:List (κ×Value)} (r:KV kvs vs):kvs.length=vs.length:=Paired.length r
end
theorem Br {P:Program}{w:World}{k:Key}{u:Value} (r:RelV (kV k) u):(cV P w).is k u=true:=by
 cases k with
 | inl i=>obtain⟨t,e⟩:=(show∃t,u=Value.int i t from r);subst e;exact HD P w i t
 | inr x=>obtain⟨t,e⟩:=(show∃t,u=Value.str x t from r);subst e;exact HF P w x t
theorem FJ {P:Program}{w:World}:∀{ks:List Key}{us:List Value},Vals (ks.map kV) us->ItemsAre (cV P w) ks us
 |[],_,r=>by rw[List.map_nil] at r;cases r;exact .nil
 | k::ks,_,r=>by
   rw[List.map_cons] at r
   cases r with
   | cons h t=>exact .cons (Br h) (FJ t)
abbrev KT (H:Hp):List (List Key×V)->List (List Key×Addr×Value)->Prop:=Paired fun p q=>p.1=q.1/\H q.2.1=some (.tup (p.1.map kV))/\RelV p.2 q.2.2
theorem KT.val {H:Hp}{kvs:List (List Key×V)}{xs:List (List Key×Addr×Value)} (r:KT H kvs xs) (k:List Key):tu (cP kvs k) ((atKey xs k).map (·.2)):=by
 induction r with
 | nil=>exact True.intro
 | @cons p q ps qs h t ih=>
   obtain⟨h1,_,h2⟩:=h
   by_cases e:p.1=k
   ·have e':q.1=k:=h1.symm.trans e
    have b:atKey (q::qs) k=some q.2:=by simp[atKey,List.find?_cons,e']
    rw[ju e,b];exact h2
   ·have e':¬q.1=k:=fun z=>e (h1.trans z)
    have b:atKey (q::qs) k=atKey qs k:=by simp[atKey,List.find?_cons,e']
    rw[jw e,b];exact ih
theorem KT.repl {H:Hp}{kvs:List (List Key×V)}{xs:List (List Key×Addr×Value)} (r:KT H kvs xs) (k:List Key) {y:V}{u:Value} (ry:RelV y u):
 KT H (kvs.map fun kv=>if kv.1=k then(kv.1,y) else kv) (xs.map (putAt k u)):=by
 induction r with
 | nil=>exact .nil
 | @cons p q ps qs h t ih=>
   rw[List.map_cons,List.map_cons]
   refine .cons ?_ ih
   obtain⟨h1,h2,h3⟩:=h
   unfold putAt
   by_cases e:p.1=k
   ·rw[if_pos e,if_pos (h1.symm.trans e)];exact⟨h1,h2,ry⟩
   ·rw[if_neg e,if_neg (fun z=>e (h1.trans z))];exact⟨h1,h2,h3⟩
theorem KT.put {H:Hp}{kvs:List (List Key×V)}{xs:List (List Key×Addr×Value)} (r:KT H kvs xs) (k:List Key) {b:Addr}{y:V}{u:Value} (hb:H b=some (.tup (k.map kV))) (ry:RelV y u):
 KT H (putK kvs k y) (storedH xs k b u):=by
 have e:(kvs.any fun kv=>decide (kv.1=k))=(atKey xs k).isSome:=by
  rw[u0,(r.val k).rF,Option.isSome_map]
 unfold putK storedH
 rw[e]
 by_cases q:(atKey xs k).isSome=true
 ·rw[if_pos q,if_pos q];exact r.repl k ry
 ·rw[if_neg q,if_neg q];exact Paired.snoc r ⟨rfl,hb,ry⟩
theorem KT.keeps {H H':Hp}{kvs:List (List Key×V)}{xs:List (List Key×Addr×Value)} (r:KT H kvs xs) (ht:∀b ys,H b=some (.tup ys)->H' b=some (.tup ys)):KT H' kvs xs:=
 Paired.Xn r fun _ _ z=>⟨z.1,ht _ _ z.2.1,z.2.2⟩
section
variable {P:Program}{w:World}{H:Hp}{h:Heap}{a:Addr}
theorem Wl {u:HO} (ok:HOk P w H h) (e:Rd H a u):eG P w H h a u:=e.ok ok
theorem uz {kvs:List (Key×V)} (ok:HOk P w H h) (e:Rd H a (.dK kvs)):kvs.length<=sizeLine/\(a==sysModules)=false/\∃vs,KV kvs vs/\h.DictOf (cV P w) a vs:=
 show eG P w H h a (.dK kvs) from Wl ok e
theorem Mi {kvs:List (Key×V)} (ok:HOk P w H h) (e:H a=some (.dK kvs)):kvs.length<=sizeLine/\(a==sysModules)=false/\∃vs,KV kvs vs/\h.DictOf (cV P w) a vs:=uz ok (.inl e)
theorem yd {ks:List Key} (ok:HOk P w H h) (e:H a=some (.tup (ks.map kV))):(tupleKind (cV P w)).is h ks a:=by
 obtain⟨_,its,r,o,h1,h2,n,h3⟩:=(show eG P w H h a (.tup (ks.map kV)) from ok a _ e)
 exact⟨o,its.toArray,n,h1,h2,h3,by simpa using FJ r⟩
theorem Bs {kvs:List (List Key×V)} (ok:HOk P w H h) (e:Rd H a (.dT kvs)):kvs.length<=sizeLine/\(a==sysModules)=false/\
 ∃xs,KT H kvs xs/\h.DictOfH (tupleKind (cV P w)) a xs:=by
 obtain⟨z,y,xs,r,o,es,ep,h1,h2,h3,h4,h5⟩:=(show eG P w H h a (.dT kvs) from Wl ok e)
 refine⟨z,y,xs,r,o,es,ep,h1,h2,h3,h4,fun x hx=> ?_,h5⟩
 have all:∀{l:List (List Key×V)}{m:List (List Key×Addr×Value)},KT H l m->∀x∈m,(tupleKind (cV P w)).is h x.1 x.2.1:=by
  intro l m q
  induction q with
  | nil=>intro x hx;exact nomatch hx
  | @cons p q ps qs hq t ih=>
    intro x hx
    rcases List.mem_cons.mp hx with e | hx
    ·subst e
     exact yd ok (by rw[<-hq.1];exact hq.2.1)
    ·exact ih x hx
 exact all r x hx
theorem abM {kvs:List (List Key×V)} (ok:HOk P w H h) (e:H a=some (.dT kvs)):kvs.length<=sizeLine/\(a==sysModules)=false/\
 ∃xs,KT H kvs xs/\h.DictOfH (tupleKind (cV P w)) a xs:=Bs ok (.inl e)
end
def bN (H:Hp) (a:Addr) (y:V) (r:Option V):Prop:=
 (∃kvs k,Rd H a (.dK kvs)/\y=kV k/\r=cP kvs k)\/∃kvs k b,Rd H a (.dT kvs)/\y= .ref b/\H b=some (.tup (k.map kV))/\r=cP kvs k
def lQ (H:Hp) (a:Addr) (y v:V) (H':Hp):Prop:=
 (∃kvs k,H a=some (.dK kvs)/\y=kV k/\kvs.length<sizeLine/\H'=upd H a (.dK (putK kvs k v)))\/
 ∃kvs k b,H a=some (.dT kvs)/\y= .ref b/\H b=some (.tup (k.map kV))/\kvs.length<sizeLine/\H'=upd H a (.dT (putK kvs k v))
theorem bN.k {H:Hp}{a:Addr}{kvs:List (Key×V)}{k:Key} (e:H a=some (.dK kvs)):bN H a (kV k) (cP kvs k):= .inl ⟨kvs,k, .inl e,rfl,rfl⟩
theorem lQ.k {H:Hp}{a:Addr}{kvs:List (Key×V)}{k:Key}{v:V} (e:H a=some (.dK kvs)) (hl:kvs.length<sizeLine):lQ H a (kV k) v (upd H a (.dK (putK kvs k v))):= .inl ⟨kvs,k,e,rfl,hl,rfl⟩
section
variable {X:Cx}{pins:List (Addr×Obj)}{σ:St}{H:Hp}{s:Shared}{a:Addr}{y v:V}{u r:Value}{o:Option V}{A:Around}{E:Value->Shared->Prop}
theorem Inv.big (I:Inv X pins σ H s):sysModules<s.heap.objs.size:=by
 have h:mainGlobals<s.heap.objs.size:=(I.mod.glob.keeps I.bk).lt
 exact Nat.lt_trans (by decide) h
theorem NQ {Q:Value->Shared->Prop} (hu:A.units+1<cLine) (I:Inv X pins σ H s) (g:bN H a y (some v)) (ry:RelV y u) (h:∀w' s',Inv X pins σ H s'->RelV v w'->Q w' s'):
 wpAny (model X.prog X.w) A (getItem (.ref a) u) Q E s:=by
 rcases g with⟨kvs,k,e,ey,l⟩ | ⟨kvs,k,b,e,ey,eb,l⟩
 ·subst ey
  obtain⟨z,hd,vs,rel,dd⟩:=uz I.hok e
  obtain⟨w',hw,rw'⟩:=tu.some_of (v:=v) (o:=valueAt vs k) (by rw[l];exact rel.val k)
  exact wpAny_getItem_of (Br ry) dd.mapOf hw (h w' _ (I.tok _) rw')
 ·subst ey
  cases(show u=Value.ref b from ry)
  obtain⟨z,hd,xs,rel,dd⟩:=Bs I.hok e
  obtain⟨w',hw,rw'⟩:=tu.some_of (v:=v) (o:=(atKey xs k).map (·.2)) (by rw[l];exact rel.val k)
  obtain⟨p,hp,hp2⟩:=Option.map_eq_some_iff.mp hw
  refine wpAny_getItem_heap (tupleKind_room_in1 hu) (yd I.hok eb) dd hp ?_
  rw[hp2]
  exact h w' _ (I.tok _) rw'
theorem afb {Q:Value->Shared->Prop} (hu:A.units+1<cLine) (I:Inv X pins σ H s) (g:bN H a y o) (ry:RelV y u) (h:∀s',Inv X pins σ H s'->Q (.bool o.isSome) s'):
 wpAny (model X.prog X.w) A (compareOp .In u (.ref a)) Q E s:=by
 rcases g with⟨kvs,k,e,ey,l⟩ | ⟨kvs,k,b,e,ey,eb,l⟩
 ·subst ey
  obtain⟨z,hd,vs,rel,dd⟩:=uz I.hok e
  refine wpAny_in_of (Br ry) hd dd.mapOf ?_
  rw[<-(rel.val k).rF,<-l]
  exact h _ (I.tok _)
 ·subst ey
  cases(show u=Value.ref b from ry)
  obtain⟨z,hd,xs,rel,dd⟩:=Bs I.hok e
  refine wpAny_in_heap (tupleKind_room_in1 hu) (yd I.hok eb) hd dd ?_
  have q:=(rel.val k).rF
  rw[Option.isSome_map] at q
  rw[<-q,<-l]
  exact h _ (I.tok _)
theorem Tn {Q:Value->Shared->Prop} (hu:A.units+1<cLine) (I:Inv X pins σ H s) (g:bN H a y o) (ry:RelV y u) (h:∀s',Inv X pins σ H s'->Q (.bool (!o.isSome)) s'):
 wpAny (model X.prog X.w) A (compareOp .NotIn u (.ref a)) Q E s:=by
 rcases g with⟨kvs,k,e,ey,l⟩ | ⟨kvs,k,b,e,ey,eb,l⟩
 ·subst ey
  obtain⟨z,hd,vs,rel,dd⟩:=uz I.hok e
  refine wpAny_notIn_of (Br ry) hd dd.mapOf ?_
  rw[<-(rel.val k).rF,<-l]
  exact h _ (I.tok _)
 ·subst ey
  cases(show u=Value.ref b from ry)
  obtain⟨z,hd,xs,rel,dd⟩:=Bs I.hok e
  refine wpAny_notIn_heap (tupleKind_room_in1 hu) (yd I.hok eb) hd dd ?_
  have q:=(rel.val k).rF
  rw[Option.isSome_map] at q
  rw[<-q,<-l]
  exact h _ (I.tok _)
theorem Gy {h':Heap}{t':Nat}{ob:HO} (I:Inv X pins σ H s) (mu:Mut (H a)) (hs:Heap.SameBut a s.heap h') (he:∃q,h'.get? a=some q) (new:eG X.prog X.w (upd H a ob) h' a ob):
 Inv X pins σ (upd H a ob) {s with heap:=h',toks:=t'}:=
 I.write (x:=a) (e:=a) mu (.inl rfl) (fun b q hb z=>(hs.2 b hb).trans z) he new
theorem Pz {P:Program}{w:World}{H':Hp}{h':Heap}{kvs:List (Key×V)}{vs:List (Key×Value)} (z:kvs.length<=sizeLine) (hd:(a==sysModules)=false) (rel:KV kvs vs) (dd:h'.DictOf (cV P w) a vs):
 eG P w H' h' a (.dK kvs):=⟨z,hd,vs,rel,dd⟩
theorem NT {H':Hp}{Q:Unit->Shared->Prop} (hu:A.units+1<cLine) (I:Inv X pins σ H s) (g:lQ H a y v H') (ry:RelV y u) (rv:RelV v r) (h:∀s',Inv X pins σ H' s'->Q () s'):
 wpAny (model X.prog X.w) A (setItem (.ref a) u r) Q E s:=by
 rcases g with⟨kvs,k,e,ey,l,eH⟩ | ⟨kvs,k,b,e,ey,eb,l,eH⟩
 ·subst ey eH
  obtain⟨z,hd,vs,rel,dd⟩:=Mi I.hok e
  have hz:vs.length<=sizeLine:=by rw[<-rel.length];exact z
  have hl:(putK kvs k v).length<=sizeLine:=by have:=u5 kvs k v;omega
  refine wpAny_setItem_pairs (hsz:=hz) (Br ry) dd fun h' dd' hs=>h _ ?_
  have he:∃q,h'.get? a=some q:=let ⟨q,_,_,hq,_⟩:=dd';⟨q,hq⟩
  exact Gy I (by rw[e];exact True.intro) hs he (Pz hl hd (rel.put k rv) dd')
 ·subst ey eH
  cases(show u=Value.ref b from ry)
  obtain⟨z,hd,xs,rel,dd⟩:=abM I.hok e
  have hz:xs.length<=sizeLine:=by rw[<-Paired.length rel];exact z
  have hl:(putK kvs k v).length<=sizeLine:=by have:=u5 kvs k v;omega
  refine wpAny_setItem_heap (hsz:=hz) (tupleKind_room_in1 hu) (yd I.hok eb) dd fun h' dd' hs=>h _ ?_
  obtain⟨q,es,ep,hq,h2,h3,h4,_,h5⟩:=dd'
  refine Gy I (by rw[e];exact True.intro) hs ⟨q,hq⟩ ⟨hl,hd,_,(rel.put k eb rv).keeps fun c ys ec=> ?_,q,es,ep,hq,h2,h3,h4,h5⟩
  rw[au (abg ec e (fun z=>nomatch z))]
  exact ec
end
section
variable {X:Cx}{pins:List (Addr×Obj)}{σ:St}{H:Hp}{s:Shared}{a:Addr}{kvs:List (Key×V)}{k:Key}{u:Value}{A:Around}{E:Value->Shared->Prop}
theorem abN {Q:Value->Shared->Prop} (I:Inv X pins σ H s) (e:Rd H a (.dK kvs)) (h:∀t s',Inv X pins σ H s'->Q (.int kvs.length t) s'):wpAny (model X.prog X.w) A (call (.builtin "len") [.ref a]) Q E s:=by
 obtain⟨z,hd,vs,rel,dd⟩:=uz I.hok e
 refine call_len_dict hd dd (by rw[<-rel.length];rw[sizeLine_eq] at z;omega) ?_
 rw[<-rel.length]
 exact h _ _ (I.tok _)
end
def Ys (i:Expr):Prop:=∀ov iv,subscripted i false ov iv=operate [ov,iv] (getItem ov iv)
theorem Tp {prog:Program}{w:World}{A:Around}{E:Value->Shared->Prop}{s:Shared}{env:Env}{value slice:Expr}{pos:Pos}{T id:String}{Q:Value->Shared->Prop}
 (hl:typeLookup (.type T) "__getitem__"=pure (some (.builtin id))) (hs:Ys slice)
 (h:wpAny (model prog w) A (eval value env) (fun o s₁=>wpAny (model prog w) A (eval slice env) (fun i s₂=>s₂.TypeIs o T/\wpAny (model prog w) A (getItem o i) Q E s₂) E s₁) E s):
 wpAny (model prog w) A (eval (.Subscript value slice pos) env) Q E s:=by
 refine Subscript_ (wpAny_mono h (fun o s₁ h₁=>wpAny_mono h₁ (fun i s₂ h₂=> ?_) fun _ _ x=>x) fun _ _ x=>x)
 obtain⟨hT,h₂⟩:=h₂
 unfold subscriptTail
 refine wpAny_bind ?_
 rw[getitemInPython_of_ne hT.not_modules]
 refine wpAny_bind (wpAny_specialOf hT hl ?_)
 have fin:wpAny (model prog w) A (subscripted slice false o i) (fun r s₃=>wpAny (model prog w) A (letTemporaryGo value o r>>=fun _=>pure r) Q E s₃) E s₂:=by
  rw[hs o i]
  exact wpAny_operating (wpAny_mono h₂ (fun r s₃ h₃=>wpAny_bind (wpAny_letTemporaryGo (wpAny_pure h₃))) fun _ _ x=>x)
 first
  | exact wpAny_pure (wpAny_bind fin)
  | exact wpAny_bind (wpAny_pure (wpAny_bind fin))
  | exact wpAny_bind fin
theorem Ib {X:Cx}{pins:List (Addr×Obj)}{σ:St}{H:Hp}{s:Shared}{a:Addr}{y:V}{o:Option V} (I:Inv X pins σ H s) (g:bN H a y o):s.TypeIs (.ref a) "dict":=by
 rcases g with⟨kvs,k,e,_,_⟩ | ⟨kvs,k,b,e,_,_,_⟩
 ·obtain⟨_,_,vs,_,dd⟩:=uz I.hok e
  exact dd.typeIs
 ·obtain⟨_,_,xs,_,dd⟩:=Bs I.hok e
  exact dd.typeIs
def Wm (td ty:TE):TE:=fun σ H Q=>td σ H fun x H1=>ty σ H1 fun y H2=>∃a v,x= .ref a/\bN H2 a y (some v)/\Q v H2
def abO (ty td:TE):TE:=fun σ H Q=>ty σ H fun y H1=>td σ H1 fun x H2=>∃a o,x= .ref a/\bN H2 a y o/\Q (.bl o.isSome) H2
def Mj (ty td:TE):TE:=fun σ H Q=>ty σ H fun y H1=>td σ H1 fun x H2=>∃a o,x= .ref a/\bN H2 a y o/\Q (.bl (!o.isSome)) H2
def Wn (td ty tv:TE):TS:=fun D σ H=>tv σ H fun v H1=>td σ H1 fun x H2=>ty σ H2 fun y H3=>∃a H4,x= .ref a/\lQ H3 a y v H4/\D.nx σ H4
section
variable {X:Cx}{o i e value:Expr}{pos pos' tpos:Pos}{td ty tv:TE}
theorem Tq (hu:X.A.units+1<cLine) (ho:PE X o td) (hi:PE X i ty) (hs:Ys i):PE X (.Subscript o i pos) (Wm td ty):=by
 intro pins s σ H Q I h
 refine Tp PySem.F.slot_dict_getitem.lookup hs (thn (ho pins s σ H _ I h) fun u s1 ⟨x,H1,I1,rx,q1⟩=>thn (hi pins s1 σ H1 _ I1 q1) fun iv s2 ⟨y,H2,I2,ry,a,v,ex,g,q2⟩=> ?_)
 subst ex
 obtain rfl:u=Value.ref a:=rx
 exact⟨Ib I2 g,NQ hu I2 g ry fun w' s3 I3 rw'=>⟨v,H2,I3,rw',q2⟩⟩
theorem Yt (hu:X.A.units+1<cLine) (hi:PE X i ty) (ho:PE X o td):PC X .In i o (abO ty td):=by
 intro pins s σ H Q I h
 refine thn (hi pins s σ H _ I h) fun iv s1 ⟨y,H1,I1,ry,q1⟩=>thn (ho pins s1 σ H1 _ I1 q1) fun u s2 ⟨x,H2,I2,rx,a,ov,ex,g,q2⟩=> ?_
 subst ex
 obtain rfl:u=Value.ref a:=rx
 exact afb hu I2 g ry fun s3 I3=>⟨.bl ov.isSome,H2,I3,rfl,q2⟩
theorem NZ (hu:X.A.units+1<cLine) (hi:PE X i ty) (ho:PE X o td):PC X .NotIn i o (Mj ty td):=by
 intro pins s σ H Q I h
 refine thn (hi pins s σ H _ I h) fun iv s1 ⟨y,H1,I1,ry,q1⟩=>thn (ho pins s1 σ H1 _ I1 q1) fun u s2 ⟨x,H2,I2,rx,a,ov,ex,g,q2⟩=> ?_
 subst ex
 obtain rfl:u=Value.ref a:=rx
 exact Tn hu I2 g ry fun s3 I3=>⟨.bl (!ov.isSome),H2,I3,rfl,q2⟩
theorem Tr (hu:X.A.units+1<cLine) (ho:PE X o td) (hi:PE X i ty) (hv:PE X value tv) (hs:swapsWith value (some (.Subscript o i pos')) pos.line X.env=pure false):
 PS X (.Assign [.Subscript o i pos'] value pos) (Wn td ty tv):=by
 intro pins s σ H D I h
 refine wpAny_Assign_Subscript (thn (hv pins s σ H _ I h) fun r s1 ⟨v,H1,I1,rv,q1⟩=>thn (ho pins s1 σ H1 _ I1 q1) fun u s2 ⟨x,H2,I2,rx,q2⟩=>thn (hi pins s2 σ H2 _ I2 q2) fun iv s3 ⟨y,H3,I3,ry,a,H4,ex,g,q3⟩=> ?_) hs
 subst ex
 obtain rfl:u=Value.ref a:=rx
 exact NT hu I3 g ry rv fun s4 I4=>⟨σ,H4,I4,q3⟩
end
theorem Ie {P:Program}{w:World}{H:Hp} (h:Heap) (hb:sysModules<h.objs.size):eG P w H (h.push {cls:= .type "dict",data:= .dict #[]}) h.objs.size (.dK []):=
 ⟨Nat.zero_le _,beq_eq_false_iff_ne.mpr (Ne.symm (Nat.ne_of_lt hb)),[], .nil,Heap.DictOf.new h⟩
def PB:TE:=fun _ H Q=>∀p,H p=none->Q (.ref p) (upd H p (.dK []))
section
variable {X:Cx}{pos:Pos}
theorem PJ:PE X (.Dict [] [] pos) PB:=fun pins s σ H Q I h=>
 wpAny_Dict_empty ⟨.ref s.heap.objs.size,_,I.laid (a:=s.heap.objs.size) (o:= .dK []) (t':=s.toks) (fun _ _ q=>Heap.get?_push_of_some _ q) (Nat.le_refl _) (Ie s.heap I.big),rfl,h _ (I.hok.fresh (Nat.le_refl _))⟩
end
def Kl:List (TE×TE)->St->Hp->(List (V×V)->Hp->Prop)->Prop
 |[],_,H,Q=>Q [] H
 | (tk,tv)::r,σ,H,Q=>tk σ H fun x H1=>tv σ H1 fun y H2=>Kl r σ H2 fun ps H3=>Q ((x,y)::ps) H3
abbrev VV:List (V×V)->List (Value×Value)->Prop:=Paired fun p q=>RelV p.1 q.1/\RelV p.2 q.2
def PPs (X:Cx) (pos:Pos) (keys:List (Option Expr)) (values:List Expr) (trs:List (TE×TE)):Prop:=
 ∀(pins:List (Addr×Obj)) (s:Shared) (σ:St) (H:Hp) (Q:List (V×V)->Hp->Prop),Inv X pins σ H s->Kl trs σ H Q->
  wpAny (model X.prog X.w) X.A (evalPairs (pairTrees keys values X.env pos)) (fun vs s'=>∃ps H',Inv X pins σ H' s'/\VV ps vs/\Q ps H') X.xe s
theorem Tt {X:Cx}{pos:Pos}:PPs X pos [] [] []:=fun pins s σ H Q I h=>pairTrees_nil_walk ⟨[],H,I, .nil,h⟩
theorem PK {X:Cx}{pos:Pos}{k v:Expr}{ks:List (Option Expr)}{vs:List Expr}{tk tv:TE}{trs:List (TE×TE)} (hk:PE X k tk) (hv:PE X v tv) (hr:PPs X pos ks vs trs):
 PPs X pos (some k::ks) (v::vs) ((tk,tv)::trs):=fun pins s σ H Q I h=>
 pairTrees_cons_walk (thn (hk pins s σ H _ I h) fun u s1 ⟨x,H1,I1,rx,q1⟩=>thn (hv pins s1 σ H1 _ I1 q1) fun w2 s2 ⟨y,H2,I2,ry,q2⟩=>
  thn (hr pins s2 σ H2 _ I2 q2) fun ws s3 ⟨ps,H3,I3,rel,q3⟩=>⟨(x,y)::ps,H3,I3, .cons ⟨rx,ry⟩ rel,q3⟩)
def Ah (kvs more:List (Key×V)):List (Key×V):=more.foldl (fun acc kv=>putK acc kv.1 kv.2) kvs
theorem KV.merge:∀{more:List (Key×V)}{rs:List (Key×Value)}{kvs:List (Key×V)}{vs:List (Key×Value)},KV more rs->KV kvs vs->KV (Ah kvs more) (merged vs rs):=by
 intro more rs kvs vs r
 unfold KV at r
 induction r generalizing kvs vs with
 | nil=>intro q;exact q
 | @cons p q ps qs h t ih=>
   intro r0
   have e:KV (putK kvs p.1 p.2) (stored vs q.1 q.2):=by
    have:=r0.put p.1 h.2
    rw[<-h.1];exact this
   exact ih e
theorem xO:∀(more kvs:List (Key×V)),(Ah kvs more).length<=kvs.length+more.length
 |[],kvs=>by show kvs.length<=kvs.length+0;omega
 | p::r,kvs=>by
   have h1:=xO r (putK kvs p.1 p.2)
   have h2:=u5 kvs p.1 p.2
   show(Ah (putK kvs p.1 p.2) r).length<=_
   rw[List.length_cons];omega
theorem CQ {P:Program}{w:World}:∀{kvs:List (Key×V)}{ws:List (Value×Value)},VV (kvs.map fun kv=>(kV kv.1,kv.2)) ws->∃rs,Carries (cV P w) ws rs/\KV kvs rs
 |[],_,r=>by rw[List.map_nil] at r;cases r;exact⟨[],True.intro, .nil⟩
 | p::kvs,_,r=>by
   rw[List.map_cons] at r
   cases r with
   | @cons a b as bs h t=>
     obtain⟨rs,c,q⟩:=CQ (P:=P) (w:=w) t
     obtain⟨b1,b2⟩:=b
     exact⟨(p.1,b2)::rs,⟨Br h.1,rfl,c⟩, .cons ⟨rfl,h.2⟩ q⟩
def Wo (trs:List (TE×TE)):TE:=fun σ H Q=>∀p,H p=none->Kl trs σ (upd H p (.dK [])) fun ps H2=>H2 p=some (.dK [])/\∃kvs:List (Key×V),ps=kvs.map (fun kv=>(kV kv.1,kv.2))/\kvs.length<=15/\Q (.ref p) (upd H2 p (.dK (Ah [] kvs)))
theorem Tu {X:Cx}{pos:Pos}{keys:List (Option Expr)}{values:List Expr}{trs:List (TE×TE)} (h:PPs X pos keys values trs) (hall:keys.all (·.isSome)=true) (hl:keys.length=values.length) (h0:keys≠[])
 (h15:keys.length<=15):PE X (.Dict keys values pos) (Wo trs):=by
 intro pins s σ H Q I q
 have hn:=I.hok.fresh (Nat.le_refl s.heap.objs.size)
 have I1:=I.laid (a:=s.heap.objs.size) (o:= .dK []) (h':=s.heap.push {cls:= .type "dict",data:= .dict #[]}) (t':=s.toks) (fun _ _ q=>Heap.get?_push_of_some _ q) (Nat.le_refl _) (Ie s.heap I.big)
 refine wpAny_Dict_walk (knd:=cV X.prog X.w) hall hl h0 h15 (thn (h pins _ σ _ _ I1 (q _ hn)) fun ws s2 ⟨ps,H2,I2,rel,e,kvs,ep,lk,q2⟩=> ?_)
 subst ep
 obtain⟨rs,c,rk⟩:=CQ (P:=X.prog) (w:=X.w) rel
 obtain⟨z,hd,vs0,r0,dd⟩:=Mi I2.hok e
 cases r0
 refine⟨rs,c,dd,fun h' dd' hs=>⟨.ref s.heap.objs.size,_, ?_,rfl,q2⟩⟩
 have hz:(Ah [] kvs).length<=sizeLine:=by
  have h1:=xO kvs []
  rw[List.length_nil] at h1
  rw[sizeLine_eq];omega
 have he:∃q,h'.get? s.heap.objs.size=some q:=let ⟨q,_,_,hq,_⟩:=dd';⟨q,hq⟩
 exact Gy I2 (by rw[e];exact True.intro) hs he (Pz hz hd (rk.merge .nil) dd')
structure M1 (X:Cx) (o:Expr) (m:Str) (apos:Pos) (e:Expr) (cpos:Pos):Prop where
 base:attributeBase o m X.env (eval o X.env)=eval o X.env
 few:((backTo cpos (starEach [e] X.env)).all (fun x=> !x.1)&&(backToKw cpos (keywordEach [] X.env)).all (fun x=>x.1.isSome)
  &&decide (([e]:List Expr).length+([]:List Keyword).length+(if([]:List Keyword).isEmpty then 0 else 1)<30))=true
 line:(apos.endLine==cpos.line)=true
 trees:backTo cpos (starEach [e] X.env)=[(false,eval e X.env)]
structure M2 (X:Cx) (o:Expr) (m:Str) (apos:Pos) (e f:Expr) (cpos:Pos):Prop where
 base:attributeBase o m X.env (eval o X.env)=eval o X.env
 few:((backTo cpos (starEach [e,f] X.env)).all (fun x=> !x.1)&&(backToKw cpos (keywordEach [] X.env)).all (fun x=>x.1.isSome)
  &&decide (([e,f]:List Expr).length+([]:List Keyword).length+(if([]:List Keyword).isEmpty then 0 else 1)<30))=true
 line:(apos.endLine==cpos.line)=true
 trees:backTo cpos (starEach [e,f] X.env)=[(false,eval e X.env),(false,eval f X.env)]
def IsD (H:Hp) (a:Addr):Prop:=(∃kvs,Rd H a (.dK kvs))\/∃kvs,Rd H a (.dT kvs)
theorem Km {X:Cx}{pins:List (Addr×Obj)}{σ:St}{H:Hp}{s:Shared}{a:Addr} (I:Inv X pins σ H s) (d:IsD H a):
 s.TypeIs (.ref a) "dict"/\(∀b,Value.ref a= .ref b->∃ob,s.heap.get? b=some ob/\ob.dict=none)/\(a==sysModules)=false:=by
 rcases d with⟨kvs,e⟩ | ⟨kvs,e⟩
 ·obtain⟨_,hd,vs,_,dd⟩:=uz I.hok e
  refine⟨dd.typeIs,fun b q=> ?_,hd⟩
  cases q
  obtain⟨ob,_,_,h1,h2,_⟩:=dd
  exact⟨ob,h1,h2.2.1⟩
 ·obtain⟨_,hd,xs,_,dd⟩:=Bs I.hok e
  refine⟨dd.typeIs,fun b q=> ?_,hd⟩
  cases q
  obtain⟨ob,_,_,h1,h2,_⟩:=dd
  exact⟨ob,h1,h2.2.1⟩
section
variable {X:Cx}{pins:List (Addr×Obj)}{σ:St}{H:Hp}{s:Shared}{a:Addr}{y d:V}{u r:Value}{o:Option V}{A:Around}{E:Value->Shared->Prop}
theorem Yu {Q:Value->Shared->Prop} (hu:A.units+1<cLine) (I:Inv X pins σ H s) (g:bN H a y o) (ry:RelV y u) (h:∀w' s',Inv X pins σ H s'->RelV (o.getD .non) w'->Q w' s'):
 wpAny (model X.prog X.w) A (call (.builtin "dict.get") [.ref a,u]) Q E s:=by
 rcases g with⟨kvs,k,e,ey,l⟩ | ⟨kvs,k,b,e,ey,eb,l⟩
 ·subst ey
  obtain⟨z,hd,vs,rel,dd⟩:=uz I.hok e
  refine call_meetsIn PySem.F.slot_dict_get dd.typeIs PySem.F.entry_dict_get (PySem.F.args_dict_get_2 _ _) (meets_dict_get (cV X.prog X.w) a (Br ry) hd) ⟨_,dd.mapOf,h _ _ (I.tok _) ?_⟩
  rw[l]
  exact(rel.val k).getD rfl
 ·subst ey
  cases(show u=Value.ref b from ry)
  obtain⟨z,hd,xs,rel,dd⟩:=Bs I.hok e
  refine call_meetsIn PySem.F.slot_dict_get dd.typeIs PySem.F.entry_dict_get (PySem.F.args_dict_get_2 _ _) (meetsH_dict_get (tupleKind (cV X.prog X.w)) a b hd) ⟨tupleKind_room_in1 hu,k,xs,yd I.hok eb,dd,h _ _ (I.tok _) ?_⟩
  rw[l]
  exact(rel.val k).getD rfl
theorem Yv {Q:Value->Shared->Prop} (hu:A.units+1<cLine) (I:Inv X pins σ H s) (g:bN H a y o) (ry:RelV y u) (rd:RelV d r) (h:∀w' s',Inv X pins σ H s'->RelV (o.getD d) w'->Q w' s'):
 wpAny (model X.prog X.w) A (call (.builtin "dict.get") [.ref a,u,r]) Q E s:=by
 rcases g with⟨kvs,k,e,ey,l⟩ | ⟨kvs,k,b,e,ey,eb,l⟩
 ·subst ey
  obtain⟨z,hd,vs,rel,dd⟩:=uz I.hok e
  refine call_meetsIn PySem.F.slot_dict_get dd.typeIs PySem.F.entry_dict_get (PySem.F.args_dict_get_3 _ _ _) (meets_dict_get_default (cV X.prog X.w) a (Br ry) hd r) ⟨_,dd.mapOf,h _ _ (I.tok _) ?_⟩
  rw[l]
  exact(rel.val k).getD rd
 ·subst ey
  cases(show u=Value.ref b from ry)
  obtain⟨z,hd,xs,rel,dd⟩:=Bs I.hok e
  refine call_meetsIn PySem.F.slot_dict_get dd.typeIs PySem.F.entry_dict_get (PySem.F.args_dict_get_3 _ _ _) (meetsH_dict_get_default (tupleKind (cV X.prog X.w)) a b hd r) ⟨tupleKind_room_in1 hu,k,xs,yd I.hok eb,dd,h _ _ (I.tok _) ?_⟩
  rw[l]
  exact(rel.val k).getD rd
end
def PL (td ty:TE):TE:=fun σ H Q=>td σ H fun x H1=>∃a,x= .ref a/\IsD H1 a/\ty σ H1 fun y H2=>∃o,bN H2 a y o/\Q (o.getD .non) H2
def PN (td ty tx:TE):TE:=fun σ H Q=>td σ H fun x H1=>∃a,x= .ref a/\IsD H1 a/\ty σ H1 fun y H2=>tx σ H2 fun z H3=>∃o,bN H3 a y o/\Q (o.getD z) H3
section
variable {X:Cx}{o e f:Expr}{apos cpos:Pos}{td ty tx:TE}
theorem PX (hu:X.A.units+1<cLine) (ho:PE X o td) (he:PE X e ty) (m:M1 X o "get" apos e cpos):PE X (.Call (.Attribute o "get" apos) [e] [] cpos) (PL td ty):=by
 intro pins s σ H Q I h
 refine wpAny_Call_method m.base m.few m.line PySem.F.plainAttrs_dict PySem.F.slot_dict_get PySem.F.type_dict_get (thn (ho pins s σ H _ I h) fun u s1 ⟨x,H1,I1,rx,a,ex,d,q1⟩=> ?_)
 subst ex
 obtain rfl:u=Value.ref a:=rx
 obtain⟨t1,t2,_⟩:=Km I1 d
 refine⟨t1,t2, ?_⟩
 rw[m.trees]
 refine Calls.callWith_builtin rfl (Calls.evalArgs_plain (Calls.spliced_cons (thn (he pins s1 σ H1 _ I1 q1) fun iv s2 ⟨y,H2,I2,ry,ov,g,q2⟩=>Calls.spliced_nil ?_)))
 exact Yu hu I2 g ry fun w' s3 I3 rw'=>⟨_,H2,I3,rw',q2⟩
theorem P0 (hu:X.A.units+1<cLine) (ho:PE X o td) (he:PE X e ty) (hf:PE X f tx) (m:M2 X o "get" apos e f cpos):PE X (.Call (.Attribute o "get" apos) [e,f] [] cpos) (PN td ty tx):=by
 intro pins s σ H Q I h
 refine wpAny_Call_method m.base m.few m.line PySem.F.plainAttrs_dict PySem.F.slot_dict_get PySem.F.type_dict_get (thn (ho pins s σ H _ I h) fun u s1 ⟨x,H1,I1,rx,a,ex,d,q1⟩=> ?_)
 subst ex
 obtain rfl:u=Value.ref a:=rx
 obtain⟨t1,t2,_⟩:=Km I1 d
 refine⟨t1,t2, ?_⟩
 rw[m.trees]
 refine Calls.callWith_builtin rfl (Calls.evalArgs_plain (Calls.spliced_cons (thn (he pins s1 σ H1 _ I1 q1) fun iv s2 ⟨y,H2,I2,ry,q2⟩=>
  Calls.spliced_cons (thn (hf pins s2 σ H2 _ I2 q2) fun fv s3 ⟨z,H3,I3,rz,ov,g,q3⟩=>Calls.spliced_nil ?_))))
 exact Yv hu I3 g ry rz fun w' s4 I4 rw'=>⟨_,H3,I4,rw',q3⟩
end
section
variable {X:Cx}{pins:List (Addr×Obj)}{σ:St}{H:Hp}{s:Shared}{a:Addr}{kvs:List (Key×V)}{A:Around}{E:Value->Shared->Prop}
end
section
variable {X:Cx}{pins:List (Addr×Obj)}{σ:St}{H:Hp}{s:Shared}{a:Addr}{y:V}{u:Value}{A:Around}{E:Value->Shared->Prop}
end
end L2
namespace Att
open PySem PySem.W PySem.Calls PyProof.Rows
theorem BL {P:Params}{h:Heap}:∀(ns:List Int) (vs:List Value),WellAll P h vs (ns.map WData.int)->IntsAre vs ns:=by
 intro ns
 induction ns with
 | nil=>
   intro vs w
   rw[List.map_nil] at w
   cases w
   exact .nil
 | cons n ns ih=>
   intro vs w
   rw[List.map_cons] at w
   cases w with
   | cons a b=>
     cases a
     exact .cons _ _ (ih _ b)
theorem N5 {l:OpenLaw}{n:Nat} (hn:l.most=some n) {P:Params}{h:Heap}{args:List WData}{vals:List Value}
 (hpre:l.row.toRowW.claim.pre args=true) (hwl:WellAll P h vals args):
 ∃a vs ns,vals=[Value.ref a]/\args=[WData.list (ns.map WData.int)]/\h.get? a=some {cls:= .type "list",data:= .seq vs.toArray}/\IntsAre vs ns/\ns.length<=n:=by
 have hsh:WShape.hasAll [] args [.list .int]=true:=(pre_splitW hpre).1
 have hc:l.pre.holds [] {args:=args}=true:=(pre_splitW hpre).2
 obtain⟨d,r,rfl,h1,h2⟩:=hasAllW_cons hsh
 obtain rfl:=hasAllW_nil h2
 obtain⟨xs,rfl,h3⟩:=hasW_list h1
 obtain⟨ns,rfl⟩:=items_int h3
 have hlen:ns.length<=n:=by
  unfold OpenLaw.pre at hc
  have h4:(WTm.not (.lt (.lit (.int (n:Int))) (.len (.arg 0)))).holds [] {args:=[.list (ns.map .int)]}=true:=by
   have h4:=(holds_andW hc).1
   rw[hn] at h4
   exact h4
  have h5:=condW_of h4 (w_not (w_lt w_lit (w_len_list (w_arg rfl))))
  rw[List.length_map] at h5
  refine Nat.le_of_not_lt fun q=> ?_
  have q':(n:Int)<((ns.length:Nat):Int):=by omega
  first
   | (rw[decide_eq_true q'] at h5;exact absurd h5 (by decide))
   | (simp at h5;omega)
 cases hwl with
 | cons w1 w2=>
   cases w2
   cases w1 with
   | list ho hall=>exact⟨_,_,ns,rfl,rfl,ho,BL ns _ hall,hlen⟩
theorem N6 (l:OpenLaw) (args:List WData):l.row.toRowW.claim.post args (.bool true) args=true:=
 postW_of (r:=l.row.toRowW) (X:=(true==true))
  (show WShape.has [] (.bool true) .bool=true by first | rfl | decide | simp[WShape.has,WShape.arms,WShape.armsAll])
  (show(WTm.eq .res (.lit (.bool true))).value [] {args:=args,res:=some (.bool true),after:=args}=some (.bool (true==true)) from w_eq_bool (w_res rfl) w_lit) rfl
theorem Ig {l:OpenLaw}{n:Nat}{q:Program}{loose:List Str}{XP:(Str->Option Value)->Heap->Prop}{YP:World->Heap->Prop}{d:DefRec}
 (hn:l.most=some n) (hdf:d.params.defaults=[])
 (call:∀(w:World) (s₀ s₁:Shared) (mg mb:Str->Option Value) (fa:Addr) (o:Obj) (pm cd doc:Value) (a:Addr) (vs:List Value) (ns:List Int),
   Ground q loose [] XP w s₀ mg mb s₁.heap->YP w s₁.heap->
   s₁.heap.get? fa=some o->o.data= .func (docDef d.name d.params d.body d.scope pm cd doc)->s₁.heap.CodeRec cd d.name->mg d.name=some (.ref fa)->
   s₁.heap.get? a=some {cls:= .type "list",data:= .seq vs.toArray}->IntsAre vs ns->ns.length<=n->s₁.gens= #[]->
   codeAny (model l.prog w) callerA (.call (.ref fa) ⟨[.ref a],[]⟩) (fun r s'=>r= .ok (.ret (.bool true))/\OldK s₁.heap s'.heap/\s'.os=s₁.os/\AllBare s'.gens) s₁):
 WalkO q loose XP YP l.row.toRowW d [] (fun f vs=>PySem.call f vs):=by
 intro w s₀ s₁ mg mb G Y fa o pm cd doc dV kV ho hd hcd hD hmg hg args vals as hpre hlay hrd hwl hlo
 obtain rfl:dV= .none:=Dflts.none hD hdf
 obtain rfl:kV= .none:=Dflts.noKw hD
 obtain⟨a,vs,ns,rfl,rfl,hobj,hints,hlen⟩:=N5 hn hpre hwl
 refine enter_call (codeAny_mono (call w s₀ s₁ mg mb fa o pm cd doc a vs ns G Y ho (fd_plain hd) hcd hmg hobj hints hlen hg) fun r s' hq=> ?_)
 obtain⟨rfl,h2,h3,h4⟩:=hq
 exact⟨.inl ⟨.bool true, .bool true,[],rfl,fun _=>rfl, .bool true,N6 l _,fun _=>⟨List.Pairwise.nil,fun _ hm=>(nomatch hm)⟩⟩,h2,h3,h4⟩
section
variable {prog:Program}{w:World}{A:Around}{E:Value->Shared->Prop}{s:Shared}{K:Frag}
end
end Att
namespace L2
open PySem PySem.Spec PyProof.Rows
theorem FN:∀{vs:List Value}{ns:List Int},IntsAre vs ns->Vals (ns.map V.int) vs
 | _,_, .nil=> .nil
 | _,_, .cons n t h=> .cons ⟨t,rfl⟩ (FN h)
def Only (H:Hp):Prop:=∀b,H b=none\/∃o xs,H b=some (.frz o (.lst xs))
theorem Qa {P:Program}{w:World}{K:PySem.W.Frag}{mg mb:Str->Option Value}{CX:CXT}{k:Nat}{fa a:Addr}{fd:FuncData}{x:Str}{sp:Sp}{s₁:Shared}{vs:List Value}{ns:List Int}
 (KX:K.In s₁.heap) (hns:s₁.heap.Ns mainGlobals mg) (hb:s₁.heap.Ns builtinsNs mb) (hbb:∀x:Str,x≠"__name__"->mb x=bootBuiltins x) (hlim:s₁.heap.NoLimit) (hg:s₁.gens= #[])
 (ha:s₁.heap.get? a=some {cls:= .type "list",data:= .seq vs.toArray}) (hi:IntsAre vs ns) (hl:ns.length<=sizeLine) (hr:kY k callerA)
 (F:∀base:Heap,K.In base->base.Ns mainGlobals mg->bF P w K mg base CX k fa fd [x] sp) (hbind:∀(s:Shared) (u:Value),BindsTo s fd ⟨[u],[]⟩ [(x,u)])
 (hsp:∀H:Hp,Only H->SqL K H a (ns.map V.int)->sp [.ref a] H (fun v _=>v= .bl true) fun _ _ _=>False)
 (hCX:∀H e s',CX [] H s₁ (fun _ _ _=>False) e s'->False):
 codeAny (model P w) callerA (.call (.ref fa) ⟨[.ref a],[]⟩) (fun r s'=>r= .ok (.ret (.bool true))/\OldK s₁.heap s'.heap/\s'.os=s₁.os/\AllBare s'.gens) s₁:=by
 have rv:=FN hi
 have lenV:=hi.length
 have core:∀H:Hp,Only H->SqL K H a (ns.map V.int)->HOk P w H s₁.heap->(∀b,H b≠none->b=a)->(H a≠none->K.lookup a=none)->
  codeAny (model P w) callerA (.call (.ref fa) ⟨[.ref a],[]⟩) (fun r s'=>r= .ok (.ret (.bool true))/\OldK s₁.heap s'.heap/\s'.os=s₁.os/\AllBare s'.gens) s₁:=by
  intro H hO hS hok hA hK
  have Ml:∀{b:Addr}{o:Obj},s₁.heap.get? b=some o->H b=none->(Gn s₁.heap H).get? b=some o:=fun e n=>Oz e n
  have noA:∀{b:Addr}{o:Obj}{es:Array DictEntry}{ep:Nat},s₁.heap.get? b=some o->o.data= .dict es ep->H b=none:=fun{b o es ep} e d=>by
   cases q:H b with
   | none=>rfl
   | some u=>
     have e':b=a:=hA b (by rw[q];simp)
     subst e'
     rw[ha] at e;cases e
     have d':Data.seq vs.toArray _=Data.dict es ep:=d
     cases d'
  have nsK:∀{b:Addr}{m:Str->Option Value},s₁.heap.Ns b m->(Gn s₁.heap H).Ns b m:=fun{b m} ⟨o,es,ep,e,d,r⟩=>⟨o,es,ep,Ml e (noA e d),d,r⟩
  have hKb:K.In (Gn s₁.heap H):=fun b o e=>Ml (KX b o e) (by
   cases q:H b with
   | none=>rfl
   | some u=>
     have e':b=a:=hA b (by rw[q];simp)
     subst e'
     rw[hK (by rw[q];simp)] at e;cases e)
  have hM:Mod K mg (Gn s₁.heap H):=⟨hKb,nsK hns,⟨mb,nsK hb,hbb⟩,let ⟨mc,h1,h2⟩:=hlim;⟨mc,nsK h1,h2⟩⟩
  have e0:Ke P w K mg (Gn s₁.heap H) callerA [] s₁ H:=⟨rfl,hM,fun b o e=>R0 e,Nat.le_of_eq (Ni _ _),trivial,fun b hb=>absurd (show b∈([]:List Addr) from hb) (by simp),hok, .of_eq hg⟩
  refine codeAny_mono ((F _ hKb (nsK hns)).run callerA [] s₁ H ⟨[.ref a],[]⟩ [.ref a] [.ref a] _ _ hr e0 (hbind s₁ (.ref a)) (.cons rfl .nil) (hsp H hO hS)) fun r s' h=> ?_
  cases r with
  | error e=>exact(hCX H e s' h).elim
  | ok fl=>
    cases fl with
    | next=>exact False.elim h
    | brk=>exact False.elim h
    | cont=>exact False.elim h
    | ret u=>
      obtain⟨v,H',os,bare,un,hok',r',q⟩:=h
      have q':v= .bl true:=q
      subst q'
      obtain rfl:u=Value.bool true:=r'
      refine⟨rfl,OldK.of_keep fun b o e=> ?_,os,bare⟩
      cases q:H b with
      | none=>exact un.keep b o e q (by intro z;exact absurd (show b∈([]:List Addr) from z) (by simp)) (by simp)
      | some u=>
        rcases hO b with z | ⟨ob,xs,z⟩
        ·rw[q] at z;cases z
        ·have z2:=un.frzs b ob _ z
         obtain⟨e1,_⟩:=hok b _ z
         obtain⟨e2,_⟩:=hok' b _ z2
         rw[e] at e1;cases e1
         exact e2
 cases hk:K.lookup a with
 | some o=>
   have e:=KX a o hk
   rw[ha] at e
   cases e
   refine core (fun _=>none) (fun _=> .inl rfl) (.inr ⟨_,vs.toArray,_,hk,rfl,rfl,rfl,by rw[List.size_toArray,lenV];exact hl,by simpa using rv⟩) (fun b u z=>by have z':(none:Option HO)=some u:=z;cases z') (fun b z=>absurd rfl z) fun z=>absurd rfl z
 | none=>
   refine core (fun b=>if b=a then some (.frz {cls:= .type "list",data:= .seq vs.toArray} (.lst (ns.map V.int))) else none) (fun b=> ?_) (.inl (.inr ⟨{cls:= .type "list",data:= .seq vs.toArray},if_pos rfl⟩)) (fun b u z=> ?_) (fun b z=> ?_) fun _=>hk
   ·by_cases hb:b=a
    ·exact .inr ⟨_,_,if_pos hb⟩
    ·exact .inl (if_neg hb)
   ·by_cases hb:b=a
    ·have z':=(if_pos hb).symm.trans z
     cases z'
     subst hb
     exact⟨ha,by rw[List.length_map];exact hl,vs,_,rv,ha⟩
    ·have z':=(if_neg hb).symm.trans z
     cases z'
   ·by_cases hb:b=a
    ·exact hb
    ·exact absurd (if_neg hb) z
end L2
namespace L2
open PySem PySem.Spec PyProof.Rows
theorem Mm {l:PySem.W.OpenLaw}{n k:Nat}{q:Program}{loose:List Str}{XP:(Str->Option Value)->Heap->Prop}{YP:World->Heap->Prop}{d:DefRec}{K:Params->PySem.W.Frag}{CX:World->CXT}{sp:World->Sp}{x:Str}
 (hn:l.most=some n) (hn2:n<=sizeLine) (hdf:d.params.defaults=[]) (hr:kY k callerA)
 (hY:∀(w:World) (h:Heap),YP w h->(K w.params).In h)
 (F:∀(w:World) (mg:Str->Option Value) (fa:Addr) (h:Heap),(K w.params).In h->h.Ns mainGlobals mg->mg d.name=some (.ref fa)->
   ∃fd:FuncData,(∀(s:Shared) (u:Value),BindsTo s fd ⟨[u],[]⟩ [(x,u)])/\
    ∀base:Heap,(K w.params).In base->base.Ns mainGlobals mg->bF l.prog w (K w.params) mg base (CX w) k fa fd [x] (sp w))
 (hsp:∀(w:World) (H:Hp) (a:Addr) (ns:List Int),ns.length<=n->Only H->SqL (K w.params) H a (ns.map V.int)->sp w [.ref a] H (fun v _=>v= .bl true) fun _ _ _=>False)
 (hCX:∀(w:World) (H:Hp) (s:Shared) (e:Value) (s':Shared),CX w [] H s (fun _ _ _=>False) e s'->False):
 PySem.W.WalkO q loose XP YP l.row.toRowW d [] (fun f vs=>PySem.call f vs):=by
 refine Att.Ig hn hdf fun w s₀ s₁ mg mb fa o pm cd doc a vs ns G Y ho hd hcd hmg hobj hints hlen hg=> ?_
 have KX:=hY w _ Y
 obtain⟨fd,hb,hF⟩:=F w mg fa _ KX G.T.g hmg
 exact Qa KX G.T.g G.T.b G.T.builtins G.T.nolimit hg hobj hints (Nat.le_trans hlen hn2) hr hF hb (fun H hO hS=>hsp w H a ns hlen hO hS) fun H e s'=>hCX w H s₁ e s'
end L2
/- THE LAST THEOREM (shape;LID,My.* are yours):
   My.Adr:a structure of the addresses that your layer names (classes,functions);My.Txt K t:a structure (Prop) of the equations over K;
   My.Yw:{K}{implicit addresses ..} (e1:nsIn K mainGlobals "law"=some (some (.ref f))) (e2:K.lookup f=some ⟨oc,od, .func (fnOf "law" "law" params body scope dV kV doc pm an cdv ct),sl⟩) (e3:codeIn K cdv "law"=true) .. :∃t,My.Txt K t
theorem PySem.Challenge.cw_LID_holds : PySem.Challenge.rw_LID.Holds := by
 w_on;o_law;k_head;(case hw=>w_witness2)
 k_fill
 refine L2.Mm (l:=PySem.Challenge.Yx) (n:=63) (k:=40) (x:="script") (CX:=fun w=> ..) (sp:=fun _=>My.afc) rfl (by decide) rfl ⟨rfl,by decide,by decide⟩ (fun w h Y=>PySem.W.kIn_of Y) ?F ?S ?C
 case F=>
  intro w mg fa h KX G hmg
  have T:∃t,My.Txt (L2.KOf KX) t:=by
   dsimp only[L2.KOf] -- K must stand as «<heap const> w.params» for k_is
   refine' My.Yw ?e1 ?e2 ?e3 ..
   (case e1=>PySem.W.k_is) -- in the order:a name->its address->its object->its parts
   (case e2=>PySem.W.k_is)
   ..
  obtain⟨t,T⟩:=T
  have e0:=hmg.symm.trans (PySem.W.mg_of KX G T.law)
  cases e0 -- fa is the law's own address
  exact⟨_,fun s u=> .of_eq rfl,fun base kb nb=>My.Yy T kb nb⟩ -- if «.of_eq rfl» comes too early:refine' ⟨_, ?b,fun base kb nb=>My.Yy T kb nb⟩;exact fun s u=> .of_eq rfl
 case S=>exact fun w H a ns hl hO hS=> ..
 case C=>exact ..
(the tactic k_is has no namespace:write k_is) -/
namespace L2
open PySem PySem.Spec PyProof.Rows
def bK (s:Stmt):Arguments:=match s with
 | .FunctionDef _ a _ _ _ _ _ _ _ _=>a
 | _=>{posonlyargs:=[],args:=[],vararg:=none,kwonlyargs:=[],kw_defaults:=[],kwarg:=none,defaults:=[]}
def bG (s:Stmt):List Stmt:=match s with
 | .FunctionDef _ _ b _ _ _ _ _ _ _=>b
 | _=>[]
def aa (s:Stmt):Scope:=match s with
 | .FunctionDef _ _ _ _ _ _ sc _ _ _=>sc
 | _=>{kind:= .function,names:=[],isGenerator:=false,isCoroutine:=false}
abbrev CX0:CXT:=fun _ _ _ _ _ _=>False
abbrev E0:XK:=fun _ _ _=>False
theorem bO {X:Cx}:Passes CX0 X E0:=fun _ _ _ _ _ _ _ h=>h.elim
structure Fun (K:PySem.W.Frag) (x qual:Str) (st:Stmt) (f:Addr) (fd:FuncData):Prop where
 ex:∃(oc:Value) (od:Option Addr) (kV doc pm:Value) (an:Option Addr) (cdv ct:Value) (osl:Array (Option Value)),
  fd=PySem.W.fnOf x qual (bK st) (bG st) (aa st) .none kV doc pm an cdv ct/\K.lookup f=some ⟨oc,od, .func fd,osl⟩/\PySem.W.codeIn K cdv qual=true
 kp:PySem.W.keepIn K (.ref f)=true
section
variable {P:Program}{w:World}{K:PySem.W.Frag}{mg:Str->Option Value}{base:Heap}
theorem Fun.ok {x qual:Str}{st:Stmt}{f:Addr}{fd:FuncData}{N ps:List Str}{k:Nat}{sp:Sp} (F:Fun K x qual st f fd) (S:bU N ps (aa st)) (len:∀vs H Q E,sp vs H Q E->vs.length=ps.length)
 (hbody:∀(cdv:Value) (A:Around) (outer:List Env) (s:Shared) (H:Hp) (vs:List V) (Q:VK) (E:XK),kY k (A.deeper (envOfC qual (aa st) s.heap.objs.size f cdv))->sp vs H Q E->
   ∃t,PSs (Kg CX0 P w K mg base N qual (aa st) f cdv A outer s H E).nox (bG st) t/\t {nx:=fun _ H'=>Q .non H',rt:=Q} (start N vs) H):bF P w K mg base CX0 (k+1) f fd ps sp:=by
 obtain⟨oc,od,kV,doc,pm,an,cdv,ct,osl,rfl,lk,hcd⟩:=F.ex
 refine abE lk hcd S len fun A outer s H vs Q E hr hsp=> ?_
 obtain⟨t,h,q⟩:=hbody cdv A outer s H vs Q E hr hsp
 exact⟨t,h.nox,q⟩
theorem jB {x qual:Str}{st:Stmt}{f:Addr}{oc:Value}{od an:Option Addr}{osl:Array (Option Value)}{kV doc pm cdv ct:Value} (l:K.lookup f=some ⟨oc,od, .func (PySem.W.fnOf x qual (bK st) (bG st) (aa st) .none kV doc pm an cdv ct),osl⟩)
 (c:PySem.W.codeIn K cdv qual=true) (k:PySem.W.keepIn K (.ref f)=true):Fun K x qual st f (PySem.W.fnOf x qual (bK st) (bG st) (aa st) .none kV doc pm an cdv ct):=⟨⟨oc,od,kV,doc,pm,an,cdv,ct,osl,rfl,l,c⟩,k⟩
end
theorem cA {A:Around}{k:Nat} (hr:kY k A):A.units+1<cLine:=Nat.lt_of_le_of_lt (Nat.add_le_add_left (by decide:1<=64) _) hr.units
theorem cB {n:Nat} (h:n<=1000):n<sizeLine:=Nat.lt_of_le_of_lt h (by decide)
section
variable {X:Cx}
theorem N7:o8 X (.builtin "len") (fun xs H Q=>∃a kvs,xs=[V.ref a]/\H a=some (.dK kvs)/\Q (.int kvs.length) H):=by
 intro pins s σ H xs us Q I r h
 obtain⟨a,kvs,rfl,ha,q⟩:=h
 obtain⟨u,rfl,ru⟩:=vals1 r
 cases ru
 exact abN I (.inl ha) fun t s' I'=>⟨.int kvs.length,H,I',⟨t,rfl⟩,q⟩
end
theorem zg {c A B:Prop} [Decidable c] (h1:c->A) (h2:¬c->B):if c then A else B:=by
 by_cases h:c
 ·rw[if_pos h]
  exact h1 h
 ·rw[if_neg h]
  exact h2 h
def aN (H H':Hp):Prop:=∀b o,H b=some o->H' b=some o
theorem aN.refl (H:Hp):aN H H:=fun _ _ h=>h
theorem aN.trans {H H1 H2:Hp} (a:aN H H1) (b:aN H1 H2):aN H H2:=fun c o h=>b c o (a c o h)
section
variable {κ:Type} [DecidableEq κ]
end
end L2
set_option maxRecDepth 100000
namespace L2
open PySem PySem.Spec PyProof.Rows
def ccl (sc:Scope) (env:Env):List (Str×Addr):=(sc.names.filterMap fun p=>if p.2== .free then(env.cells.lookup p.1).map fun c=>(p.1,c) else none).reverse
theorem u6 {env:Env}:∀(l:List (Str×NameKind)) (acc:List (Str×Addr)),(∀p∈l,p.2= .free->∃c,env.cells.lookup p.1=some c)->
 (forIn l acc fun(x:Str×NameKind) r=>match x with | (name,kind)=>(if(kind==NameKind.free)=true then do let a <-cellOf env name;pure (ForInStep.yield ((name,a)::r)) else pure (ForInStep.yield r):Sem _))=
   pure ((l.filterMap fun p=>if p.2== .free then(env.cells.lookup p.1).map fun c=>(p.1,c) else none).reverse++acc)
 |[],acc,_=>rfl
 | (n,k)::r,acc,h=>by
   rw[List.forIn_cons]
   have hr:∀p∈r,p.2= .free->∃c,env.cells.lookup p.1=some c:=fun p hp=>h p (List.mem_cons_of_mem _ hp)
   by_cases hk:k= .free
   ·subst hk
    obtain⟨c,hc⟩:=h (n, .free) List.mem_cons_self rfl
    have e1:cellOf env n=pure c:=by unfold cellOf;rw[hc]
    simp only[beq_self_eq_true,if_true,e1,pure_bind]
    rw[u6 r _ hr]
    simp[List.filterMap_cons,hc]
   ·have hb:(k==NameKind.free)=false:=by simpa using hk
    simp only[hb,Bool.false_eq_true,if_false,pure_bind]
    rw[u6 r _ hr]
    simp[List.filterMap_cons,hk]
theorem Ih {sc:Scope}{env:Env} (h:∀p∈sc.names,p.2= .free->∃c,env.cells.lookup p.1=some c):closureFor sc env=pure (ccl sc env):=by
 unfold closureFor
 have q:=u6 (env:=env) sc.names [] h
 rw[List.append_nil] at q
 unfold ccl
 rw[<-q,bind_pure]
theorem Ew {f:Str->Option Addr}:∀(l:List (Str×NameKind)) (x:Str) (c:Addr),
 (l.filterMap fun p=>if p.2== .free then(f p.1).map fun c=>(p.1,c) else none).reverse.lookup x=some c->f x=some c:=by
 intro l x c h
 have hm:=PySem.mem_of_lookup h
 rw[List.mem_reverse,List.mem_filterMap] at hm
 obtain⟨p,_,e⟩:=hm
 split at e
 ·cases q:f p.1 with
  | none=>rw[q] at e;cases e
  | some d=>
    rw[q] at e
    simp only[Option.map_some,Option.some.injEq,Prod.mk.injEq] at e
    obtain⟨e1,e2⟩:=e
    rw[<-e1,q,e2]
 ·cases e
theorem pq {β:Type}:∀{l:List (Str×β)}{x:Str}{c:β},(x,c)∈l->∃d,l.lookup x=some d
 |[],_,_,h=>nomatch h
 | (n,d)::r,x,c,h=>by
   by_cases e:x=n
   ·subst e;exact⟨d,by simp[List.lookup_cons]⟩
   ·have hb:(x==n)=false:=by simpa using e
    rcases List.mem_cons.mp h with q | q
    ·cases q;exact absurd rfl e
    ·obtain⟨d',hd⟩:=pq q
     exact⟨d',by simp[List.lookup_cons,hb,hd]⟩
theorem tG {sc:Scope}{env:Env}{x:Str}{c:Addr} (h:(ccl sc env).lookup x=some c):env.cells.lookup x=some c:=Ew (f:=fun n=>env.cells.lookup n) sc.names x c h
theorem Mp {sc:Scope}{env:Env}{x:Str}{c:Addr} (hx:(x,NameKind.free)∈sc.names) (hc:env.cells.lookup x=some c):(ccl sc env).lookup x=some c:=by
 have hm:(x,c)∈ccl sc env:=by
  unfold ccl
  rw[List.mem_reverse,List.mem_filterMap]
  exact⟨(x, .free),hx,by simp[hc]⟩
 obtain⟨d,hd⟩:=pq hm
 have:=tG hd
 rw[hc] at this
 rw[hd,this]
theorem qI {env:Env}:∀{names:List (Str×NameKind)}{x:Str}{k:NameKind},
 (names.map fun(n,k)=>if(k==NameKind.free&&env.scope.kind== .function&&env.kindOf n==some .cell) then(n,NameKind.cell) else(n,k)).lookup x=some k->
 names.lookup x=some k\/(k= .cell/\names.lookup x=some .free)
 |[],_,_,h=>by simp at h
 | (n,q)::r,x,k,h=>by
   have ih:=@qI env r x k
   rw[List.map_cons] at h
   cases hx:x==n with
   | true=>
     by_cases hc:(q==NameKind.free&&env.scope.kind== .function&&env.kindOf n==some .cell)=true
     ·simp only[hc,if_true,List.lookup_cons,hx,Option.some.injEq] at h
      have hq:q= .free:=by
       have:=(Bool.and_eq_true _ _▸(Bool.and_eq_true _ _▸hc).1).1
       simpa using this
      subst hq
      exact .inr ⟨h.symm,by simp[List.lookup_cons,hx]⟩
     ·simp only[hc,if_false,List.lookup_cons,hx,Option.some.injEq,Bool.false_eq_true] at h
      subst h
      exact .inl (by simp[List.lookup_cons,hx])
   | false=>
     have h':(r.map fun(n,k)=>if(k==NameKind.free&&env.scope.kind== .function&&env.kindOf n==some .cell) then(n,NameKind.cell) else(n,k)).lookup x=some k:=by
      by_cases hc:(q==NameKind.free&&env.scope.kind== .function&&env.kindOf n==some .cell)=true
      ·simpa only[hc,if_true,List.lookup_cons,hx] using h
      ·simpa only[hc,if_false,List.lookup_cons,hx,Bool.false_eq_true] using h
     rcases ih h' with z | ⟨z1,z2⟩
     ·exact .inl (by simp[List.lookup_cons,hx,z])
     ·exact .inr ⟨z1,by simp[List.lookup_cons,hx,z2]⟩
theorem tH {env:Env}:∀{names:List (Str×NameKind)}{x:Str},names.lookup x=some .free->
 (names.map fun(n,k)=>if(k==NameKind.free&&env.scope.kind== .function&&env.kindOf n==some .cell) then(n,NameKind.cell) else(n,k)).lookup x=some .cell\/
 (names.map fun(n,k)=>if(k==NameKind.free&&env.scope.kind== .function&&env.kindOf n==some .cell) then(n,NameKind.cell) else(n,k)).lookup x=some .free
 |[],_,h=>by simp at h
 | (n,q)::r,x,h=>by
   have ih:=@tH env r x
   rw[List.map_cons]
   cases hx:x==n with
   | true=>
     simp only[List.lookup_cons,hx,Option.some.injEq] at h
     subst h
     by_cases hc:(NameKind.free==NameKind.free&&env.scope.kind== .function&&env.kindOf n==some .cell)=true
     ·exact .inl (by simp only[hc,if_true,List.lookup_cons,hx])
     ·exact .inr (by simp only[hc,if_false,List.lookup_cons,hx,Bool.false_eq_true])
   | false=>
     simp only[List.lookup_cons,hx] at h
     by_cases hc:(q==NameKind.free&&env.scope.kind== .function&&env.kindOf n==some .cell)=true
     ·simpa only[hc,if_true,List.lookup_cons,hx] using ih h
     ·simpa only[hc,if_false,List.lookup_cons,hx,Bool.false_eq_true] using ih h
def gw (X:Cx) (N:List Str) (sc:Scope) (pins:List (Addr×Obj)) (C:Addr) (s₀:Shared) (H₀:Hp) (fp:List Addr):Cx:=
 {X with N:=N,s₀:=s₀,H₀:=H₀,env:=compEnvC sc (ccl sc X.env) C X.env,outer:=X.stack,ex:=fp,fn:=fun _=>false,pn:=X.pn++pins,xe:=fun _ _=>False}
structure u9 (X:Cx) (n:Nat) (fr:List Nat) (N:List Str) (sc:Scope):Prop where
 kind:sc.kind= .function
 nocell:∀p∈sc.names,p.2≠ .cell
 own:∀p∈sc.names,p.2= .local->sc.names.lookup p.1=some .local
 out:∀p∈sc.names,p.2= .free->X.env.kindOf p.1=some .cell\/X.env.kindOf p.1=some .free
 len:N.length=n+fr.length
 free:∀i x,N[n+i]? =some x->(x,NameKind.free)∈sc.names/\sc.names.lookup x=some .free/\∃j,fr[i]? =some j/\X.N[j]? =some x
def CS0 (scX:Scope) (NX:List Str) (n:Nat) (fr:List Nat) (N:List Str) (sc:Scope):Prop:=
 sc.kind= .function/\(∀p∈sc.names,p.2≠ .cell)/\(∀p∈sc.names,p.2= .local->sc.names.lookup p.1=some .local)/\
 (∀p∈sc.names,p.2= .free->scX.names.lookup p.1=some .cell\/scX.names.lookup p.1=some .free)/\N.length=n+fr.length/\
 (∀x∈N.drop n,(x,NameKind.free)∈sc.names/\sc.names.lookup x=some .free)/\(N.drop n).map some=fr.map fun j=>NX[j]?
instance {scX:Scope}{NX:List Str}{n:Nat}{fr:List Nat}{N:List Str}{sc:Scope}:Decidable (CS0 scX NX n fr N sc):=by unfold CS0;exact inferInstance
theorem CT {X:Cx}{scX:Scope}{NX:List Str}{n:Nat}{fr:List Nat}{N:List Str}{sc:Scope} (h1:X.env.scope=scX) (h2:X.N=NX) (h:CS0 scX NX n fr N sc):u9 X n fr N sc:=by
 obtain⟨a,b,c,d,e,f,g⟩:=h
 refine⟨a,b,c,fun p hp z=> ?_,e,fun i x hx=> ?_⟩
 ·have q:=d p hp z
  rw[<-h1] at q
  exact q
 ·have hd:(N.drop n)[i]? =some x:=by rw[List.getElem?_drop];exact hx
  obtain⟨f1,f2⟩:=f x (List.mem_of_getElem? hd)
  refine⟨f1,f2, ?_⟩
  have q:((N.drop n).map some)[i]? =some (some x):=by rw[List.getElem?_map,hd];rfl
  rw[g,List.getElem?_map] at q
  cases z:fr[i]? with
  | none=>rw[z] at q;cases q
  | some j=>
    rw[z] at q
    refine⟨j,rfl, ?_⟩
    rw[h2]
    exact Option.some.inj q
def cst (n:Nat) (fr:List Nat) (σ:St):St:=List.replicate n none++fr.map fun j=>(σ[j]?).getD none
theorem CV {X:Cx}{n:Nat}{fr:List Nat}{N:List Str}{sc:Scope} (S:u9 X n fr N sc) (ok:X.Ok):closureFor sc X.env=pure (ccl sc X.env):=
 Ih fun p hp e=>ok.has p.1 (S.out p hp e)
section
variable {X:Cx}{n:Nat}{fr:List Nat}{N:List Str}{sc:Scope}{pins:List (Addr×Obj)}{σ:St}{H:Hp}{s:Shared}{fp:List Addr}{h₁:Heap}{tk:Nat}
theorem Ko (S:u9 X n fr N sc) (I:Inv X pins σ H s) (hf:∀b∈fp,Af X pins H b) (hlt:∀b∈fp,b<s.heap.objs.size)
 (hn:h₁.Ns s.heap.objs.size (fun _=>none)) (hk:∀b o,s.heap.get? b=some o->h₁.get? b=some o):
 Inv (gw X N sc pins s.heap.objs.size s H fp) [] (cst n fr σ) H {s with heap:=h₁,toks:=tk}:=by
 have hsub:∀b∈frs X.stack,b∈X.env.locals::X.fs:=I.Gp
 refine⟨⟨I.ok.mod, ?_,I.ok.glob,I.ok.blt,Nat.le_refl _,fun x y c h1 h2=> ?_,fun x hx=> ?_,fun x c z=>(by cases z),I.ok.hd,I.ok.frames, .inl rfl,fun b hb=>⟨?_,fun x c e=> ?_⟩,fun b o e=>I.bs b o e,Nat.le_trans I.ok.bsz I.sz,fun b o e hb=> ?_,fun b hb hz=> ?_,I.stack,I.Lw⟩,
  rfl,I.bare,Un.kept hk,⟨_,hn,fun i x v e1 e2 e3=> ?_⟩,fun x c e=> ?_,I.hok.fresh (Nat.le_refl _),fun x c e=> ?_,fun p hp=> ?_,I.hok.kept hk, ?_⟩
 ·exact S.kind
 ·exact I.ok.inj x y c (tG h1) (tG h2)
 ·have hx':(relabel sc X.env).names.lookup x=some .cell\/(relabel sc X.env).names.lookup x=some .free:=hx
  have fr':sc.names.lookup x=some .free:=by
   rcases hx' with z | z
   ·rcases qI z with q | ⟨_,q⟩
    ·exact absurd rfl (S.nocell _ (PySem.mem_of_lookup q))
    ·exact q
   ·rcases qI z with q | ⟨q,_⟩
    ·exact q
    ·cases q
  obtain⟨c,hc⟩:=I.ok.has x (S.out _ (PySem.mem_of_lookup fr') rfl)
  exact⟨c,Mp (PySem.mem_of_lookup fr') hc⟩
 ·exact Nat.ne_of_lt (hlt b hb)
 ·exact(hf b hb).2.2.2.2.1 x c (tG e)
 ·rcases(hf b hb).2.2.2.1 with z | z
  ·exact I.ok.noex b o e z
  ·exact absurd (Nat.lt_of_lt_of_le (Heap.lt_size e) (Nat.le_trans I.ok.bsz z)) (Nat.lt_irrefl _)
 ·rcases List.mem_cons.mp (hsub b hz) with z | z
  ·exact(hf b hb).2.1 z
  ·exact(hf b hb).2.2.1 z
 ·have e1':N[i]? =some x:=e1
  have hi:n<=i:=by
   apply Nat.le_of_not_lt
   intro hlt
   unfold cst at e2
   rw[List.getElem?_append_left (by simpa using hlt),List.getElem?_replicate] at e2
   split at e2<;>cases e2
  obtain⟨j,rfl⟩:∃j,i=n+j:=⟨i - n,by omega⟩
  obtain⟨hm,hl,q,hq,hX⟩:=S.free j x e1'
  have e2':(σ[q]?).getD none=some v:=by
   unfold cst at e2
   rw[List.getElem?_append_right (by simp)] at e2
   simp only[List.length_replicate,Nat.add_sub_cancel_left,List.getElem?_map,hq,Option.map_some,Option.some.injEq] at e2
   exact e2
  have hσ:σ[q]? =some (some v):=by
   cases z:σ[q]? with
   | none=>rw[z] at e2';cases e2'
   | some w=>rw[z] at e2';simp only[Option.getD_some] at e2';rw[e2']
  have ko:=S.out _ hm rfl
  have hv:Vis X.env.scope x:=by
   rcases ko with z | z
   ·exact .inr (.inl z)
   ·exact .inr (.inr z)
  obtain⟨m,_,hloc⟩:=I.loc
  obtain⟨u,r,l⟩:=hloc q x v hX hσ hv
  refine⟨u,r, .inr ⟨?_, ?_⟩⟩
  ·exact tH hl
  ·rcases l with⟨k,_⟩ | ⟨_,c,hc,hcell⟩
   ·rcases ko with z | z<;>(rw[k] at z;cases z)
   ·refine⟨c,Mp hm hc, ?_⟩
    obtain⟨o,ho,hd⟩:=hcell
    exact⟨o,hk c o ho,hd⟩
 ·obtain⟨v,o,ho,hd⟩:=I.cell x c (tG e)
  exact⟨v,o,hk c o ho,hd⟩
 ·exact I.rE x c (tG e)
 ·have hp':p∈X.pn++pins:=by
   have z:p∈(X.pn++pins)++[]:=hp
   rwa [List.append_nil] at z
  obtain⟨e,hn',ne,nf,d⟩:=I.pin p hp'
  refine⟨hk p.1 p.2 e,hn',Nat.ne_of_lt (Heap.lt_size e),fun hz=> ?_,d⟩
  rcases List.mem_cons.mp (hsub p.1 hz) with z | z
  ·exact ne z
  ·exact nf z
 ·show(cst n fr σ).length=N.length
  unfold cst
  rw[List.length_append,List.length_replicate,List.length_map,S.len]
theorem comp_back {C:Addr}{σ':St}{H':Hp}{s':Shared}{pins':List (Addr×Obj)} (I:Inv X pins σ H s) (hf:∀b∈fp,Af X pins H b) (J:Inv (gw X N sc pins C s H fp) pins' σ' H' s'):Inv X pins σ H' s':=
 I.call' (ch:=fp) J.os J.base J.hok J.bare fun b hb=>⟨(hf b hb).2.2.2.1,(hf b hb).2.1,(hf b hb).2.2.2.2.1,(hf b hb).2.2.2.2.2⟩
end
def N8 (X:Cx) (ifs:List Expr) (t:TT):Prop:=
 ∀(pins:List (Addr×Obj)) (s:Shared) (σ:St) (H:Hp) (Q:Bool->Hp->Prop),Inv X pins σ H s->t σ H Q->
  wpAny (model X.prog X.w) X.A (forIn ifs true fun c r=>if r=true then do let ok <-isTrue c X.env (eval c X.env);pure (ForInStep.yield ok) else pure (ForInStep.yield r)) (TP X pins σ Q) X.xe s
def Wq:TT:=fun _ H Q=>Q true H
theorem Qc {X:Cx}:N8 X [] Wq:=fun _ _ _ H _ I h=>wpAny_pure ⟨H,I,h⟩
theorem Qd {X:Cx}{c:Expr}{t:TT} (hc:PT X c t):N8 X [c] t:=by
 intro pins s σ H Q I h
 rw[List.forIn_cons]
 refine wpAny_bind ?_
 rw[if_pos rfl]
 refine wpAny_bind (thn (hc pins s σ H Q I h) fun b s1 q=>wpAny_pure ?_)
 exact wpAny_pure q
def FP (J:It) (g:TG) (tc:TT) (te:TE) (D:Addr) (σ:St) (H:Hp) (Q:VK):Prop:=
 ∃W:Nat->Nat->St->Hp->Prop,(∃m,W 0 m σ H)/\∀i m σ' H',W i m σ' H'->
  (J.stop i H'/\Q (.ref D) H')\/(J.go i H'/\∃N:St->Hp->Prop,(∀σ3 H3,N σ3 H3->∃m',m'<m/\W (i+1) m' σ3 H3)/\∀x H2,J.yld i H' x H2->g x σ' H2 fun σ3 H3=>tc σ3 H3 fun b H4=>
    if b=true then te σ3 H4 fun y H5=>∃ys,H5 D=some (.lst ys)/\ys.length<sizeLine/\N σ3 (upd H5 D (.lst (ys++[y])))
    else N σ3 H4)
def Mq (wi:TI) (n:Nat) (fr:List Nat) (g:TG) (tc:TT) (te:TE):TE:=fun σ H Q=>wi σ H fun J H1=>∀D,H1 D=none->FP J g tc te D (cst n fr σ) (upd H1 D (.lst [])) Q
section
variable {X:Cx}{n:Nat}{fr:List Nat}{N:List Str}{sc:Scope}{elt tg iter:Expr}{ifs:List Expr}{pos:Pos}{wi:TI}{g:TG}{tc:TT}{te:TE}
theorem Ii {pins:List (Addr×Obj)}{σ:St}{H:Hp}{s:Shared}{fp:List Addr}{it:Addr}{tn:Nat->Heap->Prop}{J:It}{Q:VK}{E:Value->Shared->Prop}{RR:Value->Addr->Result->Shared->Prop}
 (hc:X.calm=true) (S:u9 X n fr N sc)
 (hg:∀C s₀ H₀ fp,PG (gw X N sc pins C s₀ H₀ fp) tg g) (hi:∀C s₀ H₀ fp,N8 (gw X N sc pins C s₀ H₀ fp) ifs tc) (he:∀C s₀ H₀ fp,PE (gw X N sc pins C s₀ H₀ fp) elt te)
 (I:Inv X pins σ H s) (T:Turn X.prog X.w X.K tg J fp it tn) (st:tn 0 s.heap) (hf:∀b∈fp,Af X pins H b)
 (h:∀D,H D=none->FP J g tc te D (cst n fr σ) (upd H D (.lst [])) Q)
 (hR:∀D C H' s',Inv X pins σ H' s'->Af X pins H' C->(∃m,s'.heap.Ns C m)->Q (.ref D) H'->RR (.ref D) C (.ok .next) s'):
 wpAny (model X.prog X.w) X.A (newList []) (fun acc s₃=>wpAny (model X.prog X.w) X.A (newFunctionEnv sc X.env.globals (ccl sc X.env) [] X.env.qual none .none (some X.env)) (fun cenv s₄=>
  codeAny (model X.prog X.w) X.A (.compStart (.ListComp elt [⟨tg,iter,ifs,0⟩] sc pos) 0 (.ref it) acc {cenv with scope:=relabel sc X.env}) (RR acc cenv.locals) s₄) E s₃) E s:=by
 have hfree:H s.heap.objs.size=none:=I.hok.fresh (Nat.le_refl _)
 have hltf:∀b∈fp,b<s.heap.objs.size:=fun b hb=>by
  obtain⟨o,e,_⟩:=T.obj 0 s.heap st b hb
  exact Heap.lt_size e
 obtain⟨W,⟨m0,w0⟩,turn⟩:=h s.heap.objs.size hfree
 refine wpAny_newObj_type (wpAny_newFunctionEnv S.nocell (by intro y hy;simp at hy) (fun h₁ hns₁ hsb₁=> ?_) S.kind)
 dsimp only at hns₁ hsb₁ ⊢
 have I3:Inv X pins σ (upd H s.heap.objs.size (.lst [])) {s with heap:=s.heap.push {cls:= .type "list",dict:=none,data:= .seq ([]:List Value).toArray}}:=
  I.laid (t':=s.toks) (fun b u e=>Heap.get?_push_of_some _ e) (Nat.le_refl _) ⟨Nat.zero_le _,[],0, .nil,Heap.get?_push_size _ rfl⟩
 have hf3:∀b∈fp,Af X pins (upd H s.heap.objs.size (.lst [])) b:=fun b hb=>⟨by rw[au (Nat.ne_of_lt (hltf b hb))];exact(hf b hb).1,(hf b hb).2⟩
 generalize hs3:({s with heap:=s.heap.push {cls:= .type "list",dict:=none,data:= .seq ([]:List Value).toArray}}:Shared)=s3 at *
 have e3:s3.heap=s.heap.push {cls:= .type "list",dict:=none,data:= .seq ([]:List Value).toArray}:=by rw[<-hs3]
 have et:s3.toks=s.toks:=by rw[<-hs3]
 have abP:∀b∈fp,b<s3.heap.objs.size:=fun b hb=>by rw[e3,Heap.size_push];exact Nat.lt_succ_of_lt (hltf b hb)
 have hk3:∀b o,s3.heap.get? b=some o->h₁.get? b=some o:=fun b o e=>hsb₁.extBut b o (by rw[<-e3];exact Nat.ne_of_lt (Heap.lt_size e)) (by rw[<-e3];exact Heap.get?_push_of_some _ e)
 have afd:h₁.Ns s3.heap.objs.size (fun _=>none):=by rw[e3];exact hns₁
 have I4:=Ko (tk:=s.toks+([]:List (Str×Value)).length) S I3 hf3 abP afd hk3
 have hDk:∀b o,s.heap.get? b=some o->h₁.get? b=some o:=fun b o e=>hk3 b o (by rw[e3];exact Heap.get?_push_of_some _ e)
 have st4:tn 0 h₁:=T.keep 0 s.heap h₁ st fun b hb o e=>hDk b o e
 have hfX:∀{H':Hp},(∀b∈fp,H' b=none)->∀b∈fp,Af (gw X N sc pins s3.heap.objs.size s3 (upd H s.heap.objs.size (.lst [])) fp) [] H' b:=fun{H'} hn b hb=>by
  refine⟨hn b hb,Nat.ne_of_lt (abP b hb),fun z=> ?_, .inl hb,fun x c e=>(hf3 b hb).2.2.2.2.1 x c (tG e),fun p hp=> ?_⟩
  ·rcases List.mem_cons.mp (I3.Gp b z) with q | q
   ·exact(hf3 b hb).2.1 q
   ·exact(hf3 b hb).2.2.1 q
  ·have hp':p∈(X.pn++pins)++[]:=hp
   rw[List.append_nil] at hp'
   exact(hf3 b hb).2.2.2.2.2 p hp'
 have loop:∀s₄:Shared,s₄={s3 with heap:=h₁,toks:=s.toks+([]:List (Str×Value)).length}->
  codeAny (model X.prog X.w) X.A (.compLoop (.ListComp elt [⟨tg,iter,ifs,0⟩] sc pos) 0 (.ref it) (.ref s.heap.objs.size) (compEnvC sc (ccl sc X.env) s3.heap.objs.size X.env)) (RR (.ref s.heap.objs.size) s3.heap.objs.size) s₄:=by
  rintro s₄ rfl
  refine codeAny_loop rfl (fun k s'=>∃i σ' H',Inv (gw X N sc pins s3.heap.objs.size s3 (upd H s.heap.objs.size (.lst [])) fp) [] σ' H' s'/\tn i s'.heap/\(∀b∈fp,H' b=none)/\W i k σ' H') ?_ m0
   ⟨0,_,_,I4,st4,fun b hb=>(hf3 b hb).1,w0⟩
  rintro k s5 ⟨i,σ5,H5,I5,st5,fr5,w5⟩
  show wpAny _ X.A ((compTurn (.ListComp elt [⟨tg,iter,ifs,0⟩] sc pos) 0 (.ref it) (.ref s.heap.objs.size) (compEnvC sc (ccl sc X.env) s3.heap.objs.size X.env)).onRaise (fun x=>do noteFrame x (compEnvC sc (ccl sc X.env) s3.heap.objs.size X.env);theTreesLotGoes x)) _ _ s5
  refine wpAny_noted ?_
  rw[compTurn_list]
  refine wpAny_bind (wpAny_standAt (wpAny_bind ?_))
  have nev:∀{α:Type}{t:Sem α}{Q₁:α->Shared->Prop}{E₁:Value->Shared->Prop}{s₁:Shared},wpAny (model X.prog X.w) X.A t Q₁ (fun _ _=>False) s₁->wpAny (model X.prog X.w) X.A t Q₁ E₁ s₁:=fun h=>wpAny_noRaise h
  rcases turn i k σ5 H5 w5 with⟨stop,qn⟩ | ⟨go,Nn,hN,step⟩
  ·refine nev (thn (T.done (gw X N sc pins s3.heap.objs.size s3 (upd H s.heap.objs.size (.lst [])) fp) rfl rfl rfl hc i [] s5 σ5 H5 (fun _ _=>False) I5 (hfX fr5) st5 stop) fun r s6 ⟨hr,I6⟩=> ?_)
   subst hr
   have B:Inv X pins σ H5 s6:=comp_back I3 hf3 I6
   refine wpAny_pure (hR _ _ H5 s6 B (I3.Gr (Nat.le_refl _) I6.free) ?_ qn)
   obtain⟨m,hm,_⟩:=I6.loc
   exact⟨m,hm⟩
  ·refine nev (thn (T.item (gw X N sc pins s3.heap.objs.size s3 (upd H s.heap.objs.size (.lst [])) fp) rfl rfl rfl hc i [] s5 σ5 H5 (fun _ _=>False) I5 (hfX fr5) st5 go) fun r s6 ⟨u,hr,h6⟩=> ?_)
   subst hr
   refine wpAny_bind (nev (thn h6 fun _ s7 ⟨x,H7,I7,r7,y7,st7,fr7⟩=> ?_))
   have I7':=I7.pinned (hfX fr7) (T.obj _ _ st7)
   refine wpAny_bind (nev (thn (hg _ _ _ _ _ s7 σ5 H7 x u _ I7' r7 (step x H7 y7)) fun _ s8 ⟨σ8,H8,I8,q8⟩=> ?_))
   refine wpAny_bind (nev (thn (hi _ _ _ _ _ s8 σ8 H8 _ I8 q8) fun b s9 ⟨H9,I9,q9⟩=> ?_))
   have fin:∀{s10:Shared}{H10:Hp}{m':Nat},m'<k->Inv (gw X N sc pins s3.heap.objs.size s3 (upd H s.heap.objs.size (.lst [])) fp) ([]++Cy fp s7.heap) σ8 H10 s10->W (i+1) m' σ8 H10->
    ∃m,m<k/\∃i σ' H',Inv (gw X N sc pins s3.heap.objs.size s3 (upd H s.heap.objs.size (.lst [])) fp) [] σ' H' s10/\tn i s10.heap/\(∀b∈fp,H' b=none)/\W i m σ' H':=fun{s10 H10 m'} hm I10 w10=>by
    refine⟨m',hm,i+1,σ8,H10,I10.unpinned,T.keep _ _ _ st7 fun b hb o e=>(I10.pin (b,o) (List.mem_append_right _ (List.mem_append_right _ (tE hb e)))).1,fun b hb=> ?_,w10⟩
    obtain⟨o,e,d⟩:=T.obj _ _ st7 b hb
    exact(I10.pin (b,o) (List.mem_append_right _ (List.mem_append_right _ (tE hb e)))).2.1
   cases b with
   | false=>
     rw[if_neg Bool.false_ne_true] at q9
     obtain⟨m',hm,w9⟩:=hN _ _ q9
     exact wpAny_pure ⟨rfl,fin hm I9 w9⟩
   | true=>
     rw[if_pos rfl] at q9
     refine wpAny_bind (wpAny_bind (nev (thn (he _ _ _ _ _ s9 σ8 H9 _ I9 q9) fun v s10 ⟨y,H10,I10,r10,q10⟩=> ?_)))
     obtain⟨ys,hy,hz,n10⟩:=q10
     obtain⟨m',hm,w10⟩:=hN _ _ n10
     refine wpAny_bind (nev (thn (Fy _ s10 σ8 H10 (.ref s.heap.objs.size) [y] (.ref s.heap.objs.size) [v] (fun z H'=>H'=upd H10 s.heap.objs.size (.lst (ys++[y]))) I10 rfl (.cons r10 .nil) ⟨_,ys,y,rfl,rfl,hy,hz,rfl⟩) fun z s11 ⟨_,H11,I11,_,e11⟩=> ?_))
     subst e11
     exact wpAny_pure (wpAny_pure ⟨rfl,fin hm I11 w10⟩)
 subst hs3
 exact codeAny_compStart_list (loop _ rfl) (T.self _ 0 _ _ _ st4 (loop _ rfl))
theorem Tw (hc:X.calm=true) (S:u9 X n fr N sc) (hit:PI X tg iter wi)
 (hg:∀pins C s₀ H₀ fp,PG (gw X N sc pins C s₀ H₀ fp) tg g) (hi:∀pins C s₀ H₀ fp,N8 (gw X N sc pins C s₀ H₀ fp) ifs tc) (he:∀pins C s₀ H₀ fp,PE (gw X N sc pins C s₀ H₀ fp) elt te)
 (hs:∀x,foldedSetIterable iter X.env x=pure x:=by intro _;rfl):PE X (.ListComp elt [⟨tg,iter,ifs,0⟩] sc pos) (Mq wi n fr g tc te):=by
 intro pins s σ H Q I h
 rw[eval_ListComp]
 refine wpAny_comprehension_free (use:=none) rfl hs (CV S I.ok) S.kind S.own ?_
 refine thn (hit pins s σ H _ I h) fun v s1 h1=>thn h1 fun itv s2 h2=> ?_
 obtain⟨it,fp,tn,J,H2,e,I2,T,st2,f2,q2⟩:=h2
 subst e
 refine Ii (RR:=fun acc C=>compPost (model X.prog X.w) X.A X.xe none (EP X pins σ Q) acc C) hc S (hg pins) (hi pins) (he pins) I2 T st2 f2 q2 fun D C H' s' I' fC hm q=> ?_
 obtain⟨m,hm⟩:=hm
 refine⟨m,hm,fun h' hs'=>⟨.ref D,H',I'.turned (t':=s'.toks) (fun b o hb e=>(hs'.2 b hb).trans e) fC.1 fC.2.1 fC.2.2.2.1 fC.2.2.2.2.1 fC.2.2.2.2.2,rfl,q⟩⟩
theorem Kp {i:Nat}{x:Str}{pos' spos:Pos} (hc:X.calm=true) (hN:X.N.Nodup) (hi':X.N[i]? =some x) (hx:Loc X.env.scope x) (S:u9 X n fr N sc) (hit:PI X tg iter wi)
 (hg:∀pins C s₀ H₀ fp,PG (gw X N sc pins C s₀ H₀ fp) tg g) (hi:∀pins C s₀ H₀ fp,N8 (gw X N sc pins C s₀ H₀ fp) ifs tc) (he:∀pins C s₀ H₀ fp,PE (gw X N sc pins C s₀ H₀ fp) elt te)
 (hsw:swapsWith (.ListComp elt [⟨tg,iter,ifs,0⟩] sc pos) (some (.Name x pos')) spos.line X.env=pure true)
 (hs:∀x,foldedSetIterable iter X.env x=pure x:=by intro _;rfl) (hf:X.fn x=true\/X.env.scope.names.lookup x=some .local:=by first | exact .inl rfl | exact .inr rfl | assumption):
 PS X (.Assign [.Name x pos'] (.ListComp elt [⟨tg,iter,ifs,0⟩] sc pos) spos) (Nj (Mq wi n fr g tc te) (zc i)):=by
 intro pins s σ H D I h
 rw[exec_Assign_Name_used _ _ _ _ hsw]
 refine wpAny_bind (wpAny_standAt (wpAny_bind ?_))
 show wpAny _ X.A (do let _ <-comprehension (.ListComp elt [⟨tg,iter,ifs,0⟩] sc pos) sc X.env _ (newList []) false (eval iter X.env) (some (assign (.Name x pos') X.env))) _ _ s
 refine wpAny_bind (wpAny_mono (wpAny_comprehension_free (use:=some (assign (.Name x pos') X.env)) (Q:=fun _ s'=>SP X pins D .next s') rfl hs (CV S I.ok) S.kind S.own ?_) (fun _ s' hq=>wpAny_pure (wpAny_pure hq)) fun _ _ e=>e)
 refine thn (hit pins s σ H _ I h) fun v s1 h1=>thn h1 fun itv s2 h2=> ?_
 obtain⟨it,fp,tn,J,H2,e,I2,T,st2,f2,q2⟩:=h2
 subst e
 refine Ii (Q:=fun x H1=>zc i x σ H1 D.nx) (RR:=fun acc C=>compPost (model X.prog X.w) X.A X.xe (some (assign (.Name x pos') X.env)) (fun _ s'=>SP X pins D .next s') acc C) hc S (hg pins) (hi pins) (he pins) I2 T st2 f2 q2 fun D' C H' s' I' fC hm q=> ?_
 obtain⟨m,hm⟩:=hm
 show wpAny _ X.A (assign (.Name x pos') X.env (.ref D')) _ _ _
 refine wpAny_assign_Name (Fo I' hN hi' hx (v:= .ref D') rfl (fun s'' I'' ch=> ?_) hf)
 obtain⟨a,hsb,ha⟩:=ch
 have hne:C≠a:=by
  rcases ha with z | z
  ·rw[z];exact fC.2.1
  ·exact fun z'=>fC.2.2.2.2.1 x a z z'.symm
 exact⟨m,hm.sameBut hsb hne,fun h' hs'=>⟨_,H',I''.turned (t':=s''.toks) (fun b o hb e=>(hs'.2 b hb).trans e) fC.1 fC.2.1 fC.2.2.2.1 fC.2.2.2.2.1 fC.2.2.2.2.2,q⟩⟩
end
theorem Kq {lo:Int}{n:Nat}{g:TG}{tc:TT}{te:TE}{σ:St}{H:Hp}{D:Addr}{Q:VK} (Pv:Nat->St->Hp->Prop) (h0:Pv 0 σ (upd H D (.lst [])))
 (hs:∀i σ' H',i<n->Pv i σ' H'->g (.int (lo+i)) σ' H' fun σ3 H3=>tc σ3 H3 fun b H4=>
   if b=true then te σ3 H4 fun y H5=>∃ys,H5 D=some (.lst ys)/\ys.length<sizeLine/\Pv (i+1) σ3 (upd H5 D (.lst (ys++[y]))) else Pv (i+1) σ3 H4) (hd:∀σ' H',Pv n σ' H'->Q (.ref D) H'):
 FP (Itr lo n) g tc te D σ (upd H D (.lst [])) Q:=by
 refine⟨fun i m σ H=>m=n - i/\i<=n/\Pv i σ H,⟨n,by simp,Nat.zero_le _,h0⟩, ?_⟩
 rintro i m σ H ⟨rfl,hi,p⟩
 by_cases hlt:i<n
 ·refine .inr ⟨hlt,Pv (i+1),fun σ' H' p'=>⟨n - (i+1),by omega,rfl,hlt,p'⟩,fun x H' y=> ?_⟩
  obtain⟨e,y⟩:=y
  subst e y
  exact hs i σ _ hlt p
 ·have e:i=n:=by omega
  subst e
  exact .inl ⟨Nat.le_refl _,hd σ H p⟩
theorem wC {K:PySem.W.Frag}{a:Addr}{xs:List V}{g:TG}{tc:TT}{te:TE}{σ:St}{H:Hp}{D:Addr}{Q:VK} (Pv:Nat->St->Hp->Prop) (h0:Pv 0 σ (upd H D (.lst []))) (hl:∀i σ H,i<=xs.length->Pv i σ H->SqL K H a xs)
 (hs:∀i x σ' H',xs[i]? =some x->Pv i σ' H'->g x σ' H' fun σ3 H3=>tc σ3 H3 fun b H4=>
   if b=true then te σ3 H4 fun y H5=>∃ys,H5 D=some (.lst ys)/\ys.length<sizeLine/\Pv (i+1) σ3 (upd H5 D (.lst (ys++[y]))) else Pv (i+1) σ3 H4) (hd:∀σ' H',Pv xs.length σ' H'->Q (.ref D) H'):
 FP (Itl K a) g tc te D σ (upd H D (.lst [])) Q:=by
 refine⟨fun i m σ H=>m=xs.length - i/\i<=xs.length/\Pv i σ H,⟨xs.length,by simp,Nat.zero_le _,h0⟩, ?_⟩
 rintro i m σ H ⟨rfl,hi,p⟩
 have q:=hl i σ H hi p
 by_cases hlt:i<xs.length
 ·refine .inr ⟨⟨xs,xs[i],q,by simp[hlt]⟩,Pv (i+1),fun σ' H' p'=>⟨xs.length - (i+1),by omega,rfl,hlt,p'⟩,fun x H' y=> ?_⟩
  obtain⟨e,y⟩:=y
  subst e
  exact hs i x σ _ (y xs q) p
 ·have e:i=xs.length:=by omega
  subst e
  exact .inl ⟨⟨xs,q,Nat.le_refl _⟩,hd σ H p⟩
end L2
namespace L2
open PySem PySem.Spec PyProof.Rows
def aJ (sc:Scope) (x:Str):Prop:=Vis sc x/\(x==("__debug__":Str))=false/\(x==("__classdict__":Str))=false
instance {sc:Scope}{x:Str}:Decidable (aJ sc x):=by unfold aJ Vis;exact inferInstance
instance {sc:Scope}{x:Str}:Decidable (Loc sc x):=by unfold Loc;exact inferInstance
theorem pvx {X:Cx} (i:Nat) {x:Str}{pos:Pos} (v:aJ X.env.scope x) (hN:X.N[i]? =some x:=by rfl):PE X (.Name x pos) (Xo i):=Xp hN v.1 v.2.1 v.2.2
def lR (sc:Scope) (x:Str):Prop:=(sc.names.lookup x=some .local\/sc.names.lookup x=some .free)/\(x==("__debug__":Str))=false/\(x==("__classdict__":Str))=false
instance {sc:Scope}{x:Str}:Decidable (lR sc x):=by unfold lR;exact inferInstance
theorem lR.ok {sc:Scope}{env:Env}{x:Str} (h:lR sc x):aJ (relabel sc env) x:=by
 obtain⟨h1,h2⟩:=h
 refine⟨?_,h2⟩
 rcases h1 with h1 | h1
 ·exact .inl (lookup_relabel_local h1)
 ·rcases tH (env:=env) h1 with z | z
  ·exact .inr (.inl z)
  ·exact .inr (.inr z)
theorem zj {env:Env}:∀{names:List (Str×NameKind)}{x:Str},names.lookup x=some .globalImplicit->
 (names.map fun(n,k)=>if(k==NameKind.free&&env.scope.kind== .function&&env.kindOf n==some .cell) then(n,NameKind.cell) else(n,k)).lookup x=some .globalImplicit
 |[],_,h=>by simp at h
 | (n,q)::r,x,h=>by
   have ih:=@zj env r x
   rw[List.map_cons]
   cases hx:x==n with
   | true=>
     simp only[List.lookup_cons,hx,Option.some.injEq] at h
     subst h
     simp[List.lookup_cons,hx]
   | false=>
     simp only[List.lookup_cons,hx] at h
     by_cases hc:(q==NameKind.free&&env.scope.kind== .function&&env.kindOf n==some .cell)=true
     ·simpa only[hc,if_true,List.lookup_cons,hx] using ih h
     ·simpa only[hc,if_false,List.lookup_cons,hx,Bool.false_eq_true] using ih h
theorem glC {X:Cx}{N:List Str}{sc:Scope}{pins:List (Addr×Obj)}{C:Addr}{s₀:Shared}{H₀:Hp}{fp:List Addr}{x:Str} (h:sc.names.lookup x=some .globalImplicit):Gl (gw X N sc pins C s₀ H₀ fp) x:=zj h
theorem pgx {X:Cx}{i:Nat}{x:Str}{pos:Pos} (hN:X.N.Nodup) (hx:X.env.scope.names.lookup x=some .local) (hi:X.N[i]? =some x:=by rfl):PG X (.Name x pos) (zc i):=Lz hN hi (.inl hx) (.inr hx)
theorem Gz {sc:Scope}{env:Env}{x:Str} (h:sc.names.lookup x=some .local):(relabel sc env).names.lookup x=some .local:=lookup_relabel_local h
end L2
set_option maxRecDepth 100000
namespace L2
open PySem PySem.Spec PyProof.Rows
def Ws (_ j:Int):Prop:=0<j/\j.natAbs.log2<9000
theorem Qe {X:Cx}:OpR X (binaryOp .FloorDiv) (rI Ws fun i j=> .int (i / j)):=opI fun i j _ _ _ _ _ hc q=>by
 have h1:(0:Int)<j:=hc.1
 exact floordiv_int (by omega) (by rw[Int.fdiv_eq_ediv_of_nonneg i (by omega)];exact q) (.inl (PyProof.noPylong_of_log2 hc.2))
mutual
inductive qJ (K:PySem.W.Frag) (H:Hp):V->PyData->Prop where
 | non:qJ K H .non .none
 | bl (b:Bool):qJ K H (.bl b) (.bool b)
 | int (i:Int):qJ K H (.int i) (.int i)
 | str (x:Str):qJ K H (.str x) (.str x)
 | lst {a:Addr}{xs:List V}{ds:List PyData} (h:SqL K H a xs) (r:uA K H xs ds):qJ K H (.ref a) (.list ds)
 | tup {a:Addr}{xs:List V}{ds:List PyData} (h:SqT K H a xs) (r:uA K H xs ds):qJ K H (.ref a) (.tuple ds)
inductive uA (K:PySem.W.Frag) (H:Hp):List V->List PyData->Prop where
 | nil:uA K H [] []
 | cons {x:V}{d:PyData}{xs:List V}{ds:List PyData} (h:qJ K H x d) (r:uA K H xs ds):uA K H (x::xs) (d::ds)
end
theorem tK {K:PySem.W.Frag}{H:Hp}:∀ns:List Str,uA K H (ns.map V.str) (ns.map PyData.str)
 |[]=> .nil
 | n::r=> .cons (.str n) (tK r)
section
variable {X:Cx}{pins:List (Addr×Obj)}{σ:St}{H:Hp}{s:Shared}
mutual
theorem qJ.reads (I:Inv X pins σ H s):∀{x:V}{d:PyData}{u:Value},qJ X.K H x d->RelV x u->∃as,Reads s.heap u d as
 | _,_,_, .non,r=>by cases(show _=Value.none from r);exact⟨_, .none⟩
 | _,_,_, .bl b,r=>by cases(show _=Value.bool b from r);exact⟨_, .bool b⟩
 | _,_,_, .int i,r=>by obtain⟨t,rfl⟩:=r;exact⟨_, .int i t⟩
 | _,_,_, .str x,r=>by obtain⟨t,rfl⟩:=r;exact⟨_, .str x t⟩
 | _,_,_, .lst h q,r=>by
   cases(show _=Value.ref _ from r)
   obtain⟨its,rv,⟨o,n,e,c,_,d⟩,_⟩:=I.list h
   obtain⟨as,hr⟩:=uA.reads I q rv
   exact⟨_, .list e c d (by simpa using hr)⟩
 | _,_,_, .tup h q,r=>by
   cases(show _=Value.ref _ from r)
   obtain⟨its,rv,⟨o,e,c,n,d⟩,_⟩:=I.tuple h
   obtain⟨as,hr⟩:=uA.reads I q rv
   exact⟨_, .tuple e c d (by simpa using hr)⟩
theorem uA.reads (I:Inv X pins σ H s):∀{xs:List V}{ds:List PyData}{us:List Value},uA X.K H xs ds->Vals xs us->∃as,ReadsAll s.heap us ds as
 | _,_,_, .nil, .nil=>⟨_, .nil⟩
 | _,_,_, .cons h r, .cons q t=>by
   obtain⟨as,h1⟩:=qJ.reads I h q
   obtain⟨bs,h2⟩:=uA.reads I r t
   exact⟨_, .cons h1 h2⟩
end
end
def Tz (K:PySem.W.Frag) (neg:Bool):R2:=fun x y H Q=>∃d e,qJ K H x d/\qJ K H y e/\SeqAt.shaped d=true/\SeqAt.shaped e=true/\Q (.bl (if neg then !PyData.eqv d e else PyData.eqv d e)) H
theorem Qf {X:Cx} (hu:X.A.units+64<cLine):OpR X (compareOp .Eq) (Tz X.K false):=by
 intro pins s σ H x y v u Q I rx ry h
 obtain⟨d,e,hd,he,sd,se,q⟩:=h
 obtain⟨as,h1⟩:=hd.reads I rx
 obtain⟨bs,h2⟩:=he.reads I ry
 exact eq_dataH h1 h2 sd se hu ⟨.bl _,H,I,rfl,q⟩
theorem Kr {X:Cx} (hu:X.A.units+64<cLine):OpR X (compareOp .NotEq) (Tz X.K true):=by
 intro pins s σ H x y v u Q I rx ry h
 obtain⟨d,e,hd,he,sd,se,q⟩:=h
 obtain⟨as,h1⟩:=hd.reads I rx
 obtain⟨bs,h2⟩:=he.reads I ry
 exact ne_dataH h1 h2 sd se hu ⟨.bl _,H,I,rfl,q⟩
theorem Qg {X:Cx}:o8 X (.builtin "isinstance") (fun xs H Q=>∃x T t b,xs=[x, .ty T]/\qH X.K H x t/\PySem.W.kitOne X.K t (.type T)=some b/\Q (.bl b) H):=by
 intro pins s σ H xs us Q I r h
 obtain⟨x,T,t,b,rfl,ty,e,q⟩:=h
 obtain⟨u,v,rfl,r1,r2⟩:=Vals.two r
 cases(show v=Value.type T from r2)
 exact Nx I r1 ty e fun tk=>⟨.bl b,H,I.tok tk,rfl,q⟩
theorem tL:bootBuiltins "len"=some (.builtin "len"):=by decide +kernel
theorem jy:bootBuiltins "isinstance"=some (.builtin "isinstance"):=by decide +kernel
theorem Yz:bootBuiltins "max"=some (.builtin "max"):=by decide +kernel
theorem FQ:bootBuiltins "sorted"=some (.builtin "sorted"):=by decide +kernel
theorem YB:bootBuiltins "all"=some (.builtin "all"):=by decide +kernel
theorem Qh:bootBuiltins "int"=some (.type "int"):=by decide +kernel
theorem Qi:bootBuiltins "str"=some (.type "str"):=by decide +kernel
theorem TF:bootBuiltins "bool"=some (.type "bool"):=by decide +kernel
theorem zm:bootBuiltins "list"=some (.type "list"):=by decide +kernel
theorem CW:bootBuiltins "tuple"=some (.type "tuple"):=by decide +kernel
theorem TJ:bootBuiltins "dict"=some (.type "dict"):=by decide +kernel
theorem GC:bootBuiltins "enumerate"=some (.type "enumerate"):=by decide +kernel
theorem YC:bootBuiltins "zip"=some (.type "zip"):=by decide +kernel
end L2
set_option maxRecDepth 100000
namespace L2
open PySem PySem.Spec PyProof.Rows
structure QE (X:Cx) (e:Expr) (t:TE):Prop where
 h:PE X e t
structure QT (X:Cx) (e:Expr) (t:TT):Prop where
 h:PT X e t
structure QW (X:Cx) (e:Expr) (t:TT):Prop where
 h:PW X e t
structure QA (X:Cx) (es:List Expr) (t:TA):Prop where
 h:PA X es t
structure QS (X:Cx) (s:Stmt) (t:TS):Prop where
 h:PS X s t
structure QSs (X:Cx) (s:List Stmt) (t:TS):Prop where
 h:PSs X s t
structure QG (X:Cx) (e:Expr) (t:TG):Prop where
 h:PG X e t
structure QGs (X:Cx) (es:List Expr) (t:TGs):Prop where
 h:PGs X es t
structure QI (X:Cx) (tg e:Expr) (t:TI):Prop where
 h:PI X tg e t
structure QO (X:Cx) (e:Option Expr) (t:TO):Prop where
 h:PO X e t
structure TQ (X:Cx) (es:List Expr) (t:TT):Prop where
 h:N8 X es t
structure QPs (X:Cx) (pos:Pos) (ks:List (Option Expr)) (vs:List Expr) (t:List (TE×TE)):Prop where
 h:PPs X pos ks vs t
structure QOp (X:Cx) (f:Value->Value->Sem Value) (r:R2):Prop where
 h:OpR X f r
structure QUn (X:Cx) (f:Value->Sem Value) (r:V->Hp->VK->Prop):Prop where
 h:UnR X f r
structure QIx (X:Cx) (r:R2):Prop where
 h:IxR X r
structure QSl (X:Cx) (r:V->Option Int->Option Int->Hp->VK->Prop):Prop where
 h:SlR X r
structure QMt (X:Cx) (id:String) (r:V->List V->Hp->VK->Prop):Prop where
 h:MtR X id r
structure pB (X:Cx) (f:Value) (r:List V->Hp->VK->Prop):Prop where
 h:o8 X f r
section
variable {X:Cx}{a b c e:Expr}{es:List Expr}{ta tb te:TE}{tA tB':TT}{pos p:Pos}{x:Str}
theorem ao (i:Nat) (v:aJ X.env.scope x) (hN:X.N[i]? =some x:=by rfl):QE X (.Name x pos) (Xo i):=⟨pvx i v hN⟩
theorem aB {i j pos}:QE X (.Constant (.int i) j pos) (tC (.int i)):=⟨Xq⟩
theorem xP {b j pos}:QE X (.Constant (.bool b) j pos) (tC (.bl b)):=⟨abh⟩
theorem Ks {j pos}:QE X (.Constant .none j pos) (tC .non):=⟨Xr⟩
theorem cC {x j pos}:QE X (.Constant (.str x) j pos) (tC (.str x)):=⟨Xu⟩
theorem TV {v:V}{u:Value} (hg:Gl X x) (hm:X.mg x=some u) (r:RelV v u) (hd:(x==("__debug__":Str))=false):QE X (.Name x pos) (tC v):=⟨R6 hg hm r hd⟩
theorem wD {v:V}{u:Value} (hg:Gl X x) (hm:X.mg x=none) (hv:bootBuiltins x=some u) (r:RelV v u) (hn:x≠"__name__") (hd:(x==("__debug__":Str))=false):QE X (.Name x pos) (tC v):=⟨R7 hg hm hv r hn hd⟩
theorem dz {op:Operator}{r:R2} (ho:QOp X (binaryOp op) r) (ha:QE X a ta) (hb:QE X b tb):QE X (.BinOp a op b pos) (tOp r ta tb):=⟨abr ho.h ha.h hb.h⟩
theorem Ij {op:UnaryOp}{r:V->Hp->VK->Prop} (ho:QUn X (unaryOp op) r) (ha:QE X a ta):QE X (.UnaryOp op a pos) (tUn r ta):=⟨abt ho.h ha.h⟩
theorem Ai {op:CmpOp}{r:R2} (ho:QOp X (compareOp op) r) (ha:QE X a ta) (hb:QE X b tb) (hm:behindInMarks op b=false):QE X (.Compare a [op] [b] pos) (tOp r ta tb):=⟨Sv ho.h ha.h hb.h hm⟩
theorem cD {op:CmpOp}{r:R2} (ho:QOp X (compareOp op) r) (ha:QE X a ta) (hb:QE X b tb) (hm:behindInMarks op b=false):QT X (.Compare a [op] [b] pos) (Wh (tOp r ta tb)):=⟨Sw ho.h ha.h hb.h hm⟩
theorem tM (h:QE X e te) (he:∀whole,isTrue e X.env whole=(do let v <-whole;standAt e.pos;holding [v] (truthy v)):=by intro _;rfl):QT X e (tB te):=⟨Xv h.h he⟩
theorem CZ (ha:QE X a ta) (he:∀whole,isTrue a X.env whole=(do let v <-whole;standAt a.pos;holding [v] (truthy v)):=by intro _;rfl):QT X a (fun σ H Q=>ta σ H fun x H1=>∃k,Yb X.K x H1 k/\Q k H1):=⟨Pb ha.h he⟩
theorem GD (ha:QT X a tA):QT X (.UnaryOp .Not a pos) (abj tA):=⟨Xy ha.h⟩
theorem YD (ha:QE X a ta):QE X (.UnaryOp .Not a pos) (V9 ta):=⟨XD ha.h⟩
theorem zp (ha:QT X a tA):QW X (.BoolOp .And [a] pos) tA:=⟨R8 ha.h⟩
theorem Aj (ha:QT X a tA):QW X (.BoolOp .Or [a] pos) tA:=⟨Xw ha.h⟩
theorem Dc {rest:List Expr} (ha:QT X a tA) (hb:QW X (.BoolOp .And (b::rest) pos) tB'):QW X (.BoolOp .And (a::b::rest) pos) (abi tA tB'):=⟨Xx ha.h hb.h⟩
theorem FT {rest:List Expr} (ha:QT X a tA) (hb:QW X (.BoolOp .Or (b::rest) pos) tB'):QW X (.BoolOp .Or (a::b::rest) pos) (tOr tA tB'):=⟨abk ha.h hb.h⟩
theorem Dd (h:QW X e tA):QT X e tA:=⟨h.h.pt⟩
theorem Ku {op} (h:QE X a ta):QE X (.BoolOp op [a] pos) ta:=⟨Xz h.h⟩
theorem GF {rest:List Expr} (ha:QE X a ta) (hb:QE X (.BoolOp .And (b::rest) pos) tb):QE X (.BoolOp .And (a::b::rest) pos) (V8 ta tb):=⟨XC ha.h hb.h⟩
theorem Qj (hc:QT X c tA) (ha:QE X a ta) (hb:QE X b tb):QE X (.IfExp c a b pos) (tIf tA ta tb):=⟨OJ hc.h ha.h hb.h⟩
theorem aC:QA X [] SM:=⟨Yh⟩
theorem jZ {t:TA} (ha:QE X e te) (hr:QA X es t) (hs:starEach (e::es) X.env=(false,eval e X.env)::starEach es X.env:=by rfl):QA X (e::es) (o9 te t):=⟨SN ha.h hr.h hs⟩
theorem fQ {x1}{t:TA} (h:QA X es t):QE X (.Tuple es x1 pos) (abC t):=⟨Yi h.h⟩
theorem gK {t:TA} (h:QA X es t):QE X (.List es pos) (abD t):=⟨Yj h.h⟩
theorem aM {r:R2} (hr:QIx X r) (ha:QE X a ta) (hb:QE X b tb) (hs:Mf b:=by intro _ _;rfl):QE X (.Subscript a b pos) (tOp r ta tb):=⟨abF hr.h ha.h hb.h hs⟩
theorem Mr:QO X none Ma:=⟨Te⟩
theorem Ms (h:QE X e te):QO X (some e) (Wk te):=⟨Tf h.h⟩
theorem Ik {r:V->Option Int->Option Int->Hp->VK->Prop}{lo hi:Option Expr}{tl th:TO}{p2:Pos} (hr:QSl X r) (he:QE X e te) (hl:QO X lo tl) (hu:QO X hi th):QE X (.Subscript e (.Slice lo hi none p2) pos) (tSl r te tl th):=⟨Pr hr.h he.h hl.h hu.h⟩
theorem cR (hu:X.A.units+1<cLine) (ho:QE X a ta) (hi:QE X b tb) (hs:Ys b:=by intro _ _;rfl):QE X (.Subscript a b pos) (Wm ta tb):=⟨Tq hu ho.h hi.h hs⟩
theorem YF:QPs X pos [] [] []:=⟨Tt⟩
theorem GJ {k v:Expr}{ks:List (Option Expr)}{vs:List Expr}{tk tv:TE}{trs:List (TE×TE)} (hk:QE X k tk) (hv:QE X v tv) (hr:QPs X pos ks vs trs):QPs X pos (some k::ks) (v::vs) ((tk,tv)::trs):=⟨PK hk.h hv.h hr.h⟩
theorem TX {keys:List (Option Expr)}{values:List Expr}{trs:List (TE×TE)} (h:QPs X pos keys values trs) (hall:keys.all (·.isSome)=true:=by rfl) (hl:keys.length=values.length:=by rfl) (h1:keys≠[]:=by intro z;cases z) (h2:keys.length<=15:=by decide):QE X (.Dict keys values pos) (Wo trs):=⟨Tu h.h hall hl h1 h2⟩
theorem aZ {CX:CXT}{k:Nat}{f:Addr}{fd:FuncData}{ps:List Str}{sp:Sp}{dvs:List V}{ds:List Value}{E:XK}{t:TA} (F:bF X.prog X.w X.K X.mg X.base CX k f fd ps sp) (hr:kY k X.A) (hg:Gl X x) (hm:X.mg x=some (.ref f)) (hk:PySem.W.keepIn X.K (.ref f)=true) (hb:Binds X.K fd ps ds) (hd:Vals dvs ds) (hx:Passes CX X E)
 (ha:QA X (e::es) t) (hdb:(x==("__debug__":Str))=false) (he:starEach (e::es) X.env=(false,eval e X.env)::starEach es X.env:=by rfl) (hpl:(backTo pos (starEach es X.env)).any (·.1)=false:=by rfl):
 QE X (.Call (.Name x p) (e::es) [] pos) (Wi sp dvs E t):=⟨SQ F hr hg hm hk hb hd hx ha.h hdb he hpl⟩
theorem eN {id:String}{r:List V->Hp->VK->Prop}{t:TA} (hc:pB X (.builtin id) r) (hg:Gl X x) (hm:X.mg x=none) (hv:bootBuiltins x=some (.builtin id)) (ha:QA X (e::es) t) (hn:x≠"__name__") (hdb:(x==("__debug__":Str))=false)
 (he:starEach (e::es) X.env=(false,eval e X.env)::starEach es X.env:=by rfl) (hpl:(backTo pos (starEach es X.env)).any (·.1)=false:=by rfl):QE X (.Call (.Name x p) (e::es) [] pos) (tCB r t):=⟨Pn hc.h hg hm hv ha.h hn hdb he hpl⟩
theorem mQ {T:String}{r:List V->Hp->VK->Prop}{t:TA} (hc:pB X (.type T) r) (hg:Gl X x) (hm:X.mg x=none) (hv:bootBuiltins x=some (.type T)) (ha:QA X (e::es) t) (hn:x≠"__name__") (hdb:(x==("__debug__":Str))=false)
 (he:starEach (e::es) X.env=(false,eval e X.env)::starEach es X.env:=by rfl) (hpl:(backTo pos (starEach es X.env)).any (·.1)=false:=by rfl):QE X (.Call (.Name x p) (e::es) [] pos) (tCB r t):=⟨Nz hc.h hg hm hv ha.h hn hdb he hpl⟩
theorem Ak {o:Expr}{to:TE}{name:Str}{apos cpos:Pos}{T id:String}{r:V->List V->Hp->VK->Prop} (pa:PlainAttrs T) (slot:Slot T name id) (hty:typeOf (.builtin id)=pure (.type "method_descriptor")) (hm:QMt X id r) (ho:QE X o to)
 (hbase:attributeBase o name X.env (eval o X.env)=eval o X.env:=by rfl) (hline:(apos.endLine==cpos.line)=true:=by rfl):QE X (.Call (.Attribute o name apos) [] [] cpos) (abI X.K T r to):=⟨Yp pa slot hty hm.h ho.h hbase hline⟩
theorem rG {o:Expr}{to:TE}{name:Str}{apos cpos:Pos}{T id:String}{r:V->List V->Hp->VK->Prop}{t:TA} (pa:PlainAttrs T) (slot:Slot T name id) (hty:typeOf (.builtin id)=pure (.type "method_descriptor")) (hm:QMt X id r) (ho:QE X o to) (ha:QA X (e::es) t)
 (hbase:attributeBase o name X.env (eval o X.env)=eval o X.env:=by rfl)
 (hfew:((backTo cpos (starEach (e::es) X.env)).all (fun x=> !x.1)&&(backToKw cpos (keywordEach [] X.env)).all (fun x=>x.1.isSome)
   &&decide ((e::es).length+([]:List Keyword).length+(if([]:List Keyword).isEmpty then 0 else 1)<30))=true:=by rfl)
 (hline:(apos.endLine==cpos.line)=true:=by rfl) (hs:starEach (e::es) X.env=(false,eval e X.env)::starEach es X.env:=by rfl) (hplain:(backTo cpos (starEach es X.env)).any (·.1)=false:=by rfl):
 QE X (.Call (.Attribute o name apos) (e::es) [] cpos) (tBM X.K T r to t):=⟨abJ pa slot hty hm.h ho.h ha.h hbase hfew hline hs hplain⟩
theorem wF {n:Nat}{fr:List Nat}{N:List Str}{sc:Scope}{elt tg iter:Expr}{ifs:List Expr}{wi:TI}{g:TG}{tc:TT} (hc:X.calm=true) (S:u9 X n fr N sc) (hit:QI X tg iter wi)
 (hg:∀pins C s₀ H₀ fp,QG (gw X N sc pins C s₀ H₀ fp) tg g) (hi:∀pins C s₀ H₀ fp,TQ (gw X N sc pins C s₀ H₀ fp) ifs tc) (he:∀pins C s₀ H₀ fp,QE (gw X N sc pins C s₀ H₀ fp) elt te)
 (hs:∀x,foldedSetIterable iter X.env x=pure x:=by intro _;rfl):QE X (.ListComp elt [⟨tg,iter,ifs,0⟩] sc pos) (Mq wi n fr g tc te):=
 ⟨Tw hc S hit.h (fun a b c d e=>(hg a b c d e).h) (fun a b c d e=>(hi a b c d e).h) (fun a b c d e'=>(he a b c d e').h) hs⟩
theorem Kv {i:Nat}{pos' spos:Pos}{n:Nat}{fr:List Nat}{N:List Str}{sc:Scope}{elt tg iter:Expr}{ifs:List Expr}{wi:TI}{g:TG}{tc:TT} (hc:X.calm=true) (hN:X.N.Nodup) (hi':X.N[i]? =some x) (hx:Loc X.env.scope x) (S:u9 X n fr N sc) (hit:QI X tg iter wi)
 (hg:∀pins C s₀ H₀ fp,QG (gw X N sc pins C s₀ H₀ fp) tg g) (hi:∀pins C s₀ H₀ fp,TQ (gw X N sc pins C s₀ H₀ fp) ifs tc) (he:∀pins C s₀ H₀ fp,QE (gw X N sc pins C s₀ H₀ fp) elt te)
 (hsw:swapsWith (.ListComp elt [⟨tg,iter,ifs,0⟩] sc pos) (some (.Name x pos')) spos.line X.env=pure true)
 (hs:∀x,foldedSetIterable iter X.env x=pure x:=by intro _;rfl) (hf:X.fn x=true\/X.env.scope.names.lookup x=some .local:=by first | exact .inl rfl | exact .inr rfl | assumption):
 QS X (.Assign [.Name x pos'] (.ListComp elt [⟨tg,iter,ifs,0⟩] sc pos) spos) (Nj (Mq wi n fr g tc te) (zc i)):=
 ⟨Kp hc hN hi' hx S hit.h (fun a b c d e=>(hg a b c d e).h) (fun a b c d e=>(hi a b c d e).h) (fun a b c d e'=>(he a b c d e').h) hsw hs hf⟩
theorem Qk:TQ X [] Wq:=⟨Qc⟩
theorem De {t:TT} (h:QT X c t):TQ X [c] t:=⟨Qd h.h⟩
theorem zq {tg l:Expr}{tl:TE} (hl:QE X l tl):QI X tg l (We X.K tl):=⟨Ss hl.h⟩
theorem FW {tg:Expr}{t:TA} (hg:Gl X "range") (hm:X.mg "range"=none) (ha:QA X [a] t) (hs:starEach [a] X.env=[(false,eval a X.env)]:=by rfl):QI X tg (.Call (.Name "range" p) [a] [] pos) (Wf t):=⟨Nm hg hm ha.h hs⟩
theorem Oa {tg:Expr}{t:TA} (hg:Gl X "range") (hm:X.mg "range"=none) (ha:QA X [a,b] t) (hs:starEach [a,b] X.env=[(false,eval a X.env),(false,eval b X.env)]:=by rfl) (hs2:starEach [b] X.env=[(false,eval b X.env)]:=by rfl):QI X tg (.Call (.Name "range" p) [a,b] [] pos) (Wg t):=⟨Np hg hm ha.h hs hs2⟩
theorem lV {i:Nat} (hN:X.N.Nodup) (hi:X.N[i]? =some x) (hx:Loc X.env.scope x) (hf:X.fn x=true\/X.env.scope.names.lookup x=some .local:=by first | exact .inl rfl | exact .inr rfl | assumption):QG X (.Name x pos) (zc i):=⟨Lz hN hi hx hf⟩
theorem qgx {i:Nat} (hN:X.N.Nodup) (hx:X.env.scope.names.lookup x=some .local) (hi:X.N[i]? =some x:=by rfl):QG X (.Name x pos) (zc i):=⟨pgx hN hx hi⟩
theorem zu:QGs X [] abp:=⟨Sq⟩
theorem kZ {t:TG}{u:TGs} (h1:QG X e t) (h2:QGs X es u) (hs:(assignEach (e::es) X.env).map (·.2)=assign e X.env::(assignEach es X.env).map (·.2):=by rfl):QGs X (e::es) (Wd t u):=⟨O6 h1.h h2.h hs⟩
theorem GK {k n:Nat}{t:TGs} (hc:X.calm=true) (h:QGs X es t) (hn:(assignEach es X.env).length=n:=by rfl) (hst:(assignEach es X.env).findIdx? (·.1)=none:=by rfl):QG X (.Tuple es k pos) (XH X.K n t):=⟨XJ hc h.h hn hst⟩
theorem YG {tg:Expr}{g:TG} (he:QE X e te) (hg:QG X tg g) (hs:swapsWithSole [tg] e pos.line X.env=pure false:=by rfl) (hw:swappedStores [tg] e X.env=pure none:=by rfl)
 (h1:(assignEach [tg] X.env).map (·.2)=[assign tg X.env]:=by rfl):QS X (.Assign [tg] e pos) (Nj te g):=⟨XM he.h hg.h hs hw h1⟩
theorem bV {i:Nat}{pos':Pos} (hN:X.N.Nodup) (hi:X.N[i]? =some x) (hx:Loc X.env.scope x) (he:QE X e te) (hs:swapsWith e (some (.Name x pos')) pos.line X.env=pure false:=by rfl) (hf:X.fn x=true\/X.env.scope.names.lookup x=some .local:=by first | exact .inl rfl | exact .inr rfl | assumption):
 QS X (.Assign [.Name x pos'] e pos) (Nj te (zc i)):=⟨XN hN hi hx he.h hs hf⟩
theorem j0 {o i v:Expr}{td ty tv:TE}{pos':Pos} (hu:X.A.units+1<cLine) (ho:QE X o td) (hi:QE X i ty) (hv:QE X v tv) (hs:swapsWith v (some (.Subscript o i pos')) pos.line X.env=pure false:=by rfl):QS X (.Assign [.Subscript o i pos'] v pos) (Wn td ty tv):=⟨Tr hu ho.h hi.h hv.h hs⟩
theorem gA (he:QE X e te) (hs:swapsWith e none pos.line X.env=pure false:=by rfl):QS X (.Expr e pos) (Wb te):=⟨Sh he.h hs⟩
theorem bH (he:QE X e te):QS X (.Return (some e) pos) (abm te):=⟨XF he.h⟩
theorem TY:QS X (.Pass pos) Ly:=⟨Sg⟩
theorem Ql:QS X (.Break pos) O2:=⟨O3⟩
theorem Il:QS X (.Continue pos) Wa:=⟨HQ⟩
theorem dh {s1 s2:List Stmt}{t u:TS} (hc:QT X c tA) (ha:QSs X s1 t) (hb:QSs X s2 u):QS X (.If c s1 s2 pos) (abn tA t u):=⟨abo hc.h ha.h hb.h⟩
theorem zx {body:List Stmt}{tb:TS} (hp:PassesOwn (model X.prog X.w) X.A X.env X.xe) (hc:QT X c tA) (hb:QSs X body tb):QS X (.While c body [] pos) (O7 tA tb):=⟨O8 hp hc.h hb.h⟩
theorem ye {tg iter:Expr}{body:List Stmt}{wi:TI}{g:TG}{tb:TS} (hp:PassesOwn (model X.prog X.w) X.A X.env X.xe) (hc:X.calm=true) (hi:QI X tg iter wi) (hg:QG X tg g) (hb:QSs X body tb)
 (hs:∀x,foldedSetIterable iter X.env x=pure x:=by intro _;rfl):QS X (.For tg iter body [] pos) (abq wi g tb):=⟨XQ hp hc hi.h hg.h hb.h hs⟩
theorem cH:QSs X [] Ly:=⟨R9⟩
theorem aA {s:Stmt}{rest:List Stmt}{t u:TS} (h1:QS X s t) (h2:QSs X rest u):QSs X (s::rest) (abl t u):=⟨O1 h1.h h2.h⟩
theorem aH {s:Stmt}{t:TS} (h1:QS X s t):QSs X [s] t:=⟨Sd h1.h⟩
theorem lW:QOp X (binaryOp .Add) (rI0 fun i j=> .int (i+j)):=⟨XS⟩
theorem mX:QOp X (binaryOp .Sub) (rI0 fun i j=> .int (i - j)):=⟨XX⟩
theorem tO:QOp X (binaryOp .Mult) (rI Cz fun i j=> .int (i * j)):=⟨X3⟩
theorem mY:QOp X (binaryOp .Mod) (rI (fun _ j=>0<j) fun i j=> .int (i % j)):=⟨X4⟩
theorem Im:QOp X (binaryOp .FloorDiv) (rI Ws fun i j=> .int (i / j)):=⟨Qe⟩
theorem GP:QOp X (binaryOp .Pow) (rI Su fun i j=> .int (i ^ j.toNat)):=⟨X5⟩
theorem Io:QOp X (binaryOp .Add) (fun x y H Q=>∃i j,x= .str i/\y= .str j/\i.length+j.length<=sizeLine/\Q (.str (i++j)) H):=⟨J7⟩
theorem T4:QOp X (binaryOp .Add) abL:=⟨Yr⟩
theorem zy:QUn X (unaryOp .USub) (rU fun i=> .int (-i)):=⟨X6⟩
theorem gB:QOp X (compareOp .Eq) rEq:=⟨abx⟩
theorem tQ:QOp X (compareOp .NotEq) rNe:=⟨aby⟩
theorem Qm:QOp X (compareOp .Lt) (rI0 fun i j=> .bl (decide (i<j))):=⟨abz⟩
theorem YH:QOp X (compareOp .Gt) (rI0 fun i j=> .bl (decide (j<i))):=⟨abA⟩
theorem Ua:QOp X (compareOp .Is) (fun x y H Q=>y= .non/\Q (.bl (decide (x= .non))) H):=⟨X7⟩
theorem Ub (hu:X.A.units+64<cLine):QOp X (compareOp .Eq) (Tz X.K false):=⟨Qf hu⟩
theorem Uc (hu:X.A.units+64<cLine):QOp X (compareOp .NotEq) (Tz X.K true):=⟨Kr hu⟩
theorem Df:QOp X (compareOp .In) (rIn X.K false):=⟨NB⟩
theorem xQ:QOp X (compareOp .NotIn) (rIn X.K true):=⟨Gv⟩
theorem d8:QIx X (Yk X.K):=⟨Ti⟩
theorem aK:QIx X (Yl X.K):=⟨Ym⟩
theorem Mt:QIx X abG:=⟨Yn⟩
theorem Ip:QSl X (abH X.K):=⟨Tj⟩
theorem iH:QMt X "list.append" Mg:=⟨Fy⟩
theorem yf:QMt X "list.extend" Mh:=⟨NP⟩
theorem wG:QMt X "list.pop" abK:=⟨Yq⟩
theorem jL:pB X (.builtin "len") (fun xs H Q=>∃p ys,xs=[.ref p]/\(SqL X.K H p ys\/SqT X.K H p ys)/\Q (.int ys.length) H):=⟨Gw⟩
theorem Ud:pB X (.builtin "len") (fun xs H Q=>∃a kvs,xs=[V.ref a]/\H a=some (.dK kvs)/\Q (.int kvs.length) H):=⟨N7⟩
theorem Al:pB X (.builtin "isinstance") (fun xs H Q=>∃x T t b,xs=[x, .ty T]/\qH X.K H x t/\PySem.W.kitOne X.K t (.type T)=some b/\Q (.bl b) H):=⟨Qg⟩
theorem Ue:pB X (.type "int") (fun xs H Q=>∃k,xs=[.bl k]/\Q (.int (if k then 1 else 0)) H):=⟨fun pins s σ H xs us Q I r h=>Nt pins s σ H xs us Q I r (.inr h)⟩
theorem Kw:pB X (.type "list") (fun xs H Q=>∃p ys,xs=[.ref p]/\(SqL X.K H p ys\/SqT X.K H p ys)/\∀l,H l=none->Q (.ref l) (upd H l (.lst ys))):=⟨Gx⟩
theorem Ir:pB X (.type "tuple") (fun xs H Q=>∃p ys,xs=[.ref p]/\SqL X.K H p ys/\∀l,H l=none->Q (.ref l) (upd H l (.tup ys))):=⟨fun pins s σ H xs us Q I r h=>Eu pins s σ H xs us Q I r (let ⟨p,ys,e,hs,q⟩:=h;⟨p,ys,e, .inl ⟨hs,q⟩⟩)⟩
theorem bz (b:Expr) {op:CmpOp} (h:op≠ .In:=by decide) (h2:op≠ .NotIn:=by decide):behindInMarks op b=false:=X8 b h h2
theorem FZ {K:PySem.W.Frag} (e:X.K=K):QIx X (Yk K):=e▸d8
theorem vd {K:PySem.W.Frag} (e:X.K=K):QIx X (Yl K):=e▸aK
theorem Dg {K:PySem.W.Frag} (e:X.K=K):QOp X (compareOp .NotIn) (rIn K true):=e▸xQ
theorem Iu {K:PySem.W.Frag} (e:X.K=K):pB X (.builtin "len") (fun xs H Q=>∃p ys,xs=[.ref p]/\(SqL K H p ys\/SqT K H p ys)/\Q (.int ys.length) H):=e▸jL
end
end L2
set_option maxRecDepth 100000
namespace L2
open PySem PySem.Spec PyProof.Rows
theorem Ob {X:Cx} (hc:X.calm=true):o8 X (.builtin "all") (fun xs H Q=>∃(p:Addr) (bs:List Bool),xs=[V.ref p]/\SqL X.K H p (bs.map V.bl)/\Q (.bl (bs.all id)) H):=by
 intro pins s σ H xs us Q I r h
 obtain⟨p,bs,rfl,hp,q⟩:=h
 obtain⟨u,rfl,ru⟩:=Vals.one r
 cases(show u=Value.ref p from ru)
 obtain⟨its,rv,pl,hz⟩:=I.list hp
 have hlt:p<s.heap.objs.size:=by obtain⟨o,n,e,_⟩:=pl;exact Heap.lt_size e
 have hlen:its.length=bs.length:=by rw[<-rv.length,List.length_map]
 refine call_all_walk (wpAny_pyIter_list pl.isList ?_)
 refine⟨s.heap.objs.size,_,_,its.toArray.size,(fun i v=>its.toArray[i]? =some v),_,(fun i=>bs.getD i false),rfl,Walks.list (A:=X.A.in1) (I.ok.hd hc) s.heap.objs.size p (Nat.ne_of_lt hlt) its.toArray,⟨⟨_,Heap.get?_push_size _ rfl,rfl,rfl⟩,pl.isList.push _⟩, ?_, ?_⟩
 ·intro i v s' Q' E' hv hq
  have hi:i<bs.length:=by
   rw[<-hlen]
   have:=(Array.getElem?_eq_some_iff.mp hv).1
   simpa using this
  obtain⟨u,hu,ru⟩:=rv.get (i:=i) (x:=V.bl bs[i]) (by rw[List.getElem?_map,List.getElem?_eq_getElem hi];rfl)
  have hv':its[i]? =some v:=by simpa using hv
  rw[hu] at hv'
  cases hv'
  cases(show v=Value.bool _ from ru)
  refine wpAny_truthy_bool ?_
  have e:bs.getD i false=bs[i]:=by rw[List.getD_eq_getElem?_getD,List.getElem?_eq_getElem hi];rfl
  have hq':Q' (bs.getD i false) s':=hq
  rw[e] at hq'
  exact hq'
 ·intro h' tk hk
  have e:(List.range its.toArray.size).all (fun i=>bs.getD i false)=bs.all id:=by
   rw[List.size_toArray,hlen]
   rw[Bool.eq_iff_iff,List.all_eq_true,List.all_eq_true]
   constructor
   ·intro h b hb
    obtain⟨i,hi,rfl⟩:=List.mem_iff_getElem.mp hb
    have:=h i (List.mem_range.mpr hi)
    rw[List.getD_eq_getElem?_getD,List.getElem?_eq_getElem hi] at this
    exact this
   ·intro h i hi
    have hi':=List.mem_range.mp hi
    rw[List.getD_eq_getElem?_getD,List.getElem?_eq_getElem hi']
    exact h _ (List.getElem_mem hi')
  rw[e]
  refine⟨.bl _,H,I.kept (t':=tk) fun b o eb=>hk b o ?_ (Heap.get?_push_of_some _ eb),rfl,q⟩
  intro z
  have:b=s.heap.objs.size:=by simpa using z
  exact absurd (Heap.lt_size eb) (by rw[this];exact Nat.lt_irrefl _)
section
variable {X:Cx}{a b c e:Expr}{ta tb tc te:TE}{pos:Pos}
theorem Ug (hc:X.calm=true):pB X (.builtin "all") (fun xs H Q=>∃(p:Addr) (bs:List Bool),xs=[V.ref p]/\SqL X.K H p (bs.map V.bl)/\Q (.bl (bs.all id)) H):=⟨Ob hc⟩
end
end L2
set_option maxRecDepth 100000
namespace RB
open PySem L2 PySem.Spec PyProof.Rows
def But (S:List Addr) (H H':Hp):Prop:=∀b o,b∉S->H b=some o->H' b=some o
theorem But.refl (S:List Addr) (H:Hp):But S H H:=fun _ _ _ h=>h
theorem But.trans {S:List Addr}{H H1 H2:Hp} (a:But S H H1) (b:But S H1 H2):But S H H2:=fun c o n h=>b c o n (a c o n h)
theorem But.mono {S S':List Addr}{H H':Hp} (a:But S H H') (h:∀b∈S,b∈S'):But S' H H':=fun c o n q=>a c o (fun z=>n (h c z)) q
theorem But.new {S:List Addr}{H:Hp}{p:Addr} (o:HO) (h:H p=none):But S H (upd H p o):=fun b u _ q=>by rw[au (aL q h)];exact q
theorem But.set {S:List Addr}{H:Hp}{p:Addr} (o:HO) (h:p∈S):But S H (upd H p o):=fun b u n q=>by rw[au (show b≠p from fun e=>n (by rw[e];exact h))];exact q
theorem But.of_same {S:List Addr}{H H':Hp} (h:aN H H'):But S H H':=fun b o _ q=>h b o q
theorem aG {H:Hp}{p:Addr} (o:HO) (h:H p=none):aN H (upd H p o):=fun b u q=>by rw[au (aL q h)];exact q
def lq (H H':Hp):Prop:=∀b xs,H b=some (.tup xs)->H' b=some (.tup xs)
theorem aN.tups {H H':Hp} (h:aN H H'):lq H H':=fun b xs q=>h b _ q
inductive Op where | plus | minus | times | most
 deriving DecidableEq
def Op.word:Op->Str
 | .plus=>"plus" | .minus=>"minus" | .times=>"times" | .most=>"most"
inductive R where
 | num (n:Int) | rd (x:Str) | bin (op:Op) (a b:R) | pick (a b c:R) | cho (a:R) (ns:List Str)
def R.depth:R->Nat
 | .num _=>1
 | .rd _=>1
 | .bin _ a b=>max a.depth b.depth+1
 | .pick a b c=>max a.depth (max b.depth c.depth)+1
 | .cho a _=>a.depth+1
def Mv (c:Nat):Prop:=97<=c/\c<=122
def n8 (x:Str):Prop:=1<=x.length/\x.length<=8/\∀c∈x.cps.toList,Mv c
def R.Good:R->Prop
 | .num n=>n.natAbs<10 ^ 40
 | .rd x=>n8 x
 | .bin _ a b=>a.Good/\b.Good
 | .pick a b c=>a.Good/\b.Good/\c.Good
 | .cho a ns=>a.Good/\1<=ns.length/\ns.length<=9/\∀x∈ns,n8 x
inductive IsR (H:Hp):Addr->R->Prop where
 | num {a:Addr}{n:Int} (e:H a=some (.tup [.str "number", .int n])):IsR H a (.num n)
 | rd {a:Addr}{x:Str} (e:H a=some (.tup [.str "read", .str x])):IsR H a (.rd x)
 | bin {a b c:Addr}{op:Op}{r s:R} (e:H a=some (.tup [.str op.word, .ref b, .ref c])) (h1:IsR H b r) (h2:IsR H c s):IsR H a (.bin op r s)
 | pick {a b c d:Addr}{r s t:R} (e:H a=some (.tup [.str "pick", .ref b, .ref c, .ref d])) (h1:IsR H b r) (h2:IsR H c s) (h3:IsR H d t):IsR H a (.pick r s t)
 | cho {a b c:Addr}{r:R}{ns:List Str} (e:H a=some (.tup [.str "choose", .ref b, .ref c])) (h1:IsR H b r) (h2:H c=some (.tup (ns.map V.str))):IsR H a (.cho r ns)
theorem IsR.tups {H H':Hp} (t:lq H H') {a:Addr}{r:R} (h:IsR H a r):IsR H' a r:=by
 induction h with
 | num e=>exact .num (t _ _ e)
 | rd e=>exact .rd (t _ _ e)
 | bin e _ _ i1 i2=>exact .bin (t _ _ e) i1 i2
 | pick e _ _ _ i1 i2 i3=>exact .pick (t _ _ e) i1 i2 i3
 | cho e _ h2 i1=>exact .cho (t _ _ e) i1 (t _ _ h2)
theorem IsR.same {H H':Hp} (t:aN H H') {a:Addr}{r:R} (h:IsR H a r):IsR H' a r:=h.tups (aN.tups t)
theorem R.Am (r:R):1<=r.depth:=by cases r<;>simp[R.depth]
def Mw (K:PySem.W.Frag):Sp:=fun vs H Q _=>∃(a:Addr) (ns:List Int),vs=[.ref a]/\SqL K H a (ns.map V.int)/\ns.length<=63/\∀H',Q (.bl true) H'
structure FnT (K:PySem.W.Frag) (mg:Str->Option Value) (x:Str) (st:Stmt) (ps:List Str) (f:Addr) (fd:FuncData):Prop where
 F:Fun K x x st f fd
 b:Binds K fd ps []
 m:mg x=some (.ref f)
structure Blt (mg:Str->Option Value):Prop where
 zA:mg "len"=none
 GQ:mg "range"=none
 Wt:mg "str"=none
 Wu:mg "int"=none
 Dh:mg "list"=none
 GR:mg "tuple"=none
 j6:mg "isinstance"=none
 YJ:mg "bool"=none
 YK:mg "dict"=none
 ahK:mg "sum"=none
 abQ:mg "all"=none
 ahL:mg "any"=none
 abR:mg "max"=none
 ahM:mg "min"=none
 Iv:mg "sorted"=none
 ahN:mg "set"=none
 Iw:mg "enumerate"=none
 abS:mg "zip"=none
 YL:mg "reversed"=none
 ahO:mg "abs"=none
end RB
namespace RB
open PySem L2 PySem.Spec PyProof.Rows
theorem abT {xs:List Int}{i:Int} (h0:0<=i) (h1:i<((xs.map V.int).length:Int)):∃v j,atI (xs.map V.int) i=some (.int v)/\ixN (xs.map V.int).length i=some j/\j<xs.length/\∀u:Int,(xs.map V.int).set j (.int u)=(xs.set j u).map V.int:=by
 have hl:(xs.map V.int).length=xs.length:=List.length_map _
 obtain⟨j,rfl⟩:=Int.eq_ofNat_of_zero_le h0
 have hj:j<xs.length:=by omega
 refine⟨xs[j],j,fW (by rw[List.getElem?_map,List.getElem?_eq_getElem hj];rfl), ?_,hj,fun u=> ?_⟩
 ·unfold ixN
  rw[if_pos h0,if_pos (by omega)]
  simp
 ·rw[List.map_set]
end RB
namespace RB
open PySem L2 PySem.Spec PyProof.Rows
theorem But.upd {S:List Addr}{H H':Hp}{p:Addr} (b:But S H H') (o:HO) (h:H p=none):But S H (upd H' p o):=fun c u n q=>by
 rw[au (aL q h)];exact b c u n q
instance (x:Str):Decidable (n8 x):=by unfold n8 Mv;exact inferInstance
theorem Iz:(Str.ofString "abcdefghijklmnopqrstuvwxyz").cps.toList=(List.range 26).map (· +97):=by decide +kernel
theorem abU {c A B:Prop} [Decidable c] (hc:c) (h:A):if decide c=true then A else B:=by rw[if_pos (decide_eq_true hc)];exact h
theorem abV {c A B:Prop} [Decidable c] (hc:¬c) (h:B):if decide c=true then A else B:=by rw[if_neg (by simpa using hc)];exact h
theorem abW {c A B:Prop} [Decidable c] (hc:¬c) (h:A):if(!decide c)=true then A else B:=by rw[if_pos (by simpa using hc)];exact h
end RB
namespace RB
open PySem L2 PySem.Spec PyProof.Rows
theorem never {P:Program}{w:World}{K:PySem.W.Frag}{mg:Str->Option Value}{base:Heap}{k:Nat}{f:Addr}{fd:FuncData}{ps:List Str}{sp:Sp} (no:∀vs H Q E,¬sp vs H Q E):bF P w K mg base CX0 k f fd ps sp:=
 ⟨fun vs H Q E h=>absurd h (no vs H Q E),fun A outer s H args us vs Q E _ _ _ _ h=>absurd h (no vs H Q E)⟩
end RB
namespace RB
open PySem L2 PySem.Spec PyProof.Rows
end RB
namespace RB
open PySem L2 PySem.Spec PyProof.Rows
theorem shaped_ints (ns:List Int):SeqAt.shaped (.list (ns.map PyData.int))=true:=by
 simp[SeqAt.shaped,PyData.canLay0,PyData.canLayAll0,PyData.depth,PyData.depthAll,PySem.W.ke_canLayAll0,PySem.W.ke_depthAll]
end RB
namespace RB
open PySem L2 PySem.Spec PyProof.Rows
end RB
namespace RB
open PySem L2 PySem.Spec PyProof.Rows
theorem dD {H H':Hp}{p:Addr} (o:HO) (h:H p=none) (s:aN H H'):aN H (upd H' p o):=fun b u q=>by
 rw[au (aL q h)];exact s b u q
end RB
namespace RB
open PySem L2 PySem.Spec PyProof.Rows
end RB
set_option maxRecDepth 100000
namespace RB
open PySem L2 PySem.Spec PyProof.Rows
inductive Th where
 | non | bl (b:Bool) | int (i:Int) | str (x:Str) | tup (xs:List Th) | oth (T:String)
mutual
inductive m5 (K:PySem.W.Frag) (H:Hp):V->Th->Prop where
 | non:m5 K H .non .non
 | bl (b:Bool):m5 K H (.bl b) (.bl b)
 | int (i:Int):m5 K H (.int i) (.int i)
 | str (x:Str):m5 K H (.str x) (.str x)
 | tup {a:Addr}{vs:List V}{ts:List Th} (e:H a=some (.tup vs)) (h:mK K H vs ts):m5 K H (.ref a) (.tup ts)
 | oth {a:Addr}{T:String} (h:qH K H (.ref a) (.type T)) (hT:T="list"\/T="dict") (keep:∀H',aN H H'->qH K H' (.ref a) (.type T)):m5 K H (.ref a) (.oth T)
inductive mK (K:PySem.W.Frag) (H:Hp):List V->List Th->Prop where
 | nil:mK K H [] []
 | cons {v:V}{t:Th}{vs:List V}{ts:List Th} (h:m5 K H v t) (r:mK K H vs ts):mK K H (v::vs) (t::ts)
end
mutual
theorem m5.same {K:PySem.W.Frag}{H H':Hp} (s:aN H H'):∀{v:V}{t:Th},m5 K H v t->m5 K H' v t
 | _,_, .non=> .non
 | _,_, .bl b=> .bl b
 | _,_, .int i=> .int i
 | _,_, .str x=> .str x
 | _,_, .tup e h=> .tup (s _ _ e) (mK.same s h)
 | _,_, .oth h hT k=> .oth (k _ s) hT fun H2 s2=>k _ (s.trans s2)
theorem mK.same {K:PySem.W.Frag}{H H':Hp} (s:aN H H'):∀{vs:List V}{ts:List Th},mK K H vs ts->mK K H' vs ts
 | _,_, .nil=> .nil
 | _,_, .cons h r=> .cons (m5.same s h) (mK.same s r)
end
theorem mK.length {K:PySem.W.Frag}{H:Hp}:∀{vs:List V}{ts:List Th},mK K H vs ts->vs.length=ts.length
 | _,_, .nil=>rfl
 | _,_, .cons _ r=>congrArg (· +1) (mK.length r)
theorem mK.get {K:PySem.W.Frag}{H:Hp}:∀{vs:List V}{ts:List Th}{i:Nat}{v:V},mK K H vs ts->vs[i]? =some v->∃t,ts[i]? =some t/\m5 K H v t
 | _,_,_,_, .nil,e=>by simp at e
 | _,_,0,_, .cons h _,e=>by simp at e;subst e;exact⟨_,rfl,h⟩
 | _,_,i+1,v, .cons _ r,e=>by
   obtain⟨t,h1,h2⟩:=mK.get (i:=i) (v:=v) r (by simpa using e)
   exact⟨t,by simpa using h1,h2⟩
def IK:Th->String
 | .non=>"NoneType" | .bl _=>"bool" | .int _=>"int" | .str _=>"str" | .tup _=>"tuple" | .oth T=>T
theorem m5.ty {K:PySem.W.Frag}{H:Hp}{v:V}{t:Th} (h:m5 K H v t):qH K H v (.type (IK t)):=by
 cases h with
 | non=>exact .non
 | bl b=>exact .bl b
 | int i=>exact .int i
 | str x=>exact .str x
 | tup e _=>exact .tup e
 | oth h _ _=>exact h
def tys:List String:=["NoneType","bool","int","str","tuple","list","dict"]
def Qn (t c:String):Bool:=t==c||(t=="bool"&&c=="int")
def Kinds (K:PySem.W.Frag):Prop:=∀t∈tys,∀c∈tys,PySem.W.kitOne K (.type t) (.type c)=some (Qn t c)
theorem Qo {K:PySem.W.Frag} (h:(tys.all fun t=>tys.all fun c=>PySem.W.kitOne K (.type t) (.type c)==some (Qn t c))=true):Kinds K:=fun t ht c hc=>by
 have h1:=List.all_eq_true.mp h t ht
 have h2:=List.all_eq_true.mp h1 c hc
 exact eq_of_beq h2
theorem YM {K:PySem.W.Frag}{H:Hp}{v:V}{t:Th} (h:m5 K H v t):IK t∈tys:=by
 cases h with
 | oth _ hT _=>rcases hT with rfl | rfl<;>simp[IK,tys]
 | _=>simp[IK,tys]
theorem m5.isi {K:PySem.W.Frag}{H:Hp}{v:V}{t:Th} (h:m5 K H v t) (k:Kinds K) {c:String} (hc:c∈tys):PySem.W.kitOne K (.type (IK t)) (.type c)=some (Qn (IK t) c):=k _ (YM h) _ hc
def YQ:Th->Bool
 | .int _=>true
 | _=>false
def GX (K:PySem.W.Frag):Sp:=fun vs H Q _=>∃v t,vs=[v]/\m5 K H v t/\Q (.bl (YQ t)) H
theorem abX {b:Bool}{A B:Prop} (h:b=true) (hA:A):if b=true then A else B:=by rw[if_pos h];exact hA
theorem abY {b:Bool}{A B:Prop} (h:b=false) (hB:B):if b=true then A else B:=by rw[if_neg (by rw[h];exact Bool.false_ne_true)];exact hB
structure Wr (p:Prop):Prop where
 h:p
end RB
set_option maxRecDepth 100000
namespace RB
open PySem L2 PySem.Spec PyProof.Rows
def R.eE:R->Th
 | .num n=> .tup [.str "number", .int n]
 | .rd x=> .tup [.str "read", .str x]
 | .bin op a b=> .tup [.str op.word,a.eE,b.eE]
 | .pick a b c=> .tup [.str "pick",a.eE,b.eE,c.eE]
 | .cho a ns=> .tup [.str "choose",a.eE, .tup (ns.map Th.str)]
def R.IV:R->Prop
 | .num _=>True
 | .rd x=>x.length<=8/\∀c∈x.cps.toList,c<128
 | .bin _ a b=>a.IV/\b.IV
 | .pick a b c=>a.IV/\b.IV/\c.IV
 | .cho a ns=>a.IV/\1<=ns.length/\ns.length<=9/\∀x∈ns,n8 x
theorem Di {K:PySem.W.Frag}{H:Hp}:∀ns:List Str,mK K H (ns.map V.str) (ns.map Th.str)
 |[]=> .nil
 | x::r=> .cons (.str x) (Di r)
theorem IsR.Uh {K:PySem.W.Frag}{H:Hp}{a:Addr}{r:R} (h:IsR H a r):m5 K H (.ref a) r.eE:=by
 induction h with
 | num e=>exact .tup e (.cons (.str _) (.cons (.int _) .nil))
 | rd e=>exact .tup e (.cons (.str _) (.cons (.str _) .nil))
 | bin e _ _ i1 i2=>exact .tup e (.cons (.str _) (.cons i1 (.cons i2 .nil)))
 | pick e _ _ _ i1 i2 i3=>exact .tup e (.cons (.str _) (.cons i1 (.cons i2 (.cons i3 .nil))))
 | cho e _ h2 i1=>exact .tup e (.cons (.str _) (.cons i1 (.cons (.tup h2 (Di _)) .nil)))
theorem yg:∀l:List Str,PyData.depthAll (l.map PyData.str)<=1
 |[]=>by simp[PyData.depthAll]
 | c::r=>by
   have:=yg r
   simp[PyData.depthAll,PyData.depth]
   omega
end RB
set_option maxRecDepth 100000
namespace L2
open PySem PySem.Spec PyProof.Rows
theorem Fun.okQ {P:Program}{w:World}{K:PySem.W.Frag}{mg:Str->Option Value}{base:Heap}{x qual:Str}{st:Stmt}{f:Addr}{fd:FuncData}{N ps:List Str}{k:Nat}{sp:Sp} (F:Fun K x qual st f fd) (S:bU N ps (aa st)) (len:∀vs H Q E,sp vs H Q E->vs.length=ps.length)
 (hbody:∀(cdv:Value) (A:Around) (outer:List Env) (s:Shared) (H:Hp) (vs:List V) (Q:VK) (E:XK),kY k (A.deeper (envOfC qual (aa st) s.heap.objs.size f cdv))->sp vs H Q E->
   ∃t,QSs (Kg CX0 P w K mg base N qual (aa st) f cdv A outer s H E).nox (bG st) t/\t {nx:=fun _ H'=>Q .non H',rt:=Q} (start N vs) H):bF P w K mg base CX0 (k+1) f fd ps sp:=
 F.ok S len fun cdv A outer s H vs Q E hr hsp=>let ⟨t,a,b⟩:=hbody cdv A outer s H vs Q E hr hsp;⟨t,a.h,b⟩
end L2
namespace RB
open PySem L2 PySem.Spec PyProof.Rows
theorem YS (value:Const) (k:Nat) (p:Pos) (es:List Expr) (env:Env):starEach (.Constant value k p::es) env=(false,eval (.Constant value k p) env)::starEach es env:=rfl
theorem ir {X:Cx}{value:Const}{k:Nat}{p:Pos}{es:List Expr}{te:TE}{t:TA} (ha:QE X (.Constant value k p) te) (hr:QA X es t):QA X (.Constant value k p::es) (o9 te t):=jZ ha hr (YS value k p _ _)
theorem YT (x:Str) (p:Pos) (es:List Expr) (env:Env):starEach (.Name x p::es) env=(false,eval (.Name x p) env)::starEach es env:=rfl
theorem aV {X:Cx}{x:Str}{p:Pos}{es:List Expr}{te:TE}{t:TA} (ha:QE X (.Name x p) te) (hr:QA X es t):QA X (.Name x p::es) (o9 te t):=jZ ha hr (YT x p _ _)
theorem YW (a:Expr) (op:Operator) (b:Expr) (p:Pos) (es:List Expr) (env:Env):starEach (.BinOp a op b p::es) env=(false,eval (.BinOp a op b p) env)::starEach es env:=rfl
theorem zB {X:Cx}{a:Expr}{op:Operator}{b:Expr}{p:Pos}{es:List Expr}{te:TE}{t:TA} (ha:QE X (.BinOp a op b p) te) (hr:QA X es t):QA X (.BinOp a op b p::es) (o9 te t):=jZ ha hr (YW a op b p _ _)
theorem YX (op:UnaryOp) (a:Expr) (p:Pos) (es:List Expr) (env:Env):starEach (.UnaryOp op a p::es) env=(false,eval (.UnaryOp op a p) env)::starEach es env:=rfl
theorem afe {X:Cx}{op:UnaryOp}{a:Expr}{p:Pos}{es:List Expr}{te:TE}{t:TA} (ha:QE X (.UnaryOp op a p) te) (hr:QA X es t):QA X (.UnaryOp op a p::es) (o9 te t):=jZ ha hr (YX op a p _ _)
theorem YZ (a:Expr) (ops:List CmpOp) (cs:List Expr) (p:Pos) (es:List Expr) (env:Env):starEach (.Compare a ops cs p::es) env=(false,eval (.Compare a ops cs p) env)::starEach es env:=rfl
theorem afg {X:Cx}{a:Expr}{ops:List CmpOp}{cs:List Expr}{p:Pos}{es:List Expr}{te:TE}{t:TA} (ha:QE X (.Compare a ops cs p) te) (hr:QA X es t):QA X (.Compare a ops cs p::es) (o9 te t):=jZ ha hr (YZ a ops cs p _ _)
theorem Y0 (xs:List Expr) (k:Nat) (p:Pos) (es:List Expr) (env:Env):starEach (.Tuple xs k p::es) env=(false,eval (.Tuple xs k p) env)::starEach es env:=rfl
theorem IW {X:Cx}{xs:List Expr}{k:Nat}{p:Pos}{es:List Expr}{te:TE}{t:TA} (ha:QE X (.Tuple xs k p) te) (hr:QA X es t):QA X (.Tuple xs k p::es) (o9 te t):=jZ ha hr (Y0 xs k p _ _)
theorem Y4 (xs:List Expr) (p:Pos) (es:List Expr) (env:Env):starEach (.List xs p::es) env=(false,eval (.List xs p) env)::starEach es env:=rfl
theorem Ui {X:Cx}{xs:List Expr}{p:Pos}{es:List Expr}{te:TE}{t:TA} (ha:QE X (.List xs p) te) (hr:QA X es t):QA X (.List xs p::es) (o9 te t):=jZ ha hr (Y4 xs p _ _)
theorem Y5 (ks:List (Option Expr)) (xs:List Expr) (p:Pos) (es:List Expr) (env:Env):starEach (.Dict ks xs p::es) env=(false,eval (.Dict ks xs p) env)::starEach es env:=rfl
theorem afh {X:Cx}{ks:List (Option Expr)}{xs:List Expr}{p:Pos}{es:List Expr}{te:TE}{t:TA} (ha:QE X (.Dict ks xs p) te) (hr:QA X es t):QA X (.Dict ks xs p::es) (o9 te t):=jZ ha hr (Y5 ks xs p _ _)
theorem Y6 (a b:Expr) (p:Pos) (es:List Expr) (env:Env):starEach (.Subscript a b p::es) env=(false,eval (.Subscript a b p) env)::starEach es env:=rfl
theorem jC {X:Cx}{a b:Expr}{p:Pos}{es:List Expr}{te:TE}{t:TA} (ha:QE X (.Subscript a b p) te) (hr:QA X es t):QA X (.Subscript a b p::es) (o9 te t):=jZ ha hr (Y6 a b p _ _)
theorem Y7 (f:Expr) (xs:List Expr) (ks:List Keyword) (p:Pos) (es:List Expr) (env:Env):starEach (.Call f xs ks p::es) env=(false,eval (.Call f xs ks p) env)::starEach es env:=rfl
theorem wN {X:Cx}{f:Expr}{xs:List Expr}{ks:List Keyword}{p:Pos}{es:List Expr}{te:TE}{t:TA} (ha:QE X (.Call f xs ks p) te) (hr:QA X es t):QA X (.Call f xs ks p::es) (o9 te t):=jZ ha hr (Y7 f xs ks p _ _)
theorem Y8 (a b c:Expr) (p:Pos) (es:List Expr) (env:Env):starEach (.IfExp a b c p::es) env=(false,eval (.IfExp a b c p) env)::starEach es env:=rfl
theorem afi {X:Cx}{a b c:Expr}{p:Pos}{es:List Expr}{te:TE}{t:TA} (ha:QE X (.IfExp a b c p) te) (hr:QA X es t):QA X (.IfExp a b c p::es) (o9 te t):=jZ ha hr (Y8 a b c p _ _)
theorem Y9 (e:Expr) (gs:List Comprehension) (sc:Scope) (p:Pos) (es:List Expr) (env:Env):starEach (.ListComp e gs sc p::es) env=(false,eval (.ListComp e gs sc p) env)::starEach es env:=rfl
theorem abZ {X:Cx}{e:Expr}{gs:List Comprehension}{sc:Scope}{p:Pos}{es:List Expr}{te:TE}{t:TA} (ha:QE X (.ListComp e gs sc p) te) (hr:QA X es t):QA X (.ListComp e gs sc p::es) (o9 te t):=jZ ha hr (Y9 e gs sc p _ _)
theorem Za (e:Expr) (x:Str) (p:Pos) (es:List Expr) (env:Env):starEach (.Attribute e x p::es) env=(false,eval (.Attribute e x p) env)::starEach es env:=rfl
theorem GZ {X:Cx}{e:Expr}{x:Str}{p:Pos}{es:List Expr}{te:TE}{t:TA} (ha:QE X (.Attribute e x p) te) (hr:QA X es t):QA X (.Attribute e x p::es) (o9 te t):=jZ ha hr (Za e x p _ _)
end RB
set_option maxRecDepth 100000
namespace L2
open PySem PySem.Spec PyProof.Rows
section
variable {X:Cx}{pins:List (Addr×Obj)}{σ:L2.St}{H:Hp}{s:Shared}
end
section
variable {X:Cx}{o e value:Expr}{es:List Expr}{f m:Str}{pos pos' apos:Pos}{ta tv:TE}{t:TA}{C fa:Addr}{CX:CXT}{k:Nat}{fd:FuncData}{ps:List Str}{sp:Sp}{dvs:List V}{ds:List Value}{E:XK}
theorem bI (he:QE X e ta) (hb:attributeBase e f X.env (eval e X.env)=eval e X.env:=by rfl):QE X (.Attribute e f pos) (Yd X.K ta f):=⟨Ye he.h hb⟩
theorem kO (ha:QE X o ta) (hv:QE X value tv) (hs:swapsWith value (some (.Attribute o f pos')) pos.line X.env=pure false:=by rfl):QS X (.Assign [.Attribute o f pos'] value pos) (abB X.K ta tv f):=⟨Yg ha.h hv.h hs⟩
theorem oH {pl:Sem Bool} (he:QE X o ta) (c:Cls X.K C) (hm:Meth X.K C m fa) (F:bF X.prog X.w X.K X.mg X.base CX k fa fd ps sp) (hr:kY k X.A) (hb:Binds X.K fd ps ds) (hd:Vals dvs ds) (hx:Passes CX X E) (ha:QA X (e::es) t)
 (hst:starEach (e::es) X.env=(false,eval e X.env)::starEach es X.env:=by rfl) (hpl:(backTo pos (starEach es X.env)).any (·.1)=false:=by rfl)
 (ht:eval (.Call (.Attribute o m apos) (e::es) [] pos) X.env=(do
   let ov <-eval o X.env
   standAt apos.atName
   let (f,first) <-holding [ov] (getMethod ov m pl)
   callWith pos f first (backTo pos (starEach (e::es) X.env)) (backToKw pos (keywordEach [] X.env))):=by rfl):
 QE X (.Call (.Attribute o m apos) (e::es) [] pos) (LR C m sp dvs E ta t):=⟨SX he.h c hm F hr hb hd hx ha.h hst hpl ht⟩
theorem vf {pl:Sem Bool} (he:QE X o ta) (c:Cls X.K C) (hm:Meth X.K C m fa) (F:bF X.prog X.w X.K X.mg X.base CX k fa fd ps sp) (hr:kY k X.A) (hb:Binds X.K fd ps ds) (hd:Vals dvs ds) (hx:Passes CX X E)
 (ht:eval (.Call (.Attribute o m apos) [] [] pos) X.env=(do
   let ov <-eval o X.env
   standAt apos.atName
   let (f,first) <-holding [ov] (getMethod ov m pl)
   callWith pos f first (backTo pos (starEach [] X.env)) (backToKw pos (keywordEach [] X.env))):=by rfl):
 QE X (.Call (.Attribute o m apos) [] [] pos) (LR C m sp dvs E ta SM):=⟨Pj he.h c hm F hr hb hd hx ht⟩
theorem Ja {st:Stmt}:QS X st O4:=⟨O5⟩
theorem zE {x:Str}{p:Pos} (M:Mk X.K C fa) (F:bF X.prog X.w X.K X.mg X.base CX k fa fd ps sp) (hr:kY (k+1) X.A) (hg:Gl X x) (hm:X.mg x=some (.ref C)) (hb:Binds X.K fd ps ds) (hd:Vals dvs ds) (hx:Passes CX X E)
 (ha:QA X (e::es) t) (hdb:(x==("__debug__":Str))=false:=by decide) (he:starEach (e::es) X.env=(false,eval e X.env)::starEach es X.env:=by rfl) (hpl:(backTo pos (starEach es X.env)).any (·.1)=false:=by rfl):
 QE X (.Call (.Name x p) (e::es) [] pos) (Wj C sp dvs E t):=⟨Tc M F hr hg hm hb hd hx ha.h hdb he hpl⟩
end
end L2
set_option maxRecDepth 100000
namespace L2
open PySem PySem.Spec PyProof.Rows
section
variable {X:Cx}{pins:List (Addr×Obj)}{σ:St}{H H':Hp}{s s':Shared}{a:Addr}{cls:Value}
end
section
variable {P:Program}{w:World}{K:PySem.W.Frag}{mg:Str->Option Value}{base:Heap}{N:List Str}{qual:Str}{scope:Scope}{f:Addr}{cd:Value}{A:Around}{outer:List Env}{s₀:Shared}{H₀:Hp}{E:XK}
end
end L2
set_option maxRecDepth 100000
namespace L2
open PySem PySem.Spec PyProof.Rows
section
variable {X:Cx}{pins:List (Addr×Obj)}{σ:St}{H H':Hp}{s s':Shared}{a:Addr}{cls:Value}
theorem Inv.track {o:HO} (I:Inv X pins σ H s) (hn:H a=none) (h0:X.s₀.heap.get? a=none) (hL:a≠X.env.locals) (hC:∀x c,X.env.cells.lookup x=some c->c≠a) (hp:∀p∈X.pn++pins,p.1≠a)
 (new:eG X.prog X.w (upd H a o) s.heap a o):Inv X pins σ (upd H a o) s:=by
 refine⟨I.ok,I.os,I.bare,⟨fun b u q n hb hx=>I.base.keep b u q n hb hx,fun b u q n hb hx=>I.base.slot b u q n hb hx,fun b u q n hx=> ?_,I.base.there,fun b xs q=> ?_,fun b u v q=> ?_,fun b ps q=> ?_⟩,I.loc,I.cell, ?_,fun x c e=> ?_,fun p q=> ?_,fun b u q=> ?_,I.len⟩
 ·rw[au (fun z=>by rw[z,h0] at q;cases q)];exact I.base.free b u q n hx
 ·have e:=I.base.tups b xs q
  rw[au (aL e hn)];exact e
 ·have e:=I.base.frzs b u v q
  rw[au (aL e hn)];exact e
 ·obtain⟨m,e⟩:=I.base.tbls b ps q
  exact⟨m,by rw[au (aL e hn)];exact e⟩
 ·rw[au (Ne.symm hL)];exact I.free
 ·rw[au (hC x c e)];exact I.rE x c e
 ·obtain⟨e,n,r⟩:=I.pin p q
  exact⟨e,by rw[au (hp p q)];exact n,r⟩
 ·by_cases hb:b=a
  ·subst hb;rw[aq] at q;cases q;exact new
  ·rw[au hb] at q
   exact(I.hok b u q).stay (fun c v _ r=>r) (fun c r=>by rw[au (aL r hn)];exact r) fun c xs r=>by rw[au (aL r hn)];exact r
end
section
variable {X:Cx}{x n:Str}{i:Nat}{C:Addr}{np hpos pos:Pos}{body suite:List Stmt}{b₀:Stmt}{tb:(St->XK)->TS}{th:TS}
end
end L2
set_option maxRecDepth 100000
namespace L2
open PySem PySem.Spec PyProof.Rows PySem.W
section
variable {prog:Program}{w:World}{A:Around}{E:Value->Shared->Prop}{h:Heap}{g:Array GenState}{d:Drawn}{t:Nat}{os:OsState}{K:PySem.W.Frag}{a C:Addr}{o:Obj}
end
end L2
set_option maxRecDepth 100000
namespace L2
open PySem PySem.Spec PyProof.Rows
section
variable {X:Cx}{pins:List (Addr×Obj)}{σ:St}{H H':Hp}{s s':Shared}
end
section
variable {P:Program}{w:World}{K:PySem.W.Frag}{mg:Str->Option Value}{base:Heap}{N:List Str}{qual:Str}{scope:Scope}{f:Addr}{cd:Value}{A:Around}{outer:List Env}{s₀:Shared}{H₀:Hp}{E:XK}
end
section
variable {X:Cx}{CX:CXT}{k:Nat}{f:Addr}{fd:FuncData}{ps:List Str}{sp:Sp}{dvs:List V}{ds:List Value}{E:St->XK}{x:Str}{p pos:Pos}{e:Expr}{es:List Expr}{t:TA}
end
end L2
namespace RB
open PySem L2 PySem.Spec PyProof.Rows
end RB
set_option maxRecDepth 100000
namespace L2
open PySem PySem.Spec PyProof.Rows
section
variable {X:Cx}{x:Str}{C:Addr}{np hpos pos:Pos}{body suite:List Stmt}{b₀:Stmt}{tb:(St->XK)->TS}{th:TS}
end
end L2
set_option maxRecDepth 100000
namespace L2
open PySem PySem.Spec PyProof.Rows
section
variable {X:Cx}{pins:List (Addr×Obj)}{σ:List (Option V)}{H:Hp}{s:Shared}{h':Heap}
theorem Inv.Cp {t':Nat}{ch:List Addr} (I:Inv X pins σ H s) (hf:∀b∈ch,Af X pins H b) (k:∀b o,b∉ch->s.heap.get? b=some o->h'.get? b=some o):Inv X pins σ H {s with heap:=h',toks:=t'}:=by
 have nit:∀b u,H b=some u->b∉ch:=fun b u e z=>by rw[(hf b z).1] at e;cases e
 refine I.step (g':=s.gens) (d':=s.drawn) (ch:=ch) (fun b hb=> ?_) (fun b o _ _ hc e _=>k b o hc e) (fun b o _ _ hc e _=>⟨o.slots,k b o hc e⟩) (fun _ _ _ _ n=>n)
  (fun b o hc e=>⟨o,k b o hc e⟩) (fun _ _ e=>e) (fun _ _ _ e=>e) (fun b ps e=>⟨#[],by rw[e];simp⟩) (fun m hm=> ?_) (fun b u e=> ?_) I.bare
 ·obtain⟨_,f1,_,f3,f4,f5⟩:=hf b hb
  exact⟨f3,f1,f4,f5⟩
 ·obtain⟨o,es,ep,ho,r⟩:=hm
  exact⟨o,es,ep,k _ o (fun z=>(hf _ z).2.1 rfl) ho,r⟩
 ·refine(I.hok b u e).stay (fun c v hc q=>k c v ?_ q) (fun _ q=>q) fun _ _ q=>q
  rcases hc with z | z
  ·rw[z];exact nit b u e
  ·exact nit c _ z
end
end L2
set_option maxRecDepth 100000
namespace RB
open PySem L2 PySem.Spec PyProof.Rows
section
variable {prog:Program}{w:World}{A:Around}{R:Result->Shared->Prop}{I:Addr}{fp wr:List Addr}{G:Array GenState->Array GenState->Prop}{n:Nat}{P:Nat->Value->Prop}{St:Nat->Shared->Prop}
end
end RB
set_option maxRecDepth 100000
namespace RB
open PySem L2 PySem.Spec PyProof.Rows
section
variable {prog:Program}{w:World}{A:Around}{E:Value->Shared->Prop}{s:Shared}
end
end RB
set_option maxRecDepth 100000
namespace L2
open PySem PySem.Spec PyProof.Rows RB
section
variable {X:Cx}
end
end L2
set_option maxRecDepth 100000
namespace RB
open PySem L2 PySem.Spec PyProof.Rows
structure fU (K:PySem.W.Frag) (C:Addr) (x qual:Str) (st:Stmt) (ps:List Str) (f:Addr) (fd:FuncData):Prop where
 F:Fun K x qual st f fd
 b:Binds K fd ps []
 m:Meth K C x f
end RB
set_option maxRecDepth 100000
namespace RB
open PySem L2 PySem.Spec PyProof.Rows
theorem ab0 (x:Str):x.cps.toList.length=x.length:=by simp[Str.length]
end RB
set_option maxRecDepth 100000
namespace RB
open PySem L2 PySem.Spec PyProof.Rows
end RB
set_option maxRecDepth 100000
namespace RB
open PySem L2 PySem.Spec PyProof.Rows
end RB
set_option maxRecDepth 100000
namespace RB
open PySem L2 PySem.Spec PyProof.Rows
def Qp (K:PySem.W.Frag):R2:=fun x y H Q=>∃a b xs,x= .ref a/\y= .ref b/\SqL K H a xs/\SqL K H b []/\Q (.bl xs.isEmpty) H
theorem Qq {X:Cx} (hu:X.A.units+64<cLine):OpR X (compareOp .Eq) (Qp X.K):=by
 intro pins s σ H x y v u Q I rx ry h
 obtain⟨a,b,xs,rfl,rfl,ha,hb,q⟩:=h
 cases xs with
 | nil=>exact Qf hu pins s σ H _ _ v u Q I rx ry ⟨.list [], .list [], .lst ha .nil, .lst hb .nil,shaped_ints [],shaped_ints [],q⟩
 | cons x r=>
   cases rx
   cases ry
   obtain⟨its,rv,pl,_⟩:=I.list ha
   obtain⟨its',rv',pl',_⟩:=I.list hb
   cases rv
   cases rv'
   exact PySem.SeqAt.eq_list_lengthsAt pl.isList pl'.isList rfl (by omega) ⟨.bl false,H,I,rfl,q⟩
theorem An {X:Cx} (hu:X.A.units+64<cLine):QOp X (compareOp .Eq) (Qp X.K):=⟨Qq hu⟩
theorem lX {X:Cx}{pos:Pos}:QE X (.Dict [] [] pos) PB:=⟨PJ⟩
end RB
set_option maxRecDepth 100000
namespace RB
open PySem L2 PySem.Spec PyProof.Rows
end RB
set_option maxRecDepth 100000
namespace RB
open PySem L2 PySem.Spec PyProof.Rows
end RB
set_option maxRecDepth 100000
namespace RB
open PySem L2 PySem.Spec PyProof.Rows
def R.dat:R->PyData
 | .num n=> .tuple [.str "number", .int n]
 | .rd x=> .tuple [.str "read", .str x]
 | .bin op a b=> .tuple [.str op.word,a.dat,b.dat]
 | .pick a b c=> .tuple [.str "pick",a.dat,b.dat,c.dat]
 | .cho a ns=> .tuple [.str "choose",a.dat, .tuple (ns.map PyData.str)]
theorem IsR.dat {K:PySem.W.Frag}{H:Hp}{a:Addr}{r:R} (h:IsR H a r):qJ K H (.ref a) r.dat:=by
 induction h with
 | num e=>exact .tup (SqT.of e) (.cons (.str _) (.cons (.int _) .nil))
 | rd e=>exact .tup (SqT.of e) (.cons (.str _) (.cons (.str _) .nil))
 | bin e _ _ i1 i2=>exact .tup (SqT.of e) (.cons (.str _) (.cons i1 (.cons i2 .nil)))
 | pick e _ _ _ i1 i2 i3=>exact .tup (SqT.of e) (.cons (.str _) (.cons i1 (.cons i2 (.cons i3 .nil))))
 | cho e _ h2 i1=>exact .tup (SqT.of e) (.cons (.str _) (.cons i1 (.cons (.tup (SqT.of h2) (tK _)) .nil)))
theorem Oc {x:Str} (h:∀c∈x.cps.toList,c<128):PyData.strOk x=true:=by
 show x.cps.all (· <0x110000)=true
 rw[<-Array.all_toList,List.all_eq_true]
 intro c hc
 exact decide_eq_true (by have:=h c hc;omega)
theorem yh {x:Str} (h:n8 x):PyData.strOk x=true:=Oc fun c hc=>by have:=h.2.2 c hc;unfold Mv at this;omega
theorem Ky (op:Op):PyData.strOk op.word=true:=by cases op<;>decide +kernel
theorem Ao:∀ns:List Str,(∀x∈ns,n8 x)->PyData.canLayAll0 (ns.map PyData.str)=true
 |[],_=>rfl
 | x::r,h=>by
   show(PyData.canLay0 (.str x)&&PyData.canLayAll0 (r.map PyData.str))=true
   rw[Ao r fun y hy=>h y (List.mem_cons_of_mem _ hy)]
   show(PyData.strOk x&&true)=true
   rw[yh (h x List.mem_cons_self)];rfl
theorem R.lay:∀r:R,r.Good->r.dat.canLay0=true
 | .num n,_=>by show(PyData.strOk "number"&&(true&&true))=true;decide +kernel
 | .rd x,h=>by
   show(PyData.strOk "read"&&(PyData.strOk x&&true))=true
   rw[yh h];decide +kernel
 | .bin op a b,h=>by
   show(PyData.strOk op.word&&(a.dat.canLay0&&(b.dat.canLay0&&true)))=true
   rw[Ky,R.lay a h.1,R.lay b h.2];rfl
 | .pick a b c,h=>by
   show(PyData.strOk "pick"&&(a.dat.canLay0&&(b.dat.canLay0&&(c.dat.canLay0&&true))))=true
   rw[R.lay a h.1,R.lay b h.2.1,R.lay c h.2.2];decide +kernel
 | .cho a ns,h=>by
   show(PyData.strOk "choose"&&(a.dat.canLay0&&(PyData.canLayAll0 (ns.map PyData.str)&&true)))=true
   rw[R.lay a h.1,Ao ns h.2.2.2];decide +kernel
theorem R.j7:∀r:R,r.dat.depth<=r.depth+2
 | .num n=>by simp[R.dat,R.depth,PyData.depth,PyData.depthAll]
 | .rd x=>by simp[R.dat,R.depth,PyData.depth,PyData.depthAll]
 | .bin op a b=>by
   have:=R.j7 a
   have:=R.j7 b
   simp only[R.dat,R.depth,PyData.depth,PyData.depthAll];omega
 | .pick a b c=>by
   have:=R.j7 a
   have:=R.j7 b
   have:=R.j7 c
   simp only[R.dat,R.depth,PyData.depth,PyData.depthAll];omega
 | .cho a ns=>by
   have:=R.j7 a
   have:=yg ns
   have:=a.Am
   simp only[R.dat,R.depth,PyData.depth,PyData.depthAll];omega
def ab1 (K:PySem.W.Frag) (neg:Bool):R2:=fun x y H Q=>∃d,qJ K H x d/\qJ K H y d/\SeqAt.shaped d=true/\Q (.bl (!neg)) H
theorem Dj {d:PyData} (h:SeqAt.shaped d=true):d.canLay0=true:=by
 have h':(d.canLay0&&decide (d.depth<=64))=true:=h
 rw[Bool.and_eq_true] at h'
 exact h'.1
theorem Kz {X:Cx} (hu:X.A.units+64<cLine):QOp X (compareOp .NotEq) (ab1 X.K true):=⟨fun pins s σ H x y v u Q I rx ry h=>by
 obtain⟨d,h1,h2,h3,q⟩:=h
 have e:=PySem.SeqAt.eqv_refl d (Dj h3)
 exact Kr hu pins s σ H x y v u Q I rx ry ⟨d,d,h1,h2,h3,h3,by rw[e];exact q⟩⟩
end RB
set_option maxRecDepth 100000
namespace RB
open PySem L2 PySem.Spec PyProof.Rows
end RB
set_option maxRecDepth 100000
namespace RB
open PySem L2 PySem.Spec PyProof.Rows
end RB
set_option maxRecDepth 100000
namespace RB
open PySem L2 PySem.Spec PyProof.Rows
end RB
set_option maxRecDepth 100000
namespace RB
open PySem L2 PySem.Spec PyProof.Rows
end RB
set_option maxRecDepth 100000
namespace RB
open PySem L2 PySem.Spec PyProof.Rows PySem.NumText
end RB
set_option maxRecDepth 100000
namespace RB
open PySem L2 PySem.Spec PyProof.Rows PySem.NumText
end RB
set_option maxRecDepth 100000
namespace L2
open PySem PySem.Spec PyProof.Rows
section
variable {prog:Program}{w:World}{A:Around}{E:Value->Shared->Prop}
end
section
variable {X:Cx}{pos:Pos}
theorem Uj (hc:X.calm=true):pB X (.builtin "max") (fun xs H Q=>∃i j,xs=[.int i, .int j]/\Q (.int (if j>i then j else i)) H):=⟨Nr hc⟩
end
end L2
namespace RB
open PySem L2 PySem.Spec PyProof.Rows
end RB
set_option maxRecDepth 100000
namespace L2
open PySem PySem.Spec PyProof.Rows
end L2
namespace RB
open PySem L2 PySem.Spec PyProof.Rows
end RB
set_option maxRecDepth 100000
namespace RB
open PySem L2 PySem.Spec PyProof.Rows
theorem Uk {α:Type}{l m:List α}{y:α} (h:l=m++[y]):atI l (-1)=some y:=by
 subst h
 unfold atI ixN
 have hl:(m++[y]).length=m.length+1:=by simp
 rw[hl,if_neg (by omega),if_pos (by omega)]
 show(m++[y])[((m.length+1:Nat)+(-1:Int)).toNat]? =some y
 rw[show(((m.length+1:Nat):Int)+(-1)).toNat=m.length by omega]
 simp
end RB
set_option maxRecDepth 100000
namespace RB
open PySem L2 PySem.Spec PyProof.Rows
end RB
set_option maxRecDepth 100000
namespace RB
open PySem L2 PySem.Spec PyProof.Rows
abbrev Rdp:=Str×Int
def rdV (p:Rdp):List V:=[.str p.1, .int p.2]
inductive jG (H:Hp):List Addr->List Rdp->Prop where
 | nil:jG H [] []
 | cons {a:Addr}{p:Rdp}{as:List Addr}{ps:List Rdp} (h:H a=some (.tup (rdV p))) (t:jG H as ps):jG H (a::as) (p::ps)
theorem jG.tups {H H':Hp} (t:lq H H') {as:List Addr}{ps:List Rdp} (h:jG H as ps):jG H' as ps:=by
 induction h with
 | nil=>exact .nil
 | cons h _ ih=>exact .cons (t _ _ h) ih
theorem jG.same {H H':Hp} (s:aN H H') {as:List Addr}{ps:List Rdp} (h:jG H as ps):jG H' as ps:=h.tups (aN.tups s)
theorem jG.length {H:Hp}{as:List Addr}{ps:List Rdp} (h:jG H as ps):as.length=ps.length:=by
 induction h with
 | nil=>rfl
 | cons _ _ ih=>simp[ih]
theorem jG.get {H:Hp}{as:List Addr}{ps:List Rdp} (h:jG H as ps):∀(i:Nat) (a:Addr),as[i]? =some a->∃p,ps[i]? =some p/\H a=some (.tup (rdV p)):=by
 induction h with
 | nil=>intro i a e;simp at e
 | @cons b p as ps h t ih=>
   intro i a e
   cases i with
   | zero=>have:b=a:=by simpa using e
           subst this;exact⟨_,rfl,h⟩
   | succ i=>exact ih i a (by simpa using e)
theorem KC {as:List Addr}{i:Nat}{x:V} (h:(as.map V.ref)[i]? =some x):∃a,as[i]? =some a/\x= .ref a:=by
 rw[List.getElem?_map] at h
 cases e:as[i]? with
 | none=>rw[e] at h;cases h
 | some a=>rw[e] at h;cases h;exact⟨a,rfl,rfl⟩
end RB
namespace RB
open PySem L2 PySem.Spec PyProof.Rows
theorem Zb {xs:List V} (h:1<=xs.length):atI xs (-1)=xs[xs.length - 1]? :=by
 have e:ixN xs.length (-1)=some (xs.length - 1):=by
  unfold ixN
  rw[if_neg (by decide),if_pos (by omega)]
  congr 1
  omega
 unfold atI
 rw[e];rfl
end RB
set_option maxRecDepth 100000
namespace L2
open PySem PySem.Spec PyProof.Rows
def Dk (t:Str) (k:Nat):Str:=⟨((List.replicate k t.cps.toList).flatten).toArray⟩
theorem Wv (t:Array Nat):∀(k:Nat) (acc:Array Nat),((List.replicate k t).foldl (· ++ ·) acc).toList=acc.toList++(List.replicate k t.toList).flatten
 | 0,acc=>by simp
 | k+1,acc=>by
   rw[List.replicate_succ,List.foldl_cons,Wv t k,Array.toList_append,List.replicate_succ,List.flatten_cons,List.append_assoc]
theorem Ul {t:Str}{n:Int} (h:1<=n):Txt.mul t n=Dk t n.toNat:=by
 unfold Txt.mul
 rw[if_neg (by omega)]
 split
 ·rename_i hc
  unfold Dk
  rcases Bool.or_eq_true_iff.mp hc with z | z
  ·have:n=1:=by simpa using z
   subst this
   cases t;simp
  ·have z':t.length=0:=by simpa using z
   have e:t.cps.toList=[]:=by
    have:=z'
    unfold Str.length at this
    simpa using this
   rw[e]
   cases t with
   | mk c=>
     have e':c= #[]:=by simpa using e
     subst e'
     simp
 ·unfold Dk
  have e:=Wv t.cps n.toNat #[]
  generalize (List.replicate n.toNat t.cps).foldl (· ++ ·) #[]=A at e
  have:A=((List.replicate n.toNat t.cps.toList).flatten).toArray:=by
   have e2:=congrArg List.toArray e
   simpa using e2
  rw[this]
end L2
namespace RB
open PySem L2 PySem.Spec PyProof.Rows
theorem Qs (t:Str) (k:Nat):(Dk t k).cps.toList=(List.replicate k t.cps.toList).flatten:=by unfold Dk;simp
theorem Um (t:Str) (k:Nat):(Dk t k).length=k * t.length:=by
 rw[<-ab0,Qs,len_rep,ab0]
end RB
set_option maxRecDepth 100000
namespace L2
open PySem PySem.Spec PyProof.Rows
theorem Qt {t:Str}{n:Int} (h:0<=n):Txt.mul t n=Dk t n.toNat:=by
 by_cases h1:1<=n
 ·exact Ul h1
 ·have e:n=0:=by omega
  subst e
  unfold Txt.mul
  rw[if_pos (by omega)]
  rfl
def Ww:R2:=fun x y H Q=>∃t n,x= .str t/\y= .int n/\0<=n/\n<=1000/\t.length<=1000/\Q (.str (Dk t n.toNat)) H
theorem Uo {X:Cx}:OpR X (binaryOp .Mult) Ww:=by
 intro pins s σ H x y v u Q I rx ry h
 obtain⟨t,n,rfl,rfl,h1,h2,h3,q⟩:=h
 obtain⟨k,rfl⟩:=rx
 obtain⟨k',rfl⟩:=ry
 have e63:(2:Int)^ 63=9223372036854775808:=by decide
 refine SB.mul ⟨?_,fun hn _=> ?_,fun hn _=> ?_⟩ fun t' kk=>⟨.str _,H,I.tok kk,⟨t',rfl⟩,by rw[Qt h1];exact q⟩
 ·rw[e63]
  simp
  omega
 ·intro hgt
  have hle:(1000:Int)<=((2:Int)^ 63 - 1)/ n:=by
   rw[e63]
   exact Int.le_ediv_of_mul_le (by omega) (by omega)
  omega
 ·have:t.length * n.toNat<=1000 * 1000:=Nat.mul_le_mul h3 (by omega)
  exact decide_eq_false (by rw[sizeLine_eq];omega)
theorem Mx {X:Cx}{es:List Expr}{pos:Pos}{K:PySem.W.Frag}{k n:Nat}{t:TGs} (eK:X.K=K) (hc:X.calm=true) (h:QGs X es t) (hn:(assignEach es X.env).length=n:=by rfl) (hst:(assignEach es X.env).findIdx? (·.1)=none:=by rfl):QG X (.Tuple es k pos) (XH K n t):=eK▸GK hc h hn hst
theorem Qu {X:Cx}:QOp X (binaryOp .Mult) Ww:=⟨Uo⟩
end L2
namespace RB
open PySem L2 PySem.Spec PyProof.Rows
theorem SqL.same {K:PySem.W.Frag}{H H':Hp}{a:Addr}{xs:List V} (s:aN H H') (h:SqL K H a xs):SqL K H' a xs:=by
 rcases h with(e | ⟨o,e⟩) | h
 ·exact .inl (.inl (s _ _ e))
 ·exact .inl (.inr ⟨o,s _ _ e⟩)
 ·exact .inr h
theorem gn {S:List Addr}{H0 H H':Hp} (s:aN H0 H) (hS:∀p∈S,H0 p=none) (b:But S H H'):aN H0 H':=fun a o e=>b a o (fun z=>by rw[hS a z] at e;cases e) (s a o e)
def Qv (K:PySem.W.Frag):Sp:=fun vs H Q _=>∃(a:Addr) (ns:List Int) (k:Int),vs=[.ref a, .int k]/\SqL K H a (ns.map V.int)/\0<=k/\∀n,Q (.int n) H
def pC (rest:Int) (mixed:Bool) (count:Int):List (Key×V):=[(.inr "rest", .int rest),(.inr "mixed", .bl mixed),(.inr "count", .int count)]
def fH (H:Hp) (p:Addr) (c:Nat):Prop:=∃(rest:Int) (mixed:Bool) (count:Int),H p=some (.dK (pC rest mixed count))/\0<=count/\count<=(c:Int)
theorem fH.keep {S:List Addr}{H H':Hp}{p:Addr}{c:Nat} (h:fH H p c) (b:But S H H') (hp:p∉S):fH H' p c:=by
 obtain⟨r,m,k,e,h⟩:=h
 exact⟨r,m,k,b _ _ hp e,h⟩
theorem fH.same {H H':Hp}{p:Addr}{c:Nat} (h:fH H p c) (b:aN H H'):fH H' p c:=h.keep (S:=[]) (But.of_same b) (by simp)
theorem fH.tups {H H':Hp}{p:Addr}{c:Nat} (h:fH H p c) (b:But [p] H H'):lq H H':=fun q xs e=>b q _ (fun z=>by
 obtain⟨r,m,k,e',_⟩:=h
 have:q=p:=by simpa using z
 rw[this,e'] at e;cases e) e
def KD (K:PySem.W.Frag):Sp:=fun vs H Q _=>∃(a:Addr) (ns:List Int) (k:Int),vs=[.ref a, .int k]/\SqL K H a (ns.map V.int)/\0<=k/\k<=100/\∀p H',aN H H'->H p=none->fH H' p 503->Q (.ref p) H'
def yj:Sp:=fun vs H Q _=>∃(p:Addr) (c:Nat) (many:Int),vs=[.ref p, .int many]/\fH H p c/\c<=100000/\0<many/\many.natAbs.log2<9000/\∀n H',0<=n->n<many->But [p] H H'->fH H' p (c+1)->Q (.int n) H'
def ltr (i:Nat):Str:=⟨#[i+97]⟩
def aD (k:Nat):Str:=ltr (k % 26)++Dk (ltr (k * 7 % 26)) (k * 5 % 8)
def Jb:Sp:=fun vs H Q _=>∃k:Nat,vs=[.int (k:Int)]/\k<=1000/\Q (.str (aD k)) H
theorem Qw {n:Int}{i:Nat} (h:n=(i:Int)) (hi:i<26):atI (Str.ofString "abcdefghijklmnopqrstuvwxyz").cps.toList n=some (i+97):=by
 subst h
 exact fW (by rw[Iz,List.getElem?_map,List.getElem?_range hi];rfl)
def names26:List Str:=(List.range 26).map aD
theorem G3:∀x∈names26++[("qz":Str),"xz","jz"],n8 x:=by decide +kernel
theorem Ga {H:Hp}{p:Addr}{a c:Int}{b:Bool} (e:H p=some (.dK (pC a b c))):bN H p (.str "rest") (some (.int a)):=bN.k (k:= .inr "rest") e
theorem KH {H:Hp}{p:Addr}{a c:Int}{b:Bool} (e:H p=some (.dK (pC a b c))):bN H p (.str "mixed") (some (.bl b)):=bN.k (k:= .inr "mixed") e
theorem Dl {H:Hp}{p:Addr}{a c:Int}{b:Bool} (e:H p=some (.dK (pC a b c))):bN H p (.str "count") (some (.int c)):=bN.k (k:= .inr "count") e
theorem xR {H:Hp}{p:Addr}{a c:Int}{b:Bool} (e:H p=some (.dK (pC a b c))) (x:Int):lQ H p (.str "rest") (.int x) (upd H p (.dK (pC x b c))):=lQ.k (k:= .inr "rest") e (cB (by show 3<=1000;decide))
theorem Dm {H:Hp}{p:Addr}{a c:Int}{b:Bool} (e:H p=some (.dK (pC a b c))) (x:Int):lQ H p (.str "count") (.int x) (upd H p (.dK (pC a b x))):=lQ.k (k:= .inr "count") e (cB (by show 3<=1000;decide))
end RB
set_option maxRecDepth 100000
namespace RB
open PySem L2 PySem.Spec PyProof.Rows
abbrev Kn:=Str->Option Int
def Kn.put (kn:Kn) (x:Str) (v:Int):Kn:=fun y=>if y=x then some v else kn y
def Kn.puts:Kn->List Rdp->Kn
 | kn,[]=>kn
 | kn,p::ps=>(kn.put p.1 p.2).puts ps
def Kn.Le (kn kn':Kn):Prop:=∀x v,kn x=some v->kn' x=some v
theorem Kn.Le.refl (kn:Kn):Kn.Le kn kn:=fun _ _ h=>h
theorem Kn.Le.trans {a b c:Kn} (h:Kn.Le a b) (g:Kn.Le b c):Kn.Le a c:=fun x v z=>g x v (h x v z)
theorem Kn.pF {kn:Kn}{x:Str}{v:Int} (h:kn x=none):Kn.Le kn (kn.put x v):=fun y u z=>by
 unfold Kn.put
 rw[if_neg (fun e=>by rw[e,h] at z;cases z)];exact z
def Op.ap:Op->Int->Int->Int
 | .plus,u,v=>u+v
 | .minus,u,v=>u - v
 | .times,u,v=>u * v
 | .most,u,v=>if v>u then v else u
def vg (ns:List Str) (u:Int):Option Str:=ns[(u % (ns.length:Int)).toNat]?
def look (kn:Kn) (x:Str):Str ⊕ Int:=match kn x with
 | some v=> .inr v
 | none=> .inl x
def ev (kn:Kn):R->Str ⊕ Int
 | .num n=> .inr n
 | .rd x=>look kn x
 | .bin op a b=>match ev kn a with
   | .inl x=> .inl x
   | .inr u=>match ev kn b with
     | .inl x=> .inl x
     | .inr v=> .inr (op.ap u v)
 | .pick a b c=>match ev kn a with
   | .inl x=> .inl x
   | .inr u=>if u>0 then ev kn b else ev kn c
 | .cho a ns=>match ev kn a with
   | .inl x=> .inl x
   | .inr u=>match vg ns u with
     | none=> .inr 0
     | some x=>look kn x
theorem Mz {kn kn':Kn} (h:Kn.Le kn kn') {x:Str}{v:Int} (e:look kn x= .inr v):look kn' x= .inr v:=by
 unfold look at e ⊢
 cases z:kn x with
 | none=>rw[z] at e;cases e
 | some u=>rw[z] at e;rw[h x u z];exact e
theorem wH {kn:Kn}{x y:Str} (e:look kn x= .inl y):y=x/\kn x=none:=by
 unfold look at e
 cases z:kn x with
 | none=>rw[z] at e;cases e;exact⟨rfl,rfl⟩
 | some u=>rw[z] at e;cases e
theorem oJ {kn:Kn}:∀{r:R}{x:Str},ev kn r= .inl x->kn x=none
 | .num n,x,h=>by cases h
 | .rd y,x,h=>by obtain⟨rfl,h⟩:=wH h;exact h
 | .bin op a b,x,h=>by
   simp only[ev] at h
   cases ea:ev kn a with
   | inl y=>rw[ea] at h;cases h;exact oJ ea
   | inr u=>
     rw[ea] at h
     cases eb:ev kn b with
     | inl y=>rw[eb] at h;cases h;exact oJ eb
     | inr v=>rw[eb] at h;cases h
 | .pick a b c,x,h=>by
   simp only[ev] at h
   cases ea:ev kn a with
   | inl y=>rw[ea] at h;cases h;exact oJ ea
   | inr u=>
     rw[ea] at h
     simp only at h
     split at h
     ·exact oJ h
     ·exact oJ h
 | .cho a ns,x,h=>by
   simp only[ev] at h
   cases ea:ev kn a with
   | inl y=>rw[ea] at h;cases h;exact oJ ea
   | inr u=>
     rw[ea] at h
     simp only at h
     cases ep:vg ns u with
     | none=>rw[ep] at h;cases h
     | some y=>rw[ep] at h;obtain⟨rfl,h⟩:=wH h;exact h
theorem rH {kn kn':Kn} (hk:Kn.Le kn kn'):∀{r:R}{v:Int},ev kn r= .inr v->ev kn' r= .inr v
 | .num n,v,h=>h
 | .rd y,v,h=>Mz hk h
 | .bin op a b,v,h=>by
   simp only[ev] at h ⊢
   cases ea:ev kn a with
   | inl y=>rw[ea] at h;cases h
   | inr u=>
     rw[ea] at h;rw[rH hk ea]
     cases eb:ev kn b with
     | inl y=>rw[eb] at h;cases h
     | inr w=>rw[eb] at h;rw[rH hk eb];exact h
 | .pick a b c,v,h=>by
   simp only[ev] at h ⊢
   cases ea:ev kn a with
   | inl y=>rw[ea] at h;cases h
   | inr u=>
     rw[ea] at h;rw[rH hk ea]
     simp only at h ⊢
     split at h
     ·rw[if_pos (by assumption)];exact rH hk h
     ·rw[if_neg (by assumption)];exact rH hk h
 | .cho a ns,v,h=>by
   simp only[ev] at h ⊢
   cases ea:ev kn a with
   | inl y=>rw[ea] at h;cases h
   | inr u=>
     rw[ea] at h;rw[rH hk ea]
     simp only at h ⊢
     cases ep:vg ns u with
     | none=>rw[ep] at h;exact h
     | some y=>rw[ep] at h;exact Mz hk h
inductive Stp where
 | r (r:R) | branch (s t:R) | among (ns:List Str) | join (op:Op)
structure Cf where
 todo:List Stp
 found:List Int
 rds:List Rdp
def uE (ps:List Rdp) (x:Str) (v:Int):List Rdp:=
 if(ps.any fun p=>decide (p.1=x))=true then ps.map (fun p=>if p.1=x then(p.1,v) else p) else ps++[(x,v)]
inductive St1 (kn:Kn):Cf->Cf->Prop where
 | num {t f d n}:St1 kn ⟨t++[.r (.num n)],f,d⟩ ⟨t,f++[n],d⟩
 | rd {t f d x v} (h:kn x=some v):St1 kn ⟨t++[.r (.rd x)],f,d⟩ ⟨t,f++[v],uE d x v⟩
 | bin {t f d op a b}:St1 kn ⟨t++[.r (.bin op a b)],f,d⟩ ⟨t++[.join op, .r b, .r a],f,d⟩
 | pick {t f d a b c}:St1 kn ⟨t++[.r (.pick a b c)],f,d⟩ ⟨t++[.branch b c, .r a],f,d⟩
 | cho {t f d a ns}:St1 kn ⟨t++[.r (.cho a ns)],f,d⟩ ⟨t++[.among ns, .r a],f,d⟩
 | branch {t f d b c v}:St1 kn ⟨t++[.branch b c],f++[v],d⟩ ⟨t++[.r (if v>0 then b else c)],f,d⟩
 | among {t f d ns v x} (h:vg ns v=some x):St1 kn ⟨t++[.among ns],f++[v],d⟩ ⟨t++[.r (.rd x)],f,d⟩
 | join {t f d op u v} (h:op= .times->Cz u v):St1 kn ⟨t++[.join op],f++[u,v],d⟩ ⟨t,f++[op.ap u v],d⟩
inductive StN (kn:Kn):Nat->Cf->Cf->Prop where
 | zero {c}:StN kn 0 c c
 | succ {n c c1 c2} (h:St1 kn c c1) (t:StN kn n c1 c2):StN kn (n+1) c c2
theorem StN.add {kn:Kn}{n m:Nat}{a b c:Cf} (h:StN kn n a b) (g:StN kn m b c):StN kn (n+m) a c:=by
 induction h with
 | zero=>rw[Nat.zero_add];exact g
 | succ h _ ih=>rw[Nat.succ_add];exact .succ h (ih g)
theorem St1.le {kn kn':Kn} (hk:Kn.Le kn kn') {a b:Cf} (h:St1 kn a b):St1 kn' a b:=by
 cases h with
 | num=>exact .num
 | rd h=>exact .rd (hk _ _ h)
 | bin=>exact .bin
 | pick=>exact .pick
 | cho=>exact .cho
 | branch=>exact .branch
 | among h=>exact .among h
 | join h=>exact .join h
theorem StN.le {kn kn':Kn} (hk:Kn.Le kn kn') {n:Nat}{a b:Cf} (h:StN kn n a b):StN kn' n a b:=by
 induction h with
 | zero=>exact .zero
 | succ h _ ih=>exact .succ (h.le hk) ih
theorem jx {α:Type}{s t:List α}{x y:α} (h:s++[x]=t++[y]):s=t/\x=y:=by
 have:=List.append_inj' h rfl
 exact⟨this.1,by simpa using this.2⟩
theorem Od {α:Type}{s t:List α}{x y u v:α} (h:s++[x,y]=t++[u,v]):s=t/\x=u/\y=v:=by
 have:=List.append_inj' h rfl
 exact⟨this.1,by simpa using this.2⟩
def St1.Inv (kn:Kn) (f:List Int) (d:List Rdp) (t:List Stp) (c':Cf):Stp->Prop
 | .r (.num n)=>c'=⟨t,f++[n],d⟩
 | .r (.rd x)=>∃v,kn x=some v/\c'=⟨t,f++[v],uE d x v⟩
 | .r (.bin op a b)=>c'=⟨t++[.join op, .r b, .r a],f,d⟩
 | .r (.pick a b c)=>c'=⟨t++[.branch b c, .r a],f,d⟩
 | .r (.cho a ns)=>c'=⟨t++[.among ns, .r a],f,d⟩
 | .branch b c=>∃g v,f=g++[v]/\c'=⟨t++[.r (if v>0 then b else c)],g,d⟩
 | .among ns=>∃g v x,f=g++[v]/\vg ns v=some x/\c'=⟨t++[.r (.rd x)],g,d⟩
 | .join op=>∃g u v,f=g++[u,v]/\(op= .times->Cz u v)/\c'=⟨t,g++[op.ap u v],d⟩
theorem St1.inv {kn:Kn}{c c':Cf} (h:St1 kn c c'):∀t s,c.todo=t++[s]->St1.Inv kn c.found c.rds t c' s:=by
 cases h with
 | num=>intro t s e;obtain⟨rfl,rfl⟩:=jx e;exact rfl
 | rd h=>intro t s e;obtain⟨rfl,rfl⟩:=jx e;exact⟨_,h,rfl⟩
 | bin=>intro t s e;obtain⟨rfl,rfl⟩:=jx e;exact rfl
 | pick=>intro t s e;obtain⟨rfl,rfl⟩:=jx e;exact rfl
 | cho=>intro t s e;obtain⟨rfl,rfl⟩:=jx e;exact rfl
 | branch=>intro t s e;obtain⟨rfl,rfl⟩:=jx e;exact⟨_,_,rfl,rfl⟩
 | among h=>intro t s e;obtain⟨rfl,rfl⟩:=jx e;exact⟨_,_,_,rfl,h,rfl⟩
 | join h=>intro t s e;obtain⟨rfl,rfl⟩:=jx e;exact⟨_,_,_,rfl,h,rfl⟩
theorem St1.det {kn:Kn}{a b c:Cf} (h:St1 kn a b) (g:St1 kn a c):b=c:=by
 cases h with
 | num=>exact(g.inv _ _ rfl).symm
 | rd h=>
   obtain⟨v,e,z⟩:=g.inv _ _ rfl
   rw[h] at e;cases e;exact z.symm
 | bin=>exact(g.inv _ _ rfl).symm
 | pick=>exact(g.inv _ _ rfl).symm
 | cho=>exact(g.inv _ _ rfl).symm
 | branch=>
   obtain⟨f,v,e,z⟩:=g.inv _ _ rfl
   obtain⟨rfl,rfl⟩:=jx e
   exact z.symm
 | among h=>
   obtain⟨f,v,x,e,hx,z⟩:=g.inv _ _ rfl
   obtain⟨rfl,rfl⟩:=jx e
   rw[h] at hx;cases hx;exact z.symm
 | join h=>
   obtain⟨f,u,v,e,_,z⟩:=g.inv _ _ rfl
   obtain⟨rfl,rfl,rfl⟩:=Od e
   exact z.symm
def Halt (kn:Kn) (c:Cf):Prop:=c.todo=[]\/∃t x,c.todo=t++[.r (.rd x)]/\kn x=none
theorem Halt.no {kn:Kn}{c c':Cf} (h:Halt kn c) (g:St1 kn c c'):False:=by
 rcases h with h | ⟨t,x,h,hx⟩
 ·cases g<;>simp at h
 ·obtain⟨v,e,_⟩:=g.inv _ _ h
  rw[hx] at e;cases e
theorem StN.rest {kn:Kn}{n m:Nat}{a b c:Cf} (h:StN kn n a b) (g:StN kn m a c) (hc:Halt kn c):∃k,StN kn k b c:=by
 induction h generalizing m with
 | zero=>exact⟨m,g⟩
 | succ h _ ih=>
   cases g with
   | zero=>exact(hc.no h).elim
   | succ h' g'=>rw[<-h.det h'] at g';exact ih g'
theorem Oe {ns:List Str} (h:1<=ns.length) (u:Int):∃x,vg ns u=some x:=by
 unfold vg
 have h1:(u % (ns.length:Int)).toNat<ns.length:=by
  have:=Int.emod_nonneg u (show(ns.length:Int)≠0 by omega)
  have:=Int.emod_lt_of_pos u (show(0:Int)<ns.length by omega)
  omega
 exact⟨_,List.getElem?_eq_getElem h1⟩
end RB
namespace RB
open PySem L2 PySem.Spec PyProof.Rows
def Reach (kn:Kn) (r:R) (c:Cf):Prop:=∃n,StN kn n ⟨[.r r],[],[]⟩ c
theorem Reach.le {kn kn':Kn} (h:Kn.Le kn kn') {r:R}{c:Cf} (g:Reach kn r c):Reach kn' r c:=by
 obtain⟨n,g⟩:=g
 exact⟨n,g.le h⟩
def kn0:Kn:=fun _=>none
end RB
set_option maxRecDepth 100000
namespace L2
open PySem PySem.Spec PyProof.Rows
section
variable {X:Cx}{i o:Expr}{ty td:TE}{pos:Pos}
theorem vh (hu:X.A.units+1<cLine) (hi:QE X i ty) (ho:QE X o td) (h1:behindInMarks .In o=false:=by rfl):QT X (.Compare i [.In] [o] pos) (tB (abO ty td)):=⟨OD (Yt hu hi.h ho.h) h1⟩
theorem rJ (hu:X.A.units+1<cLine) (hi:QE X i ty) (ho:QE X o td) (h1:behindInMarks .NotIn o=false:=by rfl):QT X (.Compare i [.NotIn] [o] pos) (tB (Mj ty td)):=⟨OD (NZ hu hi.h ho.h) h1⟩
end
end L2
namespace RB
open PySem L2 PySem.Spec PyProof.Rows
inductive BP (H:Hp):V->Stp->Prop where
 | r {a:Addr}{r:R} (h:IsR H a r):BP H (.ref a) (.r r)
 | branch {a b c:Addr}{s t:R} (e:H a=some (.tup [.str "branch", .ref b, .ref c])) (h1:IsR H b s) (h2:IsR H c t):BP H (.ref a) (.branch s t)
 | among {a b:Addr}{ns:List Str} (e:H a=some (.tup [.str "among", .ref b])) (h:H b=some (.tup (ns.map V.str))):BP H (.ref a) (.among ns)
 | join {a:Addr}{op:Op} (e:H a=some (.tup [.str "join", .str op.word])):BP H (.ref a) (.join op)
theorem BP.tups {H H':Hp} (t:lq H H') {v:V}{s:Stp} (h:BP H v s):BP H' v s:=by
 cases h with
 | r h=>exact .r (h.tups t)
 | branch e h1 h2=>exact .branch (t _ _ e) (h1.tups t) (h2.tups t)
 | among e h=>exact .among (t _ _ e) (t _ _ h)
 | join e=>exact .join (t _ _ e)
inductive mL (H:Hp):List V->List Stp->Prop where
 | nil:mL H [] []
 | cons {v:V}{s:Stp}{vs:List V}{ss:List Stp} (h:BP H v s) (t:mL H vs ss):mL H (v::vs) (s::ss)
theorem mL.tups {H H':Hp} (t:lq H H') {vs:List V}{ss:List Stp} (h:mL H vs ss):mL H' vs ss:=by
 induction h with
 | nil=>exact .nil
 | cons h _ ih=>exact .cons (h.tups t) ih
theorem mL.app {H:Hp}:∀{vs ws:List V}{ss ts:List Stp},mL H vs ss->mL H ws ts->mL H (vs++ws) (ss++ts)
 | _,_,_,_, .nil,h=>h
 | _,_,_,_, .cons h' t,h=> .cons h' (t.app h)
theorem mL.snoc {H:Hp}{s:Stp}:∀{ss:List Stp}{vs:List V},mL H vs (ss++[s])->∃us v,vs=us++[v]/\mL H us ss/\BP H v s
 |[],_,h=>by
  cases h with
  | cons h t=>cases t;exact⟨[],_,rfl, .nil,h⟩
 | s0::ss,_,h=>by
   cases h with
   | cons h t=>
     obtain⟨us,v,rfl,h1,h2⟩:=mL.snoc (ss:=ss) t
     exact⟨_::us,v,rfl, .cons h h1,h2⟩
theorem mL.length {H:Hp}{vs:List V}{ss:List Stp} (h:mL H vs ss):vs.length=ss.length:=by
 induction h with
 | nil=>rfl
 | cons _ _ ih=>simp[ih]
def wR:R->Nat
 | .num _=>1
 | .rd _=>1
 | .bin _ a b=>wR a+wR b+2
 | .pick a b c=>wR a+wR b+wR c+2
 | .cho a _=>wR a+3
def wS:Stp->Nat
 | .r r=>wR r
 | .branch s t=>wR s+wR t+1
 | .among _=>2
 | .join _=>1
def wT (t:List Stp):Nat:=(t.map wS).sum
def Cf.w (c:Cf):Nat:=c.rds.length+c.found.length+2 * wT c.todo
theorem lY (s t:List Stp):wT (s++t)=wT s+wT t:=by unfold wT;rw[List.map_append,List.sum_append]
theorem Zc:∀r:R,1<=wR r
 | .num _=>Nat.le_refl _
 | .rd _=>Nat.le_refl _
 | .bin _ a b=>by show 1<=wR a+wR b+2;omega
 | .pick a b c=>by show 1<=wR a+wR b+wR c+2;omega
 | .cho a _=>by show 1<=wR a+3;omega
theorem Zd (s:Stp):1<=wS s:=by
 cases s with
 | r r=>exact Zc r
 | branch s t=>show 1<=wR s+wR t+1;omega
 | among ns=>exact(by decide:1<=2)
 | join op=>exact Nat.le_refl _
theorem KJ:∀t:List Stp,t.length<=wT t
 |[]=>Nat.le_refl _
 | s::t=>by
   have:=KJ t
   have:=Zd s
   show t.length+1<=wS s+wT t
   omega
theorem Qx (d:List Rdp) (x:Str) (v:Int):(uE d x v).length<=d.length+1:=by
 unfold uE
 split
 ·rw[List.length_map];omega
 ·rw[List.length_append];exact Nat.le_refl _
theorem St1.w {kn:Kn}{a b:Cf} (h:St1 kn a b):b.w<=a.w:=by
 cases h with
 | @num t f d n=>
   show d.length+(f++[n]).length+2 * wT t<=d.length+f.length+2 * wT (t++[.r (.num n)])
   rw[lY,List.length_append];show _<=_+2 *(_+1);simp;omega
 | @rd t f d x v h=>
   have:=Qx d x v
   show(uE d x v).length+(f++[v]).length+2 * wT t<=d.length+f.length+2 * wT (t++[.r (.rd x)])
   rw[lY,List.length_append];show _<=_+2 *(_+1);simp;omega
 | @bin t f d op a b=>
   show d.length+f.length+2 * wT (t++[.join op, .r b, .r a])<=d.length+f.length+2 * wT (t++[.r (.bin op a b)])
   rw[lY,lY];show _+2 *(_+(1+(wR b+(wR a+0))))<=_+2 *(_+(wR a+wR b+2+0));omega
 | @pick t f d a b c=>
   show d.length+f.length+2 * wT (t++[.branch b c, .r a])<=d.length+f.length+2 * wT (t++[.r (.pick a b c)])
   rw[lY,lY];show _+2 *(_+(wR b+wR c+1+(wR a+0)))<=_+2 *(_+(wR a+wR b+wR c+2+0));omega
 | @cho t f d a ns=>
   show d.length+f.length+2 * wT (t++[.among ns, .r a])<=d.length+f.length+2 * wT (t++[.r (.cho a ns)])
   rw[lY,lY];show _+2 *(_+(2+(wR a+0)))<=_+2 *(_+(wR a+3+0));omega
 | @branch t f d b c v=>
   show d.length+f.length+2 * wT (t++[.r (if v>0 then b else c)])<=d.length+(f++[v]).length+2 * wT (t++[.branch b c])
   rw[lY,lY,List.length_append]
   have:wR (if v>0 then b else c)<=wR b+wR c:=by split<;>omega
   show _+2 *(_+(wR (if v>0 then b else c)+0))<=_+2 *(_+(wR b+wR c+1+0));omega
 | @among t f d ns v x h=>
   show d.length+f.length+2 * wT (t++[.r (.rd x)])<=d.length+(f++[v]).length+2 * wT (t++[.among ns])
   rw[lY,lY,List.length_append];show _+2 *(_+1)<=_+2 *(_+2);omega
 | @join t f d op u v h=>
   show d.length+(f++[op.ap u v]).length+2 * wT t<=d.length+(f++[u,v]).length+2 * wT (t++[.join op])
   rw[lY,List.length_append,List.length_append];show _+(_+1)+_<=_+(_+2)+2 *(_+1);omega
def rdK (d:List Rdp):List (Key×V):=d.map fun p=>(.inr p.1, .int p.2)
theorem Up (d:List Rdp) (x:Str) (v:Int):putK (rdK d) (.inr x) (.int v)=rdK (uE d x v):=by
 unfold putK uE rdK
 rw[List.any_map]
 have e:((fun kv:Key×V=>decide (kv.1=(.inr x:Key)))∘fun p:Rdp=>((.inr p.1:Key),V.int p.2))=fun p:Rdp=>decide (p.1=x):=by
  funext p
  show decide ((Sum.inr p.1:Key)=Sum.inr x)=_
  by_cases h:p.1=x
  ·rw[decide_eq_true h,decide_eq_true (by rw[h])]
  ·rw[decide_eq_false h,decide_eq_false (fun z=>h (Sum.inr.inj z))]
 rw[e]
 by_cases hc:(d.any fun p=>decide (p.1=x))=true
 ·rw[if_pos hc,if_pos hc,List.map_map,List.map_map]
  apply List.map_congr_left
  intro p _
  show(if(Sum.inr p.1:Key)=Sum.inr x then((Sum.inr p.1:Key),V.int v) else((Sum.inr p.1:Key),V.int p.2))=_
  by_cases h:p.1=x
  ·rw[if_pos (by rw[h])]
   show _=((Sum.inr (if p.1=x then(p.1,v) else p).1:Key),V.int (if p.1=x then(p.1,v) else p).2)
   rw[if_pos h]
  ·rw[if_neg (fun z=>h (Sum.inr.inj z))]
   show _=((Sum.inr (if p.1=x then(p.1,v) else p).1:Key),V.int (if p.1=x then(p.1,v) else p).2)
   rw[if_neg h]
 ·rw[if_neg hc,if_neg hc,List.map_append];rfl
def rkF (a1 a2 a3:Addr):List (Str×V):=[("todo", .ref a1),("found", .ref a2),("reads", .ref a3)]
structure RcAt (H:Hp) (a C dx a1 a2 a3:Addr) (c:Cf):Prop where
 e:H a=some (.ins C dx (rkF a1 a2 a3))
 e1:∃ws,H a1=some (.lst ws)/\mL H ws c.todo
 e2:H a2=some (.lst (c.found.map V.int))
 e3:H a3=some (.dK (rdK c.rds))
 ne:a1≠a2
 hw:c.w<=10000
structure RkC (K:PySem.W.Frag) (C:Addr):Prop where
 cl:Cls K C
 nT:iQ K C "todo"
 nF:iQ K C "found"
 nR:iQ K C "reads"
def Qy (H:Hp) (d:Addr) (kn:Kn):Prop:=∃kvs,H d=some (.dK kvs)/\∀x,cP kvs (.inr x)=(kn x).map V.int
theorem G4 (a1 a2 a3:Addr):List.lookup ("todo":Str) (rkF a1 a2 a3)=some (.ref a1):=rfl
theorem Dn (a1 a2 a3:Addr):List.lookup ("found":Str) (rkF a1 a2 a3)=some (.ref a2):=rfl
theorem Dp (a1 a2 a3:Addr):List.lookup ("reads":Str) (rkF a1 a2 a3)=some (.ref a3):=rfl
theorem Wx (a1 a2 a3:Addr):List.lookup ("go_on":Str) (rkF a1 a2 a3)=none:=rfl
theorem zF (a1 a2 a3:Addr):List.lookup ("lacking":Str) (rkF a1 a2 a3)=none:=rfl
def MF:Sp:=fun vs H Q _=>∃(op:Op) (u v:Int),vs=[.str op.word, .int u, .int v]/\(op= .times->Cz u v)/\Q (.int (op.ap u v)) H
def Jc (C:Addr):Sp:=fun vs H Q _=>∃(a dx b:Addr) (r:R),vs=[.ref a, .ref b]/\H a=some (.ins C dx [])/\IsR H b r/\wR r<=4000/\
 ∀a1 a2 a3 H',But [a] H H'->H a1=none->H a2=none->H a3=none->RcAt H' a C dx a1 a2 a3 ⟨[.r r],[],[]⟩->Q .non H'
def ab2 (C:Addr):Sp:=fun vs H Q _=>∃(a dx a1 a2 a3:Addr) (v:V) (s:Stp) (t:List Stp) (f:List Int) (d:List Rdp) (kn:Kn) (c:Cf),vs=[.ref a,v]/\RcAt H a C dx a1 a2 a3 ⟨t,f,d⟩/\BP H v s/\(∀x,s≠ .r (.rd x))/\
 St1 kn ⟨t++[s],f,d⟩ c/\c.w<=10000/\∀H',But [a1,a2,a3] H H'->RcAt H' a C dx a1 a2 a3 c->Q .non H'
def Qz (C:Addr):Sp:=fun vs H Q _=>∃(a dx a1 a2 a3 d:Addr) (kn:Kn) (n:Nat) (c c':Cf),vs=[.ref a, .ref d]/\RcAt H a C dx a1 a2 a3 c/\Qy H d kn/\d≠a3/\StN kn n c c'/\Halt kn c'/\
 ∀H',But [a1,a2,a3] H H'->RcAt H' a C dx a1 a2 a3 c'->(c'.todo=[]->Q .non H')/\∀t x,c'.todo=t++[.r (.rd x)]->Q (.str x) H'
theorem RcAt.lists {H:Hp}{a C dx a1 a2 a3:Addr}{c:Cf} (h:RcAt H a C dx a1 a2 a3 c) {H':Hp} (b:But [a1,a2,a3] H H'):lq H H':=fun p xs q=>b p _ (fun z=>by
 obtain⟨ws,e1,_⟩:=h.e1
 have:p=a1\/p=a2\/p=a3:=by simpa using z
 rcases this with rfl | rfl | rfl
 ·rw[e1] at q;cases q
 ·rw[h.e2] at q;cases q
 ·rw[h.e3] at q;cases q) q
end RB
namespace RB
open PySem L2 PySem.Spec PyProof.Rows
theorem fV {H:Hp}{p q:Addr}{o:HO} (h:upd H p o q=none):q≠p/\H q=none:=by
 by_cases e:q=p
 ·subst e;rw[aq] at h;cases h
 ·rw[au e] at h;exact⟨e,h⟩
theorem RcAt.ins {H:Hp}{a C dx a1 a2 a3:Addr}{c:Cf} (h:RcAt H a C dx a1 a2 a3 c):a∉[a1,a2,a3]:=fun z=>by
 obtain⟨ws,e1,_⟩:=h.e1
 have z:a=a1\/a=a2\/a=a3:=by simpa using z
 have e:=h.e
 rcases z with z | z | z
 ·rw[z,e1] at e;cases e
 ·rw[z,h.e2] at e;cases e
 ·rw[z,h.e3] at e;cases e
theorem RcAt.n13 {H:Hp}{a C dx a1 a2 a3:Addr}{c:Cf} (h:RcAt H a C dx a1 a2 a3 c):a1≠a3:=fun z=>by
 obtain⟨ws,e1,_⟩:=h.e1
 have e:=h.e3
 rw[<-z,e1] at e;cases e
theorem RcAt.n23 {H:Hp}{a C dx a1 a2 a3:Addr}{c:Cf} (h:RcAt H a C dx a1 a2 a3 c):a2≠a3:=fun z=>by
 have e:=h.e3
 rw[<-z,h.e2] at e;cases e
theorem RcAt.next {H H':Hp}{a C dx a1 a2 a3:Addr}{c c':Cf}{ws:List V} (h:RcAt H a C dx a1 a2 a3 c) (b:But [a1,a2,a3] H H') (g1:H' a1=some (.lst ws)) (s:mL H' ws c'.todo) (g2:H' a2=some (.lst (c'.found.map V.int))) (g3:H' a3=some (.dK (rdK c'.rds))) (hw:c'.w<=10000):RcAt H' a C dx a1 a2 a3 c':=
 ⟨b _ _ h.ins h.e,⟨ws,g1,s⟩,g2,g3,h.ne,hw⟩
theorem BP.hd {H:Hp}{v:V}{s:Stp} (h:BP H v s) (hno:∀x,s≠ .r (.rd x)):∃p k xs,v= .ref p/\H p=some (.tup (.str k::xs))/\k≠"read":=by
 cases h with
 | r h=>
   cases h with
   | num e=>exact⟨_,_,_,rfl,e,by decide +kernel⟩
   | rd e=>exact absurd rfl (hno _)
   | @bin _ _ _ op _ _ e _ _=>exact⟨_,_,_,rfl,e,by cases op<;>decide +kernel⟩
   | pick e _ _ _=>exact⟨_,_,_,rfl,e,by decide +kernel⟩
   | cho e _ _=>exact⟨_,_,_,rfl,e,by decide +kernel⟩
 | branch e _ _=>exact⟨_,_,_,rfl,e,by decide +kernel⟩
 | among e _=>exact⟨_,_,_,rfl,e,by decide +kernel⟩
 | join e=>exact⟨_,_,_,rfl,e,by decide +kernel⟩
theorem StN.halt {kn:Kn}{n:Nat}{c c':Cf} (h:StN kn n c c') (hc:Halt kn c):c=c':=by
 cases h with
 | zero=>rfl
 | succ h _=>exact(hc.no h).elim
theorem Ze {H:Hp}{a:Addr}{o:HO} (h:H a=some o):upd H a o=H:=by
 funext b
 by_cases e:b=a
 ·subst e;rw[aq,h]
 ·rw[au e]
end RB
namespace RB
open PySem L2 PySem.Spec PyProof.Rows
end RB
namespace RB
open PySem L2 PySem.Spec PyProof.Rows
theorem same_none {H H':Hp}{p:Addr} (s:aN H H') (h:H' p=none):H p=none:=by
 cases z:H p with
 | none=>rfl
 | some o=>rw[s _ _ z] at h;cases h
end RB
set_option maxRecDepth 100000
namespace L2
open PySem PySem.Spec PyProof.Rows
theorem Cq {k:Key}{v:Value} (h:Bo k v=true):RelV (kV k) v:=by
 rcases gD h with⟨i,t,rfl,rfl⟩ | ⟨x,t,rfl,rfl⟩
 ·exact⟨t,rfl⟩
 ·exact⟨t,rfl⟩
theorem yl:∀{ys:List V}{its:List Value},its.length=ys.length->(∀(i:Nat) (v:Value),its[i]? =some v->∃y,ys[i]? =some y/\RelV y v)->Vals ys its
 |[],[],_,_=> .nil
 | y::ys,v::its,hl,h=>by
   obtain⟨y',e,r⟩:=h 0 v rfl
   cases e
   exact .cons r (yl (by simpa using hl) fun i u hu=>h (i+1) u (by simpa using hu))
 |[],_::_,hl,_=>by simp at hl
 | _::_,[],hl,_=>by simp at hl
theorem zG {κ:Type}:∀{kvs:List (κ×V)}{vs:List (κ×Value)},KV kvs vs->kvs.length=vs.length/\∀(i:Nat) (k:κ) (x:Value),vs[i]? =some (k,x)->∃y,kvs[i]? =some (k,y)
 | _,_, .nil=>⟨rfl,fun i k x h=>by simp at h⟩
 | _,_, .cons (a:=p) (b:=q) h t=>by
   obtain⟨h1,h2⟩:=zG t
   refine⟨by simp[h1],fun i k x e=> ?_⟩
   cases i with
   | zero=>cases e;exact⟨p.2,by rw[List.getElem?_cons_zero];cases p;simp only at h ⊢;rw[h.1]⟩
   | succ i=>exact h2 i k x (by simpa using e)
section
variable {X:Cx}
theorem KN (hc:X.calm=true):o8 X (.type "list") (fun xs H Q=>∃a kvs,xs=[.ref a]/\H a=some (.dK kvs)/\∀l,H l=none->Q (.ref l) (upd H l (.lst (kvs.map fun kv=>kV kv.1)))):=by
 intro pins s σ H xs us Q I r h
 obtain⟨a,kvs,rfl,ha,q⟩:=h
 obtain⟨u,rfl,rx⟩:=vals1 r
 cases rx
 obtain⟨hz,lo,vs,hkv,hd⟩:=(show eG X.prog X.w H s.heap a (.dK kvs) from I.hok a _ ha)
 obtain⟨ep,hat⟩:=hd.dictAt
 obtain⟨hl,hk⟩:=zG hkv
 refine PySem.W.kdl_call (PySem.W.kdl_dict lo) (I.ok.hd hc) hat (by rw[<-hl];exact hz) fun h' tk acc c kp e hacc=> ?_
 have hv:Vals (kvs.map fun kv=>kV kv.1) acc.toList:=yl (by rw[List.length_map,Array.length_toList,hacc.1,hl]) fun i v hv=>by
  obtain⟨k,x,e1,e2⟩:=hacc.2 i v (by rw[<-Array.getElem?_toList];exact hv)
  obtain⟨y,hy⟩:=hk i k x e1
  exact⟨kV k,by rw[List.getElem?_map,hy];rfl,Cq e2⟩
 exact⟨.ref s.heap.objs.size,_,I.laid (t':=tk) kp (Nat.le_refl _) (show eG X.prog X.w _ h' _ (.lst (kvs.map fun kv=>kV kv.1)) from⟨by rw[List.length_map];exact hz,acc.toList,c,hv,by simpa using e⟩),rfl,q _ (I.hok.fresh (Nat.le_refl _))⟩
theorem Dq (hc:X.calm=true):pB X (.type "list") (fun xs H Q=>∃a kvs,xs=[.ref a]/\H a=some (.dK kvs)/\∀l,H l=none->Q (.ref l) (upd H l (.lst (kvs.map fun kv=>kV kv.1)))):=⟨KN hc⟩
end
end L2
set_option maxRecDepth 100000
namespace RB
open PySem L2 PySem.Spec PyProof.Rows
def R.In (ns:List Str):R->Prop
 | .num _=>True
 | .rd x=>x∈ns
 | .bin _ a b=>a.In ns/\b.In ns
 | .pick a b c=>a.In ns/\b.In ns/\c.In ns
 | .cho a ms=>a.In ns/\∀x∈ms,x∈ns
end RB
namespace RB
open PySem L2 PySem.Spec PyProof.Rows
theorem iB {S:List Addr}{H H':Hp}{q:Addr} (b:But S H H') (h:H' q=none) (hS:q∉S):H q=none:=by
 cases z:H q with
 | none=>rfl
 | some o=>rw[b _ _ hS z] at h;cases h
theorem Dr {ns:List Str} (h:∀x∈ns,n8 x):SeqAt.shaped (.list (ns.map PyData.str))=true:=by
 have:=yg ns
 have h4:(PyData.list (ns.map PyData.str)).depth<=64:=by simp only[PyData.depth];omega
 have h5:(PyData.list (ns.map PyData.str)).canLay0=true:=by simp only[PyData.canLay0];exact Ao ns h
 show(_&&decide _)=true
 rw[h5,decide_eq_true h4];rfl
theorem MJ {ns:List Str} (h:1<=ns.length):PyData.eqv (.list (ns.map PyData.str)) (.list [])=false:=by
 cases ns with
 | nil=>simp at h
 | cons n ns=>simp[PyData.eqv,PyData.eqvAll]
end RB
set_option maxRecDepth 100000
namespace L2
open PySem PySem.Spec PyProof.Rows
section
variable {X:Cx}{e st:Expr}{te ts:TE}{pos p2:Pos}
end
end L2
set_option maxRecDepth 100000
namespace RB
open PySem L2 PySem.Spec PyProof.Rows
def Chn (r:R):Kn->List Rdp->Prop
 | _,[]=>True
 | kn,p::us=>ev kn r= .inl p.1/\Chn r (kn.put p.1 p.2) us
theorem Chn.le {r:R}:∀{us:List Rdp}{kn:Kn},Chn r kn us->Kn.Le kn (kn.puts us)
 |[],kn,_=>Kn.Le.refl _
 | p::us,kn,h=>(Kn.pF (oJ h.1)).trans (Chn.le (us:=us) h.2)
theorem Chn.up {a r:R}:∀{us:List Rdp}{kn:Kn},(∀kn' x,Kn.Le kn kn'->ev kn' a= .inl x->ev kn' r= .inl x)->Chn a kn us->Chn r kn us
 |[],_,_,_=>trivial
 | p::us,kn,h,g=>⟨h kn p.1 (Kn.Le.refl _) g.1,Chn.up (us:=us) (fun kn' x l e=>h kn' x ((Kn.pF (oJ g.1)).trans l) e) g.2⟩
theorem Kn.gM (kn:Kn) (us vs:List Rdp):kn.puts (us++vs)=(kn.puts us).puts vs:=by
 induction us generalizing kn with
 | nil=>rfl
 | cons u us ih=>exact ih _
theorem Chn.app {r:R}:∀{us vs:List Rdp}{kn:Kn},Chn r kn us->Chn r (kn.puts us) vs->Chn r kn (us++vs)
 |[],_,_,_,h=>h
 | p::us,vs,kn,g,h=>⟨g.1,Chn.app (us:=us) g.2 h⟩
end RB
set_option maxRecDepth 100000
namespace L2
open PySem PySem.Spec PyProof.Rows
def Itd (a:Addr) (o:Obj) (kvs:List (Key×V)):It where
 go:=fun i H=>i<kvs.length/\H a=some (.frz o (.dK kvs))
 yld:=fun i H x H'=>H'=H/\∃k v,kvs[i]? =some (k,v)/\x=kV k
 stop:=fun i H=>kvs.length<=i/\H a=some (.frz o (.dK kvs))
theorem Gb {P:Program}{w:World}{K:PySem.W.Frag}{tg:Expr}{a it:Addr}{o:Obj}{kvs:List (Key×V)}{vs:List (Key×Value)}{es:Array DictEntry}{ep:Nat} (hne:a≠it) (hkv:KV kvs vs) (hx:o.ExactDict) (hdat:o.data= .dict es ep) (hk:PySem.KeysOf (cV P w) es) (hp:Pairs (cV P w) es.toList vs) (hn:(vs.map (·.1)).Nodup):
 Turn P w K tg (Itd a o kvs) [it] it (fun i h=>h.IsKeyIter it a i kvs.length ep) where
 mem:=by simp
 obj:=fun i h st b hb=>by
  have e:b=it:=by simpa using hb
  subst e
  obtain⟨o,e,c,d⟩:=st
  exact⟨o,e,fun v z=>by rw[d] at z;cases z⟩
 keep:=fun i h h' st k=>st.at fun o e=>k it (by simp) o e
 item:=by
  intro X hP hw hK hc i pins s σ H E I hf st hg
  subst hP hw hK
  obtain⟨hi,hH⟩:=hg
  obtain⟨ho,_⟩:=(show eG X.prog X.w H s.heap a (.frz o (.dK kvs)) from I.hok a _ hH)
  have hm:s.heap.DictAt (cV X.prog X.w) a vs ep:=⟨o,es,ho,hx,hdat,hk,hp,hn⟩
  obtain⟨hl,hat⟩:=zG hkv
  have hi':i<vs.length:=by rw[<-hl];exact hi
  obtain⟨⟨k,x⟩,hxk⟩:∃p,vs[i]? =some p:=⟨vs[i],by simp[hi']⟩
  obtain⟨y,hy⟩:=hat i k x hxk
  obtain⟨f0,f1,f2,f3,f4,f5⟩:=hf it (by simp)
  rw[hl] at st
  refine wpAny_pyNext_dict_item st hm hxk fun key h' hkey hit' hs'=> ?_
  have I1:Inv X pins σ H {s with heap:=h'}:=I.turned (t':=s.toks) (fun b o hb e=>hs'.extBut b o hb e) f0 f1 f3 f4 f5
  obtain⟨o',e',c',d'⟩:=id hit'
  exact⟨key,rfl,O9 (s:={s with heap:=h'}) e' c' d' (by decide) ⟨kV k,H,I1,Cq hkey,⟨rfl,k,y,hy,rfl⟩,by rw[hl];exact hit',fun b hb=>(hf b hb).1⟩⟩
 done:=by
  intro X hP hw hK hc i pins s σ H E I hf st hg
  subst hP hw hK
  obtain⟨hi,hH⟩:=hg
  obtain⟨ho,_⟩:=(show eG X.prog X.w H s.heap a (.frz o (.dK kvs)) from I.hok a _ hH)
  have hm:s.heap.DictAt (cV X.prog X.w) a vs ep:=⟨o,es,ho,hx,hdat,hk,hp,hn⟩
  obtain⟨hl,hat⟩:=zG hkv
  obtain⟨f0,f1,f2,f3,f4,f5⟩:=hf it (by simp)
  rw[hl] at st
  exact wpAny_pyNext_dict_end (I.ok.hd hc) st hm (by rw[List.getElem?_eq_none_iff];omega) fun h' eb=>⟨rfl,I.turned (t':=s.toks) (fun b o hb e=>eb b o hb e) f0 f1 f3 f4 f5⟩
 self:=fun _ _ _ _ _ st h=>wpAny_pyIter_keyiter st h
section
variable {X:Cx}{tg:Expr}
def Wy (tl:TE):TI:=fun σ H R=>tl σ H fun x H1=>∃a kvs,x= .ref a/\H1 a=some (.dK kvs)/\∀o,R (Itd a o kvs) (upd H1 a (.frz o (.dK kvs)))
theorem Uq {l:Expr}{tl:TE} (hl:PE X l tl):PI X tg l (Wy tl):=by
 intro pins s σ H R I h
 refine thn (hl pins s σ H _ I h) fun v s1 ⟨x,H1,I1,r1,q1⟩=> ?_
 obtain⟨a,kvs,e,hq,q⟩:=q1
 subst e
 cases r1
 obtain⟨hz,lo,vs,hkv,hd⟩:=(show eG X.prog X.w H1 s1.heap a (.dK kvs) from I1.hok a _ hq)
 obtain⟨o,es,ep,ho,hx,hdat,hk,hp,hn⟩:=id hd
 have hl:=(zG hkv).1
 have I2:Inv X pins σ (upd H1 a (.frz o (.dK kvs))) {s1 with heap:=s1.heap,toks:=s1.toks}:=I1.write (x:=a) (e:=a) (h':=s1.heap) (by rw[hq];exact trivial) (.inl rfl) (fun b u _ e=>e) ⟨o,ho⟩ ⟨ho,hz,lo,vs,hkv,hd⟩
 refine wpAny_pyIter_dict lo ⟨o,es,ho,hx,hdat,hk,hp,hn⟩ ?_
 have hlt:a<s1.heap.objs.size:=Heap.lt_size ho
 rw[<-hl]
 refine⟨s1.heap.objs.size,[s1.heap.objs.size],_,_,_,rfl,I2.kept (t':=s1.toks) fun b o e=>Heap.get?_push_of_some _ e,Gb (Nat.ne_of_lt hlt) hkv hx hdat hk hp hn,⟨_,Heap.get?_push_size _ rfl,rfl,rfl⟩,fun b hb=> ?_,q o⟩
 have e:b=s1.heap.objs.size:=by simpa using hb
 subst e
 exact I2.Gr (Nat.le_refl _) (I2.hok.fresh (Nat.le_refl _))
theorem G5 {l:Expr}{tl:TE} (hl:QE X l tl):QI X tg l (Wy tl):=⟨Uq hl.h⟩
end
theorem Jd {a:Addr}{o:Obj}{kvs:List (Key×V)}{g:TG}{tb:TS}{D:Ends}{σ:St}{H:Hp} (Pv:Nat->St->Hp->Prop) (h0:Pv 0 σ H) (hl:∀i σ H,i<=kvs.length->Pv i σ H->H a=some (.frz o (.dK kvs)))
 (hs:∀i k v σ H,kvs[i]? =some (k,v)->Pv i σ H->g (kV k) σ H fun σ2 H2=>tb {D with nx:=Pv (i+1),ct:=Pv (i+1),bk:=D.nx} σ2 H2) (hd:∀σ H,Pv kvs.length σ H->D.nx σ H):
 ∃W:Nat->Nat->St->Hp->Prop,(∃m,W 0 m σ H)/\∀i m σ H,W i m σ H->
  ((Itd a o kvs).stop i H/\D.nx σ H)\/((Itd a o kvs).go i H/\∃N:St->Hp->Prop,(∀σ' H',N σ' H'->∃m',m'<m/\W (i+1) m' σ' H')/\∀x H',(Itd a o kvs).yld i H x H'->g x σ H' fun σ2 H2=>tb {D with nx:=N,ct:=N,bk:=D.nx} σ2 H2):=by
 refine⟨fun i m σ H=>m=kvs.length - i/\i<=kvs.length/\Pv i σ H,⟨kvs.length,by simp,Nat.zero_le _,h0⟩, ?_⟩
 rintro i m σ H ⟨rfl,hi,p⟩
 have q:=hl i σ H hi p
 by_cases hlt:i<kvs.length
 ·refine .inr ⟨⟨hlt,q⟩,Pv (i+1),fun σ' H' p'=>⟨kvs.length - (i+1),by omega,rfl,hlt,p'⟩,fun x H' y=> ?_⟩
  obtain⟨e,k,v,hk,ex⟩:=y
  subst e ex
  exact hs i k v σ _ hk p
 ·have e:i=kvs.length:=by omega
  subst e
  exact .inl ⟨⟨Nat.le_refl _,q⟩,hd σ H p⟩
section
variable {X:Cx}
theorem KQ:o8 X (.type "dict") (fun xs H Q=>∃a kvs,xs=[.ref a]/\Rd H a (.dK kvs)/\∀p,H p=none->Q (.ref p) (upd H p (.dK kvs))):=by
 intro pins s σ H xs us Q I r h
 obtain⟨a,kvs,rfl,ha,q⟩:=h
 obtain⟨u,rfl,rx⟩:=vals1 r
 cases rx
 obtain⟨hz,lo,vs,hkv,hd⟩:=(show eG X.prog X.w H s.heap a (.dK kvs) from ha.ok I.hok)
 have hl:=(zG hkv).1
 refine kt_call_dict lo hd (Nat.le_trans (Nat.le_of_eq hl.symm) hz) fun h' hd' hs'=> ?_
 have keep:∀b u,s.heap.get? b=some u->h'.get? b=some u:=fun b u e=>by
  have hb:b≠s.heap.objs.size:=Nat.ne_of_lt (Heap.lt_size e)
  rw[hs'.2 b hb];exact Heap.get?_push_of_some _ e
 refine⟨.ref s.heap.objs.size,_,I.laid (t':=s.toks) keep (Nat.le_refl _) (show eG X.prog X.w _ h' _ (.dK kvs) from⟨hz, ?_,vs,hkv,hd'⟩),rfl,q _ (I.hok.fresh (Nat.le_refl _))⟩
 exact beq_eq_false_iff_ne.mpr (Nat.ne_of_gt I.big)
theorem QB:pB X (.type "dict") (fun xs H Q=>∃a kvs,xs=[.ref a]/\Rd H a (.dK kvs)/\∀p,H p=none->Q (.ref p) (upd H p (.dK kvs))):=⟨KQ⟩
end
theorem KR {κ:Type}:∀{kvs:List (κ×V)}{vs:List (κ×Value)},KV kvs vs->∀(i:Nat) (k:κ) (x:Value),vs[i]? =some (k,x)->∃y,kvs[i]? =some (k,y)/\RelV y x
 | _,_, .nil=>fun i k x h=>by simp at h
 | _,_, .cons (a:=p) (b:=q) h t=>fun i k x e=>by
   cases i with
   | zero=>cases e;exact⟨p.2,by rw[List.getElem?_cons_zero];cases p;simp only at h ⊢;rw[h.1],h.2⟩
   | succ i=>exact KR t i k x (by simpa using e)
theorem MK {κ:Type} [DecidableEq κ] {A:Around}{s:Shared}{kb:List (κ×Value)}:∀{ka:List (κ×Value)},(∀k u,(k,u)∈ka->∃y,valueAt kb k=some y/\SeqAt.EqAt A s u y true)->PySem.W.KeqHits A s kb ka true
 |[],_=> .nil
 | (k,u)::r,h=>by
   obtain⟨y,h1,h2⟩:=h k u (by simp)
   exact PySem.W.KeqHits.hit (e:=true) (b:=true) h1 h2 (MK fun k u m=>h k u (by simp[m]))
section
variable {X:Cx}
theorem Ds {ts:List Str}:∀{us:List Value},Vals (ts.map V.str) us->StrsAre us ts:=by
 induction ts with
 | nil=>intro us r;cases r;exact .nil
 | cons n ns ih=>
   intro us r
   rw[List.map_cons] at r
   cases r with
   | cons r1 r2=>
     obtain⟨t,e⟩:=r1
     subst e
     exact .cons n t (ih r2)
theorem Aq:∀{us:List Value}{ts:List Str},StrsAre us ts->Vals (ts.map V.str) us
 | _,_, .nil=> .nil
 | _,_, .cons y t h=> .cons ⟨t,rfl⟩ (Aq h)
theorem G6:o8 X (.builtin "sorted") (fun xs H Q=>∃(a:Addr) (ts:List Str),xs=[.ref a]/\SqL X.K H a (ts.map V.str)/\ts.length<64/\∀(p:Addr) (us:List Str),H p=none->us.Perm ts->Q (.ref p) (upd H p (.lst (us.map V.str)))):=by
 intro pins s σ H xs us Q I r h
 obtain⟨a,ts,rfl,ha,hl,q⟩:=h
 obtain⟨u,rfl,rx⟩:=vals1 r
 cases rx
 obtain⟨its,rv,pl,_⟩:=I.list ha
 have hli:its.length=ts.length:=by have:=rv.length;rw[List.length_map] at this;exact this.symm
 refine sorted_strs pl.isList (Ds rv) (by omega) fun out ss h1 h2 h3=> ?_
 obtain⟨e,he⟩:=sortedAll_at s.heap its out
 have hfr:H (s.heap.objs.size+1)=none:=I.hok.fresh (Nat.le_succ _)
 have hsl:=h2.length_eq
 have hz:(ss.map V.str).length<=sizeLine:=by rw[List.length_map,hsl,sizeLine_eq];omega
 exact⟨.ref (s.heap.objs.size+1),_,I.laid (t':=s.toks) (o:= .lst (ss.map V.str)) (fun b u e=>sortedAll_old e) (Nat.le_succ _) ⟨hz,out.toList,e,Aq h1,by simpa [seqObj] using he⟩,rfl,q _ ss hfr h2⟩
theorem KY:pB X (.builtin "sorted") (fun xs H Q=>∃(a:Addr) (ts:List Str),xs=[.ref a]/\SqL X.K H a (ts.map V.str)/\ts.length<64/\∀(p:Addr) (us:List Str),H p=none->us.Perm ts->Q (.ref p) (upd H p (.lst (us.map V.str)))):=⟨G6⟩
end
end L2
namespace RB
open PySem L2 PySem.Spec PyProof.Rows
end RB
namespace L2
open PySem PySem.Spec PyProof.Rows
section
variable {X:Cx}{o e:Expr}{td ty:TE}{apos cpos:Pos}
end
end L2
set_option maxRecDepth 100000
namespace RB
open PySem L2 PySem.Spec PyProof.Rows
def R.T3:R->Prop
 | .num _=>True
 | .rd _=>True
 | .bin op a b=>a.T3/\b.T3/\(op= .times->∃n,b= .num n/\ -100<=n/\n<=100)
 | .pick a b c=>a.T3/\b.T3/\c.T3
 | .cho a ns=>a.T3/\1<=ns.length
structure Rk3 (ns:List Str) (d:Nat) (r:R):Prop where
 g:r.Good
 t:r.T3
 i:r.In ns
 d:r.depth<=d
def MN:Sp:=fun vs H Q _=>∃(p l:Addr) (c:Nat) (ns:List Str),vs=[.ref p, .ref l]/\fH H p c/\c<=50000/\H l=some (.lst (ns.map V.str))/\1<=ns.length/\ns.length<=9/\(∀x∈ns,n8 x)/\
 ∀a r H',But [p] H H'->fH H' p (c+6)->IsR H' a r->Rk3 ns 1 r->Q (.ref a) H'
def tk3:Nat->Nat
 | 0=>10
 | d+1=>3 * tk3 d+20
theorem Ur (d:Nat):10<=tk3 d:=by
 induction d with
 | zero=>exact Nat.le_refl _
 | succ d ih=>show 10<=3 * tk3 d+20;omega
def QC (d:Nat):Sp:=fun vs H Q _=>∃(p l:Addr) (c:Nat) (ns:List Str) (deep:Int),vs=[.ref p, .ref l, .int deep]/\deep=(d:Int)/\d<=3/\fH H p c/\c<=10000+1000 *(4 - d)/\H l=some (.lst (ns.map V.str))/\1<=ns.length/\ns.length<=9/\(∀x∈ns,n8 x)/\
 ∀a r H',But [p] H H'->fH H' p (c+tk3 d)->IsR H' a r->Rk3 ns (d+1) r->Q (.ref a) H'
theorem fH.ne {H:Hp}{p q:Addr}{c:Nat} (h:fH H p c) (hq:H q=none):q≠p:=fun z=>by
 obtain⟨r,m,k,e',_⟩:=h
 rw[<-z,hq] at e';cases e'
theorem fH.nel {H:Hp}{p l:Addr}{c:Nat}{xs:List V} (h:fH H p c) (hl:H l=some (.lst xs)):l∉[p]:=fun z=>by
 obtain⟨r,m,k,e',_⟩:=h
 have:l=p:=by simpa using z
 rw[this,e'] at hl;cases hl
theorem fH.mono {H:Hp}{p:Addr}{c c':Nat} (h:fH H p c) (hc:c<=c'):fH H p c':=by
 obtain⟨r,m,k,e,h0,h1⟩:=h
 exact⟨r,m,k,e,h0,by omega⟩
def afj:Nat->Sp
 | 0=>fun _ _ _ _=>False
 | d+1=>QC d
def Wz:Sp:=fun vs H Q _=>∃(p l:Addr) (c:Nat) (ns:List Str) (deep:Int),vs=[.ref p, .ref l, .int deep]/\0<=deep/\deep<4/\fH H p c/\c<=6000/\H l=some (.lst (ns.map V.str))/\1<=ns.length/\ns.length<=9/\(∀x∈ns,n8 x)/\
 ∀a r H',But [p] H H'->fH H' p (c+530)->IsR H' a r->Rk3 ns 4 r->Q (.ref a) H'
end RB
set_option maxRecDepth 100000
namespace RB
open PySem L2 PySem.Spec PyProof.Rows
theorem Gd {κ:Type} [DecidableEq κ] (kvs:List (κ×V)) (k:κ) (v:V):(putK kvs k v).map (·.1)=if(kvs.any fun kv=>decide (kv.1=k))=true then kvs.map (·.1) else kvs.map (·.1)++[k]:=by
 unfold putK
 split
 ·rw[List.map_map]
  apply List.map_congr_left
  intro p _
  show(if p.1=k then(p.1,v) else p).1=p.1
  split<;>rfl
 ·rw[List.map_append];rfl
theorem Ar {kvs:List (Key×V)}{ns:List Str} (h:kvs.map (·.1)=ns.map Sum.inr):kvs.map (fun kv=>kV kv.1)=ns.map V.str:=by
 have:kvs.map (fun kv=>kV kv.1)=(kvs.map (·.1)).map kV:=by rw[List.map_map];rfl
 rw[this,h,List.map_map];rfl
end RB
set_option maxRecDepth 100000
namespace RB
open PySem L2 PySem.Spec PyProof.Rows
structure jM (kvs:List (Key×V)) (ks:List Str):Prop where
 k:kvs.map (·.1)=ks.map Sum.inr
 nd:ks.Nodup
theorem jM.len {kvs:List (Key×V)}{ks:List Str} (h:jM kvs ks):kvs.length=ks.length:=by
 have:=congrArg List.length h.k
 rwa [List.length_map,List.length_map] at this
theorem G7 {kvs:List (Key×V)}{ks:List Str} (h:jM kvs ks) (x:Str):(kvs.any fun kv=>decide (kv.1=(.inr x:Key)))=decide (x∈ks):=by
 have e:(kvs.any fun kv=>decide (kv.1=(.inr x:Key)))=(kvs.map (·.1)).any (fun k=>decide (k=(.inr x:Key))):=by rw[List.any_map];rfl
 rw[e,h.k,List.any_map]
 clear e h
 induction ks with
 | nil=>rfl
 | cons y ks ih=>
   rw[List.any_cons,ih]
   by_cases hy:x=y
   ·subst hy;simp
   ·have:¬(y=x):=fun z=>hy z.symm
    simp[hy,this]
theorem jM.none {kvs:List (Key×V)}{ks:List Str} (h:jM kvs ks) {x:Str}:cP kvs (.inr x)=none ↔ x∉ks:=by
 have e:=G7 h x
 rw[u0] at e
 constructor
 ·intro z m
  rw[z] at e
  simp[m] at e
 ·intro m
  cases z:cP kvs (.inr x) with
  | none=>rfl
  | some v=>rw[z] at e;simp[m] at e
theorem jM.vm {kvs:List (Key×V)}{ks:List Str} (h:jM kvs ks) {x:Str} (hx:x∉ks) (v:V):jM (putK kvs (.inr x) v) (ks++[x]):=by
 refine⟨?_, ?_⟩
 ·rw[Gd,G7 h x,decide_eq_false hx,if_neg (by decide),h.k,List.map_append];rfl
 ·rw[List.nodup_append]
  exact⟨h.nd,by simp,fun a ha b hb=>by
   have:b=x:=by simpa using hb
   rw[this];exact fun z=>hx (z▸ha)⟩
theorem jM.KZ {kvs:List (Key×V)}{ks:List Str} (h:jM kvs ks) {x:Str} (hx:x∈ks) (v:V):jM (putK kvs (.inr x) v) ks:=by
 refine⟨?_,h.nd⟩
 rw[Gd,G7 h x,decide_eq_true hx,if_pos rfl,h.k]
def nmK (n:Nat):List Str:=(List.range n).map aD
theorem K1 {k:Nat} (h:k<26):n8 (aD k):=G3 _ (List.mem_append_left _ (List.mem_map.mpr ⟨k,List.mem_range.mpr h,rfl⟩))
theorem K3:∀i j:Fin 26,aD i.1=aD j.1->i=j:=by decide +kernel
theorem jz {i j:Nat} (hi:i<26) (hj:j<26) (h:aD i=aD j):i=j:=by
 have:=K3 ⟨i,hi⟩ ⟨j,hj⟩ h
 exact Fin.mk.inj this
theorem ji {n:Nat}{x:Str}:x∈nmK n ↔∃k,k<n/\x=aD k:=by
 unfold nmK
 rw[List.mem_map]
 constructor
 ·rintro⟨k,hk,rfl⟩;exact⟨k,List.mem_range.mp hk,rfl⟩
 ·rintro⟨k,hk,rfl⟩;exact⟨k,List.mem_range.mpr hk,rfl⟩
theorem Dt (n:Nat):nmK (n+1)=nmK n++[aD n]:=by unfold nmK;rw[List.range_succ,List.map_append];rfl
theorem lZ (n:Nat):(nmK n).length=n:=by unfold nmK;rw[List.length_map,List.length_range]
theorem Je {n:Nat} (h:n<=26):∀x∈nmK n,n8 x:=fun x hx=>by
 obtain⟨k,hk,rfl⟩:=ji.mp hx
 exact K1 (by omega)
theorem R.In.mono {ns ms:List Str} (h:∀x∈ns,x∈ms):∀{r:R},r.In ns->r.In ms
 | .num _,_=>trivial
 | .rd _,i=>h _ i
 | .bin _ _ _,i=>⟨i.1.mono h,i.2.mono h⟩
 | .pick _ _ _,i=>⟨i.1.mono h,i.2.1.mono h,i.2.2.mono h⟩
 | .cho _ _,i=>⟨i.1.mono h,fun x hx=>h x (i.2 x hx)⟩
theorem Rk3.mono {ns ms:List Str}{d:Nat}{r:R} (k:Rk3 ns d r) (h:∀x∈ns,x∈ms):Rk3 ms d r:=⟨k.g,k.t,k.i.mono h,k.d⟩
abbrev Rn:=Str->Option R
def Rn.put (rc:Rn) (x:Str) (r:R):Rn:=fun y=>if y=x then some r else rc y
structure BR (n:Nat) (gv:Kn) (rc:Rn):Prop where
 dom:∀k,k<n->gv (aD k)≠none\/rc (aD k)≠none
 gk:∀x,gv x≠none->x∈nmK n
 rk:∀x r,rc x=some r->∃k,k<n/\x=aD k/\Rk3 (nmK k) 4 r
 dj:∀x,gv x≠none->rc x=none
 g0:0<n->gv (aD 0)≠none
theorem BR.fresh {n:Nat}{gv:Kn}{rc:Rn} (h:BR n gv rc) (hn:n<26):gv (aD n)=none/\rc (aD n)=none:=by
 constructor
 ·cases e:gv (aD n) with
  | none=>rfl
  | some v=>
    obtain⟨k,hk,ek⟩:=ji.mp (h.gk (aD n) (by rw[e];simp))
    have:=jz hn (by omega) ek
    omega
 ·cases e:rc (aD n) with
  | none=>rfl
  | some r=>
    obtain⟨k,hk,ek,_⟩:=h.rk _ _ e
    have:=jz hn (by omega) ek
    omega
theorem BR.Us {n:Nat}{gv:Kn}{rc:Rn} (h:BR n gv rc) (hn:n<26) (v:Int):BR (n+1) (gv.put (aD n) v) rc:=by
 obtain⟨f1,f2⟩:=h.fresh hn
 refine⟨fun k hk=> ?_,fun x hx=> ?_,fun x r e=> ?_,fun x hx=> ?_,fun _=> ?_⟩
 ·unfold Kn.put
  by_cases e:k=n
  ·subst e;left;rw[if_pos rfl];simp
  ·rcases h.dom k (by omega) with z | z
   ·left;rw[if_neg (fun w=>e (jz (by omega) hn w))];exact z
   ·exact .inr z
 ·rw[Dt]
  unfold Kn.put at hx
  by_cases e:x=aD n
  ·rw[e];simp
  ·rw[if_neg e] at hx;exact List.mem_append_left _ (h.gk x hx)
 ·obtain⟨k,hk,ek,o⟩:=h.rk x r e
  exact⟨k,by omega,ek,o⟩
 ·unfold Kn.put at hx
  by_cases e:x=aD n
  ·rw[e];exact f2
  ·rw[if_neg e] at hx;exact h.dj x hx
 ·unfold Kn.put
  by_cases e:aD 0=aD n
  ·rw[if_pos e];simp
  ·rw[if_neg e]
   by_cases z:n=0
   ·subst z;exact absurd rfl e
   ·exact h.g0 (by omega)
theorem BR.Zf {n:Nat}{gv:Kn}{rc:Rn} (h:BR n gv rc) (hn:n<26) (h0:0<n) {r:R} (o:Rk3 (nmK n) 4 r):BR (n+1) gv (rc.put (aD n) r):=by
 obtain⟨f1,f2⟩:=h.fresh hn
 refine⟨fun k hk=> ?_,fun x hx=> ?_,fun x r' e=> ?_,fun x hx=> ?_,fun _=>h.g0 h0⟩
 ·unfold Rn.put
  by_cases e:k=n
  ·subst e;right;rw[if_pos rfl];simp
  ·rcases h.dom k (by omega) with z | z
   ·exact .inl z
   ·right;rw[if_neg (fun w=>e (jz (by omega) hn w))];exact z
 ·rw[Dt];exact List.mem_append_left _ (h.gk x hx)
 ·unfold Rn.put at e
  by_cases z:x=aD n
  ·rw[if_pos z] at e;cases e;exact⟨n,by omega,z,o⟩
  ·rw[if_neg z] at e
   obtain⟨k,hk,ek,o⟩:=h.rk x r' e
   exact⟨k,by omega,ek,o⟩
 ·unfold Rn.put
  rw[if_neg (fun z=>by rw[z,f1] at hx;exact hx rfl)];exact h.dj x hx
end RB
namespace RB
open PySem L2 PySem.Spec PyProof.Rows
structure Bld (H:Hp) (kg kc:List (Key×V)) (n:Nat) (gv:Kn) (rc:Rn):Prop where
 ok:BR n gv rc
 k:∃gs cs,jM kg gs/\jM kc cs/\gs.length+cs.length=n
 g:∀x,cP kg (.inr x)=(gv x).map V.int
 r:∀x r,rc x=some r->∃b,cP kc (.inr x)=some (.ref b)/\IsR H b r
 rn:∀x,rc x=none->cP kc (.inr x)=none
theorem Bld.tups {H H':Hp}{kg kc:List (Key×V)}{n:Nat}{gv:Kn}{rc:Rn} (h:Bld H kg kc n gv rc) (t:lq H H'):Bld H' kg kc n gv rc:=
 ⟨h.ok,h.k,h.g,fun x r e=>let ⟨b,h1,h2⟩:=h.r x r e;⟨b,h1,h2.tups t⟩,h.rn⟩
def pG (H:Hp) (h g c:Addr) (n:Nat) (gv:Kn) (rc:Rn):Prop:=∃kg kc,H h=some (.tup [.ref g, .ref c])/\H g=some (.dK kg)/\H c=some (.dK kc)/\Bld H kg kc n gv rc
theorem pG.same {H H':Hp}{h g c:Addr}{n:Nat}{gv:Kn}{rc:Rn} (a:pG H h g c n gv rc) (s:aN H H'):pG H' h g c n gv rc:=by
 obtain⟨kg,kc,e,e1,e2,b⟩:=a
 exact⟨kg,kc,s _ _ e,s _ _ e1,s _ _ e2,b.tups (aN.tups s)⟩
theorem Bld.Us {H:Hp}{kg kc:List (Key×V)}{n:Nat}{gv:Kn}{rc:Rn} (h:Bld H kg kc n gv rc) (hn:n<26) (v:Int):Bld H (putK kg (.inr (aD n)) (.int v)) kc (n+1) (gv.put (aD n) v) rc:=by
 obtain⟨gs,cs,h1,h2,h3⟩:=h.k
 have hx:aD n∉gs:=h1.none.mp (by rw[h.g,(h.ok.fresh hn).1];rfl)
 refine⟨h.ok.Us hn v,⟨_,cs,h1.vm hx _,h2,by rw[List.length_append];simp;omega⟩,fun x=> ?_,h.r,h.rn⟩
 rw[lU]
 unfold Kn.put
 by_cases z:x=aD n
 ·rw[if_pos (by rw[z]),if_pos z];rfl
 ·rw[if_neg (fun w=>z (Sum.inr.inj w)),if_neg z];exact h.g x
theorem Bld.Zf {H:Hp}{kg kc:List (Key×V)}{n:Nat}{gv:Kn}{rc:Rn} (h:Bld H kg kc n gv rc) (hn:n<26) (h0:0<n) {b:Addr}{r:R} (o:Rk3 (nmK n) 4 r) (hb:IsR H b r):Bld H kg (putK kc (.inr (aD n)) (.ref b)) (n+1) gv (rc.put (aD n) r):=by
 obtain⟨gs,cs,h1,h2,h3⟩:=h.k
 have hx:aD n∉cs:=h2.none.mp (h.rn _ (h.ok.fresh hn).2)
 refine⟨h.ok.Zf hn h0 o,⟨gs,_,h1,h2.vm hx _,by rw[List.length_append];simp;omega⟩,h.g,fun x r' e=> ?_,fun x e=> ?_⟩
 ·rw[lU]
  unfold Rn.put at e
  by_cases z:x=aD n
  ·rw[if_pos z] at e;cases e
   exact⟨b,by rw[if_pos (by rw[z])],hb⟩
  ·rw[if_neg z] at e
   rw[if_neg (fun w=>z (Sum.inr.inj w))];exact h.r x r' e
 ·rw[lU]
  unfold Rn.put at e
  by_cases z:x=aD n
  ·rw[if_pos z] at e;cases e
  ·rw[if_neg z] at e
   rw[if_neg (fun w=>z (Sum.inr.inj w))];exact h.rn x e
def WD (K:PySem.W.Frag):Sp:=fun vs H Q _=>∃(a:Addr) (zs:List Int) (start:Int) (many:Nat),vs=[.ref a, .int start, .int many]/\SqL K H a (zs.map V.int)/\0<=start/\start<=50/\many<=17/\
 ∀h g c gv rc H',aN H H'->H h=none->H g=none->H c=none->pG H' h g c many gv rc->Q (.ref h) H'
theorem afk {n:Nat} (h:1<=n):∃ns:List Str,HX ((nmK n).map V.str) (some (-9)) none=ns.map V.str/\1<=ns.length/\ns.length<=9/\∀x∈ns,x∈nmK n:=by
 unfold HX
 have hl:((nmK n).map V.str).length=n:=by rw[List.length_map,lZ]
 rw[hl]
 have e1:HT.sIx n 0 (some (-9))=n - 9:=by
  show(if(-9:Int)<0 then((-9:Int)+(n:Int)).toNat else min (-9:Int).toNat n)=_
  rw[if_pos (by decide)];omega
 have e2:HT.sIx n n none=n:=rfl
 rw[e1,e2,<-List.map_drop,<-List.map_take]
 refine⟨_,rfl, ?_, ?_,fun x hx=>List.mem_of_mem_drop (List.mem_of_mem_take hx)⟩
 ·rw[List.length_take,List.length_drop,lZ];omega
 ·rw[List.length_take,List.length_drop,lZ];omega
end RB
namespace RB
open PySem L2 PySem.Spec PyProof.Rows
section
variable {H:Hp}{kg kc:List (Key×V)}{n:Nat}{gv:Kn}{rc:Rn}
theorem Av {x y:Str} (h:¬x=y):¬(Sum.inr x:Key)=Sum.inr y:=fun z=>h (Sum.inr.inj z)
end
end RB
set_option maxRecDepth 100000
namespace RB
open PySem L2 PySem.Spec PyProof.Rows
structure qb (r:R) (kn:Kn) (us:List Rdp) (v:Int):Prop where
 c:Chn r kn us
 e:ev (kn.puts us) r= .inr v
theorem Ut {n:Int}{kn:Kn}:qb (.num n) kn [] n:=⟨trivial,rfl⟩
theorem Uu {kn:Kn}{x:Str}{v:Int} (h:kn x=some v):qb (.rd x) kn [] v:=⟨trivial,by show look kn x=_;unfold look;rw[h]⟩
theorem Uv {kn:Kn}{x:Str}{v:Int} (h:kn x=none):qb (.rd x) kn [(x,v)] v:=by
 refine⟨⟨by show look kn x=_;unfold look;rw[h],trivial⟩, ?_⟩
 show look (kn.put x v) x=_
 unfold look Kn.put
 rw[if_pos rfl]
theorem Uw {op:Op}{a b:R}{kn:Kn}{us vs:List Rdp}{u v:Int} (ha:qb a kn us u) (hb:qb b (kn.puts us) vs v):qb (.bin op a b) kn (us++vs) (op.ap u v):=by
 have ua:∀kn' x,ev kn' a= .inl x->ev kn' (.bin op a b)= .inl x:=fun kn' x e=>by simp only[ev];rw[e]
 have ub:∀kn' x,Kn.Le (kn.puts us) kn'->ev kn' b= .inl x->ev kn' (.bin op a b)= .inl x:=fun kn' x l e=>by simp only[ev];rw[rH l ha.e];simp only;rw[e]
 exact⟨(ha.c.up fun kn' x _ e=>ua kn' x e).app (hb.c.up ub),by rw[Kn.gM];simp only[ev];rw[rH hb.c.le ha.e];simp only;rw[hb.e]⟩
theorem QD {a b c:R}{kn:Kn}{us vs:List Rdp}{u v:Int} (ha:qb a kn us u) (hb:qb (if u>0 then b else c) (kn.puts us) vs v):qb (.pick a b c) kn (us++vs) v:=by
 have ua:∀kn' x,ev kn' a= .inl x->ev kn' (.pick a b c)= .inl x:=fun kn' x e=>by simp only[ev];rw[e]
 have e:∀kn':Kn,Kn.Le (kn.puts us) kn'->ev kn' (.pick a b c)=ev kn' (if u>0 then b else c):=fun kn' l=>by
  simp only[ev];rw[rH l ha.e];simp only;split<;>rfl
 exact⟨(ha.c.up fun kn' x _ e=>ua kn' x e).app (hb.c.up fun kn' x l z=>by rw[e kn' l];exact z),by rw[Kn.gM,e _ hb.c.le];exact hb.e⟩
theorem Ux {a:R}{ns:List Str}{x:Str}{kn:Kn}{us vs:List Rdp}{u v:Int} (ha:qb a kn us u) (hx:vg ns u=some x) (hb:qb (.rd x) (kn.puts us) vs v):qb (.cho a ns) kn (us++vs) v:=by
 have ua:∀kn' x,ev kn' a= .inl x->ev kn' (.cho a ns)= .inl x:=fun kn' x e=>by simp only[ev];rw[e]
 have e:∀kn':Kn,Kn.Le (kn.puts us) kn'->ev kn' (.cho a ns)=ev kn' (.rd x):=fun kn' l=>by
  simp only[ev];rw[rH l ha.e];simp only;rw[hx]
 exact⟨(ha.c.up fun kn' x _ e=>ua kn' x e).app (hb.c.up fun kn' x l z=>by rw[e kn' l];exact z),by rw[Kn.gM,e _ hb.c.le];exact hb.e⟩
theorem zH {x:Str}{u:Int}:∀{ps:List Rdp}{kn:Kn},kn.puts ps x=some u->(x,u)∈ps\/kn x=some u
 |[],kn,h=> .inr h
 | p::ps,kn,h=>by
   rcases zH (ps:=ps) h with z | z
   ·exact .inl (List.mem_cons_of_mem _ z)
   ·unfold Kn.put at z
    by_cases e:x=p.1
    ·rw[if_pos e] at z
     left
     have:p=(x,u):=by rw[e];exact Prod.ext rfl (Option.some.inj z)
     rw[this];simp
    ·rw[if_neg e] at z;exact .inr z
theorem Du {x:Str}:∀{ps:List Rdp}{kn:Kn},kn.puts ps x=none->x∉ps.map (·.1)/\kn x=none
 |[],kn,h=>⟨by simp,h⟩
 | p::ps,kn,h=>by
   obtain⟨z1,z2⟩:=Du (ps:=ps) h
   unfold Kn.put at z2
   by_cases e:x=p.1
   ·rw[if_pos e] at z2;cases z2
   ·rw[if_neg e] at z2
    exact⟨by rw[List.map_cons,List.mem_cons];exact fun w=>w.elim e z1,z2⟩
structure Rows (kn:Kn) (ps:List Rdp):Prop where
 s:∀p∈ps,kn p.1=some p.2
 nd:(ps.map (·.1)).Nodup
theorem Rows.le {kn kn':Kn}{ps:List Rdp} (h:Rows kn ps) (l:Kn.Le kn kn'):Rows kn' ps:=⟨fun p hp=>l _ _ (h.s p hp),h.nd⟩
theorem iz:∀{ws ns:List Str},ws.Nodup->(∀x∈ws,x∈ns)->ws.length<=ns.length
 |[],_,_,_=>Nat.zero_le _
 | w::ws,ns,nd,h=>by
   rw[List.nodup_cons] at nd
   have hw:=h w (by simp)
   have ih:=iz (ws:=ws) (ns:=ns.erase w) nd.2 fun x hx=>by
    have hne:x≠w:=fun e=>nd.1 (by rw[<-e];exact hx)
    exact(List.mem_erase_of_ne hne).mpr (h x (by simp[hx]))
   rw[List.length_erase_of_mem hw] at ih
   have:=List.length_pos_of_mem hw
   simp only[List.length_cons]
   omega
theorem Rows.look {kn:Kn}{ps:List Rdp}{x:Str}{v:Int} (h:Rows kn ps) (hx:kn x=some v):if(x,v)∈ps then qb (.rd x) (kn0.puts ps) [] v else qb (.rd x) (kn0.puts ps) [(x,v)] v/\Rows kn (ps++[(x,v)]):=by
 by_cases hm:(x,v)∈ps
 ·rw[if_pos hm]
  cases e:kn0.puts ps x with
  | none=>exact absurd (List.mem_map.mpr ⟨_,hm,rfl⟩) (Du e).1
  | some u=>
    rcases zH e with z | z
    ·have:=h.s _ z
     rw[hx] at this
     cases this
     exact Uu e
    ·cases z
 ·rw[if_neg hm]
  have hn:kn0.puts ps x=none:=by
   cases e:kn0.puts ps x with
   | none=>rfl
   | some u=>
     rcases zH e with z | z
     ·have:=h.s _ z
      rw[hx] at this
      cases this
      exact absurd z hm
     ·cases z
  refine⟨Uv hn,fun p hp=> ?_, ?_⟩
  ·rcases List.mem_append.mp hp with z | z
   ·exact h.s p z
   ·have:p=(x,v):=by simpa using z
    rw[this];exact hx
  ·rw[List.map_append,List.nodup_append]
   exact⟨h.nd,by simp,fun a ha b hb=>by
    have:b=x:=by simpa using hb
    rw[this];exact fun z=>(Du hn).1 (z▸ha)⟩
abbrev Rm:=Str->Option (R×List Rdp×Int)
def Rm.put (rm:Rm) (x:Str) (q:R×List Rdp×Int):Rm:=fun y=>if y=x then some q else rm y
def wO (X:List Addr) (H:Hp) (b:Addr) (q:R×List Rdp×Int):Prop:=∃br l as,H b=some (.tup [.ref br, .ref l, .int q.2.2])/\IsR H br q.1/\H l=some (.lst (as.map V.ref))/\jG H as q.2.1/\l∉X
structure oK (n:Nat) (gv:Kn) (rc:Rn) (kn:Kn) (rm:Rm):Prop where
 a:∀x v,kn x=some v->x∈nmK n/\(gv x=some v\/(gv x=none/\∃r ps,rc x=some r/\rm x=some (r,ps,v)))
 b:∀x r ps v,rm x=some (r,ps,v)->rc x=some r/\gv x=none/\kn x=some v/\qb r kn0 ps v/\Rows kn ps
section
variable {X:List Addr}{H H':Hp}{st wd rd:Addr}{n:Nat}{gv:Kn}{rc:Rn}{kn:Kn}{rm:Rm}
theorem wO.but {S:List Addr}{b:Addr}{q:R×List Rdp×Int} (h:wO X H b q) (bt:But S H H') (tp:lq H H') (hs:∀y∈S,y∈X\/∀xs,H y≠some (.lst xs)):wO X H' b q:=by
 obtain⟨br,l,as,e,r,el,rs,hx⟩:=h
 exact⟨br,l,as,tp _ _ e,r.tups tp,bt _ _ (fun z=>(hs l z).elim hx fun w=>w _ el) el,rs.tups tp,hx⟩
end
end RB
namespace RB
open PySem L2 PySem.Spec PyProof.Rows
end RB
set_option maxRecDepth 100000
namespace RB
open PySem L2 PySem.Spec PyProof.Rows
section
variable {H:Hp}{s l h:Addr}{du wr:V}
end
section
variable {H H':Hp}{s l h:Addr}{kn:Kn}{ps:List Rdp}
end
end RB
namespace RB
open PySem L2 PySem.Spec PyProof.Rows
end RB
namespace RB
open PySem L2 PySem.Spec PyProof.Rows
def rdD (p:Rdp):PyData:= .tuple [.str p.1, .int p.2]
theorem Ge {K:PySem.W.Frag}{H:Hp}:∀{as:List Addr}{ps:List Rdp},jG H as ps->uA K H (as.map V.ref) (ps.map rdD)
 | _,_, .nil=> .nil
 | _,_, .cons h t=> .cons (.tup (SqT.of h) (.cons (.str _) (.cons (.int _) .nil))) (Ge t)
theorem MP:∀ps:List Rdp,(∀p∈ps,n8 p.1)->PyData.canLayAll0 (ps.map rdD)=true/\PyData.depthAll (ps.map rdD)<=4
 |[],_=>⟨rfl,by decide⟩
 | p::r,h=>by
   obtain⟨h1,h2⟩:=MP r fun y hy=>h y (List.mem_cons_of_mem _ hy)
   have hs:=yh (h p List.mem_cons_self)
   constructor
   ·show((PyData.strOk p.1&&(true&&true))&&PyData.canLayAll0 _)=true
    rw[h1,hs];rfl
   ·have e1:(rdD p).depth<=4:=by simp only[rdD,PyData.depthAll,PyData.depth];omega
    simp only[List.map_cons,PyData.depthAll]
    omega
end RB
set_option maxRecDepth 100000
namespace RB
open PySem L2 PySem.Spec PyProof.Rows
theorem Bt {ns:List Str}:∀{r:R}{kn:Kn}{x:Str},r.In ns->ev kn r= .inl x->x∈ns
 | .num n,kn,x,i,h=>by cases h
 | .rd y,kn,x,i,h=>by obtain⟨rfl,_⟩:=wH h;exact i
 | .bin op a b,kn,x,i,h=>by
   simp only[ev] at h
   cases ea:ev kn a with
   | inl y=>rw[ea] at h;cases h;exact Bt i.1 ea
   | inr u=>
     rw[ea] at h
     cases eb:ev kn b with
     | inl y=>rw[eb] at h;cases h;exact Bt i.2 eb
     | inr v=>rw[eb] at h;cases h
 | .pick a b c,kn,x,i,h=>by
   simp only[ev] at h
   cases ea:ev kn a with
   | inl y=>rw[ea] at h;cases h;exact Bt i.1 ea
   | inr u=>
     rw[ea] at h
     simp only at h
     split at h
     ·exact Bt i.2.1 h
     ·exact Bt i.2.2 h
 | .cho a ms,kn,x,i,h=>by
   simp only[ev] at h
   cases ea:ev kn a with
   | inl y=>rw[ea] at h;cases h;exact Bt i.1 ea
   | inr u=>
     rw[ea] at h
     simp only at h
     cases ep:vg ms u with
     | none=>rw[ep] at h;cases h
     | some y=>
       rw[ep] at h
       obtain⟨rfl,_⟩:=wH h
       exact i.2 _ (List.mem_of_getElem? ep)
end RB
set_option maxRecDepth 100000
namespace RB
open PySem L2 PySem.Spec PyProof.Rows
section
variable {X:List Addr}{H:Hp}{h g c st wd rd:Addr}{n:Nat}{gv:Kn}{rc:Rn}{kn:Kn}{rm:Rm}
theorem oK.afl {x:Str}{v:Int} (h:oK n gv rc kn rm) (hx:x∈nmK n) (hk:kn x=none) (hg:gv x=some v):oK n gv rc (kn.put x v) rm:=by
 refine⟨fun y u e=> ?_,fun y r ps u e=> ?_⟩
 ·unfold Kn.put at e
  by_cases z:y=x
  ·rw[if_pos z] at e;cases e;rw[z];exact⟨hx, .inl hg⟩
  ·rw[if_neg z] at e;exact h.a y u e
 ·obtain⟨h1,h2,h3,h4,h5⟩:=h.b y r ps u e
  exact⟨h1,h2,Kn.pF hk _ _ h3,h4,h5.le (Kn.pF hk)⟩
theorem oK.uE {x:Str}{r:R}{ps:List Rdp}{v:Int} (h:oK n gv rc kn rm) (hx:x∈nmK n) (hk:kn x=none) (hg:gv x=none) (hr:rc x=some r) (got:qb r kn0 ps v) (row:Rows kn ps):oK n gv rc (kn.put x v) (rm.put x (r,ps,v)):=by
 refine⟨fun y u e=> ?_,fun y r' ps' u e=> ?_⟩
 ·unfold Kn.put at e
  by_cases z:y=x
  ·rw[if_pos z] at e;cases e
   refine⟨by rw[z];exact hx, .inr ⟨by rw[z];exact hg,r,ps,by rw[z];exact hr, ?_⟩⟩
   unfold Rm.put;rw[if_pos z]
  ·rw[if_neg z] at e
   obtain⟨h1,h2⟩:=h.a y u e
   refine⟨h1,h2.elim .inl fun⟨w0,r1,ps1,w1,w2⟩=> .inr ⟨w0,r1,ps1,w1, ?_⟩⟩
   unfold Rm.put;rw[if_neg z];exact w2
 ·unfold Rm.put at e
  by_cases z:y=x
  ·rw[if_pos z] at e;cases e
   refine⟨by rw[z];exact hr,by rw[z];exact hg, ?_,got,row.le (Kn.pF hk)⟩
   unfold Kn.put;rw[if_pos z]
  ·rw[if_neg z] at e
   obtain⟨h1,h2,h3,h4,h5⟩:=h.b y r' ps' u e
   exact⟨h1,h2,Kn.pF hk _ _ h3,h4,h5.le (Kn.pF hk)⟩
theorem G8 {d:Addr}{kvs:List (Key×V)}{o:HO} (e:H d=some (.dK kvs)):lq H (upd H d o):=fun y xs z=>(au (fun w=>by rw[w,e] at z;cases z)).trans z
theorem Cr {kw:List (Key×V)} (v4:∀y,cP kw (.inr y)=(kn y).map V.int) (x:Str) (v:Int):∀y,cP (putK kw (.inr x) (.int v)) (.inr y)=((kn.put x v) y).map V.int:=fun y=>by
 rw[lU]
 unfold Kn.put
 by_cases z:y=x
 ·rw[if_pos (by rw[z]),if_pos z];rfl
 ·rw[if_neg (Av z),if_neg z];exact v4 y
end
end RB
namespace RB
open PySem L2 PySem.Spec PyProof.Rows
end RB
namespace RB
open PySem L2 PySem.Spec PyProof.Rows
theorem Dv {r:R}{ns:List Str} (hi:r.In ns):∀{ps:List Rdp}{kn:Kn},Chn r kn ps->∀p∈ps,p.1∈ns
 |[],_,_,p,hp=>by cases hp
 | q::ps,kn,c,p,hp=>by
   rcases List.mem_cons.mp hp with z | z
   ·rw[z];exact Bt hi c.1
   ·exact Dv hi (ps:=ps) c.2 p z
def Zg (n:Nat) (rm:Rm):Prop:=∀x r ps v,rm x=some (r,ps,v)->qb r kn0 ps v/\∃k,k<n/\x=aD k/\Rk3 (nmK k) 4 r
structure mJ (H:Hp) (kr:List (Key×V)) (n:Nat) (rm:Rm):Prop where
 k:∃rs,jM kr rs/\∀x∈rs,x∈nmK n
 v:∀x q,rm x=some q->∃b,cP kr (.inr x)=some (.ref b)/\wO [] H b q
 w:∀x,rm x=none->cP kr (.inr x)=none
 ok:Zg n rm
theorem wO.same {X:List Addr}{H H':Hp}{b:Addr}{q:R×List Rdp×Int} (r:wO X H b q) (s:aN H H'):wO X H' b q:=r.but (S:=[]) (But.of_same s) (aN.tups s) (by simp)
theorem mJ.map {H H':Hp}{kr:List (Key×V)}{n:Nat}{rm:Rm} (h:mJ H kr n rm) (f:∀b q,wO [] H b q->wO [] H' b q):mJ H' kr n rm:=⟨h.k,fun x q e=>let ⟨b,h1,h2⟩:=h.v x q e;⟨b,h1,f b q h2⟩,h.w,h.ok⟩
theorem mJ.len {H:Hp}{kr:List (Key×V)}{n:Nat}{rm:Rm} (h:mJ H kr n rm):kr.length<=n:=by
 obtain⟨rs,k,hr⟩:=h.k
 rw[k.len,<-lZ n]
 exact iz k.nd hr
theorem mJ.put {H:Hp}{kr:List (Key×V)}{n:Nat}{rm:Rm} (h:mJ H kr n rm) {x:Str}{q:R×List Rdp×Int}{b:Addr} (hx:x∈nmK n) (ra:wO [] H b q) (hq:qb q.1 kn0 q.2.1 q.2.2/\∃k,k<n/\x=aD k/\Rk3 (nmK k) 4 q.1):mJ H (putK kr (.inr x) (.ref b)) n (rm.put x q):=by
 obtain⟨rs,k,hr⟩:=h.k
 refine⟨?_,fun y q' e=> ?_,fun y e=> ?_,fun y r ps v e=> ?_⟩
 ·by_cases hm:x∈rs
  ·exact⟨rs,k.KZ hm _,hr⟩
  ·exact⟨_,k.vm hm _,fun y hy=>by
    rcases List.mem_append.mp hy with z | z
    ·exact hr y z
    ·have:y=x:=by simpa using z
     rw[this];exact hx⟩
 ·rw[lU]
  unfold Rm.put at e
  by_cases z:y=x
  ·rw[if_pos z] at e;cases e
   exact⟨b,by rw[if_pos (by rw[z])],ra⟩
  ·rw[if_neg z] at e;rw[if_neg (Av z)];exact h.v y q' e
 ·rw[lU]
  unfold Rm.put at e
  by_cases z:y=x
  ·rw[if_pos z] at e;cases e
  ·rw[if_neg z] at e;rw[if_neg (Av z)];exact h.w y e
 ·unfold Rm.put at e
  by_cases z:y=x
  ·rw[if_pos z] at e;cases e
   rw[z];exact hq
  ·rw[if_neg z] at e;exact h.ok y r ps v e
end RB
namespace RB
open PySem L2 PySem.Spec PyProof.Rows
theorem jM.at {kvs:List (Key×V)}{ks:List Str} (h:jM kvs ks) {i:Nat}{k:Key}{v:V} (e:kvs[i]? =some (k,v)):∃x,k= .inr x/\ks[i]? =some x:=by
 have h1:(kvs.map (·.1))[i]? =some k:=by rw[List.getElem?_map,e];rfl
 rw[h.k,List.getElem?_map] at h1
 cases z:ks[i]? with
 | none=>rw[z] at h1;cases h1
 | some x=>rw[z] at h1;exact⟨x,(Option.some.inj h1).symm,rfl⟩
end RB
set_option maxRecDepth 100000
namespace RB
open PySem L2 PySem.Spec PyProof.Rows
theorem again {r:R}{kn:Kn}{v:Int}:∀(k:Nat) {ps qs:List Rdp}{kn1:Kn},Chn r kn1 ps->Chn r kn1 qs->ev (kn1.puts qs) r= .inr v->(∀q∈qs,kn q.1=some q.2)->(∀(j:Nat) p,j<k->ps[j]? =some p->kn p.1=some p.2)->∀p,ps[k]? =some p->∃u,kn p.1=some u
 | k,[],qs,kn1,cp,cq,e,hq,hj,p,hp=>by simp at hp
 | k,q0::ps,[],kn1,cp,cq,e,hq,hj,p,hp=>by
   have h1:=cp.1
   have e:ev kn1 r= .inr v:=e
   rw[e] at h1;cases h1
 | 0,q0::ps,q::qs,kn1,cp,cq,e,hq,hj,p,hp=>by
   have:q0=p:=by simpa using hp
   subst this
   have h1:=cp.1
   rw[cq.1] at h1
   have:q.1=q0.1:=Sum.inl.inj h1
   exact⟨q.2,by rw[<-this];exact hq q (by simp)⟩
 | k+1,q0::ps,q::qs,kn1,cp,cq,e,hq,hj,p,hp=>by
   have h1:=cp.1
   rw[cq.1] at h1
   have e1:q.1=q0.1:=Sum.inl.inj h1
   have h2:=hj 0 q0 (by omega) rfl
   have h3:=hq q (by simp)
   rw[e1,h2] at h3
   have e2:q0.2=q.2:=Option.some.inj h3
   have cq2:=cq.2
   have ee:ev ((kn1.put q.1 q.2).puts qs) r= .inr v:=e
   rw[e1,<-e2] at cq2 ee
   exact again k cp.2 cq2 ee (fun y hy=>hq y (by simp[hy])) (fun j p' hj' hp'=>hj (j+1) p' (by omega) (by simpa using hp')) p (by simpa using hp)
inductive Pap where
 | given | new | rcp (r s:R) | rd (k:Nat) (n m:Int) | alike
inductive lu (H:Hp) (b:Addr):Pap->Prop where
 | given (e:H b=some (.tup [.str "given"])):lu H b .given
 | new (e:H b=some (.tup [.str "new"])):lu H b .new
 | rcp {r s:R}{p q:Addr} (e:H b=some (.tup [.str "recipe", .ref p, .ref q])) (hp:IsR H p r) (hq:IsR H q s) (gr:r.Good) (gs:s.Good) (dr:r.depth<=8) (ds:s.depth<=8):lu H b (.rcp r s)
 | rd {k:Nat}{n m:Int} (e:H b=some (.tup [.str "read", .int k, .int n, .int m])):lu H b (.rd k n m)
 | alike (e:H b=some (.tup [.str "alike"])):lu H b .alike
theorem lu.tups {H H':Hp}{b:Addr}{p:Pap} (h:lu H b p) (t:lq H H'):lu H' b p:=by
 cases h with
 | given e=>exact .given (t _ _ e)
 | new e=>exact .new (t _ _ e)
 | rcp e hp hq a b c d=>exact .rcp (t _ _ e) (hp.tups t) (hq.tups t) a b c d
 | rd e=>exact .rd (t _ _ e)
 | alike e=>exact .alike (t _ _ e)
def WK (rm:Rm) (kn:Kn) (x:Str):Pap->Prop
 | .rd k _ _=>∃r ps v y nn u,rm x=some (r,ps,v)/\ps[k]? =some (y,nn)/\kn y=some u
 | _=>True
end RB
namespace RB
open PySem L2 PySem.Spec PyProof.Rows
theorem wI {r:R}:∀{ps:List Rdp}{kn:Kn},Chn r kn ps->(∀p∈ps,kn p.1=none)/\(ps.map (·.1)).Nodup
 |[],_,_=>⟨by simp,by simp⟩
 | q::ps,kn,c=>by
   obtain⟨h1,h2⟩:=wI (ps:=ps) c.2
   have h0:=oJ c.1
   have h3:∀p∈ps,p.1≠q.1/\kn p.1=none:=fun p hp=>by
    have:=h1 p hp
    unfold Kn.put at this
    by_cases z:p.1=q.1
    ·rw[if_pos z] at this;cases this
    ·rw[if_neg z] at this;exact⟨z,this⟩
   refine⟨fun p hp=> ?_, ?_⟩
   ·rcases List.mem_cons.mp hp with z | z
    ·rw[z];exact h0
    ·exact(h3 p z).2
   ·rw[List.map_cons,List.nodup_cons]
    refine⟨fun hm=> ?_,h2⟩
    obtain⟨p,hp,e⟩:=List.mem_map.mp hm
    exact(h3 p hp).1 e
theorem MT {r:R}{ps:List Rdp}{kn:Kn}{k:Nat} (c:Chn r kn ps) (hi:r.In (nmK k)):ps.length<=k:=by
 have:=iz (wI c).2 (ns:=nmK k) fun x hx=>by
  obtain⟨p,hp,rfl⟩:=List.mem_map.mp hx
  exact Dv hi c p hp
 rwa [List.length_map,lZ] at this
end RB
set_option maxRecDepth 100000
namespace RB
open PySem L2 PySem.Spec PyProof.Rows
abbrev Pm:=Str->Option (Addr×Pap)
inductive Chain (pa:Pm) (rm:Rm):Str->List Str->Prop where
 | g {x:Str}{b:Addr} (h:pa x=some (b, .given)):Chain pa rm x []
 | a {x:Str}{b:Addr} (h:pa x=some (b, .alike)):Chain pa rm x []
 | n {x:Str}{b:Addr} (h:pa x=some (b, .new)):Chain pa rm x [x]
 | r {x:Str}{b:Addr}{r s:R} (h:pa x=some (b, .rcp r s)):Chain pa rm x [x]
 | s {x y:Str}{b:Addr}{k:Nat}{n m nn:Int}{r:R}{ps:List Rdp}{v:Int}{ys:List Str} (h:pa x=some (b, .rd k n m)) (hr:rm x=some (r,ps,v)) (hp:ps[k]? =some (y,nn)) (t:Chain pa rm y ys):Chain pa rm x (x::ys)
theorem Jf {pa:Pm}{rm:Rm}{kn:Kn}{n:Nat} (h17:n<=17) (hok:Zg n rm) (hd:∀x,kn x≠none->∃b p,pa x=some (b,p)/\WK rm kn x p) (hn:∀x,kn x≠none->x∈nmK n):∀(f k:Nat),k<f->k<n->kn (aD k)≠none->∃ys,Chain pa rm (aD k) ys/\ys.length<=f
 | 0,k,h,_,_=>by omega
 | f+1,k,h,hkn,hx=>by
   obtain⟨b,p,hp,ok⟩:=hd _ hx
   cases p with
   | given=>exact⟨[], .g hp,by simp⟩
   | alike=>exact⟨[], .a hp,by simp⟩
   | new=>exact⟨[aD k], .n hp,by simp⟩
   | rcp r s=>exact⟨[aD k], .r hp,by simp⟩
   | rd j nn m=>
     obtain⟨r,ps,v,y,n2,u,h1,h2,h3⟩:=ok
     obtain⟨got,k',hk',ek',rk'⟩:=hok _ r ps v h1
     have:k=k':=jz (by omega) (by omega) ek'
     subst this
     obtain⟨i,hi,ei⟩:=ji.mp (Dv rk'.i got.c (y,n2) (List.mem_of_getElem? h2))
     have ei:y=aD i:=ei
     subst ei
     obtain⟨ys,c,l⟩:=Jf h17 hok hd hn f i (by omega) (by omega) (by rw[h3];simp)
     exact⟨_, .s hp h1 h2 c,by simp;omega⟩
def BV (pa:Pm) (x:Str):List V:=match pa x with
 | some (b,_)=>[.str x, .ref b]
 | none=>[]
inductive qd (H:Hp) (pa:Pm):List Addr->List Str->Prop where
 | nil:qd H pa [] []
 | cons {a:Addr}{x:Str}{as:List Addr}{xs:List Str} (h:H a=some (.tup (BV pa x))) (t:qd H pa as xs):qd H pa (a::as) (x::xs)
theorem qd.tups {H H':Hp}{pa:Pm} (t:lq H H') {as:List Addr}{xs:List Str} (h:qd H pa as xs):qd H' pa as xs:=by
 induction h with
 | nil=>exact .nil
 | cons h _ ih=>exact .cons (t _ _ h) ih
theorem qd.snoc {H:Hp}{pa:Pm}{a:Addr}{x:Str} (h:H a=some (.tup (BV pa x))):∀{as:List Addr}{xs:List Str},qd H pa as xs->qd H pa (as++[a]) (xs++[x])
 | _,_, .nil=> .cons h .nil
 | _,_, .cons h' t=> .cons h' (t.snoc h)
theorem qd.length {H:Hp}{pa:Pm}{as:List Addr}{xs:List Str} (h:qd H pa as xs):as.length=xs.length:=by
 induction h with
 | nil=>rfl
 | cons _ _ ih=>simp[ih]
structure K4 (H:Hp) (pd:Addr) (kp:List (Key×V)) (pa:Pm):Prop where
 e:Rd H pd (.dK kp)
 v:∀x b p,pa x=some (b,p)->cP kp (.inr x)=some (.ref b)/\lu H b p
theorem K4.get {H:Hp}{pd:Addr}{kp:List (Key×V)}{pa:Pm} (h:K4 H pd kp pa) {x:Str}{b:Addr}{p:Pap} (e:pa x=some (b,p)):bN H pd (.str x) (some (.ref b)):=by
 rw[<-(h.v x b p e).1];exact .inl ⟨kp, .inr x,h.e,rfl,rfl⟩
theorem Rd.same {H H':Hp}{a:Addr}{u:HO} (r:Rd H a u) (s:aN H H'):Rd H' a u:=by
 rcases r with r | ⟨o,r⟩
 ·exact .inl (s _ _ r)
 ·exact .inr ⟨o,s _ _ r⟩
theorem K4.same {H H':Hp}{pd:Addr}{kp:List (Key×V)}{pa:Pm} (h:K4 H pd kp pa) (s:aN H H'):K4 H' pd kp pa:=⟨Rd.same h.e s,fun x b p e=>⟨(h.v x b p e).1,(h.v x b p e).2.tups (aN.tups s)⟩⟩
def WL:Sp:=fun vs H Q _=>∃(pd rcd:Addr) (kp kr:List (Key×V)) (pa:Pm) (n:Nat) (rm:Rm) (x:Str) (ys:List Str),vs=[.ref pd, .ref rcd, .str x]/\K4 H pd kp pa/\Rd H rcd (.dK kr)/\mJ H kr n rm/\Chain pa rm x ys/\ys.length<=100/\
 ∀l as H',aN H H'->H l=none->H' l=some (.lst (as.map V.ref))->qd H' pa as ys->Q (.ref l) H'
end RB
set_option maxRecDepth 100000
namespace RB
open PySem L2 PySem.Spec PyProof.Rows
def Pap.dat:Pap->PyData
 | .given=> .tuple [.str "given"]
 | .new=> .tuple [.str "new"]
 | .rcp r s=> .tuple [.str "recipe",r.dat,s.dat]
 | .rd k n m=> .tuple [.str "read", .int k, .int n, .int m]
 | .alike=> .tuple [.str "alike"]
theorem lu.dat {K:PySem.W.Frag}{H:Hp}{b:Addr}{p:Pap} (h:lu H b p):qJ K H (.ref b) p.dat:=by
 cases h with
 | given e=>exact .tup (SqT.of e) (.cons (.str _) .nil)
 | new e=>exact .tup (SqT.of e) (.cons (.str _) .nil)
 | rcp e hp hq _ _ _ _=>exact .tup (SqT.of e) (.cons (.str _) (.cons hp.dat (.cons hq.dat .nil)))
 | rd e=>exact .tup (SqT.of e) (.cons (.str _) (.cons (.int _) (.cons (.int _) (.cons (.int _) .nil))))
 | alike e=>exact .tup (SqT.of e) (.cons (.str _) .nil)
theorem lu.lay {H:Hp}{b:Addr}{p:Pap} (h:lu H b p):p.dat.canLay0=true/\p.dat.depth<=12:=by
 cases h with
 | given e=>exact⟨by decide +kernel,by decide +kernel⟩
 | new e=>exact⟨by decide +kernel,by decide +kernel⟩
 | @rcp r s _ _ e hp hq gr gs dr ds=>
   have h1:=r.j7
   have h2:=s.j7
   refine⟨?_, ?_⟩
   ·show(PyData.strOk "recipe"&&(r.dat.canLay0&&(s.dat.canLay0&&true)))=true
    rw[r.lay gr,s.lay gs];decide +kernel
   ·simp only[Pap.dat,PyData.depth,PyData.depthAll];omega
 | rd e=>
   refine⟨?_, ?_⟩
   ·show(PyData.strOk "read"&&(true&&(true&&(true&&true))))=true
    decide +kernel
   ·simp only[Pap.dat,PyData.depth,PyData.depthAll];omega
 | alike e=>exact⟨by decide +kernel,by decide +kernel⟩
theorem Jg {kvs:List (Key×V)}{ks:List Str} (h:jM kvs ks) {k:Key}{v:V} (m:(k,v)∈kvs):cP kvs k=some v:=by
 obtain⟨i,hi⟩:=List.getElem?_of_mem m
 have nd:(kvs.map (·.1)).Nodup:=by
  rw[h.k]
  exact List.Pairwise.map _ (fun a b (e:a≠b) (z:(Sum.inr a:Key)=Sum.inr b)=>e (Sum.inr.inj z)) h.nd
 clear h
 induction kvs generalizing i with
 | nil=>cases m
 | cons q r ih=>
   rw[List.map_cons,List.nodup_cons] at nd
   rcases List.mem_cons.mp m with z | z
   ·rw[<-z];exact ju rfl
   ·have hne:¬q.1=k:=fun w=>nd.1 (by rw[w];exact List.mem_map.mpr ⟨_,z,rfl⟩)
    rw[jw hne]
    obtain⟨j,hj⟩:=List.getElem?_of_mem z
    exact ih z j hj nd.2
end RB
set_option maxRecDepth 100000
namespace L2
open PySem PySem.Spec PyProof.Rows
section
variable {prog:Program}{w:World}{A:Around}{E:Value->Shared->Prop}{s:Shared}
theorem G9 {j t:Addr}{k:Nat}{vs:Array Value}{v:Value}{Q:Value->Shared->Prop} (hj:IsTupIter s.heap j t k) (ht:IsTup s.heap t vs) (hv:vs[k]? =some v)
 (q:∀g,IsTupIter g j t (k+1)->Heap.SameBut j s.heap g->Q v {s with heap:=g}):wpAny (model prog w) A (Builtin.SmallTypes.nextOf (.ref j)) Q E s:=by
 have ty:=hj.typeIs
 obtain⟨oj,ej,cj,dj⟩:=hj
 obtain⟨ot,et,_,nt,dt⟩:=ht
 unfold Builtin.SmallTypes.nextOf
 refine wpAny_bind (wpAny_callSpecial?_slot (name:=Str.ofString "__next__") ty slot_tupleiter_next (wpAny_call_entry slot_tupleiter_next ty entry_tupleiter_next ?_ (args_tupleiter_next _)))
 show wpAny _ _ (field (.ref j) 0>>=_) _ _ s
 refine wpAny_bind (wpAny_field ej dj (x:= .ref t) rfl ?_)
 show wpAny _ _ (if(Value.ref t==Value.none)=true then _ else _) _ _ _
 rw[if_neg (by intro z;cases z)]
 show wpAny _ _ (field (.ref j) 1>>=_) _ _ s
 refine wpAny_bind (wpAny_field ej dj (x:= .int k 0) rfl ?_)
 show wpAny _ _ (seqItems? (.ref t)>>=_) _ _ _
 refine wpAny_bind (wpAny_seqItems et dt ?_)
 simp only[hv,Int.toNat_natCast]
 refine wpAny_bind (wpAny_setField ej dj (by simp) (wpAny_pure ⟨v,rfl,wpAny_pure (q _ ?_ (Heap.SameBut.update ..))⟩))
 refine⟨_,Heap.get?_update_self _ ej (Obj.isFreed_of_fields (Obj.data_mapFields dj _)),(Obj.cls_mapFields ..).trans cj, ?_⟩
 rw[Obj.data_mapFields dj];simp[rawInt]
theorem M3 {j t:Addr}{k:Nat}{vs:Array Value}{Q:Value->Shared->Prop} (hA:A.handled=none) (hj:IsTupIter s.heap j t k) (ht:IsTup s.heap t vs) (hv:vs[k]? =none)
 (q:∀g b,Heap.ExtBut j s.heap g->(∃ob,g.get? b=some ob/\ob.cls= .type "StopIteration")->E (.ref b) {s with heap:=g}):wpAny (model prog w) A (Builtin.SmallTypes.nextOf (.ref j)) Q E s:=by
 have ty:=hj.typeIs
 obtain⟨oj,ej,cj,dj⟩:=hj
 obtain⟨ot,et,_,nt,dt⟩:=ht
 unfold Builtin.SmallTypes.nextOf
 refine wpAny_bind (wpAny_callSpecial?_slot (name:=Str.ofString "__next__") ty slot_tupleiter_next (wpAny_call_entry slot_tupleiter_next ty entry_tupleiter_next ?_ (args_tupleiter_next _)))
 show wpAny _ _ (field (.ref j) 0>>=_) _ _ s
 refine wpAny_bind (wpAny_field ej dj (x:= .ref t) rfl ?_)
 show wpAny _ _ (if(Value.ref t==Value.none)=true then _ else _) _ _ _
 rw[if_neg (by intro z;cases z)]
 show wpAny _ _ (field (.ref j) 1>>=_) _ _ s
 refine wpAny_bind (wpAny_field ej dj (x:= .int k 0) rfl ?_)
 show wpAny _ _ (seqItems? (.ref t)>>=_) _ _ _
 refine wpAny_bind (wpAny_seqItems et dt ?_)
 simp only[hv,Int.toNat_natCast]
 refine wpAny_bind (wpAny_rule (wpAny_bind (wpAny_setField ej dj (by simp) ?_)))
 show wpAny _ _ (newExc (.type "StopIteration") []>>=_) _ _ _
 refine wpAny_bind ?_
 simp only[newTuple,newExc]
 refine wpAny_bind (wpAny_newObj_type ?_ (by size_fits))
 refine wpAny_bind (m:=firstArgMember _ _) (wpAny_of_eq (a:=Value.none) (by first | rfl | (unfold firstArgMember;rfl)) ?_)
 refine wpAny_newObj_type ?_ (by size_fits)
 simp only[raiseNew]
 refine wpAny_bind (wpAny_handled ?_)
 first | rw[hA] | rw[show A.in1.handled=none from hA]
 exact wpAny_bind (wpAny_pure (wpAny_throw (q _ _ (((Heap.SameBut.update ..).extBut.push _).push _) ⟨_,Heap.get?_push_size _ rfl,rfl⟩)))
theorem QF {z TI TO i j a b:Addr}{k:Nat}{xs ys:Array Value}{x y p q:Value}{Q:Value->Shared->Prop} (D:ZipApart z TI TO i j a b)
 (ez:IsZip s.heap z TI TO .none) (eI:IsPair s.heap TI (.ref i) (.ref j)) (eO:IsPair s.heap TO p q) (ei:IsTupIter s.heap i a k) (ej:IsTupIter s.heap j b k) (ea:IsTup s.heap a xs) (eb:IsTup s.heap b ys)
 (hx:xs[k]? =some x) (hy:ys[k]? =some y)
 (r:∀g,IsZip g z TI TO (rawInt s.heap.objs.size)->IsPair g TO x y->IsTupIter g i a (k+1)->IsTupIter g j b (k+1)->IsPair g s.heap.objs.size x y->g.objs.size=s.heap.objs.size+1->
   (∀c o,c∉[z,TO,i,j]->s.heap.get? c=some o->g.get? c=some o)->Q (.ref s.heap.objs.size) {s with heap:=g}):
 wpAny (model prog w) A (Builtin.«zip.__next__» ⟨[.ref z],[]⟩) (fun f s'=>∃v,f= .done (.ret v)/\Q v s') E s:=by
 show wpAny _ _ (field (.ref z) 2>>=_) _ _ s
 refine wpAny_bind (wpAny_field ez rfl (x:= .bool false) rfl ?_)
 show wpAny _ _ (field (.ref z) 3>>=_) _ _ s
 refine wpAny_bind (wpAny_field ez rfl (x:= .ref TI) rfl (wpAny_bind (wpAny_seqItems eI rfl ?_)))
 show wpAny _ _ (Builtin.SmallTypes.ownedTupleIsFree (.ref z)>>=_) _ _ s
 refine wpAny_bind ?_
 unfold Builtin.SmallTypes.ownedTupleIsFree;refine wpAny_bind (wpAny_field ez rfl (x:= .none) rfl (wpAny_pure ?_))
 simp only[if_true]
 refine wpAny_bind (wpAny_rule (wpAny_bind (wpAny_field ez rfl (x:= .ref TO) rfl (wpAny_bind (wpAny_setField_rec ez (by simp) fun g1 z1 b1=> ?_)))))
 have z1':IsZip g1 z TI TO .ellipsis:=z1
 refine wpAny_bind ?_
 simp only[List.forIn_cons,List.forIn_nil,List.zipIdx_cons,List.zipIdx_nil]
 refine wpAny_bind (wpAny_bind (wpAny_onRaise ?_))
 show wpAny _ _ (Builtin.SmallTypes.nextOf (.ref i)>>=_) _ _ _
 refine wpAny_bind (G9 (ei.extBut b1.extBut D.i1z) (ea.extBut b1.extBut D.l1z) hx fun g2 i2 b2=>wpAny_pure ?_)
 have o2:IsPair g2 TO p q:=b2.extBut _ _ D.TOi1 (b1.extBut _ _ D.TOz eO)
 refine wpAny_bind (wpAny_seqItems o2 rfl (wpAny_bind (wpAny_updateSeq_pair o2 fun g3 o3 b3=> ?_)))
 have o3':IsPair g3 TO x q:=o3
 refine wpAny_bind (wpAny_letGo (wpAny_pure (wpAny_bind (wpAny_bind (wpAny_onRaise ?_)))))
 show wpAny _ _ (Builtin.SmallTypes.nextOf (.ref j)>>=_) _ _ _
 refine wpAny_bind (G9 (((ej.extBut b1.extBut D.i2z).extBut b2.extBut D.i12.symm).extBut b3.extBut D.TOi2.symm) (((eb.extBut b1.extBut D.l2z).extBut b2.extBut D.l2i1).extBut b3.extBut D.l2TO) hy fun g4 j4 b4=>wpAny_pure ?_)
 have o4:IsPair g4 TO x q:=b4.extBut _ _ D.TOi2 o3'
 refine wpAny_bind (wpAny_seqItems o4 rfl (wpAny_bind (wpAny_updateSeq_pair o4 fun g5 o5 b5=> ?_)))
 have o5':IsPair g5 TO x y:=o5
 refine wpAny_bind (wpAny_letGo (wpAny_pure (wpAny_pure (wpAny_bind (wpAny_seqItems o5' rfl (wpAny_bind (wpAny_newTuple ?_)))))))
 have sz:g5.objs.size=s.heap.objs.size:=by rw[b5.1,b4.1,b3.1,b2.1,b1.1]
 have z5:IsZip g5 z TI TO .ellipsis:=b5.extBut _ _ D.TOz.symm (b4.extBut _ _ D.i2z.symm (b3.extBut _ _ D.TOz.symm (b2.extBut _ _ D.i1z.symm z1')))
 have k5:∀c o,c∉[z,TO,i,j]->s.heap.get? c=some o->g5.get? c=some o:=fun c o hc e=>by
  simp only[List.mem_cons,List.not_mem_nil,or_false,not_or] at hc
  exact b5.extBut _ _ hc.2.1 (b4.extBut _ _ hc.2.2.2 (b3.extBut _ _ hc.2.1 (b2.extBut _ _ hc.2.2.1 (b1.extBut _ _ hc.1 e))))
 have i5:IsTupIter g5 i a (k+1):=((i2.extBut b3.extBut D.TOi1.symm).extBut b4.extBut D.i12).extBut b5.extBut D.TOi1.symm
 have j5:IsTupIter g5 j b (k+1):=j4.extBut b5.extBut D.TOi2.symm
 have lz:g5.objs.size≠z:=Nat.ne_of_gt (Heap.lt_size z5)
 show wpAny _ _ (Builtin.SmallTypes.ownedTupleHandOut (.ref z) (.ref g5.objs.size)>>=_) _ _ _
 refine wpAny_bind ?_
 unfold Builtin.SmallTypes.ownedTupleHandOut;refine wpAny_bind (wpAny_setField_rec (Heap.get?_push_of_some _ z5) (by simp) fun g7 z7 b7=> ?_)
 have z7':IsZip g7 z TI TO (rawInt g5.objs.size):=z7
 refine wpAny_setField_rec z7' (by simp) fun g8 z8 b8=> ?_
 have z8':IsZip g8 z TI TO (rawInt g5.objs.size):=z8
 have up:∀c o,c≠z->g5.get? c=some o->g8.get? c=some o:=fun c o hc e=>b8.extBut _ _ hc (b7.extBut _ _ hc (Heap.get?_push_of_some _ e))
 have t8:IsPair g8 g5.objs.size x y:=b8.extBut _ _ lz (b7.extBut _ _ lz (Heap.get?_push_size _ rfl))
 have s8:g8.objs.size=g5.objs.size+1:=by rw[b8.1,b7.1,Heap.size_push]
 rw[sz] at z8' t8 s8
 refine wpAny_pure ⟨_,rfl, ?_⟩
 show Q (.ref g5.objs.size) _
 rw[sz]
 obtain⟨oi,qi,ri⟩:=i5
 obtain⟨oj,qj,rj⟩:=j5
 exact r g8 z8' (up _ _ D.TOz o5') ⟨oi,up _ _ D.i1z qi,ri⟩ ⟨oj,up _ _ D.i2z qj,rj⟩ t8 s8 fun c o hc e=>up c o (fun h=>hc (by simp[h])) (k5 c o hc e)
theorem QH {z TI TO i j a b:Addr}{k:Nat}{xs ys:Array Value}{p q:Value}{Q:Fin->Shared->Prop} (hA:A.handled=none) (D:ZipApart z TI TO i j a b)
 (ez:IsZip s.heap z TI TO .none) (eI:IsPair s.heap TI (.ref i) (.ref j)) (eO:IsPair s.heap TO p q) (ei:IsTupIter s.heap i a k) (ej:IsTupIter s.heap j b k) (ea:IsTup s.heap a xs) (eb:IsTup s.heap b ys)
 (hend:xs[k]? =none\/ys[k]? =none)
 (r:∀g u,(∀c o,c∉[z,TO,i,j]->s.heap.get? c=some o->g.get? c=some o)->(∃o,g.get? u=some o/\o.cls= .type "StopIteration")->E (.ref u) {s with heap:=g}):
 wpAny (model prog w) A (Builtin.«zip.__next__» ⟨[.ref z],[]⟩) Q E s:=by
 show wpAny _ _ (field (.ref z) 2>>=_) _ _ s
 refine wpAny_bind (wpAny_field ez rfl (x:= .bool false) rfl ?_)
 show wpAny _ _ (field (.ref z) 3>>=_) _ _ s
 refine wpAny_bind (wpAny_field ez rfl (x:= .ref TI) rfl (wpAny_bind (wpAny_seqItems eI rfl ?_)))
 show wpAny _ _ (Builtin.SmallTypes.ownedTupleIsFree (.ref z)>>=_) _ _ s
 refine wpAny_bind ?_
 unfold Builtin.SmallTypes.ownedTupleIsFree;refine wpAny_bind (wpAny_field ez rfl (x:= .none) rfl (wpAny_pure ?_))
 simp only[if_true]
 refine wpAny_bind (wpAny_rule (wpAny_bind (wpAny_field ez rfl (x:= .ref TO) rfl (wpAny_bind (wpAny_setField_rec ez (by simp) fun g1 z1 b1=> ?_)))))
 have z1':IsZip g1 z TI TO .ellipsis:=z1
 refine wpAny_bind ?_
 simp only[List.forIn_cons,List.forIn_nil,List.zipIdx_cons,List.zipIdx_nil]
 refine wpAny_bind (wpAny_bind (wpAny_onRaise ?_))
 show wpAny _ _ (Builtin.SmallTypes.nextOf (.ref i)>>=_) _ _ _
 have nz:∀{g:Heap}{u o},IsZip g z TI TO .ellipsis->g.get? u=some o->o.cls= .type "StopIteration"->u≠z:=fun hz hu hc h=>by subst h;rw[hz] at hu;cases hu;simp at hc
 cases hx:xs[k]? with
 | none=>
   refine wpAny_bind (M3 hA (ei.extBut b1.extBut D.i1z) (ea.extBut b1.extBut D.l1z) hx fun g2 u b2 ⟨ou,hou,hcu⟩=> ?_)
   have z2:IsZip g2 z TI TO .ellipsis:=b2 _ _ D.i1z.symm z1'
   refine wpAny_setField_rec z2 (by simp) fun g3 _ b3=>r g3 u (fun c o hc e=> ?_) ⟨ou,b3.extBut _ _ (nz z2 hou hcu) hou,hcu⟩
   simp only[List.mem_cons,List.not_mem_nil,or_false,not_or] at hc
   exact b3.extBut _ _ hc.1 (b2 _ _ hc.2.2.1 (b1.extBut _ _ hc.1 e))
 | some x=>
   have hy:ys[k]? =none:=by rcases hend with h | h;exact absurd (hx.symm.trans h) (by simp);exact h
   refine wpAny_bind (G9 (ei.extBut b1.extBut D.i1z) (ea.extBut b1.extBut D.l1z) hx fun g2 i2 b2=>wpAny_pure ?_)
   have o2:IsPair g2 TO p q:=b2.extBut _ _ D.TOi1 (b1.extBut _ _ D.TOz eO)
   refine wpAny_bind (wpAny_seqItems o2 rfl (wpAny_bind (wpAny_updateSeq_pair o2 fun g3 o3 b3=> ?_)))
   refine wpAny_bind (wpAny_letGo (wpAny_pure (wpAny_bind (wpAny_bind (wpAny_onRaise ?_)))))
   show wpAny _ _ (Builtin.SmallTypes.nextOf (.ref j)>>=_) _ _ _
   refine wpAny_bind (M3 hA (((ej.extBut b1.extBut D.i2z).extBut b2.extBut D.i12.symm).extBut b3.extBut D.TOi2.symm) (((eb.extBut b1.extBut D.l2z).extBut b2.extBut D.l2i1).extBut b3.extBut D.l2TO) hy fun g4 u b4 ⟨ou,hou,hcu⟩=> ?_)
   have z4:IsZip g4 z TI TO .ellipsis:=b4 _ _ D.i2z.symm (b3.extBut _ _ D.TOz.symm (b2.extBut _ _ D.i1z.symm z1'))
   refine wpAny_setField_rec z4 (by simp) fun g5 _ b5=>r g5 u (fun c o hc e=> ?_) ⟨ou,b5.extBut _ _ (nz z4 hou hcu) hou,hcu⟩
   simp only[List.mem_cons,List.not_mem_nil,or_false,not_or] at hc
   exact b5.extBut _ _ hc.1 (b4 _ _ hc.2.2.2 (b3.extBut _ _ hc.2.1 (b2.extBut _ _ hc.2.2.1 (b1.extBut _ _ hc.1 e))))
end
end L2
set_option maxRecDepth 100000
namespace L2
open PySem PySem.Spec PyProof.Rows
abbrev tzA (g:Heap) (a:Addr):Heap:=g.push {cls:= .type "tuple_iterator",data:= .fields #[.ref a, .int 0 0]}
abbrev tzB (g:Heap) (a b:Addr):Heap:=(tzA g a).push {cls:= .type "tuple_iterator",data:= .fields #[.ref b, .int 0 0]}
abbrev tzC (g:Heap) (a b:Addr):Heap:=(tzB g a b).push {cls:= .type "tuple",data:= .seq #[.ref g.objs.size, .ref (tzA g a).objs.size]}
abbrev tzD (g:Heap) (a b:Addr):Heap:=(tzC g a b).push {cls:= .type "tuple",data:= .seq #[.none, .none]}
abbrev tzE (g:Heap) (a b:Addr):Heap:=(tzD g a b).push {cls:= .type "zip",data:= .fields #[.none, .bool false, .bool false, .ref (tzB g a b).objs.size, .ref (tzC g a b).objs.size]}
theorem QJ (a b:Addr) (xs ys:Array Value):
 Meets (Builtin.«zip.__new__» ⟨[.type "zip", .ref a, .ref b],[]⟩) (fun _ R s=>IsTup s.heap a xs/\IsTup s.heap b ys/\
  R (.ok (.ret (.ref (tzD s.heap a b).objs.size))) {s with heap:=tzE s.heap a b}):=
 .of_wp fun prog w A R s h=>by
   obtain⟨hp,g,d,tk,os⟩:=s;obtain⟨ha,hb,h⟩:=h
   have hsub:=sub_zip
   have h1:IsTup (Shared.heap ⟨hp,g,d,tk,os⟩) a xs:=ha
   have h2:IsTup (Shared.heap ⟨hp.push {cls:= .type "tuple_iterator",data:= .fields #[.ref a, .int 0 0]},g,d,tk,os⟩) b ys:=hb.push _
   wp_walk using iter_tuple h1,iter_tuple h2
   exact⟨_,rfl,h⟩
section
variable {prog:Program}{w:World}{A:Around}{E:Value->Shared->Prop}{s:Shared}
theorem Uy {a b:Addr}{xs ys:Array Value}{Q:Value->Shared->Prop} (ha:IsTup s.heap a xs) (hb:IsTup s.heap b ys)
 (q:∀g n,n=s.heap.objs.size->IsZip g (n+4) (n+2) (n+3) .none->IsPair g (n+2) (.ref n) (.ref (n+1))->
   IsPair g (n+3) .none .none->IsTupIter g n a 0->IsTupIter g (n+1) b 0->
   (∀c o,s.heap.get? c=some o->g.get? c=some o)->Q (.ref (n+4)) {s with heap:=g}):
 wpAny (model prog w) A (call (.type "zip") [.ref a, .ref b]) Q E s:=by
 refine callType_new F.called_zip (by decide) (F.typeCall_zip_2 _ _) (F.newCall_zip_2 _ _) (fun obj=>F.args_object_init_3 obj _ _) F.entry_zip_new
  (QJ a b xs ys) ⟨ha,hb, ?_⟩
 have n1:(tzA s.heap a).objs.size=s.heap.objs.size+1:=Heap.size_push ..
 have n2:(tzB s.heap a b).objs.size=s.heap.objs.size+2:=by rw[Heap.size_push,n1]
 have n3:(tzC s.heap a b).objs.size=s.heap.objs.size+3:=by rw[Heap.size_push,n2]
 have n4:(tzD s.heap a b).objs.size=s.heap.objs.size+4:=by rw[Heap.size_push,n3]
 have e5:(tzE s.heap a b).get? (tzD s.heap a b).objs.size=some _:=Heap.get?_push_size _ rfl
 have e4:(tzE s.heap a b).get? (tzC s.heap a b).objs.size=some _:=Heap.get?_push_of_some _ (Heap.get?_push_size _ rfl)
 have e3:(tzE s.heap a b).get? (tzB s.heap a b).objs.size=some _:=Heap.get?_push_of_some _ (Heap.get?_push_of_some _ (Heap.get?_push_size _ rfl))
 have e2:(tzE s.heap a b).get? (tzA s.heap a).objs.size=some _:=Heap.get?_push_of_some _ (Heap.get?_push_of_some _ (Heap.get?_push_of_some _ (Heap.get?_push_size _ rfl)))
 have e1:(tzE s.heap a b).get? s.heap.objs.size=some _:=Heap.get?_push_of_some _ (Heap.get?_push_of_some _ (Heap.get?_push_of_some _ (Heap.get?_push_of_some _ (Heap.get?_push_size _ rfl))))
 show _/\_
 rw[n2,n3,n4] at e5
 rw[n3] at e4
 rw[n1,n2] at e3
 rw[n1] at e2
 rw[n4]
 exact⟨⟨_,e5,rfl⟩,q _ _ rfl e5 e3 e4 ⟨_,e1,rfl,rfl⟩ ⟨_,e2,rfl,rfl⟩ fun c o x=>
  Heap.get?_push_of_some _ (Heap.get?_push_of_some _ (Heap.get?_push_of_some _ (Heap.get?_push_of_some _ (Heap.get?_push_of_some _ x))))⟩
theorem Uz {z TI TO i j a b:Addr}{k:Nat}{xs ys:Array Value}{x y p q:Value}{Q:Option Value->Shared->Prop} (D:ZipApart z TI TO i j a b)
 (ez:IsZip s.heap z TI TO .none) (eI:IsPair s.heap TI (.ref i) (.ref j)) (eO:IsPair s.heap TO p q) (ei:IsTupIter s.heap i a k) (ej:IsTupIter s.heap j b k) (ea:IsTup s.heap a xs) (eb:IsTup s.heap b ys)
 (hx:xs[k]? =some x) (hy:ys[k]? =some y)
 (r:∀g,IsZip g z TI TO (rawInt s.heap.objs.size)->IsPair g TO x y->IsTupIter g i a (k+1)->IsTupIter g j b (k+1)->IsPair g s.heap.objs.size x y->g.objs.size=s.heap.objs.size+1->
   (∀c o,c∉[z,TO,i,j]->s.heap.get? c=some o->g.get? c=some o)->Q (some (.ref s.heap.objs.size)) {s with heap:=g}):
 wpAny (model prog w) A (pyNext (.ref z)) Q E s:=by
 have ty:s.TypeIs (.ref z) "zip":=⟨_,ez,rfl⟩
 unfold pyNext
 exact wpAny_bind (wpAny_attempt (wpAny_callSpecial?_slot (name:=Str.ofString "__next__") ty F.slot_zip_next (wpAny_call_entry F.slot_zip_next ty F.entry_zip_next
  (QF D ez eI eO ei ej ea eb hx hy fun g a1 a2 a3 a4 a5 a6 a7=>wpAny_pure (r g a1 a2 a3 a4 a5 a6 a7)) (F.args_zip_next_1 _))))
theorem Zh {z TI TO i j a b:Addr}{k:Nat}{xs ys:Array Value}{p q:Value}{Q:Option Value->Shared->Prop} (hA:A.handled=none) (D:ZipApart z TI TO i j a b)
 (ez:IsZip s.heap z TI TO .none) (eI:IsPair s.heap TI (.ref i) (.ref j)) (eO:IsPair s.heap TO p q) (ei:IsTupIter s.heap i a k) (ej:IsTupIter s.heap j b k) (ea:IsTup s.heap a xs) (eb:IsTup s.heap b ys)
 (hend:xs[k]? =none\/ys[k]? =none)
 (r:∀g,(∀c o,c∉[z,TO,i,j]->s.heap.get? c=some o->g.get? c=some o)->Q none {s with heap:=g}):
 wpAny (model prog w) A (pyNext (.ref z)) Q E s:=by
 have ty:s.TypeIs (.ref z) "zip":=⟨_,ez,rfl⟩
 unfold pyNext
 refine wpAny_bind (wpAny_attempt (wpAny_callSpecial?_slot (name:=Str.ofString "__next__") ty F.slot_zip_next (wpAny_call_entry F.slot_zip_next ty F.entry_zip_next
  (QH hA D ez eI eO ei ej ea eb hend fun g u hk ⟨o,ho,hc⟩=> ?_) (F.args_zip_next_1 _))))
 exact wpAny_bind (wpAny_isInstance (T:="StopIteration") (b:=true) ⟨o,ho,hc⟩ isSubtype_stop (wpAny_pure (r _ hk)))
end
def Zi (K:PySem.W.Frag) (l1 l2:Addr):It:=
 ⟨fun i H=>∃xs ys x y,SqT K H l1 xs/\SqT K H l2 ys/\xs[i]? =some x/\ys[i]? =some y,
  fun i H v H'=>∃T x y,v= .ref T/\H T=none/\H'=upd H T (.tup [x,y])/\(∀xs,SqT K H l1 xs->xs[i]? =some x)/\∀ys,SqT K H l2 ys->ys[i]? =some y,
  fun i H=>∃xs ys,SqT K H l1 xs/\SqT K H l2 ys/\min xs.length ys.length=i⟩
theorem UG {P:Program}{w:World}{K:PySem.W.Frag}{elts:List Expr}{k:Nat}{pos:Pos} (z TI TO i1 i2 l1 l2:Addr) (D:ZipApart z TI TO i1 i2 l1 l2):
 Turn P w K (.Tuple elts k pos) (Zi K l1 l2) [z,TI,TO,i1,i2] z (fun i h=>IsZip h z TI TO .none/\IsPair h TI (.ref i1) (.ref i2)/\(∃a b,IsPair h TO a b)/\IsTupIter h i1 l1 i/\IsTupIter h i2 l2 i) where
 mem:=by simp
 obj:=fun i h st b hb=>by
  obtain⟨h1,h2,⟨a,c,h3⟩,⟨o4,e4,_,d4⟩,⟨o5,e5,_,d5⟩⟩:=st
  have hb':b=z\/b=TI\/b=TO\/b=i1\/b=i2:=by simpa using hb
  rcases hb' with rfl | rfl | rfl | rfl | rfl
  ·exact⟨_,h1,fun v e=>by cases e⟩
  ·exact⟨_,h2,fun v e=>by cases e⟩
  ·exact⟨_,h3,fun v e=>by cases e⟩
  ·exact⟨o4,e4,fun v e=>by rw[d4] at e;cases e⟩
  ·exact⟨o5,e5,fun v e=>by rw[d5] at e;cases e⟩
 keep:=fun i h h' st kp=>by
  obtain⟨h1,h2,⟨a,c,h3⟩,⟨o4,e4,r4⟩,⟨o5,e5,r5⟩⟩:=st
  exact⟨kp z (by simp) _ h1,kp TI (by simp) _ h2,⟨a,c,kp TO (by simp) _ h3⟩,⟨o4,kp i1 (by simp) _ e4,r4⟩,⟨o5,kp i2 (by simp) _ e5,r5⟩⟩
 item:=by
  intro X hP hw hK hc i pins s σ H E I hf st hg
  subst hP hw hK
  obtain⟨xs,ys,x,y,hq1,hq2,hx,hy⟩:=hg
  obtain⟨ab3,rv1,p1,hz1⟩:=I.tuple hq1
  obtain⟨its2,rv2,p2,hz2⟩:=I.tuple hq2
  obtain⟨u1,hu1,ru1⟩:=rv1.get hx
  obtain⟨u2,hu2,ru2⟩:=rv2.get hy
  obtain⟨s1,s2,⟨a3,b3,s3⟩,s4,s5⟩:=st
  refine Uz D s1 s2 s3 s4 s5 p1 p2 (x:=u1) (y:=u2) (by simpa using hu1) (by simpa using hu2) fun g t1 t3 t4 t5 isT sz kp=> ?_
  have sub:∀c∈[z,TO,i1,i2],c∈[z,TI,TO,i1,i2]:=fun c hc=>by
   have:c=z\/c=TO\/c=i1\/c=i2:=by simpa using hc
   rcases this with rfl | rfl | rfl | rfl<;>simp
  have tI:IsPair g TI (.ref i1) (.ref i2):=kp TI _ (by simp[D.TIz,D.TITO,D.TIi1,D.TIi2]) s2
  refine⟨.ref s.heap.objs.size,rfl,wpAny_letOwnedTupleGo_zip t1 fun h3 t1' b3'=> ?_⟩
  have kp3:∀c o,c∉[z,TO,i1,i2]->s.heap.get? c=some o->h3.get? c=some o:=fun c o hc e=>b3'.extBut _ _ (fun h=>hc (by simp[h])) (kp c o hc e)
  have J:Inv X pins σ H {s with heap:=h3,toks:=s.toks}:=I.Cp (ch:=[z,TO,i1,i2]) (fun b hb=>hf b (sub b hb)) kp3
  have hT0:H s.heap.objs.size=none:=I.hok.fresh (Nat.le_refl _)
  have nT:s.heap.objs.size∉[z,TI,TO,i1,i2]:=fun hm=>by
   obtain⟨o,e⟩:∃o,s.heap.get? s.heap.objs.size=some o:=by
    have:s.heap.objs.size=z\/s.heap.objs.size=TI\/s.heap.objs.size=TO\/s.heap.objs.size=i1\/s.heap.objs.size=i2:=by simpa using hm
    obtain⟨o4,e4,_⟩:=s4
    obtain⟨o5,e5,_⟩:=s5
    rcases this with h | h | h | h | h
    ·exact⟨_,h▸s1⟩
    ·exact⟨_,h▸s2⟩
    ·exact⟨_,h▸s3⟩
    ·exact⟨_,h▸e4⟩
    ·exact⟨_,h▸e5⟩
   exact absurd (Heap.lt_size e) (Nat.lt_irrefl _)
  have Zj:IsTup h3 s.heap.objs.size #[u1,u2]:=⟨_,b3'.extBut _ _ (fun h=>nT (by simp[h])) isT,rfl,_,rfl⟩
  have fp:=I.Gr (H':=H) (Nat.le_refl _) hT0
  refine⟨.ref s.heap.objs.size,upd H s.heap.objs.size (.tup [x,y]),J.track hT0 ?_ fp.2.1 fp.2.2.2.2.1 fp.2.2.2.2.2 ?_,rfl,⟨_,x,y,rfl,hT0,rfl,fun zs hs=>by rw[I.Fp hs hq1];exact hx,fun zs hs=>by rw[I.Fp hs hq2];exact hy⟩,
   ⟨t1',b3'.extBut _ _ D.TIz tI,⟨_,_,b3'.extBut _ _ D.TOz t3⟩,t4.extBut b3'.extBut D.i1z,t5.extBut b3'.extBut D.i2z⟩,fun b hb=> ?_⟩
  ·cases e:X.s₀.heap.get? s.heap.objs.size with
   | none=>rfl
   | some o=>exact absurd (Heap.lt_size e) (Nat.not_lt.mpr I.sz)
  ·exact⟨by show 2<=sizeLine;rw[sizeLine_eq];decide,[u1,u2], .cons ru1 (.cons ru2 .nil),Zj⟩
  ·have nb:b≠s.heap.objs.size:=fun e=>nT (by rw[<-e];exact hb)
   rw[au nb];exact(hf b hb).1
 done:=by
  intro X hP hw hK hc i pins s σ H E I hf st hg
  subst hP hw hK
  obtain⟨xs,ys,hq1,hq2,hi⟩:=hg
  obtain⟨ab3,rv1,p1,hz1⟩:=I.tuple hq1
  obtain⟨its2,rv2,p2,hz2⟩:=I.tuple hq2
  obtain⟨s1,s2,⟨a3,b3,s3⟩,s4,s5⟩:=st
  have e1:=rv1.length
  have e2:=rv2.length
  refine Zh (I.ok.hd hc) D s1 s2 s3 s4 s5 p1 p2 ?_ fun g kp=>⟨rfl,I.Cp (t':=s.toks) (ch:=[z,TO,i1,i2]) (fun b hb=>hf b ?_) kp⟩
  ·rcases Nat.le_total xs.length ys.length with h | h
   ·exact .inl (by simp;omega)
   ·exact .inr (by simp;omega)
  ·have:b=z\/b=TO\/b=i1\/b=i2:=by simpa using hb
   rcases this with rfl | rfl | rfl | rfl<;>simp
 self:=fun _ _ _ _ _ st h=>wpAny_pyIter_zip st.1 h
def WM (K:PySem.W.Frag) (ta:TA):TI:=fun σ H R=>ta σ H fun vs H1=>∃l1 l2,vs=[.ref l1, .ref l2]/\(∃xs,SqT K H1 l1 xs)/\(∃ys,SqT K H1 l2 ys)/\R (Zi K l1 l2) H1
theorem UJ {X:Cx}{elts:List Expr}{k:Nat}{tp:Pos}{a b:Expr}{ta:TA}{p pos:Pos} (hg:Gl X "zip") (hm:X.mg "zip"=none) (ha:PA X [a,b] ta) (hs:starEach [a,b] X.env=[(false,eval a X.env),(false,eval b X.env)]:=by rfl) (hs2:starEach [b] X.env=[(false,eval b X.env)]:=by rfl):
 PI X (.Tuple elts k tp) (.Call (.Name "zip" p) [a,b] [] pos) (WM X.K ta):=by
 intro pins s σ H R I h
 refine Call_ (uW I hg hm YC (PyProof.Rows.callWith_type1 (thn (ha pos pins s σ H _ I h) fun us s1 ⟨vs,H1,I1,r1,q1⟩=> ?_) (by rw[hs,hs2]) (by rw[hs2];rfl)))
 obtain⟨l1,l2,rfl,⟨xs,hq1⟩,⟨ys,hq2⟩,q⟩:=q1
 obtain⟨u,v,rfl,ru,rv⟩:=vals2 r1
 cases ru
 cases rv
 obtain⟨ab3,_,p1,_⟩:=I1.tuple hq1
 obtain⟨its2,_,p2,_⟩:=I1.tuple hq2
 have D:=PySem.W.ktu_apart s1.heap.objs.size l1 l2 p1.lt p2.lt
 refine Uy p1 p2 fun h5 n en hz hTI hTO hi1 hi2 kp=> ?_
 subst en
 refine wpAny_pyIter_zip hz ?_
 have I2:Inv X pins σ H1 {s1 with heap:=h5}:=I1.kept (t':=s1.toks) kp
 refine⟨s1.heap.objs.size+4,[s1.heap.objs.size+4,s1.heap.objs.size+2,s1.heap.objs.size+3,s1.heap.objs.size,s1.heap.objs.size+1],_,_,H1,rfl,I2,UG _ _ _ _ _ l1 l2 D,⟨hz,hTI,⟨_,_,hTO⟩,hi1,hi2⟩,fun b hb=> ?_,q⟩
 have hle:s1.heap.objs.size<=b:=by
  have:b=s1.heap.objs.size+4\/b=s1.heap.objs.size+2\/b=s1.heap.objs.size+3\/b=s1.heap.objs.size\/b=s1.heap.objs.size+1:=by simpa using hb
  rcases this with rfl | rfl | rfl | rfl | rfl<;>first | exact Nat.le_refl _ | exact Nat.le_add_right _ _
 exact I1.Gr hle (I1.hok.fresh hle)
theorem UL {X:Cx}{elts:List Expr}{k:Nat}{tp:Pos}{a b:Expr}{ta:TA}{p pos:Pos} (hg:Gl X "zip") (hm:X.mg "zip"=none) (ha:QA X [a,b] ta) (hs:starEach [a,b] X.env=[(false,eval a X.env),(false,eval b X.env)]:=by rfl) (hs2:starEach [b] X.env=[(false,eval b X.env)]:=by rfl):
 QI X (.Tuple elts k tp) (.Call (.Name "zip" p) [a,b] [] pos) (WM X.K ta):=⟨UJ hg hm ha.h hs hs2⟩
theorem Og {K:PySem.W.Frag}{a b:Addr}{xs ys:List V}{g:TG}{tc:TT}{te:TE}{σ:St}{H:Hp}{D:Addr}{Q:VK} (Pv:Nat->St->Hp->Prop) (hxy:xs.length=ys.length) (h0:Pv 0 σ (upd H D (.lst [])))
 (hl:∀i σ H,i<=xs.length->Pv i σ H->SqT K H a xs/\SqT K H b ys)
 (hs:∀i x y T σ' H',xs[i]? =some x->ys[i]? =some y->Pv i σ' H'->H' T=none->g (.ref T) σ' (upd H' T (.tup [x,y])) fun σ3 H3=>tc σ3 H3 fun b H4=>
   if b=true then te σ3 H4 fun y H5=>∃ys,H5 D=some (.lst ys)/\ys.length<sizeLine/\Pv (i+1) σ3 (upd H5 D (.lst (ys++[y]))) else Pv (i+1) σ3 H4) (hd:∀σ' H',Pv xs.length σ' H'->Q (.ref D) H'):
 FP (Zi K a b) g tc te D σ (upd H D (.lst [])) Q:=by
 refine⟨fun i m σ H=>m=xs.length - i/\i<=xs.length/\Pv i σ H,⟨xs.length,by simp,Nat.zero_le _,h0⟩, ?_⟩
 rintro i m σ H ⟨rfl,hi,p⟩
 have q:=hl i σ H hi p
 by_cases hlt:i<xs.length
 ·refine .inr ⟨⟨xs,ys,xs[i],ys[i]'(hxy▸hlt),q.1,q.2,by simp[hlt],by simp[hxy▸hlt]⟩,Pv (i+1),fun σ' H' p'=>⟨xs.length - (i+1),by omega,rfl,hlt,p'⟩,fun v H' y=> ?_⟩
  obtain⟨T,x,y',rfl,hT,rfl,y1,y2⟩:=y
  exact hs i x y' T σ _ (y1 xs q.1) (y2 ys q.2) p hT
 ·have e:i=xs.length:=by omega
  subst e
  exact .inl ⟨⟨xs,ys,q.1,q.2,by omega⟩,hd σ H p⟩
end L2
set_option maxRecDepth 100000
namespace RB
open PySem PySem.Spec PyProof.Rows L2
mutual
def dI:Th->Th->Bool
 | .tup xs, .tup ys=>jD xs ys
 | .int i, .int j=>decide (i=j)
 | .str x, .str y=>decide (x=y)
 | _,_=>false
def jD:List Th->List Th->Bool
 |[],[]=>true
 | x::xs,y::ys=>dI x y&&jD xs ys
 | _,_=>false
end
def DpT:Nat->Th->Prop
 | 0, .tup _=>False
 | d+1, .tup ts=>ts.length<=1000/\∀t∈ts,DpT d t
 | _,_=>True
theorem Dw:∀{xs ys:List Th},xs.length≠ys.length->jD xs ys=false
 |[],[],h=>absurd rfl h
 |[],_::_,_=>by simp[jD]
 | _::_,[],_=>by simp[jD]
 | x::xs,y::ys,h=>by
   have:jD xs ys=false:=Dw (by simpa using h)
   simp[jD,this]
theorem Dy:∀{xs ys:List Th},xs.length=ys.length->jD xs ys=((List.zipWith dI xs ys).all id)
 |[],[],_=>by simp[jD]
 | x::xs,y::ys,h=>by
   have:jD xs ys=((List.zipWith dI xs ys).all id):=Dy (by simpa using h)
   simp[jD,this]
def Dz (K:PySem.W.Frag) (d:Nat):Sp:=fun vs H Q _=>∃v t v' t',vs=[v,v']/\m5 K H v t/\m5 K H v' t'/\DpT d t/\∀H',aN H H'->Q (.bl (dI t t')) H'
theorem mK.at {K:PySem.W.Frag}{H:Hp}{vs:List V}{ts:List Th}{i:Nat}{v:V} (h:mK K H vs ts) (e:vs[i]? =some v):∃(hi:i<ts.length),m5 K H v ts[i]:=by
 obtain⟨t,et,r⟩:=h.get e
 obtain⟨hi,rfl⟩:=List.getElem?_eq_some_iff.mp et
 exact⟨hi,r⟩
theorem Oh {α β γ:Type} (f:α->β->γ) {xs:List α}{ys:List β}{i:Nat} (h1:i<xs.length) (h2:i<ys.length):(List.zipWith f xs ys).take i++[f xs[i] ys[i]]=(List.zipWith f xs ys).take (i+1):=by
 rw[List.take_add_one,List.getElem?_eq_getElem (by simp;omega),List.getElem_zipWith];rfl
end RB
set_option maxRecDepth 100000
namespace RB
open PySem L2 PySem.Spec PyProof.Rows
def vo (gv:Kn) (rc:Rn) (rm:Rm) (kn:Kn) (x:Str):Pap->Prop
 | .given=>gv x≠none
 | .new=>gv x=none/\rm x=none
 | .rcp r s=>gv x=none/\rc x=some s/\r≠s/\∃ps v,rm x=some (r,ps,v)
 | .rd k n m=>gv x=none/\∃r ps v y,rm x=some (r,ps,v)/\rc x=some r/\(∀(j:Nat) p,j<k->ps[j]? =some p->kn p.1=some p.2)/\ps[k]? =some (y,n)/\kn y=some m/\m≠n
 | .alike=>gv x=none/\∃r ps v,rm x=some (r,ps,v)/\rc x=some r/\∀(j:Nat) p,ps[j]? =some p->kn p.1=some p.2
theorem vo.one {gv:Kn}{rc:Rn}{rm:Rm}{kn:Kn}{x:Str}:∀{p q:Pap},vo gv rc rm kn x p->vo gv rc rm kn x q->p=q
 | .given, .given,_,_=>rfl
 | .given, .new,h,g=>absurd g.1 h
 | .given, .rcp _ _,h,g=>absurd g.1 h
 | .given, .rd _ _ _,h,g=>absurd g.1 h
 | .given, .alike,h,g=>absurd g.1 h
 | .new, .given,h,g=>absurd h.1 g
 | .rcp _ _, .given,h,g=>absurd h.1 g
 | .rd _ _ _, .given,h,g=>absurd h.1 g
 | .alike, .given,h,g=>absurd h.1 g
 | .new, .new,_,_=>rfl
 | .new, .rcp _ _,h,g=>by obtain⟨_,_,_,ps,v,e⟩:=g;rw[h.2] at e;cases e
 | .new, .rd _ _ _,h,g=>by obtain⟨_,r,ps,v,y,e,_⟩:=g;rw[h.2] at e;cases e
 | .new, .alike,h,g=>by obtain⟨_,r,ps,v,e,_⟩:=g;rw[h.2] at e;cases e
 | .rcp _ _, .new,g,h=>by obtain⟨_,_,_,ps,v,e⟩:=g;rw[h.2] at e;cases e
 | .rd _ _ _, .new,g,h=>by obtain⟨_,r,ps,v,y,e,_⟩:=g;rw[h.2] at e;cases e
 | .alike, .new,g,h=>by obtain⟨_,r,ps,v,e,_⟩:=g;rw[h.2] at e;cases e
 | .rcp _ _, .rcp _ _,h,g=>by
   obtain⟨_,h1,_,ps,v,e⟩:=h
   obtain⟨_,g1,_,ps',v',e'⟩:=g
   rw[e] at e';rw[h1] at g1
   cases e';cases g1;rfl
 | .rcp _ _, .rd _ _ _,h,g=>by
   obtain⟨_,h1,h2,ps,v,e⟩:=h
   obtain⟨_,r,ps',v',y,e',g1,_⟩:=g
   rw[e] at e';rw[h1] at g1
   cases e';cases g1;exact absurd rfl h2
 | .rcp _ _, .alike,h,g=>by
   obtain⟨_,h1,h2,ps,v,e⟩:=h
   obtain⟨_,r,ps',v',e',g1,_⟩:=g
   rw[e] at e';rw[h1] at g1
   cases e';cases g1;exact absurd rfl h2
 | .rd _ _ _, .rcp _ _,g,h=>by
   obtain⟨_,h1,h2,ps,v,e⟩:=h
   obtain⟨_,r,ps',v',y,e',g1,_⟩:=g
   rw[e] at e';rw[h1] at g1
   cases e';cases g1;exact absurd rfl h2
 | .alike, .rcp _ _,g,h=>by
   obtain⟨_,h1,h2,ps,v,e⟩:=h
   obtain⟨_,r,ps',v',e',g1,_⟩:=g
   rw[e] at e';rw[h1] at g1
   cases e';cases g1;exact absurd rfl h2
 | .rd k n m, .rd k' n' m',h,g=>by
   obtain⟨_,r,ps,v,y,e,_,h1,h2,h3,h4⟩:=h
   obtain⟨_,r',ps',v',y',e',_,g1,g2,g3,g4⟩:=g
   rw[e] at e';cases e'
   have hk:k=k':=by
    rcases Nat.lt_trichotomy k k' with z | z | z
    ·have:=g1 k _ z h2
     rw[h3] at this;exact absurd (Option.some.inj this) h4
    ·exact z
    ·have:=h1 k' _ z g2
     rw[g3] at this;exact absurd (Option.some.inj this) g4
   subst hk
   rw[h2] at g2;cases g2
   rw[h3] at g3;cases g3
   rfl
 | .rd k n m, .alike,h,g=>by
   obtain⟨_,r,ps,v,y,e,_,h1,h2,h3,h4⟩:=h
   obtain⟨_,r',ps',v',e',_,g1⟩:=g
   rw[e] at e';cases e'
   have:=g1 k _ h2
   rw[h3] at this;exact absurd (Option.some.inj this) h4
 | .alike, .rd k n m,g,h=>by
   obtain⟨_,r,ps,v,y,e,_,h1,h2,h3,h4⟩:=h
   obtain⟨_,r',ps',v',e',_,g1⟩:=g
   rw[e] at e';cases e'
   have:=g1 k _ h2
   rw[h3] at this;exact absurd (Option.some.inj this) h4
 | .alike, .alike,_,_=>rfl
def WN:Sp:=fun vs H Q _=>∃(h g c rcd wd:Addr) (n:Nat) (gv:Kn) (rc:Rn) (kr kw:List (Key×V)) (rm rmN:Rm) (kn:Kn) (x:Str),vs=[.ref h, .ref rcd, .ref wd, .str x]/\pG H h g c n gv rc/\n<=17/\H rcd=some (.dK kr)/\mJ H kr n rm/\Rd H wd (.dK kw)/\(∀x,cP kw (.inr x)=(kn x).map V.int)/\oK n gv rc kn rmN/\kn x≠none/\
 ∀b p H',aN H H'->lu H' b p->vo gv rc rm kn x p->Q (.ref b) H'
theorem DpT.mono:∀{d e:Nat}{t:Th},d<=e->DpT d t->DpT e t
 | 0,0,_,_,h=>h
 | 0,e+1,t,_,h=>by cases t<;>first | trivial | exact h.elim
 | d+1,0,_,hl,_=>absurd hl (by omega)
 | d+1,e+1,t,hl,h=>by
   cases t with
   | tup ts=>exact⟨h.1,fun t ht=>DpT.mono (by omega) (h.2 t ht)⟩
   | _=>trivial
theorem wJ {d:Nat}{x:Str}:DpT d (.str x):=by cases d<;>trivial
theorem UT {d:Nat}{i:Int}:DpT d (.int i):=by cases d<;>trivial
theorem R.dpT:∀(r:R),r.IV->DpT (r.depth+1) r.eE
 | .num n,_=>⟨by simp,fun t ht=>by
   have:t= .str "number"\/t= .int n:=by simpa using ht
   rcases this with rfl | rfl<;>first | exact wJ | exact UT⟩
 | .rd x,_=>⟨by simp,fun t ht=>by
   have:t= .str "read"\/t= .str x:=by simpa using ht
   rcases this with rfl | rfl<;>exact wJ⟩
 | .bin op a b,h=>⟨by simp,fun t ht=>by
   have:t= .str op.word\/t=a.eE\/t=b.eE:=by simpa using ht
   have hd:(R.bin op a b).depth=max a.depth b.depth+1:=rfl
   rcases this with rfl | rfl | rfl
   ·exact wJ
   ·exact(R.dpT a h.1).mono (by omega)
   ·exact(R.dpT b h.2).mono (by omega)⟩
 | .pick a b c,h=>⟨by simp,fun t ht=>by
   have:t= .str "pick"\/t=a.eE\/t=b.eE\/t=c.eE:=by simpa using ht
   have hd:(R.pick a b c).depth=max a.depth (max b.depth c.depth)+1:=rfl
   rcases this with rfl | rfl | rfl | rfl
   ·exact wJ
   ·exact(R.dpT a h.1).mono (by omega)
   ·exact(R.dpT b h.2.1).mono (by omega)
   ·exact(R.dpT c h.2.2).mono (by omega)⟩
 | .cho a ns,h=>⟨by simp,fun t ht=>by
   have:t= .str "choose"\/t=a.eE\/t= .tup (ns.map Th.str):=by simpa using ht
   have hd:(R.cho a ns).depth=a.depth+1:=rfl
   rcases this with rfl | rfl | rfl
   ·exact wJ
   ·exact(R.dpT a h.1).mono (by omega)
   ·refine⟨by have:=h.2;simp at *;omega,fun t ht=> ?_⟩
    obtain⟨x,_,rfl⟩:=List.mem_map.mp ht
    exact wJ⟩
end RB
set_option maxRecDepth 100000
namespace RB
open PySem L2 PySem.Spec PyProof.Rows
mutual
theorem Jh:∀{t u:Th},dI t u=true->t=u
 | .tup xs, .tup ys,h=>by rw[dI] at h;rw[Gf h]
 | .int i, .int j,h=>by rw[dI] at h;rw[of_decide_eq_true h]
 | .str x, .str y,h=>by rw[dI] at h;rw[of_decide_eq_true h]
 | .tup _, .non,h=>by simp[dI] at h
 | .tup _, .bl _,h=>by simp[dI] at h
 | .tup _, .int _,h=>by simp[dI] at h
 | .tup _, .str _,h=>by simp[dI] at h
 | .tup _, .oth _,h=>by simp[dI] at h
 | .int _, .non,h=>by simp[dI] at h
 | .int _, .bl _,h=>by simp[dI] at h
 | .int _, .tup _,h=>by simp[dI] at h
 | .int _, .str _,h=>by simp[dI] at h
 | .int _, .oth _,h=>by simp[dI] at h
 | .str _, .non,h=>by simp[dI] at h
 | .str _, .bl _,h=>by simp[dI] at h
 | .str _, .tup _,h=>by simp[dI] at h
 | .str _, .int _,h=>by simp[dI] at h
 | .str _, .oth _,h=>by simp[dI] at h
 | .non,u,h=>by simp[dI] at h
 | .bl _,u,h=>by simp[dI] at h
 | .oth _,u,h=>by simp[dI] at h
theorem Gf:∀{ts us:List Th},jD ts us=true->ts=us
 |[],[],_=>rfl
 | x::xs,y::ys,h=>by
   rw[jD,Bool.and_eq_true] at h
   rw[Jh h.1,Gf h.2]
 |[],_::_,h=>by simp[jD] at h
 | _::_,[],h=>by simp[jD] at h
end
inductive PlT:Th->Prop where
 | int (i:Int):PlT (.int i)
 | str (x:Str):PlT (.str x)
 | tup {ts:List Th} (h:∀t∈ts,PlT t):PlT (.tup ts)
theorem Bu:∀{ts:List Th},(∀t∈ts,dI t t=true)->jD ts ts=true
 |[],_=>by simp[jD]
 | x::xs,h=>by
   rw[jD,h x (by simp),Bu fun t ht=>h t (by simp[ht])];rfl
theorem PlT.refl {t:Th} (h:PlT t):dI t t=true:=by
 induction h with
 | int i=>simp[dI]
 | str x=>simp[dI]
 | tup h ih=>rw[dI];exact Bu ih
theorem R.plT:∀(r:R),PlT r.eE
 | .num n=> .tup fun t ht=>by
   have:t= .str "number"\/t= .int n:=by simpa using ht
   rcases this with rfl | rfl<;>constructor
 | .rd x=> .tup fun t ht=>by
   have:t= .str "read"\/t= .str x:=by simpa using ht
   rcases this with rfl | rfl<;>constructor
 | .bin op a b=> .tup fun t ht=>by
   have:t= .str op.word\/t=a.eE\/t=b.eE:=by simpa using ht
   rcases this with rfl | rfl | rfl
   ·constructor
   ·exact R.plT a
   ·exact R.plT b
 | .pick a b c=> .tup fun t ht=>by
   have:t= .str "pick"\/t=a.eE\/t=b.eE\/t=c.eE:=by simpa using ht
   rcases this with rfl | rfl | rfl | rfl
   ·constructor
   ·exact R.plT a
   ·exact R.plT b
   ·exact R.plT c
 | .cho a ns=> .tup fun t ht=>by
   have:t= .str "choose"\/t=a.eE\/t= .tup (ns.map Th.str):=by simpa using ht
   rcases this with rfl | rfl | rfl
   ·constructor
   ·exact R.plT a
   ·refine .tup fun t ht=> ?_
    obtain⟨x,_,rfl⟩:=List.mem_map.mp ht
    constructor
theorem K5:∀{o o':Op},o.word=o'.word->o=o':=by
 intro o o' h;cases o<;>cases o'<;>first | rfl | exact absurd h (by decide)
theorem Gg (o:Op):o.word≠"choose":=by cases o<;>decide
theorem R.ym:∀{r s:R},r.eE=s.eE->r=s
 | .num n, .num m,h=>by simp[R.eE] at h;rw[h]
 | .rd x, .rd y,h=>by simp[R.eE] at h;rw[h]
 | .bin o a b, .bin o' a' b',h=>by
   simp only[R.eE,Th.tup.injEq,List.cons.injEq,Th.str.injEq,and_true] at h
   rw[K5 h.1,R.ym h.2.1,R.ym h.2.2]
 | .pick a b c, .pick a' b' c',h=>by
   simp only[R.eE,Th.tup.injEq,List.cons.injEq,and_true,true_and] at h
   rw[R.ym h.1,R.ym h.2.1,R.ym h.2.2]
 | .cho a ns, .cho a' ms,h=>by
   simp only[R.eE,Th.tup.injEq,List.cons.injEq,and_true,true_and] at h
   rw[R.ym h.1,(List.map_inj_right (fun x y e=>by cases e;rfl)).mp h.2]
 | .num n, .rd y,h=>by simp[R.eE] at h
 | .num n, .bin _ _ _,h=>by simp[R.eE] at h
 | .num n, .pick _ _ _,h=>by simp[R.eE] at h
 | .num n, .cho _ _,h=>by simp[R.eE] at h
 | .rd n, .num y,h=>by simp[R.eE] at h
 | .rd n, .bin _ _ _,h=>by simp[R.eE] at h
 | .rd n, .pick _ _ _,h=>by simp[R.eE] at h
 | .rd n, .cho _ _,h=>by simp[R.eE] at h
 | .bin _ _ _, .num y,h=>by simp[R.eE] at h
 | .bin _ _ _, .rd y,h=>by simp[R.eE] at h
 | .bin _ _ _, .pick _ _ _,h=>by simp[R.eE] at h
 | .bin o _ _, .cho _ _,h=>by
   simp only[R.eE,Th.tup.injEq,List.cons.injEq,Th.str.injEq,and_true] at h
   exact absurd h.1 (Gg o)
 | .pick _ _ _, .num y,h=>by simp[R.eE] at h
 | .pick _ _ _, .rd y,h=>by simp[R.eE] at h
 | .pick _ _ _, .bin _ _ _,h=>by simp[R.eE] at h
 | .pick _ _ _, .cho _ _,h=>by simp[R.eE] at h
 | .cho _ _, .num y,h=>by simp[R.eE] at h
 | .cho _ _, .rd y,h=>by simp[R.eE] at h
 | .cho _ _, .bin o _ _,h=>by
   simp only[R.eE,Th.tup.injEq,List.cons.injEq,Th.str.injEq,and_true] at h
   exact absurd h.1.symm (Gg o)
 | .cho _ _, .pick _ _ _,h=>by simp[R.eE] at h
theorem M4 {r s:R} (e:r=s):dI r.eE s.eE=true:=by rw[e];exact s.plT.refl
theorem M5 {r s:R} (e:r≠s):dI r.eE s.eE=false:=by
 cases h:dI r.eE s.eE with
 | false=>rfl
 | true=>exact absurd (R.ym (Jh h)) e
end RB
set_option maxRecDepth 100000
namespace L2
open PySem PySem.Spec PyProof.Rows
def Ite (K:PySem.W.Frag) (l:Addr):It:=
 ⟨fun i H=>∃xs x,SqL K H l xs/\xs[i]? =some x,
  fun i H v H'=>∃T x,v= .ref T/\H T=none/\H'=upd H T (.tup [.int (i:Int),x])/\∀xs,SqL K H l xs->xs[i]? =some x,
  fun i H=>∃xs,SqL K H l xs/\xs.length=i⟩
theorem Oi {P:Program}{w:World}{K:PySem.W.Frag}{elts:List Expr}{k:Nat}{pos:Pos} (e it l:Addr) (n1:e≠it) (n2:l≠e) (n3:l≠it):
 Turn P w K (.Tuple elts k pos) (Ite K l) [e,it] e (fun i h=>(∃old,IsEnum h e it i old)/\h.IsListIter it l i) where
 mem:=by simp
 obj:=fun i h st b hb=>by
  obtain⟨⟨old,h1⟩,⟨o4,e4,_,d4⟩⟩:=st
  have hb':b=e\/b=it:=by simpa using hb
  rcases hb' with rfl | rfl
  ·exact⟨_,h1,fun v e=>by cases e⟩
  ·exact⟨o4,e4,fun v e=>by rw[d4] at e;cases e⟩
 keep:=fun i h h' st kp=>by
  obtain⟨⟨old,h1⟩,h4⟩:=st
  exact⟨⟨old,kp e (by simp) _ h1⟩,h4.at fun o z=>kp it (by simp) o z⟩
 item:=by
  intro X hP hw hK hc i pins s σ H E I hf st hg
  subst hP hw hK
  obtain⟨xs,x,hq,hx⟩:=hg
  obtain⟨its,rv,p1,hz1⟩:=I.list hq
  obtain⟨u,hu,ru⟩:=rv.get hx
  obtain⟨⟨old,s1⟩,s4⟩:=st
  have W:=WalksT.enumerate (prog:=X.prog) (w:=X.w) (A:=X.A) (I.ok.hd hc) e it l n1 n2 n3 its.toArray
  have b1:i<its.length:=(List.getElem?_eq_some_iff.mp hu).1
  refine W.item i s _ _ (by simpa using b1) ⟨⟨old,s1⟩,s4,p1.isList⟩ fun T vals h2 tk pv hT isT mid kp=> ?_
  obtain⟨tt,a,ha,rfl⟩:=pv
  have ea:a=u:=by have:its[i]? =some a:=by simpa using ha
                  rw[hu] at this;exact(Option.some.inj this).symm
  subst ea
  refine⟨.ref T,rfl,W.go elts k pos i T _ _ _ mid fun h3 st3 kp3=> ?_⟩
  obtain⟨t1,t4,_⟩:=st3
  have J:Inv X pins σ H {s with heap:=h3,toks:=tk}:=I.Cp (ch:=[e,it]) (fun b hb=>hf b hb) fun b o hb z=>kp3 b o hb (kp b o hb z)
  have hT0:H T=none:=I.hok.fresh hT
  have nT:T∉[e,it]:=fun hm=>by
   obtain⟨o,z⟩:∃o,s.heap.get? T=some o:=by
    have:T=e\/T=it:=by simpa using hm
    obtain⟨o4,e4,_⟩:=s4
    rcases this with rfl | rfl
    ·exact⟨_,s1⟩
    ·exact⟨_,e4⟩
   exact absurd (Heap.lt_size z) (Nat.not_lt.mpr hT)
  have Zj:IsTup h3 T #[.int i tt,a]:=by
   obtain⟨o,z,r⟩:=isT
   exact⟨o,kp3 T o nT z,r⟩
  have fp:=I.Gr (H':=H) hT hT0
  refine⟨.ref T,upd H T (.tup [.int (i:Int),x]),J.track hT0 ?_ fp.2.1 fp.2.2.2.2.1 fp.2.2.2.2.2 ?_,rfl,⟨T,x,rfl,hT0,rfl,fun zs hs=>by rw[I.HN hs hq];exact hx⟩,⟨t1,t4⟩,fun b hb=> ?_⟩
  ·cases z:X.s₀.heap.get? T with
   | none=>rfl
   | some o=>exact absurd (Heap.lt_size z) (Nat.not_lt.mpr (Nat.le_trans I.sz hT))
  ·exact⟨by show 2<=sizeLine;rw[sizeLine_eq];decide,[.int i tt,a], .cons ⟨tt,rfl⟩ (.cons ru .nil),Zj⟩
  ·have nb:b≠T:=fun z=>nT (by rw[<-z];exact hb)
   rw[au nb];exact(hf b hb).1
 done:=by
  intro X hP hw hK hc i pins s σ H E I hf st hg
  subst hP hw hK
  obtain⟨xs,hq,hi⟩:=hg
  obtain⟨its,rv,p1,hz1⟩:=I.list hq
  obtain⟨s1,s4⟩:=st
  have W:=WalksT.enumerate (prog:=X.prog) (w:=X.w) (A:=X.A) (I.ok.hd hc) e it l n1 n2 n3 its.toArray
  have en:its.toArray.size=i:=by rw[List.size_toArray,<-rv.length];exact hi
  subst en
  exact W.done s _ _ ⟨s1,s4,p1.isList⟩ fun h2 tk kp=>⟨rfl,I.Cp (ch:=[e,it]) (fun b hb=>hf b hb) kp⟩
 self:=fun A i s Q E st h=>by
  obtain⟨⟨old,h1⟩,h4⟩:=st
  exact wpAny_pyIter_enum h1 h
def WQ (K:PySem.W.Frag) (ta:TA):TI:=fun σ H R=>ta σ H fun vs H1=>∃l,vs=[.ref l]/\(∃xs,SqL K H1 l xs)/\R (Ite K l) H1
theorem UW {X:Cx}{elts:List Expr}{k:Nat}{tp:Pos}{a:Expr}{ta:TA}{p pos:Pos} (hg:Gl X "enumerate") (hm:X.mg "enumerate"=none) (ha:PA X [a] ta) (hs:starEach [a] X.env=[(false,eval a X.env)]:=by rfl):
 PI X (.Tuple elts k tp) (.Call (.Name "enumerate" p) [a] [] pos) (WQ X.K ta):=by
 intro pins s σ H R I h
 refine Call_ (uW I hg hm GC (PyProof.Rows.callWith_type1 (thn (ha pos pins s σ H _ I h) fun us s1 ⟨vs,H1,I1,r1,q1⟩=> ?_) (by rw[hs];rfl) (by rfl)))
 obtain⟨l,rfl,⟨xs,hq⟩,q⟩:=q1
 obtain⟨u,rfl,ru⟩:=vals1 r1
 cases ru
 obtain⟨its,_,p1,_⟩:=I1.list hq
 have lt1:l<s1.heap.objs.size:=by obtain⟨o,e,_⟩:=p1.isList;exact Heap.lt_size e
 refine call_enumerate_list p1.isList fun h5 he hi _ kp=> ?_
 refine wpAny_pyIter_enum he ?_
 have I2:Inv X pins σ H1 {s1 with heap:=h5}:=I1.kept (t':=s1.toks) kp
 refine⟨s1.heap.objs.size+1,[s1.heap.objs.size+1,s1.heap.objs.size],_,_,H1,rfl,I2,Oi _ _ l (Nat.succ_ne_self _) (Nat.ne_of_lt (Nat.lt_succ_of_lt lt1)) (Nat.ne_of_lt lt1),⟨⟨_,he⟩,hi⟩,fun b hb=> ?_,q⟩
 have hle:s1.heap.objs.size<=b:=by
  have:b=s1.heap.objs.size+1\/b=s1.heap.objs.size:=by simpa using hb
  rcases this with rfl | rfl<;>first | exact Nat.le_refl _ | exact Nat.le_add_right _ _
 exact I1.Gr hle (I1.hok.fresh hle)
theorem U0 {X:Cx}{elts:List Expr}{k:Nat}{tp:Pos}{a:Expr}{ta:TA}{p pos:Pos} (hg:Gl X "enumerate") (hm:X.mg "enumerate"=none) (ha:QA X [a] ta) (hs:starEach [a] X.env=[(false,eval a X.env)]:=by rfl):
 QI X (.Tuple elts k tp) (.Call (.Name "enumerate" p) [a] [] pos) (WQ X.K ta):=⟨UW hg hm ha.h hs⟩
theorem QK {K:PySem.W.Frag}{a:Addr}{xs:List V}{g:TG}{tb:TS}{D:Ends}{σ:St}{H:Hp} (Pv:Nat->St->Hp->Prop) (h0:Pv 0 σ H) (hl:∀i σ H,i<=xs.length->Pv i σ H->SqL K H a xs)
 (hs:∀i x T σ H,xs[i]? =some x->H T=none->Pv i σ H->g (.ref T) σ (upd H T (.tup [.int (i:Int),x])) fun σ2 H2=>tb {D with nx:=Pv (i+1),ct:=Pv (i+1),bk:=D.nx} σ2 H2) (hd:∀σ H,Pv xs.length σ H->D.nx σ H):
 ∃W:Nat->Nat->St->Hp->Prop,(∃m,W 0 m σ H)/\∀i m σ H,W i m σ H->
  ((Ite K a).stop i H/\D.nx σ H)\/((Ite K a).go i H/\∃N:St->Hp->Prop,(∀σ' H',N σ' H'->∃m',m'<m/\W (i+1) m' σ' H')/\∀x H',(Ite K a).yld i H x H'->g x σ H' fun σ2 H2=>tb {D with nx:=N,ct:=N,bk:=D.nx} σ2 H2):=by
 refine⟨fun i m σ H=>m=xs.length - i/\i<=xs.length/\Pv i σ H,⟨xs.length,by simp,Nat.zero_le _,h0⟩, ?_⟩
 rintro i m σ H ⟨rfl,hi,p⟩
 have q1:=hl i σ H hi p
 by_cases hlt:i<xs.length
 ·refine .inr ⟨⟨xs,xs[i],q1,List.getElem?_eq_getElem hlt⟩,Pv (i+1),fun σ' H' z=>⟨_,by omega,rfl,hlt,z⟩, ?_⟩
  rintro x H' ⟨T,u,rfl,hT,rfl,e1⟩
  exact hs i u T σ H (e1 xs q1) hT p
 ·have e:i=xs.length:=by omega
  subst e
  exact .inl ⟨⟨xs,q1,rfl⟩,hd σ H p⟩
theorem Ji {X:Cx}{o e:Expr}{apos cpos:Pos}{td ty:TE} (hu:X.A.units+1<cLine) (ho:QE X o td) (he:QE X e ty) (m:M1 X o "get" apos e cpos):QE X (.Call (.Attribute o "get" apos) [e] [] cpos) (PL td ty):=⟨PX hu ho.h he.h m⟩
end L2
set_option maxRecDepth 100000
namespace RB
open PySem L2 PySem.Spec PyProof.Rows
theorem jN:∀{r:R},r.Good->r.IV
 | .num _,_=>trivial
 | .rd x,h=>⟨h.2.1,fun c hc=>by have:=h.2.2 c hc;unfold Mv at this;omega⟩
 | .bin _ a b,h=>⟨jN h.1,jN h.2⟩
 | .pick a b c,h=>⟨jN h.1,jN h.2.1,jN h.2.2⟩
 | .cho a ns,h=>⟨jN h.1,h.2⟩
end RB
set_option maxRecDepth 100000
namespace RB
open PySem L2 PySem.Spec PyProof.Rows
end RB
set_option maxRecDepth 100000
namespace RB
open PySem L2 PySem.Spec PyProof.Rows
end RB
set_option maxRecDepth 100000
namespace RB
open PySem L2 PySem.Spec PyProof.Rows
end RB
set_option maxRecDepth 100000
namespace L2
open PySem PySem.Spec PyProof.Rows RB
section
variable {prog:Program}{w:World}{A:Around}{E:Value->Shared->Prop}{s:Shared}
end
end L2
namespace RB
open PySem L2 PySem.Spec PyProof.Rows
end RB
set_option maxRecDepth 100000
namespace L2
open PySem PySem.Spec PyProof.Rows RB
end L2
set_option maxRecDepth 100000
namespace RB
open PySem L2 PySem.Spec PyProof.Rows
section
variable {p h hg hc h2 g2 c2 rcd r2 wd w2 hd:Addr}{o:Obj}{n:Nat}{gv:Kn}{rc:Rn}{kg kc kr kw:List (Key×V)}{rm:Rm}{H H':Hp}
end
end RB
set_option maxRecDepth 100000
namespace RB
open PySem L2 PySem.Spec PyProof.Rows
theorem QL {kn:Kn}{d:List Rdp} (h:Rows kn d) {x:Str}{v:Int} (hx:kn x=some v) (m:(x,v)∈d):uE d x v=d:=by
 unfold uE
 rw[if_pos (List.any_eq_true.mpr ⟨(x,v),m,by simp⟩)]
 have:∀p∈d,(if p.1=x then(p.1,v) else p)=p:=fun p hp=>by
  by_cases z:p.1=x
  ·rw[if_pos z]
   have:=h.s p hp
   rw[z,hx] at this
   rw[Option.some.inj this]
  ·rw[if_neg z]
 rw[List.map_congr_left this]
 exact List.map_id _
theorem QM {kn:Kn}{d:List Rdp} (h:Rows kn d) {x:Str}{v:Int} (hx:kn x=some v) (m:(x,v)∉d):uE d x v=d++[(x,v)]:=by
 unfold uE
 rw[if_neg]
 intro z
 obtain⟨p,hp,e⟩:=List.any_eq_true.mp z
 have e:=of_decide_eq_true e
 have:=h.s p hp
 rw[e,hx] at this
 exact m (by rw[<-e,Option.some.inj this];exact hp)
def vp (kn:Kn) (r:R) (t:List Stp) (f:List Int) (d:List Rdp):Prop:=match ev kn r with
 | .inr v=>∃n us,StN kn n ⟨t++[.r r],f,d⟩ ⟨t,f++[v],d++us⟩/\qb r (kn0.puts d) us v/\Rows kn (d++us)
 | .inl x=>∃n t' f' us,StN kn n ⟨t++[.r r],f,d⟩ ⟨t'++[.r (.rd x)],f',d++us⟩/\kn x=none/\Chn r (kn0.puts d) us/\ev (kn0.puts (d++us)) r= .inl x/\Rows kn (d++us)
theorem Oj {kn:Kn}{d:List Rdp} (h:Rows kn d) {x:Str} (hx:kn x=none):kn0.puts d x=none:=by
 cases e:kn0.puts d x with
 | none=>rfl
 | some u=>
   rcases zH e with z | z
   ·have:=h.s _ z
    rw[hx] at this;cases this
   ·cases z
theorem Jj {kn:Kn}{x:Str}{t:List Stp}{f:List Int}{d:List Rdp} (hd:Rows kn d):vp kn (.rd x) t f d:=by
 unfold vp
 show match look kn x with
  | .inr v=>_
  | .inl y=>_
 unfold look
 cases e:kn x with
 | none=>
   refine⟨0,t,f,[], ?_,e,trivial, ?_,by rw[List.append_nil];exact hd⟩
   ·rw[List.append_nil];exact .zero
   ·rw[List.append_nil]
    show look _ x=_
    unfold look
    rw[Oj hd e]
 | some v=>
   have hl:=hd.look e
   by_cases m:(x,v)∈d
   ·rw[if_pos m] at hl
    refine⟨1,[], .succ (.rd e) ?_,hl,by rw[List.append_nil];exact hd⟩
    rw[QL hd e m,List.append_nil];exact .zero
   ·rw[if_neg m] at hl
    refine⟨1,[(x,v)], .succ (.rd e) ?_,hl.1,hl.2⟩
    rw[QM hd e m];exact .zero
theorem DG {kn:Kn}:∀(r:R),r.T3->∀t f d,Rows kn d->vp kn r t f d
 | .num n,_,t,f,d,hd=>⟨1,[], .succ .num (by rw[List.append_nil];exact .zero),Ut,by rw[List.append_nil];exact hd⟩
 | .rd x,_,t,f,d,hd=>Jj hd
 | .bin op a b,h,t,f,d,hd=>by
   have ua:∀kn' x,ev kn' a= .inl x->ev kn' (.bin op a b)= .inl x:=fun kn' x e=>by simp only[ev];rw[e]
   have ha:=DG (kn:=kn) a h.1 (t++[.join op, .r b]) f d hd
   unfold vp at ha ⊢
   rw[List.append_assoc] at ha
   simp only[ev]
   cases ea:ev kn a with
   | inl x=>
     rw[ea] at ha
     obtain⟨n,t',f',us,s,hx,c,e,hr⟩:=ha
     exact⟨n+1,t',f',us, .succ .bin s,hx,c.up fun kn' x _ e=>ua kn' x e,ua _ _ e,hr⟩
   | inr u=>
     rw[ea] at ha
     obtain⟨n,us,s,g,hr⟩:=ha
     have hb:=DG (kn:=kn) b h.2.1 (t++[.join op]) (f++[u]) (d++us) hr
     unfold vp at hb
     rw[List.append_assoc] at hb
     have ub:∀kn' x,Kn.Le ((kn0.puts d).puts us) kn'->ev kn' b= .inl x->ev kn' (.bin op a b)= .inl x:=fun kn' x l e=>by simp only[ev];rw[rH l g.e];simp only;rw[e]
     cases eb:ev kn b with
     | inl x=>
       rw[eb] at hb
       obtain⟨m,t',f',vs,s2,hx,c,e,hr2⟩:=hb
       rw[Kn.gM] at c
       rw[List.append_assoc] at s2 e hr2
       refine⟨n+m+1,t',f',us++vs, .succ .bin (s.add s2),hx,(g.c.up fun kn' x _ e=>ua kn' x e).app (c.up ub), ?_,hr2⟩
       refine ub _ _ ?_ e
       rw[Kn.gM,Kn.gM]
       exact c.le
     | inr v=>
       rw[eb] at hb
       obtain⟨m,vs,s2,g2,hr2⟩:=hb
       rw[Kn.gM] at g2
       rw[List.append_assoc] at s2 hr2
       refine⟨n+(m+1)+1,us++vs, .succ .bin (s.add (s2.add (.succ ?_ .zero))),Uw g g2,hr2⟩
       rw[List.append_assoc]
       exact .join fun z=> .inr (by
        obtain⟨k,rfl,h1,h2⟩:=h.2.2 z
        cases eb
        omega)
 | .pick a b c,h,t,f,d,hd=>by
   have ua:∀kn' x,ev kn' a= .inl x->ev kn' (.pick a b c)= .inl x:=fun kn' x e=>by simp only[ev];rw[e]
   have ha:=DG (kn:=kn) a h.1 (t++[.branch b c]) f d hd
   unfold vp at ha ⊢
   rw[List.append_assoc] at ha
   simp only[ev]
   cases ea:ev kn a with
   | inl x=>
     rw[ea] at ha
     obtain⟨n,t',f',us,s,hx,c,e,hr⟩:=ha
     exact⟨n+1,t',f',us, .succ .pick s,hx,c.up fun kn' x _ e=>ua kn' x e,ua _ _ e,hr⟩
   | inr u=>
     rw[ea] at ha
     obtain⟨n,us,s,g,hr⟩:=ha
     have hb:vp kn (if u>0 then b else c) t f (d++us):=by
      split
      ·exact DG b h.2.1 t f _ hr
      ·exact DG c h.2.2 t f _ hr
     unfold vp at hb
     simp only
     have e:(if u>0 then ev kn b else ev kn c)=ev kn (if u>0 then b else c):=by split<;>rfl
     rw[e]
     have up:∀kn':Kn,Kn.Le ((kn0.puts d).puts us) kn'->ev kn' (.pick a b c)=ev kn' (if u>0 then b else c):=fun kn' l=>by
      simp only[ev];rw[rH l g.e];simp only;split<;>rfl
     cases eb:ev kn (if u>0 then b else c) with
     | inl x=>
       rw[eb] at hb
       obtain⟨m,t',f',vs,s2,hx,c2,e2,hr2⟩:=hb
       rw[Kn.gM] at c2
       rw[List.append_assoc] at s2 e2 hr2
       refine⟨n+(m+1)+1,t',f',us++vs, .succ .pick (s.add (.succ .branch s2)),hx,(g.c.up fun kn' x _ e=>ua kn' x e).app (c2.up fun kn' x l z=>by rw[up kn' l];exact z), ?_,hr2⟩
       rw[<-e2]
       have hl:=c2.le
       have:=up (kn0.puts (d++(us++vs))) (by rw[Kn.gM,Kn.gM];exact hl)
       simp only[ev] at this
       exact this
     | inr v=>
       rw[eb] at hb
       obtain⟨m,vs,s2,g2,hr2⟩:=hb
       rw[Kn.gM] at g2
       rw[List.append_assoc] at s2 hr2
       exact⟨n+(m+1)+1,us++vs, .succ .pick (s.add (.succ .branch s2)),QD g g2,hr2⟩
 | .cho a ns,h,t,f,d,hd=>by
   have ua:∀kn' x,ev kn' a= .inl x->ev kn' (.cho a ns)= .inl x:=fun kn' x e=>by simp only[ev];rw[e]
   have ha:=DG (kn:=kn) a h.1 (t++[.among ns]) f d hd
   unfold vp at ha ⊢
   rw[List.append_assoc] at ha
   simp only[ev]
   cases ea:ev kn a with
   | inl x=>
     rw[ea] at ha
     obtain⟨n,t',f',us,s,hx,c,e,hr⟩:=ha
     exact⟨n+1,t',f',us, .succ .cho s,hx,c.up fun kn' x _ e=>ua kn' x e,ua _ _ e,hr⟩
   | inr u=>
     rw[ea] at ha
     obtain⟨n,us,s,g,hr⟩:=ha
     obtain⟨y,ey⟩:=Oe h.2 u
     simp only
     rw[ey]
     have hb:=Jj (kn:=kn) (x:=y) (t:=t) (f:=f) hr
     unfold vp at hb
     simp only[ev] at hb
     simp only
     have up:∀kn':Kn,Kn.Le ((kn0.puts d).puts us) kn'->ev kn' (.cho a ns)=ev kn' (.rd y):=fun kn' l=>by
      simp only[ev];rw[rH l g.e];simp only;rw[ey]
     cases eb:look kn y with
     | inl x=>
       rw[eb] at hb
       obtain⟨m,t',f',vs,s2,hx,c2,e2,hr2⟩:=hb
       rw[Kn.gM] at c2
       rw[List.append_assoc] at s2 e2 hr2
       refine⟨n+(m+1)+1,t',f',us++vs, .succ .cho (s.add (.succ (.among ey) s2)),hx,(g.c.up fun kn' x _ e=>ua kn' x e).app (c2.up fun kn' x l z=>by rw[up kn' l];exact z), ?_,hr2⟩
       have hl:=c2.le
       have:=up (kn0.puts (d++(us++vs))) (by rw[Kn.gM,Kn.gM];exact hl)
       exact this.trans e2
     | inr v=>
       rw[eb] at hb
       obtain⟨m,vs,s2,g2,hr2⟩:=hb
       rw[Kn.gM] at g2
       rw[List.append_assoc] at s2 hr2
       exact⟨n+(m+1)+1,us++vs, .succ .cho (s.add (.succ (.among ey) s2)),Ux g ey g2,hr2⟩
def xT (kn:Kn) (r:R) (x:Str):Prop:=∃ps,Chn r kn0 ps/\ev (kn0.puts ps) r= .inl x/\Rows kn ps
def Goes (kn:Kn) (r:R) (c:Cf):Prop:=match ev kn r with
 | .inr v=>c.todo=[]/\c.found=[v]/\qb r kn0 c.rds v/\Rows kn c.rds
 | .inl x=>(∃t,c.todo=t++[.r (.rd x)])/\kn x=none/\xT kn r x
theorem QV {kn:Kn}:Rows kn []:=⟨by simp,by simp⟩
theorem Reach.ab4 {kn:Kn}{r:R} (hr:r.T3) {c:Cf} (g:Reach kn r c):∃n c',StN kn n c c'/\Halt kn c'/\Reach kn r c'/\Goes kn r c':=by
 have h:=DG (kn:=kn) r hr [] [] [] QV
 unfold vp at h
 unfold Goes
 obtain⟨m,g⟩:=g
 cases e:ev kn r with
 | inr v=>
   rw[e] at h
   obtain⟨n,us,s,gg,hr⟩:=h
   obtain⟨k,t⟩:=g.rest s (.inl rfl)
   exact⟨k,_,t, .inl rfl,⟨n,s⟩,rfl,rfl,gg,hr⟩
 | inl x=>
   rw[e] at h
   obtain⟨n,t',f',us,s,hx,c1,e1,hr⟩:=h
   have hh:Halt kn ⟨t'++[.r (.rd x)],f',[]++us⟩:= .inr ⟨t',x,rfl,hx⟩
   obtain⟨k,t⟩:=g.rest s hh
   exact⟨k,_,t,hh,⟨n,s⟩,⟨t',rfl⟩,hx,us,c1,e1,hr⟩
theorem Am:∀r:R,1<=r.depth
 | .num _=>Nat.le_refl _
 | .rd _=>Nat.le_refl _
 | .bin _ a b=>by show 1<=max a.depth b.depth+1;omega
 | .pick a b c=>by show 1<=max a.depth (max b.depth c.depth)+1;omega
 | .cho a _=>by show 1<=a.depth+1;omega
theorem DK:∀(r:R) (d:Nat),r.depth<=d->wR r+2<=3 ^ d
 | r,0,h=>absurd (Am r) (by omega)
 | .num _,d+1,_=>by
   have:1<=3 ^ d:=Nat.one_le_pow _ _ (by decide)
   show 1+2<=3 ^(d+1)
   rw[Nat.pow_succ];omega
 | .rd _,d+1,_=>by
   have:1<=3 ^ d:=Nat.one_le_pow _ _ (by decide)
   show 1+2<=3 ^(d+1)
   rw[Nat.pow_succ];omega
 | .bin _ a b,d+1,h=>by
   have h:max a.depth b.depth+1<=d+1:=h
   have h1:=DK a d (by omega)
   have h2:=DK b d (by omega)
   show wR a+wR b+2+2<=3 ^(d+1)
   rw[Nat.pow_succ];omega
 | .pick a b c,d+1,h=>by
   have h:max a.depth (max b.depth c.depth)+1<=d+1:=h
   have h1:=DK a d (by omega)
   have h2:=DK b d (by omega)
   have h3:=DK c d (by omega)
   show wR a+wR b+wR c+2+2<=3 ^(d+1)
   rw[Nat.pow_succ];omega
 | .cho a _,d+1,h=>by
   have h:a.depth+1<=d+1:=h
   have h1:=DK a d (by omega)
   show wR a+3+2<=3 ^(d+1)
   rw[Nat.pow_succ];omega
end RB
set_option maxRecDepth 100000
namespace L2
open PySem PySem.Spec PyProof.Rows
theorem Hg {X:Cx}{e:Expr}{f:Str}{pos:Pos}{ta:TE}{K:PySem.W.Frag} (eK:X.K=K) (he:QE X e ta) (hb:attributeBase e f X.env (eval e X.env)=eval e X.env:=by rfl):QE X (.Attribute e f pos) (Yd K ta f):=eK▸bI he hb
end L2
namespace RB
open PySem L2 PySem.Spec PyProof.Rows
structure NrC (K:PySem.W.Frag) (C:Addr):Prop where
 cl:Cls K C
 nB:iQ K C "by_name"
def nrF (rcd:Addr):List (Str×V):=[("by_name", .ref rcd)]
def DN (C:Addr):Sp:=fun vs H Q _=>∃(a dx rcd:Addr),vs=[.ref a, .ref rcd]/\H a=some (.ins C dx [])/\∀H',But [a] H H'->H' a=some (.ins C dx (nrF rcd))->Q .non H'
def Gh (rm:Rm) (y:Str) (r:R) (kn:Kn):Prop:=∀r' ps v,rm y=some (r',ps,v)->r'≠r\/∃p∈ps,∃u,kn p.1=some u/\u≠p.2
theorem Gh.le {rm:Rm}{y:Str}{r:R}{kn kn':Kn} (h:Gh rm y r kn) (l:Kn.Le kn kn'):Gh rm y r kn':=fun r' ps v e=>(h r' ps v e).imp id fun⟨p,hp,u,hu,hn⟩=>⟨p,hp,u,l _ _ hu,hn⟩
def Jk (H:Hp) (fl:Addr) (kr:List (Key×V)) (rm:Rm) (y:Str) (r:R) (kn:Kn) (k:Nat):Prop:=
 (∃rb ps v,H fl=some (.lst [.ref rb])/\cP kr (.inr y)=some (.ref rb)/\rm y=some (r,ps,v)/\k<=ps.length/\∀(j:Nat) p,j<k->ps[j]? =some p->kn p.1=some p.2)\/(H fl=some (.lst [])/\Gh rm y r kn)
theorem Jk.le {H:Hp}{fl:Addr}{kr:List (Key×V)}{rm:Rm}{y:Str}{r:R}{kn kn':Kn}{k:Nat} (h:Jk H fl kr rm y r kn k) (l:Kn.Le kn kn'):Jk H fl kr rm y r kn' k:=
 h.imp (fun⟨rb,ps,v,a,b,c,d,e⟩=>⟨rb,ps,v,a,b,c,d,fun j p hj hp=>l _ _ (e j p hj hp)⟩) fun⟨a,b⟩=>⟨a,b.le l⟩
theorem Jk.at {H H':Hp}{fl:Addr}{kr:List (Key×V)}{rm:Rm}{y:Str}{r:R}{kn:Kn}{k:Nat} (h:Jk H fl kr rm y r kn k) (f:∀o,H fl=some o->H' fl=some o):Jk H' fl kr rm y r kn k:=
 h.imp (fun⟨rb,ps,v,a,b⟩=>⟨rb,ps,v,f _ a,b⟩) fun⟨a,b⟩=>⟨f _ a,b⟩
def QX (C:Addr):Sp:=fun vs H Q _=>∃(o dx rcd b:Addr) (kr:List (Key×V)) (n:Nat) (rm:Rm) (y:Str) (r:R),vs=[.ref o, .str y, .ref b]/\H o=some (.ins C dx (nrF rcd))/\H rcd=some (.dK kr)/\mJ H kr n rm/\IsR H b r/\r.Good/\r.depth<=8/\
 ∀fl H',aN H H'->H fl=none->(∀kn,Jk H' fl kr rm y r kn 0)->Q (.ref fl) H'
def WR:Sp:=fun vs H Q _=>(∃v w,vs=[v,w])/\Q .non H
structure SeD where
 s:Addr
 dx:Addr
 b:Addr
 fl:Addr
 rk:Addr
 dxr:Addr
 a1:Addr
 a2:Addr
 a3:Addr
 k:Nat
def SeD.ft (A:SeD):List Addr:=[A.s,A.fl,A.rk,A.a1,A.a2,A.a3]
def seF (b fl:Addr) (k:Nat) (rk:Addr):List (Str×V):=[("recipe", .ref b),("fitting", .ref fl),("place", .int k),("reckoning", .ref rk)]
structure SeC (K:PySem.W.Frag) (C:Addr):Prop where
 cl:Cls K C
 nR:iQ K C "recipe"
 nF:iQ K C "fitting"
 nP:iQ K C "place"
 nK:iQ K C "reckoning"
theorem wK (b fl:Addr) (k:Nat) (rk:Addr):List.lookup ("recipe":Str) (seF b fl k rk)=some (.ref b):=rfl
theorem tR (b fl:Addr) (k:Nat) (rk:Addr):List.lookup ("fitting":Str) (seF b fl k rk)=some (.ref fl):=rfl
theorem wL (b fl:Addr) (k:Nat) (rk:Addr):List.lookup ("place":Str) (seF b fl k rk)=some (.int k):=rfl
theorem oM (b fl:Addr) (k:Nat) (rk:Addr):List.lookup ("reckoning":Str) (seF b fl k rk)=some (.ref rk):=rfl
theorem gf (b fl:Addr) (k:Nat) (rk:Addr):List.lookup ("lacking":Str) (seF b fl k rk)=none/\List.lookup ("fit_on":Str) (seF b fl k rk)=none/\List.lookup ("was_reckoned":Str) (seF b fl k rk)=none/\List.lookup ("new_record":Str) (seF b fl k rk)=none:=⟨rfl,rfl,rfl,rfl⟩
structure tU (CS CR:Addr) (kr:List (Key×V)) (rm:Rm) (y:Str) (r:R) (kn:Kn) (A:SeD) (H:Hp):Prop where
 e:H A.s=some (.ins CS A.dx (seF A.b A.fl A.k A.rk))
 hr:IsR H A.b r
 c:∃c,RcAt H A.rk CR A.dxr A.a1 A.a2 A.a3 c/\Reach kn r c
 f:Jk H A.fl kr rm y r kn A.k
 n1:A.s≠A.rk
 n2:A.fl≠A.a1
 n3:A.fl≠A.a2
theorem RcAt.move {S:List Addr}{H H':Hp}{a C dx a1 a2 a3:Addr}{c:Cf} (h:RcAt H a C dx a1 a2 a3 c) (b:But S H H') (t:lq H H') (hs:∀z∈[a,a1,a2,a3],z∉S):RcAt H' a C dx a1 a2 a3 c:=by
 obtain⟨e,⟨ws,e1,hw⟩,e2,e3,ne,w⟩:=h
 exact⟨b _ _ (hs _ (by simp)) e,⟨ws,b _ _ (hs _ (by simp)) e1,hw.tups t⟩,b _ _ (hs _ (by simp)) e2,b _ _ (hs _ (by simp)) e3,ne,w⟩
section
variable {CS CR:Addr}{kr:List (Key×V)}{rm:Rm}{y:Str}{r:R}{kn kn':Kn}{A:SeD}{H H':Hp}
theorem tU.move {S:List Addr} (h:tU CS CR kr rm y r kn A H) (b:But S H H') (t:lq H H') (hs:∀z∈A.ft,z∉S):tU CS CR kr rm y r kn A H':=by
 obtain⟨c,h1,h2⟩:=h.c
 exact⟨b _ _ (hs _ (by simp[SeD.ft])) h.e,h.hr.tups t,⟨c,h1.move b t fun z hz=>hs z (by
  have:z=A.rk\/z=A.a1\/z=A.a2\/z=A.a3:=by simpa using hz
  unfold SeD.ft
  rcases this with rfl | rfl | rfl | rfl<;>simp),h2⟩,h.f.at fun o e=>b _ _ (hs _ (by simp[SeD.ft])) e,h.n1,h.n2,h.n3⟩
theorem tU.le (h:tU CS CR kr rm y r kn A H) (l:Kn.Le kn kn'):tU CS CR kr rm y r kn' A H:=by
 obtain⟨c,h1,h2⟩:=h.c
 exact⟨h.e,h.hr,⟨c,h1,h2.le l⟩,h.f.le l,h.n1,h.n2,h.n3⟩
def QZ (H:Hp) (CR:Addr) (kr:List (Key×V)) (rm:Rm) (y:Str) (r:R) (kn:Kn) (A:SeD):Prop:=
 (∃rb ps v,H A.fl=some (.lst [.ref rb])/\cP kr (.inr y)=some (.ref rb)/\rm y=some (r,ps,v)/\∀p∈ps,kn p.1=some p.2)\/
 (H A.fl=some (.lst [])/\Gh rm y r kn/\∃c v,RcAt H A.rk CR A.dxr A.a1 A.a2 A.a3 c/\c.found=[v]/\qb r kn0 c.rds v/\Rows kn c.rds)
end
def Jl (CS CR:Addr):Sp:=fun vs H Q _=>∃(a dx b fl:Addr) (r:R),vs=[.ref a, .ref b, .ref fl]/\H a=some (.ins CS dx [])/\IsR H b r/\wR r<=4000/\
 ∀(A:SeD) H',But [a] H H'->A.s=a->A.b=b->A.fl=fl->A.k=0->H' a=some (.ins CS A.dx (seF b fl 0 A.rk))->RcAt H' A.rk CR A.dxr A.a1 A.a2 A.a3 ⟨[.r r],[],[]⟩->(∀z∈[A.rk,A.a1,A.a2,A.a3],H z=none)->Q .non H'
def WT (CS:Addr):Sp:=fun vs H Q _=>∃(s dx b fl rk rb br l:Addr) (k:Nat) (as:List Addr) (ps:List Rdp) (v w u:Int) (x:Str),vs=[.ref s, .int w]/\H s=some (.ins CS dx (seF b fl k rk))/\H fl=some (.lst [.ref rb])/\H rb=some (.tup [.ref br, .ref l, .int v])/\H l=some (.lst (as.map V.ref))/\jG H as ps/\ps[k]? =some (x,u)/\
 ∀fl' H',But [s] H H'->H fl'=none->H' s=some (.ins CS dx (seF b fl' (k+1) rk))->H' fl'=some (.lst (if u=w then [.ref rb] else []))->Q .non H'
def Jm (CS CR:Addr):Sp:=fun vs H Q _=>∃(A:SeD) (d:Addr) (kr:List (Key×V)) (n:Nat) (rm:Rm) (y:Str) (r:R) (kn:Kn),vs=[.ref A.s, .ref d]/\tU CS CR kr rm y r kn A H/\mJ H kr n rm/\n<=17/\Qy H d kn/\d≠A.a3/\r.T3/\
 ∀(A':SeD) H',But A.ft H H'->A'.s=A.s->A'.b=A.b->A'.rk=A.rk->A'.a1=A.a1->A'.a2=A.a2->A'.a3=A.a3->(A'.fl=A.fl\/H A'.fl=none)->tU CS CR kr rm y r kn A' H'->
  (QZ H' CR kr rm y r kn A'->Q .non H')/\∀x,kn x=none->xT kn r x->Q (.str x) H'
theorem Jo {r:R}:∀{ps:List Rdp}{kn:Kn}{k:Nat}{x:Str}{u:Int},Chn r kn ps->ps[k]? =some (x,u)->Chn r kn (ps.take k)/\ev (kn.puts (ps.take k)) r= .inl x
 |[],_,_,_,_,_,h=>by simp at h
 | p::ps,kn,0,x,u,c,h=>by cases h;exact⟨trivial,c.1⟩
 | p::ps,kn,k+1,x,u,c,h=>by
   obtain⟨h1,h2⟩:=Jo (ps:=ps) (k:=k) c.2 (by simpa using h)
   exact⟨⟨c.1,h1⟩,h2⟩
theorem K6 {r:R}{ps:List Rdp}{kn:Kn}{k:Nat}{x:Str}{u:Int} (c:Chn r kn0 ps) (h:ps[k]? =some (x,u)) (he:∀(j:Nat) p,j<k->ps[j]? =some p->kn p.1=some p.2):xT kn r x:=by
 obtain⟨h1,h2⟩:=Jo c h
 refine⟨ps.take k,h1,h2,fun p hp=> ?_, ?_⟩
 ·obtain⟨j,hj⟩:=List.getElem?_of_mem hp
  rw[List.getElem?_take] at hj
  split at hj
  ·exact he j p (by assumption) hj
  ·cases hj
 ·rw[List.map_take]
  exact((wI c).2).sublist (List.take_sublist _ _)
theorem Jp {H:Hp}:∀{as:List Addr}{ps:List Rdp},as.length=ps.length->(∀(j:Nat) (b:Addr) (p:Rdp),as[j]? =some b->ps[j]? =some p->H b=some (.tup (rdV p)))->jG H as ps
 |[],[],_,_=> .nil
 | a::as,p::ps,hl,h=> .cons (h 0 a p rfl rfl) (Jp (by simpa using hl) fun j b q h1 h2=>h (j+1) b q (by simpa using h1) (by simpa using h2))
 |[],_::_,hl,_=>by simp at hl
 | _::_,[],hl,_=>by simp at hl
def Rcd (rm:Rm) (y:Str) (r:R) (kn:Kn) (ps:List Rdp) (v:Int) (made:Bool):Prop:=
 qb r kn0 ps v/\Rows kn ps/\if made=true then Gh rm y r kn else rm y=some (r,ps,v)
def Q0 (CS CR:Addr):Sp:=fun vs H Q _=>∃(A:SeD) (kr:List (Key×V)) (n:Nat) (rm:Rm) (y:Str) (r:R) (kn:Kn),vs=[.ref A.s]/\H A.s=some (.ins CS A.dx (seF A.b A.fl A.k A.rk))/\mJ H kr n rm/\n<=17/\QZ H CR kr rm y r kn A/\
 ∀(rb l:Addr) (as:List Addr) (ps:List Rdp) (v:Int) (made:Bool) (H':Hp),aN H H'->H' rb=some (.tup [.ref A.b, .ref l, .int v])->H l=none->H' l=some (.lst (as.map V.ref))->jG H' as ps->Rcd rm y r kn ps v made->(∃xs,H' A.fl=some (.lst xs)/\decide (xs.length=0)=made)->Q (.ref rb) H'
end RB
set_option maxRecDepth 100000
namespace L2
open PySem PySem.Spec PyProof.Rows RB
theorem Jq {P:Program}{w:World} (d:Addr) (od:Obj) (hl:(d==sysModules)=false) (hc:od.cls= .type "dict"):
 MeetsIn P w (Builtin.«dict.items» ⟨[.ref d],[]⟩)
  (fun A R s=>s.heap.get? d=some od/\R (.ok (.ret (.ref s.heap.objs.size))) ⟨s.heap.push {cls:= .type "dict_items",data:= .fields #[.ref d]},s.gens,s.drawn,s.toks,s.os⟩):=by
 intro A R s z
 obtain⟨hp,g,dr,tk,os⟩:=s
 obtain⟨z1,z⟩:=z
 obtain⟨c,dd,da,sl⟩:=od
 simp only at hc
 subst hc
 wp_walk
 exact z
theorem Inv.more {X:Cx}{pins:List (Addr×Obj)}{σ:St}{H H':Hp}{s:Shared}{h':Heap}{t':Nat} (I:Inv X pins σ H s) (k:∀b u,s.heap.get? b=some u->h'.get? b=some u) (sm:aN H H')
 (new:∀a o,H' a=some o->H a=some o\/(s.heap.objs.size<=a/\eG X.prog X.w H' h' a o)):Inv X pins σ H' {s with heap:=h',toks:=t'}:=by
 refine I.un ⟨fun b u q _ _ _=>k b u q,fun b u q _ _ _=>⟨u.slots,k b u q⟩,fun b u q n _=> ?_,fun b u q _=>⟨u,k b u q⟩,fun b xs q=>sm _ _ q,fun b u xs q=>sm _ _ q,fun b ps q=>⟨#[],by rw[sm _ _ q];simp⟩⟩ fun a o e=> ?_
 ·cases e:H' b with
  | none=>rfl
  | some o=>
    rcases new b o e with z | ⟨z,_⟩
    ·rw[n] at z;cases z
    ·exact absurd (Nat.lt_of_lt_of_le (Heap.lt_size q) z) (Nat.lt_irrefl _)
 ·rcases new a o e with z | ⟨_,z⟩
  ·exact(I.hok a o z).stay (fun c v _ q=>k c v q) (fun c q=>sm _ _ q) fun c xs q=>sm _ _ q
  ·exact z
def mkH:List Addr->List (Key×V)->Hp->Hp
 | a::as,kv::kvs,H=>upd (mkH as kvs H) a (.tup [kV kv.1,kv.2])
 | _,_,H=>H
theorem M6:∀{as:List Addr}{kvs:List (Key×V)}{H:Hp}{b:Addr},b∉as->mkH as kvs H b=H b
 |[],_,_,_,_=>by cases ‹List (Key×V)›<;>rfl
 | a::as,[],_,_,_=>rfl
 | a::as,kv::kvs,H,b,h=>by
   show upd (mkH as kvs H) a _ b=_
   rw[au (fun z=>h (by simp[z]))]
   exact M6 fun z=>h (by simp[z])
theorem Q3:∀{as:List Addr}{kvs:List (Key×V)}{H:Hp}{j:Nat}{a:Addr}{kv:Key×V},as.Nodup->as[j]? =some a->kvs[j]? =some kv->mkH as kvs H a=some (.tup [kV kv.1,kv.2])
 |[],_,_,_,_,_,_,h,_=>by simp at h
 | a::as,[],_,_,_,_,_,_,h=>by simp at h
 | a::as,kv::kvs,H,0,b,kv',_,h1,h2=>by
   cases h1;cases h2
   exact aq
 | a::as,kv::kvs,H,j+1,b,kv',nd,h1,h2=>by
   rw[List.nodup_cons] at nd
   have hb:b∈as:=List.mem_of_getElem? (by simpa using h1)
   show upd (mkH as kvs H) a _ b=_
   rw[au (fun z:b=a=>nd.1 (by rw[<-z];exact hb))]
   exact Q3 nd.2 (by simpa using h1) (by simpa using h2)
theorem M7:∀{as:List Addr}{kvs:List (Key×V)}{H:Hp}{b:Addr}{o:HO},as.Nodup->mkH as kvs H b=some o->(b∉as/\H b=some o)\/(∃(j:Nat) (kv:Key×V),as[j]? =some b/\kvs[j]? =some kv/\o= .tup [kV kv.1,kv.2])\/(H b=some o)
 |[],kvs,H,b,o,_,h=> .inl ⟨by simp,by cases kvs<;>exact h⟩
 | a::as,[],H,b,o,_,h=> .inr (.inr h)
 | a::as,kv::kvs,H,b,o,nd,h=>by
   rw[List.nodup_cons] at nd
   have h:upd (mkH as kvs H) a _ b=some o:=h
   by_cases z:b=a
   ·subst z
    rw[aq] at h;cases h
    exact .inr (.inl ⟨0,kv,rfl,rfl,rfl⟩)
   ·rw[au z] at h
    rcases M7 nd.2 h with⟨h1,h2⟩ | ⟨j,kv',h1,h2,h3⟩ | h1
    ·exact .inl ⟨by simp[z,h1],h2⟩
    ·exact .inr (.inl ⟨j+1,kv',by simpa using h1,by simpa using h2,h3⟩)
    ·exact .inr (.inr h1)
def ab5 (to:TE):TE:=fun σ H Q=>to σ H fun x H1=>∃a kvs,x= .ref a/\H1 a=some (.dK kvs)/\∀(l:Addr) (as:List Addr) (H':Hp),aN H1 H'->H1 l=none->H' l=some (.lst (as.map V.ref))->as.length=kvs.length->(∀(j:Nat) (b:Addr) (kv:Key×V),as[j]? =some b->kvs[j]? =some kv->H' b=some (.tup [kV kv.1,kv.2]))->Q (.ref l) H'
theorem Zk {X:Cx}{o:Expr}{to:TE}{p apos cpos pos:Pos} (hc:X.calm=true) (ho:PE X o to) (hg:Gl X "list") (hm:X.mg "list"=none) (hv:bootBuiltins "list"=some (.type "list"))
 (hbase:attributeBase o "items" X.env (eval o X.env)=eval o X.env:=by rfl) (hline:(apos.endLine==cpos.line)=true:=by rfl)
 (he:starEach [.Call (.Attribute o "items" apos) [] [] cpos] X.env=(false,eval (.Call (.Attribute o "items" apos) [] [] cpos) X.env)::starEach [] X.env:=by rfl) (hpl:(backTo pos (starEach [] X.env)).any (·.1)=false:=by rfl):
 PE X (.Call (.Name "list" p) [.Call (.Attribute o "items" apos) [] [] cpos] [] pos) (ab5 to):=by
 intro pins s σ H Q I h
 refine wpAny_Call_Name_kw (uW I hg hm hv ?_ (by decide) (by decide))
 refine PyProof.Rows.callWith_type1 ?_ he hpl
 rw[he]
 show wpAny _ _ (spliced ((false,eval (.Call (.Attribute o "items" apos) [] [] cpos) X.env)::backTo pos (starEach [] X.env))) _ _ s
 refine Calls.spliced_cons ?_
 refine wpAny_Call_method0_late hbase hline (thn (ho pins s σ H _ I h) fun v s1 ⟨x,H1,I1,r1,a,kvs,ex,ha,q⟩=> ?_)
 subst ex
 obtain rfl:v=Value.ref a:=r1
 obtain⟨t1,t2,hlo⟩:=Km I1 (.inl ⟨kvs, .inl ha⟩)
 refine⟨"dict","dict.items",PySem.F.plainAttrs_dict,PySem.F.slot_dict_items,PySem.F.type_dict_items,t1,t2,Calls.callWith_builtin rfl (PySem.evalArgs_none ?_)⟩
 obtain⟨hz,_,vs,hkv,hd⟩:=Mi I1.hok ha
 obtain⟨ep,hat⟩:=hd.dictAt
 obtain⟨od,hod,hocls⟩:=id t1
 refine call_meetsIn PySem.F.slot_dict_items t1 PySem.F.entry_dict_items (PySem.F.args_dict_items_1 _) (Jq a od hlo hocls) ⟨hod, ?_⟩
 show wpAny (model X.prog X.w) X.A (spliced []) _ X.xe _
 refine Calls.spliced_nil ?_
 have hk1:∀b u,s1.heap.get? b=some u->(s1.heap.push {cls:= .type "dict_items",data:= .fields #[.ref a]}).get? b=some u:=fun b u e=>Heap.get?_push_of_some _ e
 have hsz:(s1.heap.push {cls:= .type "dict_items",data:= .fields #[.ref a]}).objs.size=s1.heap.objs.size+1:=by simp[Heap.push]
 obtain⟨_,_,vs',hkv',hd'⟩:=Mi (I1.hok.kept hk1) ha
 obtain⟨ep',hat'⟩:=hd'.dictAt
 obtain⟨hvl,hvk⟩:=zG hkv'
 have hview:(s1.heap.push {cls:= .type "dict_items",data:= .fields #[.ref a]}).IsItemsView s1.heap.objs.size a:=⟨_,Heap.get?_push_size _ rfl,rfl,rfl⟩
 refine PySem.W.kdx_call (I1.ok.hd hc) hview hat' (by rw[<-hvl];exact hz) fun h' tk acc c as kp e hlen hG hacc=> ?_
 have hal:as.length=kvs.length:=hlen.trans hvl.symm
 have hnd:as.Nodup:=hG.rise.imp fun z=>Nat.ne_of_lt z
 have hlow:∀b∈as,s1.heap.objs.size+1<b:=fun b hb=>by rw[<-hsz];exact hG.above b hb
 have hfresh:∀{b:Addr}{o:HO},H1 b=some o->@LT.lt Nat _ b s1.heap.objs.size:=fun{b o} e=>I1.hok.lt e
 have hl:(s1.heap.push {cls:= .type "dict_items",data:= .fields #[.ref a]}).objs.size∉as:=fun z=>by have:=hlow _ z;rw[hsz] at this;exact absurd this (Nat.lt_irrefl _)
 have sm:aN H1 (upd (mkH as kvs H1) (s1.heap.push {cls:= .type "dict_items",data:= .fields #[.ref a]}).objs.size (.lst (as.map V.ref))):=fun b o eb=>by
  have h1:@LT.lt Nat _ b s1.heap.objs.size:=hfresh eb
  have n1:b∉as:=fun z=>absurd (Nat.lt_trans h1 (Nat.lt_of_succ_lt (hlow b z))) (Nat.lt_irrefl _)
  rw[au (by rw[hsz];exact Nat.ne_of_lt (Nat.lt_succ_of_lt h1)),M6 n1];exact eb
 have hpairs:∀(j:Nat) (b:Addr) (kv:Key×V),as[j]? =some b->kvs[j]? =some kv->mkH as kvs H1 b=some (.tup [kV kv.1,kv.2]):=fun j b kv h1 h2=>Q3 hnd h1 h2
 have hne:∀{b:Addr},b∈as->b≠(s1.heap.push {cls:= .type "dict_items",data:= .fields #[.ref a]}).objs.size:=fun hb z=>hl (z▸hb)
 refine⟨.ref _,_,I1.more (t':=tk) (fun b u eb=>kp b u (hk1 b u eb)) sm (fun b o eb=> ?_),rfl,q _ as _ sm (I1.hok.fresh (by rw[hsz];omega)) aq hal fun j b kv h1 h2=> ?_⟩
 ·by_cases z:b=(s1.heap.push {cls:= .type "dict_items",data:= .fields #[.ref a]}).objs.size
  ·subst z
   rw[aq] at eb;cases eb
   refine .inr ⟨by rw[hsz];omega,by rw[List.length_map,hal];exact hz,acc.toList,c, ?_,by simpa using e⟩
   rw[hacc]
   clear e hacc q sm hpairs hG hlow hnd hal hlen hl hne
   induction as with
   | nil=>exact .nil
   | cons x as ih=>exact .cons rfl ih
  ·rw[au z] at eb
   rcases M7 hnd eb with⟨_,h2⟩ | ⟨j,kv,h1,h2,h3⟩ | h1
   ·exact .inl h2
   ·subst h3
    have hbm:=List.mem_of_getElem? h1
    have:=hlow b hbm
    obtain⟨key,k,x,e1,e2,e3⟩:=hG.pairs j b h1
    obtain⟨y,ey,ry⟩:=KR hkv' j k x e1
    rw[h2] at ey
    cases ey
    exact .inr ⟨by omega,by show 2<=sizeLine;decide,[key,x], .cons (Cq e2) (.cons ry .nil),⟨_,e3,rfl,_,rfl⟩⟩
   ·exact .inl h1
 ·rw[au (hne (List.mem_of_getElem? h1))]
  exact hpairs j b kv h1 h2
theorem Zm {X:Cx}{o:Expr}{to:TE}{p apos cpos pos:Pos} (hc:X.calm=true) (ho:QE X o to) (hg:Gl X "list") (hm:X.mg "list"=none)
 (hbase:attributeBase o "items" X.env (eval o X.env)=eval o X.env:=by rfl) (hline:(apos.endLine==cpos.line)=true:=by rfl)
 (he:starEach [.Call (.Attribute o "items" apos) [] [] cpos] X.env=(false,eval (.Call (.Attribute o "items" apos) [] [] cpos) X.env)::starEach [] X.env:=by rfl) (hpl:(backTo pos (starEach [] X.env)).any (·.1)=false:=by rfl):
 QE X (.Call (.Name "list" p) [.Call (.Attribute o "items" apos) [] [] cpos] [] pos) (ab5 to):=⟨Zk hc ho.h hg hm zm hbase hline he hpl⟩
end L2
set_option maxRecDepth 100000
namespace RB
open PySem L2 PySem.Spec PyProof.Rows
structure SrD where
 so:Addr
 dx:Addr
 g:Addr
 c:Addr
 o:Addr
 dxo:Addr
 rcd:Addr
 kd:Addr
 sd:Addr
 rd:Addr
def srF (g c o kd sd rd:Addr):List (Str×V):=[("given", .ref g),("recipes", .ref c),("old", .ref o),("known", .ref kd),("settled", .ref sd),("reckoned", .ref rd)]
structure SrC (K:PySem.W.Frag) (C:Addr):Prop where
 cl:Cls K C
 nG:iQ K C "given"
 nR:iQ K C "recipes"
 nO:iQ K C "old"
 nK:iQ K C "known"
 nS:iQ K C "settled"
 nM:iQ K C "reckoned"
theorem vq (g c o kd sd rd:Addr):List.lookup ("given":Str) (srF g c o kd sd rd)=some (.ref g):=rfl
theorem pH (g c o kd sd rd:Addr):List.lookup ("recipes":Str) (srF g c o kd sd rd)=some (.ref c):=rfl
theorem DP (g c o kd sd rd:Addr):List.lookup ("old":Str) (srF g c o kd sd rd)=some (.ref o):=rfl
theorem vz (g c o kd sd rd:Addr):List.lookup ("known":Str) (srF g c o kd sd rd)=some (.ref kd):=rfl
theorem pK (g c o kd sd rd:Addr):List.lookup ("settled":Str) (srF g c o kd sd rd)=some (.ref sd):=rfl
theorem m6 (g c o kd sd rd:Addr):List.lookup ("reckoned":Str) (srF g c o kd sd rd)=some (.ref rd):=rfl
theorem gh (g c o kd sd rd:Addr):List.lookup ("begin":Str) (srF g c o kd sd rd)=none/\List.lookup ("end":Str) (srF g c o kd sd rd)=none/\List.lookup ("made":Str) (srF g c o kd sd rd)=none/\List.lookup ("kept":Str) (srF g c o kd sd rd)=none/\List.lookup ("settle":Str) (srF g c o kd sd rd)=none:=⟨rfl,rfl,rfl,rfl,rfl⟩
theorem Aw (rcd:Addr):List.lookup ("records_for":Str) (nrF rcd)=none/\List.lookup ("put_made":Str) (nrF rcd)=none:=⟨rfl,rfl⟩
def Mu (H:Hp) (z:Addr):Prop:=∃o,H z=some o/\∀xs,o≠ .tup xs
def ab6:Option HO->Option HO->Option HO
 | some (.tup xs),_=>some (.tup xs)
 | _,d=>d
def grow (Hf H H1:Hp):Hp:=fun a=>if H a=none then H1 a else ab6 (H1 a) (Hf a)
theorem U3 {Hf H H1:Hp} (s0:aN Hf H) (s1:aN H H1):aN Hf (grow Hf H H1):=fun a o e=>by
 have h0:=s0 _ _ e
 have h1:=s1 _ _ h0
 unfold grow
 rw[if_neg (by rw[h0];simp),h1]
 cases o<;>first | exact e | rfl
theorem U4 {Hf H H1:Hp} (s0:aN Hf H) (s1:aN H H1):aN (grow Hf H H1) H1:=fun a o e=>by
 unfold grow at e
 split at e
 ·exact e
 ·cases h1:H1 a with
  | none=>
    rw[h1] at e
    have e:Hf a=some o:=e
    have:=s1 _ _ (s0 _ _ e)
    rw[h1] at this;cases this
  | some u=>
    rw[h1] at e
    cases u with
    | tup xs=>exact e
    | _=>
      have e:Hf a=some o:=e
      have:=s1 _ _ (s0 _ _ e)
      rw[h1] at this;exact this
theorem Ol {Hf H H1:Hp}:lq H1 (grow Hf H H1):=fun a xs e=>by
 unfold grow
 split
 ·exact e
 ·rw[e];rfl
theorem Q4 {Hf H H1:Hp}{a:Addr} (h:H a=none):grow Hf H H1 a=H1 a:=by unfold grow;rw[if_pos h]
theorem Cu {Hf H H1:Hp} (s1:aN H H1) {z:Addr} (m:Mu H z) (hz:Hf z=none):grow Hf H H1 z=none:=by
 obtain⟨o,e,n⟩:=m
 have h1:=s1 _ _ e
 unfold grow
 rw[if_neg (by rw[e];simp),h1]
 cases o with
 | tup xs=>exact absurd rfl (n xs)
 | _=>exact hz
structure SrH (CSe CN:Addr) (D:SrD) (n:Nat) (gv:Kn) (rc:Rn) (kg kc kr:List (Key×V)) (rm:Rm) (Hf:Hp):Prop where
 e:Hf D.so=some (.ins CSe D.dx (srF D.g D.c D.o D.kd D.sd D.rd))
 eg:Hf D.g=some (.dK kg)
 ec:Hf D.c=some (.dK kc)
 bd:Bld Hf kg kc n gv rc
 eo:Hf D.o=some (.ins CN D.dxo (nrF D.rcd))
 er:Hf D.rcd=some (.dK kr)
 rD:mJ Hf kr n rm
 n17:n<=17
 ne:D.kd≠D.sd/\D.kd≠D.rd/\D.sd≠D.rd
theorem SrH.same {CSe CN:Addr}{D:SrD}{n:Nat}{gv:Kn}{rc:Rn}{kg kc kr:List (Key×V)}{rm:Rm}{Hf H:Hp} (h:SrH CSe CN D n gv rc kg kc kr rm Hf) (s:aN Hf H):SrH CSe CN D n gv rc kg kc kr rm H:=
 ⟨s _ _ h.e,s _ _ h.eg,s _ _ h.ec,h.bd.tups (aN.tups s),s _ _ h.eo,s _ _ h.er,h.rD.map fun _ _ z=>z.same s,h.n17,h.ne⟩
structure rK (D:SrD) (n:Nat) (gv:Kn) (rc:Rn) (rm:Rm) (kn:Kn) (rmN:Rm) (rkn:Str->Bool) (Hf H:Hp):Prop where
 sm:aN Hf H
 fk:Hf D.kd=none
 fs:Hf D.sd=none
 fr:Hf D.rd=none
 ek:∃kw ws,H D.kd=some (.dK kw)/\jM kw ws/\∀x,cP kw (.inr x)=(kn x).map V.int
 es:∃ks,H D.sd=some (.dK ks)/\mJ Hf ks n rmN
 er:∃kk rs,H D.rd=some (.dK kk)/\jM kk rs/\(∀x,cP kk (.inr x)=if rkn x=true then some (.bl true) else none)/\∀x,rkn x=true->rmN x≠none
 ok:oK n gv rc kn rmN
 md:∀x r ps v,rmN x=some (r,ps,v)->Rcd rm x r kn ps v (rkn x)
theorem Rcd.le {rm:Rm}{y:Str}{r:R}{kn kn':Kn}{ps:List Rdp}{v:Int}{m:Bool} (h:Rcd rm y r kn ps v m) (l:Kn.Le kn kn'):Rcd rm y r kn' ps v m:=by
 obtain⟨h1,h2,h3⟩:=h
 refine⟨h1,h2.le l, ?_⟩
 cases m with
 | true=>rw[if_pos rfl] at h3 ⊢;exact h3.le l
 | false=>exact h3
theorem rK.kl {D:SrD}{n:Nat}{gv:Kn}{rc:Rn}{rm:Rm}{kn:Kn}{rmN:Rm}{rkn:Str->Bool}{Hf H:Hp} (h:rK D n gv rc rm kn rmN rkn Hf H) {kw:List (Key×V)}{ws:List Str} (k:jM kw ws) (hk:∀x,cP kw (.inr x)=(kn x).map V.int):kw.length<=n:=by
 rw[k.len,<-lZ n]
 refine iz k.nd fun x hx=> ?_
 cases e:kn x with
 | none=>exact absurd hx (k.none.mp (by rw[hk,e];rfl))
 | some v=>exact(h.ok.a x v e).1
inductive Rch (gv:Kn) (rc:Rn) (kn:Kn) (x:Str):Str->Prop where
 | refl:Rch gv rc kn x x
 | step {y z:Str}{r:R} (h:Rch gv rc kn x y) (hg:gv y=none) (hr:rc y=some r) (hs:xT kn r z):Rch gv rc kn x z
theorem xT.le {kn kn':Kn}{r:R}{x:Str} (h:xT kn r x) (l:Kn.Le kn kn'):xT kn' r x:=let ⟨ps,a,b,c⟩:=h;⟨ps,a,b,c.le l⟩
theorem Rch.le {gv:Kn}{rc:Rn}{kn kn':Kn}{x y:Str} (h:Rch gv rc kn x y) (l:Kn.Le kn kn'):Rch gv rc kn' x y:=by
 induction h with
 | refl=>exact .refl
 | step _ hg hr hs ih=>exact .step ih hg hr (hs.le l)
def Jr (CSe:Addr):Sp:=fun vs H Q _=>∃(a dx h g c o:Addr),vs=[.ref a, .ref h, .ref o]/\H a=some (.ins CSe dx [])/\H h=some (.tup [.ref g, .ref c])/\
 ∀kd sd rd H',But [a] H H'->H' a=some (.ins CSe dx (srF g c o kd sd rd))->H kd=none->H sd=none->H rd=none->kd≠sd->kd≠rd->sd≠rd->H' kd=some (.dK [])->H' sd=some (.dK [])->H' rd=some (.dK [])->Q .non H'
def M8 (CSe CN CS CR:Addr):Sp:=fun vs H Q _=>∃(D:SrD) (n:Nat) (gv:Kn) (rc:Rn) (kg kc kr:List (Key×V)) (rm:Rm) (y:Str) (r:R),vs=[.ref D.so, .str y]/\SrH CSe CN D n gv rc kg kc kr rm H/\rc y=some r/\
 ∀(A:SeD) H',aN H H'->(∀z∈A.ft,H z=none)->(∀kn,tU CS CR kr rm y r kn A H')->Q (.ref A.s) H'
def Q5 (CSe CN CS CR:Addr):Sp:=fun vs H Q _=>∃(D:SrD) (n:Nat) (gv:Kn) (rc:Rn) (kg kc kr:List (Key×V)) (rm:Rm) (kn:Kn) (rmN:Rm) (rkn:Str->Bool) (Hf:Hp) (A:SeD) (y:Str) (r:R),vs=[.ref D.so, .str y, .ref A.s]/\SrH CSe CN D n gv rc kg kc kr rm Hf/\rK D n gv rc rm kn rmN rkn Hf H/\
 H A.s=some (.ins CS A.dx (seF A.b A.fl A.k A.rk))/\IsR H A.b r/\QZ H CR kr rm y r kn A/\kn y=none/\gv y=none/\rc y=some r/\y∈nmK n/\(∀z∈A.ft,z∉[D.kd,D.sd,D.rd])/\
 ∀(v:Int) (ps:List Rdp) (made:Bool) (Hf' H':Hp),But [D.kd,D.sd,D.rd] H H'->aN Hf Hf'->(∀z,Mu H z->Hf z=none->Hf' z=none)->rK D n gv rc rm (kn.put y v) (rmN.put y (r,ps,v)) (fun x=>if x=y then made else rkn x) Hf' H'->Q .non H'
def Js (CSe CN:Addr):Sp:=fun vs H Q _=>∃(D:SrD) (n:Nat) (gv:Kn) (rc:Rn) (kg kc kr:List (Key×V)) (rm:Rm) (kn:Kn) (rmN:Rm) (rkn:Str->Bool) (Hf:Hp) (x:Str),vs=[.ref D.so, .str x]/\SrH CSe CN D n gv rc kg kc kr rm Hf/\rK D n gv rc rm kn rmN rkn Hf H/\x∈nmK n/\
 ∀(kn':Kn) (Jt:Rm) (rkn':Str->Bool) (Hf' H':Hp),But [D.kd,D.sd,D.rd] H H'->aN Hf Hf'->(∀z,Mu H z->Hf z=none->Hf' z=none)->rK D n gv rc rm kn' Jt rkn' Hf' H'->Kn.Le kn kn'->kn' x≠none->(∀y,kn' y≠none->kn y≠none\/Rch gv rc kn' x y)->Q .non H'
def K7 (kn:Kn) (n:Nat):Nat:=((List.range n).filter fun i=>(kn (aD i)).isNone).length
theorem Gi {p p':Nat->Bool}:∀{l:List Nat},(∀j∈l,p' j=true->p j=true)->∀{i:Nat},i∈l->p i=true->p' i=false->(l.filter p').length+1<=(l.filter p).length
 |[],_,i,hi,_,_=>by cases hi
 | a::l,h,i,hi,h1,h2=>by
   have hle:∀l:List Nat,(∀j∈l,p' j=true->p j=true)->(l.filter p').length<=(l.filter p).length:=by
    intro l
    induction l with
    | nil=>intro _;exact Nat.le_refl _
    | cons b l ih=>
      intro h
      have ih:=ih fun j hj=>h j (by simp[hj])
      rw[List.filter_cons,List.filter_cons]
      by_cases hb:p' b=true
      ·rw[if_pos hb,if_pos (h b (by simp) hb)];simp;exact ih
      ·rw[if_neg hb]
       split
       ·simp;omega
       ·exact ih
   rcases List.mem_cons.mp hi with z | z
   ·subst z
    rw[List.filter_cons,List.filter_cons,if_neg (by rw[h2];decide),if_pos h1]
    have:=hle l fun j hj=>h j (by simp[hj])
    simp;exact this
   ·have ih:=Gi (l:=l) (fun j hj=>h j (by simp[hj])) z h1 h2
    rw[List.filter_cons,List.filter_cons]
    by_cases hb:p' a=true
    ·rw[if_pos hb,if_pos (h a (by simp) hb)];simp;exact ih
    ·rw[if_neg hb]
     split
     ·simp;omega
     ·exact ih
theorem DQ {kn:Kn}{n i:Nat}{v:Int} (hi:i<n) (h:kn (aD i)=none):K7 (kn.put (aD i) v) n+1<=K7 kn n:=by
 refine Gi (fun j _ hj=> ?_) (List.mem_range.mpr hi) (by simp only[h];rfl) ?_
 ·unfold Kn.put at hj
  by_cases z:aD j=aD i
  ·rw[if_pos z] at hj;cases hj
  ·rw[if_neg z] at hj;exact hj
 ·unfold Kn.put;rw[if_pos rfl];rfl
end RB
set_option maxRecDepth 100000
namespace RB
open PySem L2 PySem.Spec PyProof.Rows
theorem Ju {S:List Addr}{H H':Hp} (b:But S H H') (m:∀z∈S,Mu H z):lq H H':=fun p xs e=>b p _ (fun w=>by
 obtain⟨o,h1,h2⟩:=m p w
 rw[e] at h1;cases h1;exact h2 _ rfl) e
theorem Mu.but {S:List Addr}{H H':Hp}{z:Addr} (m:Mu H z) (b:But S H H') (hz:z∉S):Mu H' z:=let ⟨o,h1,h2⟩:=m;⟨o,b _ _ hz h1,h2⟩
theorem Mu.some {H:Hp}{z:Addr} (m:Mu H z):H z≠none:=let ⟨o,h1,_⟩:=m;by rw[h1];simp
theorem rK.but {D:SrD}{n:Nat}{gv:Kn}{rc:Rn}{rm:Rm}{kn:Kn}{rmN:Rm}{rkn:Str->Bool}{Hf H H':Hp}{S:List Addr} (h:rK D n gv rc rm kn rmN rkn Hf H) (b:But S H H') (hf:∀z∈S,Hf z=none) (hk:D.kd∉S) (hs:D.sd∉S) (hr:D.rd∉S):rK D n gv rc rm kn rmN rkn Hf H':=by
 obtain⟨sm,fk,fs,fr,⟨kw,ws,e1,r1⟩,⟨ks,e2,r2⟩,⟨kk,rs,e3,r3⟩,ok,md⟩:=h
 exact⟨fun z o e=>b z o (fun w=>by rw[hf z w] at e;cases e) (sm z o e),fk,fs,fr,⟨kw,ws,b _ _ hk e1,r1⟩,⟨ks,b _ _ hs e2,r2⟩,⟨kk,rs,b _ _ hr e3,r3⟩,ok,md⟩
theorem rK.same {D:SrD}{n:Nat}{gv:Kn}{rc:Rn}{rm:Rm}{kn:Kn}{rmN:Rm}{rkn:Str->Bool}{Hf H H':Hp} (h:rK D n gv rc rm kn rmN rkn Hf H) (s:aN H H'):rK D n gv rc rm kn rmN rkn Hf H':=h.but (S:=[]) (But.of_same s) (by simp) (by simp) (by simp) (by simp)
structure BgI (CS CR:Addr) (D:SrD) (pth bgd:Addr) (n:Nat) (gv:Kn) (rc:Rn) (kr:List (Key×V)) (rm:Rm) (kn:Kn) (bg:Str->Option SeD) (Hf H:Hp):Prop where
 e:∃kb ks,H bgd=some (.dK kb)/\jM kb ks/\∀y,cP kb (.inr y)=(bg y).map fun A=>V.ref A.s
 nm:∀y,bg y≠none->y∈nmK n
 ok:∀y A,bg y=some A->kn y=none->∃r,rc y=some r/\gv y=none/\tU CS CR kr rm y r kn A H
 al:∀y A,bg y=some A->∀z∈A.ft,Mu H z/\Hf z=none/\z∉[pth,bgd,D.kd,D.sd,D.rd]
 dj:∀y y' A A',y≠y'->bg y=some A->bg y'=some A'->∀z∈A.ft,z∉A'.ft
section
variable {CS CR:Addr}{D:SrD}{pth bgd:Addr}{n:Nat}{gv:Kn}{rc:Rn}{kr:List (Key×V)}{rm:Rm}{kn kn':Kn}{bg:Str->Option SeD}{Hf Hf' H H':Hp}
theorem BgI.but {S:List Addr} (h:BgI CS CR D pth bgd n gv rc kr rm kn bg Hf H) (b:But S H H') (t:lq H H') (hb:bgd∉S) (hS:∀y A,bg y=some A->∀z∈A.ft,z∉S):BgI CS CR D pth bgd n gv rc kr rm kn bg Hf H':=by
 obtain⟨⟨kb,ks,e1,e2,e3⟩,nm,ok,al,dj⟩:=h
 exact⟨⟨kb,ks,b _ _ hb e1,e2,e3⟩,nm,fun y A h1 h2=>let ⟨r,a1,a2,a3⟩:=ok y A h1 h2;⟨r,a1,a2,a3.move b t (hS y A h1)⟩,fun y A h1 z hz=>⟨(al y A h1 z hz).1.but b (hS y A h1 z hz),(al y A h1 z hz).2⟩,dj⟩
theorem BgI.same (h:BgI CS CR D pth bgd n gv rc kr rm kn bg Hf H) (s:aN H H'):BgI CS CR D pth bgd n gv rc kr rm kn bg Hf H':=h.but (S:=[]) (But.of_same s) (aN.tups s) (by simp) (by simp)
theorem BgI.off {S:List Addr} (h:BgI CS CR D pth bgd n gv rc kr rm kn bg Hf H) (b:But S H H') (m:∀z∈S,Mu H z) (hS:∀z∈S,z∈[pth,D.kd,D.sd,D.rd]) (hb:bgd∉S):BgI CS CR D pth bgd n gv rc kr rm kn bg Hf H':=
 h.but b (Ju b m) hb fun y A h1 z hz w=>(h.al y A h1 z hz).2.2 (by
   have:=hS z w
   simp only[List.mem_cons,List.not_mem_nil,or_false] at this ⊢
   rcases this with q | q | q | q
   ·exact .inl q
   ·exact .inr (.inr (.inl q))
   ·exact .inr (.inr (.inr (.inl q)))
   ·exact .inr (.inr (.inr (.inr q))))
theorem BgI.le (h:BgI CS CR D pth bgd n gv rc kr rm kn bg Hf H) (l:Kn.Le kn kn'):BgI CS CR D pth bgd n gv rc kr rm kn' bg Hf H:=
 ⟨h.e,h.nm,fun y A h1 h2=>by
   have h0:kn y=none:=by
    cases z:kn y with
    | none=>rfl
    | some v=>rw[l y v z] at h2;cases h2
   obtain⟨r,a1,a2,a3⟩:=h.ok y A h1 h0
   exact⟨r,a1,a2,a3.le l⟩,h.al,h.dj⟩
theorem BgI.hf (h:BgI CS CR D pth bgd n gv rc kr rm kn bg Hf H) (f:∀z,Mu H z->Hf z=none->Hf' z=none):BgI CS CR D pth bgd n gv rc kr rm kn bg Hf' H:=
 ⟨h.e,h.nm,h.ok,fun y A h1 z hz=>let ⟨a,b,c⟩:=h.al y A h1 z hz;⟨a,f z a b,c⟩,h.dj⟩
theorem tU.mu {y:Str}{r:R}{A:SeD} (h:tU CS CR kr rm y r kn A H):∀z∈A.ft,Mu H z:=fun z hz=>by
 obtain⟨c,rc',_⟩:=h.c
 have hz:z=A.s\/z=A.fl\/z=A.rk\/z=A.a1\/z=A.a2\/z=A.a3:=by simpa [SeD.ft] using hz
 rcases hz with rfl | rfl | rfl | rfl | rfl | rfl
 ·exact⟨_,h.e,by simp⟩
 ·rcases h.f with⟨rb,ps,v,w1,_⟩ | ⟨w1,_⟩
  ·exact⟨_,w1,by simp⟩
  ·exact⟨_,w1,by simp⟩
 ·exact⟨_,rc'.e,by simp⟩
 ·obtain⟨ws,w1,_⟩:=rc'.e1
  exact⟨_,w1,by simp⟩
 ·exact⟨_,rc'.e2,by simp⟩
 ·exact⟨_,rc'.e3,by simp⟩
def kI (bg:Str->Option SeD) (y:Str) (A:SeD):Str->Option SeD:=fun x=>if x=y then some A else bg x
theorem BgI.new {H1:Hp}{y:Str}{r:R}{A:SeD}{kb:List (Key×V)} (h:BgI CS CR D pth bgd n gv rc kr rm kn bg Hf H) (s:aN H H1) (hA:∀z∈A.ft,H z=none) (so:tU CS CR kr rm y r kn A H1) (hr:rc y=some r) (hg:gv y=none) (hy:y∈nmK n) (hb:bg y=none)
 (ebd:H bgd=some (.dK kb)) (sf:aN Hf H) (al:∀z∈[pth,bgd,D.kd,D.sd,D.rd],H z≠none):BgI CS CR D pth bgd n gv rc kr rm kn (kI bg y A) Hf (upd H1 bgd (.dK (putK kb (.inr y) (.ref A.s)))):=by
 have h1:=h.same s
 have eb1:=s _ _ ebd
 have b1:But [bgd] H1 (upd H1 bgd (.dK (putK kb (.inr y) (.ref A.s)))):=But.set _ (by simp)
 have t1:lq H1 (upd H1 bgd (.dK (putK kb (.inr y) (.ref A.s)))):=G8 eb1
 have nA:∀z∈A.ft,z∉[pth,bgd,D.kd,D.sd,D.rd]:=fun z hz w=>al z w (hA z hz)
 have nb:∀z∈A.ft,z∉[bgd]:=fun z hz w=>nA z hz (by simp at w ⊢;exact .inr (.inl w))
 obtain⟨⟨kb',ks,e1,e2,e3⟩,nm,ok,al1,dj⟩:=h1
 rw[eb1] at e1;cases e1
 have hyk:y∉ks:=e2.none.mp (by rw[e3,hb];rfl)
 refine⟨⟨_,_,aq,e2.vm hyk _,fun x=> ?_⟩,fun x hx=> ?_,fun x B h1 h2=> ?_,fun x B h1 z hz=> ?_,fun x x' B B' hne h1 h2 z hz=> ?_⟩
 ·rw[lU]
  unfold kI
  by_cases z:x=y
  ·rw[if_pos (by rw[z]),if_pos z];rfl
  ·rw[if_neg (Av z),if_neg z];exact e3 x
 ·unfold kI at hx
  by_cases z:x=y
  ·rw[z];exact hy
  ·rw[if_neg z] at hx;exact nm x hx
 ·unfold kI at h1
  by_cases z:x=y
  ·rw[if_pos z] at h1;cases h1
   rw[z];exact⟨r,hr,hg,so.move b1 t1 nb⟩
  ·rw[if_neg z] at h1
   obtain⟨r',a1,a2,a3⟩:=ok x B h1 h2
   exact⟨r',a1,a2,a3.move b1 t1 fun w hw q=>(al1 x B h1 w hw).2.2 (by simp at q ⊢;exact .inr (.inl q))⟩
 ·unfold kI at h1
  by_cases w:x=y
  ·rw[if_pos w] at h1;cases h1
   refine⟨(so.mu z hz).but b1 (nb z hz), ?_,nA z hz⟩
   cases q:Hf z with
   | none=>rfl
   | some o=>have:=sf _ _ q;rw[hA z hz] at this;cases this
  ·rw[if_neg w] at h1
   obtain⟨a1,a2,a3⟩:=al1 x B h1 z hz
   exact⟨a1.but b1 (fun q=>a3 (by simp at q ⊢;exact .inr (.inl q))),a2,a3⟩
 ·unfold kI at h1 h2
  by_cases w:x=y
  ·rw[if_pos w] at h1;cases h1
   rw[if_neg (fun q=>hne (w.trans q.symm))] at h2
   exact fun q=>((h.al x' B' h2 z q).1.some) (hA z hz)
  ·rw[if_neg w] at h1
   by_cases w':x'=y
   ·rw[if_pos w'] at h2;cases h2
    exact fun q=>((h.al x B h1 z hz).1.some) (hA z q)
   ·rw[if_neg w'] at h2
    exact dj x x' B B' hne h1 h2 z hz
theorem BgI.set {y:Str}{r:R}{A A':SeD} (h:BgI CS CR D pth bgd n gv rc kr rm kn bg Hf H) (hy:bg y=some A) (b:But A.ft H H') (so:tU CS CR kr rm y r kn A' H') (hr:rc y=some r) (hg:gv y=none)
 (es:A'.s=A.s) (erk:A'.rk=A.rk) (e1:A'.a1=A.a1) (e2:A'.a2=A.a2) (e3:A'.a3=A.a3) (efl:A'.fl=A.fl\/H A'.fl=none) (sf:aN Hf H) (al:∀z∈[pth,bgd,D.kd,D.sd,D.rd],H z≠none):BgI CS CR D pth bgd n gv rc kr rm kn (kI bg y A') Hf H':=by
 have hin:∀z∈A'.ft,z∈A.ft\/H z=none:=fun z hz=>by
  have hz:z=A'.s\/z=A'.fl\/z=A'.rk\/z=A'.a1\/z=A'.a2\/z=A'.a3:=by simpa [SeD.ft] using hz
  rcases hz with w | w | w | w | w | w
  ·exact .inl (by rw[w,es];simp[SeD.ft])
  ·rcases efl with q | q
   ·exact .inl (by rw[w,q];simp[SeD.ft])
   ·exact .inr (by rw[w];exact q)
  ·exact .inl (by rw[w,erk];simp[SeD.ft])
  ·exact .inl (by rw[w,e1];simp[SeD.ft])
  ·exact .inl (by rw[w,e2];simp[SeD.ft])
  ·exact .inl (by rw[w,e3];simp[SeD.ft])
 have mA:∀z∈A.ft,Mu H z:=fun z hz=>(h.al y A hy z hz).1
 have t:=Ju b mA
 have nbg:bgd∉A.ft:=fun z=>(h.al y A hy _ z).2.2 (by simp)
 obtain⟨⟨kb,ks,f1,f2,f3⟩,nm,ok,al1,dj⟩:=h
 refine⟨⟨kb,ks,b _ _ nbg f1,f2,fun x=> ?_⟩,fun x hx=> ?_,fun x B h1 h2=> ?_,fun x B h1 z hz=> ?_,fun x x' B B' hne h1 h2 z hz=> ?_⟩
 ·rw[f3]
  unfold kI
  by_cases z:x=y
  ·rw[if_pos z,z,hy];show some (V.ref A.s)=some (V.ref A'.s);rw[es]
  ·rw[if_neg z]
 ·unfold kI at hx
  by_cases z:x=y
  ·rw[z];exact nm y (by rw[hy];simp)
  ·rw[if_neg z] at hx;exact nm x hx
 ·unfold kI at h1
  by_cases z:x=y
  ·rw[if_pos z] at h1;cases h1
   rw[z];exact⟨r,hr,hg,so⟩
  ·rw[if_neg z] at h1
   obtain⟨r',a1,a2,a3⟩:=ok x B h1 h2
   exact⟨r',a1,a2,a3.move b t fun w hw=>dj x y B A z h1 hy w hw⟩
 ·unfold kI at h1
  by_cases w:x=y
  ·rw[if_pos w] at h1;cases h1
   refine⟨so.mu z hz, ?_, ?_⟩
   ·rcases hin z hz with q | q
    ·exact(al1 y A hy z q).2.1
    ·cases q':Hf z with
     | none=>rfl
     | some o=>have:=sf _ _ q';rw[q] at this;cases this
   ·rcases hin z hz with q | q
    ·exact(al1 y A hy z q).2.2
    ·exact fun w'=>al z w' q
  ·rw[if_neg w] at h1
   obtain⟨a1,a2,a3⟩:=al1 x B h1 z hz
   exact⟨a1.but b (dj x y B A w h1 hy z hz),a2,a3⟩
 ·unfold kI at h1 h2
  by_cases w:x=y
  ·rw[if_pos w] at h1;cases h1
   rw[if_neg (fun q=>hne (w.trans q.symm))] at h2
   rcases hin z hz with q | q
   ·exact dj y x' A B' (fun e=>hne (w.trans e)) hy h2 z q
   ·exact fun w'=>((al1 x' B' h2 z w').1.some) q
  ·rw[if_neg w] at h1
   by_cases w':x'=y
   ·rw[if_pos w'] at h2;cases h2
    intro q
    rcases hin z q with q' | q'
    ·exact dj x y B A w h1 hy z hz q'
    ·exact((al1 x B h1 z hz).1.some) q'
   ·rw[if_neg w'] at h2
    exact dj x x' B B' hne h1 h2 z hz
end
end RB
set_option maxRecDepth 100000
namespace RB
open PySem L2 PySem.Spec PyProof.Rows
theorem M9:∀{is:List Nat}{n:Nat},is.Pairwise (fun a b=>b<a)->(∀i∈is,i<n)->is.length<=n
 |[],n,_,_=>Nat.zero_le _
 | a::l,n,h,hl=>by
   rw[List.pairwise_cons] at h
   have:=M9 (is:=l) (n:=a) h.2 h.1
   have:=hl a (by simp)
   simp;omega
theorem xT.in {kn:Kn}{r:R}{x:Str}{ns:List Str} (h:xT kn r x) (hi:r.In ns):x∈ns:=by
 obtain⟨ps,_,e,_⟩:=h
 exact Bt hi e
def Bv (n:Nat) (kn:Kn) (is:List Nat):Nat:=match is.getLast? with
 | none=>0
 | some i=>if(kn (aD i)).isNone=true then 60 * K7 kn n+20 - is.length else 60 * K7 kn n+30
theorem m7 {n:Nat}{kn:Kn}{js:List Nat}{i:Nat} (h:kn (aD i)=none):Bv n kn (js++[i])=60 * K7 kn n+20 - (js.length+1):=by
 unfold Bv
 rw[List.getLast?_concat]
 simp only[h]
 rw[List.length_append];rfl
theorem wM {n:Nat}{kn:Kn}{js:List Nat}{i:Nat} (h:kn (aD i)≠none):Bv n kn (js++[i])=60 * K7 kn n+30:=by
 unfold Bv
 rw[List.getLast?_concat]
 simp only
 rw[if_neg]
 intro z
 exact h (Option.isNone_iff_eq_none.mp z)
structure LpI (CSe CN CS CR:Addr) (D:SrD) (pth bgd:Addr) (n:Nat) (gv:Kn) (rc:Rn) (kg kc kr:List (Key×V)) (rm:Rm) (knI:Kn) (HfI HI:Hp) (x:Str) (k0:Nat) (is:List Nat) (kn:Kn) (rmN:Rm) (rkn:Str->Bool) (bg:Str->Option SeD) (Hf H:Hp):Prop where
 b:But [D.kd,D.sd,D.rd] HI H
 sf:aN HfI Hf
 fm:∀z,Mu HI z->HfI z=none->Hf z=none
 sh:SrH CSe CN D n gv rc kg kc kr rm Hf
 so:rK D n gv rc rm kn rmN rkn Hf H
 ep:H pth=some (.lst (is.map fun i=>V.str (aD i)))
 fp:Hf pth=none
 fb:Hf bgd=none
 ip:HI pth=none
 ib:HI bgd=none
 np:pth∉[D.kd,D.sd,D.rd]
 nb:bgd∉[D.kd,D.sd,D.rd]
 nn:pth≠bgd
 dec:is.Pairwise (fun a b=>b<a)
 lt:∀i∈is,i<n
 un:∀i∈is.dropLast,kn (aD i)=none
 rch:∀i∈is,Rch gv rc kn x (aD i)
 le:Kn.Le knI kn
 new:∀y,kn y≠none->knI y≠none\/Rch gv rc kn x y
 bgi:BgI CS CR D pth bgd n gv rc kr rm kn bg Hf H
 hd:is.head?=some k0\/(is=[]/\kn x≠none)
 fr:∀y A,bg y=some A->∀z∈A.ft,HI z=none
section
variable {CSe CN CS CR:Addr}{D:SrD}{pth bgd:Addr}{n:Nat}{gv:Kn}{rc:Rn}{kg kc kr:List (Key×V)}{rm:Rm}{knI:Kn}{HfI HI:Hp}{x:Str}{k0:Nat}{is js:List Nat}{i:Nat}{kn:Kn}{rmN:Rm}{rkn:Str->Bool}{bg:Str->Option SeD}{Hf H H':Hp}
theorem LpI.len (h:LpI CSe CN CS CR D pth bgd n gv rc kg kc kr rm knI HfI HI x k0 is kn rmN rkn bg Hf H):is.length<=17:=Nat.le_trans (M9 h.dec h.lt) h.sh.n17
theorem LpI.al (h:LpI CSe CN CS CR D pth bgd n gv rc kg kc kr rm knI HfI HI x k0 is kn rmN rkn bg Hf H):∀z∈[pth,bgd,D.kd,D.sd,D.rd],Mu H z:=fun z hz=>by
 obtain⟨kb,ks,e1,_⟩:=h.bgi.e
 obtain⟨kw,ws,e2,_⟩:=h.so.ek
 obtain⟨ks',e3,_⟩:=h.so.es
 obtain⟨kk,rs,e4,_⟩:=h.so.er
 have hz:z=pth\/z=bgd\/z=D.kd\/z=D.sd\/z=D.rd:=by simpa using hz
 rcases hz with rfl | rfl | rfl | rfl | rfl
 ·exact⟨_,h.ep,by simp⟩
 ·exact⟨_,e1,by simp⟩
 ·exact⟨_,e2,by simp⟩
 ·exact⟨_,e3,by simp⟩
 ·exact⟨_,e4,by simp⟩
theorem LpI.path {is':List Nat} (h:LpI CSe CN CS CR D pth bgd n gv rc kg kc kr rm knI HfI HI x k0 is kn rmN rkn bg Hf H) (dec:is'.Pairwise (fun a b=>b<a)) (lt:∀i∈is',i<n) (un:∀i∈is'.dropLast,kn (aD i)=none) (rch:∀i∈is',Rch gv rc kn x (aD i)) (hd:is'.head?=some k0\/(is'=[]/\kn x≠none)):
 LpI CSe CN CS CR D pth bgd n gv rc kg kc kr rm knI HfI HI x k0 is' kn rmN rkn bg Hf (upd H pth (.lst (is'.map fun i=>V.str (aD i)))):=by
 have hb:But [pth] H (upd H pth (.lst (is'.map fun i=>V.str (aD i)))):=But.set _ (by simp)
 have np:=h.np
 simp only[List.mem_cons,List.not_mem_nil,or_false,not_or] at np
 refine⟨h.b.upd _ h.ip,h.sf,h.fm,h.sh,h.so.but hb (fun z hz=> ?_) (fun z=>np.1 (List.mem_singleton.mp z).symm) (fun z=> ?_) (fun z=> ?_),aq,h.fp,h.fb,h.ip,h.ib,h.np,h.nb,h.nn,dec,lt,un,rch,h.le,h.new,h.bgi.off hb (fun z hz=> ?_) (fun z hz=> ?_) (fun z=> ?_),hd,h.fr⟩
 ·have:z=pth:=by simpa using hz
  rw[this];exact h.fp
 ·exact np.2.1 (by have:D.sd=pth:=by simpa using z
                   exact this.symm)
 ·exact np.2.2 (by have:D.rd=pth:=by simpa using z
                   exact this.symm)
 ·have:z=pth:=by simpa using hz
  rw[this];exact h.al pth (by simp)
 ·have:z=pth:=by simpa using hz
  rw[this];simp
 ·exact h.nn (by have:bgd=pth:=by simpa using z
                 exact this.symm)
theorem LpI.pop (h:LpI CSe CN CS CR D pth bgd n gv rc kg kc kr rm knI HfI HI x k0 (js++[i]) kn rmN rkn bg Hf H) (hk:kn (aD i)≠none) (ex:x=aD k0):LpI CSe CN CS CR D pth bgd n gv rc kg kc kr rm knI HfI HI x k0 js kn rmN rkn bg Hf (upd H pth (.lst (js.map fun i=>V.str (aD i)))):=by
 have un:=h.un
 rw[List.dropLast_concat] at un
 refine h.path (h.dec.sublist (List.sublist_append_left _ _)) (fun j hj=>h.lt j (by simp[hj])) (fun j hj=>un j ((List.dropLast_sublist _).subset hj)) (fun j hj=>h.rch j (by simp[hj])) ?_
 rcases h.hd with z | ⟨z,_⟩
 ·cases js with
  | nil=>
    right
    have:i=k0:=by simpa using z
    exact⟨rfl,by rw[ex,<-this];exact hk⟩
  | cons a js=>left;simpa using z
 ·simp at z
theorem LpI.push {j:Nat}{r:R} (h:LpI CSe CN CS CR D pth bgd n gv rc kg kc kr rm knI HfI HI x k0 (js++[i]) kn rmN rkn bg Hf H) (hk:kn (aD i)=none) (hji:j<i) (hg:gv (aD i)=none) (hr:rc (aD i)=some r) (hs:xT kn r (aD j)):LpI CSe CN CS CR D pth bgd n gv rc kg kc kr rm knI HfI HI x k0 (js++[i]++[j]) kn rmN rkn bg Hf (upd H pth (.lst ((js++[i]++[j]).map fun i=>V.str (aD i)))):=by
 have hi:=h.lt i (by simp)
 have un:=h.un
 rw[List.dropLast_concat] at un
 have dec:=h.dec
 rw[List.pairwise_append] at dec
 refine h.path ?_ (fun k hk=> ?_) (fun k hk'=> ?_) (fun k hk'=> ?_) ?_
 ·rw[List.pairwise_append]
  refine⟨h.dec,by simp,fun a ha b hb=> ?_⟩
  have hb:b=j:=by simpa using hb
  rw[hb]
  rcases List.mem_append.mp ha with z | z
  ·exact Nat.lt_trans hji (dec.2.2 a z i (by simp))
  ·have:a=i:=by simpa using z
   rw[this];exact hji
 ·rcases List.mem_append.mp hk with z | z
  ·exact h.lt k z
  ·have:k=j:=by simpa using z
   rw[this];omega
 ·rw[List.dropLast_concat] at hk'
  rcases List.mem_append.mp hk' with z | z
  ·exact un k z
  ·have:k=i:=by simpa using z
   rw[this];exact hk
 ·rcases List.mem_append.mp hk' with z | z
  ·exact h.rch k z
  ·have:k=j:=by simpa using z
   rw[this];exact .step (h.rch i (by simp)) hg hr hs
 ·left
  rcases h.hd with z | ⟨z,_⟩
  ·cases js with
   | nil=>simpa using z
   | cons a js=>simpa using z
  ·simp at z
theorem LpI.know {kn':Kn}{Jt:Rm}{rkn':Str->Bool}{Hf':Hp} (h:LpI CSe CN CS CR D pth bgd n gv rc kg kc kr rm knI HfI HI x k0 (js++[i]) kn rmN rkn bg Hf H) (b:But [D.kd,D.sd,D.rd] H H') (sf:aN Hf Hf') (fm:∀z,Mu H z->Hf z=none->Hf' z=none) (so:rK D n gv rc rm kn' Jt rkn' Hf' H') (le:Kn.Le kn kn') (hn:∀y,kn' y≠none->kn y≠none\/y=aD i) (hun:∀y,y≠aD i->kn y=none->kn' y=none) (n26:n<=26):LpI CSe CN CS CR D pth bgd n gv rc kg kc kr rm knI HfI HI x k0 (js++[i]) kn' Jt rkn' bg Hf' H':=by
 have hal:=h.al
 have hmu:∀z∈[D.kd,D.sd,D.rd],Mu H z:=fun z hz=>hal z (by simp at hz ⊢;rcases hz with q | q | q<;>simp[q])
 have un:=h.un
 rw[List.dropLast_concat] at un
 have dec:=h.dec
 rw[List.pairwise_append] at dec
 refine⟨h.b.trans b,h.sf.trans sf,fun z m hz=> ?_,h.sh.same sf,so,b _ _ h.np h.ep,fm _ (hal _ (by simp)) h.fp,fm _ (hal _ (by simp)) h.fb,h.ip,h.ib,h.np,h.nb,h.nn,h.dec,h.lt,fun j hj=> ?_,fun j hj=>(h.rch j hj).le le,h.le.trans le,fun y hy=> ?_,((h.bgi.hf fm).off b hmu (fun z hz=>by simp at hz ⊢;rcases hz with q | q | q<;>simp[q]) h.nb).le le, ?_,h.fr⟩
 ·have hz':=h.fm z m hz
  by_cases hS:z∈[D.kd,D.sd,D.rd]
  ·exact fm z (hmu z hS) hz'
  ·exact fm z (m.but h.b hS) hz'
 ·rw[List.dropLast_concat] at hj
  have hlt:i<j:=dec.2.2 j hj i (by simp)
  have hjn:=h.lt j (by simp[hj])
  exact hun _ (fun z=>by
   have:=jz (show j<26 by omega) (show i<26 by omega) z
   omega) (un j hj)
 ·rcases hn y hy with z | z
  ·exact(h.new y z).imp id fun w=>w.le le
  ·right;rw[z];exact(h.rch i (by simp)).le le
 ·exact h.hd.imp id fun⟨a,_⟩=>by simp at a
theorem LpI.bgs {S:List Addr}{bg':Str->Option SeD} (h:LpI CSe CN CS CR D pth bgd n gv rc kg kc kr rm knI HfI HI x k0 is kn rmN rkn bg Hf H) (b:But S H H') (hS:∀z∈S,HI z=none/\Hf z=none/\z∉[pth,D.kd,D.sd,D.rd]) (hb:BgI CS CR D pth bgd n gv rc kr rm kn bg' Hf H') (hf:∀y A,bg' y=some A->∀z∈A.ft,HI z=none):LpI CSe CN CS CR D pth bgd n gv rc kg kc kr rm knI HfI HI x k0 is kn rmN rkn bg' Hf H':=by
 refine⟨fun c o hc e=>b c o (fun w=>by rw[(hS c w).1] at e;cases e) (h.b c o hc e),h.sf,h.fm,h.sh,h.so.but b (fun z hz=>(hS z hz).2.1) (fun z=>(hS _ z).2.2 (by simp)) (fun z=>(hS _ z).2.2 (by simp)) (fun z=>(hS _ z).2.2 (by simp)),b _ _ (fun z=>(hS _ z).2.2 (by simp)) h.ep,h.fp,h.fb,h.ip,h.ib,h.np,h.nb,h.nn,h.dec,h.lt,h.un,h.rch,h.le,h.new,hb,h.hd,hf⟩
theorem LpI.free (h:LpI CSe CN CS CR D pth bgd n gv rc kg kc kr rm knI HfI HI x k0 is kn rmN rkn bg Hf H) {z:Addr} (hz:H z=none):HI z=none/\Hf z=none:=by
 refine⟨iB h.b hz fun w=>(h.al z (by simp at w ⊢;rcases w with q | q | q<;>simp[q])).some hz, ?_⟩
 cases q:Hf z with
 | none=>rfl
 | some o=>have:=h.so.sm _ _ q;rw[hz] at this;cases this
theorem LpI.begun {H1:Hp}{y:Str}{r:R}{A:SeD}{kb:List (Key×V)} (h:LpI CSe CN CS CR D pth bgd n gv rc kg kc kr rm knI HfI HI x k0 is kn rmN rkn bg Hf H) (s:aN H H1) (hA:∀z∈A.ft,H z=none) (so:tU CS CR kr rm y r kn A H1) (hr:rc y=some r) (hg:gv y=none) (hy:y∈nmK n) (hb:bg y=none) (ebd:H bgd=some (.dK kb)):
 LpI CSe CN CS CR D pth bgd n gv rc kg kc kr rm knI HfI HI x k0 is kn rmN rkn (kI bg y A) Hf (upd H1 bgd (.dK (putK kb (.inr y) (.ref A.s)))):=by
 have nb:=h.nb
 refine h.bgs (S:=[bgd]) ((But.of_same s).trans (But.set _ (by simp))) (fun z hz=> ?_) (h.bgi.new s hA so hr hg hy hb ebd h.so.sm fun z hz=>(h.al z hz).some) (fun x B hB z hz=> ?_)
 ·have:z=bgd:=by simpa using hz
  rw[this]
  exact⟨h.ib,h.fb,fun w=>by
   rcases List.mem_cons.mp w with q | q
   ·exact h.nn q.symm
   ·exact nb q⟩
 ·unfold kI at hB
  by_cases w:x=y
  ·rw[if_pos w] at hB;cases hB
   exact(h.free (hA z hz)).1
  ·rw[if_neg w] at hB;exact h.fr x B hB z hz
theorem LpI.gone {y:Str}{r:R}{A A':SeD} (h:LpI CSe CN CS CR D pth bgd n gv rc kg kc kr rm knI HfI HI x k0 is kn rmN rkn bg Hf H) (hy:bg y=some A) (b:But A.ft H H') (so:tU CS CR kr rm y r kn A' H') (hr:rc y=some r) (hg:gv y=none)
 (es:A'.s=A.s) (erk:A'.rk=A.rk) (e1:A'.a1=A.a1) (e2:A'.a2=A.a2) (e3:A'.a3=A.a3) (efl:A'.fl=A.fl\/H A'.fl=none):LpI CSe CN CS CR D pth bgd n gv rc kg kc kr rm knI HfI HI x k0 is kn rmN rkn (kI bg y A') Hf H':=by
 refine h.bgs (S:=A.ft) b (fun z hz=> ?_) (h.bgi.set hy b so hr hg es erk e1 e2 e3 efl h.so.sm fun z hz=>(h.al z hz).some) (fun x B hB z hz=> ?_)
 ·obtain⟨a1,a2,a3⟩:=h.bgi.al y A hy z hz
  exact⟨h.fr y A hy z hz,a2,fun w=>a3 (by
   simp only[List.mem_cons,List.not_mem_nil,or_false] at w ⊢
   rcases w with q | q | q | q
   ·exact .inl q
   ·exact .inr (.inr (.inl q))
   ·exact .inr (.inr (.inr (.inl q)))
   ·exact .inr (.inr (.inr (.inr q))))⟩
 ·unfold kI at hB
  by_cases w:x=y
  ·rw[if_pos w] at hB;cases hB
   have hz:z=A'.s\/z=A'.fl\/z=A'.rk\/z=A'.a1\/z=A'.a2\/z=A'.a3:=by simpa [SeD.ft] using hz
   rcases hz with q | q | q | q | q | q
   ·rw[q,es];exact h.fr y A hy _ (by simp[SeD.ft])
   ·rcases efl with w | w
    ·rw[q,w];exact h.fr y A hy _ (by simp[SeD.ft])
    ·rw[q];exact(h.free w).1
   ·rw[q,erk];exact h.fr y A hy _ (by simp[SeD.ft])
   ·rw[q,e1];exact h.fr y A hy _ (by simp[SeD.ft])
   ·rw[q,e2];exact h.fr y A hy _ (by simp[SeD.ft])
   ·rw[q,e3];exact h.fr y A hy _ (by simp[SeD.ft])
  ·rw[if_neg w] at hB;exact h.fr x B hB z hz
theorem rK.giv {y:Str}{v:Int}{kw:List (Key×V)}{ws:List Str} (h:rK D n gv rc rm kn rmN rkn Hf H) (ek:H D.kd=some (.dK kw)) (kk:jM kw ws) (hk:∀x,cP kw (.inr x)=(kn x).map V.int) (hy:y∈nmK n) (hg:gv y=some v) (ne:D.kd≠D.sd/\D.kd≠D.rd/\D.sd≠D.rd):rK D n gv rc rm (kn.put y v) rmN rkn Hf (upd H D.kd (.dK (putK kw (.inr y) (.int v))))/\Kn.Le kn (kn.put y v):=by
 have hn:kn y=none\/kn y=some v:=by
  cases z:kn y with
  | none=>exact .inl rfl
  | some u=>
    rcases(h.ok.a y u z).2 with w | ⟨w,_⟩
    ·rw[hg] at w;cases w;exact .inr rfl
    ·rw[hg] at w;cases w
 obtain⟨sm,fk,fs,fr,_,⟨ks,e2,r2⟩,⟨kk',rs,e3,r3⟩,ok,md⟩:=h
 have hs:aN Hf (upd H D.kd (.dK (putK kw (.inr y) (.int v)))):=fun z o e=>(au (fun w=>by rw[w,fk] at e;cases e)).trans (sm z o e)
 rcases hn with z | z
 ·have le:=Kn.pF (v:=v) z
  have hyw:y∉ws:=kk.none.mp (by rw[hk,z];rfl)
  exact⟨⟨hs,fk,fs,fr,⟨_,_,aq,kk.vm hyw _,Cr hk y v⟩,⟨ks,(au (Ne.symm ne.1)).trans e2,r2⟩,⟨kk',rs,(au (Ne.symm ne.2.1)).trans e3,r3⟩,ok.afl hy z hg,fun x r ps u e=>(md x r ps u e).le le⟩,le⟩
 ·have hyw:y∈ws:=Decidable.byContradiction fun w=>by
   have:=kk.none.mpr w
   rw[hk,z] at this;cases this
  have eq:kn.put y v=kn:=by
   funext x
   unfold Kn.put
   by_cases w:x=y
   ·rw[if_pos w,w,z]
   ·rw[if_neg w]
  rw[eq]
  refine⟨⟨hs,fk,fs,fr,⟨_,_,aq,kk.KZ hyw _,fun x=> ?_⟩,⟨ks,(au (Ne.symm ne.1)).trans e2,r2⟩,⟨kk',rs,(au (Ne.symm ne.2.1)).trans e3,r3⟩,ok,md⟩,Kn.Le.refl _⟩
  have:=Cr hk y v x
  rw[eq] at this;exact this
theorem Jv (hl:js.length<=17) (h:∀j∈js,kn (aD j)=none):Bv n kn js<=60 * K7 kn n+20 - js.length:=by
 rcases List.eq_nil_or_concat js with z | ⟨ks,j,z⟩
 ·subst z;exact Nat.zero_le _
 ·rw[List.concat_eq_append] at z
  subst z
  rw[m7 (h j (by simp)),List.length_append]
  exact Nat.le_refl _
end
end RB
set_option maxRecDepth 100000
namespace L2
open PySem PySem.Spec PyProof.Rows RB
section
variable {X:Cx}{tg:Expr}
def Q6 (tl:TE):TI:=fun σ H R=>tl σ H fun x H1=>∃a o kvs,x= .ref a/\H1 a=some (.frz o (.dK kvs))/\R (Itd a o kvs) H1
theorem Q7 {l:Expr}{tl:TE} (hl:PE X l tl):PI X tg l (Q6 tl):=by
 intro pins s σ H R I h
 refine thn (hl pins s σ H _ I h) fun v s1 ⟨x,H1,I1,r1,q1⟩=> ?_
 obtain⟨a,o,kvs,e,hq,q⟩:=q1
 subst e
 cases r1
 obtain⟨ho,hz,lo,vs,hkv,hd⟩:=(show eG X.prog X.w H1 s1.heap a (.frz o (.dK kvs)) from I1.hok a _ hq)
 obtain⟨o',es,ep,ho',hx,hdat,hk,hp,hn⟩:=id hd
 rw[ho] at ho'
 cases ho'
 have hl:=(zG hkv).1
 refine wpAny_pyIter_dict lo ⟨o,es,ho,hx,hdat,hk,hp,hn⟩ ?_
 have hlt:a<s1.heap.objs.size:=Heap.lt_size ho
 rw[<-hl]
 refine⟨s1.heap.objs.size,[s1.heap.objs.size],_,_,_,rfl,I1.kept (t':=s1.toks) fun b o e=>Heap.get?_push_of_some _ e,Gb (Nat.ne_of_lt hlt) hkv hx hdat hk hp hn,⟨_,Heap.get?_push_size _ rfl,rfl,rfl⟩,fun b hb=> ?_,q⟩
 have e:b=s1.heap.objs.size:=by simpa using hb
 subst e
 exact I1.Gr (Nat.le_refl _) (I1.hok.fresh (Nat.le_refl _))
theorem Q8 {l:Expr}{tl:TE} (hl:QE X l tl):QI X tg l (Q6 tl):=⟨Q7 hl.h⟩
end
theorem Gj {a:Addr}{o:Obj}{kvs:List (Key×V)}{g:TG}{tc:TT}{te:TE}{σ:St}{H:Hp}{D:Addr}{Q:VK} (Pv:Nat->St->Hp->Prop) (h0:Pv 0 σ (upd H D (.lst []))) (hl:∀i σ H,i<=kvs.length->Pv i σ H->H a=some (.frz o (.dK kvs)))
 (hs:∀i k v σ' H',kvs[i]? =some (k,v)->Pv i σ' H'->g (kV k) σ' H' fun σ3 H3=>tc σ3 H3 fun b H4=>
   if b=true then te σ3 H4 fun y H5=>∃ys,H5 D=some (.lst ys)/\ys.length<sizeLine/\Pv (i+1) σ3 (upd H5 D (.lst (ys++[y]))) else Pv (i+1) σ3 H4) (hd:∀σ' H',Pv kvs.length σ' H'->Q (.ref D) H'):
 FP (Itd a o kvs) g tc te D σ (upd H D (.lst [])) Q:=by
 refine⟨fun i m σ H=>m=kvs.length - i/\i<=kvs.length/\Pv i σ H,⟨kvs.length,by simp,Nat.zero_le _,h0⟩, ?_⟩
 rintro i m σ H ⟨rfl,hi,p⟩
 have q:=hl i σ H hi p
 by_cases hlt:i<kvs.length
 ·refine .inr ⟨⟨hlt,q⟩,Pv (i+1),fun σ' H' p'=>⟨kvs.length - (i+1),by omega,rfl,hlt,p'⟩,fun x H' y=> ?_⟩
  obtain⟨e,k,v,hk,ex⟩:=y
  subst e ex
  exact hs i k v σ _ hk p
 ·have e:i=kvs.length:=by omega
  subst e
  exact .inl ⟨⟨Nat.le_refl _,q⟩,hd σ H p⟩
end L2
namespace RB
open PySem L2 PySem.Spec PyProof.Rows
def Q9 (CSe:Addr):Sp:=fun vs H Q _=>∃(D:SrD) (ks kk:List (Key×V)) (ss:List Str) (rkn:Str->Bool),vs=[.ref D.so]/\H D.so=some (.ins CSe D.dx (srF D.g D.c D.o D.kd D.sd D.rd))/\H D.sd=some (.dK ks)/\jM ks ss/\ss.length<=100/\D.sd≠D.rd/\H D.rd=some (.dK kk)/\(∀x,cP kk (.inr x)=if rkn x=true then some (.bl true) else none)/\
 ∀(l:Addr) (o:Obj) (H':Hp),But [D.sd] H H'->H' D.sd=some (.frz o (.dK ks))->H l=none->H' l=some (.lst ((ss.filter rkn).map V.str))->Q (.ref l) H'
def Ra (CSe:Addr):Sp:=fun vs H Q _=>∃(D:SrD) (o:Obj) (ks kk:List (Key×V)) (ss:List Str) (rkn:Str->Bool),vs=[.ref D.so]/\H D.so=some (.ins CSe D.dx (srF D.g D.c D.o D.kd D.sd D.rd))/\H D.sd=some (.frz o (.dK ks))/\jM ks ss/\ss.length<=100/\H D.rd=some (.dK kk)/\(∀x,cP kk (.inr x)=if rkn x=true then some (.bl true) else none)/\
 ∀(l:Addr) (H':Hp),aN H H'->H l=none->H' l=some (.lst ((ss.filter fun x=> !rkn x).map V.str))->Q (.ref l) H'
def yo (CSe CN:Addr):Sp:=fun vs H Q _=>∃(h g c o dxo rcd wl:Addr) (n:Nat) (gv:Kn) (rc:Rn) (kg kc kr:List (Key×V)) (rm:Rm) (ws:List Str),vs=[.ref h, .ref o, .ref wl]/\H h=some (.tup [.ref g, .ref c])/\H g=some (.dK kg)/\H c=some (.dK kc)/\Bld H kg kc n gv rc/\n<=17/\H o=some (.ins CN dxo (nrF rcd))/\H rcd=some (.dK kr)/\mJ H kr n rm/\H wl=some (.lst (ws.map V.str))/\(∀x∈ws,x∈nmK n)/\
 ∀(D:SrD) (kn:Kn) (rmN:Rm) (rkn:Str->Bool) (Hf H':Hp),aN H H'->aN H Hf->SrH CSe CN D n gv rc kg kc kr rm Hf->rK D n gv rc rm kn rmN rkn Hf H'->H D.kd=none->H D.sd=none->H D.rd=none->(∀x∈ws,kn x≠none)->(∀y,kn y≠none->∃x∈ws,Rch gv rc kn x y)->Q (.ref D.so) H'
structure Built (n:Nat) (gv:Kn) (rc:Rn) (rm:Rm) (ws:List Str) (kn:Kn) (rmN:Rm) (rkn:Str->Bool):Prop where
 ok:oK n gv rc kn rmN
 md:∀x r ps v,rmN x=some (r,ps,v)->Rcd rm x r kn ps v (rkn x)
 w:∀x∈ws,kn x≠none
 r:∀y,kn y≠none->∃x∈ws,Rch gv rc kn x y
 rn:∀x,rkn x=true->rmN x≠none
def Cv:Sp:=fun vs H Q _=>∃(h g c rcd wl:Addr) (n:Nat) (gv:Kn) (rc:Rn) (kr:List (Key×V)) (rm:Rm) (ws:List Str),vs=[.ref h, .ref rcd, .ref wl]/\pG H h g c n gv rc/\n<=17/\H rcd=some (.dK kr)/\mJ H kr n rm/\H wl=some (.lst (ws.map V.str))/\(∀x∈ws,x∈nmK n)/\
 ∀(t kd sd lm lk:Addr) (kw ks:List (Key×V)) (wn sn:List Str) (kn:Kn) (rmN:Rm) (rkn:Str->Bool) (o:Obj) (H':Hp),aN H H'->H' t=some (.tup [.ref kd, .ref sd, .ref lm, .ref lk])->H kd=none->H sd=none->H lm=none->H lk=none->kd≠sd->lm≠lk->H' kd=some (.dK kw)->jM kw wn->(∀x,cP kw (.inr x)=(kn x).map V.int)->H' sd=some (.frz o (.dK ks))->jM ks sn->mJ H' ks n rmN->H' lm=some (.lst ((sn.filter rkn).map V.str))->H' lk=some (.lst ((sn.filter fun x=> !rkn x).map V.str))->Built n gv rc rm ws kn rmN rkn->Q (.ref t) H'
def Jw:Sp:=fun vs H Q _=>∃(h g c wl:Addr) (n:Nat) (gv:Kn) (rc:Rn) (ws:List Str),vs=[.ref h, .ref wl]/\pG H h g c n gv rc/\n<=17/\H wl=some (.lst (ws.map V.str))/\(∀x∈ws,x∈nmK n)/\
 ∀(t kd sd l:Addr) (kw ks:List (Key×V)) (wn sn:List Str) (kn:Kn) (rmN:Rm) (H':Hp),aN H H'->H' t=some (.tup [.ref kd, .ref sd, .ref l])->H kd=none->H sd=none->H l=none->kd≠sd->H' kd=some (.dK kw)->jM kw wn->(∀x,cP kw (.inr x)=(kn x).map V.int)->H' sd=some (.dK ks)->jM ks sn->mJ H' ks n rmN->H' l=some (.lst (sn.map V.str))->Built n gv rc (fun _=>none) ws kn rmN (fun x=>(rmN x).isSome)->Q (.ref t) H'
end RB
set_option maxRecDepth 100000
namespace L2
open PySem PySem.Spec PyProof.Rows RB
theorem Rb {X:Cx}{pins:List (Addr×Obj)}{s:Shared}{σ:St}{H:Hp}{A:Around}{x y:V}{z z':Value}{d:PyData} (I:Inv X pins σ H s) (rz:RelV x z) (rz':RelV y z') (h1:qJ X.K H x d) (h2:qJ X.K H y d) (sh:SeqAt.shaped d=true) (hu:A.in1.units+64<cLine):SeqAt.EqAt A.in1 s z z' true:=by
 obtain⟨as,r1⟩:=h1.reads I rz
 obtain⟨bs,r2⟩:=h2.reads I rz'
 have:=PySem.W.keq_at r1 r2 sh sh hu
 rw[PySem.SeqAt.eqv_refl d (Dj sh)] at this
 exact this
def Nb (K:PySem.W.Frag) (H:Hp) (ka kb:List (Key×V)):Prop:=ka.length=kb.length/\∀k u,(k,u)∈ka->∃v d,cP kb k=some v/\qJ K H u d/\qJ K H v d/\SeqAt.shaped d=true
theorem Rc {X:Cx}{pins:List (Addr×Obj)}{s:Shared}{σ:St}{H:Hp}{A:Around}{ka kb:List (Key×V)}{va vb:List (Key×Value)} (I:Inv X pins σ H s) (r1:KV ka va) (r2:KV kb vb) (h:Nb X.K H ka kb) (hu:A.in1.units+64<cLine):PySem.W.KeqHits A.in1 s vb va true:=
 MK fun k u m=>by
  obtain⟨i,hi⟩:=List.getElem?_of_mem m
  obtain⟨y,hy,ry⟩:=KR r1 i k u hi
  obtain⟨v,d,hv,h1,h2,sh⟩:=h.2 k y (List.mem_of_getElem? hy)
  obtain⟨w',hw,rw'⟩:=tu.some_of (v:=v) (o:=valueAt vb k) (by rw[<-hv];exact r2.val k)
  exact⟨w',hw,Rb I ry rw' h1 h2 sh hu⟩
def Zn (K:PySem.W.Frag) (neg:Bool):R2:=fun x y H Q=>∃a b ka kb,x= .ref a/\y= .ref b/\Rd H a (.dK ka)/\Rd H b (.dK kb)/\Nb K H ka kb/\Q (.bl (!neg)) H
theorem Gk {X:Cx} (hu:X.A.units+66<cLine):QOp X (compareOp .NotEq) (Zn X.K true):=⟨fun pins s σ H x y v u Q I rx ry h=>by
 obtain⟨a,b,ka,kb,rfl,rfl,ha,hb,h,q⟩:=h
 cases rx
 cases ry
 obtain⟨_,lo,va,r1,da⟩:=uz I.hok ha
 obtain⟨_,lo',vb,r2,db⟩:=uz I.hok hb
 refine PySem.W.keq_ne (r:=true) lo lo' da db (by omega) (fun _=>Rc I r1 r2 h (by simp only[Around.in1_units];omega)) ⟨.bl false,H,I, ?_,q⟩
 show _=Value.bool false
 rw[show va.length=vb.length by rw[<-r1.length,<-r2.length];exact h.1];simp⟩
theorem Inv.thaw {X:Cx}{pins:List (Addr×Obj)}{σ:St}{H:Hp}{s:Shared}{a:Addr}{o:Obj}{u:HO} (I:Inv X pins σ H s) (e:H a=some (.frz o u)) (h0:X.H₀ a=none):Inv X pins σ (upd H a u) s:=by
 have hb:∀{b:Addr}{z:HO},H b=some z->z≠ .frz o u->b≠a:=fun q n w=>by rw[w,e] at q;cases q;exact n rfl
 have hn:∀{b:Addr},H b=none->b≠a:=fun q w=>by rw[w,e] at q;cases q
 have b0:=I.base
 refine⟨I.ok,I.os,I.bare,⟨b0.keep,b0.slot,fun b ob q n hx=> ?_,b0.there,fun b xs q=> ?_,fun b ob z q=> ?_,fun b ps q=> ?_⟩,I.loc,I.cell, ?_,fun x c q=> ?_,fun p hp=> ?_,fun b z q=> ?_,I.len⟩
 ·have:=b0.free b ob q n hx
  exact(au (hn this)).trans this
 ·have:=b0.tups b xs q
  exact(au (hb this (by simp))).trans this
 ·have:=b0.frzs b ob z q
  exact(au (fun w=>by rw[w,h0] at q;cases q)).trans this
 ·obtain⟨more,w⟩:=b0.tbls b ps q
  exact⟨more,(au (hb w (by simp))).trans w⟩
 ·exact(au (hn I.free)).trans I.free
 ·exact(au (hn (I.rE x c q))).trans (I.rE x c q)
 ·obtain⟨p1,p2,p3⟩:=I.pin p hp
  exact⟨p1,(au (hn p2)).trans p2,p3⟩
 ·have st:∀{c:Addr}{w:HO},eG X.prog X.w H s.heap c w->eG X.prog X.w (upd H a u) s.heap c w:=fun x=>x.stay (fun _ _ _ r=>r) (fun b q=>(au (hb q (by simp))).trans q) fun b xs q=>(au (hb q (by simp))).trans q
  by_cases w:b=a
  ·rw[w,aq] at q;cases q
   rw[w]
   exact st (show _/\_ from I.hok a _ e).2
  ·rw[au w] at q
   exact st (I.hok b z q)
end L2
set_option maxRecDepth 100000
namespace RB
open PySem L2 PySem.Spec PyProof.Rows
theorem Cw {r:R}{u v:Int}:∀{ps qs:List Rdp}{kn:Kn},Chn r kn ps->Chn r kn qs->ev (kn.puts ps) r= .inr u->ev (kn.puts qs) r= .inr v->(∀p∈ps,∀q∈qs,p.1=q.1->p.2=q.2)->u=v/\ps=qs
 |[],[],kn,_,_,e1,e2,_=>by
  have e1:ev kn r= .inr u:=e1
  have e2:ev kn r= .inr v:=e2
  rw[e1] at e2
  exact⟨Sum.inr.inj e2,rfl⟩
 |[],q::qs,kn,_,c,e1,_,_=>by
  have e1:ev kn r= .inr u:=e1
  rw[c.1] at e1;cases e1
 | p::ps,[],kn,c,_,_,e2,_=>by
   have e2:ev kn r= .inr v:=e2
   rw[c.1] at e2;cases e2
 | p::ps,q::qs,kn,c1,c2,e1,e2,h=>by
   have e:p.1=q.1:=Sum.inl.inj (c1.1.symm.trans c2.1)
   have e':=h p (by simp) q (by simp) e
   have hpq:p=q:=Prod.ext e e'
   subst hpq
   obtain⟨a,b⟩:=Cw (ps:=ps) (qs:=qs) c1.2 c2.2 e1 e2 fun p' hp q' hq=>h p' (by simp[hp]) q' (by simp[hq])
   exact⟨a,by rw[b]⟩
section
variable {n:Nat}{gv:Kn}{rc:Rn}{kn1 kn2:Kn}{rm1 rm2:Rm}{ws:List Str}
theorem Jx (n26:n<=26) (rk:∀x r,rc x=some r->∃k,k<n/\x=aD k/\Rk3 (nmK k) 4 r) (s1:oK n gv rc kn1 rm1) (s2:oK n gv rc kn2 rm2):∀(k:Nat),k<n->∀u v,kn1 (aD k)=some u->kn2 (aD k)=some v->u=v:=fun k=>by
 induction k using Nat.strongRecOn with
 | ind k ih=>
   intro hk u v e1 e2
   rcases(s1.a _ _ e1).2 with g1 | ⟨g1,r,ps,hr,m1⟩
   ·rcases(s2.a _ _ e2).2 with g2 | ⟨g2,_⟩
    ·rw[g1] at g2;exact Option.some.inj g2
    ·rw[g1] at g2;cases g2
   ·rcases(s2.a _ _ e2).2 with g2 | ⟨g2,r',qs,hr',m2⟩
    ·rw[g1] at g2;cases g2
    ·rw[hr] at hr';cases hr'
     obtain⟨_,_,_,t1,w1⟩:=s1.b _ _ _ _ m1
     obtain⟨_,_,_,t2,w2⟩:=s2.b _ _ _ _ m2
     obtain⟨k',hk',ek,R⟩:=rk _ _ hr
     have:k=k':=jz (by omega) (by omega) ek
     subst this
     refine(Cw t1.c t2.c t1.e t2.e fun p hp q hq e=> ?_).1
     obtain⟨j,hj,ej⟩:=ji.mp (Dv R.i t1.c p hp)
     have h1:=w1.s p hp
     have h2:=w2.s q hq
     rw[<-e,ej] at h2
     rw[ej] at h1
     exact ih j hj (by omega) _ _ h1 h2
theorem Rf (n26:n<=26) (rk:∀x r,rc x=some r->∃k,k<n/\x=aD k/\Rk3 (nmK k) 4 r) (s1:oK n gv rc kn1 rm1) (s2:oK n gv rc kn2 rm2) (w2:∀x∈ws,kn2 x≠none) {x:Str} (hx:x∈ws) {y:Str} (h:Rch gv rc kn1 x y):kn2 y≠none:=by
 induction h with
 | refl=>exact w2 x hx
 | @step y z r _ hg hr hs ih=>
   obtain⟨qs,cq,eq,rq⟩:=hs
   cases ey:kn2 y with
   | none=>exact absurd ey ih
   | some v=>
     rcases(s2.a _ _ ey).2 with g2 | ⟨g2,r',ps,hr',m2⟩
     ·rw[hg] at g2;cases g2
     ·rw[hr] at hr';cases hr'
      obtain⟨_,_,_,t2,u2⟩:=s2.b _ _ _ _ m2
      have cT:Chn r kn0 (qs++[(z,0)]):=cq.app ⟨eq,trivial⟩
      have key:∀j p,j<qs.length->(qs++[(z,0)])[j]? =some p->kn2 p.1=some p.2:=fun j=>by
       induction j using Nat.strongRecOn with
       | ind j ihj=>
         intro p hj hp
         obtain⟨u,hu⟩:=again j cT t2.c t2.e u2.s (fun i p' hi hp'=>ihj i hi p' (by omega) hp') p hp
         have hm:p∈qs:=by
          rw[List.getElem?_append_left hj] at hp
          exact List.mem_of_getElem? hp
         have h1:=rq.s p hm
         obtain⟨i,hi,ei⟩:=ji.mp (s1.a _ _ h1).1
         rw[ei] at h1 hu
         rw[ei,hu,Jx n26 rk s1 s2 i hi _ _ h1 hu]
      obtain⟨u,hu⟩:=again qs.length cT t2.c t2.e u2.s key (z,0) (by simp)
      rw[hu];simp
theorem Rg (n26:n<=26) (rk:∀x r,rc x=some r->∃k,k<n/\x=aD k/\Rk3 (nmK k) 4 r) (s1:oK n gv rc kn1 rm1) (s2:oK n gv rc kn2 rm2) (w1:∀x∈ws,kn1 x≠none) (w2:∀x∈ws,kn2 x≠none) (r1:∀y,kn1 y≠none->∃x∈ws,Rch gv rc kn1 x y) (r2:∀y,kn2 y≠none->∃x∈ws,Rch gv rc kn2 x y):kn1=kn2:=by
 funext y
 cases e1:kn1 y with
 | none=>
   cases e2:kn2 y with
   | none=>rfl
   | some v=>
     obtain⟨x,hx,h⟩:=r2 y (by rw[e2];simp)
     exact absurd e1 (Rf n26 rk s2 s1 w1 hx h)
 | some u=>
   obtain⟨x,hx,h⟩:=r1 y (by rw[e1];simp)
   cases e2:kn2 y with
   | none=>exact absurd e2 (Rf n26 rk s1 s2 w2 hx h)
   | some v=>
     obtain⟨k,hk,ek⟩:=ji.mp (s1.a _ _ e1).1
     rw[ek] at e1 e2
     rw[Jx n26 rk s1 s2 k hk _ _ e1 e2]
end
end RB
set_option maxRecDepth 100000
namespace L2
open PySem PySem.Spec PyProof.Rows RB
theorem kY.u66 {k:Nat}{A:Around} (r:kY k A):A.units+66<cLine:=by have:=r.un;omega
section
variable {X:Cx}
end
end L2
namespace RB
open PySem L2 PySem.Spec PyProof.Rows
structure PpJ (H:Hp) (kp:List (Key×V)) (gv:Kn) (rc:Rn) (rm:Rm) (kn:Kn) (ks:List Str):Prop where
 k:jM kp ks
 v:∀x∈ks,∃b p,cP kp (.inr x)=some (.ref b)/\lu H b p/\vo gv rc rm kn x p
section
variable {H H':Hp}{kp kq:List (Key×V)}{gv:Kn}{rc:Rn}{rm:Rm}{kn:Kn}{ks qs:List Str}
theorem PpJ.tups (h:PpJ H kp gv rc rm kn ks) (t:lq H H'):PpJ H' kp gv rc rm kn ks:=⟨h.k,fun x hx=>let ⟨b,p,h1,h2,h3⟩:=h.v x hx;⟨b,p,h1,h2.tups t,h3⟩⟩
theorem PpJ.same (h:PpJ H kp gv rc rm kn ks) (s:aN H H'):PpJ H' kp gv rc rm kn ks:=h.tups (aN.tups s)
theorem PpJ.nil:PpJ H [] gv rc rm kn []:=⟨⟨rfl,by simp⟩,by simp⟩
theorem PpJ.put (h:PpJ H kp gv rc rm kn ks) {x:Str} (hx:x∉ks) {b:Addr}{p:Pap} (pA:lu H b p) (pI:vo gv rc rm kn x p):PpJ H (putK kp (.inr x) (.ref b)) gv rc rm kn (ks++[x]):=by
 refine⟨h.k.vm hx _,fun y hy=> ?_⟩
 rw[lU]
 by_cases z:y=x
 ·rw[if_pos (by rw[z])]
  exact⟨b,p,rfl,pA,by rw[z];exact pI⟩
 ·rw[if_neg (Av z)]
  rcases List.mem_append.mp hy with w | w
  ·exact h.v y w
  ·exact absurd (by simpa using w) z
theorem K8 {b:Addr}{p:Pap} (h:lu H b p):SeqAt.shaped p.dat=true:=by
 obtain⟨h1,h2⟩:=h.lay
 show(p.dat.canLay0&&decide (p.dat.depth<=64))=true
 rw[h1,decide_eq_true (by omega)];rfl
end
theorem pL {kw:List (Key×V)}{ws:List Str}{kn:Kn} (k:jM kw ws) (h:∀x,cP kw (.inr x)=(kn x).map V.int) (x:Str):x∈ws ↔ kn x≠none:=by
 constructor
 ·intro hx z
  exact k.none.mp (by rw[h,z];rfl) hx
 ·intro hx
  refine Decidable.byContradiction fun z=>hx ?_
  have:=k.none.mpr z
  rw[h] at this
  cases e:kn x with
  | none=>rfl
  | some u=>rw[e] at this;cases this
def WW:Sp:=fun vs H Q _=>∃(h g c rcd wl:Addr) (n:Nat) (gv:Kn) (rc:Rn) (kr:List (Key×V)) (rm:Rm) (ws:List Str),vs=[.ref h, .ref rcd, .ref wl]/\pG H h g c n gv rc/\n<=17/\H rcd=some (.dK kr)/\mJ H kr n rm/\H wl=some (.lst (ws.map V.str))/\(∀x∈ws,x∈nmK n)/\
 ∀(pd:Addr) (kp:List (Key×V)) (ks:List Str) (kn:Kn) (rmN:Rm) (rkn:Str->Bool) (H':Hp),aN H H'->H pd=none->H' pd=some (.dK kp)->PpJ H' kp gv rc rm kn ks->(∀x,x∈ks ↔ kn x≠none)->Built n gv rc rm ws kn rmN rkn->Q (.ref pd) H'
end RB
set_option maxRecDepth 100000
namespace RB
open PySem L2 PySem.Spec PyProof.Rows
namespace SJ
theorem afm:typeLookup (.type "dict") "__len__"=pure (some (.builtin "dict.__len__")):=by
 rw[typeLookup_type,builtinLookup_eq_fast]
 kernel_rfl
theorem afn:isSubtype (.type "dict") (.type "dict")=pure true:=by
 rw[isSubtype_type]
 kernel_rfl
end SJ
section
variable {prog:Program}{w:World}{A:Around}{E:Value->Shared->Prop}{s:Shared}
theorem Rh {a:Addr}{vs:List (Key×Value)}{ep:Nat}{Q:List Value->Shared->Prop} (hh:A.handled=none) (hlo:(a==sysModules)=false) (hD:s.heap.DictAt (cV prog w) a vs ep) (hz:vs.length<=sizeLine)
 (q:∀(us:List Value) (h':Heap) (tk:Nat),us.length=vs.length->(∀(i:Nat) u,us[i]? =some u->∃k x,vs[i]? =some (k,x)/\(cV prog w).is k u=true)->(∀b o,s.heap.get? b=some o->h'.get? b=some o)->s.heap.objs.size<h'.objs.size->Q us {s with heap:=h',toks:=tk}):
 wpAny (model prog w) A (collect (.ref a)) Q E s:=by
 obtain⟨o,es,ho,hx,hdat,hk,hp,hn⟩:=id hD
 have hlt:=Heap.lt_size ho
 unfold collect
 refine wpAny_bind (wpAny_runValue (codeAny_builtin PySem.F.entry_proto_collect ?_))
 rw[Around.under_plainId PySem.F.plain_proto_collect _]
 show wpAny _ A.in1 (newList []>>=fun l=>PySem.again (.builtin "list.__iadd__" ⟨[l, .ref a],[]⟩)) _ _ s
 refine wpAny_bind (wpAny_newObj_type (wpAny_pure ⟨plainId_quiet PySem.F.plain_list_iadd _,codeAny_builtin PySem.F.entry_list_iadd ?_⟩))
 rw[Around.under_plainId PySem.F.plain_list_iadd _]
 show wpAny _ A.in1 (Builtin.List.listExtendWith (.ref s.heap.objs.size) (.ref a) (.ref s.heap.objs.size)) _ _ _
 unfold Builtin.List.listExtendWith
 have hD1:(s.heap.push {cls:= .type "list",data:= .seq ([]:List Value).toArray}).DictAt (cV prog w) a vs ep:=hD.push _
 have hT:Shared.TypeIs {s with heap:=s.heap.push {cls:= .type "list",data:= .seq ([]:List Value).toArray}} (.ref a) "dict":=hD1.dictOf.typeIs
 refine wpAny_bind (wpAny_typeOf hT ?_)
 have e1:Builtin.List.listSameRef (.ref s.heap.objs.size) (.ref a)=false:=by simpa [Builtin.List.listSameRef] using Nat.ne_of_gt hlt
 rw[if_neg (by rw[e1];decide)]
 refine wpAny_bind (wpAny_pyIter_dict (knd:=cV prog w) hlo hD1 ?_)
 refine wpAny_bind (wpAny_holding ?_)
 unfold Builtin.List.listLengthHint
 have hD2:((s.heap.push {cls:= .type "list",data:= .seq ([]:List Value).toArray}).push {cls:= .type "dict_keyiterator",data:= .fields #[.ref a, .int 0 0, .int vs.length 0, .int ep 0]}).DictAt (cV prog w) a vs ep:=hD1.push _
 have hT2:Shared.TypeIs {s with heap:=(s.heap.push {cls:= .type "list",data:= .seq ([]:List Value).toArray}).push {cls:= .type "dict_keyiterator",data:= .fields #[.ref a, .int 0 0, .int vs.length 0, .int ep 0]}} (.ref a) "dict":=hD2.dictOf.typeIs
 refine wpAny_bind (wpAny_specialOf hT2 SJ.afm ?_)
 generalize hid:("dict.__len__":String)=id0
 (fail_if_success (clear hid id0))
 wp_delta
 rw[show splitId id0=some ("dict","__len__") from by subst hid;decide +kernel]
 subst hid
 refine wpAny_bind (wpAny_isInstance (b:=true) hT2 SJ.afn ?_)
 rw[if_neg (by decide),if_pos (by decide)]
 refine wpAny_bind (wpAny_typeOf hT2 (wpAny_pure ?_))
 rw[if_pos (by decide)]
 refine wpAny_bind (wpAny_rule ?_)
 have hS1:((s.heap.push {cls:= .type "list",data:= .seq ([]:List Value).toArray}).push {cls:= .type "dict_keyiterator",data:= .fields #[.ref a, .int 0 0, .int vs.length 0, .int ep 0]}).get? s.heap.objs.size=some {cls:= .type "list",dict:=none,data:= .seq #[] 0,slots:= #[]}:=Heap.get?_push_of_some _ (Heap.get?_push_size _ rfl)
 have hsz:(s.heap.push {cls:= .type "list",data:= .seq ([]:List Value).toArray}).objs.size=s.heap.objs.size+1:=Heap.size_push _ _
 have hIt:((s.heap.push {cls:= .type "list",data:= .seq ([]:List Value).toArray}).push {cls:= .type "dict_keyiterator",data:= .fields #[.ref a, .int 0 0, .int vs.length 0, .int ep 0]}).IsKeyIter (s.heap.push {cls:= .type "list",data:= .seq ([]:List Value).toArray}).objs.size a 0 vs.length ep:=⟨_,Heap.get?_push_size _ rfl,rfl,rfl⟩
 have hk2:∀b o,s.heap.get? b=some o->((s.heap.push {cls:= .type "list",data:= .seq ([]:List Value).toArray}).push {cls:= .type "dict_keyiterator",data:= .fields #[.ref a, .int 0 0, .int vs.length 0, .int ep 0]}).get? b=some o:=fun b o z=>Heap.get?_push_of_some _ (Heap.get?_push_of_some _ z)
 have W:=Walks.dictKeys (prog:=prog) (w:=w) (A:=A.in1) (knd:=cV prog w) hh (s.heap.push {cls:= .type "list",data:= .seq ([]:List Value).toArray}).objs.size a (by rw[hsz];exact Nat.ne_of_lt (Nat.lt_succ_of_lt hlt)) vs ep
 have hSf:s.heap.objs.size∉[(s.heap.push {cls:= .type "list",data:= .seq ([]:List Value).toArray}).objs.size,a]:=fun z=>by
  rw[hsz] at z
  rcases List.mem_cons.mp z with y | y
  ·exact absurd y (Nat.ne_of_lt (Nat.lt_succ_self _))
  ·exact absurd (List.mem_singleton.mp y) (Nat.ne_of_gt hlt)
 show wpAny _ A.in1 (Builtin.List.listTouch (.ref s.heap.objs.size)>>=fun _=>PySem.again (.builtin "list.extend.loop" ⟨[.ref s.heap.objs.size, .ref (s.heap.push {cls:= .type "list",data:= .seq ([]:List Value).toArray}).objs.size, .ref s.heap.objs.size],[]⟩)) _ _ _
 generalize (s.heap.push {cls:= .type "list",data:= .seq ([]:List Value).toArray}).push {cls:= .type "dict_keyiterator",data:= .fields #[.ref a, .int 0 0, .int vs.length 0, .int ep 0]}=h2 at *
 generalize hI:(s.heap.push {cls:= .type "list",data:= .seq ([]:List Value).toArray}).objs.size=I at *
 refine wpAny_bind ?_
 show wpAny _ A.in1 (updateSeq s.heap.objs.size (·.push .none)>>=fun _=>updateSeq s.heap.objs.size (·.pop)) _ _ {s with heap:=h2}
 refine wpAny_bind (wpAny_updateSeq hS1 rfl (wpAny_updateSeq (Heap.get?_update_self (Obj.mapSeq (·.push Value.none)) hS1 rfl) rfl ?_))
 have hS3:=Heap.get?_update_self (Obj.mapSeq (·.pop)) (Heap.get?_update_self (Obj.mapSeq (·.push Value.none)) hS1 rfl) rfl
 have oth:∀b o,b≠s.heap.objs.size->h2.get? b=some o->((h2.update s.heap.objs.size (Obj.mapSeq (·.push Value.none))).update s.heap.objs.size (Obj.mapSeq (·.pop))).get? b=some o:=
  fun b o hb e=>(Heap.get?_update_other _ _ (Ne.symm hb)).trans ((Heap.get?_update_other _ _ (Ne.symm hb)).trans e)
 have Wc:=W.toS
 refine wpAny_pure ⟨plainId_quiet PySem.F.plain_extend_loop _,codeAny_extend_loopS Wc hz _ hSf _ vs.length 0 _ _ _ rfl (Nat.zero_le _) (Wc.frame 0 {s with heap:=h2} _ s.toks ⟨hIt,hD2⟩ (Nat.le_refl _) fun b hb o e=>oth b o (fun y=>hSf (y▸hb)) e) hS3 (ItemsOf.nil _) fun s3 ac c' mv hS' hit=> ?_⟩
 show wpAny _ A (load s.heap.objs.size>>=_) _ _ s3
 refine wpAny_bind (wpAny_load hS' ?_)
 obtain⟨h5,g5,d5,tk5,os5⟩:=s3
 have g1:g5=s.gens:=mv.gens
 have g2:d5=s.drawn:=mv.drawn
 have g3:os5=s.os:=mv.os
 subst g1 g2 g3
 refine wpAny_pure (q ac.toList h5 tk5 (by rw[Array.length_toList];exact hit.1) (fun i u hu=> ?_) (fun b o' z=> ?_) (Heap.lt_size hS'))
 ·rw[Array.getElem?_toList] at hu
  exact hit.2 i u hu
 ·have hbl:=Heap.lt_size z
  refine mv.heap b o' (fun y=> ?_) (oth b o' (Nat.ne_of_lt hbl) (hk2 b o' z))
  rcases List.mem_cons.mp y with y | y
  ·exact Nat.lt_irrefl _ (y▸hbl)
  ·rw[List.mem_singleton.mp y,hsz] at hbl
   exact Nat.lt_irrefl _ (Nat.lt_of_succ_lt hbl)
end
end RB
namespace L2
open PySem PySem.Spec PyProof.Rows RB
section
variable {prog:Program}{w:World}{A:Around}{E:Value->Shared->Prop}{s:Shared}{κ:PyProof.Rows.KeyKind}
theorem Jy (hO:κ.OneLt) {v:Value}{Q:Value->Shared->Prop}
 (hc:∀A',A'.handled=A.handled->wpAny (model prog w) A' (collect v) (fun vs s1=>KeysOf κ (pairsOf vs)/\(∀x y r,vs=x::y::r->keyKind' (x::y::r).toArray=pure oneType')/\vs.length<64/\
   ∀t:SortSt,(arrOf t).Perm (pairsOf vs)->SortedToK κ (arrOf t) (pairsOf vs).size->Q (.ref s1.heap.objs.size) {s1 with heap:=sortedHeap (s1.heap.push (seqObj "list" vs.toArray 0)) s1.heap.objs.size vs ((arrOf t).map (·.2))}) E s):
 wpAny (model prog w) A (call (.builtin "sorted") [v]) Q E s:=by
 refine Calls.call_function_entry kind_sorted plain_sorted entry_sorted (args_sorted1 _) ?_
 unfold Builtin.«sorted»
 refine wpAny_bind (m:=checkCount "sorted" 1 1 _) (wpAny_pure ?_)
 refine wpAny_bind (wpAny_mono (hc _ ?_) (fun vs s1 h=> ?_) fun _ _ e=>e)
 ·simp
 obtain⟨h0,hkk,hz,h⟩:=h
 refine wpAny_bind (wpAny_newList ?_)
 have hoL:(s1.heap.push (seqObj "list" vs.toArray 0)).get? s1.heap.objs.size=some (seqObj "list" vs.toArray 0):=Heap.get?_push_size _ rfl
 refine wpAny_bind (wpAny_holding (wpAny_call_entry slot_list_sort ⟨_,hoL,rfl⟩ entry_list_sort (list_sort_treeK (κ:=κ) hO hoL h0 hkk hz fun t t1 t2=>⟨_,rfl, ?_⟩) (args_list_sort _)))
 exact wpAny_pure ⟨_,rfl,h t t1 t2⟩
end
section
variable {X:Cx}{pins:List (Addr×Obj)}{σ:St}{H:Hp}{s:Shared}
theorem Jz {vs:List Value}{ss:List Str}{ts:List Str}{Q:VK}{h1:Heap}{tk:Nat} (I:Inv X pins σ H s) (hk:∀b o,s.heap.get? b=some o->h1.get? b=some o) (hsz:s.heap.objs.size<=h1.objs.size) (hS:StrsAre vs ss) (hp:ss.Perm ts) (hz:ts.length<=sizeLine)
 (q:∀(p:Addr) (us:List Str),H p=none->us.Perm ts->sortedS us=true->Q (.ref p) (upd H p (.lst (us.map V.str)))) (t:SortSt) (t1:(arrOf t).Perm (pairsOf vs)) (t2:SortedToK PyProof.Rows.strKind (arrOf t) (pairsOf vs).size):
 EP X pins σ Q (.ref h1.objs.size) {s with heap:=sortedHeap (h1.push (seqObj "list" vs.toArray 0)) h1.objs.size vs ((arrOf t).map (·.2)),toks:=tk}:=by
 obtain⟨us,u1,u2,u3⟩:=sorted_out_str hS t1 t2
 have hn:(h1.push (seqObj "list" vs.toArray 0)).get? h1.objs.size=some (seqObj "list" vs.toArray 0):=Heap.get?_push_size _ rfl
 obtain⟨e,he⟩:=sortedHeap_at (out:=(arrOf t).map (·.2)) hn
 have kk:∀b o,s.heap.get? b=some o->(sortedHeap (h1.push (seqObj "list" vs.toArray 0)) h1.objs.size vs ((arrOf t).map (·.2))).get? b=some o:=fun b o z=>by
  have hb:=Heap.lt_size (hk b o z)
  rw[sortedHeap_old (Nat.ne_of_lt hb) (by rw[Heap.size_push];exact Nat.lt_succ_of_lt hb)]
  exact Heap.get?_push_of_some _ (hk b o z)
 have hl:(us.map V.str).length<=sizeLine:=by rw[List.length_map,u2.length_eq,hp.length_eq];exact hz
 exact⟨.ref h1.objs.size,_,(I.laid (t':=tk) (o:= .lst (us.map V.str)) kk hsz ⟨hl,_,e,Aq u1,by rw[Array.toArray_toList];exact he⟩),rfl,q _ us (I.hok.fresh hsz) (u2.trans hp) u3⟩
end
section
variable {X:Cx}
theorem Hh (hc:X.calm=true):o8 X (.builtin "sorted") (fun xs H Q=>∃(a:Addr) (kvs:List (Key×V)) (ts:List Str),xs=[.ref a]/\Rd H a (.dK kvs)/\kvs.length<64/\kvs.map (·.1)=ts.map Sum.inr/\∀(p:Addr) (us:List Str),H p=none->us.Perm ts->sortedS us=true->Q (.ref p) (upd H p (.lst (us.map V.str)))):=by
 intro pins s σ H xs us Q I r h
 obtain⟨a,kvs,ts,rfl,ha,h64,hts,q⟩:=h
 obtain⟨u,rfl,rx⟩:=vals1 r
 cases rx
 obtain⟨hz,lo,vs,hkv,hd⟩:=uz I.hok ha
 obtain⟨ep,hat⟩:=hd.dictAt
 obtain⟨hl,hvk⟩:=zG hkv
 have htl:ts.length=kvs.length:=by have:=congrArg List.length hts;simpa using this.symm
 refine Jy (κ:=PyProof.Rows.strKind) strKind_oneLt fun A' hA=>Rh (hA.trans (I.ok.hd hc)) lo hat (by rw[<-hl];exact hz) fun us h1 tk hul hus hk hlt=> ?_
 have hS:StrsAre us ts:=by
  refine Ds (yl (by rw[List.length_map,hul,<-hl,htl]) fun i v hv=> ?_)
  obtain⟨k,x,hx,hkk⟩:=hus i v hv
  obtain⟨y,hy⟩:=hvk i k x hx
  have e1:(kvs.map (·.1))[i]? =some k:=by rw[List.getElem?_map,hy];rfl
  rw[hts,List.getElem?_map] at e1
  cases ht:ts[i]? with
  | none=>rw[ht] at e1;cases e1
  | some t=>
    rw[ht] at e1
    have ek:k=Sum.inr t:=(Option.some.inj e1).symm
    subst ek
    exact⟨.str t,by rw[List.getElem?_map,ht];rfl,Cq (k:=Sum.inr t) (v:=v) (show Bo (Sum.inr t) v=true from hkk)⟩
 have hvl:us.length=ts.length:=by rw[hul,<-hl,htl]
 have hz':ts.length<=sizeLine:=by rw[htl];exact hz
 refine⟨hS.keysOf,fun x y r e=>keyKind_strs (by rw[<-e];exact hS),by rw[hvl,htl];exact h64,fun t t1 t2=> ?_⟩
 exact Jz I hk (Nat.le_of_lt hlt) hS (List.Perm.refl _) hz' q t t1 t2
theorem K9 (hc:X.calm=true):pB X (.builtin "sorted") (fun xs H Q=>∃(a:Addr) (kvs:List (Key×V)) (ts:List Str),xs=[.ref a]/\Rd H a (.dK kvs)/\kvs.length<64/\kvs.map (·.1)=ts.map Sum.inr/\∀(p:Addr) (us:List Str),H p=none->us.Perm ts->sortedS us=true->Q (.ref p) (upd H p (.lst (us.map V.str)))):=⟨Hh hc⟩
end
end L2
set_option maxRecDepth 100000
namespace L2
open PySem PySem.Spec PyProof.Rows RB
theorem Ri {X:Cx}{o e f:Expr}{apos cpos:Pos}{td ty tx:TE} (hu:X.A.units+1<cLine) (ho:QE X o td) (he:QE X e ty) (hf:QE X f tx) (m:M2 X o "get" apos e f cpos):QE X (.Call (.Attribute o "get" apos) [e,f] [] cpos) (PN td ty tx):=⟨P0 hu ho.h he.h hf.h m⟩
def Zo (K:PySem.W.Frag):R2:=fun x y H Q=>∃a b xs,x= .ref a/\y= .ref b/\SqL K H a xs/\SqL K H b []/\Q (.bl (!xs.isEmpty)) H
theorem Om {X:Cx} (hu:X.A.units+64<cLine):QOp X (compareOp .NotEq) (Zo X.K):=⟨fun pins s σ H x y v u Q I rx ry h=>by
 obtain⟨a,b,xs,rfl,rfl,ha,hb,q⟩:=h
 cases xs with
 | nil=>exact Kr hu pins s σ H _ _ v u Q I rx ry ⟨.list [], .list [], .lst ha .nil, .lst hb .nil,shaped_ints [],shaped_ints [],q⟩
 | cons x r=>
   cases rx
   cases ry
   obtain⟨its,rv,pl,_⟩:=I.list ha
   obtain⟨its',rv',pl',_⟩:=I.list hb
   cases rv
   cases rv'
   exact PySem.SeqAt.RcNeAt.lists_lengths pl.isList pl'.isList rfl (by omega) _ _ _ _ ⟨.bl true,H,I,rfl,q⟩⟩
end L2
namespace RB
open PySem L2 PySem.Spec PyProof.Rows
section
variable {n:Nat}{gv gv':Kn}{rc:Rn}{kn kn':Kn}{rm rm' rm1 rm2:Rm}
theorem Rj (s1:oK n gv rc kn rm1) (s2:oK n gv rc kn rm2) {x:Str}{q:R×List Rdp×Int} (e:rm1 x=some q):rm2 x=some q:=by
 obtain⟨r,ps,v⟩:=q
 obtain⟨h1,h2,h3,h4,h5⟩:=s1.b _ _ _ _ e
 rcases(s2.a _ _ h3).2 with g | ⟨_,r',qs,hr',m2⟩
 ·rw[h2] at g;cases g
 ·rw[h1] at hr';cases hr'
  obtain⟨_,_,_,g4,g5⟩:=s2.b _ _ _ _ m2
  have:=(Cw h4.c g4.c h4.e g4.e fun p hp q hq z=>by
   have a:=h5.s p hp
   have b:=g5.s q hq
   rw[z,b] at a
   exact(Option.some.inj a).symm).2
  rw[m2,this]
theorem Zq (s1:oK n gv rc kn rm1) (s2:oK n gv rc kn rm2):rm1=rm2:=by
 funext x
 cases e:rm1 x with
 | some q=>exact(Rj s1 s2 e).symm
 | none=>
   cases e2:rm2 x with
   | none=>rfl
   | some q=>rw[Rj s2 s1 e2] at e;cases e
theorem Bw (s1:oK n gv rc kn rm) (s2:oK n gv' rc kn' rm') {x:Str}{r:R}{ps:List Rdp}{v:Int} (e:rm x=some (r,ps,v)) (hg:gv' x=none) (hx:kn' x≠none) (ha:∀p∈ps,kn' p.1=some p.2):kn' x=some v:=by
 obtain⟨h1,h2,h3,h4,h5⟩:=s1.b _ _ _ _ e
 cases ek:kn' x with
 | none=>exact absurd ek hx
 | some u=>
   rcases(s2.a _ _ ek).2 with g | ⟨_,r',qs,hr',m2⟩
   ·rw[hg] at g;cases g
   ·rw[h1] at hr';cases hr'
    obtain⟨_,_,_,g4,g5⟩:=s2.b _ _ _ _ m2
    rw[(Cw h4.c g4.c h4.e g4.e fun p hp q hq z=>by
     have a:=ha p hp
     have b:=g5.s q hq
     rw[z,b] at a
     exact(Option.some.inj a).symm).1]
def Rk (pa:Pm) (rm:Rm) (gv gv':Kn) (l:Str):Prop:=∃b k u m r ps v z nn,pa l=some (b, .rd k u m)/\rm l=some (r,ps,v)/\ps[k]? =some (z,nn)/\gv' z≠gv z
theorem U5 {pa:Pm} (s1:oK n gv rc kn rm) (s2:oK n gv' rc kn' rm') (hd:∀x,gv' x=none ↔ gv x=none) (hall:∀x,kn' x≠none->kn x≠none) (hall':∀x,kn x≠none->kn' x≠none) (hpa:∀x b p,pa x=some (b,p)->vo gv' rc rm kn' x p) {x:Str}{ys:List Str} (c:Chain pa rm x ys):
 kn' x≠kn x->(∀o∈ys,kn' o≠kn o)/\((ys=[]/\gv' x≠gv x)\/∃l,ys.getLast?=some l/\Rk pa rm gv gv' l):=by
 have known:∀{x:Str},kn' x≠kn x->kn x≠none/\kn' x≠none:=fun{x} h=>by
  by_cases z:kn x=none
  ·exact absurd (by
    by_cases w:kn' x=none
    ·rw[w,z]
    ·exact absurd z (hall x w)) h
  ·exact⟨z,hall' x z⟩
 induction c with
 | @g x b h=>
   intro hx
   obtain⟨k1,k2⟩:=known hx
   have hg:gv' x≠none:=hpa _ _ _ h
   refine⟨by simp, .inl ⟨rfl,fun z=>hx ?_⟩⟩
   cases e:gv' x with
   | none=>exact absurd e hg
   | some u=>
     have e2:gv x=some u:=by rw[<-z,e]
     cases e3:kn x with
     | none=>exact absurd e3 k1
     | some v=>
       cases e4:kn' x with
       | none=>exact absurd e4 k2
       | some w=>
         rcases(s1.a _ _ e3).2 with q | ⟨q,_⟩
         ·rcases(s2.a _ _ e4).2 with q' | ⟨q',_⟩
          ·rw[e2] at q;rw[e] at q';rw[<-q,<-q']
          ·rw[e] at q';cases q'
         ·rw[e2] at q;cases q
 | @a x b h=>
   intro hx
   obtain⟨k1,k2⟩:=known hx
   obtain⟨hg,r,ps,v,e,_,ha⟩:=hpa _ _ _ h
   have hw:=Bw s1 s2 e hg k2 fun p hp=>by
    obtain⟨i,hi⟩:=List.getElem?_of_mem hp
    exact ha i p hi
   exact absurd (by rw[hw,(s1.b _ _ _ _ e).2.2.1]) hx
 | @n x b h=>
   intro hx
   obtain⟨k1,k2⟩:=known hx
   obtain⟨hg,hr⟩:=hpa _ _ _ h
   cases e3:kn x with
   | none=>exact absurd e3 k1
   | some v=>
     rcases(s1.a _ _ e3).2 with q | ⟨_,r,ps,_,q⟩
     ·rw[(hd x).mp hg] at q;cases q
     ·rw[hr] at q;cases q
 | @r x b r s h=>
   intro hx
   obtain⟨hg,hr,hne,ps,v,e⟩:=hpa _ _ _ h
   have:=(s1.b _ _ _ _ e).1
   rw[hr] at this
   exact absurd (Option.some.inj this).symm hne
 | @s x y b k u m nn r ps v ys h hr hp t ih=>
   intro hx
   obtain⟨hg,r',ps',v',y',e,_,hj,hk,hm,hne⟩:=hpa _ _ _ h
   rw[hr] at e;cases e
   rw[hp] at hk;cases hk
   have h1:=(s1.b _ _ _ _ hr).2.2.2.2.s _ (List.mem_of_getElem? hp)
   have hy:kn' y≠kn y:=fun z=>hne (by rw[hm,h1] at z;exact Option.some.inj z)
   obtain⟨i1,i2⟩:=ih hy
   refine⟨fun o ho=> ?_, .inr ?_⟩
   ·rcases List.mem_cons.mp ho with z | z
    ·rw[z];exact hx
    ·exact i1 o z
   ·rcases i2 with⟨z,w⟩ | ⟨l,z,w⟩
    ·subst z
     exact⟨x,rfl,b,k,_,m,r,ps,v,y,_,h,hr,hp,w⟩
    ·refine⟨l, ?_,w⟩
     cases ys with
     | nil=>cases z
     | cons a ys=>rw[List.getLast?_cons_cons];exact z
end
def unl (kn:Kn) (ps:List Rdp):List Str:=(ps.filter fun p=>decide (kn p.1≠some p.2)).map (·.1)
theorem U6 (kn:Kn) (ps:List Rdp):(unl kn ps).length<=ps.length:=by
 unfold unl
 rw[List.length_map]
 exact List.length_filter_le _ _
theorem zJ (kn:Kn) (ps qs:List Rdp):unl kn (ps++qs)=unl kn ps++unl kn qs:=by
 unfold unl
 rw[List.filter_append,List.map_append]
theorem Nf {kn:Kn}{p:Rdp} (h:kn p.1≠some p.2):unl kn [p]=[p.1]:=by simp[unl,h]
theorem Ro {kn:Kn}{p:Rdp} (h:kn p.1=some p.2):unl kn [p]=[]:=by simp[unl,h]
theorem Hi {kn:Kn}:∀{ps:List Rdp},(∀p∈ps,kn p.1=some p.2)->unl kn ps=[]
 |[],_=>rfl
 | p::ps,h=>by
   rw[show p::ps=[p]++ps from rfl,zJ,Ro (h p (by simp)),Hi fun q hq=>h q (by simp[hq])];rfl
theorem Oo {kn:Kn}{ps:List Rdp}{k:Nat}{y:Str}{u:Int} (hj:∀(j:Nat) p,j<k->ps[j]? =some p->kn p.1=some p.2) (hk:ps[k]? =some (y,u)) (hne:kn y≠some u):∃ys,unl kn ps=y::ys:=by
 have hlt:=(List.getElem?_eq_some_iff.mp hk).1
 have e:ps=ps.take k++([(y,u)]++ps.drop (k+1)):=by
  have:=List.take_append_drop k ps
  rw[List.drop_eq_getElem_cons hlt,(List.getElem?_eq_some_iff.mp hk).2] at this
  exact this.symm
 refine⟨unl kn (ps.drop (k+1)), ?_⟩
 rw[e,zJ,zJ,Hi fun p hp=> ?_,Nf (show kn (y,u).1≠some (y,u).2 from hne)]
 ·rw[<-e];rfl
 ·obtain⟨j,hjp⟩:=List.getElem?_of_mem hp
  have hjk:j<k:=by
   have:=(List.getElem?_eq_some_iff.mp hjp).1
   have h2:=List.length_take_le k ps
   omega
  rw[List.getElem?_take_of_lt hjk] at hjp
  exact hj j p hjk hjp
theorem qd.get {H:Hp}{pa:Pm}:∀{as:List Addr}{xs:List Str},qd H pa as xs->∀(i:Nat) (x:Str),xs[i]? =some x->∃a,as[i]? =some a/\H a=some (.tup (BV pa x))
 | _,_, .nil,i,x,h=>by simp at h
 | _,_, .cons (a:=a) h t,0,x,e=>by cases e;exact⟨a,rfl,h⟩
 | _,_, .cons h t,i+1,x,e=>by
   obtain⟨a,h1,h2⟩:=t.get i x (by simpa using e)
   exact⟨a,by simpa using h1,h2⟩
theorem qd.got {H:Hp}{pa:Pm}{as:List Addr}{xs:List Str} (h:qd H pa as xs) (i:Nat) (a:Addr) (e:as[i]? =some a):∃x,xs[i]? =some x/\H a=some (.tup (BV pa x)):=by
 have hi:i<xs.length:=by
  rw[<-h.length];exact(List.getElem?_eq_some_iff.mp e).1
 obtain⟨a',h1,h2⟩:=h.get i _ (List.getElem?_eq_getElem hi)
 rw[e] at h1;cases h1
 exact⟨_,List.getElem?_eq_getElem hi,h2⟩
theorem Rp {H:Hp}{as:List Addr}{ps:List Rdp} (h:jG H as ps) {k:Nat}{p:Rdp} (e:ps[k]? =some p):∃a,as[k]? =some a/\H a=some (.tup [.str p.1, .int p.2]):=by
 have hk:k<as.length:=by rw[h.length];exact(List.getElem?_eq_some_iff.mp e).1
 obtain⟨q,h1,h2⟩:=h.get k _ (List.getElem?_eq_getElem hk)
 rw[e] at h1;cases h1
 exact⟨_,List.getElem?_eq_getElem hk,h2⟩
theorem afo (v:V) (xs:List V):HX (v::xs) (some 1) none=xs:=by
 unfold HX
 rw[HT.Pq,show(some (1:Int))=some ((1:Nat):Int) from rfl,HT.Td]
 simp
theorem JB {z:Str}{cs:List Str} (h:z∈cs):inV (.str z) (cs.map V.str)=true:=by
 unfold inV
 rw[List.any_map,List.any_eq_true]
 exact⟨z,h,by show(z==z)=true;exact beq_self_eq_true z⟩
theorem Gm (cs:List Str):(cs.map V.str).all uX=true:=by
 rw[List.all_map,List.all_eq_true]
 exact fun _ _=>rfl
theorem PpJ.pm {H:Hp}{kp:List (Key×V)}{gv:Kn}{rc:Rn}{rm:Rm}{kn:Kn}{ks:List Str} (h:PpJ H kp gv rc rm kn ks):∃pa:Pm,(∀x∈ks,∃b p,pa x=some (b,p))/\∀x b p,pa x=some (b,p)->x∈ks/\cP kp (.inr x)=some (.ref b)/\lu H b p/\vo gv rc rm kn x p:=by
 have key:∀x:Str,∃o:Option (Addr×Pap),(x∈ks->∃b p,o=some (b,p))/\∀b p,o=some (b,p)->x∈ks/\cP kp (.inr x)=some (.ref b)/\lu H b p/\vo gv rc rm kn x p:=fun x=>by
  by_cases hx:x∈ks
  ·obtain⟨b,p,h1,h2,h3⟩:=h.v x hx
   exact⟨some (b,p),fun _=>⟨b,p,rfl⟩,fun b' p' e=>by cases e;exact⟨hx,h1,h2,h3⟩⟩
  ·exact⟨none,fun z=>absurd z hx,fun _ _ e=>nomatch e⟩
 obtain⟨pa,hpa⟩:=Classical.axiomOfChoice key
 exact⟨pa,fun x hx=>(hpa x).1 hx,fun x b p e=>(hpa x).2 b p e⟩
def Rq:Sp:=fun vs H Q _=>∃(h g c ft kd sd ol nl cl:Addr) (n:Nat) (gv gv':Kn) (rc:Rn) (kw ks:List (Key×V)) (kn:Kn) (rm:Rm) (us cs:List Str),vs=[.ref h, .ref ft, .ref nl, .ref cl]/\pG H h g c n gv' rc/\n<=17/\H ft=some (.tup [.ref kd, .ref sd, .ref ol])/\H kd=some (.dK kw)/\(∀x,cP kw (.inr x)=(kn x).map V.int)/\H sd=some (.dK ks)/\mJ H ks n rm/\oK n gv rc kn rm/\(∀x∈nmK n,kn x≠none)/\H nl=some (.lst (us.map V.str))/\(∀x,x∈us ↔ x∈nmK n)/\H cl=some (.lst (cs.map V.str))/\cs.length<=100/\(∀x,gv' x≠gv x->x∈cs)/\(∀x,gv' x=none ↔ gv x=none)/\∀H',aN H H'->Q (.bl true) H'
end RB
set_option maxRecDepth 100000
namespace L2
open PySem PySem.Spec PyProof.Rows RB
def ab7 (H0:Hp) (t:TE):TE:=fun σ H Q=>t σ H fun x H1=>∃a o u,H1 a=some (.frz o u)/\H0 a=none/\Q x (upd H1 a u)
theorem U7 {X:Cx}{H0:Hp}{e:Expr}{t:TE} (e0:X.H₀=H0) (h:QE X e t):QE X e (ab7 H0 t):=⟨by
 intro pins s σ H Q I q
 subst e0
 exact thn (h.h pins s σ H _ I q) fun v s1 ⟨x,H1,I1,r,a,o,u,e1,e2,q1⟩=>⟨x,_,I1.thaw e1 e2,r,q1⟩⟩
end L2
namespace RB
open PySem L2 PySem.Spec PyProof.Rows
theorem JC {H:Hp}{d:Addr}{o:Obj}{u u':HO} (e:H d=some (.frz o u)):lq H (upd H d u'):=fun y xs z=>(au (fun w=>by rw[w,e] at z;cases z)).trans z
theorem wO.thaw {X:List Addr}{H:Hp}{b d:Addr}{q:R×List Rdp×Int}{o:Obj}{u u':HO} (r:wO X H b q) (e:H d=some (.frz o u)):wO X (upd H d u') b q:=r.but (S:=[d]) (But.set _ (by simp)) (JC e) (fun y hy=> .inr fun xs w=>by
 have:y=d:=by simpa using hy
 rw[this,e] at w;cases w)
theorem BR.like {n:Nat}{gv gv':Kn}{rc:Rn} (h:BR n gv rc) (e:∀x,gv' x=none ↔ gv x=none):BR n gv' rc:=
 ⟨fun k hk=>(h.dom k hk).imp (fun z w=>z ((e _).mp w)) id,fun x hx=>h.gk x (fun w=>hx ((e x).mpr w)),h.rk,fun x hx=>h.dj x (fun w=>hx ((e x).mpr w)),fun h0 w=>h.g0 h0 ((e _).mp w)⟩
theorem ab8 {K:PySem.W.Frag}{H:Hp}{kw1 kw2:List (Key×V)}{w1 w2:List Str}{kn:Kn} (k1:jM kw1 w1) (h1:∀x,cP kw1 (.inr x)=(kn x).map V.int) (k2:jM kw2 w2) (h2:∀x,cP kw2 (.inr x)=(kn x).map V.int):Nb K H kw1 kw2:=by
 refine⟨?_,fun k u m=> ?_⟩
 ·rw[k1.len,k2.len]
  have a:=iz k1.nd fun x hx=>(pL k2 h2 x).mpr ((pL k1 h1 x).mp hx)
  have b:=iz k2.nd fun x hx=>(pL k1 h1 x).mpr ((pL k2 h2 x).mp hx)
  omega
 ·have hv:=Jg k1 m
  obtain⟨i,hi⟩:=List.getElem?_of_mem m
  obtain⟨x,rfl,hxi⟩:=k1.at hi
  rw[h1] at hv
  cases e:kn x with
  | none=>rw[e] at hv;cases hv
  | some v=>
    rw[e] at hv
    have:u= .int v:=(Option.some.inj hv).symm
    subst this
    exact⟨.int v, .int v,by rw[h2,e];rfl, .int v, .int v,rfl⟩
def Rr (q:R×List Rdp×Int):PyData:= .tuple [q.1.dat, .list (q.2.1.map rdD), .int q.2.2]
theorem wO.ab9 {K:PySem.W.Frag}{X:List Addr}{H:Hp}{b:Addr}{q:R×List Rdp×Int} (r:wO X H b q):qJ K H (.ref b) (Rr q):=by
 obtain⟨br,l,as,e,hR,el,hRs,_⟩:=r
 exact .tup (SqT.of e) (.cons hR.dat (.cons (.lst (SqL.of el) (Ge hRs)) (.cons (.int _) .nil)))
theorem La {n:Nat}{rm:Rm} (h:Zg n rm) (hn:n<=26) {x:Str}{q:R×List Rdp×Int} (e:rm x=some q):SeqAt.shaped (Rr q)=true:=by
 obtain⟨r,ps,v⟩:=q
 obtain⟨got,k,hk,_,R⟩:=h x r ps v e
 obtain⟨h1,h2⟩:=MP ps fun p hp=>Je (by omega) _ (Dv R.i got.c p hp)
 have h3:=r.j7
 have h4:=R.d
 show(PyData.canLay0 (Rr (r,ps,v))&&decide ((Rr (r,ps,v)).depth<=64))=true
 rw[decide_eq_true (by simp only[Rr,PyData.depth,PyData.depthAll];omega),Bool.and_true]
 show(r.dat.canLay0&&(PyData.canLayAll0 (ps.map rdD)&&(true&&true)))=true
 rw[r.lay R.g,h1];rfl
theorem mJ.mem {H:Hp}{ks:List (Key×V)}{n:Nat}{rm:Rm} (h:mJ H ks n rm) {rs:List Str} (k:jM ks rs) (x:Str):x∈rs ↔ rm x≠none:=by
 constructor
 ·intro hx z
  exact k.none.mp (h.w x z) hx
 ·intro hx
  cases e:rm x with
  | none=>exact absurd e hx
  | some q=>
    obtain⟨b,hb,_⟩:=h.v x q e
    refine Decidable.byContradiction fun z=> ?_
    rw[k.none.mpr z] at hb;cases hb
theorem acd {K:PySem.W.Frag}{H:Hp}{ka kb:List (Key×V)}{n:Nat}{rm:Rm} (h1:mJ H ka n rm) (h2:mJ H kb n rm) (hn:n<=26):Nb K H ka kb:=by
 obtain⟨ra,k1,_⟩:=h1.k
 obtain⟨rb,k2,_⟩:=h2.k
 refine⟨?_,fun k u m=> ?_⟩
 ·rw[k1.len,k2.len]
  have a:=iz k1.nd fun x hx=>(h2.mem k2 x).mpr ((h1.mem k1 x).mp hx)
  have b:=iz k2.nd fun x hx=>(h1.mem k1 x).mpr ((h2.mem k2 x).mp hx)
  omega
 ·have hv:=Jg k1 m
  obtain⟨i,hi⟩:=List.getElem?_of_mem m
  obtain⟨x,rfl,hxi⟩:=k1.at hi
  cases e:rm x with
  | none=>exact absurd e ((h1.mem k1 x).mp (List.mem_of_getElem? hxi))
  | some q=>
    obtain⟨b,hb,a1⟩:=h1.v x q e
    obtain⟨c,hc,a2⟩:=h2.v x q e
    rw[hb] at hv;cases hv
    exact⟨_,_,hc,a1.ab9,a2.ab9,La h1.ok hn e⟩
theorem Zr {z:Str}{cs:List Str} (h:z∉cs):inV (.str z) (cs.map V.str)=false:=by
 unfold inV
 rw[List.any_map,List.any_eq_false]
 intro y hy w
 have w:(y==z)=true:=w
 exact h (by rw[<-eq_of_beq w];exact hy)
end RB
set_option maxHeartbeats 4000000
namespace K36
open PySem L2 PySem.Spec PyProof.Rows RB
local macro_rules | `(tactic| walk_at "ne") => `(tactic| first | assumption | exact Ne.symm (by assumption) | exact aL (by assumption) (by assumption) | exact Ne.symm (aL (by assumption) (by assumption)))
local macro_rules | `(tactic| walk_at "heap") => `(tactic| first | assumption | exact aq | (refine (au (by walk_at "ne")).trans ?_; walk_at "heap"))
local macro_rules | `(tactic| walk_at "side") => `(tactic| first | with_reducible rfl | rfl | assumption | exact SqL.of (by walk_at "heap") | exact SqT.of (by walk_at "heap") | exact Or.inl (SqL.of (by walk_at "heap")) | exact Or.inr (SqT.of (by walk_at "heap")) | exact qH.str _ | exact qH.int _ | exact qH.bl _ | exact qH.tup (by walk_at "heap") | exact Or.inl ⟨rfl, _, SqL.of (by walk_at "heap")⟩ | exact Or.inl ⟨_, SqL.of (by walk_at "heap"), rfl⟩ | exact ace _ | exact Or.inl (by assumption) | exact Or.inr (by assumption) | walk_at "heap" | omega | (show _ ≤ sizeLine; decide) | (show _ < sizeLine; decide) | exact Or.inr ⟨by decide, by decide⟩ | exact Or.inl ⟨by decide, by decide⟩ | exact Or.inl ⟨by omega, by omega⟩ | exact Or.inr ⟨by omega, by omega⟩ | exact ⟨by omega, by decide⟩ | exact ⟨by omega, by assumption⟩ | exact ⟨by decide, by decide, by decide⟩ | exact ⟨_, SqT.of (by walk_at "heap")⟩ | exact ⟨_, SqL.of (by walk_at "heap")⟩ | (intro z; exact absurd (show (1 : Nat) = 0 from z.1) (by decide)) | (show Nat.log2 _ < 9000; decide +kernel) | ((rw [sizeLine_eq]); (try simp only [len_app]); omega) | exact Nat.le_of_lt (cB (by (simp only [List.length_cons, List.length_nil]); omega)) | decide +kernel)
local macro_rules | `(tactic| walk_at "v") => `(tactic| first
 | ((apply Exists.intro); (repeat apply Exists.intro); (refine And.intro ?_ ?_); walk_at "side")
 | ((refine And.intro ?_ ?_); walk_at "side"))
local macro_rules | `(tactic| walk_at "vs") => `(tactic| repeat walk_at "v")
def top (i:Nat):Stmt:=PySem.Challenge.pw_madeagain_k36_whole_changed_numbers.main.body.getD i (.Pass ⟨0,0,0,0⟩)
def vA (i j:Nat):Stmt:=match top i with
 | .ClassDef _ _ _ b _ _ _ _ _ _ _=>b.getD j (.Pass ⟨0,0,0,0⟩)
 | _=> .Pass ⟨0,0,0,0⟩
section
local macro_rules | `(tactic| walk_at "side") => `(tactic| first | exact G4 _ _ _ | exact Dn _ _ _ | exact Dp _ _ _ | exact Wx _ _ _ | exact zF _ _ _ | exact Nat.le_of_ble_eq_true rfl)
variable {P:Program}{w:World}{K:PySem.W.Frag}{mg:Str->Option Value}{base:Heap}{C:Addr}
abbrev jO:Stmt:=top 5
theorem Oq:bU ["kind","r","s"] ["kind","r","s"] (aa jO):=⟨rfl,rfl,rfl,by decide +kernel,rfl,by decide +kernel,by decide +kernel⟩
theorem pM:aJ (aa jO) "kind":=by decide +kernel
theorem qp:aJ (aa jO) "r":=by decide +kernel
theorem qt:aJ (aa jO) "s":=by decide +kernel
theorem Ex:(aa jO).names.lookup ("max":Str)=some NameKind.globalImplicit:=by decide +kernel
theorem Ey:("max":Str)≠"__name__":=by decide +kernel
theorem Ez:(("max":Str)==("__debug__":Str))=false:=by decide +kernel
theorem Ot {f:Addr}{fd:FuncData} (m8:FnT K mg "joined" jO ["kind","r","s"] f fd) (T:Blt mg):bF P w K mg base CX0 1 f fd ["kind","r","s"] MF:=by
 refine m8.F.okQ Oq (fun vs H Q E h=> ?_) (fun cdv A outer s H vs Q E hr h=> ?_)
 ·obtain⟨op,u,v,rfl,_⟩:=h
  rfl
 obtain⟨op,u,v,rfl,hm,q⟩:=h
 refine⟨_,(aA (dh (cD gB (ao 0 pM) cC (bz _)) (aH (bH (dz lW (ao 1 qp) (ao 2 qt)))) cH)
  (aA (dh (cD gB (ao 0 pM) cC (bz _)) (aH (bH (dz mX (ao 1 qp) (ao 2 qt)))) cH)
  (aA (dh (cD gB (ao 0 pM) cC (bz _)) (aH (bH (dz tO (ao 1 qp) (ao 2 qt)))) cH)
  (aH (bH (eN (Uj rfl) Ex T.abR Yz (aV (ao 1 qp) (aV (ao 2 qt) aC)) Ey Ez)))))), ?_⟩
 cases op with
 | plus=>walk_at "vs";exact q
 | minus=>walk_at "vs";exact q
 | times=>
   have hm:=hm rfl
   walk_at "vs";exact q
 | most=>walk_at "vs";exact q
abbrev cF:Stmt:=vA 6 0
theorem uF:bU ["self","r"] ["self","r"] (aa cF):=⟨rfl,rfl,rfl,by decide +kernel,rfl,by decide +kernel,by decide +kernel⟩
theorem gO:aJ (aa cF) "self":=by decide +kernel
theorem rM:aJ (aa cF) "r":=by decide +kernel
theorem uG {f:Addr}{fd:FuncData} (d9:fU K C "__init__" "Reckoning.__init__" cF ["self","r"] f fd) (rc:RkC K C):bF P w K mg base CX0 1 f fd ["self","r"] (Jc C):=by
 refine d9.F.okQ uF (fun vs H Q E h=> ?_) (fun cdv A outer s H vs Q E hr h=> ?_)
 ·obtain⟨a,dx,b,r,rfl,_⟩:=h
  rfl
 obtain⟨a,dx,b,r,rfl,e,hR,hw,q⟩:=h
 have lJ:=rc.cl
 have nT:=rc.nT
 have nF:=rc.nF
 have nR:=rc.nR
 refine⟨_,(aA (kO (ao 0 gO) (gK (aV (ao 1 rM) aC)))
  (aA (kO (ao 0 gO) (gK aC))
  (aH (kO (ao 0 gO) lX)))), ?_⟩
 walk_at "vs"
 intro a1 h1
 have e1:upd H a1 (.lst [V.ref b]) a=some (.ins C dx []):=(au (aL e h1)).trans e
 walk_at "vs"
 intro a2 h2
 obtain⟨n2a,h2⟩:=fV h2
 obtain⟨n21,h2⟩:=fV h2
 have e2:upd (upd (upd H a1 (.lst [V.ref b])) a (.ins C dx (aW "todo" (.ref a1) []))) a2 (.lst []) a=some (.ins C dx (aW "todo" (.ref a1) [])):=(au (Ne.symm n2a)).trans aq
 walk_at "vs"
 intro a3 h3
 obtain⟨n3a,h3⟩:=fV h3
 obtain⟨n32,h3⟩:=fV h3
 obtain⟨_,h3⟩:=fV h3
 obtain⟨n31,h3⟩:=fV h3
 have e3:upd (upd (upd (upd (upd H a1 (.lst [V.ref b])) a (.ins C dx (aW "todo" (.ref a1) []))) a2 (.lst [])) a (.ins C dx (aW "found" (.ref a2) (aW "todo" (.ref a1) [])))) a3 (.dK []) a=some (.ins C dx (aW "found" (.ref a2) (aW "todo" (.ref a1) []))):=(au (Ne.symm n3a)).trans aq
 walk_at "vs"
 have n1a:a1≠a:=fun z=>by rw[z,e] at h1;cases h1
 refine q a1 a2 a3 _ (fun p o hp z=> ?_) h1 h2 h3 ⟨aq,⟨[.ref b], ?_, .cons (.r ?_) .nil⟩, ?_, ?_,Ne.symm n21, ?_⟩
 ·have hp:p≠a:=by simpa using hp
  rw[au hp,au (aL z h3),au hp,au (aL z h2),au hp,au (aL z h1)];exact z
 ·rw[au n1a,au (Ne.symm n31),au n1a,au (Ne.symm n21),au n1a];exact aq
 ·refine hR.tups fun p xs z=> ?_
  have hp:p≠a:=fun y=>by rw[y,e] at z;cases z
  rw[au hp,au (aL z h3),au hp,au (aL z h2),au hp,au (aL z h1)];exact z
 ·rw[au n2a,au (Ne.symm n32),au n2a];exact aq
 ·rw[au n3a];exact aq
 ·show 0+0+2 *(wR r+0)<=10000;omega
abbrev aO:Stmt:=vA 6 2
theorem gP:bU ["self","step","kind","names","s","r"] ["self","step"] (aa aO):=⟨rfl,rfl,rfl,by decide +kernel,rfl,by decide +kernel,by decide +kernel⟩
theorem rN:Loc (aa aO) "kind":=by decide +kernel
theorem aQ:aJ (aa aO) "step":=by decide +kernel
theorem cJ:aJ (aa aO) "kind":=by decide +kernel
theorem aX:aJ (aa aO) "self":=by decide +kernel
theorem qK:Loc (aa aO) "names":=by decide +kernel
theorem lA:aJ (aa aO) "names":=by decide +kernel
theorem tV:(aa aO).names.lookup ("len":Str)=some NameKind.globalImplicit:=by decide +kernel
theorem tW:("len":Str)≠"__name__":=by decide +kernel
theorem tX:(("len":Str)==("__debug__":Str))=false:=by decide +kernel
theorem vB:Loc (aa aO) "s":=by decide +kernel
theorem vC:Loc (aa aO) "r":=by decide +kernel
theorem qe:(aa aO).names.lookup ("joined":Str)=some NameKind.globalImplicit:=by decide +kernel
theorem vD:aJ (aa aO) "s":=by decide +kernel
theorem vG:aJ (aa aO) "r":=by decide +kernel
theorem qg:(("joined":Str)==("__debug__":Str))=false:=by decide +kernel
theorem yp {f g:Addr}{fd gd:FuncData} (eU:fU K C "go_on" "Reckoning.go_on" aO ["self","step"] f fd) (m8:FnT K mg "joined" jO ["kind","r","s"] g gd) (Rt:bF P w K mg base CX0 1 g gd ["kind","r","s"] MF)
 (T:Blt mg) (rc:RkC K C):bF P w K mg base CX0 2 f fd ["self","step"] (ab2 C):=by
 refine eU.F.okQ gP (fun vs H Q E h=> ?_) (fun cdv A outer s H vs Q E hr h=> ?_)
 ·obtain⟨a,dx,a1,a2,a3,v,s,t,f,d,kn,c,rfl,_⟩:=h
  rfl
 obtain⟨a,dx,a1,a2,a3,v,st,t,fo,d,kn,c,rfl,rca,hst,hno,h1,hw,q⟩:=h
 have lJ:=rc.cl
 have nT:=rc.nT
 have nF:=rc.nF
 have nR:=rc.nR
 have n13:=rca.n13
 have n23:=rca.n23
 obtain⟨e,⟨ws,e1,hws⟩,e2,e3,ne,hw0⟩:=id rca
 have e2:H a2=some (.lst (fo.map V.int)):=e2
 have e3:H a3=some (.dK (rdK d)):=e3
 refine⟨_,(aA (bV (i:=2) gP.nd rfl rN (aM aK (ao 1 aQ) aB))
  (aH (dh (cD gB (ao 2 cJ) cC (bz _)) (aH (gA (rG PySem.F.plainAttrs_list PySem.F.slot_list_append PySem.F.type_list_append iH (bI (ao 0 aX)) (jC (aM aK (ao 1 aQ) aB) aC)))) (aH (dh (cD gB (ao 2 cJ) cC (bz _)) (aH (gA (rG PySem.F.plainAttrs_list PySem.F.slot_list_extend PySem.F.type_list_extend yf (bI (ao 0 aX)) (Ui (gK (IW (fQ (ir cC (jC (aM aK (ao 1 aQ) aB) (jC (aM aK (ao 1 aQ) aB) aC)))) (jC (aM aK (ao 1 aQ) aB) aC))) aC)))) (aH (dh (cD gB (ao 2 cJ) cC (bz _)) (aH (gA (rG PySem.F.plainAttrs_list PySem.F.slot_list_extend PySem.F.type_list_extend yf (bI (ao 0 aX)) (Ui (gK (IW (fQ (ir cC (jC (aM aK (ao 1 aQ) aB) aC))) (jC (aM aK (ao 1 aQ) aB) aC))) aC)))) (aH (dh (cD gB (ao 2 cJ) cC (bz _)) (aH (gA (rG PySem.F.plainAttrs_list PySem.F.slot_list_append PySem.F.type_list_append iH (bI (ao 0 aX)) (afi (Qj (cD YH (Ak PySem.F.plainAttrs_list PySem.F.slot_list_pop PySem.F.type_list_pop wG (bI (ao 0 aX))) aB (bz _)) (aM aK (ao 1 aQ) aB) (aM aK (ao 1 aQ) aB)) aC)))) (aH (dh (cD gB (ao 2 cJ) cC (bz _)) (aA (bV (i:=3) gP.nd rfl qK (aM aK (ao 1 aQ) aB))
  (aH (gA (rG PySem.F.plainAttrs_list PySem.F.slot_list_append PySem.F.type_list_append iH (bI (ao 0 aX)) (IW (fQ (ir cC (jC (aM aK (ao 3 lA) (dz mY (Ak PySem.F.plainAttrs_list PySem.F.slot_list_pop PySem.F.type_list_pop wG (bI (ao 0 aX))) (eN jL tV T.zA tL (aV (ao 3 lA) aC) tW tX))) aC))) aC))))) (aH (dh (cD gB (ao 2 cJ) cC (bz _)) (aA (bV (i:=4) gP.nd rfl vB (Ak PySem.F.plainAttrs_list PySem.F.slot_list_pop PySem.F.type_list_pop wG (bI (ao 0 aX))))
  (aA (bV (i:=5) gP.nd rfl vC (Ak PySem.F.plainAttrs_list PySem.F.slot_list_pop PySem.F.type_list_pop wG (bI (ao 0 aX))))
  (aH (gA (rG PySem.F.plainAttrs_list PySem.F.slot_list_append PySem.F.type_list_append iH (bI (ao 0 aX)) (wN (aZ (Rt.mono (by omega)) hr qe m8.m m8.F.kp m8.b .nil bO (jC (aM aK (ao 1 aQ) aB) (aV (ao 5 vG) (aV (ao 4 vD) aC))) qg) aC)))))) (aH (gA (rG PySem.F.plainAttrs_list PySem.F.slot_list_extend PySem.F.type_list_extend yf (bI (ao 0 aX)) (Ui (gK (IW (fQ (ir cC (aV (ao 2 cJ) aC))) (jC (aM aK (ao 1 aQ) aB) (jC (aM aK (ao 1 aQ) aB) aC)))) aC))))))))))))))))), ?_⟩
 have hi:=h1.inv _ _ rfl
 have hlw:ws.length=t.length:=hws.length
 have hlt:=KJ t
 have hw1:d.length+fo.length+2 * wT t<=10000:=hw0
 cases hst with
 | @r b r hr'=>
   cases hr' with
   | @num _ n eb=>
     have hi:c=⟨t,fo++[n],d⟩:=hi
     have hz:(fo.map V.int).length<sizeLine:=by rw[List.length_map,sizeLine_eq];omega
     subst hi
     walk_at "vs"
     have b:But [a1,a2,a3] H (upd H a2 (.lst (fo.map V.int++[V.int n]))):=But.set _ (by simp)
     exact q _ b (rca.next b ((au ne).trans e1) (hws.tups (rca.lists b)) (by rw[aq,List.map_append];rfl) ((au (Ne.symm n23)).trans e3) hw)
   | rd eb=>exact absurd rfl (hno _)
   | @bin _ x y op ra rb eb hx hy=>
     have hi:c=⟨t++[.join op, .r rb, .r ra],fo,d⟩:=hi
     subst hi
     have hz:∀p:Addr,ws.length+[V.ref p,V.ref y,V.ref x].length<=sizeLine:=fun p=>by rw[sizeLine_eq];show ws.length+3<=_;omega
     have afp:atI [V.str op.word,V.ref x,V.ref y] 0=some (.str op.word):=fW (j:=0) rfl
     have aik:atI [V.str op.word,V.ref x,V.ref y] 1=some (.ref x):=fW (j:=1) rfl
     have ail:atI [V.str op.word,V.ref x,V.ref y] 2=some (.ref y):=fW (j:=2) rfl
     have fin:∀p1 p2,H p1=none->upd H p1 (.tup [V.str "join",V.str op.word]) p2=none->Q .non (upd (upd (upd H p1 (.tup [V.str "join",V.str op.word])) p2 (.lst [V.ref p1,V.ref y,V.ref x])) a1 (.lst (ws++[V.ref p1,V.ref y,V.ref x]))):=fun p1 p2 h1 h2=>by
      have b:But [a1,a2,a3] H (upd (upd (upd H p1 (.tup [V.str "join",V.str op.word])) p2 (.lst [V.ref p1,V.ref y,V.ref x])) a1 (.lst (ws++[V.ref p1,V.ref y,V.ref x]))):=(But.new _ h1).trans ((But.new _ h2).trans (But.set _ (by simp)))
      have tp:=rca.lists b
      have n1:p1≠a1:=fun z=>by rw[z,e1] at h1;cases h1
      have n2:p1≠p2:=fun z=>by rw[<-z,aq] at h2;cases h2
      have h2':=(fV h2).2
      refine q _ b (rca.next b aq ((hws.tups tp).app (.cons (.join ?_) (.cons (.r (hy.tups tp)) (.cons (.r (hx.tups tp)) .nil)))) ?_ ?_ hw)
      ·rw[au n1,au n2];exact aq
      ·rw[au (Ne.symm ne),au (aL e2 h2'),au (aL e2 h1)];exact e2
      ·rw[au (Ne.symm n13),au (aL e3 h2'),au (aL e3 h1)];exact e3
     have ex1:∀p1,H p1=none->upd H p1 (.tup [V.str "join",V.str op.word]) a1=some (.lst ws):=fun p1 h1=>(au (aL e1 h1)).trans e1
     have ex2:∀p1 p2,H p1=none->upd H p1 (.tup [V.str "join",V.str op.word]) p2=none->upd (upd H p1 (.tup [V.str "join",V.str op.word])) p2 (.lst [V.ref p1,V.ref y,V.ref x]) a1=some (.lst ws):=fun p1 p2 h1 h2=>(au (aL (ex1 p1 h1) h2)).trans (ex1 p1 h1)
     have ez:∀p1,H p1=none->upd H p1 (.tup [V.str "join",V.str op.word]) b=some (.tup [V.str op.word,V.ref x,V.ref y]):=fun p1 h1=>(au (aL eb h1)).trans eb
     cases op with
     | plus=>
       walk_at "vs"
       intro p1 h1
       have ez1:=ez p1 h1
       walk_at "vs"
       intro p2 h2
       have ex:=ex2 p1 p2 h1 h2
       have hz1:=hz p1
       walk_at "vs"
       exact fin p1 p2 h1 h2
     | minus=>
       walk_at "vs"
       intro p1 h1
       have ez1:=ez p1 h1
       walk_at "vs"
       intro p2 h2
       have ex:=ex2 p1 p2 h1 h2
       have hz1:=hz p1
       walk_at "vs"
       exact fin p1 p2 h1 h2
     | times=>
       walk_at "vs"
       intro p1 h1
       have ez1:=ez p1 h1
       walk_at "vs"
       intro p2 h2
       have ex:=ex2 p1 p2 h1 h2
       have hz1:=hz p1
       walk_at "vs"
       exact fin p1 p2 h1 h2
     | most=>
       walk_at "vs"
       intro p1 h1
       have ez1:=ez p1 h1
       walk_at "vs"
       intro p2 h2
       have ex:=ex2 p1 p2 h1 h2
       have hz1:=hz p1
       walk_at "vs"
       exact fin p1 p2 h1 h2
   | @pick _ x y z ra rb rc eb hx hy hz0=>
     have hi:c=⟨t++[.branch rb rc, .r ra],fo,d⟩:=hi
     subst hi
     have hz:∀p:Addr,ws.length+[V.ref p,V.ref x].length<=sizeLine:=fun p=>by rw[sizeLine_eq];show ws.length+2<=_;omega
     walk_at "vs"
     intro p1 h1
     have ez1:upd H p1 (.tup [V.str "branch",V.ref y,V.ref z]) b=some (.tup [V.str "pick",V.ref x,V.ref y,V.ref z]):=(au (aL eb h1)).trans eb
     walk_at "vs"
     intro p2 h2
     have ex:upd (upd H p1 (.tup [V.str "branch",V.ref y,V.ref z])) p2 (.lst [V.ref p1,V.ref x]) a1=some (.lst ws):=(au (aL e1 (fV h2).2)).trans ((au (aL e1 h1)).trans e1)
     have hz1:=hz p1
     walk_at "vs"
     have b:But [a1,a2,a3] H (upd (upd (upd H p1 (.tup [V.str "branch",V.ref y,V.ref z])) p2 (.lst [V.ref p1,V.ref x])) a1 (.lst (ws++[V.ref p1,V.ref x]))):=(But.new _ h1).trans ((But.new _ h2).trans (But.set _ (by simp)))
     have tp:=rca.lists b
     have n1:p1≠a1:=fun z=>by rw[z,e1] at h1;cases h1
     have n2:p1≠p2:=fun z=>by rw[<-z,aq] at h2;cases h2
     have h2':=(fV h2).2
     refine q _ b (rca.next b aq ((hws.tups tp).app (.cons (.branch (by rw[au n1,au n2];exact aq) (hy.tups tp) (hz0.tups tp)) (.cons (.r (hx.tups tp)) .nil))) ?_ ?_ hw)
     ·rw[au (Ne.symm ne),au (aL e2 h2'),au (aL e2 h1)];exact e2
     ·rw[au (Ne.symm n13),au (aL e3 h2'),au (aL e3 h1)];exact e3
   | @cho _ x y ra ns eb hx hy=>
     have hi:c=⟨t++[.among ns, .r ra],fo,d⟩:=hi
     subst hi
     have hz:∀p:Addr,ws.length+[V.ref p,V.ref x].length<=sizeLine:=fun p=>by rw[sizeLine_eq];show ws.length+2<=_;omega
     walk_at "vs"
     intro p1 h1
     have ez1:upd H p1 (.tup [V.str "among",V.ref y]) b=some (.tup [V.str "choose",V.ref x,V.ref y]):=(au (aL eb h1)).trans eb
     walk_at "vs"
     intro p2 h2
     have ex:upd (upd H p1 (.tup [V.str "among",V.ref y])) p2 (.lst [V.ref p1,V.ref x]) a1=some (.lst ws):=(au (aL e1 (fV h2).2)).trans ((au (aL e1 h1)).trans e1)
     have hz1:=hz p1
     walk_at "vs"
     have b:But [a1,a2,a3] H (upd (upd (upd H p1 (.tup [V.str "among",V.ref y])) p2 (.lst [V.ref p1,V.ref x])) a1 (.lst (ws++[V.ref p1,V.ref x]))):=(But.new _ h1).trans ((But.new _ h2).trans (But.set _ (by simp)))
     have tp:=rca.lists b
     have n1:p1≠a1:=fun z=>by rw[z,e1] at h1;cases h1
     have n2:p1≠p2:=fun z=>by rw[<-z,aq] at h2;cases h2
     have h2':=(fV h2).2
     refine q _ b (rca.next b aq ((hws.tups tp).app (.cons (.among (by rw[au n1,au n2];exact aq) (tp _ _ hy)) (.cons (.r (hx.tups tp)) .nil))) ?_ ?_ hw)
     ·rw[au (Ne.symm ne),au (aL e2 h2'),au (aL e2 h1)];exact e2
     ·rw[au (Ne.symm n13),au (aL e3 h2'),au (aL e3 h1)];exact e3
 | @branch b x y ra rb eb hx hy=>
   obtain⟨g,v,hf,hi⟩:=hi
   have hf:fo=g++[v]:=hf
   subst hf
   subst hi
   have hl:((g++[v]).map V.int)[((g++[v]).map V.int).length - 1]? =some (.int v):=by rw[List.map_append,List.length_append];exact List.getElem?_concat_length
   have hd:((g++[v]).map V.int).dropLast=g.map V.int:=by rw[List.map_append];exact List.dropLast_concat
   have hz:ws.length<sizeLine:=by rw[sizeLine_eq];omega
   walk_at "vs"
   rw[hd]
   have nb:b≠a2:=fun z=>by rw[z,e2] at eb;cases eb
   have eb1:upd H a2 (.lst (g.map V.int)) b=some (.tup [V.str "branch",V.ref x,V.ref y]):=(au nb).trans eb
   have e11:upd H a2 (.lst (g.map V.int)) a1=some (.lst ws):=(au ne).trans e1
   have fin:∀(z:Addr) (rz:R),IsR H z rz->rz=(if v>0 then ra else rb)->Q .non (upd (upd H a2 (.lst (g.map V.int))) a1 (.lst (ws++[V.ref z]))):=fun z rz hz1 hz2=>by
    subst hz2
    have b:But [a1,a2,a3] H (upd (upd H a2 (.lst (g.map V.int))) a1 (.lst (ws++[V.ref z]))):=(But.set _ (by simp)).trans (But.set _ (by simp))
    have tp:=rca.lists b
    exact q _ b (rca.next b aq ((hws.tups tp).app (.cons (.r (hz1.tups tp)) .nil)) ((au (Ne.symm ne)).trans aq) ((au (Ne.symm n13)).trans ((au (Ne.symm n23)).trans e3)) hw)
   by_cases hv:0<v
   ·refine abU hv ?_
    walk_at "vs"
    exact fin x ra hx (if_pos hv).symm
   ·refine abV hv ?_
    walk_at "vs"
    exact fin y rb hy (if_neg hv).symm
 | @among b x ns eb hx=>
   obtain⟨g,v,y,hf,hy,hi⟩:=hi
   have hf:fo=g++[v]:=hf
   subst hf
   subst hi
   have hl:((g++[v]).map V.int)[((g++[v]).map V.int).length - 1]? =some (.int v):=by rw[List.map_append,List.length_append];exact List.getElem?_concat_length
   have hd:((g++[v]).map V.int).dropLast=g.map V.int:=by rw[List.map_append];exact List.dropLast_concat
   have hz:ws.length<sizeLine:=by rw[sizeLine_eq];omega
   have hln:(ns.map V.str).length=ns.length:=List.length_map _
   have hpos:0<((ns.map V.str).length:Int):=by
    rw[hln]
    cases ns with
    | nil=>simp[vg] at hy
    | cons n ns=>simp only[List.length_cons];omega
   have hat:atI (ns.map V.str) (v % ((ns.map V.str).length:Int))=some (.str y):=by
    rw[hln] at hpos ⊢
    have z0:=Int.emod_nonneg v (show(ns.length:Int)≠0 by omega)
    obtain⟨k,hk⟩:=Int.eq_ofNat_of_zero_le z0
    unfold vg at hy
    rw[hk] at hy ⊢
    exact fW (by rw[List.getElem?_map,show ns[k]? =some y from hy];rfl)
   have nx:x≠a2:=fun z=>by rw[z,e2] at hx;cases hx
   have ex1:upd H a2 (.lst (((g++[v]).map V.int).dropLast)) x=some (.tup (ns.map V.str)):=(au nx).trans hx
   have e11:upd H a2 (.lst (((g++[v]).map V.int).dropLast)) a1=some (.lst ws):=(au ne).trans e1
   walk_at "vs"
   intro p1 h1
   have e12:upd (upd H a2 (.lst (((g++[v]).map V.int).dropLast))) p1 (.tup [V.str "read",V.str y]) a1=some (.lst ws):=(au (aL e11 h1)).trans e11
   walk_at "vs"
   have n1:p1≠a1:=fun z=>by rw[z,e11] at h1;cases h1
   obtain⟨n2,h1'⟩:=fV h1
   have b:But [a1,a2,a3] H (upd (upd (upd H a2 (.lst (((g++[v]).map V.int).dropLast))) p1 (.tup [V.str "read",V.str y])) a1 (.lst (ws++[V.ref p1]))):=(But.set _ (by simp)).trans ((But.new _ h1).trans (But.set _ (by simp)))
   have tp:=rca.lists b
   refine q _ b (rca.next b aq ((hws.tups tp).app (.cons (.r (.rd ((au n1).trans aq))) .nil)) ?_ ?_ hw)
   ·rw[au (Ne.symm ne),au (Ne.symm n2),aq,hd]
   ·rw[au (Ne.symm n13),au (aL e3 h1'),au (Ne.symm n23)];exact e3
 | @join b op eb=>
   obtain⟨g,u,v,hf,hm,hi⟩:=hi
   have hf:fo=g++[u,v]:=hf
   subst hf
   subst hi
   have hl:((g++[u,v]).map V.int)[((g++[u,v]).map V.int).length - 1]? =some (.int v):=by simp
   have hd:((g++[u,v]).map V.int).dropLast=(g++[u]).map V.int:=by simp
   have hl2:((g++[u]).map V.int)[((g++[u]).map V.int).length - 1]? =some (.int u):=by simp
   have hd2:((g++[u]).map V.int).dropLast=g.map V.int:=by simp
   have hz:(g.map V.int).length<sizeLine:=by
    rw[List.length_map,sizeLine_eq]
    have:(g++[u,v]).length=g.length+2:=by rw[List.length_append];rfl
    omega
   have nb:b≠a2:=fun z=>by rw[z,e2] at eb;cases eb
   have na2:a≠a2:=fun z=>rca.ins (by simp[z])
   have hl3:(((g++[u,v]).map V.int).dropLast)[(((g++[u,v]).map V.int).dropLast).length - 1]? =some (.int u):=by rw[hd];exact hl2
   have hd3:(((g++[u,v]).map V.int).dropLast).dropLast=g.map V.int:=by rw[hd];exact hd2
   have hz3:((((g++[u,v]).map V.int).dropLast).dropLast).length<sizeLine:=by rw[hd3];exact hz
   walk_at "vs"
   have b:But [a1,a2,a3] H (upd H a2 (.lst (g.map V.int++[V.int (op.ap u v)]))):=But.set _ (by simp)
   have q1:=q _ b (rca.next b ((au ne).trans e1) (hws.tups (rca.lists b)) (by rw[aq,List.map_append];rfl) ((au (Ne.symm n23)).trans e3) hw)
   have eq:upd (upd (upd H a2 (.lst (((g++[u,v]).map V.int).dropLast))) a2 (.lst ((((g++[u,v]).map V.int).dropLast).dropLast))) a2 (.lst ((((g++[u,v]).map V.int).dropLast).dropLast++[V.int (op.ap u v)]))=upd H a2 (.lst (g.map V.int++[V.int (op.ap u v)])):=by rw[tD,tD,hd3]
   show Q .non (upd (upd (upd H a2 (.lst (((g++[u,v]).map V.int).dropLast))) a2 (.lst ((((g++[u,v]).map V.int).dropLast).dropLast))) a2 (.lst ((((g++[u,v]).map V.int).dropLast).dropLast++[V.int (op.ap u v)])))
   rw[eq]
   exact q1
end
section
local macro_rules | `(tactic| walk_at "side") => `(tactic| first | exact G4 _ _ _ | exact Dn _ _ _ | exact Dp _ _ _ | exact Wx _ _ _ | exact zF _ _ _ | exact Nat.le_of_ble_eq_true rfl)
variable {P:Program}{w:World}{K:PySem.W.Frag}{mg:Str->Option Value}{base:Heap}{C:Addr}
abbrev bR:Stmt:=vA 6 1
theorem m9:bU ["self","known","step"] ["self","known"] (aa bR):=⟨rfl,rfl,rfl,by decide +kernel,rfl,by decide +kernel,by decide +kernel⟩
theorem cQ:aJ (aa bR) "self":=by decide +kernel
theorem ql:Loc (aa bR) "step":=by decide +kernel
theorem bQ:aJ (aa bR) "step":=by decide +kernel
theorem gQ:aJ (aa bR) "known":=by decide +kernel
theorem vH {f g:Addr}{fd gd:FuncData} (dJ:fU K C "lacking" "Reckoning.lacking" bR ["self","known"] f fd) (eU:fU K C "go_on" "Reckoning.go_on" aO ["self","step"] g gd) (zK:bF P w K mg base CX0 2 g gd ["self","step"] (ab2 C))
 (T:Blt mg) (rc:RkC K C):bF P w K mg base CX0 3 f fd ["self","known"] (Qz C):=by
 refine dJ.F.okQ m9 (fun vs H Q E h=> ?_) (fun cdv A outer s H vs Q E hr h=> ?_)
 ·obtain⟨a,dx,a1,a2,a3,d,kn,n,c,c',rfl,_⟩:=h
  rfl
 obtain⟨a,dx,a1,a2,a3,dd,kn,n0,c0,c',rfl,Zt,⟨kvs,ed,hkn⟩,nd3,hn0,hhalt,q⟩:=h
 have lJ:=rc.cl
 have nT:=rc.nT
 have nF:=rc.nF
 have nR:=rc.nR
 have hdS:dd∉[a1,a2,a3]:=fun z=>by
  obtain⟨ws,e1,_⟩:=Zt.e1
  have z:dd=a1\/dd=a2\/dd=a3:=by simpa using z
  rcases z with z | z | z
  ·rw[z,e1] at ed;cases ed
  ·rw[z,Zt.e2] at ed;cases ed
  ·exact nd3 z
 refine⟨_,(aA (zx PassesOwn.never (CZ (bI (ao 0 cQ))) (aA (bV (i:=2) m9.nd rfl ql (Ak PySem.F.plainAttrs_list PySem.F.slot_list_pop PySem.F.type_list_pop wG (bI (ao 0 cQ))))
  (aH (dh (cD tQ (aM aK (ao 2 bQ) aB) cC (bz _)) (aH (gA (oH (ao 0 cQ) lJ eU.m (zK.mono (by omega)) hr eU.b .nil bO (aV (ao 2 bQ) aC)))) (aH (dh (vh (cA hr) (aM aK (ao 2 bQ) aB) (ao 1 gQ)) (aA (j0 (cA hr) (bI (ao 0 cQ)) (aM aK (ao 2 bQ) aB) (cR (cA hr) (ao 1 gQ) (aM aK (ao 2 bQ) aB)))
  (aH (gA (rG PySem.F.plainAttrs_list PySem.F.slot_list_append PySem.F.type_list_append iH (bI (ao 0 cQ)) (jC (cR (cA hr) (ao 1 gQ) (aM aK (ao 2 bQ) aB)) aC))))) (aA (gA (rG PySem.F.plainAttrs_list PySem.F.slot_list_append PySem.F.type_list_append iH (bI (ao 0 cQ)) (aV (ao 2 bQ) aC)))
  (aH (bH (aM aK (ao 2 bQ) aB))))))))))
  (aH (bH Ks))), ?_⟩
 refine⟨fun n σ H'=>∃c t,σ=[some (.ref a),some (.ref dd),t]/\But [a1,a2,a3] H H'/\RcAt H' a C dx a1 a2 a3 c/\StN kn n c c',
  ⟨n0,c0,none,rfl,But.refl _ _,Zt,hn0⟩, ?_⟩
 rintro n σ H1 ⟨c,t0,rfl,b1,rca,hst⟩
 have n13:=rca.n13
 have n23:=rca.n23
 have na:a∉[a1,a2,a3]:=rca.ins
 have na1:a≠a1:=fun z=>na (by simp[z])
 have na2:a≠a2:=fun z=>na (by simp[z])
 have na3:a≠a3:=fun z=>na (by simp[z])
 obtain⟨e,⟨ws,e1,hws⟩,e2,e3,ne,hw0⟩:=id rca
 have ed1:=b1 _ _ hdS ed
 rcases List.eq_nil_or_concat c.todo with hnil | ⟨t,st,hs⟩
 ·rw[hnil] at hws
  cases hws
  have ec:=hst.halt (.inl hnil)
  subst ec
  walk_at "vs"
  exact(q H1 b1 rca).1 hnil
 ·rw[List.concat_eq_append] at hs
  rw[hs] at hws
  obtain⟨us,v,rfl,hus,hv⟩:=hws.snoc
  have hlu:=hus.length
  have hlt:=KJ t
  have hw1:c.rds.length+c.found.length+2 * wT (t++[st])<=10000:=by have:=hw0;unfold Cf.w at this;rw[hs] at this;exact this
  rw[lY] at hw1
  have hl:(us++[v])[(us++[v]).length - 1]? =some v:=by simp
  have hd:(us++[v]).dropLast=us:=List.dropLast_concat
  have hne:(us++[v]).isEmpty=false:=by simp
  have hz:us.length<sizeLine:=by rw[sizeLine_eq];omega
  refine⟨_,rfl,a,C,dx,_, .ref a1,rfl,e,lJ,nT,G4 _ _ _,true, .inl ⟨us++[v],SqL.of e1,by simp⟩, ?_⟩
  refine(if_pos (rfl:true=true)).mpr ?_
  cases hst with
  | zero=>
    rcases hhalt with h | ⟨t',x,h,hx⟩
    ·rw[hs] at h;simp at h
    ·rw[hs] at h
     obtain⟨rfl,rfl⟩:=jx h
     refine⟨fun _ _=>False,fun _ _ z=>z.elim, ?_⟩
     cases hv with
     | @r p _ hr'=>
     cases hr' with
     | rd ep=>
     have np:p≠a1:=fun z=>by rw[z,e1] at ep;cases ep
     have nda:dd≠a1:=fun z=>hdS (by simp[z])
     have g1:bN (upd H1 a1 (.lst (us++[V.ref p]).dropLast)) dd (.str x) none:=by
      have:=bN.k (H:=upd H1 a1 (.lst (us++[V.ref p]).dropLast)) (k:= .inr x) ((au nda).trans ed1)
      rw[hkn,hx] at this
      exact this
     have hzd:((us++[V.ref p]).dropLast).length<sizeLine:=by rw[hd];exact hz
     walk_at "vs"
     have hq:=(q H1 b1 rca).2 _ x hs
     have eq:upd (upd H1 a1 (.lst (us++[V.ref p]).dropLast)) a1 (.lst ((us++[V.ref p]).dropLast++[V.ref p]))=H1:=by rw[tD,hd,Ze e1]
     show Q (.str x) (upd (upd H1 a1 (.lst (us++[V.ref p]).dropLast)) a1 (.lst ((us++[V.ref p]).dropLast++[V.ref p])))
     rw[eq]
     exact hq
  | @succ n _ c1 _ h1 ht=>
    have hi:=h1.inv _ _ hs
    refine⟨fun σ' H'=>Wr (∃c t,σ'=[some (.ref a),some (.ref dd),t]/\But [a1,a2,a3] H H'/\RcAt H' a C dx a1 a2 a3 c/\StN kn n c c'), ?_, ?_⟩
    ·rintro σ' H' ⟨h⟩
     exact⟨n,by omega,h⟩
    by_cases hrd:∃x,st= .r (.rd x)
    ·obtain⟨x,rfl⟩:=hrd
     obtain⟨val,hx,rfl⟩:=hi
     cases hv with
     | @r p _ hr'=>
     cases hr' with
     | rd ep=>
     have np:p≠a1:=fun z=>by rw[z,e1] at ep;cases ep
     have np3:p≠a3:=fun z=>by rw[z,e3] at ep;cases ep
     have nda:dd≠a1:=fun z=>hdS (by simp[z])
     have afq:dd≠a3:=fun z=>hdS (by simp[z])
     have ne2:a2≠a1:=Ne.symm ne
     have afr:a3≠a1:=Ne.symm n13
     have afs:a3≠a2:=Ne.symm n23
     have hv0:cP kvs (.inr x)=some (.int val):=by rw[hkn,hx];rfl
     have ed2:upd H1 a1 (.lst (us++[V.ref p]).dropLast) dd=some (.dK kvs):=(au nda).trans ed1
     have e32:upd H1 a1 (.lst (us++[V.ref p]).dropLast) a3=some (.dK (rdK c.rds)):=(au afr).trans e3
     have g1:bN (upd H1 a1 (.lst (us++[V.ref p]).dropLast)) dd (.str x) (some (.int val)):=by
      have:=bN.k (k:= .inr x) ed2
      rw[hv0] at this
      exact this
     have hlr:(rdK c.rds).length<sizeLine:=by rw[show(rdK c.rds).length=c.rds.length from List.length_map _,sizeLine_eq];omega
     have pt:lQ (upd H1 a1 (.lst (us++[V.ref p]).dropLast)) a3 (.str x) (.int val) (upd (upd H1 a1 (.lst (us++[V.ref p]).dropLast)) a3 (.dK (rdK (uE c.rds x val)))):=by
      have:=lQ.k (k:= .inr x) (v:= .int val) e32 hlr
      rw[Up] at this
      exact this
     have ed3:upd (upd H1 a1 (.lst (us++[V.ref p]).dropLast)) a3 (.dK (rdK (uE c.rds x val))) dd=some (.dK kvs):=(au afq).trans ed2
     have g2:bN (upd (upd H1 a1 (.lst (us++[V.ref p]).dropLast)) a3 (.dK (rdK (uE c.rds x val)))) dd (.str x) (some (.int val)):=by
      have:=bN.k (k:= .inr x) ed3
      rw[hv0] at this
      exact this
     have hzf:(c.found.map V.int).length<sizeLine:=by rw[List.length_map,sizeLine_eq];omega
     walk_at "vs"
     have b2:But [a1,a2,a3] H1 (upd (upd (upd H1 a1 (.lst (us++[V.ref p]).dropLast)) a3 (.dK (rdK (uE c.rds x val)))) a2 (.lst (c.found.map V.int++[V.int val]))):=(But.set _ (by simp)).trans ((But.set _ (by simp)).trans (But.set _ (by simp)))
     have tp:=rca.lists b2
     refine⟨⟨⟨t,c.found++[val],uE c.rds x val⟩,_,rfl,b1.trans b2,rca.next b2 (ws:=us) ?_ (hus.tups tp) ?_ ?_ (Nat.le_trans h1.w hw0),ht⟩⟩
     ·rw[au ne,au n13,aq,hd]
     ·rw[aq,List.map_append];rfl
     ·rw[au afs,aq]
    ·have hno:∀x,st≠ .r (.rd x):=fun x z=>hrd ⟨x,z⟩
     obtain⟨p,k,xs,rfl,ep,hk⟩:=hv.hd hno
     have np:p≠a1:=fun z=>by rw[z,e1] at ep;cases ep
     have at0:atI (V.str k::xs) 0=some (.str k):=fW (j:=0) rfl
     walk_at "vs"
     refine abW (fun z=>hk (V.str.inj z)) ?_
     have b2:But [a1,a2,a3] H1 (upd H1 a1 (.lst (us++[V.ref p]).dropLast)):=But.set _ (by simp)
     have tp:=rca.lists b2
     have rc2:RcAt (upd H1 a1 (.lst (us++[V.ref p]).dropLast)) a C dx a1 a2 a3 ⟨t,c.found,c.rds⟩:=rca.next b2 (ws:=us) (by rw[aq,hd]) (hus.tups tp) ((au (Ne.symm ne)).trans e2) ((au (Ne.symm n13)).trans e3) (by show c.rds.length+c.found.length+2 * wT t<=10000;omega)
     have h1':St1 kn ⟨t++[st],c.found,c.rds⟩ c1:=by rw[<-hs];exact h1
     have hv2:=hv.tups tp
     have hwc:=Nat.le_trans h1.w hw0
     walk_at "vs"
     intro H3 b3 rc3
     exact⟨⟨c1,_,rfl,b1.trans (b2.trans b3),rc3,ht⟩⟩
end
section
variable {P:Program}{w:World}{K:PySem.W.Frag}{mg:Str->Option Value}{base:Heap}
abbrev bY:Stmt:=top 8
theorem yq:bU ["thing"] ["thing"] (aa bY):=⟨rfl,rfl,rfl,by decide +kernel,rfl,by decide +kernel,by decide +kernel⟩
theorem jd:(aa bY).names.lookup ("isinstance":Str)=some NameKind.globalImplicit:=by decide +kernel
theorem rO:(aa bY).names.lookup ("bool":Str)=some NameKind.globalImplicit:=by decide +kernel
theorem rP:("bool":Str)≠"__name__":=by decide +kernel
theorem rQ:(("bool":Str)==("__debug__":Str))=false:=by decide +kernel
theorem lB:aJ (aa bY) "thing":=by decide +kernel
theorem je:("isinstance":Str)≠"__name__":=by decide +kernel
theorem jf:(("isinstance":Str)==("__debug__":Str))=false:=by decide +kernel
theorem tY:(aa bY).names.lookup ("int":Str)=some NameKind.globalImplicit:=by decide +kernel
theorem tZ:("int":Str)≠"__name__":=by decide +kernel
theorem uc:(("int":Str)==("__debug__":Str))=false:=by decide +kernel
theorem yr {f:Addr}{fd:FuncData} (bu:FnT K mg "is_whole_number" bY ["thing"] f fd) (T:Blt mg) (kd:Kinds K):bF P w K mg base CX0 1 f fd ["thing"] (GX K):=by
 refine bu.F.okQ yq (fun vs H Q E h=> ?_) (fun cdv A outer s H vs Q E hr h=> ?_)
 ·obtain⟨v,t,rfl,_⟩:=h
  rfl
 obtain⟨v,t,rfl,ht,q⟩:=h
 refine⟨_,(aH (bH (GF (eN Al jd T.j6 jy (aV (ao 0 lB) (aV (wD (v:= .ty "int") tY T.Wu Qh rfl tZ uc) aC)) je jf) (Ku (YD (eN Al jd T.j6 jy (aV (ao 0 lB) (aV (wD (v:= .ty "bool") rO T.YJ TF rfl rP rQ) aC)) je jf)))))), ?_⟩
 have h1:=ht.ty
 have h2:=ht.isi kd (c:="int") (by simp[tys])
 have h3:=ht.isi kd (c:="bool") (by simp[tys])
 walk_at "vs"
 cases ht with
 | bl b=>walk_at "vs";exact q
 | int i=>walk_at "vs";exact q
 | non=>exact q
 | str x=>exact q
 | tup e h=>exact q
 | oth h hT k=>rcases hT with rfl | rfl<;>exact q
abbrev dF:Stmt:=top 9
theorem Lb:bU ["told","thing"] ["told","thing"] (aa dF):=⟨rfl,rfl,rfl,by decide +kernel,rfl,by decide +kernel,by decide +kernel⟩
theorem gY:(aa dF).names.lookup ("isinstance":Str)=some NameKind.globalImplicit:=by decide +kernel
theorem rR:(aa dF).names.lookup ("tuple":Str)=some NameKind.globalImplicit:=by decide +kernel
theorem rT:("tuple":Str)≠"__name__":=by decide +kernel
theorem rW:(("tuple":Str)==("__debug__":Str))=false:=by decide +kernel
theorem gj:aJ (aa dF) "told":=by decide +kernel
theorem gZ:("isinstance":Str)≠"__name__":=by decide +kernel
theorem ie:(("isinstance":Str)==("__debug__":Str))=false:=by decide +kernel
theorem vI:(aa dF).names.lookup ("len":Str)=some NameKind.globalImplicit:=by decide +kernel
theorem vJ:("len":Str)≠"__name__":=by decide +kernel
theorem vK:(("len":Str)==("__debug__":Str))=false:=by decide +kernel
theorem fJ:aJ (aa dF) "thing":=by decide +kernel
theorem DR:(aa dF).names.lookup ("all":Str)=some NameKind.globalImplicit:=by decide +kernel
theorem DW:(aa dF).names.lookup ("zip":Str)=some NameKind.globalImplicit:=by decide +kernel
theorem yt:(("is_same":Str)==("__debug__":Str))=false:=by decide +kernel
theorem DX:("all":Str)≠"__name__":=by decide +kernel
theorem DY:(("all":Str)==("__debug__":Str))=false:=by decide +kernel
theorem jP:(aa dF).names.lookup ("is_whole_number":Str)=some NameKind.globalImplicit:=by decide +kernel
theorem jQ:(("is_whole_number":Str)==("__debug__":Str))=false:=by decide +kernel
theorem vL:(aa dF).names.lookup ("str":Str)=some NameKind.globalImplicit:=by decide +kernel
theorem vM:("str":Str)≠"__name__":=by decide +kernel
theorem vN:(("str":Str)==("__debug__":Str))=false:=by decide +kernel
theorem zL {d:Nat}{f g0:Addr}{fd gd0:FuncData} (di:FnT K mg "is_same" dF ["told","thing"] f fd) (rY:bF P w K mg base CX0 (d+1) f fd ["told","thing"] (fun vs H Q E=>0<d/\Dz K (d - 1) vs H Q E))
 (bu:FnT K mg "is_whole_number" bY ["thing"] g0 gd0) (fX:bF P w K mg base CX0 1 g0 gd0 ["thing"] (GX K)) (T:Blt mg) (kd:Kinds K):
 bF P w K mg base CX0 (d+2) f fd ["told","thing"] (Dz K d):=by
 refine di.F.okQ Lb (fun vs H Q E h=> ?_) (fun cdv A outer s H vs Q E hr h=> ?_)
 ·obtain⟨v,t,v',t',rfl,_⟩:=h
  rfl
 obtain⟨v,t,v',t',rfl,ht,hu,hd,q⟩:=h
 refine⟨_,(aA (dh (tM (eN Al gY T.j6 jy (aV (ao 0 gj) (aV (wD (v:= .ty "tuple") rR T.GR CW rfl rT rW) aC)) gZ ie)) (aA (dh (Dd (FT (GD (tM (eN Al gY T.j6 jy (aV (ao 1 fJ) (aV (wD (v:= .ty "tuple") rR T.GR CW rfl rT rW) aC)) gZ ie))) (Aj (cD tQ (eN jL vI T.zA tL (aV (ao 0 gj) aC) vJ vK) (eN jL vI T.zA tL (aV (ao 1 fJ) aC) vJ vK) (bz _))))) (aH (bH xP)) cH)
  (aH (bH (eN (Ug rfl) DR T.abQ YB (abZ (wF rfl (n:=2) (fr:=[]) (N:=["part","other"]) (CT (scX:=aa dF) (NX:=["told","thing"]) rfl rfl (by decide +kernel)) (UL DW T.abS (aV (ao 0 gj) (aV (ao 1 fJ) aC))) (fun _ _ _ _ _=>(Mx (K:=K) (n:=2) rfl rfl (kZ (qgx (i:=0) (show List.Nodup (α:=Str) ["part","other"] by decide) (Gz (by decide +kernel))) (kZ (qgx (i:=1) (show List.Nodup (α:=Str) ["part","other"] by decide) (Gz (by decide +kernel))) zu)))) (fun _ _ _ _ _=>Qk) (fun _ _ _ _ _=>(aZ (rY.mono (by omega)) hr (glC (by decide +kernel)) di.m di.F.kp di.b .nil bO (aV (ao 0 (lR.ok (by decide +kernel))) (aV (ao 1 (lR.ok (by decide +kernel))) aC)) yt))) aC) DX DY)))) cH)
  (aA (dh (tM (aZ (fX.mono (by omega)) hr jP bu.m bu.F.kp bu.b .nil bO (aV (ao 0 gj) aC) jQ)) (aH (bH (GF (aZ (fX.mono (by omega)) hr jP bu.m bu.F.kp bu.b .nil bO (aV (ao 1 fJ) aC) jQ) (Ku (Ai gB (ao 0 gj) (ao 1 fJ) (bz _)))))) cH)
  (aH (bH (GF (eN Al gY T.j6 jy (aV (ao 0 gj) (aV (wD (v:= .ty "str") vL T.Wt Qi rfl vM vN) aC)) gZ ie) (GF (eN Al gY T.j6 jy (aV (ao 1 fJ) (aV (wD (v:= .ty "str") vL T.Wt Qi rfl vM vN) aC)) gZ ie) (Ku (Ai gB (ao 0 gj) (ao 1 fJ) (bz _))))))))), ?_⟩
 have h1:=ht.ty
 have h2:=ht.isi kd (c:="tuple") (by simp[tys])
 have h3:=ht.isi kd (c:="str") (by simp[tys])
 have g1:=hu.ty
 have g2:=hu.isi kd (c:="tuple") (by simp[tys])
 have g3:=hu.isi kd (c:="str") (by simp[tys])
 walk_at "vs"
 have ht2:=ht
 cases ht2 with
 | @tup a vs ts ea ha=>
   have ct:Qn (IK (.tup ts)) "tuple"=true:=rfl
   rw[ct]
   walk_at "vs"
   have hu2:=hu
   cases hu2 with
   | @tup b us rs eb hb=>
     have cu:Qn (IK (.tup rs)) "tuple"=true:=rfl
     rw[cu]
     walk_at "vs"
     have l1:=ha.length
     have l2:=hb.length
     by_cases hl:vs.length=us.length
     ·refine abY (by rw[hl];simp) ?_
      walk_at "vs"
      intro D hD
      have hd0:0<d:=by
       cases d with
       | zero=>exact absurd hd (by simp[DpT])
       | succ d=>omega
      obtain⟨d,rfl⟩:∃e,d=e+1:=⟨d - 1,by omega⟩
      obtain⟨hd1,hd2⟩:ts.length<=1000/\∀t∈ts,DpT d t:=hd
      have nDa:a≠D:=fun z=>by rw[z,hD] at ea;cases ea
      have nDb:b≠D:=fun z=>by rw[z,hD] at eb;cases eb
      refine Og (fun i σ' H'=>(∃t1 t2,σ'=[t1,t2])/\H' D=some (.lst (((List.zipWith dI ts rs).take i).map V.bl))/\aN H H') hl ?_ ?_ ?_ ?_
      ·exact⟨⟨none,none,rfl⟩,aq,aG _ hD⟩
      ·intro i σ' H' hi hP
       exact⟨SqT.of (hP.2.2 _ _ ea),SqT.of (hP.2.2 _ _ eb)⟩
      ·intro i x y T0 σ' H' hx hy hP hT
       obtain⟨⟨t1,t2,rfl⟩,eD,kp⟩:=hP
       obtain⟨hi1,tx⟩:=ha.at hx
       obtain⟨hi2,ty⟩:=hb.at hy
       have S0:=kp.trans (aG (.tup [x,y]) hT)
       have tx0:=tx.same S0
       have ty0:=ty.same S0
       have dx:=hd2 _ (List.getElem_mem hi1)
       have eT:upd H' T0 (.tup [x,y]) T0=some (.tup [x,y]):=aq
       have eD0:=(aG (.tup [x,y]) hT) _ _ eD
       generalize upd H' T0 (.tup [x,y])=H0 at *
       walk_at "vs"
       intro H5 S5
       have eD5:=S5 _ _ eD0
       refine⟨_,eD5, ?_,⟨_,_,rfl⟩, ?_, ?_⟩
       ·rw[List.length_map,List.length_take];exact cB (by omega)
       ·rw[aq,<-Oh dI hi1 hi2,List.map_append];rfl
       ·exact dD _ hD (S0.trans S5)
      ·intro σ' H' hP
       obtain⟨_,eD,kp⟩:=hP
       rw[List.take_of_length_le (by simp;omega)] at eD
       have eq:dI (.tup ts) (.tup rs)=((List.zipWith dI ts rs).all id):=by rw[dI];exact Dy (by omega)
       rw[eq] at q
       walk_at "vs"
       exact q _ kp
     ·refine abX (by simp;omega) ?_
      rw[show dI (.tup ts) (.tup rs)=false from by rw[dI];exact Dw (by omega)] at q
      walk_at "vs"
      exact q _ (aN.refl _)
   | non=>walk_at "vs";exact q _ (aN.refl _)
   | bl b=>walk_at "vs";exact q _ (aN.refl _)
   | int i=>walk_at "vs";exact q _ (aN.refl _)
   | str x=>walk_at "vs";exact q _ (aN.refl _)
   | oth h hT k=>rcases hT with rfl | rfl<;>walk_at "vs"<;>exact q _ (aN.refl _)
 | non=>walk_at "vs";exact q _ (aN.refl _)
 | bl b=>walk_at "vs";exact q _ (aN.refl _)
 | int i=>
   walk_at "vs"
   have hu2:=hu
   cases hu2 with
   | int j=>
     have ej:dI (.int i) (.int j)=decide (V.int i=V.int j):=by simp[dI]
     rw[ej] at q
     walk_at "vs";exact q _ (aN.refl _)
   | non=>walk_at "vs";exact q _ (aN.refl _)
   | bl b=>walk_at "vs";exact q _ (aN.refl _)
   | str x=>walk_at "vs";exact q _ (aN.refl _)
   | tup e h=>walk_at "vs";exact q _ (aN.refl _)
   | oth h hT k=>rcases hT with rfl | rfl<;>walk_at "vs"<;>exact q _ (aN.refl _)
 | str x=>
   walk_at "vs"
   have hu2:=hu
   cases hu2 with
   | str y=>
     have ej:dI (.str x) (.str y)=decide (V.str x=V.str y):=by simp[dI]
     rw[ej] at q
     walk_at "vs";exact q _ (aN.refl _)
   | non=>walk_at "vs";exact q _ (aN.refl _)
   | bl b=>walk_at "vs";exact q _ (aN.refl _)
   | int j=>walk_at "vs";exact q _ (aN.refl _)
   | tup e h=>walk_at "vs";exact q _ (aN.refl _)
   | oth h hT k=>rcases hT with rfl | rfl<;>walk_at "vs"<;>exact q _ (aN.refl _)
 | oth h hT k=>rcases hT with rfl | rfl<;>walk_at "vs"<;>exact q _ (aN.refl _)
theorem Ea {f g0:Addr}{fd gd0:FuncData} (di:FnT K mg "is_same" dF ["told","thing"] f fd)
 (bu:FnT K mg "is_whole_number" bY ["thing"] g0 gd0) (fX:bF P w K mg base CX0 1 g0 gd0 ["thing"] (GX K)) (T:Blt mg) (kd:Kinds K):
 ∀d,bF P w K mg base CX0 (d+2) f fd ["told","thing"] (Dz K d)
 | 0=>zL di (never fun vs H Q E h=>absurd h.1 (by omega)) bu fX T kd
 | d+1=>zL di ((Ea di bu fX T kd d).imp fun vs H Q E h=>h.2) bu fX T kd
end
section
local macro_rules | `(tactic| walk_at "side") => `(tactic| first | exact wK _ _ _ _ | exact tR _ _ _ _ | exact wL _ _ _ _ | exact oM _ _ _ _ | exact (gf _ _ _ _).1 | exact (gf _ _ _ _).2.1 | exact (gf _ _ _ _).2.2.1 | exact (gf _ _ _ _).2.2.2 | exact Nat.le_of_ble_eq_true rfl)
variable {P:Program}{w:World}{K:PySem.W.Frag}{mg:Str->Option Value}{base:Heap}{CN CS CR:Addr}
abbrev bC:Stmt:=vA 11 0
theorem qL:bU ["self","records"] ["self","records"] (aa bC):=⟨rfl,rfl,rfl,by decide +kernel,rfl,by decide +kernel,by decide +kernel⟩
theorem ni:aJ (aa bC) "self":=by decide +kernel
theorem mj:aJ (aa bC) "records":=by decide +kernel
theorem qM {f:Addr}{fd:FuncData} (bL:fU K CN "__init__" "NamedRecords.__init__" bC ["self","records"] f fd) (nc:NrC K CN):bF P w K mg base CX0 1 f fd ["self","records"] (DN CN):=by
 refine bL.F.okQ qL (fun vs H Q E h=> ?_) (fun cdv A outer s H vs Q E hr h=> ?_)
 ·obtain⟨a,dx,rcd,rfl,_⟩:=h
  rfl
 obtain⟨a,dx,rcd,rfl,e,q⟩:=h
 have lC:=nc.cl
 have nB:=nc.nB
 refine⟨_,(aH (kO (ao 0 ni) (ao 1 mj))), ?_⟩
 walk_at "vs"
 exact q _ (But.set _ (by simp)) aq
abbrev cL:Stmt:=vA 11 2
theorem qN:bU ["self","record"] ["self","record"] (aa cL):=⟨rfl,rfl,rfl,by decide +kernel,rfl,by decide +kernel,by decide +kernel⟩
theorem qO {f:Addr}{fd:FuncData} (cM:fU K CN "put_made" "NamedRecords.put_made" cL ["self","record"] f fd):bF P w K mg base CX0 1 f fd ["self","record"] WR:=by
 refine cM.F.okQ qN (fun vs H Q E h=> ?_) (fun cdv A outer s H vs Q E hr h=> ?_)
 ·obtain⟨⟨v,w,rfl⟩,_⟩:=h
  rfl
 obtain⟨⟨v,w,rfl⟩,q⟩:=h
 refine⟨_,(aH TY), ?_⟩
 exact q
abbrev aR:Stmt:=vA 11 1
theorem oN:bU ["self","name","r"] ["self","name","r"] (aa aR):=⟨rfl,rfl,rfl,by decide +kernel,rfl,by decide +kernel,by decide +kernel⟩
theorem lD:(aa aR).names.lookup ("is_same":Str)=some NameKind.globalImplicit:=by decide +kernel
theorem eV:aJ (aa aR) "self":=by decide +kernel
theorem eX:aJ (aa aR) "name":=by decide +kernel
theorem nj:aJ (aa aR) "r":=by decide +kernel
theorem lE:(("is_same":Str)==("__debug__":Str))=false:=by decide +kernel
theorem oO {f g0:Addr}{fd gd0:FuncData} (bZ:fU K CN "records_for" "NamedRecords.records_for" aR ["self","name","r"] f fd)
 (di:FnT K mg "is_same" dF ["told","thing"] g0 gd0) (rY:bF P w K mg base CX0 12 g0 gd0 ["told","thing"] (Dz K 10)) (T:Blt mg) (nc:NrC K CN):bF P w K mg base CX0 13 f fd ["self","name","r"] (QX CN):=by
 refine bZ.F.okQ oN (fun vs H Q E h=> ?_) (fun cdv A outer s H vs Q E hr h=> ?_)
 ·obtain⟨o,dx,rcd,b,kr,n,rm,y,r,rfl,_⟩:=h
  rfl
 obtain⟨o,dx,rcd,b,kr,n,rm,y,r,rfl,eo,er,rD,hR,hg,hdp,q⟩:=h
 have lC:=nc.cl
 have nB:=nc.nB
 have lkB:List.lookup ("by_name":Str) (nrF rcd)=some (.ref rcd):=rfl
 refine⟨_,(aA (dh (Dd (Dc (vh (cA hr) (ao 1 eX) (bI (ao 0 eV))) (zp (tM (aZ (rY.mono (by omega)) hr lD di.m di.F.kp di.b .nil bO (aV (ao 2 nj) (jC (aM aK (cR (cA hr) (bI (ao 0 eV)) (ao 1 eX)) aB) aC)) lE))))) (aH (bH (gK (jC (cR (cA hr) (bI (ao 0 eV)) (ao 1 eX)) aC)))) cH)
  (aH (bH (gK aC)))), ?_⟩
 have dr:bN H rcd (.str y) (cP kr (.inr y)):=bN.k (k:= .inr y) er
 cases erm:rm y with
 | none=>
   rw[rD.w y erm] at dr
   walk_at "vs"
   intro fl hfl
   exact q fl _ (aG _ hfl) hfl fun kn=> .inr ⟨aq,fun r' ps v e=>by rw[erm] at e;cases e⟩
 | some qq=>
   obtain⟨r',ps,v'⟩:=qq
   obtain⟨bb,hbb,br,l,as,e1,R1,el,hRs,_⟩:=rD.v y _ erm
   rw[hbb] at dr
   have e1:H bb=some (.tup [.ref br, .ref l, .int v']):=e1
   have R1:IsR H br r':=R1
   have hat:atI [V.ref br, .ref l, .int v'] 0=some (.ref br):=rfl
   have t1:m5 K H (.ref b) r.eE:=hR.Uh
   have t2:m5 K H (.ref br) r'.eE:=R1.Uh
   have dp:DpT 10 r.eE:=(r.dpT (jN hg)).mono (by omega)
   walk_at "vs"
   intro H1 s1
   have dr1:bN H1 rcd (.str y) (some (.ref bb)):=by rw[<-hbb];exact bN.k (k:= .inr y) (s1 _ _ er)
   have eo1:=s1 _ _ eo
   by_cases hrr:r=r'
   ·rw[M4 hrr]
    subst hrr
    walk_at "vs"
    intro fl hfl
    exact q fl _ (s1.trans (aG _ hfl)) (same_none s1 hfl) fun kn=> .inl ⟨bb,ps,v',aq,hbb,erm,Nat.zero_le _,fun j p hj=>by omega⟩
   ·rw[M5 hrr]
    walk_at "vs"
    intro fl hfl
    exact q fl _ (s1.trans (aG _ hfl)) (same_none s1 hfl) fun kn=> .inr ⟨aq,fun r2 ps2 v2 e=>by
     rw[erm] at e;cases e;exact .inl (Ne.symm hrr)⟩
abbrev bT:Stmt:=vA 12 0
theorem vO:bU ["self","r","records"] ["self","r","records"] (aa bT):=⟨rfl,rfl,rfl,by decide +kernel,rfl,by decide +kernel,by decide +kernel⟩
theorem fu:aJ (aa bT) "self":=by decide +kernel
theorem mq:aJ (aa bT) "r":=by decide +kernel
theorem nU:aJ (aa bT) "records":=by decide +kernel
theorem mR:(aa bT).names.lookup ("Reckoning":Str)=some NameKind.globalImplicit:=by decide +kernel
theorem mU:(("Reckoning":Str)==("__debug__":Str))=false:=by decide +kernel
theorem vP {f g0:Addr}{fd gd0:FuncData} (fj:fU K CS "__init__" "Settling.__init__" bT ["self","r","records"] f fd)
 (d9:fU K CR "__init__" "Reckoning.__init__" cF ["self","r"] g0 gd0) (vQ:bF P w K mg base CX0 1 g0 gd0 ["self","r"] (Jc CR))
 (vR:Mk K CR g0) (vU:mg "Reckoning"=some (.ref CR)) (sc:SeC K CS):bF P w K mg base CX0 3 f fd ["self","r","records"] (Jl CS CR):=by
 refine fj.F.okQ vO (fun vs H Q E h=> ?_) (fun cdv A outer s H vs Q E hr h=> ?_)
 ·obtain⟨a,dx,b,fl,r,rfl,_⟩:=h
  rfl
 obtain⟨a,dx,b,fl,r,rfl,e,hR,hw,q⟩:=h
 have iR:=sc.cl
 have nR:=sc.nR
 have nF:=sc.nF
 have nP:=sc.nP
 have nK:=sc.nK
 refine⟨_,(aA (kO (ao 0 fu) (ao 1 mq))
  (aA (kO (ao 0 fu) (ao 2 nU))
  (aA (kO (ao 0 fu) aB)
  (aH (kO (ao 0 fu) (zE vR (vQ.mono (by omega)) hr mR vU d9.b .nil bO (aV (ao 1 mq) aC) mU)))))), ?_⟩
 walk_at "vs"
 have F3:upd (upd (upd H a (.ins CS dx (aW "recipe" (.ref b) []))) a (.ins CS dx (aW "fitting" (.ref fl) (aW "recipe" (.ref b) [])))) a (.ins CS dx (aW "place" (.int 0) (aW "fitting" (.ref fl) (aW "recipe" (.ref b) []))))=upd H a (.ins CS dx (aW "place" (.int 0) (aW "fitting" (.ref fl) (aW "recipe" (.ref b) [])))):=by rw[tD,tD]
 rw[F3]
 have b1:But [a] H (upd H a (.ins CS dx (aW "place" (.int 0) (aW "fitting" (.ref fl) (aW "recipe" (.ref b) []))))):=But.set _ (by simp)
 have t1:lq H (upd H a (.ins CS dx (aW "place" (.int 0) (aW "fitting" (.ref fl) (aW "recipe" (.ref b) []))))):=fun p xs z=>(au (fun y=>by rw[y,e] at z;cases z)).trans z
 have e1:upd H a (.ins CS dx (aW "place" (.int 0) (aW "fitting" (.ref fl) (aW "recipe" (.ref b) [])))) a=some (.ins CS dx (aW "place" (.int 0) (aW "fitting" (.ref fl) (aW "recipe" (.ref b) [])))):=aq
 have n1:∀{z},upd H a (.ins CS dx (aW "place" (.int 0) (aW "fitting" (.ref fl) (aW "recipe" (.ref b) [])))) z=none->H z=none:=fun z=>(fV z).2
 generalize upd H a (.ins CS dx (aW "place" (.int 0) (aW "fitting" (.ref fl) (aW "recipe" (.ref b) []))))=H1 at *
 intro rk dxr hrk hdxr hne
 have aft:(upd H1 dxr (.own rk)) rk=none:=(au (Ne.symm hne)).trans hrk
 have S1:=(aG (.own rk) hdxr).trans (aG (.ins CR dxr []) aft)
 refine⟨rk,dxr,b,r,rfl,aq,(hR.tups t1).same S1,hw,fun a1 a2 a3 H2 b2 h1 h2 h3 rc2=>⟨rfl, ?_⟩⟩
 have h1:=same_none S1 h1
 have h2:=same_none S1 h2
 have h3:=same_none S1 h3
 have S2:aN H1 H2:=gn S1 (fun p hp=>by
  have:p=rk:=by simpa using hp
  rw[this];exact hrk) b2
 have e2:=S2 _ _ e1
 have nak:a≠rk:=fun z=>by rw[<-z,e1] at hrk;cases hrk
 have na1:a≠a1:=fun z=>by rw[<-z,e1] at h1;cases h1
 have na2:a≠a2:=fun z=>by rw[<-z,e1] at h2;cases h2
 have na3:a≠a3:=fun z=>by rw[<-z,e1] at h3;cases h3
 walk_at "vs"
 have t3:lq H2 (upd H2 a (.ins CS dx (aW "reckoning" (.ref rk) (aW "place" (.int 0) (aW "fitting" (.ref fl) (aW "recipe" (.ref b) [])))))):=fun p xs z=>(au (fun y=>by rw[y,e2] at z;cases z)).trans z
 refine q ⟨a,dx,b,fl,rk,dxr,a1,a2,a3,0⟩ _ ((b1.trans (But.of_same S2)).trans (But.set _ (by simp))) rfl rfl rfl rfl aq (rc2.move (S:=[a]) (But.set _ (by simp)) t3 ?_) ?_
 ·intro z hz w
  have w:z=a:=by simpa using w
  have hz:z=rk\/z=a1\/z=a2\/z=a3:=by simpa using hz
  rcases hz with y | y | y | y
  ·exact nak (w.symm.trans y)
  ·exact na1 (w.symm.trans y)
  ·exact na2 (w.symm.trans y)
  ·exact na3 (w.symm.trans y)
 ·intro z hz
  have hz:z=rk\/z=a1\/z=a2\/z=a3:=by simpa using hz
  rcases hz with rfl | rfl | rfl | rfl
  ·exact n1 hrk
  ·exact n1 h1
  ·exact n1 h2
  ·exact n1 h3
end
section
local macro_rules | `(tactic| walk_at "side") => `(tactic| first | exact wK _ _ _ _ | exact tR _ _ _ _ | exact wL _ _ _ _ | exact oM _ _ _ _ | exact (gf _ _ _ _).1 | exact (gf _ _ _ _).2.1 | exact (gf _ _ _ _).2.2.1 | exact (gf _ _ _ _).2.2.2 | exact zF _ _ _ | exact Nat.le_of_ble_eq_true rfl)
variable {P:Program}{w:World}{K:PySem.W.Frag}{mg:Str->Option Value}{base:Heap}{CN CS CR:Addr}
abbrev bD:Stmt:=vA 12 3
theorem qP:bU ["self"] ["self"] (aa bD):=⟨rfl,rfl,rfl,by decide +kernel,rfl,by decide +kernel,by decide +kernel⟩
theorem nW:(aa bD).names.lookup ("len":Str)=some NameKind.globalImplicit:=by decide +kernel
theorem nq:aJ (aa bD) "self":=by decide +kernel
theorem nY:("len":Str)≠"__name__":=by decide +kernel
theorem nZ:(("len":Str)==("__debug__":Str))=false:=by decide +kernel
def Ru (CS:Addr):Sp:=fun vs H Q _=>∃(s dx b fl rk:Addr) (k:Nat) (xs:List V),vs=[.ref s]/\H s=some (.ins CS dx (seF b fl k rk))/\H fl=some (.lst xs)/\Q (.bl (decide (xs.length=0))) H
theorem qQ {f:Addr}{fd:FuncData} (aY:fU K CS "was_reckoned" "Settling.was_reckoned" bD ["self"] f fd) (T:Blt mg) (sc:SeC K CS):bF P w K mg base CX0 1 f fd ["self"] (Ru CS):=by
 refine aY.F.okQ qP (fun vs H Q E h=> ?_) (fun cdv A outer s H vs Q E hr h=> ?_)
 ·obtain⟨a,dx,b,fl,rk,k,xs,rfl,_⟩:=h
  rfl
 obtain⟨a,dx,b,fl,rk,k,xs,rfl,e,ef,q⟩:=h
 have iR:=sc.cl
 have nF:=sc.nF
 refine⟨_,(aH (bH (Ai gB (eN jL nW T.zA tL (GZ (bI (ao 0 nq)) aC) nY nZ) aB (bz _)))), ?_⟩
 walk_at "vs"
 have:decide (V.int (xs.length:Int)=V.int 0)=decide (xs.length=0):=by
  by_cases z:xs.length=0
  ·rw[decide_eq_true z,z];rfl
  ·rw[decide_eq_false z]
   exact decide_eq_false fun w=>z (by have:=V.int.inj w;omega)
 rw[this]
 exact q
abbrev cZ:Stmt:=vA 12 2
theorem yu:bU ["self","worth"] ["self","worth"] (aa cZ):=⟨rfl,rfl,rfl,by decide +kernel,rfl,by decide +kernel,by decide +kernel⟩
theorem fY:aJ (aa cZ) "self":=by decide +kernel
theorem yw {f:Addr}{fd:FuncData} (eY:fU K CS "fit_on" "Settling.fit_on" cZ ["self","worth"] f fd) (sc:SeC K CS):bF P w K mg base CX0 1 f fd ["self","worth"] (WT CS):=by
 refine eY.F.okQ yu (fun vs H Q E h=> ?_) (fun cdv A outer s H vs Q E hr h=> ?_)
 ·obtain⟨a,dx,b,fl,rk,rb,br,l,k,as,ps,v,w',u,x,rfl,_⟩:=h
  rfl
 obtain⟨a,dx,b,fl,rk,rb,br,l,k,as,ps,v,w',u,x,rfl,e,ef,erb,el,hRs,hk,q⟩:=h
 have iR:=sc.cl
 have nF:=sc.nF
 have nP:=sc.nP
 refine⟨_,(aA (kO (ao 0 fY) (wF rfl (n:=1) (fr:=[1,0]) (N:=["record","worth","self"]) (CT (scX:=aa cZ) (NX:=["self","worth"]) rfl rfl (by decide +kernel)) (zq (bI (ao 0 fY))) (fun _ _ _ _ _=>(qgx (i:=0) (show List.Nodup (α:=Str) ["record","worth","self"] by decide) (Gz (by decide +kernel)))) (fun _ _ _ _ _=>(De (cD gB (aM (vd (K:=K) rfl) (aM (FZ (K:=K) rfl) (aM (vd (K:=K) rfl) (ao 0 (lR.ok (by decide +kernel))) aB) (Hg (K:=K) rfl (ao 2 (lR.ok (by decide +kernel))))) aB) (ao 1 (lR.ok (by decide +kernel))) (bz _)))) (fun _ _ _ _ _=>(ao 0 (lR.ok (by decide +kernel))))))
  (aH (kO (ao 0 fY) (dz lW (bI (ao 0 fY)) aB)))), ?_⟩
 have hkl:k<ps.length:=(List.getElem?_eq_some_iff.mp hk).1
 have hka:k<as.length:=by rw[hRs.length];exact hkl
 have hae:as[k]? =some as[k]:=List.getElem?_eq_getElem hka
 obtain⟨p,hp,ep⟩:=hRs.get k _ hae
 rw[hk] at hp
 cases hp
 have ep:H as[k]=some (.tup [.str x, .int u]):=ep
 have a1:atI [V.ref br, .ref l, .int v] 1=some (.ref l):=rfl
 have a2:atI (as.map V.ref) (k:Int)=some (.ref as[k]):=fW (by rw[List.getElem?_map,hae];rfl)
 have a3:atI [V.str x, .int u] 1=some (.int u):=rfl
 walk_at "vs"
 intro D hD
 have sD:=aG (.lst []) hD
 refine wC (xs:=[.ref rb]) (fun i σ' H'=>(∃t,σ'=[t,some (.int w'),some (.ref a)])/\aN H H'/\H' D=some (.lst (if i=0 then [] else if u=w' then [.ref rb] else []))) ?_ ?_ ?_ ?_
 ·exact⟨⟨none,rfl⟩,sD,aq⟩
 ·intro i σ' H' _ hP
  exact SqL.of (hP.2.1 _ _ ef)
 ·intro i y σ' H' hy hP
  obtain⟨⟨t,rfl⟩,S1,eD⟩:=hP
  obtain⟨rfl,rfl⟩:i=0/\y= .ref rb:=by
   match i,hy with
   | 0,hy=>exact⟨rfl,(Option.some.inj hy).symm⟩
   | i+1,hy=>simp at hy
  rw[if_pos rfl] at eD
  have e1:=S1 _ _ e
  have aim:=S1 _ _ erb
  have el1:=S1 _ _ el
  have ep1:=S1 _ _ ep
  have hz:([]:List V).length<sizeLine:=cB (by simp)
  walk_at "vs"
  refine zg (fun c=> ?_) (fun c=> ?_)
  ·have c:u=w':=V.int.inj (of_decide_eq_true c)
   walk_at "vs"
   refine⟨⟨_,rfl⟩,dD _ hD S1, ?_⟩
   rw[if_neg (by decide),if_pos c];exact aq
  ·have c:¬u=w':=fun z=>c (decide_eq_true (by rw[z]))
   refine⟨⟨_,rfl⟩,S1, ?_⟩
   rw[if_neg (by decide),if_neg c];exact eD
 ·intro σ' H1 hP
  obtain⟨_,S1,eD⟩:=hP
  rw[show(if([V.ref rb]:List V).length=0 then([]:List V) else if u=w' then [.ref rb] else [])=if u=w' then [.ref rb] else [] from if_neg (by simp)] at eD
  have e1:=S1 _ _ e
  have naD:a≠D:=fun z=>by rw[z,hD] at e;cases e
  walk_at "vs"
  refine q D _ ((But.of_same S1).trans ((But.set _ (by simp)).trans (But.set _ (by simp)))) hD aq ?_
  rw[au (Ne.symm naD),au (Ne.symm naD)];exact eD
end
section
local macro_rules | `(tactic| walk_at "side") => `(tactic| first | exact wK _ _ _ _ | exact tR _ _ _ _ | exact wL _ _ _ _ | exact oM _ _ _ _ | exact (gf _ _ _ _).1 | exact (gf _ _ _ _).2.1 | exact (gf _ _ _ _).2.2.1 | exact (gf _ _ _ _).2.2.2 | exact zF _ _ _ | exact Nat.le_of_ble_eq_true rfl)
variable {P:Program}{w:World}{K:PySem.W.Frag}{mg:Str->Option Value}{base:Heap}{CN CS CR:Addr}
abbrev bw:Stmt:=vA 12 1
theorem kW:bU ["self","known","reads","name"] ["self","known"] (aa bw):=⟨rfl,rfl,rfl,by decide +kernel,rfl,by decide +kernel,by decide +kernel⟩
theorem cW:aJ (aa bw) "self":=by decide +kernel
theorem qm:Loc (aa bw) "reads":=by decide +kernel
theorem rZ:(aa bw).names.lookup ("len":Str)=some NameKind.globalImplicit:=by decide +kernel
theorem kJ:aJ (aa bw) "reads":=by decide +kernel
theorem su:("len":Str)≠"__name__":=by decide +kernel
theorem sy:(("len":Str)==("__debug__":Str))=false:=by decide +kernel
theorem qR:Loc (aa bw) "name":=by decide +kernel
theorem iI:aJ (aa bw) "name":=by decide +kernel
theorem iu:aJ (aa bw) "known":=by decide +kernel
theorem wQ {f g0 g1:Addr}{fd gd0 gd1:FuncData} (dZ:fU K CS "lacking" "Settling.lacking" bw ["self","known"] f fd)
 (eY:fU K CS "fit_on" "Settling.fit_on" cZ ["self","worth"] g0 gd0) (zM:bF P w K mg base CX0 1 g0 gd0 ["self","worth"] (WT CS))
 (dJ:fU K CR "lacking" "Reckoning.lacking" bR ["self","known"] g1 gd1) (wU:bF P w K mg base CX0 3 g1 gd1 ["self","known"] (Qz CR))
 (T:Blt mg) (sc:SeC K CS) (rcC:RkC K CR):bF P w K mg base CX0 4 f fd ["self","known"] (Jm CS CR):=by
 refine dZ.F.okQ kW (fun vs H Q E h=> ?_) (fun cdv A0 outer s H vs Q E hr h=> ?_)
 ·obtain⟨A,d,kr,n,rm,y,r,kn,rfl,_⟩:=h
  rfl
 obtain⟨A,d,kr,n,rm,y,r,kn,rfl,se,rD,n17,⟨kvs,ed,hkn⟩,nd3,hT3,q⟩:=h
 have iR:=sc.cl
 have nR:=sc.nR
 have nF:=sc.nF
 have nP:=sc.nP
 have nK:=sc.nK
 have lJ:=rcC.cl
 refine⟨_,(aA (zx PassesOwn.never (CZ (bI (ao 0 cW))) (aA (bV (i:=2) kW.nd rfl qm (aM aK (aM d8 (bI (ao 0 cW)) aB) aB))
  (aA (dh (cD gB (bI (ao 0 cW)) (eN jL rZ T.zA tL (aV (ao 2 kJ) aC) su sy) (bz _)) (aH (bH Ks)) cH)
  (aA (bV (i:=3) kW.nd rfl qR (aM aK (aM d8 (ao 2 kJ) (bI (ao 0 cW))) aB))
  (aA (dh (rJ (cA hr) (ao 3 iI) (ao 1 iu)) (aH (bH (ao 3 iI))) cH)
  (aH (gA (oH (ao 0 cW) iR eY.m (zM.mono (by omega)) hr eY.b .nil bO (jC (cR (cA hr) (ao 1 iu) (ao 3 iI)) aC)))))))))
  (aH (bH (oH (bI (ao 0 cW)) lJ dJ.m (wU.mono (by omega)) hr dJ.b .nil bO (aV (ao 1 iu) aC))))), ?_⟩
 have nds:d∉[A.s]:=fun z=>by
  have z:d=A.s:=by simpa using z
  have:=se.e
  rw[<-z,ed] at this;cases this
 refine⟨fun m σ H'=>∃(A1:SeD) (t1 t2:Option V),σ=[some (.ref A.s),some (.ref d),t1,t2]/\But [A.s] H H'/\tU CS CR kr rm y r kn A1 H'/\A1.s=A.s/\A1.b=A.b/\A1.rk=A.rk/\A1.a1=A.a1/\A1.a2=A.a2/\A1.a3=A.a3/\A1.dx=A.dx/\(A1.fl=A.fl\/H A1.fl=none)/\m=1000 - A1.k,
  ⟨_,A,none,none,rfl,But.refl _ _,se,rfl,rfl,rfl,rfl,rfl,rfl,rfl, .inl rfl,rfl⟩, ?_⟩
 rintro m σ H1 ⟨A1,t1,t2,rfl,b1,se1,es,eb,erk,ea1,ea2,ea3,edx,efl,rfl⟩
 have e1:=se1.e
 rw[es] at e1
 have tp1:lq H H1:=fun p xs z=>b1 p _ (fun w=>by
  have w:p=A.s:=by simpa using w
  have:=se.e
  rw[<-w,z] at this;cases this) z
 have ed1:=b1 _ _ nds ed
 have rD1:mJ H1 kr n rm:=rD.map fun b' q' z=>z.but b1 tp1 (fun y hy=> .inr fun xs w=>by
  have w':y=A.s:=by simpa using hy
  have:=se.e
  rw[<-w',w] at this;cases this)
 have fin:∀H2,But [A.s] H1 H2->But A.ft H H2:=fun H2 b=>(b1.trans b).mono (by simp[SeD.ft])
 rcases se1.f with⟨rb,ps,v,EY,hval,hrm,hkle,hall⟩ | ⟨EY,nof⟩
 ·obtain⟨bb,hbb,br,l,as,f1,R1,el,hRs,_⟩:=rD1.v y _ hrm
  rw[hval] at hbb
  cases hbb
  have f1:H1 rb=some (.tup [.ref br, .ref l, .int v]):=f1
  have hRs:jG H1 as ps:=hRs
  obtain⟨got,k0,hk0,ek0,rk0⟩:=rD1.ok y r ps v hrm
  have hpl:ps.length<=k0:=MT got.c rk0.i
  have a0:atI [V.ref rb] 0=some (.ref rb):=rfl
  have a1:atI [V.ref br, .ref l, .int v] 1=some (.ref l):=rfl
  have hlm:(as.map V.ref).length=ps.length:=by rw[List.length_map];exact hRs.length
  walk_at "vs"
  refine⟨fun σ' H'=>∃(A2:SeD) (t1 t2:Option V),σ'=[some (.ref A.s),some (.ref d),t1,t2]/\But [A.s] H H'/\tU CS CR kr rm y r kn A2 H'/\A2.s=A.s/\A2.b=A.b/\A2.rk=A.rk/\A2.a1=A.a1/\A2.a2=A.a2/\A2.a3=A.a3/\A2.dx=A.dx/\(A2.fl=A.fl\/H A2.fl=none)/\A2.k=A1.k+1,fun σ' H' ⟨A2,t1,t2,z1,z2,z3,z4,z5,z6,z7,z8,z9,z10,z11,z12⟩=>⟨1000 - A2.k,by omega,A2,t1,t2,z1,z2,z3,z4,z5,z6,z7,z8,z9,z10,z11,rfl⟩, ?_⟩
  walk_at "vs"
  refine zg (fun c=> ?_) (fun c=> ?_)
  ·have c:A1.k=ps.length:=by have:=V.int.inj (of_decide_eq_true c);omega
   walk_at "vs"
   refine(q A1 H1 (fin H1 (But.refl _ _)) es eb erk ea1 ea2 ea3 efl se1).1 (.inl ⟨rb,ps,v,EY,hval,hrm,fun p hp=> ?_⟩)
   obtain⟨j,hj⟩:=List.getElem?_of_mem hp
   exact hall j p (by rw[c];exact(List.getElem?_eq_some_iff.mp hj).1) hj
  ·have c:A1.k<ps.length:=by
    have:¬A1.k=ps.length:=fun z=>c (decide_eq_true (by rw[hlm,z]))
    omega
   have hka:A1.k<as.length:=by rw[hRs.length];exact c
   have hae:as[A1.k]? =some as[A1.k]:=List.getElem?_eq_getElem hka
   obtain⟨⟨x,u⟩,hp,ep⟩:=hRs.get A1.k _ hae
   have ep:H1 as[A1.k]=some (.tup [.str x, .int u]):=ep
   have a2:atI (as.map V.ref) (A1.k:Int)=some (.ref as[A1.k]):=fW (by rw[List.getElem?_map,hae];rfl)
   have a3:atI [V.str x, .int u] 0=some (.str x):=rfl
   have dw:bN H1 d (.str x) ((kn x).map V.int):=by rw[<-hkn];exact bN.k (k:= .inr x) ed1
   cases ekn:kn x with
   | none=>
     rw[ekn] at dw
     have dw:bN H1 d (.str x) none:=dw
     walk_at "vs"
     exact(q A1 H1 (fin H1 (But.refl _ _)) es eb erk ea1 ea2 ea3 efl se1).2 x ekn (K6 got.c hp hall)
   | some w'=>
     rw[ekn] at dw
     have dw:bN H1 d (.str x) (some (.int w')):=dw
     walk_at "vs"
     intro fl' H2 b2 hfl' e2 Ou
     have hs1:∀xs,H1 A.s≠some (.lst xs):=fun xs z=>by rw[e1] at z;cases z
     have tp2:lq H1 H2:=fun p xs z=>b2 p _ (fun w=>by
      have w:p=A.s:=by simpa using w
      rw[w,e1] at z;cases z) z
     obtain⟨cf,rc1,rch⟩:=se1.c
     have hns:∀{z:Addr},z≠A.s->z∉[A.s]:=fun h w=>h (by simpa using w)
     have nrk:A1.rk≠A.s:=fun z=>se1.n1 (by rw[es,z])
     have n1:A1.a1≠A.s:=fun z=>by obtain⟨ws,w1,_⟩:=rc1.e1;rw[z,e1] at w1;cases w1
     have n2:A1.a2≠A.s:=fun z=>by have w1:=rc1.e2;rw[z,e1] at w1;cases w1
     have n3:A1.a3≠A.s:=fun z=>by have w1:=rc1.e3;rw[z,e1] at w1;cases w1
     have f1n:fl'≠A1.a1:=fun z=>by obtain⟨ws,w1,_⟩:=rc1.e1;rw[<-z,hfl'] at w1;cases w1
     have f2n:fl'≠A1.a2:=fun z=>by have w1:=rc1.e2;rw[<-z,hfl'] at w1;cases w1
     refine⟨⟨A.s,A1.dx,A1.b,fl',A1.rk,A1.dxr,A1.a1,A1.a2,A1.a3,A1.k+1⟩,_,_,rfl,b1.trans b2,⟨e2,se1.hr.tups tp2,⟨cf,rc1.move b2 tp2 (fun z hz=> ?_),rch⟩, ?_,fun z=>nrk z.symm,f1n,f2n⟩,rfl,eb,erk,ea1,ea2,ea3,edx, .inr ?_,rfl⟩
     ·have hz:z=A1.rk\/z=A1.a1\/z=A1.a2\/z=A1.a3:=by simpa using hz
      rcases hz with rfl | rfl | rfl | rfl
      ·exact hns nrk
      ·exact hns n1
      ·exact hns n2
      ·exact hns n3
     ·by_cases huw:u=w'
      ·rw[if_pos huw] at Ou
       refine .inl ⟨rb,ps,v,Ou,hval,hrm,c,fun j p hj hpj=> ?_⟩
       have hj:j<A1.k+1:=hj
       by_cases hjk:j=A1.k
       ·rw[hjk,hp] at hpj;cases hpj
        rw[ekn,huw]
       ·exact hall j p (by omega) hpj
      ·rw[if_neg huw] at Ou
       refine .inr ⟨Ou,fun r2 ps2 v2 e=> ?_⟩
       rw[hrm] at e;cases e
       exact .inr ⟨(x,u),List.mem_of_getElem? hp,w',ekn,fun z=>huw z.symm⟩
     ·exact iB b1 hfl' (hns (show fl'≠A.s from fun z=>by rw[z,e1] at hfl';cases hfl'))
 ·obtain⟨cf,rc1,rch⟩:=se1.c
  have ain:=rc1.e
  obtain⟨nn,cf',hst,hhalt,rch',gg⟩:=rch.ab4 hT3
  have knA:Qy H1 d kn:=⟨kvs,ed1,hkn⟩
  have aio:d≠A1.a3:=by rw[ea3];exact nd3
  walk_at "vs"
  intro H2 b2 rc2
  have tp2:=rc1.lists b2
  have nss:A1.s∉[A1.a1,A1.a2,A1.a3]:=fun z=>by
   have e1:=se1.e
   have z:A1.s=A1.a1\/A1.s=A1.a2\/A1.s=A1.a3:=by simpa using z
   rcases z with z | z | z
   ·obtain⟨ws,w1,_⟩:=rc1.e1;rw[z,w1] at e1;cases e1
   ·rw[z,rc1.e2] at e1;cases e1
   ·rw[z,rc1.e3] at e1;cases e1
  have nfl:A1.fl∉[A1.a1,A1.a2,A1.a3]:=fun z=>by
   have z:A1.fl=A1.a1\/A1.fl=A1.a2\/A1.fl=A1.a3:=by simpa using z
   rcases z with z | z | z
   ·exact se1.n2 z
   ·exact se1.n3 z
   ·rw[z,rc1.e3] at EY;cases EY
  have se2:tU CS CR kr rm y r kn A1 H2:=⟨b2 _ _ nss se1.e,se1.hr.tups tp2,⟨cf',rc2,rch'⟩, .inr ⟨b2 _ _ nfl EY,nof⟩,se1.n1,se1.n2,se1.n3⟩
  have bb:But A.ft H H2:=(b1.mono (by simp[SeD.ft])).trans (b2.mono (by rw[ea1,ea2,ea3];simp[SeD.ft]))
  have qq:=q A1 H2 bb es eb erk ea1 ea2 ea3 efl se2
  unfold Goes at gg
  cases eev:ev kn r with
  | inr v=>
    rw[eev] at gg
    obtain⟨g1,g2,g3,g4⟩:=gg
    exact⟨fun _=>qq.1 (.inr ⟨b2 _ _ nfl EY,nof,cf',v,rc2,g2,g3,g4⟩),fun t x z=>by rw[g1] at z;simp at z⟩
  | inl x=>
    rw[eev] at gg
    obtain⟨⟨t,g1⟩,g2,g3⟩:=gg
    refine⟨fun z=>by rw[g1] at z;simp at z,fun t' x' z=> ?_⟩
    rw[g1] at z
    obtain⟨_,z⟩:=jx z
    cases z
    exact qq.2 x g2 g3
end
section
local macro_rules | `(tactic| walk_at "side") => `(tactic| first | exact wK _ _ _ _ | exact tR _ _ _ _ | exact wL _ _ _ _ | exact oM _ _ _ _ | exact (gf _ _ _ _).1 | exact (gf _ _ _ _).2.1 | exact (gf _ _ _ _).2.2.1 | exact (gf _ _ _ _).2.2.2 | exact zF _ _ _ | exact Dn _ _ _ | exact Dp _ _ _ | exact Nat.le_of_ble_eq_true rfl)
variable {P:Program}{w:World}{K:PySem.W.Frag}{mg:Str->Option Value}{base:Heap}{CN CS CR:Addr}
abbrev cg:Stmt:=vA 12 4
theorem ud:bU ["self"] ["self"] (aa cg):=⟨rfl,rfl,rfl,by decide +kernel,rfl,by decide +kernel,by decide +kernel⟩
theorem bW:aJ (aa cg) "self":=by decide +kernel
theorem jH:(aa cg).names.lookup ("list":Str)=some NameKind.globalImplicit:=by decide +kernel
theorem oR:("list":Str)≠"__name__":=by decide +kernel
theorem oU:(("list":Str)==("__debug__":Str))=false:=by decide +kernel
theorem ue {f g0:Addr}{fd gd0:FuncData} (cX:fU K CS "new_record" "Settling.new_record" cg ["self"] f fd)
 (aY:fU K CS "was_reckoned" "Settling.was_reckoned" bD ["self"] g0 gd0) (iT:bF P w K mg base CX0 1 g0 gd0 ["self"] (Ru CS))
 (T:Blt mg) (sc:SeC K CS) (rcC:RkC K CR):bF P w K mg base CX0 2 f fd ["self"] (Q0 CS CR):=by
 refine cX.F.okQ ud (fun vs H Q E h=> ?_) (fun cdv A0 outer s H vs Q E hr h=> ?_)
 ·obtain⟨A,kr,n,rm,y,r,kn,rfl,_⟩:=h
  rfl
 obtain⟨A,kr,n,rm,y,r,kn,rfl,e,rD,n17,se,q⟩:=h
 have iR:=sc.cl
 have nR:=sc.nR
 have nF:=sc.nF
 have nP:=sc.nP
 have nK:=sc.nK
 have lJ:=rcC.cl
 have nFo:=rcC.nF
 have nRe:=rcC.nR
 refine⟨_,(aA (dh (tM (vf (ao 0 bW) iR aY.m (iT.mono (by omega)) hr aY.b .nil bO)) (aH (bH (fQ (GZ (bI (ao 0 bW)) (wN (Zm rfl (bI (bI (ao 0 bW))) jH T.Dh) (jC (aM d8 (bI (bI (ao 0 bW))) aB) aC)))))) cH)
  (aH (bH (fQ (GZ (bI (ao 0 bW)) (wN (mQ Kw jH T.Dh zm (jC (aM aK (aM d8 (bI (ao 0 bW)) aB) aB) aC) oR oU) (jC (aM aK (aM d8 (bI (ao 0 bW)) aB) aB) aC))))))), ?_⟩
 rcases se with⟨rb,ps,v,efl,hval,hrm,hall⟩ | ⟨efl,nof,c,v,rc1,hfo,got,rows⟩
 ·obtain⟨bb,hbb,br,l,as,f1,R1,el,hRs,_⟩:=rD.v y _ hrm
  rw[hval] at hbb
  cases hbb
  have f1:H rb=some (.tup [.ref br, .ref l, .int v]):=f1
  have hRs:jG H as ps:=hRs
  obtain⟨got,k0,hk0,ek0,rk0⟩:=rD.ok y r ps v hrm
  have hpl:ps.length<=k0:=MT got.c rk0.i
  have a0:atI [V.ref rb] 0=some (.ref rb):=rfl
  have a1:atI [V.ref br, .ref l, .int v] 1=some (.ref l):=rfl
  have a2:atI [V.ref br, .ref l, .int v] 2=some (.int v):=rfl
  walk_at "vs"
  intro l' hl'
  have s1:=aG (.lst (as.map V.ref)) hl'
  have el1:upd H l' (.lst (as.map V.ref)) l'=some (.lst (as.map V.ref)):=aq
  have e1:=s1 _ _ e
  have EY:=s1 _ _ efl
  have f11:=s1 _ _ f1
  generalize upd H l' (.lst (as.map V.ref))=H1 at *
  walk_at "vs"
  intro rb' hrb'
  have s2:=aG (.tup [.ref A.b, .ref l', .int v]) hrb'
  exact q rb' l' as ps v false _ (s1.trans s2) aq hl' (s2 _ _ el1) (hRs.same (s1.trans s2)) ⟨got,⟨hall,(wI got.c).2⟩,hrm⟩ ⟨_,s2 _ _ EY,rfl⟩
 ·have e1:=rc1.e
  have e2:=rc1.e2
  rw[hfo] at e2
  have e3:=rc1.e3
  have a0:atI [V.int v] 0=some (.int v):=rfl
  walk_at "vs"
  intro l' as H1 s1 hl' el1 hal hit
  have e1':=s1 _ _ e1
  have e2':H1 A.a2=some (.lst [.int v]):=s1 _ _ e2
  have eS:=s1 _ _ e
  have EY:=s1 _ _ efl
  walk_at "vs"
  intro rb' hrb'
  have s2:=aG (.tup [.ref A.b, .ref l', .int v]) hrb'
  have hR:jG H1 as c.rds:=Jp (by rw[hal];unfold rdK;rw[List.length_map]) fun j b p h1 h2=>by
   have h3:(rdK c.rds)[j]? =some (.inr p.1, .int p.2):=by unfold rdK;rw[List.getElem?_map,h2];rfl
   exact hit j b _ h1 h3
  exact q rb' l' as c.rds v true _ (s1.trans s2) aq hl' (s2 _ _ el1) (hR.same s2) ⟨got,rows,nof⟩ ⟨_,s2 _ _ EY,rfl⟩
end
section
local macro_rules | `(tactic| walk_at "side") => `(tactic| first | exact vq _ _ _ _ _ _ | exact pH _ _ _ _ _ _ | exact DP _ _ _ _ _ _ | exact vz _ _ _ _ _ _ | exact pK _ _ _ _ _ _ | exact m6 _ _ _ _ _ _ | exact (gh _ _ _ _ _ _).1 | exact (gh _ _ _ _ _ _).2.1 | exact (gh _ _ _ _ _ _).2.2.1 | exact (gh _ _ _ _ _ _).2.2.2.1 | exact (gh _ _ _ _ _ _).2.2.2.2 | exact (Aw _).1 | exact (Aw _).2 | exact (gf _ _ _ _).1 | exact (gf _ _ _ _).2.2.1 | exact (gf _ _ _ _).2.2.2 | exact Nat.le_of_ble_eq_true rfl)
variable {P:Program}{w:World}{K:PySem.W.Frag}{mg:Str->Option Value}{base:Heap}{CSe CN CS CR:Addr}
abbrev cN:Stmt:=vA 13 0
theorem yx:bU ["self","house","old"] ["self","house","old"] (aa cN):=⟨rfl,rfl,rfl,by decide +kernel,rfl,by decide +kernel,by decide +kernel⟩
theorem dm:aJ (aa cN) "self":=by decide +kernel
theorem lF:aJ (aa cN) "house":=by decide +kernel
theorem uf:aJ (aa cN) "old":=by decide +kernel
theorem yz {f:Addr}{fd:FuncData} (fZ:fU K CSe "__init__" "Search.__init__" cN ["self","house","old"] f fd) (sc:SrC K CSe):bF P w K mg base CX0 1 f fd ["self","house","old"] (Jr CSe):=by
 refine fZ.F.okQ yx (fun vs H Q E h=> ?_) (fun cdv A outer s H vs Q E hr h=> ?_)
 ·obtain⟨a,dx,h,g,c,o,rfl,_⟩:=h
  rfl
 obtain⟨a,dx,h,g,c,o,rfl,e,eh,q⟩:=h
 have j8:=sc.cl
 have nG:=sc.nG
 have nR:=sc.nR
 have nO:=sc.nO
 have nK:=sc.nK
 have nS:=sc.nS
 have nM:=sc.nM
 refine⟨_,(aA (kO (ao 0 dm) (aM aK (ao 1 lF) aB))
  (aA (kO (ao 0 dm) (aM aK (ao 1 lF) aB))
  (aA (kO (ao 0 dm) (ao 2 uf))
  (aA (kO (ao 0 dm) lX)
  (aA (kO (ao 0 dm) lX)
  (aH (kO (ao 0 dm) lX))))))), ?_⟩
 have nha:h≠a:=fun z=>by rw[z,e] at eh;cases eh
 have a0:atI [V.ref g, .ref c] 0=some (.ref g):=rfl
 have a1:atI [V.ref g, .ref c] 1=some (.ref c):=rfl
 walk_at "vs"
 rw[tD,tD]
 have b1:But [a] H (upd H a (.ins CSe dx (aW "old" (.ref o) (aW "recipes" (.ref c) (aW "given" (.ref g) []))))):=But.set _ (by simp)
 have e1:upd H a (.ins CSe dx (aW "old" (.ref o) (aW "recipes" (.ref c) (aW "given" (.ref g) [])))) a=some (.ins CSe dx (aW "old" (.ref o) (aW "recipes" (.ref c) (aW "given" (.ref g) [])))):=aq
 have n1:∀{z},upd H a (.ins CSe dx (aW "old" (.ref o) (aW "recipes" (.ref c) (aW "given" (.ref g) [])))) z=none->H z=none:=fun z=>(fV z).2
 generalize upd H a (.ins CSe dx (aW "old" (.ref o) (aW "recipes" (.ref c) (aW "given" (.ref g) []))))=H1 at *
 walk_at "vs"
 intro kd hkd
 have s2:=aG (.dK []) hkd
 have ek2:upd H1 kd (.dK []) kd=some (.dK []):=aq
 have e2:=s2 _ _ e1
 generalize upd H1 kd (.dK [])=H2 at *
 have nka:kd≠a:=fun z=>by rw[z,e2] at ek2;cases ek2
 walk_at "vs"
 have b3:But [a] H2 (upd H2 a (.ins CSe dx (aW "known" (.ref kd) (aW "old" (.ref o) (aW "recipes" (.ref c) (aW "given" (.ref g) [])))))):=But.set _ (by simp)
 have e3:upd H2 a (.ins CSe dx (aW "known" (.ref kd) (aW "old" (.ref o) (aW "recipes" (.ref c) (aW "given" (.ref g) []))))) a=some (.ins CSe dx (aW "known" (.ref kd) (aW "old" (.ref o) (aW "recipes" (.ref c) (aW "given" (.ref g) []))))):=aq
 have ek3:upd H2 a (.ins CSe dx (aW "known" (.ref kd) (aW "old" (.ref o) (aW "recipes" (.ref c) (aW "given" (.ref g) []))))) kd=some (.dK []):=(au nka).trans ek2
 have n3:∀{z},upd H2 a (.ins CSe dx (aW "known" (.ref kd) (aW "old" (.ref o) (aW "recipes" (.ref c) (aW "given" (.ref g) []))))) z=none->H2 z=none:=fun z=>(fV z).2
 generalize upd H2 a (.ins CSe dx (aW "known" (.ref kd) (aW "old" (.ref o) (aW "recipes" (.ref c) (aW "given" (.ref g) [])))))=H3 at *
 intro sd hsd
 have s4:=aG (.dK []) hsd
 have es4:upd H3 sd (.dK []) sd=some (.dK []):=aq
 have nks:kd≠sd:=fun z=>by rw[<-z,ek3] at hsd;cases hsd
 have ek4:=s4 _ _ ek3
 have e4:=s4 _ _ e3
 generalize upd H3 sd (.dK [])=H4 at *
 have nsa:sd≠a:=fun z=>by rw[z,e4] at es4;cases es4
 walk_at "vs"
 have b5:But [a] H4 (upd H4 a (.ins CSe dx (aW "settled" (.ref sd) (aW "known" (.ref kd) (aW "old" (.ref o) (aW "recipes" (.ref c) (aW "given" (.ref g) []))))))):=But.set _ (by simp)
 have e5:upd H4 a (.ins CSe dx (aW "settled" (.ref sd) (aW "known" (.ref kd) (aW "old" (.ref o) (aW "recipes" (.ref c) (aW "given" (.ref g) [])))))) a=some (.ins CSe dx (aW "settled" (.ref sd) (aW "known" (.ref kd) (aW "old" (.ref o) (aW "recipes" (.ref c) (aW "given" (.ref g) [])))))):=aq
 have ek5:upd H4 a (.ins CSe dx (aW "settled" (.ref sd) (aW "known" (.ref kd) (aW "old" (.ref o) (aW "recipes" (.ref c) (aW "given" (.ref g) [])))))) kd=some (.dK []):=(au nka).trans ek4
 have es5:upd H4 a (.ins CSe dx (aW "settled" (.ref sd) (aW "known" (.ref kd) (aW "old" (.ref o) (aW "recipes" (.ref c) (aW "given" (.ref g) [])))))) sd=some (.dK []):=(au nsa).trans es4
 have n5:∀{z},upd H4 a (.ins CSe dx (aW "settled" (.ref sd) (aW "known" (.ref kd) (aW "old" (.ref o) (aW "recipes" (.ref c) (aW "given" (.ref g) [])))))) z=none->H4 z=none:=fun z=>(fV z).2
 generalize upd H4 a (.ins CSe dx (aW "settled" (.ref sd) (aW "known" (.ref kd) (aW "old" (.ref o) (aW "recipes" (.ref c) (aW "given" (.ref g) []))))))=H5 at *
 intro rd hrd
 have s6:=aG (.dK []) hrd
 have er6:upd H5 rd (.dK []) rd=some (.dK []):=aq
 have nkr:kd≠rd:=fun z=>by rw[<-z,ek5] at hrd;cases hrd
 have nsr:sd≠rd:=fun z=>by rw[<-z,es5] at hrd;cases hrd
 have ek6:=s6 _ _ ek5
 have es6:=s6 _ _ es5
 have e6:=s6 _ _ e5
 generalize upd H5 rd (.dK [])=H6 at *
 have nra:rd≠a:=fun z=>by rw[z,e6] at er6;cases er6
 walk_at "vs"
 have hk0:H kd=none:=n1 hkd
 have hs0:H sd=none:=n1 (same_none s2 (n3 hsd))
 have hr0:H rd=none:=n1 (same_none s2 (n3 (same_none s4 (n5 hrd))))
 exact q kd sd rd _ ((b1.trans (But.of_same s2)).trans (b3.trans ((But.of_same s4).trans (b5.trans ((But.of_same s6).trans (But.set _ (by simp))))))) aq hk0 hs0 hr0 nks nkr nsr ((au nka).trans ek6) ((au nsa).trans es6) ((au nra).trans er6)
abbrev cU:Stmt:=vA 13 1
theorem uB:bU ["self","name","r"] ["self","name"] (aa cU):=⟨rfl,rfl,rfl,by decide +kernel,rfl,by decide +kernel,by decide +kernel⟩
theorem jR:aJ (aa cU) "name":=by decide +kernel
theorem jT:aJ (aa cU) "self":=by decide +kernel
theorem zN:Loc (aa cU) "r":=by decide +kernel
theorem qT:(aa cU).names.lookup ("Settling":Str)=some NameKind.globalImplicit:=by decide +kernel
theorem qu:aJ (aa cU) "r":=by decide +kernel
theorem qU:(("Settling":Str)==("__debug__":Str))=false:=by decide +kernel
theorem BW {f g0 g1:Addr}{fd gd0 gd1:FuncData} (gR:fU K CSe "begin" "Search.begin" cU ["self","name"] f fd)
 (bZ:fU K CN "records_for" "NamedRecords.records_for" aR ["self","name","r"] g0 gd0) (pN:bF P w K mg base CX0 13 g0 gd0 ["self","name","r"] (QX CN))
 (fj:fU K CS "__init__" "Settling.__init__" bT ["self","r","records"] g1 gd1) (wV:bF P w K mg base CX0 3 g1 gd1 ["self","r","records"] (Jl CS CR))
 (yC:Mk K CS g1) (yD:mg "Settling"=some (.ref CS)) (T:Blt mg) (sc:SrC K CSe) (nc:NrC K CN):bF P w K mg base CX0 14 f fd ["self","name"] (M8 CSe CN CS CR):=by
 refine gR.F.okQ uB (fun vs H Q E h=> ?_) (fun cdv A0 outer s H vs Q E hr h=> ?_)
 ·obtain⟨D,n,gv,rc,kg,kc,kr,rm,y,r,rfl,_⟩:=h
  rfl
 obtain⟨D,n,gv,rc,kg,kc,kr,rm,y,r,rfl,sh,hrc,q⟩:=h
 have j8:=sc.cl
 have nR:=sc.nR
 have nO:=sc.nO
 have lC:=nc.cl
 have e:=sh.e
 have ec:=sh.ec
 have eo:=sh.eo
 have er:=sh.er
 have rD:=sh.rD
 obtain⟨br,hbr,hR⟩:=sh.bd.r y r hrc
 obtain⟨k0,hk0,ek0,rk0⟩:=sh.bd.ok.rk y r hrc
 have hg:=rk0.g
 have hd8:r.depth<=8:=by have:=rk0.d;omega
 have hw:wR r<=4000:=by
  have:=DK r 4 rk0.d
  have:(3:Nat)^ 4=81:=by decide
  omega
 have dc:bN H D.c (.str y) (some (.ref br)):=by rw[<-hbr];exact bN.k (k:= .inr y) ec
 refine⟨_,(aA (dh (rJ (cA hr) (ao 1 jR) (bI (ao 0 jT))) (aH Ja) cH)
  (aA (bV (i:=2) uB.nd rfl zN (cR (cA hr) (bI (ao 0 jT)) (ao 1 jR)))
  (aH (bH (zE yC (wV.mono (by omega)) hr qT yD fj.b .nil bO (aV (ao 2 qu) (wN (oH (bI (ao 0 jT)) lC bZ.m (pN.mono (by omega)) hr bZ.b .nil bO (aV (ao 1 jR) (aV (ao 2 qu) aC))) aC)) qU))))), ?_⟩
 walk_at "vs"
 intro fl H1 s1 hfl fit
 have hR1:=hR.same s1
 walk_at "vs"
 intro a dx ha hdx hne
 have haH:(upd H1 dx (.own a)) a=none:=(au (Ne.symm hne)).trans ha
 have S1:=(aG (.own a) hdx).trans (aG (.ins CS dx []) haH)
 refine⟨a,dx,br,fl,r,rfl,aq,hR1.same S1,hw,fun A H2 b2 eA eb efl ek e2 rc2 hfr=>⟨rfl, ?_⟩⟩
 have S2:aN H1 H2:=gn S1 (fun p hp=>by
  have:p=a:=by simpa using hp
  rw[this];exact ha) b2
 have Ov:∀z∈[A.rk,A.a1,A.a2,A.a3],H1 z=none:=fun z hz=>same_none S1 (hfr z hz)
 have acf:H1 fl≠none:=fun z=>by
  rcases fit kn0 with⟨rb,ps,v,w1,_⟩ | ⟨w1,_⟩
  ·rw[z] at w1;cases w1
  ·rw[z] at w1;cases w1
 rw[<-eA]
 refine q A H2 (s1.trans S2) (fun z hz=> ?_) (fun kn=>⟨?_, ?_,⟨_,rc2,⟨0, .zero⟩⟩, ?_,fun z=> ?_,fun z=> ?_,fun z=> ?_⟩)
 ·have hz:z=A.s\/z=A.fl\/z=A.rk\/z=A.a1\/z=A.a2\/z=A.a3:=by simpa [SeD.ft] using hz
  rcases hz with w | w | w | w | w | w
  ·rw[w,eA];exact same_none s1 ha
  ·rw[w,efl];exact hfl
  ·exact same_none s1 (Ov z (by simp[w]))
  ·exact same_none s1 (Ov z (by simp[w]))
  ·exact same_none s1 (Ov z (by simp[w]))
  ·exact same_none s1 (Ov z (by simp[w]))
 ·rw[eA,eb,efl,ek];exact e2
 ·rw[eb];exact hR1.same S2
 ·rw[efl,ek];exact(fit kn).at fun o e=>S2 _ _ e
 ·have:=hfr A.rk (by simp)
  rw[<-z,eA,aq] at this;cases this
 ·exact acf (by rw[<-efl,z];exact Ov _ (by simp))
 ·exact acf (by rw[<-efl,z];exact Ov _ (by simp))
end
section
local macro_rules | `(tactic| walk_at "side") => `(tactic| first | exact vq _ _ _ _ _ _ | exact pH _ _ _ _ _ _ | exact DP _ _ _ _ _ _ | exact vz _ _ _ _ _ _ | exact pK _ _ _ _ _ _ | exact m6 _ _ _ _ _ _ | exact (gh _ _ _ _ _ _).1 | exact (gh _ _ _ _ _ _).2.1 | exact (gh _ _ _ _ _ _).2.2.1 | exact (gh _ _ _ _ _ _).2.2.2.1 | exact (gh _ _ _ _ _ _).2.2.2.2 | exact (Aw _).1 | exact (Aw _).2 | exact (gf _ _ _ _).1 | exact (gf _ _ _ _).2.2.1 | exact (gf _ _ _ _).2.2.2 | exact Nat.le_of_ble_eq_true rfl)
variable {P:Program}{w:World}{K:PySem.W.Frag}{mg:Str->Option Value}{base:Heap}{CSe CN CS CR:Addr}
abbrev dX:Stmt:=vA 13 2
theorem xU:bU ["self","name","settling","record"] ["self","name","settling"] (aa dX):=⟨rfl,rfl,rfl,by decide +kernel,rfl,by decide +kernel,by decide +kernel⟩
theorem vV:Loc (aa dX) "record":=by decide +kernel
theorem mz:aJ (aa dX) "settling":=by decide +kernel
theorem jj:aJ (aa dX) "self":=by decide +kernel
theorem lK:aJ (aa dX) "name":=by decide +kernel
theorem jU:aJ (aa dX) "record":=by decide +kernel
theorem Fb {f g0 g1 g2:Addr}{fd gd0 gd1 gd2:FuncData} (jk:fU K CSe "end" "Search.end" dX ["self","name","settling"] f fd)
 (cX:fU K CS "new_record" "Settling.new_record" cg ["self"] g0 gd0) (uH:bF P w K mg base CX0 2 g0 gd0 ["self"] (Q0 CS CR))
 (aY:fU K CS "was_reckoned" "Settling.was_reckoned" bD ["self"] g1 gd1) (iT:bF P w K mg base CX0 1 g1 gd1 ["self"] (Ru CS))
 (cM:fU K CN "put_made" "NamedRecords.put_made" cL ["self","record"] g2 gd2) (sE:bF P w K mg base CX0 1 g2 gd2 ["self","record"] WR)
 (T:Blt mg) (sr:SrC K CSe) (sc:SeC K CS) (nc:NrC K CN):bF P w K mg base CX0 3 f fd ["self","name","settling"] (Q5 CSe CN CS CR):=by
 refine jk.F.okQ xU (fun vs H Q E h=> ?_) (fun cdv A0 outer s H vs Q E hr h=> ?_)
 ·obtain⟨D,n,gv,rc,kg,kc,kr,rm,kn,rmN,rkn,Hf,A,y,r,rfl,_⟩:=h
  rfl
 obtain⟨D,n,gv,rc,kg,kc,kr,rm,kn,rmN,rkn,Hf,A,y,r,rfl,sh,so,e,hR,se,hkn,hgv,hrc,hy,hft,q⟩:=h
 have j8:=sr.cl
 have nK:=sr.nK
 have nS:=sr.nS
 have nM:=sr.nM
 have nO:=sr.nO
 have iR:=sc.cl
 have lC:=nc.cl
 obtain⟨e0,_,_,_,eo0,_,rD0,n17,nks,nkr,nsr⟩:=sh.same so.sm
 refine⟨_,(aA (bV (i:=3) xU.nd rfl vV (vf (ao 2 mz) iR cX.m (uH.mono (by omega)) hr cX.b .nil bO))
  (aA (j0 (cA hr) (bI (ao 0 jj)) (ao 1 lK) (aM aK (ao 3 jU) aB))
  (aA (j0 (cA hr) (bI (ao 0 jj)) (ao 1 lK) (ao 3 jU))
  (aH (dh (tM (vf (ao 2 mz) iR aY.m (iT.mono (by omega)) hr aY.b .nil bO)) (aA (j0 (cA hr) (bI (ao 0 jj)) (ao 1 lK) xP)
  (aH (gA (oH (bI (ao 0 jj)) lC cM.m (sE.mono (by omega)) hr cM.b .nil bO (aV (ao 3 jU) aC))))) cH))))), ?_⟩
 walk_at "vs"
 intro rb l as ps v made H1 s1 erb hl el hRs rcd ⟨xs,efl,exs⟩
 obtain⟨kw,ws,ek,kk1,hkw⟩:=so.ek
 obtain⟨ks,es,rDs⟩:=so.es
 obtain⟨kk,rs,er,kk3,hkk,hrn⟩:=so.er
 have hkl:kw.length<=n:=so.kl kk1 hkw
 have hsl:ks.length<=n:=rDs.len
 have hrm:rmN y=none:=by
  cases z:rmN y with
  | none=>rfl
  | some q'=>
    obtain⟨r1,ps1,v1⟩:=q'
    have:=(so.ok.b y r1 ps1 v1 z).2.2.1
    rw[hkn] at this;cases this
 have hry:rkn y=false:=by
  cases z:rkn y with
  | false=>rfl
  | true=>exact absurd hrm (hrn y z)
 have hrl:kk.length<=n:=by
  rw[kk3.len,<-lZ n]
  refine iz kk3.nd fun x hx=> ?_
  cases z:rmN x with
  | none=>
    have:rkn x=false:=by
     cases w:rkn x with
     | false=>rfl
     | true=>exact absurd z (hrn x w)
    exact absurd hx (kk3.none.mp (by rw[hkk,this];rfl))
  | some q'=>
    obtain⟨r1,ps1,v1⟩:=q'
    exact(so.ok.a x v1 (so.ok.b x r1 ps1 v1 z).2.2.1).1
 have e1:=s1 _ _ e
 have e01:=s1 _ _ e0
 have ek1:=s1 _ _ ek
 have es1:=s1 _ _ es
 have er1:=s1 _ _ er
 have eo1:=s1 _ _ eo0
 have a2:atI [V.ref A.b, .ref l, .int v] 2=some (.int v):=rfl
 obtain⟨H2,eH2⟩:∃H2,H2=upd H1 D.kd (.dK (putK kw (.inr y) (.int v))):=⟨_,rfl⟩
 have dp1:lQ H1 D.kd (.str y) (.int v) H2:=by rw[eH2];exact lQ.k (k:= .inr y) ek1 (cB (by omega))
 have k2:∀{z:Addr}{o:HO},z≠D.kd->H1 z=some o->H2 z=some o:=fun h h'=>by rw[eH2];exact(au h).trans h'
 have j2:∀{z:Addr}{o:HO},H1 z=some o->(∀ks',o≠ .dK ks')->H2 z=some o:=fun{z o} h1 h2=>k2 (fun w=>by rw[w,ek1] at h1;cases h1;exact h2 _ rfl) h1
 have ek2:H2 D.kd=some (.dK (putK kw (.inr y) (.int v))):=by rw[eH2];exact aq
 have es2:=k2 (Ne.symm nks) es1
 have er2:=k2 (Ne.symm nkr) er1
 have b2:But [D.kd,D.sd,D.rd] H1 H2:=by rw[eH2];exact But.set _ (by simp)
 have e02:=j2 e01 (by simp)
 have e2:=j2 e1 (by simp)
 have eo2:=j2 eo1 (by simp)
 have Ou:=j2 efl (by simp)
 have aip:=j2 erb (by simp)
 clear eH2
 obtain⟨H3,eH3⟩:∃H3,H3=upd H2 D.sd (.dK (putK ks (.inr y) (.ref rb))):=⟨_,rfl⟩
 have dp2:lQ H2 D.sd (.str y) (.ref rb) H3:=by rw[eH3];exact lQ.k (k:= .inr y) es2 (cB (by omega))
 have k3:∀{z:Addr}{o:HO},z≠D.sd->H2 z=some o->H3 z=some o:=fun h h'=>by rw[eH3];exact(au h).trans h'
 have j3:∀{z:Addr}{o:HO},H2 z=some o->(∀ks',o≠ .dK ks')->H3 z=some o:=fun{z o} h1 h2=>k3 (fun w=>by rw[w,es2] at h1;cases h1;exact h2 _ rfl) h1
 have es3:H3 D.sd=some (.dK (putK ks (.inr y) (.ref rb))):=by rw[eH3];exact aq
 have ek3:=k3 nks ek2
 have er3:=k3 (Ne.symm nsr) er2
 have b3:But [D.kd,D.sd,D.rd] H2 H3:=by rw[eH3];exact But.set _ (by simp)
 have e03:=j3 e02 (by simp)
 have e3:=j3 e2 (by simp)
 have eo3:=j3 eo2 (by simp)
 have aiq:=j3 Ou (by simp)
 have B3:But [D.kd,D.sd,D.rd] H H3:=(But.of_same s1).trans (b2.trans b3)
 clear eH3
 have gs:=U3 so.sm s1
 have gi:=U4 so.sm s1
 have gt:lq H1 (grow Hf H H1):=Ol
 have gk:=Cu (Hf:=Hf) s1 ⟨_,ek,by simp⟩ so.fk
 have gss:=Cu (Hf:=Hf) s1 ⟨_,es,by simp⟩ so.fs
 have gr:=Cu (Hf:=Hf) s1 ⟨_,er,by simp⟩ so.fr
 have gl:grow Hf H H1 l=some (.lst (as.map V.ref)):=(Q4 hl).trans el
 have ra:wO [] (grow Hf H H1) rb (r,ps,v):=⟨A.b,l,as,gt _ _ erb,(hR.same s1).tups gt,gl,hRs.tups gt,by simp⟩
 have hgot:=rcd.1
 have hrows:=rcd.2.1
 obtain⟨k0,hk0,ek0,rk0⟩:=sh.bd.ok.rk y r hrc
 have rD':=(rDs.map (H':=grow Hf H H1) fun _ _ z=>z.same gs).put hy ra ⟨hgot,k0,hk0,ek0,rk0⟩
 have ok':=so.ok.uE hy hkn hgv hrc hgot hrows
 have lek:Kn.Le kn (kn.put y v):=Kn.pF hkn
 have md':∀x r1 ps1 v1,(rmN.put y (r,ps,v)) x=some (r1,ps1,v1)->Rcd rm x r1 (kn.put y v) ps1 v1 (if x=y then made else rkn x):=fun x r1 ps1 v1 h=>by
  unfold Rm.put at h
  by_cases z:x=y
  ·rw[if_pos z] at h ⊢
   cases h
   rw[z];exact rcd.le lek
  ·rw[if_neg z] at h ⊢
   exact(so.md x r1 ps1 v1 h).le lek
 have hyw:y∉ws:=kk1.none.mp (by rw[hkw,hkn];rfl)
 have hyr:y∉rs:=kk3.none.mp (by rw[hkk,hry];rfl)
 have acg:∀{H'},But [D.kd,D.sd,D.rd] H1 H'->aN (grow Hf H H1) H':=fun b z o h=>b z o (fun w=>by
  have w:z=D.kd\/z=D.sd\/z=D.rd:=by simpa using w
  rcases w with w | w | w
  ·rw[w,gk] at h;cases h
  ·rw[w,gss] at h;cases h
  ·rw[w,gr] at h;cases h) (gi z o h)
 have fin:∀H' kk' rs',But [D.kd,D.sd,D.rd] H1 H'->H' D.kd=some (.dK (putK kw (.inr y) (.int v)))->H' D.sd=some (.dK (putK ks (.inr y) (.ref rb)))->H' D.rd=some (.dK kk')->jM kk' rs'->(∀x,cP kk' (.inr x)=if(if x=y then made else rkn x)=true then some (.bl true) else none)->Q .non H':=fun H' kk' rs' bb h1 h2 h3 h4 h5=>by
  refine q v ps made (grow Hf H H1) H' ((But.of_same s1).trans bb) gs (fun z m hz=>Cu s1 m hz) ⟨acg bb,gk,gss,gr,⟨_,_,h1,kk1.vm hyw _,Cr hkw y v⟩,⟨_,h2,rD'⟩,⟨_,_,h3,h4,h5,fun x hx=> ?_⟩,ok',md'⟩
  unfold Rm.put
  by_cases z:x=y
  ·rw[if_pos z];simp
  ·rw[if_neg z] at hx ⊢;exact hrn x hx
 cases hm:made with
 | false=>
   rw[hm] at exs
   have hxs:decide (xs.length=0)=false:=exs
   walk_at "vs"
   rw[hxs]
   walk_at "vs"
   refine fin H3 kk rs (b2.trans b3) ek3 es3 er3 kk3 fun x=> ?_
   rw[hkk,hm]
   by_cases z:x=y
   ·rw[if_pos z,z,hry]
   ·rw[if_neg z]
 | true=>
   rw[hm] at exs
   have hxs:decide (xs.length=0)=true:=exs
   obtain⟨H4,eH4⟩:∃H4,H4=upd H3 D.rd (.dK (putK kk (.inr y) (.bl true))):=⟨_,rfl⟩
   have dp3:lQ H3 D.rd (.str y) (.bl true) H4:=by rw[eH4];exact lQ.k (k:= .inr y) er3 (cB (by omega))
   have k4:∀{z:Addr}{o:HO},z≠D.rd->H3 z=some o->H4 z=some o:=fun h h'=>by rw[eH4];exact(au h).trans h'
   have j4:∀{z:Addr}{o:HO},H3 z=some o->(∀ks',o≠ .dK ks')->H4 z=some o:=fun{z o} h1 h2=>k4 (fun w=>by rw[w,er3] at h1;cases h1;exact h2 _ rfl) h1
   have er4:H4 D.rd=some (.dK (putK kk (.inr y) (.bl true))):=by rw[eH4];exact aq
   have ek4:=k4 nkr ek3
   have es4:=k4 nsr es3
   have b4:But [D.kd,D.sd,D.rd] H3 H4:=by rw[eH4];exact But.set _ (by simp)
   have e04:=j4 e03 (by simp)
   have eo4:=j4 eo3 (by simp)
   clear eH4
   walk_at "vs"
   rw[hxs]
   walk_at "vs"
   refine⟨⟨_,_,rfl⟩, ?_⟩
   refine fin H4 _ _ (b2.trans (b3.trans b4)) ek4 es4 er4 (kk3.vm hyr _) fun x=> ?_
   rw[lU,hm]
   by_cases z:x=y
   ·rw[if_pos (by rw[z]),if_pos z];rfl
   ·rw[if_neg (Av z),if_neg z];exact hkk x
end
section
local macro_rules | `(tactic| walk_at "side") => `(tactic| first | exact vq _ _ _ _ _ _ | exact pH _ _ _ _ _ _ | exact DP _ _ _ _ _ _ | exact vz _ _ _ _ _ _ | exact pK _ _ _ _ _ _ | exact m6 _ _ _ _ _ _ | exact (gh _ _ _ _ _ _).1 | exact (gh _ _ _ _ _ _).2.1 | exact (gh _ _ _ _ _ _).2.2.1 | exact (gh _ _ _ _ _ _).2.2.2.1 | exact (gh _ _ _ _ _ _).2.2.2.2 | exact (Aw _).1 | exact (Aw _).2 | exact (gf _ _ _ _).1 | exact (gf _ _ _ _).2.2.1 | exact (gf _ _ _ _).2.2.2 | exact Nat.le_of_ble_eq_true rfl)
variable {P:Program}{w:World}{K:PySem.W.Frag}{mg:Str->Option Value}{base:Heap}{CSe CN CS CR:Addr}
abbrev bA:Stmt:=vA 13 5
theorem iU:bU ["self","name","path","begun","last","other"] ["self","name"] (aa bA):=⟨rfl,rfl,rfl,by decide +kernel,rfl,by decide +kernel,by decide +kernel⟩
theorem uI:Loc (aa bA) "path":=by decide +kernel
theorem uJ:aJ (aa bA) "name":=by decide +kernel
theorem ug:Loc (aa bA) "begun":=by decide +kernel
theorem fB:aJ (aa bA) "path":=by decide +kernel
theorem uK:Loc (aa bA) "last":=by decide +kernel
theorem bM:aJ (aa bA) "last":=by decide +kernel
theorem cY:aJ (aa bA) "self":=by decide +kernel
theorem gC:aJ (aa bA) "begun":=by decide +kernel
theorem uh:Loc (aa bA) "other":=by decide +kernel
theorem jl:aJ (aa bA) "other":=by decide +kernel
theorem Ax {f g0 g1 g2:Addr}{fd gd0 gd1 gd2:FuncData} (gm:fU K CSe "settle" "Search.settle" bA ["self","name"] f fd)
 (gR:fU K CSe "begin" "Search.begin" cU ["self","name"] g0 gd0) (Eb:bF P w K mg base CX0 14 g0 gd0 ["self","name"] (M8 CSe CN CS CR))
 (dZ:fU K CS "lacking" "Settling.lacking" bw ["self","known"] g1 gd1) (yE:bF P w K mg base CX0 4 g1 gd1 ["self","known"] (Jm CS CR))
 (jk:fU K CSe "end" "Search.end" dX ["self","name","settling"] g2 gd2) (Hj:bF P w K mg base CX0 3 g2 gd2 ["self","name","settling"] (Q5 CSe CN CS CR))
 (T:Blt mg) (sr:SrC K CSe) (sc:SeC K CS):bF P w K mg base CX0 15 f fd ["self","name"] (Js CSe CN):=by
 refine gm.F.okQ iU (fun vs H Q E h=> ?_) (fun cdv A0 outer s H vs Q E hr h=> ?_)
 ·obtain⟨D,n,gv,rc,kg,kc,kr,rm,kn,rmN,rkn,Hf,x,rfl,_⟩:=h
  rfl
 obtain⟨D,n,gv,rc,kg,kc,kr,rm,knI,ach,aci,HfI,x,rfl,shI,soI,hx,q⟩:=h
 obtain⟨k0,hk0,ex⟩:=ji.mp hx
 have j8:=sr.cl
 have nG:=sr.nG
 have nK:=sr.nK
 have iR:=sc.cl
 have n17:=shI.n17
 have e0:=soI.sm _ _ shI.e
 refine⟨_,(aA (bV (i:=2) iU.nd rfl uI (gK (aV (ao 1 uJ) aC)))
  (aA (bV (i:=3) iU.nd rfl ug lX)
  (aH (zx PassesOwn.never (CZ (ao 2 fB)) (aA (bV (i:=4) iU.nd rfl uK (aM d8 (ao 2 fB) (Ij zy aB)))
  (aA (dh (vh (cA hr) (ao 4 bM) (bI (ao 0 cY))) (aH (j0 (cA hr) (bI (ao 0 cY)) (ao 4 bM) (cR (cA hr) (bI (ao 0 cY)) (ao 4 bM)))) cH)
  (aA (dh (vh (cA hr) (ao 4 bM) (bI (ao 0 cY))) (aA (gA (Ak PySem.F.plainAttrs_list PySem.F.slot_list_pop PySem.F.type_list_pop wG (ao 2 fB)))
  (aH Il)) cH)
  (aA (dh (rJ (cA hr) (ao 4 bM) (ao 3 gC)) (aH (j0 (cA hr) (ao 3 gC) (ao 4 bM) (oH (ao 0 cY) j8 gR.m (Eb.mono (by omega)) hr gR.b .nil bO (aV (ao 4 bM) aC)))) cH)
  (aA (bV (i:=5) iU.nd rfl uh (oH (cR (cA hr) (ao 3 gC) (ao 4 bM)) iR dZ.m (yE.mono (by omega)) hr dZ.b .nil bO (GZ (bI (ao 0 cY)) aC)))
  (aH (dh (cD Ua (ao 5 jl) Ks (bz _)) (aH (gA (oH (ao 0 cY) j8 jk.m (Hj.mono (by omega)) hr jk.b .nil bO (aV (ao 4 bM) (jC (cR (cA hr) (ao 3 gC) (ao 4 bM)) aC))))) (aH (dh (cD Df (ao 5 jl) (ao 2 fB) rfl) (aH Ja) (aH (gA (rG PySem.F.plainAttrs_list PySem.F.slot_list_append PySem.F.type_list_append iH (ao 2 fB) (aV (ao 5 jl) aC))))))))))))))))), ?_⟩
 walk_at "vs"
 intro pth hpth
 have s1:=aG (.lst [.str x]) hpth
 have ep1:upd H pth (.lst [.str x]) pth=some (.lst [.str x]):=aq
 have so1:=soI.same s1
 generalize upd H pth (.lst [.str x])=H1 at *
 walk_at "vs"
 intro bgd hbgd
 have s2:=aG (.dK []) hbgd
 have eb2:upd H1 bgd (.dK []) bgd=some (.dK []):=aq
 have so2:=so1.same s2
 have ep2:=s2 _ _ ep1
 have S2:=s1.trans s2
 have nn:pth≠bgd:=fun z=>by rw[<-z,ep1] at hbgd;cases hbgd
 have fI:∀{z:Addr},H z=none->HfI z=none:=fun{z} h=>by
  cases q':HfI z with
  | none=>rfl
  | some o=>have:=soI.sm _ _ q';rw[h] at this;cases this
 have hb0:=same_none s1 hbgd
 have alI:∀z∈[D.kd,D.sd,D.rd],H z≠none:=fun z hz=>by
  obtain⟨kw,ws,e2,_⟩:=soI.ek
  obtain⟨ks',e3,_⟩:=soI.es
  obtain⟨kk,rs,e4,_⟩:=soI.er
  have hz:z=D.kd\/z=D.sd\/z=D.rd:=by simpa using hz
  rcases hz with rfl | rfl | rfl
  ·rw[e2];simp
  ·rw[e3];simp
  ·rw[e4];simp
 generalize upd H1 bgd (.dK [])=H2 at *
 have lp0:LpI CSe CN CS CR D pth bgd n gv rc kg kc kr rm knI HfI H x k0 [k0] knI ach aci (fun _=>none) HfI H2:=
  ⟨But.of_same S2,aN.refl _,fun _ _ z=>z,shI,so2,by rw[ex] at ep2;exact ep2,fI hpth,fI hb0,hpth,hb0,fun z=>alI _ z hpth,fun z=>alI _ z hb0,nn,by simp,by simpa using hk0,by simp,fun i hi=>by
    have:i=k0:=by simpa using hi
    rw[this,<-ex];exact .refl,Kn.Le.refl _,fun y hy=> .inl hy,⟨⟨[],[],eb2,⟨rfl,by simp⟩,fun y=>by rw[uZ];rfl⟩,fun y hy=>absurd rfl hy,fun y A hy=>(nomatch hy),fun y A hy=>(nomatch hy),fun y y' A A' _ hy=>(nomatch hy)⟩, .inl rfl,fun y A hy=>(nomatch hy)⟩
 refine⟨fun m σ H'=>∃(is:List Nat) (kn:Kn) (rmN:Rm) (rkn:Str->Bool) (bg:Str->Option SeD) (Hf:Hp) (t1 t2:Option V),σ=[some (.ref D.so),some (.str x),some (.ref pth),some (.ref bgd),t1,t2]/\LpI CSe CN CS CR D pth bgd n gv rc kg kc kr rm knI HfI H x k0 is kn rmN rkn bg Hf H'/\m=Bv n kn is,
  ⟨_,[k0],knI,ach,aci,fun _=>none,HfI,none,none,rfl,lp0,rfl⟩, ?_⟩
 rintro m σ H3 ⟨is,kn,rmN,rkn,bg,Hf,t1,t2,rfl,lp,rfl⟩
 have ep:=lp.ep
 have e3:=lp.so.sm _ _ lp.sh.e
 have hlen:=lp.len
 rcases List.eq_nil_or_concat is with hnil | ⟨js,i,his⟩
 ·subst hnil
  have ep:H3 pth=some (.lst []):=ep
  walk_at "vs"
  have hkx:kn x≠none:=by
   rcases lp.hd with z | ⟨_,z⟩
   ·cases z
   ·exact z
  exact q kn rmN rkn Hf H3 lp.b lp.sf lp.fm lp.so lp.le hkx lp.new
 ·rw[List.concat_eq_append] at his
  subst his
  have hi:i<n:=lp.lt i (by simp)
  have hne:((js++[i]).map fun i=>V.str (aD i)).isEmpty=false:=by simp
  have hla:atI ((js++[i]).map fun i=>V.str (aD i)) (-1)=some (.str (aD i)):=Uk (by rw[List.map_append];rfl)
  have hdl:((js++[i]).map fun i=>V.str (aD i)).dropLast=js.map fun i=>V.str (aD i):=by rw[List.map_append];exact List.dropLast_concat
  have hll:((js++[i]).map fun i=>V.str (aD i))[((js++[i]).map fun i=>V.str (aD i)).length - 1]? =some (.str (aD i)):=by simp
  have hjl:js.length+1<=17:=by rw[List.length_append] at hlen;exact hlen
  have un:=lp.un
  rw[List.dropLast_concat] at un
  refine⟨_,rfl,true, .inl ⟨_,SqL.of ep,by simp⟩, ?_⟩
  refine(if_pos (rfl:true=true)).mpr ?_
  refine⟨fun σ' H'=>Wr (∃(is:List Nat) (kn':Kn) (rmN:Rm) (rkn:Str->Bool) (bg:Str->Option SeD) (Hf:Hp) (t1 t2:Option V),σ'=[some (.ref D.so),some (.str x),some (.ref pth),some (.ref bgd),t1,t2]/\LpI CSe CN CS CR D pth bgd n gv rc kg kc kr rm knI HfI H x k0 is kn' rmN rkn bg Hf H'/\Bv n kn' is<Bv n kn (js++[i])),fun σ' H' ⟨⟨is',kn',Jt,rkn',bg',Hf',t1',t2',z1,z2,z3⟩⟩=>⟨_,z3,is',kn',Jt,rkn',bg',Hf',t1',t2',z1,z2,rfl⟩, ?_⟩
  obtain⟨kw,ws,ek,kkw,hkw⟩:=lp.so.ek
  have hkl:=lp.so.kl kkw hkw
  have eg3:=lp.so.sm _ _ lp.sh.eg
  have hbd:=lp.sh.bd
  have hy:aD i∈nmK n:=ji.mpr ⟨i,hi,rfl⟩
  have dg:bN H3 D.g (.str (aD i)) ((gv (aD i)).map V.int):=by rw[<-hbd.g];exact bN.k (k:= .inr (aD i)) eg3
  have np:=lp.np
  simp only[List.mem_cons,List.not_mem_nil,or_false,not_or] at np
  cases hgv:gv (aD i) with
  | some v=>
    rw[hgv] at dg
    have dg:bN H3 D.g (.str (aD i)) (some (.int v)):=dg
    obtain⟨so4,le4⟩:=lp.so.giv ek kkw hkw hy hgv lp.sh.ne
    have b4:But [D.kd,D.sd,D.rd] H3 (upd H3 D.kd (.dK (putK kw (.inr (aD i)) (.int v)))):=But.set _ (by simp)
    obtain⟨H4,eH4⟩:∃H4,H4=upd H3 D.kd (.dK (putK kw (.inr (aD i)) (.int v))):=⟨_,rfl⟩
    have dp:lQ H3 D.kd (.str (aD i)) (.int v) H4:=by rw[eH4];exact lQ.k (k:= .inr (aD i)) ek (cB (by omega))
    rw[<-eH4] at so4 b4
    have lp4:=lp.know b4 (aN.refl _) (fun _ _ z=>z) so4 le4 (fun y hy=>by
     unfold Kn.put at hy
     by_cases w:y=aD i
     ·exact .inr w
     ·rw[if_neg w] at hy;exact .inl hy) (fun y hne h=>by unfold Kn.put;rw[if_neg hne];exact h) (by omega)
    have e4:=lp4.so.sm _ _ lp4.sh.e
    have ep4:=lp4.ep
    have dk4:bN H4 D.kd (.str (aD i)) (some (.int v)):=by
     obtain⟨kw4,ws4,ek4,_,hk4⟩:=lp4.so.ek
     have:cP kw4 (.inr (aD i))=some (.int v):=by rw[hk4];unfold Kn.put;rw[if_pos rfl];rfl
     rw[<-this];exact bN.k (k:= .inr (aD i)) ek4
    have hk4:(kn.put (aD i) v) (aD i)≠none:=by unfold Kn.put;rw[if_pos rfl];simp
    have lp5:=lp4.pop hk4 ex
    have un4:=lp4.un
    rw[List.dropLast_concat] at un4
    have hm:=Jv (n:=n) (js:=js) (by omega) un4
    walk_at "vs"
    rw[hdl]
    refine⟨js,_,_,_,_,_,_,_,rfl,lp5, ?_⟩
    cases hkn:kn (aD i) with
    | none=>
      have hu:=DQ (v:=v) hi hkn
      rw[m7 hkn]
      omega
    | some u=>
      have e:kn.put (aD i) v=kn:=by
       have:=le4 _ _ hkn
       unfold Kn.put at this
       rw[if_pos rfl] at this
       funext y
       unfold Kn.put
       by_cases w:y=aD i
       ·rw[if_pos w,w,hkn,this]
       ·rw[if_neg w]
      rw[e] at hm ⊢
      rw[wM (by rw[hkn];simp)]
      omega
  | none=>
    rw[hgv] at dg
    have dg:bN H3 D.g (.str (aD i)) none:=dg
    cases hkn:kn (aD i) with
    | some u=>
      have hk4:kn (aD i)≠none:=by rw[hkn];simp
      have dk4:bN H3 D.kd (.str (aD i)) (some (.int u)):=by
       have:cP kw (.inr (aD i))=some (.int u):=by rw[hkw,hkn];rfl
       rw[<-this];exact bN.k (k:= .inr (aD i)) ek
      have lp5:=lp.pop hk4 ex
      have hm:=Jv (n:=n) (js:=js) (by omega) un
      walk_at "vs"
      rw[hdl]
      refine⟨js,_,_,_,_,_,_,_,rfl,lp5, ?_⟩
      rw[wM hk4]
      omega
    | none=>
      have dk4:bN H3 D.kd (.str (aD i)) none:=by
       have:cP kw (.inr (aD i))=none:=by rw[hkw,hkn];rfl
       rw[<-this];exact bN.k (k:= .inr (aD i)) ek
      obtain⟨r,hrc⟩:∃r,rc (aD i)=some r:=by
       rcases hbd.ok.dom i hi with z | z
       ·exact absurd hgv z
       ·cases w:rc (aD i) with
        | none=>exact absurd w z
        | some r=>exact⟨r,rfl⟩
      obtain⟨k',hk',ek',rk'⟩:=hbd.ok.rk _ _ hrc
      have hik:i=k':=jz (by omega) (by omega) ek'
      subst hik
      have rki:=rk'.i
      have hT3:=rk'.t
      obtain⟨kb,ks,eb,kkb,hkb⟩:=lp.bgi.e
      cases hA:bg (aD i) with
      | some A=>
        have db:bN H3 bgd (.str (aD i)) (some (.ref A.s)):=by
         have:cP kb (.inr (aD i))=some (.ref A.s):=by rw[hkb,hA];rfl
         rw[<-this];exact bN.k (k:= .inr (aD i)) eb
        have lp6:=lp
        obtain⟨kb6,ks6,eb6,kk6,Zu⟩:=lp6.bgi.e
        obtain⟨r',hr',_,seo⟩:=lp6.bgi.ok (aD i) A hA hkn
        rw[hrc] at hr'
        cases hr'
        have e6:=lp6.so.sm _ _ lp6.sh.e
        have rD6:=lp6.sh.rD.map fun _ _ z=>z.same lp6.so.sm
        obtain⟨kw6,ws6,ek6,afu,Zv⟩:=lp6.so.ek
        have knA:Qy H3 D.kd kn:=⟨kw6,ek6,Zv⟩
        have nd3:D.kd≠A.a3:=fun z=>(lp6.bgi.al (aD i) A hA A.a3 (by simp[SeD.ft])).2.2 (by rw[<-z];simp)
        have db6:bN H3 bgd (.str (aD i)) (some (.ref A.s)):=by
         have:cP kb6 (.inr (aD i))=some (.ref A.s):=by rw[Zu,hA];rfl
         rw[<-this];exact bN.k (k:= .inr (aD i)) eb6
        have eA6:=seo.e
        walk_at "vs"
        intro A' H7 b7 es eb' erk e1' e2' e3' efl so7
        have lp7:=lp6.gone hA b7 so7 hrc hgv es erk e1' e2' e3' efl
        have e7:=lp7.so.sm _ _ lp7.sh.e
        have ep7:=lp7.ep
        refine⟨fun hend=> ?_,fun z hzn hsk=> ?_⟩
        ·obtain⟨kb7,ks7,eb7,kk7,Zw⟩:=lp7.bgi.e
         have db7:bN H7 bgd (.str (aD i)) (some (.ref A'.s)):=by
          have:cP kb7 (.inr (aD i))=some (.ref A'.s):=by rw[Zw];unfold kI;rw[if_pos rfl];rfl
          rw[<-this];exact bN.k (k:= .inr (aD i)) eb7
         have afv:=lp7.so
         have sh7:=lp7.sh
         have eA7:=so7.e
         have hR7:=so7.hr
         have hy:aD i∈nmK n:=ji.mpr ⟨i,hi,rfl⟩
         have hft:∀z∈A'.ft,z∉[D.kd,D.sd,D.rd]:=fun z hz w=>(lp7.bgi.al (aD i) A' (by unfold kI;rw[if_pos rfl]) z hz).2.2 (by
          simp only[List.mem_cons,List.not_mem_nil,or_false] at w ⊢
          rcases w with q | q | q
          ·exact .inr (.inr (.inl q))
          ·exact .inr (.inr (.inr (.inl q)))
          ·exact .inr (.inr (.inr (.inr q))))
         walk_at "vs"
         intro v ps made Hf' H8 b8 sf8 fm8 so8
         have lp8:=lp7.know b8 sf8 fm8 so8 (Kn.pF hkn) (fun y hy=>by
          unfold Kn.put at hy
          by_cases w:y=aD i
          ·exact .inr w
          ·rw[if_neg w] at hy;exact .inl hy) (fun y hne h=>by unfold Kn.put;rw[if_neg hne];exact h) (by omega)
         walk_at "vs"
         refine⟨_,_,_,_,_,_,_,_,rfl,lp8, ?_⟩
         have hu:=DQ (v:=v) hi hkn
         rw[m7 hkn,wM (by unfold Kn.put;rw[if_pos rfl];simp)]
         omega
        ·obtain⟨j,hj,ez⟩:=ji.mp (hsk.in rki)
         subst ez
         have hin:inV (.str (aD j)) ((js++[i]).map fun i=>V.str (aD i))=false:=by
          unfold inV
          rw[List.any_eq_false]
          intro u hu
          obtain⟨k,hk,rfl⟩:=List.mem_map.mp hu
          have hkn':=lp7.lt k hk
          have hki:i<=k:=by
           rcases List.mem_append.mp hk with z | z
           ·have dec:=lp7.dec
            rw[List.pairwise_append] at dec
            exact Nat.le_of_lt (dec.2.2 k z i (by simp))
           ·have:k=i:=by simpa using z
            omega
          intro z
          have z:(aD k==aD j)=true:=z
          have:=jz (show k<26 by omega) (show j<26 by omega) (eq_of_beq z)
          omega
         have hfl:((js++[i]).map fun i=>V.str (aD i)).all uX=true:=by
          rw[List.all_eq_true]
          intro u hu
          obtain⟨k,hk,rfl⟩:=List.mem_map.mp hu
          rfl
         have hsz:((js++[i]).map fun i=>V.str (aD i)).length<sizeLine:=by rw[List.length_map];exact cB (by omega)
         walk_at "vs"
         rw[hin]
         walk_at "vs"
         have em:((js++[i]).map fun i=>V.str (aD i))++[V.str (aD j)]=(js++[i]++[j]).map fun i=>V.str (aD i):=by rw[List.map_append (l₁:=js++[i])];rfl
         rw[em]
         refine⟨js++[i]++[j],_,_,_,_,_,_,_,rfl,lp7.push hkn hj hgv hrc hsk, ?_⟩
         rw[m7 hkn,m7 hzn,List.length_append]
         simp only[List.length_cons,List.length_nil]
         omega
      | none=>
        have db:bN H3 bgd (.str (aD i)) none:=by
         have:cP kb (.inr (aD i))=none:=by rw[hkb,hA];rfl
         rw[<-this];exact bN.k (k:= .inr (aD i)) eb
        have sh3:=lp.sh.same lp.so.sm
        have hkbl:kb.length<=n:=by
         rw[kkb.len,<-lZ n]
         refine iz kkb.nd fun y hy=>lp.bgi.nm y fun z=> ?_
         exact kkb.none.mp (by rw[hkb,z];rfl) hy
        walk_at "vs"
        intro A H4 s4 hA4 so4
        have lp6:=lp.begun s4 hA4 (so4 kn) hrc hgv hy hA eb
        have dpb:lQ H4 bgd (.str (aD i)) (.ref A.s) (upd H4 bgd (.dK (putK kb (.inr (aD i)) (.ref A.s)))):=lQ.k (k:= .inr (aD i)) (s4 _ _ eb) (cB (by omega))
        have hA:kI bg (aD i) A (aD i)=some A:=by unfold kI;rw[if_pos rfl]
        generalize upd H4 bgd (.dK (putK kb (.inr (aD i)) (.ref A.s)))=H5 at *
        obtain⟨kb6,ks6,eb6,kk6,Zu⟩:=lp6.bgi.e
        obtain⟨r',hr',_,seo⟩:=lp6.bgi.ok (aD i) A hA hkn
        rw[hrc] at hr'
        cases hr'
        have e6:=lp6.so.sm _ _ lp6.sh.e
        have rD6:=lp6.sh.rD.map fun _ _ z=>z.same lp6.so.sm
        obtain⟨kw6,ws6,ek6,afu,Zv⟩:=lp6.so.ek
        have knA:Qy H5 D.kd kn:=⟨kw6,ek6,Zv⟩
        have nd3:D.kd≠A.a3:=fun z=>(lp6.bgi.al (aD i) A hA A.a3 (by simp[SeD.ft])).2.2 (by rw[<-z];simp)
        have db6:bN H5 bgd (.str (aD i)) (some (.ref A.s)):=by
         have:cP kb6 (.inr (aD i))=some (.ref A.s):=by rw[Zu,hA];rfl
         rw[<-this];exact bN.k (k:= .inr (aD i)) eb6
        have eA6:=seo.e
        walk_at "vs"
        intro A' H7 b7 es eb' erk e1' e2' e3' efl so7
        have lp7:=lp6.gone hA b7 so7 hrc hgv es erk e1' e2' e3' efl
        have e7:=lp7.so.sm _ _ lp7.sh.e
        have ep7:=lp7.ep
        refine⟨fun hend=> ?_,fun z hzn hsk=> ?_⟩
        ·obtain⟨kb7,ks7,eb7,kk7,Zw⟩:=lp7.bgi.e
         have db7:bN H7 bgd (.str (aD i)) (some (.ref A'.s)):=by
          have:cP kb7 (.inr (aD i))=some (.ref A'.s):=by rw[Zw];unfold kI;rw[if_pos rfl];rfl
          rw[<-this];exact bN.k (k:= .inr (aD i)) eb7
         have afv:=lp7.so
         have sh7:=lp7.sh
         have eA7:=so7.e
         have hR7:=so7.hr
         have hy:aD i∈nmK n:=ji.mpr ⟨i,hi,rfl⟩
         have hft:∀z∈A'.ft,z∉[D.kd,D.sd,D.rd]:=fun z hz w=>(lp7.bgi.al (aD i) A' (by unfold kI;rw[if_pos rfl]) z hz).2.2 (by
          simp only[List.mem_cons,List.not_mem_nil,or_false] at w ⊢
          rcases w with q | q | q
          ·exact .inr (.inr (.inl q))
          ·exact .inr (.inr (.inr (.inl q)))
          ·exact .inr (.inr (.inr (.inr q))))
         walk_at "vs"
         intro v ps made Hf' H8 b8 sf8 fm8 so8
         have lp8:=lp7.know b8 sf8 fm8 so8 (Kn.pF hkn) (fun y hy=>by
          unfold Kn.put at hy
          by_cases w:y=aD i
          ·exact .inr w
          ·rw[if_neg w] at hy;exact .inl hy) (fun y hne h=>by unfold Kn.put;rw[if_neg hne];exact h) (by omega)
         walk_at "vs"
         refine⟨_,_,_,_,_,_,_,_,rfl,lp8, ?_⟩
         have hu:=DQ (v:=v) hi hkn
         rw[m7 hkn,wM (by unfold Kn.put;rw[if_pos rfl];simp)]
         omega
        ·obtain⟨j,hj,ez⟩:=ji.mp (hsk.in rki)
         subst ez
         have hin:inV (.str (aD j)) ((js++[i]).map fun i=>V.str (aD i))=false:=by
          unfold inV
          rw[List.any_eq_false]
          intro u hu
          obtain⟨k,hk,rfl⟩:=List.mem_map.mp hu
          have hkn':=lp7.lt k hk
          have hki:i<=k:=by
           rcases List.mem_append.mp hk with z | z
           ·have dec:=lp7.dec
            rw[List.pairwise_append] at dec
            exact Nat.le_of_lt (dec.2.2 k z i (by simp))
           ·have:k=i:=by simpa using z
            omega
          intro z
          have z:(aD k==aD j)=true:=z
          have:=jz (show k<26 by omega) (show j<26 by omega) (eq_of_beq z)
          omega
         have hfl:((js++[i]).map fun i=>V.str (aD i)).all uX=true:=by
          rw[List.all_eq_true]
          intro u hu
          obtain⟨k,hk,rfl⟩:=List.mem_map.mp hu
          rfl
         have hsz:((js++[i]).map fun i=>V.str (aD i)).length<sizeLine:=by rw[List.length_map];exact cB (by omega)
         walk_at "vs"
         rw[hin]
         walk_at "vs"
         have em:((js++[i]).map fun i=>V.str (aD i))++[V.str (aD j)]=(js++[i]++[j]).map fun i=>V.str (aD i):=by rw[List.map_append (l₁:=js++[i])];rfl
         rw[em]
         refine⟨js++[i]++[j],_,_,_,_,_,_,_,rfl,lp7.push hkn hj hgv hrc hsk, ?_⟩
         rw[m7 hkn,m7 hzn,List.length_append]
         simp only[List.length_cons,List.length_nil]
         omega
end
section
local macro_rules | `(tactic| walk_at "side") => `(tactic| first | exact vq _ _ _ _ _ _ | exact pH _ _ _ _ _ _ | exact DP _ _ _ _ _ _ | exact vz _ _ _ _ _ _ | exact pK _ _ _ _ _ _ | exact m6 _ _ _ _ _ _ | exact (gh _ _ _ _ _ _).1 | exact (gh _ _ _ _ _ _).2.1 | exact (gh _ _ _ _ _ _).2.2.1 | exact (gh _ _ _ _ _ _).2.2.2.1 | exact (gh _ _ _ _ _ _).2.2.2.2 | exact Nat.le_of_ble_eq_true rfl)
variable {P:Program}{w:World}{K:PySem.W.Frag}{mg:Str->Option Value}{base:Heap}{CSe CN CS CR:Addr}
abbrev fO:Stmt:=vA 13 3
theorem Ec:bU ["self"] ["self"] (aa fO):=⟨rfl,rfl,rfl,by decide +kernel,rfl,by decide +kernel,by decide +kernel⟩
theorem wW:aJ (aa fO) "self":=by decide +kernel
theorem Ed {f:Addr}{fd:FuncData} (iJ:fU K CSe "made" "Search.made" fO ["self"] f fd) (T:Blt mg) (sr:SrC K CSe):bF P w K mg base CX0 1 f fd ["self"] (Q9 CSe):=by
 refine iJ.F.okQ Ec (fun vs H Q E h=> ?_) (fun cdv A outer s H vs Q E hr h=> ?_)
 ·obtain⟨D,ks,kk,ss,rkn,rfl,_⟩:=h
  rfl
 obtain⟨D,ks,kk,ss,rkn,rfl,e,es,hks,hsl,nsr,er,hkk,q⟩:=h
 have j8:=sr.cl
 have nS:=sr.nS
 have nM:=sr.nM
 refine⟨_,(aH (bH (wF rfl (n:=1) (fr:=[0]) (N:=["name","self"]) (CT (scX:=aa fO) (NX:=["self"]) rfl rfl (by decide +kernel)) (G5 (bI (ao 0 wW))) (fun _ _ _ _ _=>(qgx (i:=0) (show List.Nodup (α:=Str) ["name","self"] by decide) (Gz (by decide +kernel)))) (fun _ _ _ _ _=>(De (vh (cA hr) (ao 0 (lR.ok (by decide +kernel))) (Hg (K:=K) rfl (ao 1 (lR.ok (by decide +kernel))))))) (fun _ _ _ _ _=>(ao 0 (lR.ok (by decide +kernel))))))), ?_⟩
 walk_at "vs"
 intro o
 have b1:But [D.sd] H (upd H D.sd (.frz o (.dK ks))):=But.set _ (by simp)
 have e1:upd H D.sd (.frz o (.dK ks)) D.so=some (.ins CSe D.dx (srF D.g D.c D.o D.kd D.sd D.rd)):=(au (fun z=>by rw[z,es] at e;cases e)).trans e
 have er1:upd H D.sd (.frz o (.dK ks)) D.rd=some (.dK kk):=(au (Ne.symm nsr)).trans er
 have es1:upd H D.sd (.frz o (.dK ks)) D.sd=some (.frz o (.dK ks)):=aq
 have n1:∀{z},upd H D.sd (.frz o (.dK ks)) z=none->H z=none:=fun z=>(fV z).2
 generalize upd H D.sd (.frz o (.dK ks))=H1 at *
 intro L hL
 refine Gj (fun i σ' H'=>(∃t,σ'=[t,some (.ref D.so)])/\aN H1 H'/\H' L=some (.lst (((ss.take i).filter rkn).map V.str))) ?_ ?_ ?_ ?_
 ·exact⟨⟨none,rfl⟩,aG _ hL,aq⟩
 ·intro i σ' H' _ hP
  exact hP.2.1 _ _ es1
 ·intro i k v σ' H' hkv hP
  obtain⟨⟨t,rfl⟩,S2,eL⟩:=hP
  obtain⟨x,rfl,hxi⟩:=hks.at hkv
  have hi:i<ss.length:=(List.getElem?_eq_some_iff.mp hxi).1
  have e2:=S2 _ _ e1
  have dg:bN H' D.rd (.str x) (if rkn x=true then some (.bl true) else none):=by rw[<-hkk];exact bN.k (k:= .inr x) (S2 _ _ er1)
  have hz:(((ss.take i).filter rkn).map V.str).length<sizeLine:=by
   rw[List.length_map]
   have h1:=List.length_filter_le (rkn) (ss.take i)
   have h2:=List.length_take_le i ss
   exact cB (by omega)
  have ht:ss.take (i+1)=ss.take i++[x]:=by rw[List.take_add_one,hxi];rfl
  cases hrx:rkn x with
  | true=>
    rw[hrx,if_pos rfl] at dg
    walk_at "vs"
    refine⟨⟨_,rfl⟩,dD _ hL S2, ?_⟩
    rw[ht,List.filter_append,List.map_append,aq]
    simp[List.filter_cons,hrx]
    rfl
  | false=>
    rw[hrx,if_neg (by decide)] at dg
    walk_at "vs"
    refine⟨⟨_,rfl⟩,S2, ?_⟩
    rw[ht,List.filter_append,eL]
    simp[List.filter_cons,hrx]
 ·intro σ' H' hP
  obtain⟨_,S2,eL⟩:=hP
  rw[show ss.take ks.length=ss by rw[hks.len];exact List.take_length] at eL
  exact q L o H' (b1.trans (But.of_same S2)) (S2 _ _ es1) (n1 hL) eL
abbrev fP:Stmt:=vA 13 4
theorem Ef:bU ["self"] ["self"] (aa fP):=⟨rfl,rfl,rfl,by decide +kernel,rfl,by decide +kernel,by decide +kernel⟩
theorem wX:aJ (aa fP) "self":=by decide +kernel
theorem Eg {f:Addr}{fd:FuncData} (iK:fU K CSe "kept" "Search.kept" fP ["self"] f fd) (T:Blt mg) (sr:SrC K CSe):bF P w K mg base CX0 1 f fd ["self"] (Ra CSe):=by
 refine iK.F.okQ Ef (fun vs H Q E h=> ?_) (fun cdv A outer s H vs Q E hr h=> ?_)
 ·obtain⟨D,o,ks,kk,ss,rkn,rfl,_⟩:=h
  rfl
 obtain⟨D,o,ks,kk,ss,rkn,rfl,e,es,hks,hsl,er,hkk,q⟩:=h
 have j8:=sr.cl
 have nS:=sr.nS
 have nM:=sr.nM
 refine⟨_,(aH (bH (wF rfl (n:=1) (fr:=[0]) (N:=["name","self"]) (CT (scX:=aa fP) (NX:=["self"]) rfl rfl (by decide +kernel)) (Q8 (bI (ao 0 wX))) (fun _ _ _ _ _=>(qgx (i:=0) (show List.Nodup (α:=Str) ["name","self"] by decide) (Gz (by decide +kernel)))) (fun _ _ _ _ _=>(De (rJ (cA hr) (ao 0 (lR.ok (by decide +kernel))) (Hg (K:=K) rfl (ao 1 (lR.ok (by decide +kernel))))))) (fun _ _ _ _ _=>(ao 0 (lR.ok (by decide +kernel))))))), ?_⟩
 have e1:=e
 have er1:=er
 have es1:=es
 walk_at "vs"
 intro L hL
 refine Gj (fun i σ' H'=>(∃t,σ'=[t,some (.ref D.so)])/\aN H H'/\H' L=some (.lst (((ss.take i).filter (fun x=> !rkn x)).map V.str))) ?_ ?_ ?_ ?_
 ·exact⟨⟨none,rfl⟩,aG _ hL,aq⟩
 ·intro i σ' H' _ hP
  exact hP.2.1 _ _ es1
 ·intro i k v σ' H' hkv hP
  obtain⟨⟨t,rfl⟩,S2,eL⟩:=hP
  obtain⟨x,rfl,hxi⟩:=hks.at hkv
  have hi:i<ss.length:=(List.getElem?_eq_some_iff.mp hxi).1
  have e2:=S2 _ _ e1
  have dg:bN H' D.rd (.str x) (if rkn x=true then some (.bl true) else none):=by rw[<-hkk];exact bN.k (k:= .inr x) (S2 _ _ er1)
  have hz:(((ss.take i).filter (fun x=> !rkn x)).map V.str).length<sizeLine:=by
   rw[List.length_map]
   have h1:=List.length_filter_le ((fun x=> !rkn x)) (ss.take i)
   have h2:=List.length_take_le i ss
   exact cB (by omega)
  have ht:ss.take (i+1)=ss.take i++[x]:=by rw[List.take_add_one,hxi];rfl
  cases hrx:rkn x with
  | true=>
    rw[hrx,if_pos rfl] at dg
    walk_at "vs"
    refine⟨⟨_,rfl⟩,S2, ?_⟩
    rw[ht,List.filter_append,eL]
    simp[List.filter_cons,hrx]
  | false=>
    rw[hrx,if_neg (by decide)] at dg
    walk_at "vs"
    refine⟨⟨_,rfl⟩,dD _ hL S2, ?_⟩
    rw[ht,List.filter_append,List.map_append,aq]
    simp[List.filter_cons,hrx]
    rfl
 ·intro σ' H' hP
  obtain⟨_,S2,eL⟩:=hP
  rw[show ss.take ks.length=ss by rw[hks.len];exact List.take_length] at eL
  exact q L H' S2 hL eL
end
section
local macro_rules | `(tactic| walk_at "side") => `(tactic| first | exact vq _ _ _ _ _ _ | exact pH _ _ _ _ _ _ | exact DP _ _ _ _ _ _ | exact vz _ _ _ _ _ _ | exact pK _ _ _ _ _ _ | exact m6 _ _ _ _ _ _ | exact (gh _ _ _ _ _ _).1 | exact (gh _ _ _ _ _ _).2.1 | exact (gh _ _ _ _ _ _).2.2.1 | exact (gh _ _ _ _ _ _).2.2.2.1 | exact (gh _ _ _ _ _ _).2.2.2.2 | exact Nat.le_of_ble_eq_true rfl)
variable {P:Program}{w:World}{K:PySem.W.Frag}{mg:Str->Option Value}{base:Heap}{CSe CN CS CR:Addr}
abbrev dM:Stmt:=top 14
theorem vW:bU ["house","old","wishes","search","name"] ["house","old","wishes"] (aa dM):=⟨rfl,rfl,rfl,by decide +kernel,rfl,by decide +kernel,by decide +kernel⟩
theorem yF:Loc (aa dM) "search":=by decide +kernel
theorem yG:(aa dM).names.lookup ("Search":Str)=some NameKind.globalImplicit:=by decide +kernel
theorem BX:aJ (aa dM) "old":=by decide +kernel
theorem zO:aJ (aa dM) "house":=by decide +kernel
theorem yH:(("Search":Str)==("__debug__":Str))=false:=by decide +kernel
theorem yI:aJ (aa dM) "wishes":=by decide +kernel
theorem Ay:Loc (aa dM) "name":=by decide +kernel
theorem pO:aJ (aa dM) "search":=by decide +kernel
theorem Az:aJ (aa dM) "name":=by decide +kernel
theorem JD {f g0 g1:Addr}{fd gd0 gd1:FuncData} (fK:FnT K mg "searched" dM ["house","old","wishes"] f fd)
 (fZ:fU K CSe "__init__" "Search.__init__" cN ["self","house","old"] g0 gd0) (zP:bF P w K mg base CX0 1 g0 gd0 ["self","house","old"] (Jr CSe))
 (gm:fU K CSe "settle" "Search.settle" bA ["self","name"] g1 gd1) (BZ:bF P w K mg base CX0 15 g1 gd1 ["self","name"] (Js CSe CN))
 (Eh:Mk K CSe g0) (Ei:mg "Search"=some (.ref CSe)) (T:Blt mg) (sr:SrC K CSe):bF P w K mg base CX0 16 f fd ["house","old","wishes"] (yo CSe CN):=by
 refine fK.F.okQ vW (fun vs H Q E h=> ?_) (fun cdv A outer s H vs Q E hr h=> ?_)
 ·obtain⟨h,g,c,o,dxo,rcd,wl,n,gv,rc,kg,kc,kr,rm,ws,rfl,_⟩:=h
  rfl
 obtain⟨h,g,c,o,dxo,rcd,wl,n,gv,rc,kg,kc,kr,rm,ws,rfl,eh,eg,ec,bd,n17,eo,er,rD,ewl,hws,q⟩:=h
 have j8:=sr.cl
 refine⟨_,(aA (bV (i:=3) vW.nd rfl yF (zE Eh (zP.mono (by omega)) hr yG Ei fZ.b .nil bO (aV (ao 0 zO) (aV (ao 1 BX) aC)) yH))
  (aA (ye PassesOwn.never rfl (zq (ao 2 yI)) (lV (i:=4) vW.nd rfl Ay) (aH (gA (oH (ao 3 pO) j8 gm.m (BZ.mono (by omega)) hr gm.b .nil bO (aV (ao 4 Az) aC)))))
  (aH (bH (ao 3 pO))))), ?_⟩
 walk_at "vs"
 intro a dx ha hdx hne
 have haH:(upd H dx (.own a)) a=none:=(au (Ne.symm hne)).trans ha
 have S1:=(aG (.own a) hdx).trans (aG (.ins CSe dx []) haH)
 refine⟨a,dx,h,g,c,o,rfl,aq,S1 _ _ eh,fun kd sd rd H2 b2 e2 hk hs hr' nks nkr nsr ek2 es2 er2=>⟨rfl, ?_⟩⟩
 have hk0:=same_none S1 hk
 have hs0:=same_none S1 hs
 have hr0:=same_none S1 hr'
 have S2:aN H H2:=gn S1 (fun p hp=>by
  have:p=a:=by simpa using hp
  rw[this];exact ha) b2
 have nka:kd≠a:=fun z=>by rw[z,aq] at hk;cases hk
 have nsa:sd≠a:=fun z=>by rw[z,aq] at hs;cases hs
 have nra:rd≠a:=fun z=>by rw[z,aq] at hr';cases hr'
 have sf0:aN H (upd H a (.ins CSe dx (srF g c o kd sd rd))):=aG _ ha
 have sm0:aN (upd H a (.ins CSe dx (srF g c o kd sd rd))) H2:=fun z ob e=>by
  by_cases w:z=a
  ·subst w;rw[aq] at e;cases e;exact e2
  ·rw[au w] at e;exact S2 _ _ e
 have shf:SrH CSe CN ⟨a,dx,g,c,o,dxo,rcd,kd,sd,rd⟩ n gv rc kg kc kr rm (upd H a (.ins CSe dx (srF g c o kd sd rd))):=
  ⟨aq,sf0 _ _ eg,sf0 _ _ ec,bd.tups (aN.tups sf0),sf0 _ _ eo,sf0 _ _ er,rD.map fun _ _ z=>z.same sf0,n17,nks,nkr,nsr⟩
 have so2:rK ⟨a,dx,g,c,o,dxo,rcd,kd,sd,rd⟩ n gv rc rm kn0 (fun _=>none) (fun _=>false) (upd H a (.ins CSe dx (srF g c o kd sd rd))) H2:=
  ⟨sm0,(au nka).trans hk0,(au nsa).trans hs0,(au nra).trans hr0,⟨[],[],ek2,⟨rfl,by simp⟩,fun x=>by rw[uZ];rfl⟩,⟨[],es2,⟨[],⟨rfl,by simp⟩,by simp⟩,fun x q e=>(nomatch e),fun x _=>uZ,fun x r ps v e=>(nomatch e)⟩,⟨[],[],er2,⟨rfl,by simp⟩,fun x=>by rw[uZ];rfl,fun x h=>(nomatch h)⟩,⟨fun x v e=>(nomatch e),fun x r ps v e=>(nomatch e)⟩,fun x r ps v e=>(nomatch e)⟩
 have acj:=S2 _ _ ewl
 walk_at "vs"
 refine HS (xs:=ws.map V.str) (fun i σ H'=>∃(kn:Kn) (rmN:Rm) (rkn:Str->Bool) (Hf:Hp) (t:Option V),σ=[some (.ref h),some (.ref o),some (.ref wl),some (.ref a),t]/\aN H H'/\aN H Hf/\SrH CSe CN ⟨a,dx,g,c,o,dxo,rcd,kd,sd,rd⟩ n gv rc kg kc kr rm Hf/\rK ⟨a,dx,g,c,o,dxo,rcd,kd,sd,rd⟩ n gv rc rm kn rmN rkn Hf H'/\(∀x∈ws.take i,kn x≠none)/\∀y,kn y≠none->∃x∈ws,Rch gv rc kn x y) ?_ ?_ ?_ ?_
 ·exact⟨_,_,_,_,none,rfl,S2,sf0,shf,so2,by simp,fun y hy=>absurd rfl hy⟩
 ·rintro i σ H' _ ⟨kn,rmN,rkn,Hf,t,_,S3,_⟩
  exact SqL.of (S3 _ _ ewl)
 ·rintro i v σ H3 hv ⟨kn,rmN,rkn,Hf,t,rfl,S3,sf3,sh3,so3,hw3,hr3⟩
  obtain⟨x,hxi,rfl⟩:∃x,ws[i]? =some x/\v=V.str x:=by
   rw[List.getElem?_map] at hv
   cases e:ws[i]? with
   | none=>rw[e] at hv;cases hv
   | some x=>rw[e] at hv;exact⟨x,rfl,(Option.some.inj hv).symm⟩
  have hxm:x∈ws:=List.mem_of_getElem? hxi
  have hxn:=hws x hxm
  have e3:H3 a=some (.ins CSe dx (srF g c o kd sd rd)):=so3.sm _ _ sh3.e
  walk_at "vs"
  refine⟨⟨a,dx,g,c,o,dxo,rcd,kd,sd,rd⟩,n,gv,rc,kg,kc,kr,rm,kn,rmN,rkn,Hf,x,rfl,sh3,so3,hxn,fun kn' Jt rkn' Hf' H4 b4 sf4 fm4 so4 le4 hx4 hr4=> ?_⟩
  refine⟨kn',Jt,rkn',Hf',_,rfl,gn S3 (fun p hp=> ?_) b4,sf3.trans sf4,sh3.same sf4,so4,fun y hy=> ?_,fun y hy=> ?_⟩
  ·have hp:p=kd\/p=sd\/p=rd:=by simpa using hp
   rcases hp with rfl | rfl | rfl
   ·exact hk0
   ·exact hs0
   ·exact hr0
  ·rw[List.take_add_one,hxi] at hy
   rcases List.mem_append.mp hy with z | z
   ·intro w
    cases e:kn y with
    | none=>exact hw3 y z e
    | some u=>rw[le4 y u e] at w;cases w
   ·have:y=x:=by simpa using z
    rw[this];exact hx4
  ·rcases hr4 y hy with z | z
   ·obtain⟨x',hx',r'⟩:=hr3 y z
    exact⟨x',hx',r'.le le4⟩
   ·exact⟨x,hxm,z⟩
 ·rintro σ H3 ⟨kn,rmN,rkn,Hf,t,rfl,S3,sf3,sh3,so3,hw3,hr3⟩
  walk_at "vs"
  rw[show ws.take (ws.map V.str).length=ws by rw[List.length_map];exact List.take_length] at hw3
  exact q ⟨a,dx,g,c,o,dxo,rcd,kd,sd,rd⟩ kn rmN rkn Hf H3 S3 sf3 sh3 so3 hk0 hs0 hr0 hw3 hr3
abbrev cz:Stmt:=top 16
theorem vX:bU ["house","records","wishes","search"] ["house","records","wishes"] (aa cz):=⟨rfl,rfl,rfl,by decide +kernel,rfl,by decide +kernel,by decide +kernel⟩
theorem uL:Loc (aa cz) "search":=by decide +kernel
theorem sG:(aa cz).names.lookup ("searched":Str)=some NameKind.globalImplicit:=by decide +kernel
theorem uM:aJ (aa cz) "wishes":=by decide +kernel
theorem oV:(aa cz).names.lookup ("NamedRecords":Str)=some NameKind.globalImplicit:=by decide +kernel
theorem um:aJ (aa cz) "records":=by decide +kernel
theorem oW:(("NamedRecords":Str)==("__debug__":Str))=false:=by decide +kernel
theorem vY:aJ (aa cz) "house":=by decide +kernel
theorem sH:(("searched":Str)==("__debug__":Str))=false:=by decide +kernel
theorem ig:aJ (aa cz) "search":=by decide +kernel
theorem Ej {f g0 g1 g2 g3:Addr}{fd gd0 gd1 gd2 gd3:FuncData} (bh:FnT K mg "build_again" cz ["house","records","wishes"] f fd)
 (fK:FnT K mg "searched" dM ["house","old","wishes"] g0 gd0) (yJ:bF P w K mg base CX0 16 g0 gd0 ["house","old","wishes"] (yo CSe CN))
 (bL:fU K CN "__init__" "NamedRecords.__init__" bC ["self","records"] g1 gd1) (iV:bF P w K mg base CX0 1 g1 gd1 ["self","records"] (DN CN))
 (iW:Mk K CN g1) (iY:mg "NamedRecords"=some (.ref CN))
 (iJ:fU K CSe "made" "Search.made" fO ["self"] g2 gd2) (Fd:bF P w K mg base CX0 1 g2 gd2 ["self"] (Q9 CSe))
 (iK:fU K CSe "kept" "Search.kept" fP ["self"] g3 gd3) (Fe:bF P w K mg base CX0 1 g3 gd3 ["self"] (Ra CSe))
 (T:Blt mg) (sr:SrC K CSe):bF P w K mg base CX0 17 f fd ["house","records","wishes"] Cv:=by
 refine bh.F.okQ vX (fun vs H Q E h=> ?_) (fun cdv A outer s H vs Q E hr h=> ?_)
 ·obtain⟨h,g,c,rcd,wl,n,gv,rc,kr,rm,ws,rfl,_⟩:=h
  rfl
 obtain⟨h,g,c,rcd,wl,n,gv,rc,kr,rm,ws,rfl,⟨kg,kc,eh,eg,ec,bd⟩,n17,er,rD,ewl,hws,q⟩:=h
 have j8:=sr.cl
 have nK:=sr.nK
 have nS:=sr.nS
 refine⟨_,(aA (bV (i:=3) vX.nd rfl uL (aZ (yJ.mono (by omega)) hr sG fK.m fK.F.kp fK.b .nil bO (aV (ao 0 vY) (wN (zE iW (iV.mono (by omega)) hr oV iY bL.b .nil bO (aV (ao 1 um) aC) oW) (aV (ao 2 uM) aC))) sH))
  (aH (bH (fQ (GZ (bI (ao 3 ig)) (GZ (bI (ao 3 ig)) (wN (vf (ao 3 ig) j8 iJ.m (Fd.mono (by omega)) hr iJ.b .nil bO) (wN (vf (ao 3 ig) j8 iK.m (Fe.mono (by omega)) hr iK.b .nil bO) aC)))))))), ?_⟩
 walk_at "vs"
 intro o dxo ho hdxo hne
 have hoH:(upd H dxo (.own o)) o=none:=(au (Ne.symm hne)).trans ho
 have S1:=(aG (.own o) hdxo).trans (aG (.ins CN dxo []) hoH)
 refine⟨o,dxo,rcd,rfl,aq,fun H2 b2 e2=>⟨rfl, ?_⟩⟩
 have S2:aN H H2:=gn S1 (fun p hp=>by
  have:p=o:=by simpa using hp
  rw[this];exact ho) b2
 have eh2:=S2 _ _ eh
 have eg2:=S2 _ _ eg
 have ec2:=S2 _ _ ec
 have bd2:=bd.tups (aN.tups S2)
 have er2:=S2 _ _ er
 have rD2:=rD.map fun _ _ z=>z.same S2
 have acj:=S2 _ _ ewl
 walk_at "vs"
 intro D kn rmN rkn Hf H3 s3 sf3 sh3 so3 hk3 hs3 hr3 hw3 hrch
 have S3:=S2.trans s3
 have e3:=so3.sm _ _ sh3.e
 obtain⟨kw,wn,ek,kkw,hkw⟩:=so3.ek
 obtain⟨ks,es,rDs⟩:=so3.es
 obtain⟨sn,kks,hsn⟩:=rDs.k
 obtain⟨kk,rs,er3,kkr,hkk,hrn⟩:=so3.er
 have hsl:sn.length<=100:=by
  have:=rDs.len
  rw[kks.len] at this;omega
 obtain⟨nks,nkr,nsr⟩:=sh3.ne
 have hk0:=same_none S2 hk3
 have hs0:=same_none S2 hs3
 have hr0:=same_none S2 hr3
 walk_at "vs"
 intro lm o' H4 b4 es4 hlm elm
 have k4:∀{z:Addr}{u:HO},z≠D.sd->H3 z=some u->H4 z=some u:=fun h e=>b4 _ _ (by simpa using h) e
 have e4:=k4 (fun z=>by rw[z,es] at e3;cases e3) e3
 have er4:=k4 (Ne.symm nsr) er3
 have ek4:=k4 nks ek
 have sf4:aN Hf H4:=fun z u e=>k4 (fun w=>by rw[w,so3.fs] at e;cases e) (so3.sm _ _ e)
 walk_at "vs"
 intro lk H5 s5 hlk elk
 have afw:=s5 _ _ elm
 have es5:=s5 _ _ es4
 have ek5:=s5 _ _ ek4
 have hnl:lm≠lk:=fun z=>by rw[<-z,elm] at hlk;cases hlk
 walk_at "vs"
 intro t ht
 have s6:=aG (.tup [.ref D.kd, .ref D.sd, .ref lm, .ref lk]) ht
 have S4:aN H H4:=gn S3 (fun p hp=>by
  have:p=D.sd:=by simpa using hp
  rw[this];exact hs0) b4
 have afx:=same_none S3 hlm
 have afy:=same_none S4 hlk
 exact q t D.kd D.sd lm lk kw ks wn sn kn rmN rkn o' _ (S4.trans (s5.trans s6)) aq hk0 hs0 afx afy nks hnl (s6 _ _ ek5) kkw hkw (s6 _ _ es5) kks (rDs.map fun _ _ z=>z.same (sf4.trans (s5.trans s6))) (s6 _ _ afw) (s6 _ _ elk) ⟨so3.ok,so3.md,hw3,hrch,hrn⟩
abbrev cO:Stmt:=top 23
theorem vZ:bU ["house","wishes","search"] ["house","wishes"] (aa cO):=⟨rfl,rfl,rfl,by decide +kernel,rfl,by decide +kernel,by decide +kernel⟩
theorem uN:Loc (aa cO) "search":=by decide +kernel
theorem sI:(aa cO).names.lookup ("searched":Str)=some NameKind.globalImplicit:=by decide +kernel
theorem uO:aJ (aa cO) "wishes":=by decide +kernel
theorem oX:(aa cO).names.lookup ("NamedRecords":Str)=some NameKind.globalImplicit:=by decide +kernel
theorem oY:(("NamedRecords":Str)==("__debug__":Str))=false:=by decide +kernel
theorem v5:aJ (aa cO) "house":=by decide +kernel
theorem sJ:(("searched":Str)==("__debug__":Str))=false:=by decide +kernel
theorem wY:(aa cO).names.lookup ("list":Str)=some NameKind.globalImplicit:=by decide +kernel
theorem jE:aJ (aa cO) "search":=by decide +kernel
theorem wZ:("list":Str)≠"__name__":=by decide +kernel
theorem w6:(("list":Str)==("__debug__":Str))=false:=by decide +kernel
theorem Ek {f g0 g1:Addr}{fd gd0 gd1:FuncData} (gF:FnT K mg "fresh_build" cO ["house","wishes"] f fd)
 (fK:FnT K mg "searched" dM ["house","old","wishes"] g0 gd0) (yJ:bF P w K mg base CX0 16 g0 gd0 ["house","old","wishes"] (yo CSe CN))
 (bL:fU K CN "__init__" "NamedRecords.__init__" bC ["self","records"] g1 gd1) (iV:bF P w K mg base CX0 1 g1 gd1 ["self","records"] (DN CN))
 (iW:Mk K CN g1) (iY:mg "NamedRecords"=some (.ref CN))
 (T:Blt mg) (sr:SrC K CSe):bF P w K mg base CX0 17 f fd ["house","wishes"] Jw:=by
 refine gF.F.okQ vZ (fun vs H Q E h=> ?_) (fun cdv A outer s H vs Q E hr h=> ?_)
 ·obtain⟨h,g,c,wl,n,gv,rc,ws,rfl,_⟩:=h
  rfl
 obtain⟨h,g,c,wl,n,gv,rc,ws,rfl,⟨kg,kc,eh,eg,ec,bd⟩,n17,ewl,hws,q⟩:=h
 have j8:=sr.cl
 have nK:=sr.nK
 have nS:=sr.nS
 refine⟨_,(aA (bV (i:=2) vZ.nd rfl uN (aZ (yJ.mono (by omega)) hr sI fK.m fK.F.kp fK.b .nil bO (aV (ao 0 v5) (wN (zE iW (iV.mono (by omega)) hr oX iY bL.b .nil bO (afh lX aC) oY) (aV (ao 1 uO) aC))) sJ))
  (aH (bH (fQ (GZ (bI (ao 2 jE)) (GZ (bI (ao 2 jE)) (wN (mQ (Dq rfl) wY T.Dh zm (GZ (bI (ao 2 jE)) aC) wZ w6) aC))))))), ?_⟩
 walk_at "vs"
 intro rcd hrcd
 have S0:=aG (.dK []) hrcd
 have er0:upd H rcd (.dK []) rcd=some (.dK []):=aq
 generalize upd H rcd (.dK [])=H0 at *
 walk_at "vs"
 intro o dxo ho hdxo hne
 have hoH:(upd H0 dxo (.own o)) o=none:=(au (Ne.symm hne)).trans ho
 have S1:=(aG (.own o) hdxo).trans (aG (.ins CN dxo []) hoH)
 refine⟨o,dxo,rcd,rfl,aq,fun H2 b2 e2=>⟨rfl, ?_⟩⟩
 have S2':aN H0 H2:=gn S1 (fun p hp=>by
  have:p=o:=by simpa using hp
  rw[this];exact ho) b2
 have S2:=S0.trans S2'
 have eh2:=S2 _ _ eh
 have eg2:=S2 _ _ eg
 have ec2:=S2 _ _ ec
 have bd2:=bd.tups (aN.tups S2)
 have er2:=S2' _ _ er0
 have rD2:mJ H2 [] n (fun _=>none):=⟨⟨[],⟨rfl,by simp⟩,by simp⟩,fun x q e=>(nomatch e),fun x _=>uZ,fun x r ps v e=>(nomatch e)⟩
 have acj:=S2 _ _ ewl
 walk_at "vs"
 intro D kn rmN rkn Hf H3 s3 sf3 sh3 so3 hk3 hs3 hr3 hw3 hrch
 have S3:=S2.trans s3
 have e3:=so3.sm _ _ sh3.e
 obtain⟨kw,wn,ek,kkw,hkw⟩:=so3.ek
 obtain⟨ks,es,rDs⟩:=so3.es
 obtain⟨sn,kks,hsn⟩:=rDs.k
 obtain⟨kk,rs,er3,kkr,hkk,hrn⟩:=so3.er
 obtain⟨nks,nkr,nsr⟩:=sh3.ne
 have hk0:=same_none S2 hk3
 have hs0:=same_none S2 hs3
 walk_at "vs"
 intro l hl
 rw[Ar kks.k]
 have s4:=aG (.lst (sn.map V.str)) hl
 have el4:upd H3 l (.lst (sn.map V.str)) l=some (.lst (sn.map V.str)):=aq
 have ek4:=s4 _ _ ek
 have es4:=s4 _ _ es
 generalize upd H3 l (.lst (sn.map V.str))=H4 at *
 walk_at "vs"
 intro t ht
 have s6:=aG (.tup [.ref D.kd, .ref D.sd, .ref l]) ht
 have hrk:∀x,rkn x=(rmN x).isSome:=fun x=>by
  cases e:rmN x with
  | none=>
    cases w:rkn x with
    | false=>rfl
    | true=>exact absurd e (hrn x w)
  | some qq=>
    obtain⟨r,ps,v⟩:=qq
    have h3:=(so3.md x r ps v e).2.2
    cases w:rkn x with
    | true=>rfl
    | false=>rw[w,if_neg (by decide)] at h3;cases h3
 exact q t D.kd D.sd l kw ks wn sn kn rmN _ (S3.trans (s4.trans s6)) aq hk0 hs0 (same_none S3 hl) nks (s6 _ _ ek4) kkw hkw (s6 _ _ es4) kks (rDs.map fun _ _ z=>z.same (so3.sm.trans (s4.trans s6))) (s6 _ _ el4) ⟨so3.ok,fun x r ps v e=>by rw[<-hrk];exact so3.md x r ps v e,hw3,hrch,fun x hx z=>by rw[z] at hx;cases hx⟩
end
section
variable {P:Program}{w:World}{K:PySem.W.Frag}{mg:Str->Option Value}{base:Heap}
abbrev eF:Stmt:=top 25
theorem El:bU ["script","k"] ["script","k"] (aa eF):=⟨rfl,rfl,rfl,by decide +kernel,rfl,by decide +kernel,by decide +kernel⟩
theorem sO:aJ (aa eF) "k":=by decide +kernel
theorem yK:(aa eF).names.lookup ("len":Str)=some NameKind.globalImplicit:=by decide +kernel
theorem mO:aJ (aa eF) "script":=by decide +kernel
theorem yL:("len":Str)≠"__name__":=by decide +kernel
theorem yM:(("len":Str)==("__debug__":Str))=false:=by decide +kernel
theorem Em {f:Addr}{fd:FuncData} (dW:FnT K mg "_law_cell_at" eF ["script","k"] f fd) (T:Blt mg):bF P w K mg base CX0 1 f fd ["script","k"] (Qv K):=by
 refine dW.F.okQ El (fun vs H Q E h=> ?_) (fun cdv A outer s H vs Q E hr h=> ?_)
 ·obtain⟨a,ns,k,rfl,_⟩:=h
  rfl
 obtain⟨a,ns,k,rfl,hS,h0,q⟩:=h
 refine⟨_,(aA (dh (cD Qm (ao 1 sO) (eN jL yK T.zA tL (aV (ao 0 mO) aC) yL yM) (bz _)) (aH (bH (aM d8 (ao 0 mO) (ao 1 sO)))) cH)
  (aH (bH aB))), ?_⟩
 walk_at "vs"
 refine zg (fun c1=> ?_) (fun c1=> ?_)
 ·have c1':k<((ns.map V.int).length:Int):=by simpa using c1
  obtain⟨v,j,hv,_⟩:=abT h0 c1'
  walk_at "vs"
  exact q _
 ·walk_at "vs"
  exact q _
abbrev gU:Stmt:=top 26
theorem JF:bU ["script","k"] ["script","k"] (aa gU):=⟨rfl,rfl,rfl,by decide +kernel,rfl,by decide +kernel,by decide +kernel⟩
theorem xV:aJ (aa gU) "k":=by decide +kernel
theorem lG:(aa gU).names.lookup ("_law_cell_at":Str)=some NameKind.globalImplicit:=by decide +kernel
theorem pP:aJ (aa gU) "script":=by decide +kernel
theorem lH:(("_law_cell_at":Str)==("__debug__":Str))=false:=by decide +kernel
theorem JG {f g:Addr}{fd gd:FuncData} (dN:FnT K mg "_law_pool" gU ["script","k"] f fd) (dW:FnT K mg "_law_cell_at" eF ["script","k"] g gd) (xW:bF P w K mg base CX0 1 g gd ["script","k"] (Qv K)) (T:Blt mg):
 bF P w K mg base CX0 2 f fd ["script","k"] (KD K):=by
 refine dN.F.okQ JF (fun vs H Q E h=> ?_) (fun cdv A outer s H vs Q E hr h=> ?_)
 ·obtain⟨a,ns,k,rfl,_⟩:=h
  rfl
 obtain⟨a,ns,k,rfl,hS,h0,h1,q⟩:=h
 refine⟨_,(aH (bH (TX (GJ cC (aZ (xW.mono (by omega)) hr lG dW.m dW.F.kp dW.b .nil bO (aV (ao 0 pP) (aV (ao 1 xV) aC)) lH) (GJ cC (Ai gB (dz mY (aZ (xW.mono (by omega)) hr lG dW.m dW.F.kp dW.b .nil bO (aV (ao 0 pP) (ir aB aC)) lH) aB) aB (bz _)) (GJ cC (dz lW aB (dz tO aB (ao 1 xV))) YF)))))), ?_⟩
 walk_at "vs"
 intro p hp
 have s1:=aG (.dK []) hp
 have hS1:=SqL.same s1 hS
 have e1:upd H p (.dK []) p=some (.dK []):=aq
 generalize upd H p (.dK [])=H1 at *
 walk_at "vs"
 intro n1
 walk_at "vs"
 intro n2
 walk_at "vs"
 refine⟨pC n1 (decide (V.int (n2 % 2)=V.int 1)) (3+5 * k),rfl,by show 3<=15;decide, ?_⟩
 have em:Ah [] (pC n1 (decide (V.int (n2 % 2)=V.int 1)) (3+5 * k))=pC n1 (decide (V.int (n2 % 2)=V.int 1)) (3+5 * k):=rfl
 rw[em]
 exact q p _ (dD _ hp s1) hp ⟨_,_,_,aq,by omega,by omega⟩
abbrev dO:Stmt:=top 27
theorem nu:bU ["pool","many","rest"] ["pool","many"] (aa dO):=⟨rfl,rfl,rfl,by decide +kernel,rfl,by decide +kernel,by decide +kernel⟩
theorem j9:Loc (aa dO) "rest":=by decide +kernel
theorem fL:aJ (aa dO) "pool":=by decide +kernel
theorem dG:aJ (aa dO) "rest":=by decide +kernel
theorem mV:aJ (aa dO) "many":=by decide +kernel
theorem JH {f:Addr}{fd:FuncData} (aF:FnT K mg "_law_take" dO ["pool","many"] f fd) (T:Blt mg):bF P w K mg base CX0 1 f fd ["pool","many"] yj:=by
 refine aF.F.okQ nu (fun vs H Q E h=> ?_) (fun cdv A outer s H vs Q E hr h=> ?_)
 ·obtain⟨p,c,many,rfl,_⟩:=h
  rfl
 obtain⟨p,c,many,rfl,⟨rest,mixed,count,e,h0,h1⟩,hc,hm,hlg,q⟩:=h
 refine⟨_,(aA (bV (i:=2) nu.nd rfl j9 (cR (cA hr) (ao 0 fL) cC))
  (aA (dh (GD (tM (cR (cA hr) (ao 0 fL) cC))) (aA (j0 (cA hr) (ao 0 fL) cC (dz Im (ao 2 dG) (ao 1 mV)))
  (aH (bH (dz mY (ao 2 dG) (ao 1 mV))))) cH)
  (aA (j0 (cA hr) (ao 0 fL) cC (dz lW (cR (cA hr) (ao 0 fL) cC) aB))
  (aA (bV (i:=2) nu.nd rfl j9 (dz lW (dz mY (ao 2 dG) aB) (dz tO aB (cR (cA hr) (ao 0 fL) cC))))
  (aA (bV (i:=2) nu.nd rfl j9 (dz mY (dz tO (ao 2 dG) (dz lW (ao 2 dG) aB)) aB))
  (aA (bV (i:=2) nu.nd rfl j9 (dz mY (dz tO (ao 2 dG) (ao 2 dG)) aB))
  (aA (j0 (cA hr) (ao 0 fL) cC (ao 2 dG))
  (aH (bH (dz mY (dz Im (ao 2 dG) aB) (ao 1 mV))))))))))), ?_⟩
 have d1:=Ga e
 have d2:=KH e
 have d3:=Dl e
 walk_at "vs"
 cases mixed with
 | false=>
   walk_at "vs"
   refine And.intro (xR e _) ?_
   walk_at "vs"
   exact q _ _ (Int.emod_nonneg _ (by omega)) (Int.emod_lt_of_pos _ hm) (But.set _ (by simp)) ⟨_,_,_,aq,h0,by omega⟩
 | true=>
   walk_at "vs"
   refine And.intro (Dm e _) ?_
   have e2:upd H p (.dK (pC rest true (count+1))) p=some (.dK (pC rest true (count+1))):=aq
   have b2:But [p] H (upd H p (.dK (pC rest true (count+1)))):=But.set _ (by simp)
   clear d1 d2 d3
   generalize upd H p (.dK (pC rest true (count+1)))=H2 at *
   have d1:=Ga e2
   have d3:=Dl e2
   have r0:=Int.emod_nonneg rest (show(1000000000163:Int)≠0 by decide)
   have r1:=Int.emod_lt_of_pos rest (show(0:Int)<1000000000163 by decide)
   have m1:Cz 70001 (count+1):= .inl ⟨by decide,by decide⟩
   have m2:Cz (rest % 1000000000163+70001 *(count+1)) (rest % 1000000000163+70001 *(count+1)+29):= .inl ⟨by omega,by omega⟩
   have z1:=Int.emod_nonneg ((rest % 1000000000163+70001 *(count+1))*(rest % 1000000000163+70001 *(count+1)+29)) (show(1000000000193:Int)≠0 by decide)
   have z2:=Int.emod_lt_of_pos ((rest % 1000000000163+70001 *(count+1))*(rest % 1000000000163+70001 *(count+1)+29)) (show(0:Int)<1000000000193 by decide)
   walk_at "vs"
   refine And.intro (xR e2 _) ?_
   walk_at "vs"
   exact q _ _ (Int.emod_nonneg _ (by omega)) (Int.emod_lt_of_pos _ hm) (b2.trans (But.set _ (by simp))) ⟨_,_,_,aq,by omega,by omega⟩
abbrev iM:Stmt:=top 28
theorem Bx:bU ["k","letters"] ["k"] (aa iM):=⟨rfl,rfl,rfl,by decide +kernel,rfl,by decide +kernel,by decide +kernel⟩
theorem xg:Loc (aa iM) "letters":=by decide +kernel
theorem oh:aJ (aa iM) "letters":=by decide +kernel
theorem qW:aJ (aa iM) "k":=by decide +kernel
theorem JK {f:Addr}{fd:FuncData} (eZ:FnT K mg "_law_name" iM ["k"] f fd) (T:Blt mg):bF P w K mg base CX0 1 f fd ["k"] Jb:=by
 refine eZ.F.okQ Bx (fun vs H Q E h=> ?_) (fun cdv A outer s H vs Q E hr h=> ?_)
 ·obtain⟨k,rfl,_⟩:=h
  rfl
 obtain⟨k,rfl,hk,q⟩:=h
 refine⟨_,(aA (bV (i:=1) Bx.nd rfl xg cC)
  (aH (bH (dz Io (aM Mt (ao 1 oh) (dz mY (ao 0 qW) aB)) (dz Qu (aM Mt (ao 1 oh) (dz mY (dz tO (ao 0 qW) aB) aB)) (dz mY (dz tO (ao 0 qW) aB) aB)))))), ?_⟩
 have l1:=Qw (n:=(k:Int) % 26) (i:=k % 26) (by omega) (by omega)
 have l2:=Qw (n:=(k:Int)* 7 % 26) (i:=k * 7 % 26) (by omega) (by omega)
 have zl:("abcdefghijklmnopqrstuvwxyz":Str).length<=sizeLine:=by decide +kernel
 have m1:Cz (k:Int) 7:= .inr ⟨by decide,by decide⟩
 have m2:Cz (k:Int) 5:= .inr ⟨by decide,by decide⟩
 have n0:0<=(k:Int)* 5 % 8:=by omega
 have n1:(k:Int)* 5 % 8<=1000:=by omega
 have o1:(⟨#[k * 7 % 26+97]⟩:Str).length<=1000:=by show 1<=1000;decide
 have en:((k:Int)* 5 % 8).toNat=k * 5 % 8:=by omega
 have q':Q (.str (ltr (k % 26)++Dk (ltr (k * 7 % 26)) ((k:Int)* 5 % 8).toNat)) H:=by rw[en];exact q
 have zz:(⟨#[k % 26+97]⟩:Str).length+(Dk (⟨#[k * 7 % 26+97]⟩:Str) ((k:Int)* 5 % 8).toNat).length<=sizeLine:=by
  rw[Um,en,sizeLine_eq]
  show 1+k * 5 % 8 * 1<=_
  omega
 walk_at "vs"
 exact q'
end
section
variable {P:Program}{w:World}{K:PySem.W.Frag}{mg:Str->Option Value}{base:Heap}
abbrev fM:Stmt:=top 29
theorem JL:bU ["pool","names"] ["pool","names"] (aa fM):=⟨rfl,rfl,rfl,by decide +kernel,rfl,by decide +kernel,by decide +kernel⟩
theorem fD:(aa fM).names.lookup ("_law_take":Str)=some NameKind.globalImplicit:=by decide +kernel
theorem iZ:aJ (aa fM) "pool":=by decide +kernel
theorem fG:(("_law_take":Str)==("__debug__":Str))=false:=by decide +kernel
theorem mC:aJ (aa fM) "names":=by decide +kernel
theorem Ca:(aa fM).names.lookup ("len":Str)=some NameKind.globalImplicit:=by decide +kernel
theorem Cd:("len":Str)≠"__name__":=by decide +kernel
theorem Ce:(("len":Str)==("__debug__":Str))=false:=by decide +kernel
theorem JM {f g:Addr}{fd gd:FuncData} (fc:FnT K mg "_law_leaf" fM ["pool","names"] f fd) (aF:FnT K mg "_law_take" dO ["pool","many"] g gd) (bJ:bF P w K mg base CX0 1 g gd ["pool","many"] yj) (T:Blt mg):
 bF P w K mg base CX0 2 f fd ["pool","names"] MN:=by
 refine fc.F.okQ JL (fun vs H Q E h=> ?_) (fun cdv A outer s H vs Q E hr h=> ?_)
 ·obtain⟨p,l,c,ns,rfl,_⟩:=h
  rfl
 obtain⟨p,l,c,ns,rfl,hp,hc,el,hn1,hn9,hg,q⟩:=h
 refine⟨_,(aA (dh (Dd (FT (cD (Ub hr.units) (ao 1 mC) (gK aC) (bz _)) (Aj (cD gB (aZ (bJ.mono (by omega)) hr fD aF.m aF.F.kp aF.b .nil bO (aV (ao 0 iZ) (ir aB aC)) fG) aB (bz _))))) (aH (bH (fQ (ir cC (jC (aM d8 (gK (zB (dz mX (aZ (bJ.mono (by omega)) hr fD aF.m aF.F.kp aF.b .nil bO (aV (ao 0 iZ) (ir aB aC)) fG) aB) (zB (dz mX (aZ (bJ.mono (by omega)) hr fD aF.m aF.F.kp aF.b .nil bO (aV (ao 0 iZ) (zB (dz GP aB aB) aC)) fG) (dz GP aB aB)) aC))) (aZ (bJ.mono (by omega)) hr fD aF.m aF.F.kp aF.b .nil bO (aV (ao 0 iZ) (ir aB aC)) fG)) aC))))) cH)
  (aH (bH (fQ (ir cC (jC (aM d8 (ao 1 mC) (aZ (bJ.mono (by omega)) hr fD aF.m aF.F.kp aF.b .nil bO (aV (ao 0 iZ) (wN (eN jL Ca T.zA tL (aV (ao 1 mC) aC) Cd Ce) aC)) fG)) aC)))))), ?_⟩
 have nlp:=hp.nel el
 have cp1:Su 10 20:=⟨by decide,by decide,by decide⟩
 have cp2:Su 10 19:=⟨by decide,by decide,by decide⟩
 have p20:(10:Int)^(20:Int).toNat=100000000000000000000:=by decide +kernel
 have p19:(10:Int)^(19:Int).toNat=10000000000000000000:=by decide +kernel
 have hq0:0<(10:Int)^(20:Int).toNat:=by rw[p20];omega
 have hql:((10:Int)^(20:Int).toNat).natAbs.log2<9000:=by rw[p20];decide +kernel
 walk_at "vs"
 intro pe hpe
 have npe:pe∉[p]:=fun z=>hp.ne hpe (by simpa using z)
 have S1:=aG (.lst []) hpe
 have B1:But [p] H (upd H pe (.lst [])):=But.of_same S1
 have pl1:=hp.same S1
 have el1:=S1 _ _ el
 have e1:upd H pe (.lst []) pe=some (.lst []):=aq
 generalize upd H pe (.lst [])=H1 at *
 refine⟨_,_, .lst (SqL.of el1) (tK _), .lst (SqL.of e1) .nil,Dr hg,by decide, ?_⟩
 rw[MJ hn1]
 walk_at "vs"
 intro n2 H2 n20 n21 b2 pl2
 have B2:=B1.trans b2
 have el2:=B2 _ _ nlp el
 walk_at "vs"
 refine zg (fun c1=> ?_) (fun c1=> ?_)
 ·walk_at "vs"
  intro n3 H3 n30 n31 b3 pl3
  walk_at "vs"
  intro n4 H4 n40 n41 b4 pl4
  have afz:n4<(10:Int)^(20:Int).toNat:=n41
  rw[p20] at afz
  have B4:=B2.trans (b3.trans b4)
  walk_at "vs"
  intro ps hps
  have nps:ps∉[p]:=fun z=>pl4.ne hps (by simpa using z)
  have afA:=iB B4 hps nps
  have S5:=aG (.lst [V.int (n3 - 4),V.int (n4 - (10:Int)^(19:Int).toNat)]) hps
  have e5:upd H4 ps (.lst [V.int (n3 - 4),V.int (n4 - (10:Int)^(19:Int).toNat)]) ps=some (.lst [V.int (n3 - 4),V.int (n4 - 10000000000000000000)]):=by rw[p19];exact aq
  have B5:But [p] H (upd H4 ps (.lst [V.int (n3 - 4),V.int (n4 - (10:Int)^(19:Int).toNat)])):=B4.upd _ afA
  have pl5:=pl4.same S5
  generalize upd H4 ps (.lst [V.int (n3 - 4),V.int (n4 - (10:Int)^(19:Int).toNat)])=H5 at *
  walk_at "vs"
  intro n6 H6 n60 n61 b6 pl6
  have B6:=B5.trans b6
  have e6:=b6 _ _ nps e5
  obtain⟨v,hv,hv1⟩:∃v:Int,atI [V.int (n3 - 4),V.int (n4 - 10000000000000000000)] n6=some (.int v)/\v.natAbs<10 ^ 40:=by
   have:n6=0\/n6=1:=by omega
   rcases this with rfl | rfl
   ·exact⟨n3 - 4,rfl,by omega⟩
   ·exact⟨n4 - 10000000000000000000,rfl,by omega⟩
  walk_at "vs"
  intro p8 hp8
  have afB:=iB B6 hp8 (fun z=>pl6.ne hp8 (by simpa using z))
  exact q p8 (.num v) _ (B6.upd _ afB) ((pl6.same (aG _ hp8)).mono (by omega)) (.num aq) ⟨hv1,trivial,trivial,Nat.le_refl _⟩
 ·have hlm:(ns.map V.str).length=ns.length:=List.length_map _
  have hl0:0<((ns.map V.str).length:Int):=by rw[hlm];omega
  have hlog:((ns.map V.str).length:Int).natAbs.log2<9000:=by
   rw[hlm]
   exact Nat.lt_of_le_of_lt (Nat.log2_le_self _) (by omega)
  walk_at "vs"
  intro n6 H8 n60 n61 b8 pl8
  have B8:=B2.trans b8
  have el8:=B8 _ _ nlp el
  obtain⟨x,hx,hxm⟩:∃x,atI (ns.map V.str) n6=some (.str x)/\x∈ns:=by
   obtain⟨j,rfl⟩:=Int.eq_ofNat_of_zero_le n60
   have hj:j<ns.length:=by rw[hlm] at n61;omega
   exact⟨ns[j],fW (by rw[List.getElem?_map,List.getElem?_eq_getElem hj];rfl),List.getElem_mem hj⟩
  walk_at "vs"
  intro p9 hp9
  have Hl:=iB B8 hp9 (fun z=>pl8.ne hp9 (by simpa using z))
  exact q p9 (.rd x) _ (B8.upd _ Hl) ((pl8.same (aG _ hp9)).mono (by omega)) (.rd aq) ⟨hg x hxm,trivial,hxm,Nat.le_refl _⟩
end
section
variable {P:Program}{w:World}{K:PySem.W.Frag}{mg:Str->Option Value}{base:Heap}
abbrev bf:Stmt:=top 30
theorem mZ:bU ["pool","names","deep","way","one","other"] ["pool","names","deep"] (aa bf):=⟨rfl,rfl,rfl,by decide +kernel,rfl,by decide +kernel,by decide +kernel⟩
theorem zQ:Loc (aa bf) "way":=by decide +kernel
theorem jb:(aa bf).names.lookup ("_law_take":Str)=some NameKind.globalImplicit:=by decide +kernel
theorem d7:aJ (aa bf) "pool":=by decide +kernel
theorem gb:(("_law_take":Str)==("__debug__":Str))=false:=by decide +kernel
theorem iC:aJ (aa bf) "way":=by decide +kernel
theorem jm:aJ (aa bf) "deep":=by decide +kernel
theorem sS:(aa bf).names.lookup ("_law_leaf":Str)=some NameKind.globalImplicit:=by decide +kernel
theorem gq:aJ (aa bf) "names":=by decide +kernel
theorem sU:(("_law_leaf":Str)==("__debug__":Str))=false:=by decide +kernel
theorem zR:Loc (aa bf) "one":=by decide +kernel
theorem iw:(aa bf).names.lookup ("_law_recipe":Str)=some NameKind.globalImplicit:=by decide +kernel
theorem iy:(("_law_recipe":Str)==("__debug__":Str))=false:=by decide +kernel
theorem jJ:aJ (aa bf) "one":=by decide +kernel
theorem xj:(aa bf).names.lookup ("tuple":Str)=some NameKind.globalImplicit:=by decide +kernel
theorem xm:(aa bf).names.lookup ("range":Str)=some NameKind.globalImplicit:=by decide +kernel
theorem zT:("len":Str)≠"__name__":=by decide +kernel
theorem zU:(("len":Str)==("__debug__":Str))=false:=by decide +kernel
theorem xq:("tuple":Str)≠"__name__":=by decide +kernel
theorem xr:(("tuple":Str)==("__debug__":Str))=false:=by decide +kernel
theorem xu:Loc (aa bf) "other":=by decide +kernel
theorem oA:aJ (aa bf) "other":=by decide +kernel
theorem uC {d:Nat}{f g0 g1:Addr}{fd gd0 gd1:FuncData} (bx:FnT K mg "_law_recipe" bf ["pool","names","deep"] f fd) (aF:FnT K mg "_law_take" dO ["pool","many"] g0 gd0) (bJ:bF P w K mg base CX0 1 g0 gd0 ["pool","many"] yj)
 (fc:FnT K mg "_law_leaf" fM ["pool","names"] g1 gd1) (lM:bF P w K mg base CX0 2 g1 gd1 ["pool","names"] MN) (mD:bF P w K mg base CX0 (d+2) f fd ["pool","names","deep"] (afj d)) (T:Blt mg):
 bF P w K mg base CX0 (d+3) f fd ["pool","names","deep"] (QC d):=by
 refine bx.F.okQ mZ (fun vs H Q E h=> ?_) (fun cdv A outer s H vs Q E hr h=> ?_)
 ·obtain⟨p,l,c,ns,deep,rfl,_⟩:=h
  rfl
 obtain⟨p,l,c,ns,deep,rfl,hdeep,hd3,hp,hc,el,hn1,hn9,hg,q⟩:=h
 refine⟨_,(aA (bV (i:=3) mZ.nd rfl zQ (aZ (bJ.mono (by omega)) hr jb aF.m aF.F.kp aF.b .nil bO (aV (ao 0 d7) (ir aB aC)) gb))
  (aA (dh (Dd (FT (cD gB (ao 2 jm) aB (bz _)) (Aj (cD gB (ao 3 iC) aB (bz _))))) (aH (bH (aZ (lM.mono (by omega)) hr sS fc.m fc.F.kp fc.b .nil bO (aV (ao 0 d7) (aV (ao 1 gq) aC)) sU))) cH)
  (aA (bV (i:=4) mZ.nd rfl zR (aZ (mD.mono (by omega)) hr iw bx.m bx.F.kp bx.b .nil bO (aV (ao 0 d7) (aV (ao 1 gq) (zB (dz mX (ao 2 jm) aB) aC))) iy))
  (aA (dh (cD gB (ao 3 iC) aB (bz _)) (aH (bH (fQ (ir cC (aV (ao 4 jJ) (IW (fQ (ir cC (zB (dz mX (aZ (bJ.mono (by omega)) hr jb aF.m aF.F.kp aF.b .nil bO (aV (ao 0 d7) (ir aB aC)) gb) aB) aC))) aC)))))) cH)
  (aA (dh (Dd (Dc (cD gB (ao 3 iC) aB (bz _)) (zp (cD (Uc hr.units) (ao 1 gq) (gK aC) (bz _))))) (aH (bH (fQ (ir cC (aV (ao 4 jJ) (wN (mQ Ir xj T.GR CW (abZ (wF rfl (n:=1) (fr:=[1,0]) (N:=["k","names","pool"]) (CT (scX:=aa bf) (NX:=["pool","names","deep","way","one","other"]) rfl rfl (by decide +kernel)) (FW xm T.GQ (zB (dz lW aB (aZ (bJ.mono (by omega)) hr jb aF.m aF.F.kp aF.b .nil bO (aV (ao 0 d7) (ir aB aC)) gb)) aC)) (fun _ _ _ _ _=>(qgx (i:=0) (show List.Nodup (α:=Str) ["k","names","pool"] by decide) (Gz (by decide +kernel)))) (fun _ _ _ _ _=>Qk) (fun _ _ _ _ _=>(aM (FZ (K:=K) rfl) (ao 1 (lR.ok (by decide +kernel))) (aZ (bJ.mono (by omega)) hr (glC (by decide +kernel)) aF.m aF.F.kp aF.b .nil bO (aV (ao 2 (lR.ok (by decide +kernel))) (wN (eN (Iu (K:=K) rfl) (glC (by decide +kernel)) T.zA tL (aV (ao 1 (lR.ok (by decide +kernel))) aC) zT zU) aC)) gb)))) aC) xq xr) aC)))))) cH)
  (aA (bV (i:=5) mZ.nd rfl xu (aZ (mD.mono (by omega)) hr iw bx.m bx.F.kp bx.b .nil bO (aV (ao 0 d7) (aV (ao 1 gq) (zB (dz mX (ao 2 jm) aB) aC))) iy))
  (aA (dh (cD Qm (ao 3 iC) aB (bz _)) (aH (bH (fQ (ir cC (aV (ao 4 jJ) (aV (ao 5 oA) (wN (aZ (mD.mono (by omega)) hr iw bx.m bx.F.kp bx.b .nil bO (aV (ao 0 d7) (aV (ao 1 gq) (zB (dz mX (ao 2 jm) aB) aC))) iy) aC))))))) cH)
  (aH (bH (fQ (jC (aM d8 (gK (ir cC (ir cC (ir cC (ir cC aC))))) (dz mX (ao 3 iC) aB)) (aV (ao 4 jJ) (aV (ao 5 oA) aC))))))))))))), ?_⟩
 have ht:=Ur d
 have nlp:=hp.nel el
 walk_at "vs"
 intro kind H1 k0 k1 b1 pl1
 have el1:=b1 _ _ nlp el
 have leafq:∀a r H',But [p] H1 H'->fH H' p (c+1+6)->IsR H' a r->Rk3 ns 1 r->Q (.ref a) H':=fun a r H' b pl R ok=>
  q a r H' (b1.trans b) (pl.mono (by omega)) R ⟨ok.g,ok.t,ok.i,by have:=ok.d;omega⟩
 cases d with
 | zero=>
   have hdeep:deep=0:=hdeep
   subst hdeep
   walk_at "vs"
   exact leafq
 | succ d=>
   have hdeep:deep=(d:Int)+1:=hdeep
   have hnd:¬(deep=0):=by omega
   walk_at "vs"
   refine zg (fun c0=>absurd (V.int.inj (of_decide_eq_true c0)) hnd) (fun _=> ?_)
   walk_at "vs"
   refine zg (fun c0=> ?_) (fun c0=> ?_)
   ·walk_at "vs"
    exact leafq
   ·have c0':¬(kind=0):=fun z=>c0 (by rw[z];rfl)
    walk_at "vs"
    intro a1 r1 H2 b2 pl2 R1 ok1
    have B2:=b1.trans b2
    have el2:=B2 _ _ nlp el
    have htd:tk3 d<=170:=by
     have:d=0\/d=1\/d=2:=by omega
     rcases this with rfl | rfl | rfl<;>decide
    have et:tk3 (d+1)=3 * tk3 d+20:=rfl
    have od1:=ok1.d
    walk_at "vs"
    refine zg (fun c1=> ?_) (fun c1=> ?_)
    ·walk_at "vs"
     intro n3 H3 n30 n31 b3 pl3
     have B3:=B2.trans b3
     have R13:=R1.tups (pl2.tups b3)
     walk_at "vs"
     intro p4 hp4
     have afC:=iB B3 hp4 (fun z=>pl3.ne hp4 (by simpa using z))
     have S4:=aG (.tup [V.str "number",V.int (n3 - 3)]) hp4
     have R4:IsR (upd H3 p4 (.tup [V.str "number",V.int (n3 - 3)])) p4 (.num (n3 - 3)):= .num aq
     have B4:But [p] H (upd H3 p4 (.tup [V.str "number",V.int (n3 - 3)])):=B3.upd _ afC
     have pl4:=pl3.same S4
     have R14:=R13.same S4
     generalize upd H3 p4 (.tup [V.str "number",V.int (n3 - 3)])=H4 at *
     walk_at "vs"
     intro p9 hp9
     have Hl:=iB B4 hp9 (fun z=>pl4.ne hp9 (by simpa using z))
     have S:=aG (.tup [V.str "times", .ref a1, .ref p4]) hp9
     exact q p9 (.bin .times r1 (.num (n3 - 3))) _ (B4.upd _ Hl) ((pl4.same S).mono (by omega)) (.bin aq (R14.same S) (R4.same S)) ⟨⟨ok1.g,show(n3 - 3).natAbs<10 ^ 40 by omega⟩,⟨ok1.t,trivial,fun _=>⟨_,rfl,by omega,by omega⟩⟩,⟨ok1.i,trivial⟩,by show max r1.depth 1+1<=_;omega⟩
    ·have c1':¬(kind=1):=fun z=>c1 (by rw[z];rfl)
     have rest:∀(a2:Addr) (r2:R) (H3:Hp),But [p] H H3->fH H3 p (c+1+tk3 d+tk3 d)->IsR H3 a1 r1->IsR H3 a2 r2->Rk3 ns (d+1) r2->∀(op:Op),op≠ .times->∀p9,H3 p9=none->Q (.ref p9) (upd H3 p9 (.tup [.str op.word, .ref a1, .ref a2])):=by
      intro a2 r2 H3 b3 pl3 R1 R2 ok2 op hop p9 hp9
      have Hl:=iB b3 hp9 (fun z=>pl3.ne hp9 (by simpa using z))
      have S:=aG (.tup [.str op.word, .ref a1, .ref a2]) hp9
      have od2:=ok2.d
      exact q p9 (.bin op r1 r2) _ (b3.upd _ Hl) ((pl3.same S).mono (by omega)) (.bin aq (R1.same S) (R2.same S)) ⟨⟨ok1.g,ok2.g⟩,⟨ok1.t,ok2.t,fun z=>absurd z hop⟩,⟨ok1.i,ok2.i⟩,by show max r1.depth r2.depth+1<=_;omega⟩
     walk_at "vs"
     refine zg (fun c2=> ?_) (fun c2=> ?_)
     ·walk_at "vs"
      intro pe hpe
      have npe:pe∉[p]:=fun z=>pl2.ne hpe (by simpa using z)
      have afD:=iB B2 hpe npe
      have S2:=aG (.lst []) hpe
      have B3:But [p] H (upd H2 pe (.lst [])):=B2.upd _ afD
      have pl3:=pl2.same S2
      have el3:=S2 _ _ el2
      have R13:=R1.same S2
      have e3:upd H2 pe (.lst []) pe=some (.lst []):=aq
      generalize upd H2 pe (.lst [])=H3 at *
      refine⟨_,_, .lst (SqL.of el3) (tK _), .lst (SqL.of e3) .nil,Dr hg,by decide, ?_⟩
      rw[MJ hn1]
      walk_at "vs"
      intro n9 H4 n90 n91 b4 pl4
      have B4:=B3.trans b4
      have el4:=B4 _ _ nlp el
      have R14:=R13.tups (pl3.tups b4)
      walk_at "vs"
      have hlm:(ns.map V.str).length=ns.length:=List.length_map _
      have hl0:0<((ns.map V.str).length:Int):=by rw[hlm];omega
      have hlog:((ns.map V.str).length:Int).natAbs.log2<9000:=by
       rw[hlm]
       exact Nat.lt_of_le_of_lt (Nat.log2_le_self _) (by omega)
      intro D hD
      have nD:D∉[p]:=fun z=>pl4.ne hD (by simpa using z)
      have nDp:D≠p:=by simpa using nD
      have hD0:=iB B4 hD nD
      refine Kq (fun i σ' H'=>(∃t,σ'=t::[some (.ref l),some (.ref p)])/\∃ts:List Str,H' D=some (.lst (ts.map V.str))/\ts.length=i/\(∀x∈ts,x∈ns)/\But [p] H H'/\fH H' p (c+1+tk3 d+1+i)/\IsR H' a1 r1) ?_ ?_ ?_
      ·exact⟨⟨none,rfl⟩,[],aq,rfl,by simp,B4.upd _ hD0,pl4.same (aG _ hD),R14.same (aG _ hD)⟩
      ·intro i σ' H' hi hP
       obtain⟨⟨t,rfl⟩,ts,e,et',ho,hb,hpl,hR⟩:=hP
       have elH:=hb _ _ nlp el
       have hi9:(i:Int)<10:=by omega
       walk_at "vs"
       intro n6 H5 n60 n61 b5 pl5
       have hb5:=hb.trans b5
       have el5:=hb5 _ _ nlp el
       have e5:=b5 _ _ nD e
       have R5:=hR.tups (hpl.tups b5)
       obtain⟨x,hx,hxm⟩:∃x,atI (ns.map V.str) n6=some (.str x)/\x∈ns:=by
        obtain⟨j,rfl⟩:=Int.eq_ofNat_of_zero_le n60
        have hj:j<ns.length:=by rw[hlm] at n61;omega
        exact⟨ns[j],fW (by rw[List.getElem?_map,List.getElem?_eq_getElem hj];rfl),List.getElem_mem hj⟩
       have hz:(ts.map V.str).length<sizeLine:=by rw[List.length_map];exact cB (by omega)
       walk_at "vs"
       have afE:lq H5 (upd H5 D (.lst (ts.map V.str++[.str x]))):=fun q xs e'=>(au (fun z=>by rw[z,e5] at e';cases e')).trans e'
       refine⟨⟨_,rfl⟩,ts++[x], ?_,by rw[List.length_append,et'];rfl, ?_,hb5.upd _ hD0,pl5.keep (But.set _ (by simp)) (S:=[D]) (by simpa using Ne.symm nDp),R5.tups afE⟩
       ·rw[List.map_append];exact aq
       ·intro y hy
        rcases List.mem_append.mp hy with z | z
        ·exact ho y z
        ·have:y=x:=by simpa using z
         rw[this];exact hxm
      ·intro σ' H' hP
       obtain⟨_,ts,e,et',ho,hb,hpl,hR⟩:=hP
       walk_at "vs"
       intro pt hpt
       have afF:=iB hb hpt (fun z=>hpl.ne hpt (by simpa using z))
       have S5:=aG (.tup (ts.map V.str)) hpt
       walk_at "vs"
       intro p9 hp9
       have hb5:=hb.upd (.tup (ts.map V.str)) afF
       have pl5:=hpl.same S5
       have Hl:=iB hb5 hp9 (fun z=>pl5.ne hp9 (by simpa using z))
       have S6:=aG (.tup [.str "choose", .ref a1, .ref pt]) hp9
       exact q p9 (.cho r1 ts) _ (hb5.upd _ Hl) ((pl5.same S6).mono (by omega)) (.cho aq ((hR.same S5).same S6) (S6 _ _ aq)) ⟨⟨ok1.g,by omega,by omega,fun x hx=>hg x (ho x hx)⟩,⟨ok1.t,by omega⟩,⟨ok1.i,ho⟩,by show r1.depth+1<=_;omega⟩
     ·walk_at "vs"
      intro a2 r2 H3 b3 pl3 R2 ok2
      have B3:=B2.trans b3
      have el3:=B3 _ _ nlp el
      have R13:=R1.tups (pl2.tups b3)
      have od2:=ok2.d
      walk_at "vs"
      refine zg (fun c3=> ?_) (fun c3=> ?_)
      ·walk_at "vs"
       intro a3 r3 H4 b4 pl4 R3 ok3
       have B4:=B3.trans b4
       have R14:=R13.tups (pl3.tups b4)
       have R24:=R2.tups (pl3.tups b4)
       have od3:=ok3.d
       walk_at "vs"
       intro p9 hp9
       have Hl:=iB B4 hp9 (fun z=>pl4.ne hp9 (by simpa using z))
       have S:=aG (.tup [.str "pick", .ref a1, .ref a2, .ref a3]) hp9
       exact q p9 (.pick r1 r2 r3) _ (B4.upd _ Hl) ((pl4.same S).mono (by omega)) (.pick aq (R14.same S) (R24.same S) (R3.same S)) ⟨⟨ok1.g,ok2.g,ok3.g⟩,⟨ok1.t,ok2.t,ok3.t⟩,⟨ok1.i,ok2.i,ok3.i⟩,by show max r1.depth (max r2.depth r3.depth)+1<=_;omega⟩
      ·have c3':¬kind<5:=by simpa using c3
       obtain⟨op,hop,hat⟩:∃op:Op,op≠ .times/\atI [V.str "plus",V.str "minus",V.str "most",V.str "plus"] (kind - 5)=some (.str op.word):=by
        have hm:kind - 5=0\/kind - 5=1\/kind - 5=2\/kind - 5=3:=by omega
        rcases hm with hm | hm | hm | hm
        ·rw[hm];exact⟨.plus,by decide,rfl⟩
        ·rw[hm];exact⟨.minus,by decide,rfl⟩
        ·rw[hm];exact⟨.most,by decide,rfl⟩
        ·rw[hm];exact⟨.plus,by decide,rfl⟩
       walk_at "vs"
       intro pz hpz
       have npz:pz∉[p]:=fun z=>pl3.ne hpz (by simpa using z)
       have afG:=iB B3 hpz npz
       have S3:=aG (.lst [.str "plus", .str "minus", .str "most", .str "plus"]) hpz
       walk_at "vs"
       exact rest a2 r2 _ (B3.upd _ afG) (pl3.same S3) (R13.same S3) (R2.same S3) ok2 op hop
theorem xX {f g0 g1:Addr}{fd gd0 gd1:FuncData} (bx:FnT K mg "_law_recipe" bf ["pool","names","deep"] f fd) (aF:FnT K mg "_law_take" dO ["pool","many"] g0 gd0) (bJ:bF P w K mg base CX0 1 g0 gd0 ["pool","many"] yj)
 (fc:FnT K mg "_law_leaf" fM ["pool","names"] g1 gd1) (lM:bF P w K mg base CX0 2 g1 gd1 ["pool","names"] MN) (T:Blt mg):∀d,bF P w K mg base CX0 (d+3) f fd ["pool","names","deep"] (QC d)
 | 0=>uC bx aF bJ fc lM (never fun vs H Q E h=>h) T
 | d+1=>uC bx aF bJ fc lM (xX bx aF bJ fc lM T d) T
theorem En {f g0 g1:Addr}{fd gd0 gd1:FuncData} (bx:FnT K mg "_law_recipe" bf ["pool","names","deep"] f fd) (aF:FnT K mg "_law_take" dO ["pool","many"] g0 gd0) (bJ:bF P w K mg base CX0 1 g0 gd0 ["pool","many"] yj)
 (fc:FnT K mg "_law_leaf" fM ["pool","names"] g1 gd1) (lM:bF P w K mg base CX0 2 g1 gd1 ["pool","names"] MN) (T:Blt mg):bF P w K mg base CX0 6 f fd ["pool","names","deep"] Wz:=by
 have ok:=xX bx aF bJ fc lM T
 refine⟨fun vs H Q E h=> ?_,fun A outer s H args us vs Q E hr he hb hv hs=> ?_⟩
 ·obtain⟨p,l,c,ns,deep,rfl,_⟩:=h
  rfl
 ·obtain⟨p,l,c,ns,deep,rfl,h0,h4,hp,hc,el,hn1,hn9,hg,q⟩:=hs
  obtain⟨d,rfl⟩:=Int.eq_ofNat_of_zero_le h0
  have hd:d=0\/d=1\/d=2\/d=3:=by omega
  have ht:tk3 d<=530:=by rcases hd with rfl | rfl | rfl | rfl<;>decide
  exact((ok d).mono (by omega)).run A outer s H args us _ Q E hr he hb hv ⟨p,l,c,ns,_,rfl,rfl,by omega,hp,by omega,el,hn1,hn9,hg,fun a r H' b pl R o=>q a r H' b (pl.mono (by omega)) R ⟨o.g,o.t,o.i,by have:=o.d;omega⟩⟩
end
section
variable {P:Program}{w:World}{K:PySem.W.Frag}{mg:Str->Option Value}{base:Heap}
abbrev bB:Stmt:=top 31
theorem kh:bU ["script","start","many","given","recipes","names","k","pool"] ["script","start","many"] (aa bB):=⟨rfl,rfl,rfl,by decide +kernel,rfl,by decide +kernel,by decide +kernel⟩
theorem yN:Loc (aa bB) "given":=by decide +kernel
theorem v7:Loc (aa bB) "recipes":=by decide +kernel
theorem yO:Loc (aa bB) "names":=by decide +kernel
theorem yP:(aa bB).names.lookup ("range":Str)=some NameKind.globalImplicit:=by decide +kernel
theorem zV:aJ (aa bB) "many":=by decide +kernel
theorem Eo:Loc (aa bB) "k":=by decide +kernel
theorem zW:Loc (aa bB) "pool":=by decide +kernel
theorem uo:(aa bB).names.lookup ("_law_pool":Str)=some NameKind.globalImplicit:=by decide +kernel
theorem yQ:aJ (aa bB) "start":=by decide +kernel
theorem jV:aJ (aa bB) "k":=by decide +kernel
theorem xx:aJ (aa bB) "script":=by decide +kernel
theorem uq:(("_law_pool":Str)==("__debug__":Str))=false:=by decide +kernel
theorem jn:(aa bB).names.lookup ("_law_take":Str)=some NameKind.globalImplicit:=by decide +kernel
theorem jK:aJ (aa bB) "pool":=by decide +kernel
theorem jo:(("_law_take":Str)==("__debug__":Str))=false:=by decide +kernel
theorem pQ:aJ (aa bB) "given":=by decide +kernel
theorem jq:(aa bB).names.lookup ("_law_name":Str)=some NameKind.globalImplicit:=by decide +kernel
theorem jr:(("_law_name":Str)==("__debug__":Str))=false:=by decide +kernel
theorem nC:aJ (aa bB) "recipes":=by decide +kernel
theorem qX:(aa bB).names.lookup ("_law_recipe":Str)=some NameKind.globalImplicit:=by decide +kernel
theorem pR:aJ (aa bB) "names":=by decide +kernel
theorem qY:(("_law_recipe":Str)==("__debug__":Str))=false:=by decide +kernel
theorem Ho {f g0 g1 g2 g3:Addr}{fd gd0 gd1 gd2 gd3:FuncData} (jg:FnT K mg "_law_house" bB ["script","start","many"] f fd) (aF:FnT K mg "_law_take" dO ["pool","many"] g0 gd0) (bJ:bF P w K mg base CX0 1 g0 gd0 ["pool","many"] yj)
 (dN:FnT K mg "_law_pool" gU ["script","k"] g1 gd1) (ur:bF P w K mg base CX0 2 g1 gd1 ["script","k"] (KD K)) (eZ:FnT K mg "_law_name" iM ["k"] g2 gd2) (yR:bF P w K mg base CX0 1 g2 gd2 ["k"] Jb)
 (bx:FnT K mg "_law_recipe" bf ["pool","names","deep"] g3 gd3) (mD:bF P w K mg base CX0 6 g3 gd3 ["pool","names","deep"] Wz) (T:Blt mg):bF P w K mg base CX0 7 f fd ["script","start","many"] (WD K):=by
 refine jg.F.okQ kh (fun vs H Q E h=> ?_) (fun cdv A outer s H vs Q E hr h=> ?_)
 ·obtain⟨a,zs,start,many,rfl,_⟩:=h
  rfl
 obtain⟨a,zs,start,many,rfl,hS,h0,h50,hm,q⟩:=h
 refine⟨_,(aA (bV (i:=3) kh.nd rfl yN lX)
  (aA (bV (i:=4) kh.nd rfl v7 lX)
  (aA (bV (i:=5) kh.nd rfl yO (gK aC))
  (aA (ye PassesOwn.never rfl (FW yP T.GQ (aV (ao 2 zV) aC)) (lV (i:=6) kh.nd rfl Eo) (aA (bV (i:=7) kh.nd rfl zW (aZ (ur.mono (by omega)) hr uo dN.m dN.F.kp dN.b .nil bO (aV (ao 0 xx) (zB (dz lW (ao 1 yQ) (ao 6 jV)) aC)) uq))
  (aA (dh (Dd (FT (cD gB (ao 6 jV) aB (bz _)) (Aj (cD gB (aZ (bJ.mono (by omega)) hr jn aF.m aF.F.kp aF.b .nil bO (aV (ao 7 jK) (ir aB aC)) jo) aB (bz _))))) (aH (j0 (cA hr) (ao 3 pQ) (aZ (yR.mono (by omega)) hr jq eZ.m eZ.F.kp eZ.b .nil bO (aV (ao 6 jV) aC) jr) (dz mX (aZ (bJ.mono (by omega)) hr jn aF.m aF.F.kp aF.b .nil bO (aV (ao 7 jK) (ir aB aC)) jo) aB))) (aH (j0 (cA hr) (ao 4 nC) (aZ (yR.mono (by omega)) hr jq eZ.m eZ.F.kp eZ.b .nil bO (aV (ao 6 jV) aC) jr) (aZ (mD.mono (by omega)) hr qX bx.m bx.F.kp bx.b .nil bO (aV (ao 7 jK) (jC (Ik Ip (ao 5 pR) (Ms (Ij zy aB)) Mr) (jC (aM d8 (gK (ir aB (ir aB (ir aB aC)))) (aZ (bJ.mono (by omega)) hr jn aF.m aF.F.kp aF.b .nil bO (aV (ao 7 jK) (ir aB aC)) jo)) aC))) qY))))
  (aH (gA (rG PySem.F.plainAttrs_list PySem.F.slot_list_append PySem.F.type_list_append iH (ao 5 pR) (wN (aZ (yR.mono (by omega)) hr jq eZ.m eZ.F.kp eZ.b .nil bO (aV (ao 6 jV) aC) jr) aC)))))))
  (aH (bH (fQ (aV (ao 3 pQ) (aV (ao 4 nC) aC))))))))), ?_⟩
 walk_at "vs"
 intro g hg0
 have s1:=aG (.dK []) hg0
 have e1:upd H g (.dK []) g=some (.dK []):=aq
 generalize upd H g (.dK [])=H1 at *
 walk_at "vs"
 intro c hc1
 have s2:=aG (.dK []) hc1
 have e12:=s2 _ _ e1
 have e2:upd H1 c (.dK []) c=some (.dK []):=aq
 have ngc:g≠c:=fun z=>by rw[<-z,e1] at hc1;cases hc1
 have hc0:=same_none s1 hc1
 have S2:=s1.trans s2
 generalize upd H1 c (.dK [])=H2 at *
 walk_at "vs"
 intro l hl2
 have s3:=aG (.lst []) hl2
 have e13:=s3 _ _ e12
 have e23:=s3 _ _ e2
 have e3:upd H2 l (.lst []) l=some (.lst ((nmK 0).map V.str)):=aq
 have hl0:=same_none S2 hl2
 have S3:=S2.trans s3
 generalize upd H2 l (.lst [])=H3 at *
 clear s1 s2 s3 S2 e12 e1 e2 hc1 hl2
 refine⟨_,rfl,_,rfl,by omega,by omega, ?_⟩
 refine Fq (fun i σ H'=>(∃t u,σ=[some (.ref a),some (.int start),some (.int many),some (.ref g),some (.ref c),some (.ref l),t,u])/\aN H H'/\∃gv rc kg kc,H' g=some (.dK kg)/\H' c=some (.dK kc)/\H' l=some (.lst ((nmK i).map V.str))/\Bld H' kg kc i gv rc) ?_ ?_ ?_
 ·exact⟨⟨none,none,rfl⟩,S3,kn0,fun _=>none,[],[],e13,e23,e3,⟨fun k hk=>by omega,fun x hx=>absurd rfl hx,fun x r e=>(by cases e),fun x hx=>absurd rfl hx,fun z=>by omega⟩,⟨[],[],⟨rfl,by simp⟩,⟨rfl,by simp⟩,rfl⟩,fun x=>rfl,fun x r e=>(by cases e),fun x _=>rfl⟩
 ·intro i σ H4 hi hP
  obtain⟨⟨t,u,rfl⟩,S4,gv,rc,kg,kc,eg4,ec4,el4,bd⟩:=hP
  have air:i<17:=by
   have:i<(many:Int).toNat:=hi
   omega
  have hS4:=SqL.same S4 hS
  have ei:(0+(i:Int))=(i:Int):=by omega
  obtain⟨gs,cs,kgk,kck,hlen⟩:=bd.k
  have lg:=kgk.len
  have lc:=kck.len
  rw[ei]
  walk_at "vs"
  intro p H5 s5 hp5 pl5
  have S5:=S4.trans s5
  have hp0:=same_none S4 hp5
  have eg5:=s5 _ _ eg4
  have ec5:=s5 _ _ ec4
  have el5:=s5 _ _ el4
  have bd5:=bd.tups (aN.tups s5)
  have fr:∀y∈[p],H y=none:=fun y hy=>by
   have:y=p:=by simpa using hy
   rw[this];exact hp0
  have ngp:g∉[p]:=fun z=>by
   have:g=p:=by simpa using z
   rw[<-this,eg4] at hp5;cases hp5
  have ncp:c∉[p]:=fun z=>by
   have:c=p:=by simpa using z
   rw[<-this,ec4] at hp5;cases hp5
  have nlp:=pl5.nel el5
  have ngl:g≠l:=fun z=>by rw[z,el5] at eg5;cases eg5
  have ncl:c≠l:=fun z=>by rw[z,el5] at ec5;cases ec5
  have hzl:((nmK i).map V.str).length<sizeLine:=by rw[List.length_map,lZ];exact cB (by omega)
  have done:∀(H6:Hp) (σ6:L2.St) gv rc kg kc,(∃t u,σ6=[some (.ref a),some (.int start),some (.int many),some (.ref g),some (.ref c),some (.ref l),t,u])->aN H H6->H6 g=some (.dK kg)->H6 c=some (.dK kc)->H6 l=some (.lst ((nmK i).map V.str))->Bld H6 kg kc (i+1) gv rc->
   (∃t u,σ6=[some (.ref a),some (.int start),some (.int many),some (.ref g),some (.ref c),some (.ref l),t,u])/\aN H (upd H6 l (.lst ((nmK i).map V.str++[.str (aD i)])))/\∃gv rc kg kc,(upd H6 l (.lst ((nmK i).map V.str++[.str (aD i)]))) g=some (.dK kg)/\(upd H6 l (.lst ((nmK i).map V.str++[.str (aD i)]))) c=some (.dK kc)/\(upd H6 l (.lst ((nmK i).map V.str++[.str (aD i)]))) l=some (.lst ((nmK (i+1)).map V.str))/\Bld (upd H6 l (.lst ((nmK i).map V.str++[.str (aD i)]))) kg kc (i+1) gv rc:=by
   intro H6 σ6 gv rc kg kc hσ S6 e1 e2 e3 b
   refine⟨hσ,dD _ hl0 S6,gv,rc,kg,kc,(au ngl).trans e1,(au ncl).trans e2, ?_,b.tups fun y xs z=>(au (fun w=>by rw[w,e3] at z;cases z)).trans z⟩
   rw[aq,Dt,List.map_append];rfl
  walk_at "vs"
  refine zg (fun c1=> ?_) (fun c1=> ?_)
  ·walk_at "vs"
   intro n7 H7 n70 n71 b7 pl7
   have B7:=b7
   have S7:=gn S5 fr B7
   have eg7:=B7 _ _ ngp eg5
   have ec7:=B7 _ _ ncp ec5
   have el7:=B7 _ _ nlp el5
   have bd7:=bd5.tups (pl5.tups B7)
   have dp:lQ H7 g (.str (aD i)) (.int (n7 - 6)) (upd H7 g (.dK (putK kg (.inr (aD i)) (.int (n7 - 6))))):=lQ.k (k:= .inr (aD i)) eg7 (cB (by omega))
   walk_at "vs"
   have t8:lq H7 (upd H7 g (.dK (putK kg (.inr (aD i)) (.int (n7 - 6))))):=fun y xs z=>(au (fun w=>by rw[w,eg7] at z;cases z)).trans z
   have el8:upd H7 g (.dK (putK kg (.inr (aD i)) (.int (n7 - 6)))) l=some (.lst ((nmK i).map V.str)):=(au (Ne.symm ngl)).trans el7
   have ec8:upd H7 g (.dK (putK kg (.inr (aD i)) (.int (n7 - 6)))) c=some (.dK kc):=(au (Ne.symm ngc)).trans ec7
   have S8:=dD (.dK (putK kg (.inr (aD i)) (.int (n7 - 6)))) hg0 S7
   have eg8:upd H7 g (.dK (putK kg (.inr (aD i)) (.int (n7 - 6)))) g=some (.dK (putK kg (.inr (aD i)) (.int (n7 - 6)))):=aq
   have bd8:=(bd7.tups t8).Us (by omega) (n7 - 6)
   exact done _ _ _ _ _ _ ⟨_,_,rfl⟩ S8 eg8 ec8 el8 bd8
  ·have c1':0<i:=by
    rcases Nat.eq_zero_or_pos i with z | z
    ·subst z;exact absurd rfl c1
    ·exact z
   walk_at "vs"
   intro n6 H6 n60 n61 b6 pl6
   walk_at "vs"
   refine zg (fun c2=> ?_) (fun c2=> ?_)
   ·walk_at "vs"
    intro n7 H7 n70 n71 b7 pl7
    have B7:=b6.trans b7
    have S7:=gn S5 fr B7
    have eg7:=B7 _ _ ngp eg5
    have ec7:=B7 _ _ ncp ec5
    have el7:=B7 _ _ nlp el5
    have bd7:=bd5.tups (pl5.tups B7)
    have dp:lQ H7 g (.str (aD i)) (.int (n7 - 6)) (upd H7 g (.dK (putK kg (.inr (aD i)) (.int (n7 - 6))))):=lQ.k (k:= .inr (aD i)) eg7 (cB (by omega))
    walk_at "vs"
    have t8:lq H7 (upd H7 g (.dK (putK kg (.inr (aD i)) (.int (n7 - 6))))):=fun y xs z=>(au (fun w=>by rw[w,eg7] at z;cases z)).trans z
    have el8:upd H7 g (.dK (putK kg (.inr (aD i)) (.int (n7 - 6)))) l=some (.lst ((nmK i).map V.str)):=(au (Ne.symm ngl)).trans el7
    have ec8:upd H7 g (.dK (putK kg (.inr (aD i)) (.int (n7 - 6)))) c=some (.dK kc):=(au (Ne.symm ngc)).trans ec7
    have S8:=dD (.dK (putK kg (.inr (aD i)) (.int (n7 - 6)))) hg0 S7
    have eg8:upd H7 g (.dK (putK kg (.inr (aD i)) (.int (n7 - 6)))) g=some (.dK (putK kg (.inr (aD i)) (.int (n7 - 6)))):=aq
    have bd8:=(bd7.tups t8).Us (by omega) (n7 - 6)
    exact done _ _ _ _ _ _ ⟨_,_,rfl⟩ S8 eg8 ec8 el8 bd8
   ·have el6:=b6 _ _ nlp el5
    obtain⟨ns,ecut,hn1,hn9,hns⟩:=afk c1'
    have hgn:∀x∈ns,n8 x:=fun x hx=>Je (by omega) x (hns x hx)
    walk_at "vs"
    intro pc hpc
    rw[ecut]
    have s7:=aG (.lst (ns.map V.str)) hpc
    have e7:upd H6 pc (.lst (ns.map V.str)) pc=some (.lst (ns.map V.str)):=aq
    have pl7:=pl6.same s7
    have B7:But [p] H5 (upd H6 pc (.lst (ns.map V.str))):=b6.trans (But.of_same s7)
    have npc:pc∉[p]:=fun z=>pl6.ne hpc (by simpa using z)
    generalize upd H6 pc (.lst (ns.map V.str))=H7 at *
    walk_at "vs"
    intro pz hpz
    have npz:pz∉[p]:=fun z=>pl7.ne hpz (by simpa using z)
    have s8:=aG (.lst [V.int 1,V.int 2,V.int 3]) hpz
    have e8:upd H7 pz (.lst [V.int 1,V.int 2,V.int 3]) pz=some (.lst [V.int 1,V.int 2,V.int 3]):=aq
    have e78:=s8 _ _ e7
    have pl8:=pl7.same s8
    have B8:=B7.trans (But.of_same (S:=[p]) s8)
    generalize upd H7 pz (.lst [V.int 1,V.int 2,V.int 3])=H8 at *
    walk_at "vs"
    intro n9 H9 n90 n91 b9 pl9
    have e9:=b9 _ _ npz e8
    have e79:=b9 _ _ npc e78
    obtain⟨dd,hdd,hd0,hd1⟩:∃dd:Int,atI [V.int 1,V.int 2,V.int 3] n9=some (.int dd)/\0<=dd/\dd<4:=by
     have:n9=0\/n9=1\/n9=2:=by omega
     rcases this with rfl | rfl | rfl
     ·exact⟨1,rfl,by omega,by omega⟩
     ·exact⟨2,rfl,by omega,by omega⟩
     ·exact⟨3,rfl,by omega,by omega⟩
    walk_at "vs"
    intro br r H10 b10 ais R10 afH
    have B10:=B8.trans (b9.trans b10)
    have S10:=gn S5 fr B10
    have afI:=B10 _ _ ngp eg5
    have ack:=B10 _ _ ncp ec5
    have afJ:=B10 _ _ nlp el5
    have afK:=bd5.tups (pl5.tups B10)
    have dp:lQ H10 c (.str (aD i)) (.ref br) (upd H10 c (.dK (putK kc (.inr (aD i)) (.ref br)))):=lQ.k (k:= .inr (aD i)) ack (cB (by omega))
    walk_at "vs"
    have t11:lq H10 (upd H10 c (.dK (putK kc (.inr (aD i)) (.ref br)))):=fun y xs z=>(au (fun w=>by rw[w,ack] at z;cases z)).trans z
    have afL:upd H10 c (.dK (putK kc (.inr (aD i)) (.ref br))) l=some (.lst ((nmK i).map V.str)):=(au (Ne.symm ncl)).trans afJ
    have Ld:upd H10 c (.dK (putK kc (.inr (aD i)) (.ref br))) g=some (.dK kg):=(au ngc).trans afI
    have S11:=dD (.dK (putK kc (.inr (aD i)) (.ref br))) hc0 S10
    have Ow:upd H10 c (.dK (putK kc (.inr (aD i)) (.ref br))) c=some (.dK (putK kc (.inr (aD i)) (.ref br))):=aq
    have afM:=(afK.tups t11).Zf (by omega) c1' (afH.mono hns) (R10.tups t11)
    exact done _ _ _ _ _ _ ⟨_,_,rfl⟩ S11 Ld Ow afL afM
 ·intro σ H4 hP
  obtain⟨⟨t,u,rfl⟩,S4,gv,rc,kg,kc,eg4,ec4,el4,bd⟩:=hP
  have em:(many:Int).toNat=many:=by omega
  rw[em] at bd
  walk_at "vs"
  intro h hh
  have s5:=aG (.tup [.ref g, .ref c]) hh
  exact q h g c gv rc _ (S4.trans s5) (same_none S4 hh) hg0 hc0 ⟨kg,kc,aq,s5 _ _ eg4,s5 _ _ ec4,bd.tups (aN.tups s5)⟩
end
section
variable {P:Program}{w:World}{K:PySem.W.Frag}{mg:Str->Option Value}{base:Heap}
abbrev cG:Stmt:=top 19
theorem nH:bU ["house","records","worths","name","record","now","k","read"] ["house","records","worths","name"] (aa cG):=⟨rfl,rfl,rfl,by decide +kernel,rfl,by decide +kernel,by decide +kernel⟩
theorem kj:aJ (aa cG) "name":=by decide +kernel
theorem qw:aJ (aa cG) "house":=by decide +kernel
theorem oE:aJ (aa cG) "records":=by decide +kernel
theorem yS:Loc (aa cG) "record":=by decide +kernel
theorem Cg:Loc (aa cG) "now":=by decide +kernel
theorem xF:(aa cG).names.lookup ("is_same":Str)=some NameKind.globalImplicit:=by decide +kernel
theorem lN:aJ (aa cG) "record":=by decide +kernel
theorem uD:aJ (aa cG) "now":=by decide +kernel
theorem xG:(("is_same":Str)==("__debug__":Str))=false:=by decide +kernel
theorem uP:(aa cG).names.lookup ("enumerate":Str)=some NameKind.globalImplicit:=by decide +kernel
theorem Ba:Loc (aa cG) "read":=by decide +kernel
theorem Ff:Loc (aa cG) "k":=by decide +kernel
theorem pU:aJ (aa cG) "worths":=by decide +kernel
theorem kE:aJ (aa cG) "read":=by decide +kernel
theorem Fg:aJ (aa cG) "k":=by decide +kernel
theorem JN {f g0:Addr}{fd gd0:FuncData} (jW:FnT K mg "paper_of" cG ["house","records","worths","name"] f fd) (di:FnT K mg "is_same" dF ["told","thing"] g0 gd0) (rY:bF P w K mg base CX0 12 g0 gd0 ["told","thing"] (Dz K 10)) (T:Blt mg):
 bF P w K mg base CX0 13 f fd ["house","records","worths","name"] WN:=by
 refine jW.F.okQ nH (fun vs H Q E h=> ?_) (fun cdv A outer s H vs Q E hr h=> ?_)
 ·obtain⟨h,g,c,rcd,wd,n,gv,rc,kr,kw,rm,rmN,kn,x,rfl,_⟩:=h
  rfl
 obtain⟨h,hg,hc,rcd,wd,n,gv,rc,kr,kw,rm,rmN,kn,x,rfl,ho,n17,er,rD,rw',hkw,sok,hkx,q⟩:=h
 refine⟨_,(aA (dh (vh (cA hr) (ao 3 kj) (aM aK (ao 0 qw) aB)) (aH (bH (fQ (ir cC aC)))) cH)
  (aA (dh (rJ (cA hr) (ao 3 kj) (ao 1 oE)) (aH (bH (fQ (ir cC aC)))) cH)
  (aA (bV (i:=4) nH.nd rfl yS (cR (cA hr) (ao 1 oE) (ao 3 kj)))
  (aA (bV (i:=5) nH.nd rfl Cg (cR (cA hr) (aM aK (ao 0 qw) aB) (ao 3 kj)))
  (aA (dh (GD (tM (aZ (rY.mono (by omega)) hr xF di.m di.F.kp di.b .nil bO (aV (ao 5 uD) (jC (aM aK (ao 4 lN) aB) aC)) xG))) (aH (bH (fQ (ir cC (jC (aM aK (ao 4 lN) aB) (aV (ao 5 uD) aC)))))) cH)
  (aA (ye PassesOwn.never rfl (U0 uP T.Iw (jC (aM aK (ao 4 lN) aB) aC)) (GK rfl (kZ (lV (i:=6) nH.nd rfl Ff) (kZ (lV (i:=7) nH.nd rfl Ba) zu))) (aH (dh (cD tQ (Ji (cA hr) (ao 2 pU) (aM aK (ao 7 kE) aB) ⟨rfl,rfl,rfl,rfl⟩) (aM aK (ao 7 kE) aB) (bz _)) (aH (bH (fQ (ir cC (aV (ao 6 Fg) (jC (aM aK (ao 7 kE) aB) (wN (Ji (cA hr) (ao 2 pU) (aM aK (ao 7 kE) aB) ⟨rfl,rfl,rfl,rfl⟩) aC))))))) cH)))
  (aH (bH (fQ (ir cC aC)))))))))), ?_⟩
 obtain⟨kg,kc,eh,eg,ec,bd⟩:=id ho
 have dg:bN H hg (.str x) ((gv x).map V.int):=by rw[<-bd.g];exact bN.k (k:= .inr x) eg
 have dr:bN H rcd (.str x) (cP kr (.inr x)):=bN.k (k:= .inr x) er
 cases egv:gv x with
 | some v=>
   rw[egv] at dg
   have dg:bN H hg (.str x) (some (.int v)):=dg
   walk_at "vs"
   intro b hb
   have s1:=aG (.tup [.str "given"]) hb
   exact q b .given _ s1 (.given aq) (by show gv x≠none;rw[egv];simp)
 | none=>
   rw[egv] at dg
   have dg:bN H hg (.str x) none:=dg
   cases erm:rm x with
   | none=>
     rw[rD.w x erm] at dr
     walk_at "vs"
     intro b hb
     have s1:=aG (.tup [.str "new"]) hb
     exact q b .new _ s1 (.new aq) ⟨egv,erm⟩
   | some qq=>
     obtain⟨r',ps,v'⟩:=qq
     obtain⟨bb,hbb,br,l,as,e1,R1,el,hRs,_⟩:=rD.v x _ erm
     obtain⟨got',k',hk',ek',rk'⟩:=rD.ok x r' ps v' erm
     rw[hbb] at dr
     have R1:IsR H br r':=R1
     have hRs:jG H as ps:=hRs
     have e1:H bb=some (.tup [.ref br, .ref l, .int v']):=e1
     obtain⟨v,ekn⟩:∃v,kn x=some v:=by
      cases z:kn x with
      | none=>exact absurd z hkx
      | some v=>exact⟨v,rfl⟩
     obtain⟨r,qs,hrc,hrm⟩:∃r qs,rc x=some r/\rmN x=some (r,qs,v):=by
      rcases(sok.a x v ekn).2 with z | ⟨_,r,qs,z1,z2⟩
      ·rw[egv] at z;cases z
      ·exact⟨r,qs,z1,z2⟩
     obtain⟨_,_,_,acn,afN⟩:=sok.b x r qs v hrm
     obtain⟨k2,hk2,ek2,rk2⟩:=bd.ok.rk x r hrc
     obtain⟨br2,afO,R2⟩:=bd.r x r hrc
     have dc:bN H hc (.str x) (some (.ref br2)):=by rw[<-afO];exact bN.k (k:= .inr x) ec
     have hd1:=rk'.d
     have hd2:=rk2.d
     have t2:m5 K H (.ref br2) r.eE:=R2.Uh
     have t1:m5 K H (.ref br) r'.eE:=R1.Uh
     have p2:DpT 10 r.eE:=(r.dpT (jN rk2.g)).mono (show r.depth+1<=10 by omega)
     walk_at "vs"
     intro H1 S1
     have e1':=S1 _ _ e1
     have el':=S1 _ _ el
     have afP:jG H1 as ps:=hRs.tups (aN.tups S1)
     have R1':=R1.same S1
     have R2':=R2.same S1
     have rw1:Rd H1 wd (.dK kw):=Rd.same rw' S1
     have iD:IsD H1 wd:= .inl ⟨_,rw1⟩
     by_cases hrr:r'=r
     ·subst hrr
      rw[M4 rfl]
      walk_at "vs"
      refine QK (xs:=as.map V.ref) (fun i σ H'=>(∃t u,σ=[some (.ref h),some (.ref rcd),some (.ref wd),some (.str x),some (.ref bb),some (.ref br2),t,u])/\aN H1 H'/\∀(j:Nat) p,j<i->ps[j]? =some p->kn p.1=some p.2) ?_ ?_ ?_ ?_
      ·exact⟨⟨none,none,rfl⟩,aN.refl _,fun j p hj=>by omega⟩
      ·intro i σ H' hi hP
       exact SqL.of (hP.2.1 _ _ el')
      ·intro i y T0 σ H' hy hT hP
       obtain⟨⟨t,u,rfl⟩,S2,hj⟩:=hP
       obtain⟨ai,hae,ey⟩:=KC hy
       subst ey
       obtain⟨p,hp,ep⟩:=afP.get i _ hae
       obtain⟨u2,hu2⟩:=again i got'.c acn.c acn.e afN.s hj p hp
       have S3:=S2.trans (aG (.tup [.int (i:Int), .ref ai]) hT)
       have eT:upd H' T0 (.tup [.int (i:Int), .ref ai]) T0=some (.tup [.int (i:Int), .ref ai]):=aq
       generalize upd H' T0 (.tup [.int (i:Int), .ref ai])=H3 at *
       have ep3:H3 ai=some (.tup [.str p.1, .int p.2]):=S3 _ _ ep
       have rw3:Rd H3 wd (.dK kw):=Rd.same rw1 S3
       have iD3:IsD H3 wd:= .inl ⟨_,rw3⟩
       have dw:bN H3 wd (.str p.1) (some (.int u2)):=by
        have:cP kw (.inr p.1)=some (.int u2):=by rw[hkw,hu2];rfl
        rw[<-this];exact .inl ⟨kw, .inr p.1,rw3,rfl,rfl⟩
       walk_at "vs"
       refine zg (fun c1=> ?_) (fun c1=> ?_)
       ·walk_at "vs"
        intro b hb
        have s1:=aG (.tup [.str "read", .int (i:Int), .int p.2, .int u2]) hb
        exact q b (.rd i p.2 u2) _ ((S1.trans S3).trans s1) (.rd aq) ⟨egv,r',ps,v',p.1,erm,hrc,hj,hp,hu2,by simpa using c1⟩
       ·have c1':u2=p.2:=by
         by_cases z:u2=p.2
         ·exact z
         ·exact absurd (by simpa using z) c1
        walk_at "vs"
        refine⟨⟨_,_,rfl⟩,S3,fun j p' hj' hp'=> ?_⟩
        by_cases z:j=i
        ·rw[z,hp] at hp';cases hp';rw[hu2,c1']
        ·exact hj j p' (by omega) hp'
      ·intro σ H' hP
       obtain⟨⟨t,u,rfl⟩,S2,hj⟩:=hP
       walk_at "vs"
       intro b hb
       have s1:=aG (.tup [.str "alike"]) hb
       refine q b .alike _ ((S1.trans S2).trans s1) (.alike aq) ⟨egv,r',ps,v',erm,hrc,fun j p hp=>hj j p ?_ hp⟩
       have h1:j<ps.length:=(List.getElem?_eq_some_iff.mp hp).1
       have h2:=hRs.length
       rw[List.length_map];omega
     ·rw[M5 (fun z=>hrr z.symm)]
      walk_at "vs"
      intro b hb
      have s1:=aG (.tup [.str "recipe", .ref br, .ref br2]) hb
      exact q b (.rcp r' r) _ (S1.trans s1) (.rcp aq (R1'.same s1) (R2'.same s1) rk'.g rk2.g (by omega) (by omega)) ⟨egv,hrc,hrr,ps,v',erm⟩
abbrev cI:Stmt:=top 20
theorem oZ:bU ["house","records","wishes","worths","papers","name"] ["house","records","wishes"] (aa cI):=⟨rfl,rfl,rfl,by decide +kernel,rfl,by decide +kernel,by decide +kernel⟩
theorem xH:Loc (aa cI) "worths":=by decide +kernel
theorem qZ:(aa cI).names.lookup ("build_again":Str)=some NameKind.globalImplicit:=by decide +kernel
theorem xJ:aJ (aa cI) "wishes":=by decide +kernel
theorem nJ:aJ (aa cI) "records":=by decide +kernel
theorem pW:aJ (aa cI) "house":=by decide +kernel
theorem rA:(("build_again":Str)==("__debug__":Str))=false:=by decide +kernel
theorem xK:Loc (aa cI) "papers":=by decide +kernel
theorem oF:aJ (aa cI) "worths":=by decide +kernel
theorem zX:Loc (aa cI) "name":=by decide +kernel
theorem oG:aJ (aa cI) "papers":=by decide +kernel
theorem qx:aJ (aa cI) "name":=by decide +kernel
theorem uQ:(aa cI).names.lookup ("paper_of":Str)=some NameKind.globalImplicit:=by decide +kernel
theorem uR:(("paper_of":Str)==("__debug__":Str))=false:=by decide +kernel
theorem Hq {f g0 g1:Addr}{fd gd0 gd1:FuncData} (jh:FnT K mg "papers_of" cI ["house","records","wishes"] f fd) (bh:FnT K mg "build_again" cz ["house","records","wishes"] g0 gd0) (jA:bF P w K mg base CX0 17 g0 gd0 ["house","records","wishes"] Cv)
 (jW:FnT K mg "paper_of" cG ["house","records","worths","name"] g1 gd1) (Lf:bF P w K mg base CX0 13 g1 gd1 ["house","records","worths","name"] WN) (T:Blt mg):bF P w K mg base CX0 18 f fd ["house","records","wishes"] WW:=by
 refine jh.F.okQ oZ (fun vs H Q E h=> ?_) (fun cdv A outer s H vs Q E hr h=> ?_)
 ·obtain⟨h,g,c,rcd,wl,n,gv,rc,kr,rm,ws,rfl,_⟩:=h
  rfl
 obtain⟨h,hg,hc,rcd,wl,n,gv,rc,kr,rm,ws,rfl,ho,n17,er,rD,ewl,hws,q⟩:=h
 refine⟨_,(aA (bV (i:=3) oZ.nd rfl xH (aM aK (aZ (jA.mono (by omega)) hr qZ bh.m bh.F.kp bh.b .nil bO (aV (ao 0 pW) (aV (ao 1 nJ) (aV (ao 2 xJ) aC))) rA) aB))
  (aA (bV (i:=4) oZ.nd rfl xK lX)
  (aA (ye PassesOwn.never rfl (G5 (ao 3 oF)) (lV (i:=5) oZ.nd rfl zX) (aH (j0 (cA hr) (ao 4 oG) (ao 5 qx) (aZ (Lf.mono (by omega)) hr uQ jW.m jW.F.kp jW.b .nil bO (aV (ao 0 pW) (aV (ao 1 nJ) (aV (ao 3 oF) (aV (ao 5 qx) aC)))) uR))))
  (aH (bH (ao 4 oG)))))), ?_⟩
 obtain⟨kg,kc,eh,eg,ec,bd⟩:=id ho
 walk_at "vs"
 intro t kd sd lm lk kw ks wn sn kn rmN rkn o H1 s1 et hkd hsd hlm hlk nks nll ekd kkw hkw esd kks rDs elm elk bt
 have hkl:kw.length<=n:=by
  rw[kkw.len,<-lZ n]
  refine iz kkw.nd fun x hx=> ?_
  have:=(pL kkw hkw x).mp hx
  cases z:kn x with
  | none=>exact absurd z this
  | some u=>exact(bt.ok.a x u z).1
 walk_at "vs"
 intro pd hpd
 have s2:=s1.trans (aG (.dK []) hpd)
 have epd:upd H1 pd (.dK []) pd=some (.dK []):=aq
 have aco:=same_none s1 hpd
 have Rv:=(aG (.dK []) hpd) _ _ ekd
 have npk:pd≠kd:=fun z=>by rw[z,ekd] at hpd;cases hpd
 generalize upd H1 pd (.dK [])=H2 at *
 walk_at "vs"
 intro o2
 have s3:aN H (upd H2 kd (.frz o2 (.dK kw))):=dD _ hkd s2
 have Hr:upd H2 kd (.frz o2 (.dK kw)) kd=some (.frz o2 (.dK kw)):=aq
 have JP:upd H2 kd (.frz o2 (.dK kw)) pd=some (.dK []):=(au npk).trans epd
 generalize upd H2 kd (.frz o2 (.dK kw))=H3 at *
 refine Jd (fun i σ H'=>(∃t,σ=[some (.ref h),some (.ref rcd),some (.ref wl),some (.ref kd),some (.ref pd),t])/\aN H H'/\H' kd=some (.frz o2 (.dK kw))/\∃kp,H' pd=some (.dK kp)/\PpJ H' kp gv rc rm kn (wn.take i)) ?_ ?_ ?_ ?_
 ·exact⟨⟨none,rfl⟩,s3,Hr,[],JP, .nil⟩
 ·intro i σ H' _ hP
  exact hP.2.2.1
 ·intro i k v σ H5 hkv hP
  obtain⟨⟨t,rfl⟩,s5,ek5,kp,ep5,pJ5⟩:=hP
  have hi:i<kw.length:=(List.getElem?_eq_some_iff.mp hkv).1
  obtain⟨x,rfl,hxi⟩:=kkw.at hkv
  have hx:kn x≠none:=(pL kkw hkw x).mp (List.mem_of_getElem? hxi)
  have rw5:Rd H5 kd (.dK kw):= .inr ⟨o2,ek5⟩
  have ho5:=ho.same s5
  have er5:=s5 _ _ er
  have rD5:=rD.map fun b q z=>z.same s5
  have sok:=bt.ok
  walk_at "vs"
  intro b p H6 s6 pA pI
  have ek6:=s6 _ _ ek5
  have ep6:=s6 _ _ ep5
  have hl6:kp.length<=n:=by
   have:=List.length_take_le i wn
   have h2:=kkw.len
   rw[pJ5.k.len];omega
  have dp:lQ H6 pd (.str x) (.ref b) (upd H6 pd (.dK (putK kp (.inr x) (.ref b)))):=lQ.k (k:= .inr x) ep6 (cB (by omega))
  walk_at "vs"
  have t7:=G8 (o:= .dK (putK kp (.inr x) (.ref b))) ep6
  have hxn:x∉wn.take i:=fun z=>by
   obtain⟨j,hj⟩:=List.getElem?_of_mem z
   have hji:j<i:=by
    have:=(List.getElem?_eq_some_iff.mp hj).1
    have h2:=List.length_take_le i wn
    omega
   rw[List.getElem?_take_of_lt hji] at hj
   obtain⟨h1,e1⟩:=List.getElem?_eq_some_iff.mp hj
   obtain⟨h2,e2⟩:=List.getElem?_eq_some_iff.mp hxi
   have:=(List.getElem_inj kkw.nd).mp (e1.trans e2.symm)
   omega
  refine⟨⟨_,rfl⟩,dD _ aco (s5.trans s6),(au (Ne.symm npk)).trans ek6,_,aq, ?_⟩
  rw[show wn.take (i+1)=wn.take i++[x] by rw[List.take_add_one,hxi];rfl]
  exact((pJ5.same s6).tups t7).put hxn (pA.tups t7) pI
 ·intro σ H5 hP
  obtain⟨⟨t,rfl⟩,s5,ek5,kp,ep5,pJ5⟩:=hP
  rw[show wn.take kw.length=wn by rw[kkw.len];exact List.take_length] at pJ5
  walk_at "vs"
  exact q pd kp wn kn rmN rkn H5 s5 aco ep5 pJ5 (pL kkw hkw) bt
end
section
variable {P:Program}{w:World}{K:PySem.W.Frag}{mg:Str->Option Value}{base:Heap}
abbrev dR:Stmt:=top 21
theorem qy:bU ["papers","records","name","chain","paper"] ["papers","records","name"] (aa dR):=⟨rfl,rfl,rfl,by decide +kernel,rfl,by decide +kernel,by decide +kernel⟩
theorem zY:Loc (aa dR) "chain":=by decide +kernel
theorem lO:aJ (aa dR) "papers":=by decide +kernel
theorem jc:aJ (aa dR) "name":=by decide +kernel
theorem pX:(aa dR).names.lookup ("PAPERS_OF_MADE":Str)=some NameKind.globalImplicit:=by decide +kernel
theorem pY:(("PAPERS_OF_MADE":Str)==("__debug__":Str))=false:=by decide +kernel
theorem zZ:Loc (aa dR) "paper":=by decide +kernel
theorem qz:aJ (aa dR) "chain":=by decide +kernel
theorem mF:aJ (aa dR) "paper":=by decide +kernel
theorem Bb:Loc (aa dR) "name":=by decide +kernel
theorem xM:aJ (aa dR) "records":=by decide +kernel
theorem JQ {f aP:Addr}{fd:FuncData} (jX:FnT K mg "chain_of" dR ["papers","records","name"] f fd) (T:Blt mg) (mP:mg "PAPERS_OF_MADE"=some (.ref aP)) (hPM:∀H,SqT K H aP [.str "new", .str "recipe", .str "read"]):bF P w K mg base CX0 1 f fd ["papers","records","name"] WL:=by
 refine jX.F.okQ qy (fun vs H Q E h=> ?_) (fun cdv A outer s H vs Q E hr h=> ?_)
 ·obtain⟨pd,rcd,kp,kr,pa,n,rm,x,ys,rfl,_⟩:=h
  rfl
 obtain⟨pd,rcd,kp,kr,pa,n,rm,x0,ys0,rfl,pD,rrd,rD,ch0,ahP,q⟩:=h
 refine⟨_,(aA (bV (i:=3) qy.nd rfl zY (gK aC))
  (aA (zx PassesOwn.never (Dd (Dc (vh (cA hr) (ao 2 jc) (ao 0 lO)) (zp (cD Df (aM aK (cR (cA hr) (ao 0 lO) (ao 2 jc)) aB) (TV (v:= .ref aP) pX mP rfl pY) rfl)))) (aA (bV (i:=4) qy.nd rfl zZ (cR (cA hr) (ao 0 lO) (ao 2 jc)))
  (aA (gA (rG PySem.F.plainAttrs_list PySem.F.slot_list_append PySem.F.type_list_append iH (ao 3 qz) (IW (fQ (aV (ao 2 jc) (aV (ao 4 mF) aC))) aC)))
  (aA (dh (cD tQ (aM aK (ao 4 mF) aB) cC (bz _)) (aH Ql) cH)
  (aH (bV (i:=2) qy.nd rfl Bb (aM aK (aM d8 (aM aK (cR (cA hr) (ao 1 xM) (ao 2 jc)) aB) (aM aK (ao 4 mF) aB)) aB)))))))
  (aH (bH (ao 3 qz))))), ?_⟩
 walk_at "vs"
 intro l hl
 have s1:=aG (.lst []) hl
 have el1:upd H l (.lst []) l=some (.lst (([]:List Addr).map V.ref)):=aq
 generalize upd H l (.lst [])=H1 at *
 refine⟨fun m σ H'=>∃x ys as done tp,σ=[some (.ref pd),some (.ref rcd),some (.str x),some (.ref l),tp]/\aN H H'/\H' l=some (.lst (as.map V.ref))/\qd H' pa as done/\Chain pa rm x ys/\done++ys=ys0/\m=ys.length,⟨_,x0,ys0,[],[],none,rfl,s1,el1, .nil,ch0,rfl,rfl⟩, ?_⟩
 rintro m σ H2 ⟨x,ys,as,done,tp,rfl,S2,el2,en2,ch,hdone,rfl⟩
 have pD2:=pD.same S2
 have rD2:=rD.map fun b q z=>z.same S2
 have Rw:=Rd.same rrd S2
 have hdl:done.length<=100:=by
  have:=congrArg List.length hdone
  rw[List.length_append] at this
  omega
 have hz:(as.map V.ref).length<sizeLine:=by rw[List.length_map,en2.length];exact cB (by omega)
 cases ch with
 | @g _ b hp=>
   have dg:=pD2.get hp
   cases(pD2.v _ _ _ hp).2 with
   | given e=>
     have S3:=S2
     have el3:=el2
     have en3:=en2
     have pD3:=pD2
     have ee3:=e
     have rD3:=rD2
     have Lg:=Rw
     have U8:=hPM H2
     walk_at "vs"
     rw[List.append_nil] at hdone
     subst hdone
     exact q l as H2 S3 hl el3 en3
 | @a _ b hp=>
   have dg:=pD2.get hp
   cases(pD2.v _ _ _ hp).2 with
   | alike e=>
     have S3:=S2
     have el3:=el2
     have en3:=en2
     have pD3:=pD2
     have ee3:=e
     have rD3:=rD2
     have Lg:=Rw
     have U8:=hPM H2
     walk_at "vs"
     rw[List.append_nil] at hdone
     subst hdone
     exact q l as H2 S3 hl el3 en3
 | @n _ b hp=>
   have dg:=pD2.get hp
   cases(pD2.v _ _ _ hp).2 with
   | new e=>
     have S3:=S2
     have el3:=el2
     have en3:=en2
     have pD3:=pD2
     have ee3:=e
     have rD3:=rD2
     have Lg:=Rw
     have U8:=hPM H2
     walk_at "vs"
     refine⟨fun _ _=>False,fun _ _ z=>z.elim, ?_⟩
     walk_at "vs"
     intro pt hpt
     have s4:=aG (.tup [.str x, .ref b]) hpt
     have ent:upd H2 pt (.tup [.str x, .ref b]) pt=some (.tup (BV pa x)):=by
      unfold BV;rw[hp];exact aq
     have el4:=s4 _ _ el3
     have en4:=qd.snoc ent (en3.tups (aN.tups s4))
     have S4:=S3.trans s4
     have pD4:=pD3.same s4
     have rD4:=rD3.map (H':=upd H2 pt (.tup [.str x, .ref b])) fun b q z=>z.same s4
     have acp:=Rd.same Lg s4
     generalize upd H2 pt (.tup [.str x, .ref b])=H4 at *
     have t5:lq H4 (upd H4 l (.lst (as.map V.ref++[.ref pt]))):=fun y xs z=>(au (fun w=>by rw[w,el4] at z;cases z)).trans z
     have S5:=dD (.lst (as.map V.ref++[.ref pt])) hl S4
     have el5:upd H4 l (.lst (as.map V.ref++[.ref pt])) l=some (.lst ((as++[pt]).map V.ref)):=by rw[aq,List.map_append];rfl
     have en5:=en4.tups t5
     have pD5:=pD.same S5
     have dg5:=pD5.get hp
     have ee5:upd H4 l (.lst (as.map V.ref++[.ref pt])) b=_:=t5 _ _ (s4 _ _ ee3)
     have rD5:=rD.map (H':=upd H4 l (.lst (as.map V.ref++[.ref pt]))) fun b q z=>z.same S5
     have Zx:=Rd.same rrd S5
     walk_at "vs"
     subst hdone
     exact q l (as++[pt]) _ S5 hl el5 en5
 | @r _ b r0 s0 hp=>
   have dg:=pD2.get hp
   cases(pD2.v _ _ _ hp).2 with
   | @rcp _ _ pp qq e _ _ _ _ _ _=>
     have S3:=S2
     have el3:=el2
     have en3:=en2
     have pD3:=pD2
     have ee3:=e
     have rD3:=rD2
     have Lg:=Rw
     have U8:=hPM H2
     walk_at "vs"
     refine⟨fun _ _=>False,fun _ _ z=>z.elim, ?_⟩
     walk_at "vs"
     intro pt hpt
     have s4:=aG (.tup [.str x, .ref b]) hpt
     have ent:upd H2 pt (.tup [.str x, .ref b]) pt=some (.tup (BV pa x)):=by
      unfold BV;rw[hp];exact aq
     have el4:=s4 _ _ el3
     have en4:=qd.snoc ent (en3.tups (aN.tups s4))
     have S4:=S3.trans s4
     have pD4:=pD3.same s4
     have rD4:=rD3.map (H':=upd H2 pt (.tup [.str x, .ref b])) fun b q z=>z.same s4
     have acp:=Rd.same Lg s4
     generalize upd H2 pt (.tup [.str x, .ref b])=H4 at *
     have t5:lq H4 (upd H4 l (.lst (as.map V.ref++[.ref pt]))):=fun y xs z=>(au (fun w=>by rw[w,el4] at z;cases z)).trans z
     have S5:=dD (.lst (as.map V.ref++[.ref pt])) hl S4
     have el5:upd H4 l (.lst (as.map V.ref++[.ref pt])) l=some (.lst ((as++[pt]).map V.ref)):=by rw[aq,List.map_append];rfl
     have en5:=en4.tups t5
     have pD5:=pD.same S5
     have dg5:=pD5.get hp
     have ee5:upd H4 l (.lst (as.map V.ref++[.ref pt])) b=_:=t5 _ _ (s4 _ _ ee3)
     have rD5:=rD.map (H':=upd H4 l (.lst (as.map V.ref++[.ref pt]))) fun b q z=>z.same S5
     have Zx:=Rd.same rrd S5
     walk_at "vs"
     subst hdone
     exact q l (as++[pt]) _ S5 hl el5 en5
 | @s _ y b k nn m0 n2 r ps v ys hp hr hps t=>
   have dg:=pD2.get hp
   cases(pD2.v _ _ _ hp).2 with
   | rd e=>
     have S3:=S2
     have el3:=el2
     have en3:=en2
     have pD3:=pD2
     have ee3:=e
     have rD3:=rD2
     have Lg:=Rw
     have U8:=hPM H2
     walk_at "vs"
     refine⟨fun σ' H'=>Wr (∃x ys' as done tp,σ'=[some (.ref pd),some (.ref rcd),some (.str x),some (.ref l),tp]/\aN H H'/\H' l=some (.lst (as.map V.ref))/\qd H' pa as done/\Chain pa rm x ys'/\done++ys'=ys0/\ys'.length<(x0::ys).length),fun σ' H' z=>by
      obtain⟨x,ys',as,done,tp,h1,h2,h3,h4,h5,h6,h7⟩:=z
      exact⟨_,h7,x,ys',as,done,tp,h1,h2,h3,h4,h5,h6,rfl⟩, ?_⟩
     walk_at "vs"
     intro pt hpt
     have s4:=aG (.tup [.str x, .ref b]) hpt
     have ent:upd H2 pt (.tup [.str x, .ref b]) pt=some (.tup (BV pa x)):=by
      unfold BV;rw[hp];exact aq
     have el4:=s4 _ _ el3
     have en4:=qd.snoc ent (en3.tups (aN.tups s4))
     have S4:=S3.trans s4
     have pD4:=pD3.same s4
     have rD4:=rD3.map (H':=upd H2 pt (.tup [.str x, .ref b])) fun b q z=>z.same s4
     have acp:=Rd.same Lg s4
     generalize upd H2 pt (.tup [.str x, .ref b])=H4 at *
     have t5:lq H4 (upd H4 l (.lst (as.map V.ref++[.ref pt]))):=fun y xs z=>(au (fun w=>by rw[w,el4] at z;cases z)).trans z
     have S5:=dD (.lst (as.map V.ref++[.ref pt])) hl S4
     have el5:upd H4 l (.lst (as.map V.ref++[.ref pt])) l=some (.lst ((as++[pt]).map V.ref)):=by rw[aq,List.map_append];rfl
     have en5:=en4.tups t5
     have pD5:=pD.same S5
     have dg5:=pD5.get hp
     have ee5:upd H4 l (.lst (as.map V.ref++[.ref pt])) b=_:=t5 _ _ (s4 _ _ ee3)
     have rD5:=rD.map (H':=upd H4 l (.lst (as.map V.ref++[.ref pt]))) fun b q z=>z.same S5
     have Zx:=Rd.same rrd S5
     obtain⟨bb,hbb,br,ll,as2,e1,R1,ell,hRs,_⟩:=rD5.v _ _ hr
     have dr:bN (upd H4 l (.lst (as.map V.ref++[.ref pt]))) rcd (.str x) (some (.ref bb)):=by
      rw[<-hbb];exact .inl ⟨kr, .inr x,Zx,rfl,rfl⟩
     have hk:k<as2.length:=by
      have:=hRs.length
      have h2:=(List.getElem?_eq_some_iff.mp hps).1
      have this:as2.length=ps.length:=this
      omega
     have hae:as2[k]? =some (as2[k]):=List.getElem?_eq_getElem hk
     obtain⟨p',hp',ep'⟩:=hRs.get k _ hae
     have hp':ps[k]? =some p':=hp'
     rw[hps] at hp'
     cases hp'
     have hat:atI (as2.map V.ref) (k:Int)=some (.ref (as2[k])):=fW (by rw[List.getElem?_map,hae];rfl)
     have ep':upd H4 l (.lst (as.map V.ref++[.ref pt])) as2[k]=some (.tup [.str y, .int n2]):=ep'
     generalize as2[k]=ak at *
     walk_at "vs"
     exact⟨y,ys,as++[pt],done++[x],_,rfl,S5,el5,en5,t,by rw[List.append_assoc];exact hdone,by simp⟩
end
section
variable {P:Program}{w:World}{K:PySem.W.Frag}{mg:Str->Option Value}{base:Heap}
abbrev aU:Stmt:=top 38
theorem gG:bU ["house","first","names","changed","papers","worths","name","unlike","chain","other","paper","last"] ["house","first","names","changed"] (aa aU):=⟨rfl,rfl,rfl,by decide +kernel,rfl,by decide +kernel,by decide +kernel⟩
theorem yU:Loc (aa aU) "papers":=by decide +kernel
theorem uT:(aa aU).names.lookup ("papers_of":Str)=some NameKind.globalImplicit:=by decide +kernel
theorem qC:aJ (aa aU) "names":=by decide +kernel
theorem dU:aJ (aa aU) "first":=by decide +kernel
theorem mG:aJ (aa aU) "house":=by decide +kernel
theorem uU:(("papers_of":Str)==("__debug__":Str))=false:=by decide +kernel
theorem yV:Loc (aa aU) "worths":=by decide +kernel
theorem sV:(aa aU).names.lookup ("build_again":Str)=some NameKind.globalImplicit:=by decide +kernel
theorem sX:(("build_again":Str)==("__debug__":Str))=false:=by decide +kernel
theorem gW:aJ (aa aU) "papers":=by decide +kernel
theorem Bc:Loc (aa aU) "name":=by decide +kernel
theorem yW:Loc (aa aU) "unlike":=by decide +kernel
theorem dH:aJ (aa aU) "name":=by decide +kernel
theorem Ci:(aa aU).names.lookup ("int":Str)=some NameKind.globalImplicit:=by decide +kernel
theorem jt:aJ (aa aU) "unlike":=by decide +kernel
theorem Cj:("int":Str)≠"__name__":=by decide +kernel
theorem Ck:(("int":Str)==("__debug__":Str))=false:=by decide +kernel
theorem pZ:aJ (aa aU) "worths":=by decide +kernel
theorem Aa:Loc (aa aU) "chain":=by decide +kernel
theorem v8:(aa aU).names.lookup ("chain_of":Str)=some NameKind.globalImplicit:=by decide +kernel
theorem v9:(("chain_of":Str)==("__debug__":Str))=false:=by decide +kernel
theorem qD:aJ (aa aU) "chain":=by decide +kernel
theorem qF:Loc (aa aU) "paper":=by decide +kernel
theorem Ab:Loc (aa aU) "other":=by decide +kernel
theorem qG:aJ (aa aU) "other":=by decide +kernel
theorem Bd:Loc (aa aU) "last":=by decide +kernel
theorem Be:aJ (aa aU) "last":=by decide +kernel
theorem Ac:aJ (aa aU) "paper":=by decide +kernel
theorem xN:aJ (aa aU) "changed":=by decide +kernel
theorem JR {f g0 g1 g2:Addr}{fd gd0 gd1 gd2:FuncData} (jY:FnT K mg "_law_good" aU ["house","first","names","changed"] f fd)
 (jh:FnT K mg "papers_of" cI ["house","records","wishes"] g0 gd0) (JS:bF P w K mg base CX0 18 g0 gd0 ["house","records","wishes"] WW)
 (bh:FnT K mg "build_again" cz ["house","records","wishes"] g1 gd1) (jA:bF P w K mg base CX0 17 g1 gd1 ["house","records","wishes"] Cv)
 (jX:FnT K mg "chain_of" dR ["papers","records","name"] g2 gd2) (Lh:bF P w K mg base CX0 1 g2 gd2 ["papers","records","name"] WL)
 (T:Blt mg):bF P w K mg base CX0 19 f fd ["house","first","names","changed"] Rq:=by
 refine jY.F.okQ gG (fun vs H Q E h=> ?_) (fun cdv A outer s H vs Q E hr h=> ?_)
 ·obtain⟨h,g,c,ft,kd,sd,ol,nl,cl,n,gv,gv',rc,kw,ks,kn,rm,us,cs,rfl,_⟩:=h
  rfl
 obtain⟨h,hg,hc,ft,kd,sd,ol,nl,cl,n,gv,gv',rc,kw,ks,kn,rm,us,cs,rfl,ho,n17,eft,ekd,hkw,esd,rD,sok,hall,enl,hus,ecl,hcs,hch,hdom,q⟩:=h
 refine⟨_,(aA (bV (i:=4) gG.nd rfl yU (aZ (JS.mono (by omega)) hr uT jh.m jh.F.kp jh.b .nil bO (aV (ao 0 mG) (jC (aM aK (ao 1 dU) aB) (aV (ao 2 qC) aC))) uU))
  (aA (bV (i:=5) gG.nd rfl yV (aM aK (aZ (jA.mono (by omega)) hr sV bh.m bh.F.kp bh.b .nil bO (aV (ao 0 mG) (jC (aM aK (ao 1 dU) aB) (aV (ao 2 qC) aC))) sX) aB))
  (aA (ye PassesOwn.never rfl (G5 (ao 4 gW)) (lV (i:=6) gG.nd rfl Bc) (aA (Kv (i:=7) rfl gG.nd rfl yW (n:=2) (fr:=[5]) (N:=["read","number","worths"]) (CT (scX:=aa aU) (NX:=["house","first","names","changed","papers","worths","name","unlike","chain","other","paper","last"]) rfl rfl (by decide +kernel)) (zq (aM aK (Ri (cA hr) (aM aK (ao 1 dU) aB) (ao 6 dH) (fQ (ir aB (Ui (gK aC) (ir aB aC)))) ⟨rfl,rfl,rfl,rfl⟩) aB)) (fun _ _ _ _ _=>(Mx (K:=K) (n:=2) rfl rfl (kZ (qgx (i:=0) (show List.Nodup (α:=Str) ["read","number","worths"] by decide) (Gz (by decide +kernel))) (kZ (qgx (i:=1) (show List.Nodup (α:=Str) ["read","number","worths"] by decide) (Gz (by decide +kernel))) zu)))) (fun _ _ _ _ _=>(De (cD tQ (cR (cA hr) (ao 2 (lR.ok (by decide +kernel))) (ao 0 (lR.ok (by decide +kernel)))) (ao 1 (lR.ok (by decide +kernel))) (bz _)))) (fun _ _ _ _ _=>(ao 0 (lR.ok (by decide +kernel)))) rfl)
  (aH (dh (vh (cA hr) (ao 6 dH) (aM aK (ao 0 mG) aB)) (aH (dh (cD (Kz hr.units) (cR (cA hr) (ao 4 gW) (ao 6 dH)) (fQ (ir cC aC)) (bz _)) (aH (bH xP)) cH)) (aH (dh (cD tQ (aM aK (cR (cA hr) (ao 4 gW) (ao 6 dH)) aB) (aM d8 (gK (ir cC (ir cC aC))) (mQ Ue Ci T.Wu Qh (afg (Ai (An hr.units) (ao 7 jt) (gK aC) (bz _)) aC) Cj Ck)) (bz _)) (aH (bH xP)) (aH (dh (Dd (Dc (cD (An hr.units) (ao 7 jt) (gK aC) (bz _)) (zp (cD tQ (cR (cA hr) (ao 5 pZ) (ao 6 dH)) (cR (cA hr) (aM aK (ao 1 dU) aB) (ao 6 dH)) (bz _))))) (aH (bH xP)) (aH (dh (cD (Om hr.units) (ao 7 jt) (gK aC) (bz _)) (aA (bV (i:=8) gG.nd rfl Aa (aZ (Lh.mono (by omega)) hr v8 jX.m jX.F.kp jX.b .nil bO (aV (ao 4 gW) (jC (aM aK (ao 1 dU) aB) (aV (ao 6 dH) aC))) v9))
  (aA (ye PassesOwn.never rfl (zq (Ik Ip (ao 8 qD) (Ms aB) Mr)) (GK rfl (kZ (lV (i:=9) gG.nd rfl Ab) (kZ (lV (i:=10) gG.nd rfl qF) zu))) (aH (dh (cD gB (cR (cA hr) (ao 5 pZ) (ao 9 qG)) (cR (cA hr) (aM aK (ao 1 dU) aB) (ao 9 qG)) (bz _)) (aH (bH xP)) cH)))
  (aA (YG (aM d8 (ao 8 qD) (Ij zy aB)) (GK rfl (kZ (lV (i:=11) gG.nd rfl Bd) (kZ (lV (i:=10) gG.nd rfl qF) zu))))
  (aH (dh (Dd (FT (cD tQ (aM aK (aM d8 (aM aK (cR (cA hr) (aM aK (ao 1 dU) aB) (ao 6 dH)) aB) (aM aK (cR (cA hr) (ao 4 gW) (ao 6 dH)) aB)) aB) (aM d8 (ao 7 jt) aB) (bz _)) (Aj (cD xQ (aM aK (aM d8 (aM aK (cR (cA hr) (aM aK (ao 1 dU) aB) (ao 11 Be)) aB) (aM aK (ao 10 Ac) aB)) aB) (ao 3 xN) rfl)))) (aH (bH xP)) cH))))) cH))))))))))
  (aH (bH xP))))), ?_⟩
 have hws:∀x∈us,x∈nmK n:=fun x hx=>(hus x).mp hx
 obtain⟨kg,kc,eh,eg,ec,bd⟩:=id ho
 walk_at "vs"
 intro pd kp ksP knP rmP rkP H1 s1 hpd epd pJ hks btP
 have ho1:=ho.same s1
 have afQ:=s1 _ _ eft
 have afR:=s1 _ _ esd
 have rD1:=rD.map fun b q z=>z.same s1
 have afS:=s1 _ _ enl
 walk_at "vs"
 intro t kd2 sd2 lm lk kw2 ks2 wn2 sn2 kn2 rm2 rk2 o2 H2 s2 et U9 Va hlm hlk n1 n2 Rv afT Rx Ox Zy afU elm elk bt2
 have ekn:kn2=knP:=Rg (by omega) bd.ok.rk bt2.ok btP.ok bt2.w btP.w bt2.r btP.r
 subst ekn
 have hk2:∀x,x∈nmK n->kn2 x≠none:=fun x hx=>bt2.w x ((hus x).mpr hx)
 have Vb:∀x,kn2 x≠none->x∈nmK n:=fun x hx=>by
  cases z:kn2 x with
  | none=>exact absurd z hx
  | some u=>exact(bt2.ok.a x u z).1
 have hknn:∀x,kn x≠none->x∈nmK n:=fun x hx=>by
  cases z:kn x with
  | none=>exact absurd z hx
  | some u=>exact(sok.a x u z).1
 have acq:=s2 _ _ epd
 have npk:kd2≠pd:=fun z=>by rw[z,epd] at U9;cases U9
 walk_at "vs"
 intro o3
 have S3:aN H (upd H2 pd (.frz o3 (.dK kp))):=dD _ hpd (s1.trans s2)
 have JP:upd H2 pd (.frz o3 (.dK kp)) pd=some (.frz o3 (.dK kp)):=aq
 have Hr:upd H2 pd (.frz o3 (.dK kp)) kd2=some (.dK kw2):=(au npk).trans Rv
 have pJ3:PpJ (upd H2 pd (.frz o3 (.dK kp))) kp gv' rc rm kn2 ksP:=(pJ.same s2).tups (G8 acq)
 generalize upd H2 pd (.frz o3 (.dK kp))=H3 at *
 obtain⟨pa,pa1,pa2⟩:=pJ3.pm
 have hpa:∀x b p,pa x=some (b,p)->vo gv' rc rm kn2 x p:=fun x b p e=>(pa2 x b p e).2.2.2
 have ho3:=ho.same S3
 have Ry:=S3 _ _ eft
 have Zz:=S3 _ _ ekd
 have Li:=S3 _ _ esd
 have afV:=S3 _ _ ecl
 have rD3:=rD.map fun b q z=>z.same S3
 clear s1 s2 ho1 afQ afR rD1 afS epd acq Rv pJ afU elm elk Ox Zy et hpd U9 Va hlm hlk n1 n2 eh eg ec
 refine Jd (fun i σ H'=>(∃t1 t2 t3 t4 t5 t6,σ=[some (.ref h),some (.ref ft),some (.ref nl),some (.ref cl),some (.ref pd),some (.ref kd2),t1,t2,t3,t4,t5,t6])/\aN H3 H') ?_ ?_ ?_ ?_
 ·exact⟨⟨_,_,_,_,_,_,rfl⟩,aN.refl _⟩
 ·intro i σ H' _ hP
  exact hP.2 _ _ JP
 ·intro i k v σ H4 hkv hP
  obtain⟨⟨t1,t2,t3,t4,t5,t6,rfl⟩,S4⟩:=hP
  obtain⟨x,rfl,hxi⟩:=pJ3.k.at hkv
  have hxk:=List.mem_of_getElem? hxi
  have hx:kn2 x≠none:=(hks x).mp hxk
  have hxn:=Vb x hx
  obtain⟨b,p,hpx⟩:=pa1 x hxk
  obtain⟨_,hb,pA,pI⟩:=pa2 x b p hpx
  have afW:=S4 _ _ Ry
  have afX:=S4 _ _ Zz
  have ZC:=S4 _ _ Li
  have afY:=S4 _ _ Hr
  have ho4:=ho3.same S4
  obtain⟨kg4,kc4,eh4,eg4,ec4,bd4⟩:=id ho4
  have pA4:=pA.tups (aN.tups S4)
  have dp4:bN H4 pd (.str x) (some (.ref b)):=by rw[<-hb];exact .inl ⟨kp, .inr x, .inr ⟨o3,S4 _ _ JP⟩,rfl,rfl⟩
  have dr4:bN H4 sd (.str x) (cP ks (.inr x)):=bN.k (k:= .inr x) ZC
  have afZ:IsD H4 sd:= .inl ⟨_, .inl ZC⟩
  walk_at "vs"
  intro l0 hl0
  have s5:=aG (.lst []) hl0
  have el0:upd H4 l0 (.lst []) l0=some (.lst []):=aq
  generalize upd H4 l0 (.lst [])=H5 at *
  walk_at "vs"
  intro t0 ht0
  have s6:=aG (.tup [.int 0, .ref l0, .int 0]) ht0
  have et0:upd H5 t0 (.tup [.int 0, .ref l0, .int 0]) t0=some (.tup [.int 0, .ref l0, .int 0]):=aq
  have S6:=S4.trans (s5.trans s6)
  have af0:=s6 _ _ el0
  generalize upd H5 t0 (.tup [.int 0, .ref l0, .int 0])=H6 at *
  refine⟨cP ks (.inr x),bN.k (k:= .inr x) (S6 _ _ Li), ?_⟩
  clear afW afX ZC afY ho4 eh4 eg4 ec4 bd4 pA4 dp4 dr4 afZ s5 s6 el0 S4 hl0 ht0
  cases egv:gv' x with
  | some u=>
    have hrm:rm x=none:=by
     cases e:rm x with
     | none=>rfl
     | some qq=>
       obtain⟨r,ps,v⟩:=qq
       have:=(sok.b _ _ _ _ e).2.1
       rw[(hdom x).mpr this] at egv;cases egv
    rw[rD3.w x hrm]
    have ep:p= .given:=pI.one (show vo gv' rc rm kn2 x .given by show gv' x≠none;rw[egv];simp)
    subst ep
    walk_at "vs"
    intro D hD
    refine wC (xs:=[]) (fun i σ' H'=>(∃a b,σ'=[a,b,some (.ref kd2)])/\aN H6 H') ?_ ?_ ?_ ?_
    ·exact⟨⟨none,none,rfl⟩,aG _ hD⟩
    ·intro i σ' H' _ hP
     exact SqL.of (hP.2 _ _ af0)
    ·intro i v σ' H' hv hP
     simp at hv
    ·intro σ' H7 hP
     have S7:=S6.trans hP.2
     obtain⟨kg7,kc7,eh7,eg7,ec7,bd7⟩:=ho3.same S7
     have dg7:bN H7 hg (.str x) (some (.int u)):=by
      have:cP kg7 (.inr x)=some (.int u):=by rw[bd7.g,egv];rfl
      rw[<-this];exact bN.k (k:= .inr x) eg7
     have dp7:bN H7 pd (.str x) (some (.ref b)):=by rw[<-hb];exact .inl ⟨kp, .inr x, .inr ⟨o3,S7 _ _ JP⟩,rfl,rfl⟩
     walk_at "vs"
     intro tg htg
     have s8:=aG (.tup [.str "given"]) htg
     have pA8:=pA.tups (aN.tups (S7.trans s8))
     refine⟨_,pA8.dat,(lu.given aq).dat,K8 pA8, ?_⟩
     walk_at "vs"
     exact⟨⟨_,_,_,_,_,_,rfl⟩,S7.trans s8⟩
  | none=>
    have hgx:gv x=none:=(hdom x).mp egv
    obtain⟨v0,hv0⟩:∃v0,kn x=some v0:=by
     cases z:kn x with
     | none=>exact absurd z (hall x hxn)
     | some v=>exact⟨v,rfl⟩
    obtain⟨r,ps,hrc,hrm⟩:∃r ps,rc x=some r/\rm x=some (r,ps,v0):=by
     rcases(sok.a _ _ hv0).2 with z | ⟨_,r,ps,h1,h2⟩
     ·rw[hgx] at z;cases z
     ·exact⟨r,ps,h1,h2⟩
    have rows:=(sok.b _ _ _ _ hrm).2.2.2.2
    obtain⟨rb,hrb,br,l,as,eb,hR,el,hRs,_⟩:=rD3.v x _ hrm
    rw[hrb]
    have eb6:=S6 _ _ eb
    have el6:=S6 _ _ el
    have hpsl:ps.length<=n:=by
     have:=iz rows.nd (ns:=nmK n) fun y hy=>by
      obtain⟨p,hp,rfl⟩:=List.mem_map.mp hy
      exact hknn _ (by rw[rows.s p hp];simp)
     rw[List.length_map,lZ] at this
     exact this
    walk_at "vs"
    intro D hD
    refine wC (xs:=as.map V.ref) (fun i σ' H'=>(∃a b,σ'=[a,b,some (.ref kd2)])/\H' D=some (.lst ((unl kn2 (ps.take i)).map V.str))/\aN H6 H') ?_ ?_ ?_ ?_
    ·exact⟨⟨none,none,rfl⟩,aq,aG _ hD⟩
    ·intro i σ' H' _ hP
     exact SqL.of (hP.2.2 _ _ el6)
    ·intro i v σ' H7 hv hP
     obtain⟨⟨a1,a2,rfl⟩,eD,S7⟩:=hP
     obtain⟨ai,hae,ey⟩:=KC hv
     subst ey
     obtain⟨pp,hp,ep⟩:=hRs.get i _ hae
     have ep7:H7 ai=some (.tup [.str pp.1, .int pp.2]):=(S6.trans S7) _ _ ep
     obtain⟨u2,hu2⟩:∃u2,kn2 pp.1=some u2:=by
      cases z:kn2 pp.1 with
      | none=>exact absurd z (hk2 _ (hknn _ (by rw[rows.s pp (List.mem_of_getElem? hp)];simp)))
      | some u=>exact⟨u,rfl⟩
     have dw:bN H7 kd2 (.str pp.1) (some (.int u2)):=by
      have:cP kw2 (.inr pp.1)=some (.int u2):=by rw[Rx,hu2];rfl
      rw[<-this];exact bN.k (k:= .inr pp.1) ((S6.trans S7) _ _ Hr)
     have hil:i<ps.length:=(List.getElem?_eq_some_iff.mp hp).1
     have hz:((unl kn2 (ps.take i)).map V.str).length<sizeLine:=by
      have:=U6 kn2 (ps.take i)
      have h2:=List.length_take_le i ps
      rw[List.length_map]
      exact cB (by omega)
     walk_at "vs"
     refine zg (fun c1=> ?_) (fun c1=> ?_)
     ·walk_at "vs"
      refine⟨⟨_,_,rfl⟩, ?_,dD _ hD S7⟩
      rw[aq,List.take_add_one,hp]
      rw[show ps.take i++(some pp).toList=ps.take i++[pp] from rfl,zJ,Nf (by rw[hu2];simpa using c1),List.map_append]
      rfl
     ·walk_at "vs"
      refine⟨⟨_,_,rfl⟩, ?_,S7⟩
      rw[eD,List.take_add_one,hp]
      rw[show ps.take i++(some pp).toList=ps.take i++[pp] from rfl,zJ,Ro (by
       rw[hu2]
       by_cases z:u2=pp.2
       ·rw[z]
       ·exact absurd (by simpa using z) c1),List.append_nil]
    ·intro σ' H7 hP
     obtain⟨_,eD,S7'⟩:=hP
     rw[show ps.take (as.map V.ref).length=ps by rw[List.length_map,hRs.length];exact List.take_length] at eD
     have S7:=S6.trans S7'
     obtain⟨kg7,kc7,eh7,eg7,ec7,bd7⟩:=ho3.same S7
     have dg7:bN H7 hg (.str x) none:=by
      have:cP kg7 (.inr x)=none:=by rw[bd7.g,egv];rfl
      rw[<-this];exact bN.k (k:= .inr x) eg7
     have dp7:bN H7 pd (.str x) (some (.ref b)):=by rw[<-hb];exact .inl ⟨kp, .inr x, .inr ⟨o3,S7 _ _ JP⟩,rfl,rfl⟩
     have pA7:=pA.tups (aN.tups S7)
     clear S6 S7' hD
     cases pA7 with
     | given e=>exact absurd egv pI
     | new e=>exact absurd pI.2 (by rw[hrm];simp)
     | rcp e _ _ _ _ _ _=>
       obtain⟨_,h1,h2,ps',v',h3⟩:=pI
       rw[hrm] at h3;cases h3
       rw[hrc] at h1
       exact absurd (Option.some.inj h1) h2
     | alike e=>
       obtain⟨_,r',ps',v',h1,h2,ha⟩:=pI
       rw[hrm] at h1;cases h1
       have hal:∀p∈ps,kn2 p.1=some p.2:=fun p hp=>by
        obtain⟨j,hj⟩:=List.getElem?_of_mem hp
        exact ha j p hj
       rw[Hi hal] at eD
       have hw:=Bw sok bt2.ok hrm egv hx hal
       walk_at "vs"
       intro lz hlz
       have s8:=aG (.lst [.str "read", .str "alike"]) hlz
       have ez8:upd H7 lz (.lst [.str "read", .str "alike"]) lz=some (.lst [.str "read", .str "alike"]):=aq
       have eD8:=s8 _ _ eD
       have S8:=S7.trans s8
       generalize upd H7 lz (.lst [.str "read", .str "alike"])=H8 at *
       walk_at "vs"
       intro ly hly
       have s9:=aG (.lst []) hly
       have S9:=S8.trans s9
       refine⟨D,ly,[],rfl,rfl,SqL.of (s9 _ _ eD8),SqL.of aq, ?_⟩
       have ez9:=s9 _ _ ez8
       have eD9:=s9 _ _ eD8
       generalize upd H8 ly (.lst [])=H9 at *
       have hat:atI [V.str "read",V.str "alike"] (if(List.isEmpty ([]:List V))=true then 1 else 0)=some (.str "alike"):=rfl
       walk_at "vs"
       intro lx hlx
       have s10:=aG (.lst []) hlx
       have S10:=S9.trans s10
       refine⟨D,lx,[],rfl,rfl,SqL.of (s10 _ _ eD9),SqL.of aq, ?_⟩
       have Vc:=s10 _ _ eD9
       generalize upd H9 lx (.lst [])=H10 at *
       have ait:bN H10 kd2 (.str x) (some (.int v0)):=by
        have:cP kw2 (.inr x)=some (.int v0):=by rw[Rx,hw];rfl
        rw[<-this];exact bN.k (k:= .inr x) (S10 _ _ Hr)
       have aiu:bN H10 kd (.str x) (some (.int v0)):=by
        have:cP kw (.inr x)=some (.int v0):=by rw[hkw,hv0];rfl
        rw[<-this];exact bN.k (k:= .inr x) (S10 _ _ Zz)
       have ahQ:=S10 _ _ Ry
       walk_at "vs"
       rw[show(!decide (V.int v0=V.int v0))=false by simp]
       walk_at "vs"
       intro lw hlw
       have s11:=aG (.lst []) hlw
       refine⟨D,lw,[],rfl,rfl,SqL.of (s11 _ _ Vc),SqL.of aq, ?_⟩
       walk_at "vs"
       exact⟨⟨_,_,_,_,_,_,rfl⟩,S10.trans s11⟩
     | @rd k u m e=>
       obtain⟨_,r',ps',v',y,h1,h2,hj,hk,hm,hne⟩:=pI
       rw[hrm] at h1;cases h1
       have hny:kn2 y≠some u:=by rw[hm];intro z;exact hne (Option.some.inj z)
       obtain⟨uy,huy⟩:=Oo hj hk hny
       rw[huy,List.map_cons] at eD
       walk_at "vs"
       intro lz hlz
       have s8:=aG (.lst [.str "read", .str "alike"]) hlz
       have ez8:upd H7 lz (.lst [.str "read", .str "alike"]) lz=some (.lst [.str "read", .str "alike"]):=aq
       have eD8:=s8 _ _ eD
       have S8:=S7.trans s8
       generalize upd H7 lz (.lst [.str "read", .str "alike"])=H8 at *
       walk_at "vs"
       intro ly hly
       have s9:=aG (.lst []) hly
       have S9:=S8.trans s9
       refine⟨D,ly,_,rfl,rfl,SqL.of (s9 _ _ eD8),SqL.of aq, ?_⟩
       have ez9:=s9 _ _ ez8
       have eD9:=s9 _ _ eD8
       generalize upd H8 ly (.lst [])=H9 at *
       have hat:atI [V.str "read",V.str "alike"] (if(List.isEmpty (V.str y::uy.map V.str))=true then 1 else 0)=some (.str "read"):=rfl
       walk_at "vs"
       intro lx hlx
       have s10:=aG (.lst []) hlx
       have S10:=S9.trans s10
       refine⟨D,lx,_,rfl,rfl,SqL.of (s10 _ _ eD9),SqL.of aq, ?_⟩
       have Vc:=s10 _ _ eD9
       generalize upd H9 lx (.lst [])=H10 at *
       walk_at "vs"
       intro lw hlw
       have s11:=aG (.lst []) hlw
       have S11:=S10.trans s11
       refine⟨D,lw,_,rfl,rfl,SqL.of (s11 _ _ Vc),SqL.of aq, ?_⟩
       have af1:=s11 _ _ Vc
       generalize upd H10 lw (.lst [])=H11 at *
       have hpok:∀x,kn2 x≠none->∃b p,pa x=some (b,p)/\WK rm kn2 x p:=fun x hx=>by
        obtain⟨b,p,e⟩:=pa1 x ((hks x).mpr hx)
        refine⟨b,p,e, ?_⟩
        have:=hpa x b p e
        cases p with
        | rd k u m=>
          obtain⟨_,r,ps,v,y,h1,_,_,h4,h5,_⟩:=this
          exact⟨r,ps,v,y,u,m,h1,h4,h5⟩
        | _=>trivial
       obtain⟨kx,hkx,exk⟩:=ji.mp hxn
       obtain⟨ys,ch,hyl⟩:∃ys,Chain pa rm x ys/\ys.length<=17:=by
        rw[exk]
        exact Jf (kn:=kn2) n17 rD3.ok hpok Vb 17 kx (by omega) hkx (by rw[<-exk];exact hx)
       have aiv:K4 H11 pd kp pa:=⟨.inr ⟨o3,S11 _ _ JP⟩,fun x b p e=>⟨(pa2 x b p e).2.1,(pa2 x b p e).2.2.1.tups (aN.tups S11)⟩⟩
       have aiw:=rD3.map fun b q z=>z.same S11
       have aix:Rd H11 sd (.dK ks):= .inl (S11 _ _ Li)
       have ahR:=S11 _ _ Ry
       have af2:ys.length<=100:=by omega
       walk_at "vs"
       intro cl2 ac H12 s12 hcl af3 en
       have S12:=S11.trans s12
       cases ch with
       | g h=>rw[hpx] at h;cases h
       | a h=>rw[hpx] at h;cases h
       | n h=>rw[hpx] at h;cases h
       | r h=>rw[hpx] at h;cases h
       | @s _ y' _ _ _ _ nn _ _ _ ys2 h hr' hp' tc=>
         rw[hpx] at h;cases h
         rw[hrm] at hr';cases hr'
         rw[hk] at hp';cases hp'
         obtain⟨a0,as2,rfl,en2⟩:∃a0 as2,ac=a0::as2/\qd H12 pa as2 ys2:=by
          cases en with
          | cons _ t=>exact⟨_,_,rfl,t⟩
         have rowy:=rows.s _ (List.mem_of_getElem? hk)
         have hyne:kn2 y≠kn y:=by rw[rowy];exact hny
         obtain⟨c1,c2⟩:=U5 sok bt2.ok hdom (fun x hx=>hall x (Vb x hx)) (fun x hx=>hk2 x (hknn x hx)) hpa tc hyne
         obtain⟨lst,hlst,bl,kl,ul,ml,rl,psl,vl,zl,nl',hpl,hrl,hzl,hgl⟩:∃l,(x::ys2).getLast?=some l/\Rk pa rm gv gv' l:=by
          rcases c2 with⟨z,w⟩ | ⟨l,z,w⟩
          ·subst z
           exact⟨x,rfl,b,k,u,m,r,ps,v0,y,u,hpx,hrm,hk,w⟩
          ·refine⟨l, ?_,w⟩
           cases ys2 with
           | nil=>cases z
           | cons a ys=>rw[List.getLast?_cons_cons];exact z
         walk_at "vs"
         intro ls hls
         rw[List.map_cons,afo]
         have s13:=aG (.lst (as2.map V.ref)) hls
         have els:upd H12 ls (.lst (as2.map V.ref)) ls=some (.lst (as2.map V.ref)):=aq
         have S13:=S12.trans s13
         have acr:=s13 _ _ af3
         have acs:=en.tups (aN.tups s13)
         have acu:=en2.tups (aN.tups s13)
         have af4:=s13 _ _ (s12 _ _ af1)
         generalize upd H12 ls (.lst (as2.map V.ref))=H13 at *
         walk_at "vs"
         refine HS (xs:=as2.map V.ref) (fun j σ H'=>(∃u1 u2,σ=[some (.ref h),some (.ref ft),some (.ref nl),some (.ref cl),some (.ref pd),some (.ref kd2),some (.str x),some (.ref D),some (.ref cl2),u1,u2,t6])/\aN H13 H') ?_ ?_ ?_ ?_
         ·exact⟨⟨_,_,rfl⟩,aN.refl _⟩
         ·intro j σ H' _ hP
          exact SqL.of (hP.2 _ _ els)
         ·intro j v σ H14 hv hP
          obtain⟨⟨u1,u2,rfl⟩,S14⟩:=hP
          obtain⟨aj,haj,ey⟩:=KC hv
          subst ey
          obtain⟨o,hoj,eo⟩:=acu.got j aj haj
          have hom:=List.mem_of_getElem? hoj
          have hone:=c1 o hom
          have ZD:kn2 o≠none/\kn o≠none:=by
           by_cases z:kn2 o=none
           ·exact absurd (by
             by_cases w:kn o=none
             ·rw[z,w]
             ·exact absurd z (hk2 o (hknn o w))) hone
           ·exact⟨z,hall o (Vb o z)⟩
          cases e1:kn2 o with
          | none=>exact absurd e1 ZD.1
          | some w1=>
            cases e2:kn o with
            | none=>exact absurd e2 ZD.2
            | some w2=>
              have af5:w1≠w2:=fun z=>hone (by rw[e1,e2,z])
              obtain⟨bo,po,hpo⟩:=pa1 o ((hks o).mpr ZD.1)
              unfold BV at eo
              rw[hpo] at eo
              have aiy:H14 aj=some (.tup [.str o, .ref bo]):=S14 _ _ eo
              have uV:=S13.trans S14
              have aiz:bN H14 kd2 (.str o) (some (.int w1)):=by
               have:cP kw2 (.inr o)=some (.int w1):=by rw[Rx,e1];rfl
               rw[<-this];exact bN.k (k:= .inr o) (uV _ _ Hr)
              have aiA:bN H14 kd (.str o) (some (.int w2)):=by
               have:cP kw (.inr o)=some (.int w2):=by rw[hkw,e2];rfl
               rw[<-this];exact bN.k (k:= .inr o) (uV _ _ Zz)
              have acv:=uV _ _ Ry
              have hdec:decide (V.int w1=V.int w2)=false:=decide_eq_false fun z=>af5 (by cases z;rfl)
              walk_at "vs"
              rw[hdec]
              walk_at "vs"
              exact⟨⟨_,_,rfl⟩,S14⟩
         ·intro σ H14 hP
          obtain⟨⟨u1,u2,rfl⟩,S14⟩:=hP
          have uV:=S13.trans S14
          have hll:(x::ys2)[(x::ys2).length - 1]? =some lst:=by rw[<-List.getLast?_eq_getElem?];exact hlst
          obtain⟨al,hal,eal⟩:=acs.get _ _ hll
          unfold BV at eal
          rw[hpl] at eal
          have ahS:H14 al=some (.tup [.str lst, .ref bl]):=S14 _ _ eal
          have ahT:=S14 _ _ acr
          have hatl:atI (V.ref a0::as2.map V.ref) (-1)=some (.ref al):=by
           have e0:V.ref a0::as2.map V.ref=(a0::as2).map V.ref:=rfl
           rw[e0,Zb (by simp),List.getElem?_map,List.length_map,acs.length,hal];rfl
          have pAl:lu H14 bl (.rd kl ul ml):=(pa2 _ _ _ hpl).2.2.1.tups (aN.tups uV)
          obtain⟨rb2,af6,br2,l2,as3,eb2,hR2,el2,af7,_⟩:=rD3.v lst _ hrl
          obtain⟨az,haz,eaz⟩:=Rp af7 hzl
          obtain⟨ak,hak,eak⟩:=Rp hRs hk
          have ahU:=uV _ _ eaz
          have ahV:=uV _ _ eak
          have aiB:=uV _ _ eb
          have ahW:=uV _ _ eb2
          have aiC:=uV _ _ el
          have ahX:=uV _ _ el2
          have hatk:atI (as.map V.ref) (k:Int)=some (.ref ak):=fW (by rw[List.getElem?_map,hak];rfl)
          have hatz:atI (as3.map V.ref) (kl:Int)=some (.ref az):=fW (by rw[List.getElem?_map,haz];rfl)
          have acv:=uV _ _ Ry
          have aiD:bN H14 sd (.str x) (some (.ref rb)):=by rw[<-hrb];exact bN.k (k:= .inr x) (uV _ _ Li)
          have aiE:bN H14 sd (.str lst) (some (.ref rb2)):=by rw[<-af6];exact bN.k (k:= .inr lst) (uV _ _ Li)
          have aiF:bN H14 pd (.str x) (some (.ref b)):=by rw[<-hb];exact .inl ⟨kp, .inr x, .inr ⟨o3,uV _ _ JP⟩,rfl,rfl⟩
          have af8:=pA.tups (aN.tups uV)
          have aiG:=S14 _ _ af4
          have afp:atI (V.str y::uy.map V.str) 0=some (.str y):=fW (j:=0) rfl
          have ahY:=uV _ _ afV
          cases pAl with
          | rd epl=>
            cases af8 with
            | rd epx=>
              have hin:=JB (hch zl hgl)
              have hfl:=Gm cs
              walk_at "vs"
              rw[show(!decide (V.str y=V.str y))=false by simp]
              walk_at "vs"
              rw[hin]
              walk_at "vs"
              exact⟨⟨_,_,_,_,_,_,rfl⟩,uV⟩
 ·intro σ H4 hP
  obtain⟨⟨t1,t2,t3,t4,t5,t6,rfl⟩,S4⟩:=hP
  walk_at "vs"
  exact q _ (S3.trans S4)
end
section
variable {P:Program}{w:World}{K:PySem.W.Frag}{mg:Str->Option Value}{base:Heap}
abbrev dB:Stmt:=top 39
theorem mW:bU ["script","pool","house","names","first","given","changed","k","cell","name","step","second","third"] ["script"] (aa dB):=⟨rfl,rfl,rfl,by decide +kernel,rfl,by decide +kernel,by decide +kernel⟩
theorem JT:Loc (aa dB) "pool":=by decide +kernel
theorem sY:(aa dB).names.lookup ("_law_pool":Str)=some NameKind.globalImplicit:=by decide +kernel
theorem rB:aJ (aa dB) "script":=by decide +kernel
theorem sZ:(("_law_pool":Str)==("__debug__":Str))=false:=by decide +kernel
theorem Hs:Loc (aa dB) "house":=by decide +kernel
theorem Ad:(aa dB).names.lookup ("_law_house":Str)=some NameKind.globalImplicit:=by decide +kernel
theorem gH:(aa dB).names.lookup ("_law_take":Str)=some NameKind.globalImplicit:=by decide +kernel
theorem JV:aJ (aa dB) "pool":=by decide +kernel
theorem gJ:(("_law_take":Str)==("__debug__":Str))=false:=by decide +kernel
theorem Ae:(("_law_house":Str)==("__debug__":Str))=false:=by decide +kernel
theorem Ht:Loc (aa dB) "names":=by decide +kernel
theorem xY:(aa dB).names.lookup ("sorted":Str)=some NameKind.globalImplicit:=by decide +kernel
theorem By:(aa dB).names.lookup ("list":Str)=some NameKind.globalImplicit:=by decide +kernel
theorem iG:aJ (aa dB) "house":=by decide +kernel
theorem BJ:("list":Str)≠"__name__":=by decide +kernel
theorem BK:(("list":Str)==("__debug__":Str))=false:=by decide +kernel
theorem xZ:("sorted":Str)≠"__name__":=by decide +kernel
theorem yc:(("sorted":Str)==("__debug__":Str))=false:=by decide +kernel
theorem Hu:Loc (aa dB) "first":=by decide +kernel
theorem yX:(aa dB).names.lookup ("fresh_build":Str)=some NameKind.globalImplicit:=by decide +kernel
theorem o6:aJ (aa dB) "names":=by decide +kernel
theorem yZ:(("fresh_build":Str)==("__debug__":Str))=false:=by decide +kernel
theorem Hv:Loc (aa dB) "given":=by decide +kernel
theorem JW:(aa dB).names.lookup ("dict":Str)=some NameKind.globalImplicit:=by decide +kernel
theorem JX:("dict":Str)≠"__name__":=by decide +kernel
theorem JZ:(("dict":Str)==("__debug__":Str))=false:=by decide +kernel
theorem Ep:Loc (aa dB) "changed":=by decide +kernel
theorem Hw:(aa dB).names.lookup ("range":Str)=some NameKind.globalImplicit:=by decide +kernel
theorem Rz:Loc (aa dB) "k":=by decide +kernel
theorem J0:Loc (aa dB) "cell":=by decide +kernel
theorem RC:aJ (aa dB) "k":=by decide +kernel
theorem nQ:aJ (aa dB) "cell":=by decide +kernel
theorem J1:Loc (aa dB) "name":=by decide +kernel
theorem mH:aJ (aa dB) "given":=by decide +kernel
theorem Lj:(aa dB).names.lookup ("len":Str)=some NameKind.globalImplicit:=by decide +kernel
theorem Lk:("len":Str)≠"__name__":=by decide +kernel
theorem Ln:(("len":Str)==("__debug__":Str))=false:=by decide +kernel
theorem J2:Loc (aa dB) "step":=by decide +kernel
theorem wg:aJ (aa dB) "name":=by decide +kernel
theorem J3:aJ (aa dB) "step":=by decide +kernel
theorem wj:aJ (aa dB) "changed":=by decide +kernel
theorem Bf:(aa dB).names.lookup ("_law_good":Str)=some NameKind.globalImplicit:=by decide +kernel
theorem o7:aJ (aa dB) "first":=by decide +kernel
theorem Bg:(("_law_good":Str)==("__debug__":Str))=false:=by decide +kernel
theorem Fi:Loc (aa dB) "second":=by decide +kernel
theorem p6:(aa dB).names.lookup ("build_again":Str)=some NameKind.globalImplicit:=by decide +kernel
theorem p7:(("build_again":Str)==("__debug__":Str))=false:=by decide +kernel
theorem Hx:Loc (aa dB) "third":=by decide +kernel
theorem Fj:aJ (aa dB) "second":=by decide +kernel
theorem uv:aJ (aa dB) "third":=by decide +kernel
theorem ZF {f g1 g2 g3 g4 g5 g6:Addr}{fd gd1 gd2 gd3 gd4 gd5 gd6:FuncData} (RD:FnT K mg "law" dB ["script"] f fd)
 (dN:FnT K mg "_law_pool" gU ["script","k"] g1 gd1) (ur:bF P w K mg base CX0 2 g1 gd1 ["script","k"] (KD K))
 (aF:FnT K mg "_law_take" dO ["pool","many"] g2 gd2) (bJ:bF P w K mg base CX0 1 g2 gd2 ["pool","many"] yj)
 (jg:FnT K mg "_law_house" bB ["script","start","many"] g3 gd3) (J4:bF P w K mg base CX0 7 g3 gd3 ["script","start","many"] (WD K))
 (gF:FnT K mg "fresh_build" cO ["house","wishes"] g4 gd4) (Fl:bF P w K mg base CX0 17 g4 gd4 ["house","wishes"] Jw)
 (bh:FnT K mg "build_again" cz ["house","records","wishes"] g5 gd5) (jA:bF P w K mg base CX0 17 g5 gd5 ["house","records","wishes"] Cv)
 (jY:FnT K mg "_law_good" aU ["house","first","names","changed"] g6 gd6) (Lp:bF P w K mg base CX0 19 g6 gd6 ["house","first","names","changed"] Rq)
 (T:Blt mg):bF P w K mg base CX0 20 f fd ["script"] (Mw K):=by
 refine RD.F.okQ mW (fun vs H Q E h=> ?_) (fun cdv A outer s H vs Q E hr h=> ?_)
 ·obtain⟨a,ns,rfl,_⟩:=h
  rfl
 obtain⟨a,zs,rfl,hS,h63,q⟩:=h
 refine⟨_,(aA (bV (i:=1) mW.nd rfl JT (aZ (ur.mono (by omega)) hr sY dN.m dN.F.kp dN.b .nil bO (aV (ao 0 rB) (ir aB aC)) sZ))
  (aA (bV (i:=2) mW.nd rfl Hs (aZ (J4.mono (by omega)) hr Ad jg.m jg.F.kp jg.b .nil bO (aV (ao 0 rB) (ir aB (zB (dz lW aB (aZ (bJ.mono (by omega)) hr gH aF.m aF.F.kp aF.b .nil bO (aV (ao 1 JV) (ir aB aC)) gJ)) aC))) Ae))
  (aA (bV (i:=3) mW.nd rfl Ht (eN KY xY T.Iv FQ (zB (dz T4 (mQ (Dq rfl) By T.Dh zm (jC (aM aK (ao 2 iG) aB) aC) BJ BK) (mQ (Dq rfl) By T.Dh zm (jC (aM aK (ao 2 iG) aB) aC) BJ BK)) aC) xZ yc))
  (aA (bV (i:=4) mW.nd rfl Hu (aZ (Fl.mono (by omega)) hr yX gF.m gF.F.kp gF.b .nil bO (aV (ao 2 iG) (aV (ao 3 o6) aC)) yZ))
  (aA (bV (i:=5) mW.nd rfl Hv (mQ QB JW T.YK TJ (jC (aM aK (ao 2 iG) aB) aC) JX JZ))
  (aA (bV (i:=6) mW.nd rfl Ep (gK aC))
  (aA (ye PassesOwn.never rfl (Oa Hw T.GQ (ir aB (ir aB aC))) (lV (i:=7) mW.nd rfl Rz) (aA (bV (i:=8) mW.nd rfl J0 (aZ (ur.mono (by omega)) hr sY dN.m dN.F.kp dN.b .nil bO (aV (ao 0 rB) (aV (ao 7 RC) aC)) sZ))
  (aH (dh (cD gB (aZ (bJ.mono (by omega)) hr gH aF.m aF.F.kp aF.b .nil bO (aV (ao 8 nQ) (ir aB aC)) gJ) aB (bz _)) (aA (bV (i:=9) mW.nd rfl J1 (aM d8 (eN (K9 rfl) xY T.Iv FQ (aV (ao 5 mH) aC) xZ yc) (aZ (bJ.mono (by omega)) hr gH aF.m aF.F.kp aF.b .nil bO (aV (ao 8 nQ) (wN (eN Ud Lj T.zA tL (aV (ao 5 mH) aC) Lk Ln) aC)) gJ)))
  (aA (bV (i:=10) mW.nd rfl J2 (aM d8 (gK (ir aB (afe (Ij zy aB) (zB (dz lW aB (aZ (bJ.mono (by omega)) hr gH aF.m aF.F.kp aF.b .nil bO (aV (ao 8 nQ) (zB (dz GP aB aB) aC)) gJ)) (zB (dz mX (Ij zy aB) (aZ (bJ.mono (by omega)) hr gH aF.m aF.F.kp aF.b .nil bO (aV (ao 8 nQ) (ir aB aC)) gJ)) aC))))) (aZ (bJ.mono (by omega)) hr gH aF.m aF.F.kp aF.b .nil bO (aV (ao 8 nQ) (ir aB aC)) gJ)))
  (aA (j0 (cA hr) (ao 5 mH) (ao 9 wg) (dz lW (cR (cA hr) (aM aK (ao 2 iG) aB) (ao 9 wg)) (ao 10 J3)))
  (aH (gA (rG PySem.F.plainAttrs_list PySem.F.slot_list_append PySem.F.type_list_append iH (ao 6 wj) (aV (ao 9 wg) aC))))))) cH))))
  (aA (dh (GD (tM (aZ (Lp.mono (by omega)) hr Bf jY.m jY.F.kp jY.b .nil bO (IW (fQ (aV (ao 5 mH) (jC (aM aK (ao 2 iG) aB) aC))) (aV (ao 4 o7) (aV (ao 3 o6) (aV (ao 6 wj) aC)))) Bg))) (aH (bH xP)) cH)
  (aA (bV (i:=11) mW.nd rfl Fi (U7 rfl (aZ (jA.mono (by omega)) hr p6 bh.m bh.F.kp bh.b .nil bO (IW (fQ (aV (ao 5 mH) (jC (aM aK (ao 2 iG) aB) aC))) (jC (aM aK (ao 4 o7) aB) (aV (ao 3 o6) aC))) p7)))
  (aA (bV (i:=12) mW.nd rfl Hx (aZ (jA.mono (by omega)) hr p6 bh.m bh.F.kp bh.b .nil bO (aV (ao 2 iG) (jC (aM aK (ao 11 Fj) aB) (aV (ao 3 o6) aC))) p7))
  (aA (dh (Dd (FT (cD (Gk hr.u66) (aM aK (ao 12 uv) aB) (aM aK (ao 4 o7) aB) (bz _)) (Aj (cD (Gk hr.u66) (aM aK (ao 12 uv) aB) (aM aK (ao 4 o7) aB) (bz _))))) (aH (bH xP)) cH)
  (aH (bH (Ai (An hr.units) (wF rfl (n:=1) (fr:=[11,12]) (N:=["name","second","third"]) (CT (scX:=aa dB) (NX:=["script","pool","house","names","first","given","changed","k","cell","name","step","second","third"]) rfl rfl (by decide +kernel)) (zq (aM aK (ao 12 uv) aB)) (fun _ _ _ _ _=>(qgx (i:=0) (show List.Nodup (α:=Str) ["name","second","third"] by decide) (Gz (by decide +kernel)))) (fun _ _ _ _ _=>(De (Dd (Dc (cD (Dg (K:=K) rfl) (ao 0 (lR.ok (by decide +kernel))) (aM (vd (K:=K) rfl) (ao 1 (lR.ok (by decide +kernel))) aB) rfl) (zp (cD tQ (cR (cA hr) (aM (vd (K:=K) rfl) (ao 1 (lR.ok (by decide +kernel))) aB) (ao 0 (lR.ok (by decide +kernel)))) (cR (cA hr) (aM (vd (K:=K) rfl) (ao 2 (lR.ok (by decide +kernel))) aB) (ao 0 (lR.ok (by decide +kernel)))) (bz _))))))) (fun _ _ _ _ _=>(ao 0 (lR.ok (by decide +kernel))))) (gK aC) (bz _))))))))))))))), ?_⟩
 walk_at "vs"
 intro p H1 s1 hp0 pl1
 have fr:∀y∈[p],H y=none:=fun y hy=>by
  have:y=p:=by simpa using hy
  rw[this];exact hp0
 have hS1:=SqL.same s1 hS
 walk_at "vs"
 intro n2 H2 n20 n21 b2 pl2
 have S2:=gn s1 fr b2
 have hS2:=SqL.same S2 hS
 obtain⟨m,rfl⟩:=Int.eq_ofNat_of_zero_le n20
 have em:(2+(m:Int))=((2+m:Nat):Int):=by omega
 have hm:m<15:=by omega
 refine⟨2,(m:Int),rfl,rfl, ?_⟩
 obtain⟨n,hn⟩:∃n,n=2+m:=⟨_,rfl⟩
 have n17:n<=17:=by omega
 have n1:1<=n:=by omega
 refine⟨a,zs,1,n,by show [V.ref a,V.int 1,V.int (2+(m:Int))]=_;rw[em,hn],hS2,by omega,by omega,n17,fun h hg hc gv rc H3 s3 hh3 hg3 hc3 ho3=> ?_⟩
 have S3:=S2.trans s3
 obtain⟨kg,kc,eh,eg,ec,bd⟩:=id ho3
 obtain⟨gs,cs,kgk,kck,hlen⟩:=bd.k
 walk_at "vs"
 intro l1 hl1
 rw[Ar kgk.k]
 have s4:=aG (.lst (gs.map V.str)) hl1
 have e4:upd H3 l1 (.lst (gs.map V.str)) l1=some (.lst (gs.map V.str)):=aq
 have eh4:=s4 _ _ eh
 have ec4:=s4 _ _ ec
 generalize upd H3 l1 (.lst (gs.map V.str))=H4 at *
 walk_at "vs"
 intro l2 hl2
 rw[Ar kck.k]
 have s5:=aG (.lst (cs.map V.str)) hl2
 have e45:=s5 _ _ e4
 have e5:upd H4 l2 (.lst (cs.map V.str)) l2=some (.lst (cs.map V.str)):=aq
 have T5:=s4.trans s5
 generalize upd H4 l2 (.lst (cs.map V.str))=H5 at *
 have hz:(gs.map V.str).length+(cs.map V.str).length<=sizeLine:=by rw[List.length_map,List.length_map];exact Nat.le_of_lt (cB (by omega))
 walk_at "vs"
 intro l3 hl3
 rw[<-List.map_append]
 have s6:=aG (.lst ((gs++cs).map V.str)) hl3
 have e6:upd H5 l3 (.lst ((gs++cs).map V.str)) l3=some (.lst ((gs++cs).map V.str)):=aq
 have T6:=T5.trans s6
 generalize upd H5 l3 (.lst ((gs++cs).map V.str))=H6 at *
 refine⟨l3,gs++cs,rfl,SqL.of e6,by rw[List.length_append];omega,fun l4 us hl4 hperm=> ?_⟩
 have s7:=aG (.lst (us.map V.str)) hl4
 have e7:upd H6 l4 (.lst (us.map V.str)) l4=some (.lst (us.map V.str)):=aq
 have T7:=T6.trans s7
 generalize upd H6 l4 (.lst (us.map V.str))=H7 at *
 have hus:∀x,x∈us ↔ x∈nmK n:=fun x=>by
  constructor
  ·intro hx
   rcases List.mem_append.mp (hperm.mem_iff.mp hx) with z | z
   ·refine bd.ok.gk x fun e=> ?_
    exact kgk.none.mp (by rw[bd.g,e];rfl) z
   ·cases e:rc x with
    | none=>exact absurd z (kck.none.mp (bd.rn x e))
    | some r=>
      obtain⟨k,hk,ek,_⟩:=bd.ok.rk x r e
      exact ji.mpr ⟨k,hk,ek⟩
  ·intro hx
   refine hperm.mem_iff.mpr (List.mem_append.mpr ?_)
   obtain⟨k,hk,rfl⟩:=ji.mp hx
   rcases bd.ok.dom k hk with z | z
   ·left
    refine Decidable.byContradiction fun w=>z ?_
    have:=kgk.none.mpr w
    rw[bd.g] at this
    cases e:gv (aD k) with
    | none=>rfl
    | some u=>rw[e] at this;cases this
   ·right
    refine Decidable.byContradiction fun w=>z ?_
    have:=kck.none.mpr w
    cases e:rc (aD k) with
    | none=>rfl
    | some r=>
      obtain⟨b,hb,_⟩:=bd.r _ _ e
      rw[hb] at this;cases this
 have hws:∀x∈us,x∈nmK n:=fun x hx=>(hus x).mp hx
 have ho7:=ho3.same T7
 clear s4 s5 s6 s7 T5 T6 e4 eh4 ec4 e45 e5 e6 hl1 hl2 hl3 hz
 walk_at "vs"
 intro t kd sd ol kw ks wn sn kn rm H8 s8 et hkd hsd hol nks ekd kkw hkw esd kks rDs eol bt
 have T8:=T7.trans s8
 have eh8:=T8 _ _ eh
 have rg8:Rd H8 hg (.dK kg):= .inl (T8 _ _ eg)
 walk_at "vs"
 intro gd hgd
 have s9:=aG (.dK kg) hgd
 have egd:upd H8 gd (.dK kg) gd=some (.dK kg):=aq
 have T9:=T8.trans s9
 generalize upd H8 gd (.dK kg)=H9 at *
 walk_at "vs"
 intro cl hcl
 have s10:=aG (.lst []) hcl
 have ecl:upd H9 cl (.lst []) cl=some (.lst (([]:List Str).map V.str)):=aq
 have acw:=s10 _ _ egd
 have ngc:gd≠cl:=fun z=>by rw[<-z,egd] at hcl;cases hcl
 have T10:=T9.trans s10
 have Z10:=s9.trans s10
 have af9:=same_none s9 hcl
 generalize upd H9 cl (.lst [])=H10 at *
 have SH8:aN H H8:=S3.trans T8
 have x0g:∃y,y∈gs:=⟨aD 0,Decidable.byContradiction fun w=>by
  have:=kgk.none.mpr w
  rw[bd.g] at this
  cases e:gv (aD 0) with
  | none=>exact bd.ok.g0 (by omega) e
  | some u=>rw[e] at this;cases this⟩
 have hgsl:0<gs.length:=by
  obtain⟨y,hy⟩:=x0g
  exact List.length_pos_of_mem hy
 walk_at "vs"
 refine Fq (fun i σ H'=>(∃t1 t2 t3 t4,σ=[some (.ref a),some (.ref p),some (.ref h),some (.ref l4),some (.ref t),some (.ref gd),some (.ref cl),t1,t2,t3,t4,none,none])/\aN H8 H'/\∃(kgi:List (Key×V)) (gvi:Kn) (ch:List Str),H' gd=some (.dK kgi)/\jM kgi gs/\(∀x,cP kgi (.inr x)=(gvi x).map V.int)/\(∀x,gvi x=none ↔ gv x=none)/\H' cl=some (.lst (ch.map V.str))/\ch.length<=i/\∀x,gvi x≠gv x->x∈ch) ?_ ?_ ?_
 ·exact⟨⟨none,none,none,none,rfl⟩,Z10,kg,gv,[],acw,kgk,bd.g,fun _=>Iff.rfl,ecl,Nat.le_refl _,fun x hx=>absurd rfl hx⟩
 ·intro i σ H11 hi hP
  obtain⟨⟨t1,t2,t3,t4,rfl⟩,S11,kgi,gvi,ch,Ld,kki,hgi,hdi,Ow,WX,hch⟩:=hP
  have aiH:i<42:=hi
  have aiI:=SqL.same (SH8.trans S11) hS
  have ahZ:gs.length<=17:=by omega
  walk_at "vs"
  intro pc H12 s12 hpc plc
  have S12:=S11.trans s12
  have aga:=same_none S11 hpc
  have fr8:∀y∈[pc],H8 y=none:=fun y hy=>by
   have:y=pc:=by simpa using hy
   rw[this];exact aga
  have npg:gd∉[pc]:=fun z=>by
   have:gd=pc:=by simpa using z
   rw[<-this,Ld] at hpc;cases hpc
  have npl:cl∉[pc]:=fun z=>by
   have:cl=pc:=by simpa using z
   rw[<-this,Ow] at hpc;cases hpc
  have ZG:=s12 _ _ Ld
  have agb:=s12 _ _ Ow
  walk_at "vs"
  intro n13 H13 aiJ aiK b13 WY
  have S13:=gn S12 fr8 b13
  have ZJ:=b13 _ _ npg ZG
  have acy:=b13 _ _ npl agb
  walk_at "vs"
  refine zg (fun c1=> ?_) (fun c1=> ?_)
  ·have aiL:Rd H13 gd (.dK kgi):= .inl ZJ
   have h64:kgi.length<64:=by rw[kki.len];omega
   have hkk:=kki.k
   walk_at "vs"
   intro lso us2 hlso RG _
   have s14:=aG (.lst (us2.map V.str)) hlso
   have eso:upd H13 lso (.lst (us2.map V.str)) lso=some (.lst (us2.map V.str)):=aq
   have S14:=S13.trans s14
   have agc:=s14 _ _ ZJ
   have agd:=s14 _ _ acy
   have ah0:=WY.same s14
   have nso:lso∉[pc]:=fun z=>WY.ne hlso (by simpa using z)
   generalize upd H13 lso (.lst (us2.map V.str))=H14 at *
   have hl0:0<(kgi.length:Int):=by rw[kki.len];omega
   have hlog:(kgi.length:Int).natAbs.log2<9000:=Nat.lt_of_le_of_lt (Nat.log2_le_self _) (by rw[kki.len];omega)
   walk_at "vs"
   intro n15 H15 age aiM b15 ah1
   have S15:=gn S14 fr8 b15
   have agf:=b15 _ _ npg agc
   have agg:=b15 _ _ npl agd
   have ah2:=b15 _ _ nso eso
   obtain⟨x,hx,hxm⟩:∃x,atI (us2.map V.str) n15=some (.str x)/\x∈us2:=by
    obtain⟨j,rfl⟩:=Int.eq_ofNat_of_zero_le age
    have hj:j<us2.length:=by
     rw[RG.length_eq,<-kki.len];omega
    exact⟨us2[j],fW (by rw[List.getElem?_map,List.getElem?_eq_getElem hj];rfl),List.getElem_mem hj⟩
   have hxg:x∈gs:=RG.mem_iff.mp hxm
   obtain⟨g0,hg0⟩:∃g0,gv x=some g0:=by
    cases e:gv x with
    | none=>exact absurd hxg (kgk.none.mp (by rw[bd.g,e];rfl))
    | some u=>exact⟨u,rfl⟩
   walk_at "vs"
   intro n16 H16 aiN aiO b16 ah3
   have S16:=gn S15 fr8 b16
   have agh:=b16 _ _ npg agf
   have agi:=b16 _ _ npl agg
   walk_at "vs"
   intro RJ H17 aiP n171 b17 W0
   have S17:=gn S16 fr8 b17
   have agj:=b17 _ _ npg agh
   have agk:=b17 _ _ npl agi
   walk_at "vs"
   intro lst hlst
   have s18:=aG (.lst [.int 1, .int (-1), .int (2+n16), .int (-2 - RJ)]) hlst
   have els:upd H17 lst (.lst [.int 1, .int (-1), .int (2+n16), .int (-2 - RJ)]) lst=some (.lst [.int 1, .int (-1), .int (2+n16), .int (-2 - RJ)]):=aq
   have S18:=S17.trans s18
   have agl:=s18 _ _ agj
   have agm:=s18 _ _ agk
   have ah4:=W0.same s18
   have nls:lst∉[pc]:=fun z=>W0.ne hlst (by simpa using z)
   generalize upd H17 lst (.lst [.int 1, .int (-1), .int (2+n16), .int (-2 - RJ)])=H18 at *
   walk_at "vs"
   intro n19 H19 aiQ n191 b19 ah5
   have S19:=gn S18 fr8 b19
   have agn:=b19 _ _ npg agl
   have ago:=b19 _ _ npl agm
   have ah6:=b19 _ _ nls els
   obtain⟨st,hst⟩:∃st:Int,atI [V.int 1,V.int (-1),V.int (2+n16),V.int (-2 - RJ)] n19=some (.int st):=by
    have:n19=0\/n19=1\/n19=2\/n19=3:=by omega
    rcases this with rfl | rfl | rfl | rfl
    ·exact⟨_,fW (j:=0) rfl⟩
    ·exact⟨_,fW (j:=1) rfl⟩
    ·exact⟨_,fW (j:=2) rfl⟩
    ·exact⟨_,fW (j:=3) rfl⟩
   have aiR:=S19 _ _ eh8
   have aiS:bN H19 hg (.str x) (some (.int g0)):=by
    have:cP kg (.inr x)=some (.int g0):=by rw[bd.g,hg0];rfl
    rw[<-this];exact bN.k (k:= .inr x) (S19 _ _ (T8 _ _ eg))
   have dput:lQ H19 gd (.str x) (.int (g0+st)) (upd H19 gd (.dK (putK kgi (.inr x) (.int (g0+st))))):=lQ.k (k:= .inr x) agn (cB (by omega))
   have aiT:upd H19 gd (.dK (putK kgi (.inr x) (.int (g0+st)))) cl=some (.lst (ch.map V.str)):=(au (Ne.symm ngc)).trans ago
   have hz:(ch.map V.str).length<sizeLine:=by rw[List.length_map];exact cB (by omega)
   walk_at "vs"
   have S20:aN H8 (upd H19 gd (.dK (putK kgi (.inr x) (.int (g0+st))))):=dD _ hgd S19
   refine⟨⟨_,_,_,_,rfl⟩,dD _ af9 S20,_,gvi.put x (g0+st),ch++[x],(au ngc).trans aq,kki.KZ hxg _,Cr hgi x (g0+st),fun y=> ?_,by rw[aq,List.map_append];rfl,by simp;omega,fun y hy=> ?_⟩
   ·unfold Kn.put
    by_cases z:y=x
    ·rw[if_pos z,z,hg0];simp
    ·rw[if_neg z];exact hdi y
   ·unfold Kn.put at hy
    by_cases z:y=x
    ·rw[z];simp
    ·rw[if_neg z] at hy
     exact List.mem_append_left _ (hch y hy)
  ·walk_at "vs"
   exact⟨⟨_,_,_,_,rfl⟩,S13,kgi,gvi,ch,ZJ,kki,hgi,hdi,acy,by omega,hch⟩
 ·intro σ H11 hP
  obtain⟨⟨t1,t2,t3,t4,rfl⟩,S11,kgi,gvi,ch,Ld,kki,hgi,hdi,Ow,WX,hch⟩:=hP
  have ah7:ch.length<=42:=WX
  have U11:=T8.trans S11
  have agp:=U11 _ _ eh
  have bdi:Bld H11 kgi kc n gvi rc:=by
   have b3:=bd.tups (aN.tups U11)
   exact⟨b3.ok.like hdi,⟨gs,cs,kki,kck,hlen⟩,hgi,b3.r,b3.rn⟩
  walk_at "vs"
  intro h2 hh2
  have s12:=aG (.tup [.ref gd, .ref hc]) hh2
  have agq:upd H11 h2 (.tup [.ref gd, .ref hc]) h2=some (.tup [.ref gd, .ref hc]):=aq
  have S12:=S11.trans s12
  have U12:=U11.trans s12
  have hoi:pG (upd H11 h2 (.tup [.ref gd, .ref hc])) h2 gd hc n gvi rc:=⟨kgi,kc,agq,s12 _ _ Ld,U12 _ _ ec,bdi.tups (aN.tups s12)⟩
  have ah8:=s12 _ _ Ow
  have ZG:=s12 _ _ Ld
  generalize upd H11 h2 (.tup [.ref gd, .ref hc])=H12 at *
  have aiU:=S12 _ _ et
  have ah9:=S12 _ _ ekd
  have aia:=S12 _ _ esd
  have aiV:=rDs.map fun b q z=>z.same S12
  have aib:H12 l4=some (.lst (us.map V.str)):=S12 _ _ (s8 _ _ e7)
  have hall:∀x∈nmK n,kn x≠none:=fun x hx=>bt.w x ((hus x).mpr hx)
  have agr:ch.length<=100:=by omega
  have sok:=bt.ok
  walk_at "vs"
  intro H13 s13
  have S13:=S12.trans s13
  have aiW:=s13 _ _ (s12 _ _ agp)
  walk_at "vs"
  intro h3 ags
  have s14:=aG (.tup [.ref gd, .ref hc]) ags
  have agt:upd H13 h3 (.tup [.ref gd, .ref hc]) h3=some (.tup [.ref gd, .ref hc]):=aq
  have S14:=S13.trans s14
  have z14:=s13.trans s14
  have aic:pG (upd H13 h3 (.tup [.ref gd, .ref hc])) h3 gd hc n gvi rc:=⟨kgi,kc,agt,z14 _ _ ZG,(U12.trans z14) _ _ ec,bdi.tups (aN.tups (s12.trans z14))⟩
  generalize upd H13 h3 (.tup [.ref gd, .ref hc])=H14 at *
  have aiX:=S14 _ _ et
  have aid:=S14 _ _ esd
  have aiY:=rDs.map fun b q z=>z.same S14
  have acz:H14 l4=some (.lst (us.map V.str)):=S14 _ _ (s8 _ _ e7)
  walk_at "vs"
  intro t2' kd2 sd2 lm2 lk2 kw2 ks2 wn2 sn2 kn2 rm2 rk2 o2 H15 s15 et2 U9 Va aiZ ai0 agu ai1 Rv afT Rx Ox Zy rD2 ZK ai2 bt2
  refine⟨sd2,o2, .dK ks2,Ox,same_none (SH8.trans S14) Va, ?_⟩
  have s16:aN H14 (upd H15 sd2 (.dK ks2)):=dD _ Va s15
  have aie:upd H15 sd2 (.dK ks2) sd2=some (.dK ks2):=aq
  have ai3:mJ (upd H15 sd2 (.dK ks2)) ks2 n rm2:=rD2.map fun b q z=>z.thaw Ox
  have agv:upd H15 sd2 (.dK ks2) t2'=some (.tup [.ref kd2, .ref sd2, .ref lm2, .ref lk2]):=JC Ox _ _ et2
  have acA:upd H15 sd2 (.dK ks2) kd2=some (.dK kw2):=(au agu).trans Rv
  have acB:upd H15 sd2 (.dK ks2) lm2=some (.lst ((sn2.filter rk2).map V.str)):=(au (fun z=>by rw[z,Ox] at ZK;cases ZK)).trans ZK
  generalize upd H15 sd2 (.dK ks2)=H16 at *
  have S16:=S14.trans s16
  have ai4:=ho3.same (T8.trans S16)
  have aif:=s16 _ _ acz
  walk_at "vs"
  intro t3' kd3 sd3 lm3 lk3 kw3 ks3 wn3 sn3 kn3 rm3 rk3 o3 H17 s17 et3 ai5 ai6 ai7 ai8 ai9 aja Hr agw acC Li agx rD3 agy ajb bt3
  have ekn:kn3=kn:=Rg (by omega) bd.ok.rk bt3.ok bt.ok bt3.w bt.w bt3.r bt.r
  subst ekn
  have erm:rm3=rm:=Zq bt3.ok bt.ok
  subst erm
  have S17:=S16.trans s17
  have sW:=ab8 (K:=K) (H:=H17) agw acC kkw hkw
  have sR:=acd (K:=K) rD3 (rDs.map fun b q z=>z.same S17) (by omega)
  have rd1:Rd H17 kd3 (.dK kw3):= .inl Hr
  have rd2:Rd H17 kd (.dK kw):= .inl (S17 _ _ ekd)
  have rd3:Rd H17 sd3 (.dK ks3):= .inr ⟨o3,Li⟩
  have rd4:Rd H17 sd (.dK ks):= .inl (S17 _ _ esd)
  have ajc:=S17 _ _ et
  have acD:=s17 _ _ agv
  have ZL:=s17 _ _ acB
  have ZM:=s17 _ _ acA
  walk_at "vs"
  intro D hD
  refine wC (xs:=(sn3.filter rk3).map V.str) (fun i σ' H'=>(∃a,σ'=[a,some (.ref t2'),some (.ref t3')])/\H' D=some (.lst [])/\aN H17 H') ?_ ?_ ?_ ?_
  ·exact⟨⟨none,rfl⟩,aq,aG _ hD⟩
  ·intro j σ' H' _ hP
   exact SqL.of (hP.2.2 _ _ agy)
  ·intro j v σ' H18 hv hP
   obtain⟨⟨a1,rfl⟩,eD,S18⟩:=hP
   obtain⟨x,hxi,rfl⟩:∃x,(sn3.filter rk3)[j]? =some x/\v=V.str x:=by
    rw[List.getElem?_map] at hv
    cases e:(sn3.filter rk3)[j]? with
    | none=>rw[e] at hv;cases hv
    | some x=>rw[e] at hv;exact⟨x,rfl,(Option.some.inj hv).symm⟩
   have hx3:=(List.mem_filter.mp (List.mem_of_getElem? hxi)).1
   have hrm:rm3 x≠none:=(rD3.mem agx x).mp hx3
   obtain⟨r,ps,v0,hrm⟩:∃r ps v0,rm3 x=some (r,ps,v0):=by
    cases e:rm3 x with
    | none=>exact absurd e hrm
    | some qq=>exact⟨qq.1,qq.2.1,qq.2.2,rfl⟩
   obtain⟨b1,b2,b3,b4,b5⟩:=bt3.ok.b _ _ _ _ hrm
   have aih:=S18 _ _ et3
   have aii:=S18 _ _ acD
   have agz:=S18 _ _ ZL
   have hfl:=Gm (sn2.filter rk2)
   by_cases hin:x∈sn2.filter rk2
   ·have hiv:=JB hin
    walk_at "vs"
    rw[hiv]
    walk_at "vs"
    exact⟨⟨_,rfl⟩,eD,S18⟩
   ·have hiv:=Zr hin
    have hxn:x∈nmK n:=(bt3.ok.a _ _ b3).1
    have agA:kn2 x≠none:=bt2.w x ((hus x).mpr hxn)
    have hw:kn2 x=some v0:=by
     cases e:kn2 x with
     | none=>exact absurd e agA
     | some u=>
       rcases(bt2.ok.a _ _ e).2 with z | ⟨_,r2,ps2,h1,h2⟩
       ·rw[(hdi x).mpr b2] at z;cases z
       ·have hm2:x∈sn2:=(rD2.mem Zy x).mpr (by rw[h2];simp)
        have hrk:rk2 x=false:=by
         cases z:rk2 x with
         | false=>rfl
         | true=>exact absurd (List.mem_filter.mpr ⟨hm2,z⟩) hin
        have md:=(bt2.md _ _ _ _ h2).2.2
        rw[hrk,if_neg (by decide)] at md
        rw[hrm] at md;cases md
        rfl
    have d2:bN H18 kd2 (.str x) (some (.int v0)):=by
     have:cP kw2 (.inr x)=some (.int v0):=by rw[Rx,hw];rfl
     rw[<-this];exact bN.k (k:= .inr x) (S18 _ _ ZM)
    have d3:bN H18 kd3 (.str x) (some (.int v0)):=by
     have:cP kw3 (.inr x)=some (.int v0):=by rw[acC,b3];rfl
     rw[<-this];exact bN.k (k:= .inr x) (S18 _ _ Hr)
    walk_at "vs"
    rw[hiv]
    walk_at "vs"
    rw[show(!decide (V.int v0=V.int v0))=false by simp]
    walk_at "vs"
    exact⟨⟨_,rfl⟩,eD,S18⟩
  ·intro σ' H18 hP
   obtain⟨_,eD,S18⟩:=hP
   walk_at "vs"
   intro ll hll
   have s19:=aG (.lst []) hll
   exact⟨D,ll,[],rfl,rfl,SqL.of (s19 _ _ eD),SqL.of aq,q _⟩
end
theorem jF {K:PySem.W.Frag}{h:Heap}{mg:Str->Option Value} (X:K.In h) (G:h.Ns mainGlobals mg) {x:Str}{st:Stmt}{ps:List Str}{f:Addr}{oc:Value}{od an:Option Addr}{osl:Array (Option Value)}{kV doc pm cdv ct:Value}
 (a:PySem.W.nsIn K mainGlobals x=some (some (.ref f))) (l:K.lookup f=some ⟨oc,od, .func (PySem.W.fnOf x x (bK st) (bG st) (aa st) .none kV doc pm an cdv ct),osl⟩) (c:PySem.W.codeIn K cdv x=true) (k:PySem.W.keepIn K (.ref f)=true)
 (hb:∀us:List Value,us.length=ps.length->bindArgs (PySem.W.fnOf x x (bK st) (bG st) (aa st) .none kV doc pm an cdv ct) ⟨us,[]⟩=pure (ps.zip us)):
 FnT K mg x st ps f (PySem.W.fnOf x x (bK st) (bG st) (aa st) .none kV doc pm an cdv ct):=
 ⟨jB l c k,Binds.all hb,PySem.W.mg_of X G a⟩
theorem all_mk {l:PySem.W.OpenLaw}{w:World}{K:PySem.W.Frag}{h:Heap}{mg:Str->Option Value}{fa f1 f2 f3 f4 f5 f6 f7 f8 f9 f10 f11 f12 f13 f14 f15 f16 f17 f18:Addr} (X:K.In h) (G:h.Ns mainGlobals mg) (hfa:mg "law"=some (.ref fa))
 {od1 an1 od2 an2 od3 an3 od4 an4 od5 an5 od6 an6 od7 an7 od8 an8 od9 an9 agB agC agD agE agF agG agH agI agJ agK agL agM agN agO agP agQ agR acE:Option Addr}{sl1 sl2 sl3 sl4 sl5 sl6 sl7 sl8 sl9 agS agT agU agV agW agX agY agZ ag0:Array (Option Value)}{oc1 kV1 dc1 pm1 cd1 ct1 oc2 kV2 dc2 pm2 cd2 ct2 oc3 kV3 dc3 pm3 cd3 ct3 oc4 kV4 dc4 pm4 cd4 ct4 oc5 kV5 dc5 pm5 cd5 ct5 oc6 kV6 dc6 pm6 cd6 ct6 oc7 kV7 dc7 pm7 cd7 ct7 oc8 kV8 dc8 pm8 cd8 ct8 oc9 kV9 dc9 pm9 cd9 ct9 ag1 ag2 ag3 ag4 acF ag5 ag6 ag7 ag8 ag9 acG aha ahb ahc ahd ahe acH ahf ahg ahh ahi ahj acI ahk ahl ahm ahn aho acJ ahp ahq ahr ahs aht acK ahu ahv ahw ahx ahy acL ahz ahA ahB ahC ahD acM ahE ahF acN acO acP ZP acQ:Value}
 (a1:PySem.W.nsIn K mainGlobals "joined"=some (some (.ref f1))) (l1:K.lookup f1=some ⟨oc1,od1, .func (PySem.W.fnOf "joined" "joined" (bK jO) (bG jO) (aa jO) .none kV1 dc1 pm1 an1 cd1 ct1),sl1⟩) (c1:PySem.W.codeIn K cd1 "joined"=true) (k1:PySem.W.keepIn K (.ref f1)=true)
 (a2:PySem.W.nsIn K mainGlobals "is_whole_number"=some (some (.ref f2))) (l2:K.lookup f2=some ⟨oc2,od2, .func (PySem.W.fnOf "is_whole_number" "is_whole_number" (bK bY) (bG bY) (aa bY) .none kV2 dc2 pm2 an2 cd2 ct2),sl2⟩) (c2:PySem.W.codeIn K cd2 "is_whole_number"=true) (k2:PySem.W.keepIn K (.ref f2)=true)
 (a3:PySem.W.nsIn K mainGlobals "is_same"=some (some (.ref f3))) (l3:K.lookup f3=some ⟨oc3,od3, .func (PySem.W.fnOf "is_same" "is_same" (bK dF) (bG dF) (aa dF) .none kV3 dc3 pm3 an3 cd3 ct3),sl3⟩) (c3:PySem.W.codeIn K cd3 "is_same"=true) (k3:PySem.W.keepIn K (.ref f3)=true)
 (a4:PySem.W.nsIn K mainGlobals "searched"=some (some (.ref f4))) (l4:K.lookup f4=some ⟨oc4,od4, .func (PySem.W.fnOf "searched" "searched" (bK dM) (bG dM) (aa dM) .none kV4 dc4 pm4 an4 cd4 ct4),sl4⟩) (c4:PySem.W.codeIn K cd4 "searched"=true) (k4:PySem.W.keepIn K (.ref f4)=true)
 (a5:PySem.W.nsIn K mainGlobals "build_again"=some (some (.ref f5))) (l5:K.lookup f5=some ⟨oc5,od5, .func (PySem.W.fnOf "build_again" "build_again" (bK cz) (bG cz) (aa cz) .none kV5 dc5 pm5 an5 cd5 ct5),sl5⟩) (c5:PySem.W.codeIn K cd5 "build_again"=true) (k5:PySem.W.keepIn K (.ref f5)=true)
 (a6:PySem.W.nsIn K mainGlobals "fresh_build"=some (some (.ref f6))) (l6:K.lookup f6=some ⟨oc6,od6, .func (PySem.W.fnOf "fresh_build" "fresh_build" (bK cO) (bG cO) (aa cO) .none kV6 dc6 pm6 an6 cd6 ct6),sl6⟩) (c6:PySem.W.codeIn K cd6 "fresh_build"=true) (k6:PySem.W.keepIn K (.ref f6)=true)
 (a7:PySem.W.nsIn K mainGlobals "paper_of"=some (some (.ref f7))) (l7:K.lookup f7=some ⟨oc7,od7, .func (PySem.W.fnOf "paper_of" "paper_of" (bK cG) (bG cG) (aa cG) .none kV7 dc7 pm7 an7 cd7 ct7),sl7⟩) (c7:PySem.W.codeIn K cd7 "paper_of"=true) (k7:PySem.W.keepIn K (.ref f7)=true)
 (a8:PySem.W.nsIn K mainGlobals "papers_of"=some (some (.ref f8))) (l8:K.lookup f8=some ⟨oc8,od8, .func (PySem.W.fnOf "papers_of" "papers_of" (bK cI) (bG cI) (aa cI) .none kV8 dc8 pm8 an8 cd8 ct8),sl8⟩) (c8:PySem.W.codeIn K cd8 "papers_of"=true) (k8:PySem.W.keepIn K (.ref f8)=true)
 (a9:PySem.W.nsIn K mainGlobals "chain_of"=some (some (.ref f9))) (l9:K.lookup f9=some ⟨oc9,od9, .func (PySem.W.fnOf "chain_of" "chain_of" (bK dR) (bG dR) (aa dR) .none kV9 dc9 pm9 an9 cd9 ct9),sl9⟩) (c9:PySem.W.codeIn K cd9 "chain_of"=true) (k9:PySem.W.keepIn K (.ref f9)=true)
 (a10:PySem.W.nsIn K mainGlobals "_law_cell_at"=some (some (.ref f10))) (l10:K.lookup f10=some ⟨ag1,agB, .func (PySem.W.fnOf "_law_cell_at" "_law_cell_at" (bK eF) (bG eF) (aa eF) .none ag2 ag3 ag4 agC acF ag5),agS⟩) (c10:PySem.W.codeIn K acF "_law_cell_at"=true) (k10:PySem.W.keepIn K (.ref f10)=true)
 (a11:PySem.W.nsIn K mainGlobals "_law_pool"=some (some (.ref f11))) (l11:K.lookup f11=some ⟨ag6,agD, .func (PySem.W.fnOf "_law_pool" "_law_pool" (bK gU) (bG gU) (aa gU) .none ag7 ag8 ag9 agE acG aha),agT⟩) (c11:PySem.W.codeIn K acG "_law_pool"=true) (k11:PySem.W.keepIn K (.ref f11)=true)
 (a12:PySem.W.nsIn K mainGlobals "_law_take"=some (some (.ref f12))) (l12:K.lookup f12=some ⟨ahb,agF, .func (PySem.W.fnOf "_law_take" "_law_take" (bK dO) (bG dO) (aa dO) .none ahc ahd ahe agG acH ahf),agU⟩) (c12:PySem.W.codeIn K acH "_law_take"=true) (k12:PySem.W.keepIn K (.ref f12)=true)
 (a13:PySem.W.nsIn K mainGlobals "_law_name"=some (some (.ref f13))) (l13:K.lookup f13=some ⟨ahg,agH, .func (PySem.W.fnOf "_law_name" "_law_name" (bK iM) (bG iM) (aa iM) .none ahh ahi ahj agI acI ahk),agV⟩) (c13:PySem.W.codeIn K acI "_law_name"=true) (k13:PySem.W.keepIn K (.ref f13)=true)
 (a14:PySem.W.nsIn K mainGlobals "_law_leaf"=some (some (.ref f14))) (l14:K.lookup f14=some ⟨ahl,agJ, .func (PySem.W.fnOf "_law_leaf" "_law_leaf" (bK fM) (bG fM) (aa fM) .none ahm ahn aho agK acJ ahp),agW⟩) (c14:PySem.W.codeIn K acJ "_law_leaf"=true) (k14:PySem.W.keepIn K (.ref f14)=true)
 (a15:PySem.W.nsIn K mainGlobals "_law_recipe"=some (some (.ref f15))) (l15:K.lookup f15=some ⟨ahq,agL, .func (PySem.W.fnOf "_law_recipe" "_law_recipe" (bK bf) (bG bf) (aa bf) .none ahr ahs aht agM acK ahu),agX⟩) (c15:PySem.W.codeIn K acK "_law_recipe"=true) (k15:PySem.W.keepIn K (.ref f15)=true)
 (a16:PySem.W.nsIn K mainGlobals "_law_house"=some (some (.ref f16))) (l16:K.lookup f16=some ⟨ahv,agN, .func (PySem.W.fnOf "_law_house" "_law_house" (bK bB) (bG bB) (aa bB) .none ahw ahx ahy agO acL ahz),agY⟩) (c16:PySem.W.codeIn K acL "_law_house"=true) (k16:PySem.W.keepIn K (.ref f16)=true)
 (a17:PySem.W.nsIn K mainGlobals "_law_good"=some (some (.ref f17))) (l17:K.lookup f17=some ⟨ahA,agP, .func (PySem.W.fnOf "_law_good" "_law_good" (bK aU) (bG aU) (aa aU) .none ahB ahC ahD agQ acM ahE),agZ⟩) (c17:PySem.W.codeIn K acM "_law_good"=true) (k17:PySem.W.keepIn K (.ref f17)=true)
 (a18:PySem.W.nsIn K mainGlobals "law"=some (some (.ref f18))) (l18:K.lookup f18=some ⟨ahF,agR, .func (PySem.W.fnOf "law" "law" (bK dB) (bG dB) (aa dB) .none acN acO acP acE ZP acQ),ag0⟩) (c18:PySem.W.codeIn K ZP "law"=true) (k18:PySem.W.keepIn K (.ref f18)=true)
 (kd:Kinds K)
 {CK:Addr} (ACK:PySem.W.nsIn K mainGlobals "Reckoning"=some (some (.ref CK)))
 {Vd:Addr}{acR acS:Option Addr}{acT:Array (Option Value)}{acU acV acW acX W2 acY:Value}
 (Ve:PySem.W.findIn K (.ref CK) "__init__"=some (some (.ref Vd))) (Vf:PySem.W.isFn K (.ref Vd)=true) (ZQ:K.lookup Vd=some ⟨acU,acR, .func (PySem.W.fnOf "__init__" "Reckoning.__init__" (bK cF) (bG cF) (aa cF) .none acV acW acX acS W2 acY),acT⟩) (ZR:PySem.W.codeIn K W2 "Reckoning.__init__"=true) (Vg:PySem.W.keepIn K (.ref Vd)=true)
 {Vh:Addr}{acZ ac0:Option Addr}{ac1:Array (Option Value)}{ac2 ac3 ac4 ac5 W3 ac6:Value}
 (ZS:PySem.W.findIn K (.ref CK) "lacking"=some (some (.ref Vh))) (ZV:PySem.W.isFn K (.ref Vh)=true) (ZW:K.lookup Vh=some ⟨ac2,acZ, .func (PySem.W.fnOf "lacking" "Reckoning.lacking" (bK bR) (bG bR) (aa bR) .none ac3 ac4 ac5 ac0 W3 ac6),ac1⟩) (ZX:PySem.W.codeIn K W3 "Reckoning.lacking"=true) (Vi:PySem.W.keepIn K (.ref Vh)=true)
 {Vj:Addr}{ac7 ac8:Option Addr}{ac9:Array (Option Value)}{ada adb ade adf W4 adg:Value}
 (ZZ:PySem.W.findIn K (.ref CK) "go_on"=some (some (.ref Vj))) (Z0:PySem.W.isFn K (.ref Vj)=true) (Z1:K.lookup Vj=some ⟨ada,ac7, .func (PySem.W.fnOf "go_on" "Reckoning.go_on" (bK aO) (bG aO) (aa aO) .none adb ade adf ac8 W4 adg),ac9⟩) (Z2:PySem.W.codeIn K W4 "Reckoning.go_on"=true) (Vk:PySem.W.keepIn K (.ref Vj)=true)
 (Z3:PySem.W.plainGet K CK Str.empty=true) (Z4:PySem.W.hasDictIn K CK=true) (Z5:PySem.W.plainOver K CK=true) (Z6:PySem.W.findIn K (.ref CK) "__setattr__"=some (some (.builtin "object.__setattr__"))) (Z7:PySem.W.makesIn K CK=true) (Z8:PySem.W.keepIn K (.ref CK)=true)
 (Er:PySem.W.findIn K (.ref CK) "todo"=some none)
 (Bh:PySem.W.findIn K (.ref CK) "found"=some none)
 (Bj:PySem.W.findIn K (.ref CK) "reads"=some none)
 {CN:Addr} (ACN:PySem.W.nsIn K mainGlobals "NamedRecords"=some (some (.ref CN)))
 {Vl:Addr}{adh adi:Option Addr}{adk:Array (Option Value)}{adl adm adn ado W5 adp:Value}
 (Vm:PySem.W.findIn K (.ref CN) "__init__"=some (some (.ref Vl))) (Vn:PySem.W.isFn K (.ref Vl)=true) (Z9:K.lookup Vl=some ⟨adl,adh, .func (PySem.W.fnOf "__init__" "NamedRecords.__init__" (bK bC) (bG bC) (aa bC) .none adm adn ado adi W5 adp),adk⟩) (aaa:PySem.W.codeIn K W5 "NamedRecords.__init__"=true) (Vo:PySem.W.keepIn K (.ref Vl)=true)
 {Vp:Addr}{adq adt:Option Addr}{adu:Array (Option Value)}{adv adw adx ady W6 adz:Value}
 (aab:PySem.W.findIn K (.ref CN) "records_for"=some (some (.ref Vp))) (aac:PySem.W.isFn K (.ref Vp)=true) (aad:K.lookup Vp=some ⟨adv,adq, .func (PySem.W.fnOf "records_for" "NamedRecords.records_for" (bK aR) (bG aR) (aa aR) .none adw adx ady adt W6 adz),adu⟩) (aae:PySem.W.codeIn K W6 "NamedRecords.records_for"=true) (Vq:PySem.W.keepIn K (.ref Vp)=true)
 {Vr:Addr}{adA adB:Option Addr}{adC:Array (Option Value)}{adD adE adF adG W7 adH:Value}
 (aaf:PySem.W.findIn K (.ref CN) "put_made"=some (some (.ref Vr))) (aag:PySem.W.isFn K (.ref Vr)=true) (aah:K.lookup Vr=some ⟨adD,adA, .func (PySem.W.fnOf "put_made" "NamedRecords.put_made" (bK cL) (bG cL) (aa cL) .none adE adF adG adB W7 adH),adC⟩) (aai:PySem.W.codeIn K W7 "NamedRecords.put_made"=true) (Vs:PySem.W.keepIn K (.ref Vr)=true)
 (aaj:PySem.W.plainGet K CN Str.empty=true) (aak:PySem.W.hasDictIn K CN=true) (aal:PySem.W.plainOver K CN=true) (aam:PySem.W.findIn K (.ref CN) "__setattr__"=some (some (.builtin "object.__setattr__"))) (aan:PySem.W.makesIn K CN=true) (aao:PySem.W.keepIn K (.ref CN)=true)
 (wk:PySem.W.findIn K (.ref CN) "by_name"=some none)
 {CS:Addr} (ACS:PySem.W.nsIn K mainGlobals "Settling"=some (some (.ref CS)))
 {Vt:Addr}{adI adJ:Option Addr}{adK:Array (Option Value)}{adL adM adN adO W8 adP:Value}
 (Vu:PySem.W.findIn K (.ref CS) "__init__"=some (some (.ref Vt))) (Vv:PySem.W.isFn K (.ref Vt)=true) (aap:K.lookup Vt=some ⟨adL,adI, .func (PySem.W.fnOf "__init__" "Settling.__init__" (bK bT) (bG bT) (aa bT) .none adM adN adO adJ W8 adP),adK⟩) (aaq:PySem.W.codeIn K W8 "Settling.__init__"=true) (Vw:PySem.W.keepIn K (.ref Vt)=true)
 {Vx:Addr}{adQ adR:Option Addr}{adS:Array (Option Value)}{adT adU adV adW W9 adX:Value}
 (aar:PySem.W.findIn K (.ref CS) "lacking"=some (some (.ref Vx))) (aas:PySem.W.isFn K (.ref Vx)=true) (aat:K.lookup Vx=some ⟨adT,adQ, .func (PySem.W.fnOf "lacking" "Settling.lacking" (bK bw) (bG bw) (aa bw) .none adU adV adW adR W9 adX),adS⟩) (aau:PySem.W.codeIn K W9 "Settling.lacking"=true) (Vy:PySem.W.keepIn K (.ref Vx)=true)
 {Vz:Addr}{adY adZ:Option Addr}{ad0:Array (Option Value)}{ad1 ad2 ad3 ad4 Xa ad5:Value}
 (aav:PySem.W.findIn K (.ref CS) "fit_on"=some (some (.ref Vz))) (aaw:PySem.W.isFn K (.ref Vz)=true) (aax:K.lookup Vz=some ⟨ad1,adY, .func (PySem.W.fnOf "fit_on" "Settling.fit_on" (bK cZ) (bG cZ) (aa cZ) .none ad2 ad3 ad4 adZ Xa ad5),ad0⟩) (aay:PySem.W.codeIn K Xa "Settling.fit_on"=true) (VB:PySem.W.keepIn K (.ref Vz)=true)
 {VD:Addr}{ad6 ad7:Option Addr}{ad8:Array (Option Value)}{ad9 aea aeb aec Xb aed:Value}
 (aaz:PySem.W.findIn K (.ref CS) "was_reckoned"=some (some (.ref VD))) (aaA:PySem.W.isFn K (.ref VD)=true) (aaB:K.lookup VD=some ⟨ad9,ad6, .func (PySem.W.fnOf "was_reckoned" "Settling.was_reckoned" (bK bD) (bG bD) (aa bD) .none aea aeb aec ad7 Xb aed),ad8⟩) (aaC:PySem.W.codeIn K Xb "Settling.was_reckoned"=true) (VF:PySem.W.keepIn K (.ref VD)=true)
 {VG:Addr}{aee aef:Option Addr}{aeg:Array (Option Value)}{aeh aei aej aek Xc ael:Value}
 (aaD:PySem.W.findIn K (.ref CS) "new_record"=some (some (.ref VG))) (aaE:PySem.W.isFn K (.ref VG)=true) (aaF:K.lookup VG=some ⟨aeh,aee, .func (PySem.W.fnOf "new_record" "Settling.new_record" (bK cg) (bG cg) (aa cg) .none aei aej aek aef Xc ael),aeg⟩) (aaG:PySem.W.codeIn K Xc "Settling.new_record"=true) (VH:PySem.W.keepIn K (.ref VG)=true)
 (aaH:PySem.W.plainGet K CS Str.empty=true) (aaI:PySem.W.hasDictIn K CS=true) (aaJ:PySem.W.plainOver K CS=true) (aaK:PySem.W.findIn K (.ref CS) "__setattr__"=some (some (.builtin "object.__setattr__"))) (aaL:PySem.W.makesIn K CS=true) (aaM:PySem.W.keepIn K (.ref CS)=true)
 (za:PySem.W.findIn K (.ref CS) "recipe"=some none)
 (wu:PySem.W.findIn K (.ref CS) "fitting"=some none)
 (Bk:PySem.W.findIn K (.ref CS) "place"=some none)
 (rC:PySem.W.findIn K (.ref CS) "reckoning"=some none)
 {CE:Addr} (ACE:PySem.W.nsIn K mainGlobals "Search"=some (some (.ref CE)))
 {VJ:Addr}{aem aen:Option Addr}{aeo:Array (Option Value)}{aep aeq aer aes Xd aet:Value}
 (VL:PySem.W.findIn K (.ref CE) "__init__"=some (some (.ref VJ))) (VM:PySem.W.isFn K (.ref VJ)=true) (aaN:K.lookup VJ=some ⟨aep,aem, .func (PySem.W.fnOf "__init__" "Search.__init__" (bK cN) (bG cN) (aa cN) .none aeq aer aes aen Xd aet),aeo⟩) (aaO:PySem.W.codeIn K Xd "Search.__init__"=true) (VN:PySem.W.keepIn K (.ref VJ)=true)
 {VP:Addr}{aeu aev:Option Addr}{aew:Array (Option Value)}{aex aey aez aeA Xe aeB:Value}
 (aaP:PySem.W.findIn K (.ref CE) "begin"=some (some (.ref VP))) (aaQ:PySem.W.isFn K (.ref VP)=true) (aaR:K.lookup VP=some ⟨aex,aeu, .func (PySem.W.fnOf "begin" "Search.begin" (bK cU) (bG cU) (aa cU) .none aey aez aeA aev Xe aeB),aew⟩) (aaS:PySem.W.codeIn K Xe "Search.begin"=true) (VR:PySem.W.keepIn K (.ref VP)=true)
 {V0:Addr}{aeC aeD:Option Addr}{aeE:Array (Option Value)}{aeF aeG aeH aeI Xf aeJ:Value}
 (aaT:PySem.W.findIn K (.ref CE) "end"=some (some (.ref V0))) (aaU:PySem.W.isFn K (.ref V0)=true) (aaV:K.lookup V0=some ⟨aeF,aeC, .func (PySem.W.fnOf "end" "Search.end" (bK dX) (bG dX) (aa dX) .none aeG aeH aeI aeD Xf aeJ),aeE⟩) (aaW:PySem.W.codeIn K Xf "Search.end"=true) (V1:PySem.W.keepIn K (.ref V0)=true)
 {V2:Addr}{aeK aeL:Option Addr}{aeM:Array (Option Value)}{aeN aeO aeP aeQ Xg aeR:Value}
 (aaX:PySem.W.findIn K (.ref CE) "made"=some (some (.ref V2))) (aaY:PySem.W.isFn K (.ref V2)=true) (aaZ:K.lookup V2=some ⟨aeN,aeK, .func (PySem.W.fnOf "made" "Search.made" (bK fO) (bG fO) (aa fO) .none aeO aeP aeQ aeL Xg aeR),aeM⟩) (aa0:PySem.W.codeIn K Xg "Search.made"=true) (V3:PySem.W.keepIn K (.ref V2)=true)
 {V4:Addr}{aeS aeT:Option Addr}{aeU:Array (Option Value)}{aeV aeW aeX aeY Xh aeZ:Value}
 (aa1:PySem.W.findIn K (.ref CE) "kept"=some (some (.ref V4))) (aa2:PySem.W.isFn K (.ref V4)=true) (aa3:K.lookup V4=some ⟨aeV,aeS, .func (PySem.W.fnOf "kept" "Search.kept" (bK fP) (bG fP) (aa fP) .none aeW aeX aeY aeT Xh aeZ),aeU⟩) (aa4:PySem.W.codeIn K Xh "Search.kept"=true) (V5:PySem.W.keepIn K (.ref V4)=true)
 {V6:Addr}{ae0 ae1:Option Addr}{ae2:Array (Option Value)}{ae3 ae4 ae5 ae6 Xi ae7:Value}
 (aa5:PySem.W.findIn K (.ref CE) "settle"=some (some (.ref V6))) (aa6:PySem.W.isFn K (.ref V6)=true) (aa7:K.lookup V6=some ⟨ae3,ae0, .func (PySem.W.fnOf "settle" "Search.settle" (bK bA) (bG bA) (aa bA) .none ae4 ae5 ae6 ae1 Xi ae7),ae2⟩) (aa8:PySem.W.codeIn K Xi "Search.settle"=true) (V7:PySem.W.keepIn K (.ref V6)=true)
 (aa9:PySem.W.plainGet K CE Str.empty=true) (aba:PySem.W.hasDictIn K CE=true) (abb:PySem.W.plainOver K CE=true) (abd:PySem.W.findIn K (.ref CE) "__setattr__"=some (some (.builtin "object.__setattr__"))) (abe:PySem.W.makesIn K CE=true) (abf:PySem.W.keepIn K (.ref CE)=true)
 (Bl:PySem.W.findIn K (.ref CE) "given"=some none)
 (wz:PySem.W.findIn K (.ref CE) "recipes"=some none)
 (Hy:PySem.W.findIn K (.ref CE) "old"=some none)
 (Bm:PySem.W.findIn K (.ref CE) "known"=some none)
 (wA:PySem.W.findIn K (.ref CE) "settled"=some none)
 (uw:PySem.W.findIn K (.ref CE) "reckoned"=some none)
 {aP:Addr} (aPM:PySem.W.nsIn K mainGlobals "PAPERS_OF_MADE"=some (some (.ref aP)))
 {odP:Option Addr}{slP:Array (Option Value)}{tk1 tk2 tk3:Tok}{nP:Nat} (lP:K.lookup aP=some ⟨.type "tuple",odP, .seq #[.str "new" tk1, .str "recipe" tk2, .str "read" tk3] nP,slP⟩)
 (RK:PySem.W.nsIn K mainGlobals "len"=some none)
 (Hz:PySem.W.nsIn K mainGlobals "range"=some none)
 (RL:PySem.W.nsIn K mainGlobals "str"=some none)
 (RM:PySem.W.nsIn K mainGlobals "int"=some none)
 (Lq:PySem.W.nsIn K mainGlobals "list"=some none)
 (HB:PySem.W.nsIn K mainGlobals "tuple"=some none)
 (ux:PySem.W.nsIn K mainGlobals "isinstance"=some none)
 (Lr:PySem.W.nsIn K mainGlobals "bool"=some none)
 (Ls:PySem.W.nsIn K mainGlobals "dict"=some none)
 (RN:PySem.W.nsIn K mainGlobals "sum"=some none)
 (RP:PySem.W.nsIn K mainGlobals "all"=some none)
 (RQ:PySem.W.nsIn K mainGlobals "any"=some none)
 (RT:PySem.W.nsIn K mainGlobals "max"=some none)
 (RV:PySem.W.nsIn K mainGlobals "min"=some none)
 (Es:PySem.W.nsIn K mainGlobals "sorted"=some none)
 (RW:PySem.W.nsIn K mainGlobals "set"=some none)
 (wB:PySem.W.nsIn K mainGlobals "enumerate"=some none)
 (RX:PySem.W.nsIn K mainGlobals "zip"=some none)
 (zb:PySem.W.nsIn K mainGlobals "reversed"=some none)
 (RZ:PySem.W.nsIn K mainGlobals "abs"=some none)
 :∃fd:FuncData,(∀(s:Shared) (v:Value),BindsTo s fd ⟨[v],[]⟩ [("script",v)])/\∀base:Heap,K.In base->base.Ns mainGlobals mg->bF l.prog w K mg base CX0 20 fa fd ["script"] (Mw K):=by
 have e:=hfa.symm.trans (PySem.W.mg_of X G a18)
 cases e
 have m8:FnT K mg "joined" jO ["kind","r","s"] _ _:=jF X G a1 l1 c1 k1 (fun us hl=>match us,hl with |[_,_,_],_=>rfl)
 have bu:FnT K mg "is_whole_number" bY ["thing"] _ _:=jF X G a2 l2 c2 k2 (fun us hl=>match us,hl with |[_],_=>rfl)
 have di:FnT K mg "is_same" dF ["told","thing"] _ _:=jF X G a3 l3 c3 k3 (fun us hl=>match us,hl with |[_,_],_=>rfl)
 have fK:FnT K mg "searched" dM ["house","old","wishes"] _ _:=jF X G a4 l4 c4 k4 (fun us hl=>match us,hl with |[_,_,_],_=>rfl)
 have bh:FnT K mg "build_again" cz ["house","records","wishes"] _ _:=jF X G a5 l5 c5 k5 (fun us hl=>match us,hl with |[_,_,_],_=>rfl)
 have gF:FnT K mg "fresh_build" cO ["house","wishes"] _ _:=jF X G a6 l6 c6 k6 (fun us hl=>match us,hl with |[_,_],_=>rfl)
 have jW:FnT K mg "paper_of" cG ["house","records","worths","name"] _ _:=jF X G a7 l7 c7 k7 (fun us hl=>match us,hl with |[_,_,_,_],_=>rfl)
 have jh:FnT K mg "papers_of" cI ["house","records","wishes"] _ _:=jF X G a8 l8 c8 k8 (fun us hl=>match us,hl with |[_,_,_],_=>rfl)
 have jX:FnT K mg "chain_of" dR ["papers","records","name"] _ _:=jF X G a9 l9 c9 k9 (fun us hl=>match us,hl with |[_,_,_],_=>rfl)
 have dW:FnT K mg "_law_cell_at" eF ["script","k"] _ _:=jF X G a10 l10 c10 k10 (fun us hl=>match us,hl with |[_,_],_=>rfl)
 have dN:FnT K mg "_law_pool" gU ["script","k"] _ _:=jF X G a11 l11 c11 k11 (fun us hl=>match us,hl with |[_,_],_=>rfl)
 have aF:FnT K mg "_law_take" dO ["pool","many"] _ _:=jF X G a12 l12 c12 k12 (fun us hl=>match us,hl with |[_,_],_=>rfl)
 have eZ:FnT K mg "_law_name" iM ["k"] _ _:=jF X G a13 l13 c13 k13 (fun us hl=>match us,hl with |[_],_=>rfl)
 have fc:FnT K mg "_law_leaf" fM ["pool","names"] _ _:=jF X G a14 l14 c14 k14 (fun us hl=>match us,hl with |[_,_],_=>rfl)
 have bx:FnT K mg "_law_recipe" bf ["pool","names","deep"] _ _:=jF X G a15 l15 c15 k15 (fun us hl=>match us,hl with |[_,_,_],_=>rfl)
 have jg:FnT K mg "_law_house" bB ["script","start","many"] _ _:=jF X G a16 l16 c16 k16 (fun us hl=>match us,hl with |[_,_,_],_=>rfl)
 have jY:FnT K mg "_law_good" aU ["house","first","names","changed"] _ _:=jF X G a17 l17 c17 k17 (fun us hl=>match us,hl with |[_,_,_,_],_=>rfl)
 have RD:FnT K mg "law" dB ["script"] _ _:=jF X G a18 l18 c18 k18 (fun us hl=>match us,hl with |[_],_=>rfl)
 have d9:fU K CK "__init__" "Reckoning.__init__" cF ["self","r"] _ _:=⟨jB ZQ ZR Vg,Binds.all (fun us hl=>match us,hl with |[_,_],_=>rfl),⟨Ve,Vf,Vg⟩⟩
 have dJ:fU K CK "lacking" "Reckoning.lacking" bR ["self","known"] _ _:=⟨jB ZW ZX Vi,Binds.all (fun us hl=>match us,hl with |[_,_],_=>rfl),⟨ZS,ZV,Vi⟩⟩
 have eU:fU K CK "go_on" "Reckoning.go_on" aO ["self","step"] _ _:=⟨jB Z1 Z2 Vk,Binds.all (fun us hl=>match us,hl with |[_,_],_=>rfl),⟨ZZ,Z0,Vk⟩⟩
 have ahG:Cls K CK:=⟨Z3,Z4,Z5,Z6⟩
 have vR:Mk K CK _:=⟨Z7,Ve,Vf,Z8⟩
 have vU:=PySem.W.mg_of X G ACK
 have bL:fU K CN "__init__" "NamedRecords.__init__" bC ["self","records"] _ _:=⟨jB Z9 aaa Vo,Binds.all (fun us hl=>match us,hl with |[_,_],_=>rfl),⟨Vm,Vn,Vo⟩⟩
 have bZ:fU K CN "records_for" "NamedRecords.records_for" aR ["self","name","r"] _ _:=⟨jB aad aae Vq,Binds.all (fun us hl=>match us,hl with |[_,_,_],_=>rfl),⟨aab,aac,Vq⟩⟩
 have cM:fU K CN "put_made" "NamedRecords.put_made" cL ["self","record"] _ _:=⟨jB aah aai Vs,Binds.all (fun us hl=>match us,hl with |[_,_],_=>rfl),⟨aaf,aag,Vs⟩⟩
 have ahH:Cls K CN:=⟨aaj,aak,aal,aam⟩
 have iW:Mk K CN _:=⟨aan,Vm,Vn,aao⟩
 have iY:=PySem.W.mg_of X G ACN
 have fj:fU K CS "__init__" "Settling.__init__" bT ["self","r","records"] _ _:=⟨jB aap aaq Vw,Binds.all (fun us hl=>match us,hl with |[_,_,_],_=>rfl),⟨Vu,Vv,Vw⟩⟩
 have dZ:fU K CS "lacking" "Settling.lacking" bw ["self","known"] _ _:=⟨jB aat aau Vy,Binds.all (fun us hl=>match us,hl with |[_,_],_=>rfl),⟨aar,aas,Vy⟩⟩
 have eY:fU K CS "fit_on" "Settling.fit_on" cZ ["self","worth"] _ _:=⟨jB aax aay VB,Binds.all (fun us hl=>match us,hl with |[_,_],_=>rfl),⟨aav,aaw,VB⟩⟩
 have aY:fU K CS "was_reckoned" "Settling.was_reckoned" bD ["self"] _ _:=⟨jB aaB aaC VF,Binds.all (fun us hl=>match us,hl with |[_],_=>rfl),⟨aaz,aaA,VF⟩⟩
 have cX:fU K CS "new_record" "Settling.new_record" cg ["self"] _ _:=⟨jB aaF aaG VH,Binds.all (fun us hl=>match us,hl with |[_],_=>rfl),⟨aaD,aaE,VH⟩⟩
 have ahI:Cls K CS:=⟨aaH,aaI,aaJ,aaK⟩
 have yC:Mk K CS _:=⟨aaL,Vu,Vv,aaM⟩
 have yD:=PySem.W.mg_of X G ACS
 have fZ:fU K CE "__init__" "Search.__init__" cN ["self","house","old"] _ _:=⟨jB aaN aaO VN,Binds.all (fun us hl=>match us,hl with |[_,_,_],_=>rfl),⟨VL,VM,VN⟩⟩
 have gR:fU K CE "begin" "Search.begin" cU ["self","name"] _ _:=⟨jB aaR aaS VR,Binds.all (fun us hl=>match us,hl with |[_,_],_=>rfl),⟨aaP,aaQ,VR⟩⟩
 have jk:fU K CE "end" "Search.end" dX ["self","name","settling"] _ _:=⟨jB aaV aaW V1,Binds.all (fun us hl=>match us,hl with |[_,_,_],_=>rfl),⟨aaT,aaU,V1⟩⟩
 have iJ:fU K CE "made" "Search.made" fO ["self"] _ _:=⟨jB aaZ aa0 V3,Binds.all (fun us hl=>match us,hl with |[_],_=>rfl),⟨aaX,aaY,V3⟩⟩
 have iK:fU K CE "kept" "Search.kept" fP ["self"] _ _:=⟨jB aa3 aa4 V5,Binds.all (fun us hl=>match us,hl with |[_],_=>rfl),⟨aa1,aa2,V5⟩⟩
 have gm:fU K CE "settle" "Search.settle" bA ["self","name"] _ _:=⟨jB aa7 aa8 V7,Binds.all (fun us hl=>match us,hl with |[_,_],_=>rfl),⟨aa5,aa6,V7⟩⟩
 have ahJ:Cls K CE:=⟨aa9,aba,abb,abd⟩
 have Eh:Mk K CE _:=⟨abe,VL,VM,abf⟩
 have Ei:=PySem.W.mg_of X G ACE
 have T:Blt mg:=⟨PySem.W.mg_none_of X G RK,PySem.W.mg_none_of X G Hz,PySem.W.mg_none_of X G RL,PySem.W.mg_none_of X G RM,PySem.W.mg_none_of X G Lq,PySem.W.mg_none_of X G HB,PySem.W.mg_none_of X G ux,PySem.W.mg_none_of X G Lr,PySem.W.mg_none_of X G Ls,PySem.W.mg_none_of X G RN,PySem.W.mg_none_of X G RP,PySem.W.mg_none_of X G RQ,PySem.W.mg_none_of X G RT,PySem.W.mg_none_of X G RV,PySem.W.mg_none_of X G Es,PySem.W.mg_none_of X G RW,PySem.W.mg_none_of X G wB,PySem.W.mg_none_of X G RX,PySem.W.mg_none_of X G zb,PySem.W.mg_none_of X G RZ⟩
 refine⟨PySem.W.fnOf "law" "law" (bK dB) (bG dB) (aa dB) .none acN acO acP acE ZP acQ,fun s v=> .of_eq rfl,fun base _ _=> ?_⟩
 have mP:=PySem.W.mg_of X G aPM
 have hPM:∀H,SqT K H aP [.str "new", .str "recipe", .str "read"]:=fun H=> .inr ⟨_,_,_,lP,rfl,rfl,(by show 3<=sizeLine;rw[sizeLine_eq];decide), .cons ⟨tk1,rfl⟩ (.cons ⟨tk2,rfl⟩ (.cons ⟨tk3,rfl⟩ .nil))⟩
 have rkc:RkC K CK:=⟨ahG,Er,Bh,Bj⟩
 have nrc:NrC K CN:=⟨ahH,wk⟩
 have sec:SeC K CS:=⟨ahI,za,wu,Bk,rC⟩
 have src:SrC K CE:=⟨ahJ,Bl,wz,Hy,Bm,wA,uw⟩
 have D1:=Ot (P:=l.prog) (w:=w) (base:=base) m8 T
 have D2:=uG (P:=l.prog) (w:=w) (base:=base) (mg:=mg) d9 rkc
 have D3:=yp (P:=l.prog) (w:=w) (base:=base) eU m8 D1 T rkc
 have D4:=vH (P:=l.prog) (w:=w) (base:=base) dJ eU D3 T rkc
 have D5:=yr (P:=l.prog) (w:=w) (base:=base) bu T kd
 have D6:=Ea (P:=l.prog) (w:=w) (base:=base) di bu D5 T kd 10
 have D7:=qM (P:=l.prog) (w:=w) (base:=base) (mg:=mg) bL nrc
 have D8:=qO (P:=l.prog) (w:=w) (base:=base) (mg:=mg) cM
 have D9:=oO (P:=l.prog) (w:=w) (base:=base) bZ di D6 T nrc
 have C1:=vP (P:=l.prog) (w:=w) (base:=base) fj d9 D2 vR vU sec
 have C2:=qQ (P:=l.prog) (w:=w) (base:=base) aY T sec
 have C3:=yw (P:=l.prog) (w:=w) (base:=base) (mg:=mg) eY sec
 have C4:=wQ (P:=l.prog) (w:=w) (base:=base) dZ eY C3 dJ D4 T sec rkc
 have C5:=ue (P:=l.prog) (w:=w) (base:=base) cX aY C2 T sec rkc
 have C6:=yz (P:=l.prog) (w:=w) (base:=base) (mg:=mg) fZ src
 have C7:=BW (P:=l.prog) (w:=w) (base:=base) gR bZ D9 fj C1 yC yD T src nrc
 have C8:=Fb (P:=l.prog) (w:=w) (base:=base) jk cX C5 aY C2 cM D8 T src sec nrc
 have C9:=Ax (P:=l.prog) (w:=w) (base:=base) gm gR C7 dZ C4 jk C8 T src sec
 have CA:=Ed (P:=l.prog) (w:=w) (base:=base) iJ T src
 have CB:=Eg (P:=l.prog) (w:=w) (base:=base) iK T src
 have CC:=JD (P:=l.prog) (w:=w) (base:=base) fK fZ C6 gm C9 Eh Ei T src
 have DA:=Ej (P:=l.prog) (w:=w) (base:=base) bh fK CC bL D7 iW iY iJ CA iK CB T src
 have DF:=Ek (P:=l.prog) (w:=w) (base:=base) gF fK CC bL D7 iW iY T src
 have F1:=Em (P:=l.prog) (w:=w) (base:=base) dW T
 have F2:=JG (P:=l.prog) (w:=w) (base:=base) dN dW F1 T
 have F3:=JH (P:=l.prog) (w:=w) (base:=base) aF T
 have F4:=JK (P:=l.prog) (w:=w) (base:=base) eZ T
 have F5:=JM (P:=l.prog) (w:=w) (base:=base) fc aF F3 T
 have F6:=En (P:=l.prog) (w:=w) (base:=base) bx aF F3 fc F5 T
 have F7:=Ho (P:=l.prog) (w:=w) (base:=base) jg aF F3 dN F2 eZ F4 bx F6 T
 have E5:=JN (P:=l.prog) (w:=w) (base:=base) jW di D6 T
 have E6:=Hq (P:=l.prog) (w:=w) (base:=base) jh bh DA jW E5 T
 have E7:=JQ (P:=l.prog) (w:=w) (base:=base) jX T mP hPM
 have E8:=JR (P:=l.prog) (w:=w) (base:=base) jY jh E6 bh DA jX E7 T
 exact ZF RD dN F2 aF F3 jg F7 gF DF bh DA jY E8 T
theorem walk {l:PySem.W.OpenLaw}{q:Program}{loose:List Str}{XP:(Str->Option Value)->Heap->Prop}{YP:World->Heap->Prop}{d:DefRec}{K:Params->PySem.W.Frag} (hn:l.most=some 63) (hdf:d.params.defaults=[])
 (hY:∀(w:World) (h:Heap),YP w h->(K w.params).In h)
 (F:∀(w:World) (mg:Str->Option Value) (fa:Addr) (h:Heap),(K w.params).In h->h.Ns mainGlobals mg->mg d.name=some (.ref fa)->
   ∃fd:FuncData,(∀(s:Shared) (u:Value),BindsTo s fd ⟨[u],[]⟩ [("script",u)])/\∀base:Heap,(K w.params).In base->base.Ns mainGlobals mg->bF l.prog w (K w.params) mg base CX0 20 fa fd ["script"] (Mw (K w.params))):
 PySem.W.WalkO q loose XP YP l.row.toRowW d [] (fun f vs=>PySem.call f vs):=
 L2.Mm (n:=63) (k:=20) (x:="script") (CX:=fun _=>CX0) (sp:=fun w=>Mw (K w.params)) hn (by decide) hdf ⟨rfl,by decide,by decide⟩ hY F (fun _ _ a ns hl _ hS=>⟨a,ns,rfl,hS,hl,fun _=>rfl⟩) fun _ _ _ _ _ z=>z
end K36
open PySem PySem.W PyProof.Rows
namespace PySem.W.Fast
def tw11289800048983955357:Nat:=0
def tw10721176659782471688:Nat:=0
def tw4056406212169379569:Nat:=0
def tw2127309695748618879:Nat:=0
def tw15393707139724460365:Nat:=0
def tw15131255039670154577:Nat:=0
def tw3604592615933013679:Nat:=0
def tw18380942554315175587:Nat:=0
def tw2808296963163441421:Nat:=0
def tw13265154289997926042:Nat:=0
def tw10762493126349346754:Nat:=0
def tw4355330605930856689:Nat:=0
def tw17076150852749786591:Nat:=0
def tw4909103857611213603:Nat:=0
def tw11521710765823349164:Nat:=0
def tw2734584660191810970:Nat:=0
def tw4598176316667514536:Nat:=0
def tw16081007968308776041:Nat:=0
def tw4479835415059929296:Nat:=0
def tw4569853804817045479:Nat:=0
def tw4200489911557016517:Nat:=0
def tw13318617185911750506:Nat:=0
def tw16897516561941181327:Nat:=0
def tw1302179857863600299:Nat:=0
def tw11326252045301012576:Nat:=0
def tw17423829433521169947:Nat:=0
def tw7934224038449296945:Nat:=0
def tw18229207662260052742:Nat:=0
def tw16946813966577201373:Nat:=0
def tw10259339194569073598:Nat:=0
def tw13124176468080774563:Nat:=0
def tw17607069761785417661:Nat:=0
def tw5067354060333882219:Nat:=0
def tw14411148767293987386:Nat:=0
def tw9874123598990034225:Nat:=0
def tw11851116670326104086:Nat:=0
def tw5998351102688594087:Nat:=0
def tw12999742547622758644:Nat:=0
def tw3306354068064784460:Nat:=0
def tw295740396419211706:Nat:=0
def tw12963297734836238406:Nat:=0
def tw9931684990930708801:Nat:=0
def tw4188944409220482702:Nat:=0
def tw12432403374821308997:Nat:=0
def tw1226994099042070968:Nat:=0
def tw3340067480234241621:Nat:=0
def tw6228400577322402737:Nat:=0
def tw3173916484769047170:Nat:=0
def tw4375428022723808651:Nat:=0
def tw18237524871451498603:Nat:=0
def tw14796129305299109295:Nat:=0
def tw13241794035548418441:Nat:=0
def tw8943582896782891242:Nat:=0
def tw9430346896248820068:Nat:=0
def tw1541394370788507746:Nat:=0
def tw7646932359708816381:Nat:=0
def tw5680177556065466424:Nat:=0
def tw2680482448261548704:Nat:=0
def tw6759219420010099080:Nat:=0
def tw8547894333905006650:Nat:=0
def tw2208869543339371749:Nat:=0
def tw4918061200865472356:Nat:=0
def tw5621970742973265286:Nat:=0
def tw12095317890145161458:Nat:=0
def tw11777497880295643951:Nat:=0
def tw17389098769153567623:Nat:=0
def tw7631440468833947688:Nat:=0
def tw916499511055310920:Nat:=0
def tw3874108819335485213:Nat:=0
def tw16599683061975548703:Nat:=0
def tw2007983212748684589:Nat:=0
def tw3793991551075906716:Nat:=0
def tw14361736065443894831:Nat:=0
def tw13086147038001879868:Nat:=0
def tw7593655582070350194:Nat:=0
def tw8490441438944770828:Nat:=0
def tw9975697508156339121:Nat:=0
def tw6532601485037583986:Nat:=0
def tw6417420758707710226:Nat:=0
def tw6030681867365466755:Nat:=0
def tw6124107402678658269:Nat:=0
def tw11379216079396189315:Nat:=0
def tw10333642236439350892:Nat:=0
def tw4411764628713344939:Nat:=0
def tw3378945497944416571:Nat:=0
def tw13294433508111287219:Nat:=0
def tw3918618648003656690:Nat:=0
def tw8870466993027663729:Nat:=0
def tw15937178414198546856:Nat:=0
def tw11483022213958839444:Nat:=0
def tw13696030620867643756:Nat:=0
def tw3300209182401269546:Nat:=0
def tw11597562540178541612:Nat:=0
def tw8486170914611704124:Nat:=0
def tw17983248458968778653:Nat:=0
def tw818499090634918592:Nat:=0
def tw14018509669837865132:Nat:=0
def tw4705998056168460020:Nat:=0
def tw16338426336296436390:Nat:=0
def tw13429185048074622705:Nat:=0
def tw17865462061164054833:Nat:=0
def tw15506849404103341649:Nat:=0
def tw10659491827902708541:Nat:=0
def tw10244057048471924369:Nat:=0
def tw5973783130006516727:Nat:=0
def tw13225789397228793174:Nat:=0
def tw815929616852604408:Nat:=0
def tw86765126825161920:Nat:=0
def tw724698166059248264:Nat:=0
def tw3934689290111426440:Nat:=0
def tw16411482712646026440:Nat:=0
def tw10896958289403858933:Nat:=0
def tw2525988568937267353:Nat:=0
def tw5910121319043593642:Nat:=0
def tw6136433756592245077:Nat:=0
def tw10001054085731854300:Nat:=0
def tw14126471512568527031:Nat:=0
def tw4867604216476945317:Nat:=0
def tw15280289013824253009:Nat:=0
def tw8833750103719009543:Nat:=0
def tw3547445735941658606:Nat:=0
def tw14056169373579878647:Nat:=0
def tw5255204190426446836:Nat:=0
def tw12030197688480109911:Nat:=0
def tw4165858551741986611:Nat:=0
def tw8134941616835636792:Nat:=0
def tw11831599805007050293:Nat:=0
def tw16087459241660093660:Nat:=0
def tw7444208950361800059:Nat:=0
def tw8652884374915415610:Nat:=0
def tw3167231701656166946:Nat:=0
def tw9811339894832947852:Nat:=0
def tw3738443177312805149:Nat:=0
def tw2947113295926137896:Nat:=0
def tw7182102634953513309:Nat:=0
def tw11682610683423671021:Nat:=0
def tw3650873954007425862:Nat:=0
def tw3098238594895171291:Nat:=0
def tw14137554987886560630:Nat:=0
def tw376520728882851706:Nat:=0
def tw7245368932623338219:Nat:=0
def tw14368203318237990680:Nat:=0
def tw17876507264710624579:Nat:=0
def tw11593769898712288405:Nat:=0
def tw11407355966886086142:Nat:=0
def tw12997214805400637603:Nat:=0
def tw3388614448754635364:Nat:=0
def tw7160224915210041286:Nat:=0
def tw12642632335244033508:Nat:=0
def tw5388836156636045766:Nat:=0
def tw14649727444386533105:Nat:=0
def tw2908261062564249277:Nat:=0
def tw7655145826955000759:Nat:=0
def tw14973749279112217781:Nat:=0
def tw11379348893133001977:Nat:=0
def tw6302831538650286824:Nat:=0
def tw4416687473747320725:Nat:=0
def tw11734352081036306731:Nat:=0
def tw15668645138245881154:Nat:=0
def tw10831992810004681306:Nat:=0
def tw11158785058756941127:Nat:=0
def tw12608729255545090903:Nat:=0
def tw3577548301355538245:Nat:=0
def tw7319134254663692702:Nat:=0
def tw8525649765590646759:Nat:=0
def tw247998188645560683:Nat:=0
def tw10562251862970946140:Nat:=0
def tw12918362115876685385:Nat:=0
def tw18309826221342430513:Nat:=0
def tw14060958332681394416:Nat:=0
def tw17365969431798397647:Nat:=0
def tw8619929062225120851:Nat:=0
def tw8085373862856843053:Nat:=0
def tw8527458694468317442:Nat:=0
def tw12840942728028078284:Nat:=0
def tw12177803975995707167:Nat:=0
def tw5415300055593030908:Nat:=0
def tw4507945920754531302:Nat:=0
def tw1677354896678197445:Nat:=0
def tw8579020510390946342:Nat:=0
def tw253234949263591043:Nat:=0
def tw7529232738187063426:Nat:=0
def tw17122295317585366941:Nat:=0
def tw12680313353159828372:Nat:=0
def tw16340988615515570881:Nat:=0
def tw18329769777411212269:Nat:=0
def tw11320902398995155415:Nat:=0
def tw12784105608649949343:Nat:=0
def tw6549804394977691599:Nat:=0
def tw11298957293033874524:Nat:=0
def tw18252195375721344155:Nat:=0
def tw8659704630429110425:Nat:=0
def tw12518292310801780230:Nat:=0
def tw3247601773837120923:Nat:=0
def tw4440713959125768571:Nat:=0
def tw8267920144606936896:Nat:=0
def tw13618859008712399951:Nat:=0
def tw16716256293227733733:Nat:=0
def tw12112979779324935803:Nat:=0
def tw17915417123297878095:Nat:=0
def tw10137372802709035283:Nat:=0
def tw12246095580168402764:Nat:=0
def tw5630599929455891025:Nat:=0
def tw1322505964320397712:Nat:=0
def tw9177134235884897215:Nat:=0
def tw16484778603786555765:Nat:=0
def tw14901234388490222276:Nat:=0
def tw7316832871245864076:Nat:=0
def tw2045081365066780523:Nat:=0
def tw10833451868155373624:Nat:=0
def tw7194135396720391374:Nat:=0
def tw9220820861317072350:Nat:=0
def tw11467498522033003068:Nat:=0
def tw18192221738533430809:Nat:=0
def tw9301396782520185981:Nat:=0
def tw7196568018599533570:Nat:=0
def tw13872710904712159386:Nat:=0
def tw1562727215712855408:Nat:=0
def tw4509216464248991428:Nat:=0
def tw7000023792937608251:Nat:=0
def tw8526945766844311124:Nat:=0
def tw18016435193097498914:Nat:=0
def tw3924026206083566896:Nat:=0
def tw8903413909054655748:Nat:=0
def tw14558342920778157022:Nat:=0
def tw12412829954218483500:Nat:=0
def tw18297618260017888157:Nat:=0
def tw2905846336661027947:Nat:=0
def tw7127967876663202890:Nat:=0
def tw2030486155797323397:Nat:=0
def tw11505861043318257419:Nat:=0
def tw7266348851285821947:Nat:=0
def tw13638448886668152452:Nat:=0
def tw2646188375801122684:Nat:=0
def tw17430999387242730435:Nat:=0
def tw2686801092763169335:Nat:=0
def tw7781785633317521392:Nat:=0
def tw8838410326203000648:Nat:=0
def tw4123788046407751034:Nat:=0
def tw3471754622334421569:Nat:=0
def tw2543672326166076029:Nat:=0
def tw12368587831868592811:Nat:=0
def tw9387017992298565348:Nat:=0
def tw4984653896872827691:Nat:=0
def tw12825643581835992584:Nat:=0
def tw9181333097161473234:Nat:=0
def tw4588468983837313640:Nat:=0
def tw6652852860883599946:Nat:=0
def tw11813829399534681:Nat:=0
def tw11702316515775216806:Nat:=0
def tw2022309533084932547:Nat:=0
def tw15619472550768837405:Nat:=0
def tw399353801996468030:Nat:=0
def tw501900361570199134:Nat:=0
def tw3077418500808484973:Nat:=0
def tw10268807489418434099:Nat:=0
def tw11324082988555812806:Nat:=0
def tw10895962134996784436:Nat:=0
def tw14051654923408917280:Nat:=0
def tw11042157563570382879:Nat:=0
def tw14432118292617413965:Nat:=0
def tw12822933250779449890:Nat:=0
def tw13965709377116333889:Nat:=0
def tw1818850112965939906:Nat:=0
def tw5945501211162419172:Nat:=0
def tw14042519343730580145:Nat:=0
def tw13200732293283008657:Nat:=0
def tw2581947213600680640:Nat:=0
def tw1144419202901679595:Nat:=0
def tw14338708777593032444:Nat:=0
def tw14464561104784332248:Nat:=0
def tw14809679619069136376:Nat:=0
def tw17084098090658873002:Nat:=0
def tw2210741989026936989:Nat:=0
def tw12645168489606685824:Nat:=0
def tw18292553346827138720:Nat:=0
def tw2820362032851158973:Nat:=0
def tw1621238017719338484:Nat:=0
def tw14019273512867164933:Nat:=0
def tw16920048022495990117:Nat:=0
def tw7930597512511472579:Nat:=0
def tw5767935474874784414:Nat:=0
def tw12495429701521178158:Nat:=0
def tw5847036421618218446:Nat:=0
def tw13016225636600466223:Nat:=0
def tw7002469561185315761:Nat:=0
def tw5815159700242904184:Nat:=0
def tw4441483499008459652:Nat:=0
def tw16555655569215845089:Nat:=0
def tw4835150442258206533:Nat:=0
def tw3377771753460963961:Nat:=0
def tw13929469610491479061:Nat:=0
def tw13251143996876955318:Nat:=0
def tw16477687611955702985:Nat:=0
def tw5620161776546001884:Nat:=0
def tw7210762821695240227:Nat:=0
def tw14689029551974643989:Nat:=0
def tw569394333226429306:Nat:=0
def tw10653200645824946736:Nat:=0
def tw8533721540329637103:Nat:=0
def tw3392716282981896710:Nat:=0
def tw3804734335752325914:Nat:=0
def tw1819750931286825590:Nat:=0
def tw3815757238648223668:Nat:=0
def tw17332577824846237323:Nat:=0
def tw4250381108947283080:Nat:=0
def tw13324540989143117475:Nat:=0
def tw14567374483035045709:Nat:=0
def tw3082238902654726074:Nat:=0
def tw14331932038315556604:Nat:=0
def tw7088768575605857894:Nat:=0
def tw1530583240914662894:Nat:=0
def tw10589704534196195884:Nat:=0
def tw3242551531736979400:Nat:=0
def tw11913145516287821493:Nat:=0
def tw10616552726010337047:Nat:=0
def tw8741598322717492599:Nat:=0
def tw2716788229923168308:Nat:=0
def tw17282317078000158204:Nat:=0
def tw7504531201065350343:Nat:=0
def tw1061415612802243622:Nat:=0
def tw7585181983531908469:Nat:=0
def tw9702962821011009054:Nat:=0
def tw9055830530525874156:Nat:=0
def tw8652950370484733774:Nat:=0
def tw9630342210848614321:Nat:=0
def tw7321681999922714765:Nat:=0
def tw1281127912484017791:Nat:=0
def tw540088852050053524:Nat:=0
def tw2088952525136632618:Nat:=0
def tw16203379197037846785:Nat:=0
def tw1395415035221382305:Nat:=0
def tw83905771826146182:Nat:=0
def tw5486155631749251728:Nat:=0
def tw4079368737441512093:Nat:=0
def tw7217168680785132767:Nat:=0
def tw101373505260264851:Nat:=0
def tw6467691311434135667:Nat:=0
def tw13810153575200820751:Nat:=0
def tw6633565586240679408:Nat:=0
def tw197489643001423941:Nat:=0
def tw3884054160618020222:Nat:=0
def tw11170041543962760188:Nat:=0
def tw7322252743531629787:Nat:=0
def tw4126756867577448061:Nat:=0
def tw7387143947316608580:Nat:=0
def tw9881574289370401213:Nat:=0
def tw1465638140179239448:Nat:=0
def tw14412676521487355675:Nat:=0
def tw5300341353501207055:Nat:=0
def tw5403666558732461908:Nat:=0
def tw7700673040224181940:Nat:=0
def tw7944413112455426446:Nat:=0
def tw836752412133107007:Nat:=0
def tw17228994653876424957:Nat:=0
def tw17574610077965792689:Nat:=0
def tw9544428758411987947:Nat:=0
def tw8393129145962281034:Nat:=0
def tw3748765900745704931:Nat:=0
def tw2153917016442605641:Nat:=0
def tw16230810592082063294:Nat:=0
def tw17121244155624511909:Nat:=0
def tw5985021005324051173:Nat:=0
def tw7567932533015516135:Nat:=0
def tw4531297090814426943:Nat:=0
def tw9306313279455337899:Nat:=0
def tw11148192954267534089:Nat:=0
def tw6189577259613411139:Nat:=0
end PySem.W.Fast
set_option maxRecDepth 100000 in
set_option maxHeartbeats 0 in
theorem PySem.Challenge.cw_madeagain_k36_whole_changed_numbers_holds : PySem.Challenge.rw_madeagain_k36_whole_changed_numbers.Holds := by
 w_on;o_law;k_head;(case hw=>w_witness2)
 k_fill
 refine K36.walk (l:=PySem.Challenge.rw_madeagain_k36_whole_changed_numbers) rfl rfl (fun w h Y=>PySem.W.kIn_of Y) ?F
 case F=>
  intro w mg fa h KX G hmg
  refine' K36.all_mk KX G hmg ?a1 ?l1 ?c1 ?k1 ?a2 ?l2 ?c2 ?k2 ?a3 ?l3 ?c3 ?k3 ?a4 ?l4 ?c4 ?k4 ?a5 ?l5 ?c5 ?k5 ?a6 ?l6 ?c6 ?k6 ?a7 ?l7 ?c7 ?k7 ?a8 ?l8 ?c8 ?k8 ?a9 ?l9 ?c9 ?k9 ?a10 ?l10 ?c10 ?k10 ?a11 ?l11 ?c11 ?k11 ?a12 ?l12 ?c12 ?k12 ?a13 ?l13 ?c13 ?k13 ?a14 ?l14 ?c14 ?k14 ?a15 ?l15 ?c15 ?k15 ?a16 ?l16 ?c16 ?k16 ?a17 ?l17 ?c17 ?k17 ?a18 ?l18 ?c18 ?k18 ?kd ?ACK ?Ve ?Vf ?ZQ ?ZR ?Vg ?ZS ?ZV ?ZW ?ZX ?Vi ?ZZ ?Z0 ?Z1 ?Z2 ?Vk ?Z3 ?Z4 ?Z5 ?Z6 ?Z7 ?Z8 ?Er ?Bh ?Bj ?ACN ?Vm ?Vn ?Z9 ?aaa ?Vo ?aab ?aac ?aad ?aae ?Vq ?aaf ?aag ?aah ?aai ?Vs ?aaj ?aak ?aal ?aam ?aan ?aao ?wk ?ACS ?Vu ?Vv ?aap ?aaq ?Vw ?aar ?aas ?aat ?aau ?Vy ?aav ?aaw ?aax ?aay ?VB ?aaz ?aaA ?aaB ?aaC ?VF ?aaD ?aaE ?aaF ?aaG ?VH ?aaH ?aaI ?aaJ ?aaK ?aaL ?aaM ?za ?wu ?Bk ?rC ?ACE ?VL ?VM ?aaN ?aaO ?VN ?aaP ?aaQ ?aaR ?aaS ?VR ?aaT ?aaU ?aaV ?aaW ?V1 ?aaX ?aaY ?aaZ ?aa0 ?V3 ?aa1 ?aa2 ?aa3 ?aa4 ?V5 ?aa5 ?aa6 ?aa7 ?aa8 ?V7 ?aa9 ?aba ?abb ?abd ?abe ?abf ?Bl ?wz ?Hy ?Bm ?wA ?uw ?aPM ?lP ?RK ?Hz ?RL ?RM ?Lq ?HB ?ux ?Lr ?Ls ?RN ?RP ?RQ ?RT ?RV ?Es ?RW ?wB ?RX ?zb ?RZ
  (case a1=>k_is);(case l1=>k_is);(case c1=>k_is);(case k1=>k_is)
  (case a2=>k_is);(case l2=>k_is);(case c2=>k_is);(case k2=>k_is)
  (case a3=>k_is);(case l3=>k_is);(case c3=>k_is);(case k3=>k_is)
  (case a4=>k_is);(case l4=>k_is);(case c4=>k_is);(case k4=>k_is)
  (case a5=>k_is);(case l5=>k_is);(case c5=>k_is);(case k5=>k_is)
  (case a6=>k_is);(case l6=>k_is);(case c6=>k_is);(case k6=>k_is)
  (case a7=>k_is);(case l7=>k_is);(case c7=>k_is);(case k7=>k_is)
  (case a8=>k_is);(case l8=>k_is);(case c8=>k_is);(case k8=>k_is)
  (case a9=>k_is);(case l9=>k_is);(case c9=>k_is);(case k9=>k_is)
  (case a10=>k_is);(case l10=>k_is);(case c10=>k_is);(case k10=>k_is)
  (case a11=>k_is);(case l11=>k_is);(case c11=>k_is);(case k11=>k_is)
  (case a12=>k_is);(case l12=>k_is);(case c12=>k_is);(case k12=>k_is)
  (case a13=>k_is);(case l13=>k_is);(case c13=>k_is);(case k13=>k_is)
  (case a14=>k_is);(case l14=>k_is);(case c14=>k_is);(case k14=>k_is)
  (case a15=>k_is);(case l15=>k_is);(case c15=>k_is);(case k15=>k_is)
  (case a16=>k_is);(case l16=>k_is);(case c16=>k_is);(case k16=>k_is)
  (case a17=>k_is);(case l17=>k_is);(case c17=>k_is);(case k17=>k_is)
  (case a18=>k_is);(case l18=>k_is);(case c18=>k_is);(case k18=>k_is)
  (case kd=>exact RB.Qo (by kernel_rfl))
  (case ACK=>k_is);(case Ve=>k_is);(case Vf=>k_is);(case ZQ=>k_is);(case ZR=>k_is);(case Vg=>k_is);(case ZS=>k_is);(case ZV=>k_is);(case ZW=>k_is);(case ZX=>k_is);(case Vi=>k_is);(case ZZ=>k_is);(case Z0=>k_is);(case Z1=>k_is);(case Z2=>k_is);(case Vk=>k_is);(case Z3=>k_is);(case Z4=>k_is);(case Z5=>k_is);(case Z6=>k_is);(case Z7=>k_is);(case Z8=>k_is);(case Er=>k_is);(case Bh=>k_is);(case Bj=>k_is);(case ACN=>k_is);(case Vm=>k_is);(case Vn=>k_is);(case Z9=>k_is);(case aaa=>k_is);(case Vo=>k_is);(case aab=>k_is);(case aac=>k_is);(case aad=>k_is);(case aae=>k_is);(case Vq=>k_is);(case aaf=>k_is);(case aag=>k_is);(case aah=>k_is);(case aai=>k_is);(case Vs=>k_is);(case aaj=>k_is);(case aak=>k_is);(case aal=>k_is);(case aam=>k_is);(case aan=>k_is);(case aao=>k_is);(case wk=>k_is);(case ACS=>k_is);(case Vu=>k_is);(case Vv=>k_is);(case aap=>k_is);(case aaq=>k_is);(case Vw=>k_is);(case aar=>k_is);(case aas=>k_is);(case aat=>k_is);(case aau=>k_is);(case Vy=>k_is);(case aav=>k_is);(case aaw=>k_is);(case aax=>k_is);(case aay=>k_is);(case VB=>k_is);(case aaz=>k_is);(case aaA=>k_is);(case aaB=>k_is);(case aaC=>k_is);(case VF=>k_is);(case aaD=>k_is);(case aaE=>k_is);(case aaF=>k_is);(case aaG=>k_is);(case VH=>k_is);(case aaH=>k_is);(case aaI=>k_is);(case aaJ=>k_is);(case aaK=>k_is);(case aaL=>k_is);(case aaM=>k_is);(case za=>k_is);(case wu=>k_is);(case Bk=>k_is);(case rC=>k_is);(case ACE=>k_is);(case VL=>k_is);(case VM=>k_is);(case aaN=>k_is);(case aaO=>k_is);(case VN=>k_is);(case aaP=>k_is);(case aaQ=>k_is);(case aaR=>k_is);(case aaS=>k_is);(case VR=>k_is);(case aaT=>k_is);(case aaU=>k_is);(case aaV=>k_is);(case aaW=>k_is);(case V1=>k_is);(case aaX=>k_is);(case aaY=>k_is);(case aaZ=>k_is);(case aa0=>k_is);(case V3=>k_is);(case aa1=>k_is);(case aa2=>k_is);(case aa3=>k_is);(case aa4=>k_is);(case V5=>k_is);(case aa5=>k_is);(case aa6=>k_is);(case aa7=>k_is);(case aa8=>k_is);(case V7=>k_is);(case aa9=>k_is);(case aba=>k_is);(case abb=>k_is);(case abd=>k_is);(case abe=>k_is);(case abf=>k_is);(case Bl=>k_is);(case wz=>k_is);(case Hy=>k_is);(case Bm=>k_is);(case wA=>k_is);(case uw=>k_is)
  (case aPM=>k_is)
  (case lP=>k_is)
  (case RK=>k_is);(case Hz=>k_is);(case RL=>k_is);(case RM=>k_is);(case Lq=>k_is);(case HB=>k_is);(case ux=>k_is);(case Lr=>k_is);(case Ls=>k_is);(case RN=>k_is);(case RP=>k_is);(case RQ=>k_is);(case RT=>k_is);(case RV=>k_is);(case Es=>k_is);(case RW=>k_is);(case wB=>k_is);(case RX=>k_is);(case zb=>k_is);(case RZ=>k_is)
