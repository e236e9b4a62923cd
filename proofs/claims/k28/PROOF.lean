import PyProof.Rows.All
import Wide.All
import OpenK.AllK
import Wide.FinOn
import Lean
import PyProof.EqAt
import PyProof.EqKinds
import PyProof.TupleCall
import PyProof.WalkInts
import PyProof.NeKinds
import KE.KSortTup
import KE.KLam
import PyProof.ListRange
import KE.KDictOf
import PyProof.DictWalks
import PyProof.Rows.TupAdd
import KE.KTryOn
import PyProof.NsDelKeeps
import PyProof.ExcAttrAll.ValueError
import PyProof.FitsBits
import PyProof.ListStr
import KE.KStrOpen
import PySem.Challenge.RW_upwords_k28_rows_told_apart
set_option Elab.async false
set_option linter.all false
set_option maxRecDepth 100000
namespace L2
open PySem PySem.Spec PyProof.Rows
abbrev Key:=Sum Int Str
def HJ:Key->Value->Bool
 |.inl k,v=>Value.isInt k v
 |.inr x,v=>Value.isStrOf x v
def Tx (w:World):Key->Int
 |.inl k=>hashInt k
 |.inr x=>hashStr w x
theorem BH:∀{k:Key} {v:Value},HJ k v=true->(∃i t,k=Sum.inl i/\v=Value.int i t)\/(∃x t,k=Sum.inr x/\v=Value.str x t)
 |.inl i,v,h=>by
  obtain⟨t,e⟩:=Value.isInt_shape (k:=i) (v:=v) h
  exact .inl ⟨i,t,rfl,e⟩
 |.inr x,v,h=>by
  obtain⟨t,e⟩:=Value.isStrOf_shape (x:=x) (v:=v) h
  exact .inr ⟨x,t,rfl,e⟩
theorem MY (i:Int)(t:Tok):HJ (.inl i) (.int i t)=true:=by simp[HJ,Value.isInt]
theorem MZ (x:Str)(t:Tok):HJ (.inr x) (.str x t)=true:=by simp[HJ,Value.isStrOf]
theorem RG (a b:Int):decide ((Sum.inl a:Key)=Sum.inl b)=(a==b):=by
 by_cases e:a=b
 ·subst e;simp
 ·have h:¬(Sum.inl a:Key)=Sum.inl b:=λq=>e (Sum.inl.inj q)
  rw[decide_eq_false h]
  exact(beq_eq_false_iff_ne.mpr e).symm
theorem RH (a b:Str):decide ((Sum.inr a:Key)=Sum.inr b)=decide (a=b):=by
 by_cases e:a=b
 ·subst e;simp
 ·have h:¬(Sum.inr a:Key)=Sum.inr b:=λq=>e (Sum.inr.inj q)
  rw[decide_eq_false h,decide_eq_false e]
theorem RJ (a:Int)(b:Str):decide ((Sum.inl a:Key)=Sum.inr b)=false:=decide_eq_false (λq=>nomatch q)
theorem RK (a:Str)(b:Int):decide ((Sum.inr a:Key)=Sum.inl b)=false:=decide_eq_false (λq=>nomatch q)
def BO (prog:Program)(w:World):PySem.KeyKind prog w Key where
 is:=HJ
 hash:=Tx w
 inj:=λv a b ha hb=>by
  rcases BH ha with⟨i,t,rfl,rfl⟩|⟨x,t,rfl,rfl⟩
  ·rcases BH hb with⟨j,u,rfl,e⟩|⟨y,u,rfl,e⟩
   ·injection e with e1 _;rw[e1]
   ·exact nomatch e
  ·rcases BH hb with⟨j,u,rfl,e⟩|⟨y,u,rfl,e⟩
   ·exact nomatch e
   ·injection e with e1 _;rw[e1]
 byValue:=λk v h=>by
  rcases BH h with⟨i,t,rfl,rfl⟩|⟨x,t,rfl,rfl⟩<;>rfl
 pyHash:=λhv h=>by
  rcases BH hv with⟨i,t,rfl,rfl⟩|⟨x,t,rfl,rfl⟩
  ·exact wpAny_pyHash_int h
  ·exact wpAny_pyHash_str h
 eqBool:=λhu hv h=>by
  rcases BH hu with⟨i,t,rfl,rfl⟩|⟨x,t,rfl,rfl⟩
  ·rcases BH hv with⟨j,u,rfl,rfl⟩|⟨y,u,rfl,rfl⟩
   ·rw[RG]at h;exact wpAny_eqBool_int h
   ·rw[RJ]at h;exact SeqAt.EqAt.int_str i t y u _ _ _ _ h
  ·rcases BH hv with⟨j,u,rfl,rfl⟩|⟨y,u,rfl,rfl⟩
   ·rw[RK]at h;exact SeqAt.EqAt.str_int x t j u _ _ _ _ h
   ·rw[RH]at h;exact wpAny_eqBool_str h
 «strs»:=λk x t v h=>by
  rcases BH h with⟨i,u,rfl,e⟩|⟨y,u,rfl,e⟩
  ·exact nomatch e
  ·injection e with e1 _
   subst e1
   cases v<;>rfl
theorem Iu (prog:Program)(w:World)(i:Int)(t:Tok):(BO prog w).is (.inl i) (.int i t)=true:=MY i t
theorem Iv (prog:Program)(w:World)(x:Str)(t:Tok):(BO prog w).is (.inr x) (.str x t)=true:=MZ x t
end L2
namespace L2
open PySem PySem.Spec PyProof.Rows
inductive V where
 |A3|bl (b:Bool)|int (i:Int)|str (x:Str)|byt (b:Array UInt8)|flt (b:UInt64)|ref (a:Addr)|ty (n:String)
 deriving DecidableEq
def RelV:V->Value->Prop
 |.A3,u=>u=Value.none
 |.bl b,u=>u=Value.bool b
 |.int i,u=>∃t,u=Value.int i t
 |.str x,u=>∃t,u=Value.str x t
 |.byt b,u=>∃t,u=Value.bytes b t
 |.flt b,u=>∃t,u=Value.float b t
 |.ref a,u=>u=Value.ref a
 |.ty n,u=>u=Value.type n
abbrev Vals:List V->List Value->Prop:=Paired RelV
theorem Vals.length {xs:List V}{us:List Value}(r:Vals xs us):xs.length=us.length:=Paired.length r
theorem Vals.get:∀{xs:List V} {us:List Value} {i:Nat} {x:V},Vals xs us->xs[i]?=some x->∃u,us[i]?=some u/\RelV x u
 |_,_,_,_,.nil,e=>by simp at e
 |_,_,0,_,.cons r _,e=>by simp at e;subst e;exact⟨_,rfl,r⟩
 |_,_,i+1,x,.cons _ t,e=>by
  obtain⟨u,h1,h2⟩:=Vals.get (i:=i) (x:=x) t (by simpa using e)
  exact⟨u,by simpa using h1,h2⟩
theorem Vals.set {x:V}{u:Value}(r:RelV x u):∀{xs:List V} {us:List Value} (i:Nat),Vals xs us->Vals (xs.set i x) (us.set i u)
 |_,_,_,.nil=>.nil
 |_,_,0,.cons _ t=>.cons r t
 |_,_,i+1,.cons q t=>.cons q (Vals.set r i t)
theorem Vals.append:∀{xs ys:List V} {us ws:List Value},Vals xs us->Vals ys ws->Vals (xs++ys) (us++ws)
 |_,_,_,_,.nil,s=>s
 |_,_,_,_,.cons r t,s=>.cons r (Vals.append t s)
theorem Vals.take:∀{xs:List V} {us:List Value} (n:Nat),Vals xs us->Vals (xs.take n) (us.take n)
 |_,_,0,_=>.nil
 |_,_,_+1,.nil=>.nil
 |_,_,n+1,.cons r t=>.cons r (Vals.take n t)
theorem Vals.drop:∀{xs:List V} {us:List Value} (n:Nat),Vals xs us->Vals (xs.drop n) (us.drop n)
 |_,_,0,r=>r
 |_,_,_+1,.nil=>.nil
 |_,_,n+1,.cons _ t=>Vals.drop n t
def Hv:Option V->Option Value->Prop
 |some v,some u=>RelV v u
 |none,none=>True
 |_,_=>False
def KV {κ:Type}:List (κ×V)->List (κ×Value)->Prop:=Paired λ(p:κ×V) (q:κ×Value)=>p.1=q.1/\RelV p.2 q.2
def kV:Key->V
 |.inl i=>.int i
 |.inr x=>.str x
inductive HO where
 |lst (xs:List V)
 |tup (xs:List V)
 |dK (kvs:List (Key×V))|dT (kvs:List (List Key×V))
 |set (S:Int->Bool) (n:Nat)
 |ins (C dx:Addr) (fs:List (Str×V))
 |own (x:Addr)
 |xd (fs:List (Str×V))
 |met (f x:Addr)
 |rng (lo hi:Int)
 |frz (o:Obj) (u:HO)
 |tbl (ps:Array Value)
 |ext (φ:Heap->Prop)
abbrev Hp:=Addr->Option HO
def upd (H:Hp)(a:Addr)(o:HO):Hp:=λb=>if b=a then some o else H b
theorem AB {H:Hp}{a:Addr}{o:HO}:upd H a o a=some o:=by unfold upd;rw[if_pos rfl]
theorem AH {H:Hp}{a b:Addr}{o:HO}(h:b≠a):upd H a o b=H b:=by unfold upd;rw[if_neg h]
theorem Bh {H:Hp}{a b:Addr}{o u:HO}(h:H a=some o)(h':H b=some u)(d:o≠u):a≠b:=by
 intro e;subst e;rw[h]at h';exact d (Option.some.inj h')
theorem AI {H:Hp}{a b:Addr}{o:HO}(h:H a=some o)(h':H b=none):a≠b:=by
 intro e;subst e;rw[h]at h';cases h'
section
variable (P:Program)(w:World)
def A2 (H:Hp)(h:Heap)(a:Addr):HO->Prop
 |.lst xs=>xs.length<=sizeLine/\∃(its:List Value) (n:Nat),Vals xs its/\h.get? a=some { cls:=.type "list",data:=.seq its.toArray n }
 |.tup xs=>(xs.length<=sizeLine/\∃o,h.get? a=some o/\o.dict=none)/\∃its:List Value,Vals xs its/\IsTup h a its.toArray
 |.dK kvs=>kvs.length<=sizeLine/\(a==sysModules)=false/\∃vs,KV kvs vs/\h.DictOf (BO P w) a vs
 |.dT kvs=>kvs.length<=sizeLine/\(a==sysModules)=false/\∃xs:List (List Key×Addr×Value),
  Paired (λ(p:List Key×V) (q:List Key×Addr×Value)=>p.1=q.1/\H q.2.1=some (.tup (p.1.map kV))/\RelV p.2 q.2.2) kvs xs/\
  ∃o es ep,h.get? a=some o/\o.ExactDict/\o.data=.dict es ep/\es.toList=xs.map (entryOfKey (tupleKind (BO P w)))/\(xs.map (·.1)).Nodup
 |.set S n=>h.SetOf (intKind P w) a S n
 |.ins C dx fs=>H dx=some (.own a)/\fs.length<=1000/\dx≠a/\h.get? a=some (PySem.W.instObj C dx)/\
  ∃mA,h.Ns1 dx mA/\(∀f,Hv (fs.lookup f) (mA f))/\PySem.Within mA (fs.map (·.1))
 |.own _=>∃o,h.get? a=some o
 |.xd fs=>∃mA,h.Ns1 a mA/\∀f,Hv (fs.lookup f) (mA f)
 |.rng lo hi=>∃t u v,h.get? a=some { cls:=.type "range",data:=.fields #[.int lo t,.int hi u,.int 1 v] }
 |.frz o u=>h.get? a=some o/\A2 H h a u
 |.tbl ps=>h.get? a=some { cls:=.none,data:=.fields ps }
 |.met f x=>h.get? a=some (PySem.W.methodObj (.ref f) (.ref x))
 |.ext φ=>φ h/\(∃o,h.get? a=some o)/\∀h1 h2:Heap,φ h1->(∀o,h1.get? a=some o->h2.get? a=some o)->φ h2
def DQ (H:Hp)(h:Heap):Prop:=∀a o,H a=some o->A2 P w H h a o
end
section
variable {P:Program}{w:World}{H H':Hp}{h h':Heap}{a:Addr}{o:HO}
theorem A2.lt (x:A2 P w H h a o):a < h.objs.size:=by
 cases o with
 |lst xs=>obtain⟨_,_,_,_,e⟩:=x;exact Heap.lt_size e
 |tup xs=>obtain⟨_,_,_,p⟩:=x;exact p.lt
 |dK kvs=>obtain⟨_,_,_,_,o,_,_,e,_⟩:=x;exact Heap.lt_size e
 |dT kvs=>obtain⟨_,_,_,_,o,_,_,e,_⟩:=x;exact Heap.lt_size e
 |set S n=>obtain⟨o,_,_,_,e,_⟩:=x;exact Heap.lt_size e
 |ins C dx fs=>obtain⟨_,_,_,e,_⟩:=x;exact Heap.lt_size e
 |own y=>obtain⟨_,e⟩:=x;exact Heap.lt_size e
 |xd fs=>obtain⟨_,⟨_,_,_,e,_⟩,_⟩:=x;exact Heap.lt_size e
 |rng lo hi=>obtain⟨_,_,_,e⟩:=x;exact Heap.lt_size e
 |frz ob u=>obtain⟨e,_⟩:=x;exact Heap.lt_size e
 |tbl ps=>exact Heap.lt_size (show h.get? a=some _ from x)
 |met f y=>exact Heap.lt_size (show h.get? a=some _ from x)
 |ext φ=>obtain⟨_,⟨_,e⟩,_⟩:=x;exact Heap.lt_size e
theorem Paired.RL {α β:Type}{F G:α->β->Prop}:∀{l₁:List α} {l₂:List β},Paired F l₁ l₂->(∀a b,F a b->G a b)->Paired G l₁ l₂
 |_,_,.nil,_=>.nil
 |_,_,.cons r t,f=>.cons (f _ _ r) (Paired.RL t f)
theorem A2.EC (x:A2 P w H h a o)(k:∀b u,(b=a\/H b=some (.own a))->h.get? b=some u->h'.get? b=some u)
 (ho:∀b,H b=some (.own a)->H' b=some (.own a))(ht:∀b xs,H b=some (.tup xs)->H' b=some (.tup xs)):A2 P w H' h' a o:=by
 induction o with
 |lst xs=>obtain⟨z,its,n,r,e⟩:=x;exact⟨z,its,n,r,k _ _ (.inl rfl) e⟩
 |tup xs=>obtain⟨⟨z,o1,e1,c1⟩,its,r,ob,e,c⟩:=x;exact⟨⟨z,o1,k _ _ (.inl rfl) e1,c1⟩,its,r,ob,k _ _ (.inl rfl) e,c⟩
 |dK kvs=>obtain⟨z,y,vs,r,ob,es,ep,e,c⟩:=x;exact⟨z,y,vs,r,ob,es,ep,k _ _ (.inl rfl) e,c⟩
 |dT kvs=>
  obtain⟨z,y,xs,r,ob,es,ep,e,c⟩:=x
  exact⟨z,y,xs,Paired.RL r λp q z=>⟨z.1,ht _ _ z.2.1,z.2.2⟩,ob,es,ep,k _ _ (.inl rfl) e,c⟩
 |set S n=>obtain⟨ob,es,ep,t,e,c⟩:=x;exact⟨ob,es,ep,t,k _ _ (.inl rfl) e,c⟩
 |ins C dx fs=>
  obtain⟨d,z,ne,e,mA,⟨od,es,ep,e2,c⟩,r⟩:=x
  exact⟨ho _ d,z,ne,k _ _ (.inl rfl) e,mA,⟨od,es,ep,k _ _ (.inr d) e2,c⟩,r⟩
 |own y=>obtain⟨ob,e⟩:=x;exact⟨ob,k _ _ (.inl rfl) e⟩
 |xd fs=>obtain⟨mA,⟨od,es,ep,e,c⟩,r⟩:=x;exact⟨mA,⟨od,es,ep,k _ _ (.inl rfl) e,c⟩,r⟩
 |rng lo hi=>obtain⟨t,u,v,e⟩:=x;exact⟨t,u,v,k _ _ (.inl rfl) e⟩
 |frz ob u ih=>obtain⟨e,q⟩:=x;exact⟨k _ _ (.inl rfl) e,ih q⟩
 |tbl ps=>
  have e:h.get? a=some { cls:=.none,data:=.fields ps }:=x
  show h'.get? a=some { cls:=.none,data:=.fields ps }
  exact k a _ (.inl rfl) e
 |met f y=>
  have e:h.get? a=some (PySem.W.methodObj (.ref f) (.ref y)):=x
  show h'.get? a=some (PySem.W.methodObj (.ref f) (.ref y))
  exact k a _ (.inl rfl) e
 |ext φ=>obtain⟨p,⟨o,e⟩,st⟩:=x;exact⟨st _ _ p λo q=>k _ _ (.inl rfl) q,⟨o,k _ _ (.inl rfl) e⟩,st⟩
theorem DQ.lt (x:DQ P w H h)(e:H a=some o):a < h.objs.size:=(x a o e).lt
theorem DQ.fresh (x:DQ P w H h)(e:h.objs.size<=a):H a=none:=by
 cases q:H a with
 |none=>rfl
 |some u=>exact absurd (Nat.lt_of_lt_of_le (x.lt q) e) (Nat.lt_irrefl _)
theorem DQ.kept (x:DQ P w H h)(k:∀b u,h.get? b=some u->h'.get? b=some u):DQ P w H h':=λa o e=>
 (x a o e).EC (λb u _ q=>k b u q) (λ_ q=>q) λ_ _ q=>q
theorem DQ.laid (x:DQ P w H h)(k:∀b u,h.get? b=some u->h'.get? b=some u)(hp:h.objs.size<=a)(new:A2 P w (upd H a o) h' a o):DQ P w (upd H a o) h':=λb u e=>by
 have hn:=x.fresh hp
 by_cases hb:b=a
 ·subst hb;rw[AB]at e;cases e;exact new
 ·rw[AH hb]at e
  exact(x b u e).EC (λc v _ q=>k c v q) (λc q=>by rw[AH (AI q hn)];exact q) λc xs q=>by rw[AH (AI q hn)];exact q
end
def Rd (H:Hp)(a:Addr)(u:HO):Prop:=H a=some u\/∃o,H a=some (.frz o u)
theorem Rd.ok {P:Program}{w:World}{H:Hp}{h:Heap}{a:Addr}{u:HO}(r:Rd H a u)(x:DQ P w H h):A2 P w H h a u:=by
 rcases r with r|⟨o,r⟩
 ·exact x a u r
 ·obtain⟨_,q⟩:=x a _ r
  exact q
def SV:Option HO->Prop
 |some (.lst _)=>True
 |some (.dK _)=>True
 |some (.dT _)=>True
 |some (.set _ _)=>True
 |some (.ins _ _ _)=>True
 |some (.ext _)=>True
 |_=>False
section
variable {P:Program}{w:World}{H:Hp}{h h':Heap}{x e:Addr}{o':HO}
theorem DQ.write (ok:DQ P w H h)(mu:SV (H x))(he:e=x\/H e=some (.own x))(k:∀b u,b≠e->h.get? b=some u->h'.get? b=some u)(heo:∃u,h'.get? e=some u)
 (new:A2 P w (upd H x o') h' x o'):DQ P w (upd H x o') h':=λb u q=>by
 have nown:∀c y,H c=some (.own y)->c≠x:=λc y r z=>by subst z;rw[r]at mu;exact mu
 have ntup:∀c xs,H c=some (.tup xs)->c≠x:=λc xs r z=>by subst z;rw[r]at mu;exact mu
 by_cases hb:b=x
 ·subst hb;rw[AB]at q;cases q;exact new
 ·rw[AH hb]at q
  by_cases hbe:b=e
  ·have q':H b=some (.own x):=by
    rcases he with z|z
    ·exact absurd (hbe.trans z) hb
    ·rw[hbe];exact z
   rw[q]at q';cases q'
   obtain⟨v,hv⟩:=heo
   exact⟨v,by rw[hbe];exact hv⟩
  ·refine(ok b u q).EC (λc v hc r=>k c v ?_ r) (λc r=>by rw[AH (nown c b r)];exact r) λc xs r=>by rw[AH (ntup c xs r)];exact r
   rcases hc with rfl|hc
   ·exact hbe
   ·rintro rfl
    rcases he with z|z
    ·exact nown c b hc z
    ·rw[hc]at z;cases z;exact hb rfl
end
structure Un (fs ex:List Addr)(H H':Hp)(h h':Heap):Prop where
 keep:∀b o,h.get? b=some o->H b=none->b∉fs->b∉ex->h'.get? b=some o
 slot:∀b o,h.get? b=some o->H b=none->b∈fs->b∉ex->∃sl,h'.get? b=some { o with slots:=sl }
 free:∀b o,h.get? b=some o->H b=none->b∉ex->H' b=none
 there:∀b o,h.get? b=some o->b∉ex->∃o',h'.get? b=some o'
 tups:∀b xs,H b=some (.tup xs)->H' b=some (.tup xs)
 frzs:∀b o u,H b=some (.frz o u)->H' b=some (.frz o u)
 tbls:∀b ps,H b=some (.tbl ps)->∃more,H' b=some (.tbl (ps++more))
section
variable {fs fs' ex ex':List Addr}{H H1 H2:Hp}{h h1 h2 h':Heap}{a x e:Addr}{o:HO}
theorem Un.any (u:Un fs ex H H1 h h1){b:Addr}{ob:Obj}(q:h.get? b=some ob)(n:H b=none)(hx:b∉ex):∃sl,h1.get? b=some { ob with slots:=sl }:=by
 by_cases hb:b∈fs
 ·exact u.slot b ob q n hb hx
 ·exact⟨ob.slots,u.keep b ob q n hb hx⟩
theorem Un.kept (k:∀b u,h.get? b=some u->h'.get? b=some u):Un fs ex H H h h':=
 ⟨λb ob q _ _ _=>k b ob q,λb ob q _ _ _=>⟨ob.slots,k b ob q⟩,λ_ _ _ n _=>n,λb ob q _=>⟨ob,k b ob q⟩,λ_ _ q=>q,λ_ _ _ q=>q,λ_ ps q=>⟨#[],by rw[q];simp⟩⟩
theorem Un.refl:Un fs ex H H h h:=Un.kept λ_ _ q=>q
theorem Un.laid (k:∀b u,h.get? b=some u->h'.get? b=some u)(hp:h.objs.size<=a)(hn:H a=none):Un fs ex H (upd H a o) h h' where
 keep:=λb u q _ _ _=>k b u q
 slot:=λb u q _ _ _=>⟨u.slots,k b u q⟩
 free:=λb u q n _=>by rw[AH (Nat.ne_of_lt (Nat.lt_of_lt_of_le (Heap.lt_size q) hp))];exact n
 there:=λb u q _=>⟨u,k b u q⟩
 tups:=λb xs q=>by rw[AH (AI q hn)];exact q
 frzs:=λb u xs q=>by rw[AH (AI q hn)];exact q
 tbls:=λb ps q=>⟨#[],by rw[AH (AI q hn),q];simp⟩
theorem Un.write (mu:SV (H x))(he:e=x\/H e=some (.own x))(k:∀b u,b≠e->h.get? b=some u->h'.get? b=some u)(heo:∃u,h'.get? e=some u):Un fs ex H (upd H x o) h h':=by
 have hx:∀b,H b=none->b≠x:=λb n z=>by subst z;rw[n]at mu;exact mu
 have hb:∀b,H b=none->b≠e:=λb n z=>by
  subst z
  rcases he with r|r
  ·exact hx b n r
  ·rw[n]at r;cases r
 have hm:∀b u,H b=some u->¬SV (some u)->b≠x:=λb u q nm z=>by subst z;rw[q]at mu;exact nm mu
 refine⟨λb u q n _ _=>k b u (hb b n) q,λb u q n _ _=>⟨u.slots,k b u (hb b n) q⟩,λb u q n _=>by rw[AH (hx b n)];exact n,λb u q _=>?_,
  λb xs q=>by rw[AH (hm b _ q λz=>z)];exact q,λb u xs q=>by rw[AH (hm b _ q λz=>z)];exact q,λb ps q=>⟨#[],by rw[AH (hm b _ q λz=>z),q];simp⟩⟩
 by_cases hbe:b=e
 ·subst hbe;exact heo
 ·exact⟨u,k b u hbe q⟩
end
def Px (h:Heap)(H:Hp):List Addr:=(List.range h.objs.size).filter λa=>(H a).isSome
def Gm (h:Heap)(H:Hp):Heap:=PySem.W.hideAll h (Px h H)
theorem Ma (h:Heap)(H:Hp):(Gm h H).objs.size=h.objs.size:=PySem.W.hideAll_size _ _
theorem Nb {h:Heap}{H:Hp}{b:Addr}{o:Obj}(e:h.get? b=some o)(n:H b=none):(Gm h H).get? b=some o:=
 PySem.W.hideAll_get _ e λhm=>by
  have q:(H b).isSome=true:=(List.mem_filter.mp hm).2
  rw[n]at q;simp at q
theorem Pz {h:Heap}{H:Hp}{b:Addr}{o:Obj}(e:(Gm h H).get? b=some o):h.get? b=some o/\H b=none:=by
 have e':h.get? b=some o:=PySem.W.of_hideAll (Px h H) e
 refine⟨e',?_⟩
 cases q:H b with
 |none=>rfl
 |some x=>
  have hm:b∈Px h H:=List.mem_filter.mpr ⟨List.mem_range.mpr (Heap.lt_size e'),by simp[q]⟩
  have z:(Gm h H).get? b=none:=PySem.W.hideAll_none (Px h H) hm
  rw[z]at e;cases e
end L2
namespace L2
open PySem PySem.Spec PyProof.Rows
structure Mod (K:PySem.W.Frag)(mg:Str->Option Value)(base:Heap):Prop where
 kin:K.In base
 glob:base.Ns mainGlobals mg
 blt:∃mb,base.Ns builtinsNs mb/\∀x:Str,x≠"__name__"->mb x=bootBuiltins x
 nolimit:base.NoLimit
structure Cx where
 prog:Program
 w:World
 K:PySem.W.Frag
 mg:Str->Option Value
 base:Heap
 A:Around
 N:List Str
 s₀:Shared
 H₀:Hp
 env:Env
 outer:List Env
 stack:List Env
 ex:List Addr
 fn:Str->Bool
 calm:Bool
 pn:List (Addr×Obj)
 xe:Value->Shared->Prop
def ED (l:List Env):List Addr:=l.filterMap (·.frame)
abbrev Cx.fs (X:Cx):List Addr:=ED X.outer
def SN (sc:Scope)(x:Str):Prop:=sc.names.lookup x=some .local\/sc.names.lookup x=some .cell\/sc.names.lookup x=some .free
def Loc (sc:Scope)(x:Str):Prop:=sc.names.lookup x=some .local\/sc.names.lookup x=some .cell
def Look (env:Env)(h:Heap)(m:Str->Option Value)(x:Str)(u:Value):Prop:=
 (env.kindOf x=some .local/\m x=some u)\/((env.kindOf x=some .cell\/env.kindOf x=some .free)/\∃c,env.cells.lookup x=some c/\h.IsCell c (some u))
structure Cx.Ok (X:Cx):Prop where
 mod:Mod X.K X.mg X.base
 kind:X.env.scope.kind=.function
 glob:X.env.globals=mainGlobals
 blt:X.env.builtins=builtinsNs
 above:X.s₀.heap.objs.size<=X.env.locals
 inj:∀x y c,X.env.cells.lookup x=some c->X.env.cells.lookup y=some c->x=y
 has:∀x,(X.env.kindOf x=some .cell\/X.env.kindOf x=some .free)->∃c,X.env.cells.lookup x=some c
 cab:∀x c,X.fn x=true->X.env.cells.lookup x=some c->X.s₀.heap.objs.size<=c
 hd:X.calm=true->X.A.handled=none
 frames:X.A.frames=some X.stack
 stk:X.stack=X.outer\/(X.stack=X.env::X.outer/\X.env.frame=some X.env.locals)
 exf:∀b∈X.ex,b≠X.env.locals/\∀x c,X.env.cells.lookup x=some c->c≠b
 bs:∀b o,X.base.get? b=some o->X.s₀.heap.get? b=some o/\X.H₀ b=none
 bsz:X.base.objs.size<=X.s₀.heap.objs.size
 noex:∀b o,X.base.get? b=some o->b∉X.ex
 exfs:∀b∈X.ex,b∉X.fs
 Cz:X.s₀.heap.FunFrames X.base X.outer
 frf:∀b∈X.fs,X.H₀ b=none
structure Inv (X:Cx)(pins:List (Addr×Obj))(σ:List (Option V))(H:Hp)(s:Shared):Prop where
 ok:X.Ok
 os:s.os=X.s₀.os
 bare:AllBare s.gens
 base:Un X.fs X.ex X.H₀ H X.s₀.heap s.heap
 loc:∃m,s.heap.Ns X.env.locals m/\∀(i:Nat) (x:Str) (v:V),X.N[i]?=some x->σ[i]?=some (some v)->SN X.env.scope x->∃u,RelV v u/\Look X.env s.heap m x u
 cell:∀x c,X.env.cells.lookup x=some c->∃v,s.heap.IsCell c v
 free:H X.env.locals=none
 freeC:∀x c,X.env.cells.lookup x=some c->H c=none
 pin:∀p∈X.pn++pins,s.heap.get? p.1=some p.2/\H p.1=none/\p.1≠X.env.locals/\p.1∉X.fs/\∀v,p.2.data≠.cell v
 hok:DQ X.prog X.w H s.heap
 len:σ.length=X.N.length
section
variable {X:Cx}{pins:List (Addr×Obj)}{σ:List (Option V)}{H H':Hp}{s:Shared}{h':Heap}
theorem Cx.Ok.Tz (ok:X.Ok){b:Addr}{o:Obj}(e:X.base.get? b=some o):b∉X.fs:=λhb=>by
 have:=(ok.Cz.mem hb).1
 rw[e]at this;cases this
theorem Inv.bs (I:Inv X pins σ H s):∀b o,X.base.get? b=some o->s.heap.get? b=some o/\H b=none:=λb o e=>
 ⟨I.base.keep b o (I.ok.bs b o e).1 (I.ok.bs b o e).2 (I.ok.Tz e) (I.ok.noex b o e),I.base.free b o (I.ok.bs b o e).1 (I.ok.bs b o e).2 (I.ok.noex b o e)⟩
theorem Inv.bk (I:Inv X pins σ H s):∀b o,X.base.get? b=some o->s.heap.get? b=some o:=λb o e=>(I.bs b o e).1
theorem Inv.mod (I:Inv X pins σ H s):Mod X.K X.mg X.base:=I.ok.mod
theorem Inv.Gn (I:Inv X pins σ H s):X.K.In s.heap:=I.ok.mod.kin.keeps I.bk
theorem Inv.nolimit (I:Inv X pins σ H s):s.heap.NoLimit:=I.ok.mod.nolimit.keeps I.bk
theorem Inv.fr (I:Inv X pins σ H s):∃m,Fr X.base X.env.locals s.heap m:=
 let⟨m,hn,_⟩:=I.loc
 ⟨m,hn,I.bk,Nat.le_trans I.ok.bsz I.ok.above⟩
theorem Inv.lt (I:Inv X pins σ H s):X.env.locals < s.heap.objs.size:=let⟨_,hn,_⟩:=I.loc;hn.lt
theorem Inv.sz (I:Inv X pins σ H s):X.s₀.heap.objs.size<=s.heap.objs.size:=Nat.le_trans I.ok.above (Nat.le_of_lt I.lt)
theorem Inv.T3 (I:Inv X pins σ H s){a:Addr}(h:s.heap.objs.size<=a):a∉X.fs:=λhb=>by
 obtain⟨_,o,ho,_⟩:=I.ok.Cz.mem hb
 exact absurd (Nat.lt_of_lt_of_le (Heap.lt_size ho) (Nat.le_trans I.sz h)) (Nat.lt_irrefl _)
theorem Inv.P0 (I:Inv X pins σ H s):∀x c,X.env.cells.lookup x=some c->c≠X.env.locals:=λx c e z=>by
 obtain⟨v,o,ho,hd⟩:=I.cell x c e
 obtain⟨m,⟨o',es,ep,ho',hd',_⟩,_⟩:=I.loc
 rw[z,ho']at ho;cases ho;rw[hd']at hd;cases hd
theorem Inv.Cz (I:Inv X pins σ H s):s.heap.FunFrames X.base X.outer:=by
 have all:∀(l:List Env),(∀b∈ED l,b∈X.fs)->X.s₀.heap.FunFrames X.base l->s.heap.FunFrames X.base l:=by
  intro l
  induction l with
  |nil=>intro _ _;trivial
  |cons env r ih=>
   intro hs hl
   obtain⟨hk,⟨L,o,hf,hn,ho,hd⟩,hr⟩:=hl
   have hL:L∈X.fs:=hs L (by unfold ED;rw[List.filterMap_cons,hf];exact List.mem_cons_self)
   obtain⟨sl,e⟩:=I.base.slot L o ho (I.ok.frf L hL) hL λz=>I.ok.exfs L z hL
   exact⟨hk,⟨L,_,hf,hn,e,hd⟩,ih (λb hb=>hs b (by unfold ED;rw[List.filterMap_cons,hf];exact List.mem_cons_of_mem _ hb)) hr⟩
 exact all X.outer (λ_ hb=>hb) I.ok.Cz
theorem Inv.stack (I:Inv X pins σ H s):s.heap.FunFrames X.base X.stack:=by
 rcases I.ok.stk with e|⟨e,hf⟩
 ·rw[e];exact I.Cz
 ·rw[e]
  obtain⟨m,hn,_⟩:=I.loc
  refine .cons (by rw[I.ok.kind];decide) hf hn ?_ I.Cz
  exact Heap.get?_none_of_le (Nat.le_trans I.ok.bsz I.ok.above)
theorem Inv.DT (I:Inv X pins σ H s):∀b∈ED X.stack,b∈X.env.locals::X.fs:=λb hb=>by
 rcases I.ok.stk with e|⟨e,hf⟩
 ·rw[e]at hb;exact List.mem_cons_of_mem _ hb
 ·rw[e]at hb
  unfold ED at hb
  rw[List.filterMap_cons,hf]at hb
  exact hb
theorem Inv.LY (I:Inv X pins σ H s):∀b∈ED X.stack,H b=none:=λb hb=>by
 rcases List.mem_cons.mp (I.DT b hb)with e|hb
 ·rw[e];exact I.free
 ·obtain⟨_,o,ho,_⟩:=I.ok.Cz.mem hb
  exact I.base.free b o ho (I.ok.frf b hb) λz=>I.ok.exfs b z hb
theorem Inv.step {g':Array GenState}{t':Nat}{d':Drawn}{ch:List Addr}(I:Inv X pins σ H s)
 (hch:∀b∈ch,(b∈X.ex\/X.s₀.heap.objs.size<=b)/\b≠X.env.locals/\(∀x c,X.env.cells.lookup x=some c->c≠b)/\∀p∈X.pn++pins,p.1≠b)
 (keep:∀b o,b≠X.env.locals->b∉X.fs->b∉ch->s.heap.get? b=some o->H b=none->h'.get? b=some o)
 (slot:∀b o,b≠X.env.locals->b∈X.fs->b∉ch->s.heap.get? b=some o->H b=none->∃sl,h'.get? b=some { o with slots:=sl })(free:∀b o,b∉ch->s.heap.get? b=some o->H b=none->H' b=none)
 (there:∀b o,b∉ch->s.heap.get? b=some o->∃o',h'.get? b=some o')
 (tups:∀b xs,H b=some (.tup xs)->H' b=some (.tup xs))(frzs:∀b o u,H b=some (.frz o u)->H' b=some (.frz o u))(tbls:∀b ps,H b=some (.tbl ps)->∃more,H' b=some (.tbl (ps++more)))
 (ns:∀m,s.heap.Ns X.env.locals m->h'.Ns X.env.locals m)(hok:DQ X.prog X.w H' h')(hg:AllBare g'):
 Inv X pins σ H' { s with heap:=h',gens:=g',drawn:=d',toks:=t' }:=by
 have neL:∀b o,X.s₀.heap.get? b=some o->b≠X.env.locals:=λb o e=>Nat.ne_of_lt (Nat.lt_of_lt_of_le (Heap.lt_size e) I.ok.above)
 have neC:∀b o,X.s₀.heap.get? b=some o->b∉X.ex->b∉ch:=λb o e hx hb=>by
  rcases(hch b hb).1 with z|z
  ·exact hx z
  ·exact absurd (Nat.lt_of_lt_of_le (Heap.lt_size e) z) (Nat.lt_irrefl _)
 have cellK:∀x c,X.env.cells.lookup x=some c->∀v,s.heap.IsCell c v->h'.IsCell c v:=λx c e v ⟨o,ho,hd⟩=>by
  have nch:c∉ch:=λz=>(hch c z).2.2.1 x c e rfl
  by_cases hc:c∈X.fs
  ·obtain⟨sl,q⟩:=slot c o (I.P0 x c e) hc nch ho (I.freeC x c e)
   exact⟨_,q,hd⟩
  ·exact⟨o,keep c o (I.P0 x c e) hc nch ho (I.freeC x c e),hd⟩
 refine⟨I.ok,I.os,hg,⟨λb o e n hb hx=>?_,λb o e n hb hx=>?_,λb o e n hx=>?_,λb o e hx=>?_,λb xs e=>tups b xs (I.base.tups b xs e),λb o xs e=>frzs b o xs (I.base.frzs b o xs e),λb ps e=>?_⟩,?_,λx c e=>?_,?_,λx c e=>?_,λp hp=>?_,hok,I.len⟩
 ·exact keep b o (neL b o e) hb (neC b o e hx) (I.base.keep b o e n hb hx) (I.base.free b o e n hx)
 ·obtain⟨sl,e1⟩:=I.base.slot b o e n hb hx
  obtain⟨sl',e2⟩:=slot b _ (neL b o e) hb (neC b o e hx) e1 (I.base.free b o e n hx)
  exact⟨sl',e2⟩
 ·obtain⟨o',e1⟩:=I.base.there b o e hx
  exact free b o' (neC b o e hx) e1 (I.base.free b o e n hx)
 ·obtain⟨o',e1⟩:=I.base.there b o e hx
  exact there b o' (neC b o e hx) e1
 ·obtain⟨m1,e1⟩:=I.base.tbls b ps e
  obtain⟨m2,e2⟩:=tbls b _ e1
  exact⟨m1++m2,by rw[e2,Array.append_assoc]⟩
 ·obtain⟨m,hn,hl⟩:=I.loc
  refine⟨m,ns m hn,λi x v e1 e2 e3=>?_⟩
  obtain⟨u,r,l⟩:=hl i x v e1 e2 e3
  refine⟨u,r,?_⟩
  rcases l with l|⟨k,c,e,z⟩
  ·exact .inl l
  ·exact .inr ⟨k,c,e,cellK x c e _ z⟩
 ·obtain⟨v,z⟩:=I.cell x c e
  exact⟨v,cellK x c e v z⟩
 ·obtain⟨m,⟨o,_,_,ho,_⟩,_⟩:=I.loc
  exact free _ o (λz=>(hch _ z).2.1 rfl) ho I.free
 ·obtain⟨v,o,ho,hd⟩:=I.cell x c e
  exact free c o (λz=>(hch c z).2.2.1 x c e rfl) ho (I.freeC x c e)
 ·obtain⟨e,n,ne,nf,d⟩:=I.pin p hp
  have nch:p.1∉ch:=λz=>(hch p.1 z).2.2.2 p hp rfl
  exact⟨keep p.1 p.2 ne nf nch e n,free p.1 p.2 nch e n,ne,nf,d⟩
theorem Inv.un {t':Nat}(I:Inv X pins σ H s)(u:Un X.fs [] H H' s.heap h')(hok:DQ X.prog X.w H' h'):Inv X pins σ H' { s with heap:=h',toks:=t' }:=by
 obtain⟨m,⟨o,es,ep,ho,r⟩,_⟩:=id I.loc
 obtain⟨sl,hL⟩:=u.any ho I.free (by simp)
 exact I.step (g':=s.gens) (d':=s.drawn) (ch:=[]) (λ_ z=>nomatch z) (λb o _ hb _ e n=>u.keep b o e n hb (by simp)) (λb o _ hb _ e n=>u.slot b o e n hb (by simp)) (λb o _ e n=>u.free b o e n (by simp)) (λb o _ e=>u.there b o e (by simp)) u.tups u.frzs u.tbls (λm' hm=>by
  obtain⟨o',es',ep',ho',r'⟩:=hm
  rw[ho]at ho';cases ho'
  exact⟨_,es',ep',hL,r'⟩) hok I.bare
theorem Inv.call {g':Array GenState}{t':Nat}{d':Drawn}{ch:List Addr}(I:Inv X pins σ H s)(u:Un (ED X.stack) ch H H' s.heap h')(hok:DQ X.prog X.w H' h')(hg:AllBare g')
 (hch:∀b∈ch,(b∈X.ex\/X.s₀.heap.objs.size<=b)/\b≠X.env.locals/\(∀x c,X.env.cells.lookup x=some c->c≠b)/\∀p∈X.pn++pins,p.1≠b):
 Inv X pins σ H' { s with heap:=h',gens:=g',drawn:=d',toks:=t' }:=by
 obtain⟨m,⟨o,es,ep,ho,r⟩,_⟩:=id I.loc
 obtain⟨sl,hL⟩:=u.any ho I.free λz=>(hch _ z).2.1 rfl
 exact I.step (ch:=ch) hch (λb o hL hb hc e n=>u.keep b o e n (λz=>(List.mem_cons.mp (I.DT b z)).elim hL hb) hc) (λb o _ _ hc e n=>u.any e n hc) (λb o hc e n=>u.free b o e n hc) (λb o hc e=>u.there b o e hc) u.tups u.frzs u.tbls (λm' hm=>by
  obtain⟨o',es',ep',ho',r'⟩:=hm
  rw[ho]at ho';cases ho'
  exact⟨_,es',ep',hL,r'⟩) hok hg
theorem Inv.turned {t':Nat}{it:Addr}(I:Inv X pins σ H s)(k:∀b o,b≠it->s.heap.get? b=some o->h'.get? b=some o)(hn:H it=none)(hL:it≠X.env.locals)
 (h1:it∈X.ex\/X.s₀.heap.objs.size<=it)(h2:∀x c,X.env.cells.lookup x=some c->c≠it)(h3:∀p∈X.pn++pins,p.1≠it):Inv X pins σ H { s with heap:=h',toks:=t' }:=by
 have nit:∀b u,H b=some u->b≠it:=λb u e z=>by rw[z,hn]at e;cases e
 refine I.step (g':=s.gens) (d':=s.drawn) (ch:=[it]) (λb hb=>?_) (λb o _ _ hc e _=>k b o (λz=>hc (by simp[z])) e) (λb o _ _ hc e _=>⟨o.slots,k b o (λz=>hc (by simp[z])) e⟩) (λ_ _ _ _ n=>n)
  (λb o hc e=>⟨o,k b o (λz=>hc (by simp[z])) e⟩) (λ_ _ e=>e) (λ_ _ _ e=>e) (λb ps e=>⟨#[],by rw[e];simp⟩) (λm hm=>?_) (λb u e=>?_) I.bare
 ·have e:b=it:=by simpa using hb
  subst e
  exact⟨h1,hL,h2,h3⟩
 ·obtain⟨o,es,ep,ho,r⟩:=hm
  exact⟨o,es,ep,k _ o (Ne.symm hL) ho,r⟩
 ·refine(I.hok b u e).EC (λc v hc q=>k c v ?_ q) (λ_ q=>q) λ_ _ q=>q
  rcases hc with z|z
  ·rw[z];exact nit b u e
  ·exact nit c _ z
theorem Inv.tok (I:Inv X pins σ H s)(t:Nat):Inv X pins σ H { s with toks:=t }:=I.un (h':=s.heap) (t':=t) Un.refl I.hok
theorem Inv.kept {t':Nat}(I:Inv X pins σ H s)(k:∀b u,s.heap.get? b=some u->h'.get? b=some u):Inv X pins σ H { s with heap:=h',toks:=t' }:=I.un (Un.kept k) (I.hok.kept k)
theorem Inv.laid {a:Addr}{o:HO}{t':Nat}(I:Inv X pins σ H s)(k:∀b u,s.heap.get? b=some u->h'.get? b=some u)(hp:s.heap.objs.size<=a)(new:A2 X.prog X.w (upd H a o) h' a o):
 Inv X pins σ (upd H a o) { s with heap:=h',toks:=t' }:=I.un (Un.laid k hp (I.hok.fresh hp)) (I.hok.laid k hp new)
theorem Inv.write {x e:Addr}{o:HO}{t':Nat}(I:Inv X pins σ H s)(mu:SV (H x))(he:e=x\/H e=some (.own x))(k:∀b u,b≠e->s.heap.get? b=some u->h'.get? b=some u)(heo:∃u,h'.get? e=some u)
 (new:A2 X.prog X.w (upd H x o) h' x o):Inv X pins σ (upd H x o) { s with heap:=h',toks:=t' }:=I.un (Un.write mu he k heo) (I.hok.write mu he k heo new)
theorem Inv.weak {σ':List (Option V)}(I:Inv X pins σ H s)(hl:σ'.length=σ.length)(w:∀(i:Nat) v,σ'[i]?=some (some v)->σ[i]?=some (some v)):Inv X pins σ' H s:=
 ⟨I.ok,I.os,I.bare,I.base,let⟨m,hn,hl'⟩:=I.loc;⟨m,hn,λi x v e1 e2 e3=>hl' i x v e1 (w i v e2) e3⟩,I.cell,I.free,I.freeC,I.pin,I.hok,hl.trans I.len⟩
theorem Inv.Fs {pins':List (Addr×Obj)}(I:Inv X pins σ H s)(h:∀p∈pins',s.heap.get? p.1=some p.2/\H p.1=none/\p.1≠X.env.locals/\p.1∉X.fs/\∀v,p.2.data≠.cell v):Inv X pins' σ H s:=
 ⟨I.ok,I.os,I.bare,I.base,I.loc,I.cell,I.free,I.freeC,λp hp=>(List.mem_append.mp hp).elim (λz=>I.pin p (List.mem_append_left _ z)) (h p),I.hok,I.len⟩
theorem F3 {N:List Str}(hN:N.Nodup){i j:Nat}{x:Str}(a:N[i]?=some x)(b:N[j]?=some x):i=j:=by
 obtain⟨h1,e1⟩:=List.getElem?_eq_some_iff.mp a
 obtain⟨h2,e2⟩:=List.getElem?_eq_some_iff.mp b
 exact(List.getElem_inj hN).mp (e1.trans e2.symm)
theorem HK {M:Model}{A:Around}{E:Value->Shared->Prop}{i:Nat}{x:Str}{v:V}{u:Value}{Q:Unit->Shared->Prop}(I:Inv X pins σ H s)(hN:X.N.Nodup)(hi:X.N[i]?=some x)(hx:Loc X.env.scope x)(r:RelV v u)
 (h:∀s',Inv X pins (σ.set i (some v)) H s'->(∃a,Heap.SameBut a s.heap s'.heap/\(a=X.env.locals\/X.env.cells.lookup x=some a))->Q () s')(hf:X.fn x=true\/X.env.scope.names.lookup x=some .local:=by first|exact .inl rfl|exact .inr rfl|assumption):wpAny M A (storeName X.env x u) Q E s:=by
 obtain⟨m,hn,hl⟩:=id I.loc
 have hcls:(X.env.scope.kind==.class||(X.env.scope.kind==.module&&X.env.locals !=X.env.globals))=false:=by rw[I.ok.kind];rfl
 have hiσ:i < σ.length:=by rw[I.len];exact(List.getElem?_eq_some_iff.mp hi).1
 have P0:=I.P0
 have tracked:∀{a:Addr} {h':Heap},(∃o,s.heap.get? a=some o/\H a=none)->Heap.SameBut a s.heap h'->DQ X.prog X.w H h':=λ{a h'} ha hs b ob e=>by
  obtain⟨_,_,hfree⟩:=ha
  refine(I.hok b ob e).EC (λc w' hc q=>(hs.2 c ?_).trans q) (λ_ q=>q) λ_ _ q=>q
  rintro rfl
  rcases hc with rfl|hc
  ·rw[hfree]at e;cases e
  ·rw[hfree]at hc;cases hc
 rcases hx with hk|hk
 ·refine wpAny_storeName_local hk hn (λh' hn' hs=>?_) hcls
  obtain⟨oL,_,_,hoL,_⟩:=id hn
  refine h _ ⟨I.ok,I.os,I.bare,⟨λb o e n hb hx=>?_,λb o e n hb hx=>?_,I.base.free,λb o e hx=>?_,I.base.tups,I.base.frzs,I.base.tbls⟩,⟨_,hn',λj y v' e1 e2 e3=>?_⟩,λy c e=>?_,I.free,I.freeC,λp hp=>?_,tracked ⟨oL,hoL,I.free⟩ hs,by simpa using I.len⟩ ⟨_,hs,.inl rfl⟩
  ·exact(hs.2 b (Nat.ne_of_lt (Nat.lt_of_lt_of_le (Heap.lt_size e) I.ok.above))).trans (I.base.keep b o e n hb hx)
  ·obtain⟨sl,e1⟩:=I.base.slot b o e n hb hx
   exact⟨sl,(hs.2 b (Nat.ne_of_lt (Nat.lt_of_lt_of_le (Heap.lt_size e) I.ok.above))).trans e1⟩
  ·obtain⟨o',e1⟩:=I.base.there b o e hx
   exact⟨o',(hs.2 b (Nat.ne_of_lt (Nat.lt_of_lt_of_le (Heap.lt_size e) I.ok.above))).trans e1⟩
  ·by_cases hj:j=i
   ·subst hj
    rw[hi]at e1;cases e1
    rw[List.getElem?_set_self hiσ]at e2
    cases e2
    exact⟨u,r,.inl ⟨hk,by simp⟩⟩
   ·rw[List.getElem?_set_ne (Ne.symm hj)]at e2
    obtain⟨u',r',q⟩:=hl j y v' e1 e2 e3
    refine⟨u',r',?_⟩
    rcases q with⟨k,e⟩|⟨k,c,e,z⟩
    ·refine .inl ⟨k,?_⟩
     have:y≠x:=λe=>hj (F3 hN e1 (e▸hi))
     simp[this,e]
    ·exact .inr ⟨k,c,e,z.sameBut hs (P0 y c e)⟩
  ·obtain⟨w',z⟩:=I.cell y c e
   exact⟨w',z.sameBut hs (P0 y c e)⟩
  ·obtain⟨e,n,ne,nf,d⟩:=I.pin p hp
   exact⟨(hs.2 p.1 ne).trans e,n,ne,nf,d⟩
 ·have hfn:X.fn x=true:=by
   rcases hf with z|z
   ·exact z
   ·rw[z]at hk;cases hk
  obtain⟨c,hc⟩:=I.ok.has x (.inl hk)
  obtain⟨w',z⟩:=I.cell x c hc
  refine wpAny_storeName_cell I.ok.kind hk hc z (λh' hc' hs=>?_)
  obtain⟨oc,hoc,hocd⟩:=id z
  refine h { s with heap:=h' } ⟨I.ok,I.os,I.bare,⟨λb o e n hb hx=>?_,λb o e n hb hx=>?_,I.base.free,λb o e hx=>?_,I.base.tups,I.base.frzs,I.base.tbls⟩,⟨m,hn.sameBut hs (Ne.symm (P0 x c hc)),λj y v' e1 e2 e3=>?_⟩,λy c' e=>?_,I.free,I.freeC,λp hp=>?_,tracked ⟨oc,hoc,I.freeC x c hc⟩ hs,by simpa using I.len⟩ ⟨c,hs,.inr hc⟩
  ·exact(hs.2 b (Nat.ne_of_lt (Nat.lt_of_lt_of_le (Heap.lt_size e) (I.ok.cab x c hfn hc)))).trans (I.base.keep b o e n hb hx)
  ·obtain⟨sl,e1⟩:=I.base.slot b o e n hb hx
   exact⟨sl,(hs.2 b (Nat.ne_of_lt (Nat.lt_of_lt_of_le (Heap.lt_size e) (I.ok.cab x c hfn hc)))).trans e1⟩
  ·obtain⟨o',e1⟩:=I.base.there b o e hx
   exact⟨o',(hs.2 b (Nat.ne_of_lt (Nat.lt_of_lt_of_le (Heap.lt_size e) (I.ok.cab x c hfn hc)))).trans e1⟩
  ·by_cases hj:j=i
   ·subst hj
    rw[hi]at e1;cases e1
    rw[List.getElem?_set_self hiσ]at e2
    cases e2
    exact⟨u,r,.inr ⟨.inl hk,c,hc,hc'⟩⟩
   ·rw[List.getElem?_set_ne (Ne.symm hj)]at e2
    obtain⟨u',r',q⟩:=hl j y v' e1 e2 e3
    refine⟨u',r',?_⟩
    rcases q with q|⟨k,c',e,z'⟩
    ·exact .inl q
    ·refine .inr ⟨k,c',e,z'.sameBut hs ?_⟩
     rintro rfl
     exact hj (F3 hN e1 (I.ok.inj _ _ _ e hc▸hi))
  ·by_cases hcc:c'=c
   ·subst hcc;exact⟨_,hc'⟩
   ·obtain⟨w2,z2⟩:=I.cell y c' e
    exact⟨w2,z2.sameBut hs hcc⟩
  ·obtain⟨e,n,ne,nf,d⟩:=I.pin p hp
   refine⟨(hs.2 p.1 ?_).trans e,n,ne,nf,d⟩
   intro q
   rw[q,hoc]at e
   have q':oc=p.2:=Option.some.inj e
   exact d w' (by rw[<-q'];exact hocd)
theorem F4 {M:Model}{A:Around}{E:Value->Shared->Prop}{i:Nat}{x:Str}{v:V}{u:Value}{Q:Unit->Shared->Prop}(I:Inv X pins σ H s)(hN:X.N.Nodup)(hi:X.N[i]?=some x)(hx:Loc X.env.scope x)(r:RelV v u)
 (h:∀s',Inv X pins (σ.set i (some v)) H s'->Q () s')(hf:X.fn x=true\/X.env.scope.names.lookup x=some .local:=by first|exact .inl rfl|exact .inr rfl|assumption):wpAny M A (storeName X.env x u) Q E s:=
 HK I hN hi hx r (λs' I' _=>h s' I') hf
theorem Inv.Nc {s':Shared}{ch:List Addr}(I:Inv X pins σ H s)(ho:s'.os=s.os)(u:Un (ED X.stack) ch H H' s.heap s'.heap)(hok:DQ X.prog X.w H' s'.heap)(hg:AllBare s'.gens)
 (hch:∀b∈ch,(b∈X.ex\/X.s₀.heap.objs.size<=b)/\b≠X.env.locals/\(∀x c,X.env.cells.lookup x=some c->c≠b)/\∀p∈X.pn++pins,p.1≠b):Inv X pins σ H' s':=by
 obtain⟨h',g',d',t',o'⟩:=s'
 have e:o'=s.os:=ho
 subst e
 exact I.call (g':=g') (t':=t') (d':=d') u hok hg hch
end
abbrev XK:=Value->Option Addr->Hp->Prop
abbrev St:=List (Option V)
abbrev VK:=V->Hp->Prop
abbrev TE:=St->Hp->VK->Prop
abbrev TT:=St->Hp->(Bool->Hp->Prop)->Prop
abbrev TA:=St->Hp->(List V->Hp->Prop)->Prop
structure Ends where
 nx:St->Hp->Prop
 rt:VK
 bk:St->Hp->Prop:=λ_ _=>False
 ct:St->Hp->Prop:=λ_ _=>False
abbrev TS:=Ends->St->Hp->Prop
def EP (X:Cx)(pins:List (Addr×Obj))(σ:St)(Q:VK)(u:Value)(s':Shared):Prop:=∃v H',Inv X pins σ H' s'/\RelV v u/\Q v H'
def TP (X:Cx)(pins:List (Addr×Obj))(σ:St)(Q:Bool->Hp->Prop)(b:Bool)(s':Shared):Prop:=∃H',Inv X pins σ H' s'/\Q b H'
def AP (X:Cx)(pins:List (Addr×Obj))(σ:St)(Q:List V->Hp->Prop)(us:List Value)(s':Shared):Prop:=∃vs H',Inv X pins σ H' s'/\Vals vs us/\Q vs H'
def SP (X:Cx)(pins:List (Addr×Obj))(D:Ends)(f:Flow)(s':Shared):Prop:=
 match f with
 |.next=>∃σ' H',Inv X pins σ' H' s'/\D.nx σ' H'
 |.brk=>∃σ' H',Inv X pins σ' H' s'/\D.bk σ' H'
 |.cont=>∃σ' H',Inv X pins σ' H' s'/\D.ct σ' H'
 |.ret u=>∃v σ' H',Inv X pins σ' H' s'/\RelV v u/\D.rt v H'
def PE (X:Cx)(e:Expr)(t:TE):Prop:=
 ∀(pins:List (Addr×Obj)) (s:Shared) (σ:St) (H:Hp) (Q:VK),Inv X pins σ H s->t σ H Q->wpAny (model X.prog X.w) X.A (eval e X.env) (EP X pins σ Q) X.xe s
def PT (X:Cx)(e:Expr)(t:TT):Prop:=
 ∀(pins:List (Addr×Obj)) (s:Shared) (σ:St) (H:Hp) (Q:Bool->Hp->Prop),Inv X pins σ H s->t σ H Q->wpAny (model X.prog X.w) X.A (isTrue e X.env (eval e X.env)) (TP X pins σ Q) X.xe s
def PW (X:Cx)(e:Expr)(t:TT):Prop:=
 ∀(whole:Sem Value) (pins:List (Addr×Obj)) (s:Shared) (σ:St) (H:Hp) (Q:Bool->Hp->Prop),Inv X pins σ H s->t σ H Q->wpAny (model X.prog X.w) X.A (isTrue e X.env whole) (TP X pins σ Q) X.xe s
theorem PW.pt {X:Cx}{e:Expr}{t:TT}(h:PW X e t):PT X e t:=h _
def PA (X:Cx)(es:List Expr)(t:TA):Prop:=
 ∀(pos:Pos) (pins:List (Addr×Obj)) (s:Shared) (σ:St) (H:Hp) (Q:List V->Hp->Prop),Inv X pins σ H s->t σ H Q->wpAny (model X.prog X.w) X.A (spliced (backTo pos (starEach es X.env))) (AP X pins σ Q) X.xe s
def PS (X:Cx)(st:Stmt)(t:TS):Prop:=
 ∀(pins:List (Addr×Obj)) (s:Shared) (σ:St) (H:Hp) (D:Ends),Inv X pins σ H s->t D σ H->wpAny (model X.prog X.w) X.A (exec st X.env) (SP X pins D) X.xe s
def Iq (X:Cx)(st:List Stmt)(t:TS):Prop:=
 ∀(pins:List (Addr×Obj)) (s:Shared) (σ:St) (H:Hp) (D:Ends),Inv X pins σ H s->t D σ H->wpAny (model X.prog X.w) X.A (execs st X.env) (SP X pins D) X.xe s
theorem BG {α:Type}{t:Sem α}{Q Q':α->Shared->Prop}{M:Model}{A:Around}{E:Value->Shared->Prop}{s:Shared}(h:wpAny M A t Q E s)(hQ:∀a s,Q a s->Q' a s):wpAny M A t Q' E s:=wpAny_mono h hQ λ_ _ x=>x
end L2
namespace L2
open PySem PySem.Spec PyProof.Rows
section
variable {X:Cx}
def SW (i:Nat):TE:=λσ H Q=>∃v,σ[i]?=some (some v)/\Q v H
def tC (v:V):TE:=λ_ H Q=>Q v H
theorem RM {i:Nat}{x:Str}{pos:Pos}(hN:X.N[i]?=some x)(hv:SN X.env.scope x)(hd:(x==("__debug__":Str))=false:=by decide)(hcd:(x==("__classdict__":Str))=false:=by decide):PE X (.Name x pos) (SW i):=by
 intro pins s σ H Q I h
 obtain⟨v,e,h⟩:=h
 obtain⟨m,hn,hl⟩:=I.loc
 obtain⟨u,r,l⟩:=hl i x v hN e hv
 have fin:EP X pins σ Q u s:=⟨v,H,I,r,h⟩
 rcases l with⟨hk,hm⟩|⟨hk,c,hc,hcell⟩
 ·exact wpAny_Name (wpAny_loadName_local I.ok.kind hk hn hm fin) hd
 ·rcases hk with hk|hk
  ·exact wpAny_Name (wpAny_loadName_cell I.ok.kind hk hc hcell fin) hd
  ·exact wpAny_Name (wpAny_loadName_free I.ok.kind hk hc hcell fin hcd) hd
theorem AF {i j pos}:PE X (.Constant (.int i) j pos) (tC (.int i)):=λ_ _ _ H _ I h=>wpAny_Constant_int ⟨.int i,H,I.tok _,⟨_,rfl⟩,h⟩
theorem DM {b j pos}:PE X (.Constant (.bool b) j pos) (tC (.bl b)):=λ_ _ _ H _ I h=>Constant_bool ⟨.bl b,H,I,rfl,h⟩
theorem CT {j pos}:PE X (.Constant .none j pos) (tC .A3):=λ_ _ _ H _ I h=>Constant_none ⟨.A3,H,I,rfl,h⟩
theorem Bi {x j pos}:PE X (.Constant (.str x) j pos) (tC (.str x)):=λ_ _ _ H _ I h=>Calls.Constant_str ⟨.str x,H,I.tok _,⟨_,rfl⟩,h⟩
def Gl (X:Cx)(x:Str):Prop:=X.env.kindOf x=some .globalImplicit
theorem Ed {E:Value->Shared->Prop}{pins:List (Addr×Obj)}{s:Shared}{σ:St}{H:Hp}{x:Str}{u:Value}{pos:Pos}{Q:Value->Shared->Prop}(I:Inv X pins σ H s)(hg:Gl X x)(hm:X.mg x=some u)(h:Q u s)
 (hd:(x==("__debug__":Str))=false:=by decide):wpAny (model X.prog X.w) X.A (eval (.Name x pos) X.env) Q E s:=
 Calls.Name_function_global I.ok.kind hg (Calls.loadGlobal_global (by rw[I.ok.glob];exact I.mod.glob.keeps I.bk) hm h) hd
theorem CU {E:Value->Shared->Prop}{pins:List (Addr×Obj)}{s:Shared}{σ:St}{H:Hp}{x:Str}{u:Value}{pos:Pos}{Q:Value->Shared->Prop}(I:Inv X pins σ H s)(hg:Gl X x)(hm:X.mg x=none)(hv:bootBuiltins x=some u)(h:Q u s)
 (hn:x≠"__name__":=by decide)(hd:(x==("__debug__":Str))=false:=by decide):wpAny (model X.prog X.w) X.A (eval (.Name x pos) X.env) Q E s:=by
 obtain⟨mb,h1,h2⟩:=I.mod.blt
 exact Calls.Name_function_global I.ok.kind hg (Calls.loadGlobal_builtin (by rw[I.ok.glob];exact I.mod.glob.keeps I.bk) hm (by rw[I.ok.blt];exact h1.keeps I.bk) ((h2 x hn).trans hv) h) hd
theorem D0 {x:Str}{v:V}{u:Value}{pos:Pos}(hg:Gl X x)(hm:X.mg x=some u)(r:RelV v u)(hd:(x==("__debug__":Str))=false:=by decide):PE X (.Name x pos) (tC v):=
 λ_ _ _ H _ I h=>Ed I hg hm ⟨v,H,I,r,h⟩ hd
theorem CZ {x:Str}{v:V}{u:Value}{pos:Pos}(hg:Gl X x)(hm:X.mg x=none)(hv:bootBuiltins x=some u)(r:RelV v u)(hn:x≠"__name__":=by decide)(hd:(x==("__debug__":Str))=false:=by decide):PE X (.Name x pos) (tC v):=
 λ_ _ _ H _ I h=>CU I hg hm hv ⟨v,H,I,r,h⟩ hn hd
variable {a b:Expr}{ta tb:TE}{pos:Pos}
def tB (t:TE):TT:=λσ H Q=>t σ H λx H1=>∃c,x=.bl c/\Q c H1
theorem Bj {e:Expr}{t:TE}(h:PE X e t)(he:∀whole,isTrue e X.env whole=(do let v<-whole;standAt e.pos;holding [v] (truthy v)):=by intro _;rfl):PT X e (tB t):=by
 intro pins s σ H Q I hw
 refine isTrue_plain (BG (h pins s σ H _ I hw) λv s1 ⟨x,H1,I1,r1,q1⟩=>?_) (he _)
 obtain⟨d,rfl,q⟩:=q1
 cases r1
 exact wpAny_truthy_bool ⟨H1,I1,q⟩
variable {tA tB':TT}{rest:List Expr}
def T4 (t u:TT):TT:=λσ H Q=>t σ H λc H1=>if c=true then u σ H1 Q else Q false H1
def Uw (t u:TT):TT:=λσ H Q=>t σ H λc H1=>if c=true then Q true H1 else u σ H1 Q
def T5 (t:TT):TT:=λσ H Q=>t σ H λc H1=>Q (!c) H1
theorem Hw (ha:PT X a tA):PW X (.BoolOp .And [a] pos) tA:=by
 intro wh pins s σ H Q I h
 refine isTrue_and (BG (ha pins s σ H Q I h) λc s1 e=>?_)
 cases c with
 |true=>exact isTrue_and_nil e
 |false=>exact e
theorem DB (ha:PT X a tA):PW X (.BoolOp .Or [a] pos) tA:=by
 intro wh pins s σ H Q I h
 refine isTrue_or (BG (ha pins s σ H Q I h) λc s1 e=>?_)
 cases c with
 |false=>exact isTrue_or_nil e
 |true=>exact e
theorem KP (ha:PT X a tA)(hb:PW X (.BoolOp .And (b::rest) pos) tB'):PW X (.BoolOp .And (a::b::rest) pos) (T4 tA tB'):=by
 intro wh pins s σ H Q I h
 refine isTrue_and (BG (ha pins s σ H _ I h) λc s1 ⟨H1,I1,q1⟩=>?_)
 cases c with
 |true=>exact hb wh pins s1 σ H1 Q I1 q1
 |false=>exact⟨H1,I1,q1⟩
theorem DN (ha:PT X a tA)(hb:PW X (.BoolOp .Or (b::rest) pos) tB'):PW X (.BoolOp .Or (a::b::rest) pos) (Uw tA tB'):=by
 intro wh pins s σ H Q I h
 refine isTrue_or (BG (ha pins s σ H _ I h) λc s1 ⟨H1,I1,q1⟩=>?_)
 cases c with
 |true=>exact⟨H1,I1,q1⟩
 |false=>exact hb wh pins s1 σ H1 Q I1 q1
theorem B3 (ha:PT X a tA):PT X (.UnaryOp .Not a pos) (T5 tA):=by
 intro pins s σ H Q I h
 exact isTrue_not (ha pins s σ H (λc H1=>Q (!c) H1) I h)
def SX (ta tb:TE):TE:=λσ H Q=>ta σ H λx H1=>∃c,x=.bl c/\if c=true then tb σ H1 Q else Q (.bl false) H1
def T6 (ta tb:TE):TE:=λσ H Q=>ta σ H λx H1=>∃c,x=.bl c/\if c=true then Q (.bl true) H1 else tb σ H1 Q
def SY (ta:TE):TE:=λσ H Q=>ta σ H λx H1=>∃c,x=.bl c/\Q (.bl (!c)) H1
theorem Hx {op}{t:TE}(h:PE X a t):PE X (.BoolOp op [a] pos) t:=λpins s σ H Q I hw=>BoolOp_one (h pins s σ H Q I hw)
theorem KQ (ha:PE X a ta)(hb:PE X (.BoolOp .And (b::rest) pos) tb):PE X (.BoolOp .And (a::b::rest) pos) (SX ta tb):=by
 intro pins s σ H Q I h
 refine BoolOp_and (BG (ha pins s σ H _ I h) λv s1 ⟨x,H1,I1,r1,q1⟩=>?_)
 obtain⟨c,rfl,q1⟩:=q1
 cases r1
 refine wpAny_truthy_bool ?_
 cases c with
 |true=>exact hb pins s1 σ H1 Q I1 q1
 |false=>exact⟨.bl false,H1,I1,rfl,q1⟩
theorem Sa (ha:PE X a ta)(hb:PE X (.BoolOp .Or (b::rest) pos) tb):PE X (.BoolOp .Or (a::b::rest) pos) (T6 ta tb):=by
 intro pins s σ H Q I h
 refine BoolOp_or (BG (ha pins s σ H _ I h) λv s1 ⟨x,H1,I1,r1,q1⟩=>?_)
 obtain⟨c,rfl,q1⟩:=q1
 cases r1
 refine wpAny_truthy_bool ?_
 cases c with
 |false=>exact hb pins s1 σ H1 Q I1 q1
 |true=>exact⟨.bl true,H1,I1,rfl,q1⟩
theorem RN (ha:PE X a ta):PE X (.UnaryOp .Not a pos) (SY ta):=by
 intro pins s σ H Q I h
 refine UnaryOp_ (BG (ha pins s σ H _ I h) λv s1 ⟨x,H1,I1,r1,q1⟩=>?_)
 obtain⟨c,rfl,q1⟩:=q1
 cases r1
 exact not_of (wpAny_truthy_bool ⟨.bl (!c),H1,I1,rfl,q1⟩)
def Ux (t:TT)(ta tb:TE):TE:=λσ H Q=>t σ H λc H1=>if c=true then ta σ H1 Q else tb σ H1 Q
theorem DU {c:Expr}(hc:PT X c tA)(ha:PE X a ta)(hb:PE X b tb):PE X (.IfExp c a b pos) (Ux tA ta tb):=by
 intro pins s σ H Q I h
 refine wpAny_IfExp (BG (hc pins s σ H _ I h) λd s1 ⟨H1,I1,q1⟩=>?_)
 cases d with
 |true=>exact ha pins s1 σ H1 Q I1 q1
 |false=>exact hb pins s1 σ H1 Q I1 q1
end
end L2
namespace L2
open PySem PySem.Spec PyProof.Rows
def Am (K:PySem.W.Frag)(H:Hp)(a:Addr)(xs:List V):Prop:=
 Rd H a (.lst xs)\/
  ∃(o:Obj) (its:Array Value) (n:Nat),K.lookup a=some o/\o.cls=.type "list"/\o.dict=none/\o.data=.seq its n/\its.size<=sizeLine/\Vals xs its.toList
def Ar (K:PySem.W.Frag)(H:Hp)(a:Addr)(xs:List V):Prop:=
 Rd H a (.tup xs)\/
  ∃(o:Obj) (its:Array Value) (n:Nat),K.lookup a=some o/\o.cls=.type "tuple"/\o.data=.seq its n/\its.size<=sizeLine/\Vals xs its.toList
def T7:Value->Option V
 |.none=>some .A3
 |.bool b=>some (.bl b)
 |.int i _=>some (.int i)
 |.str x _=>some (.str x)
 |.bytes b _=>some (.byt b)
 |.float b _=>some (.flt b)
 |.ref a=>some (.ref a)
 |.type n=>some (.ty n)
 |_=>none
theorem RelV.abs {x:V}{u:Value}(r:RelV x u):T7 u=some x:=by
 cases x with
 |A3=>cases r;rfl
 |bl _=>cases r;rfl
 |int _=>obtain⟨t,rfl⟩:=r;rfl
 |str _=>obtain⟨t,rfl⟩:=r;rfl
 |byt _=>obtain⟨t,rfl⟩:=r;rfl
 |flt _=>obtain⟨t,rfl⟩:=r;rfl
 |ref _=>cases r;rfl
 |ty _=>cases r;rfl
theorem RelV.inj {x y:V}{u:Value}(r:RelV x u)(q:RelV y u):x=y:=Option.some.inj (r.abs.symm.trans q.abs)
theorem Vals.inj:∀{xs ys:List V} {us:List Value},Vals xs us->Vals ys us->xs=ys
 |_,_,_,.nil,.nil=>rfl
 |_,_,_,.cons r t,.cons r' t'=>by rw[r.inj r',Vals.inj t t']
section
variable {X:Cx}{pins:List (Addr×Obj)}{σ:St}{H:Hp}{s:Shared}{a:Addr}{xs ys:List V}
theorem Am.of {K:PySem.W.Frag}(h:H a=some (.lst xs)):Am K H a xs:=.inl (.inl h)
theorem Ar.of {K:PySem.W.Frag}(h:H a=some (.tup xs)):Ar K H a xs:=.inl (.inl h)
theorem Inv.list (I:Inv X pins σ H s)(h:Am X.K H a xs):∃its:List Value,Vals xs its/\PlainL s.heap a its.toArray/\xs.length<=sizeLine:=by
 rcases h with h|⟨o,its,n,hk,hc,hd,hs,hz,r⟩
 ·obtain⟨z,its,n,r,e⟩:=h.ok I.hok
  exact⟨its,r,⟨_,n,e,rfl,rfl,rfl⟩,z⟩
 ·refine⟨its.toList,r,⟨o,n,I.Gn a o hk,hc,hd,by simpa using hs⟩,?_⟩
  have e:=r.length
  simp only[Array.length_toList]at e
  omega
theorem Inv.tuple (I:Inv X pins σ H s)(h:Ar X.K H a xs):∃its:List Value,Vals xs its/\IsTup s.heap a its.toArray/\xs.length<=sizeLine:=by
 rcases h with h|⟨o,its,n,hk,hc,hs,hz,r⟩
 ·obtain⟨z,its,r,p⟩:=h.ok I.hok
  exact⟨its,r,p,z.1⟩
 ·refine⟨its.toList,r,⟨o,I.Gn a o hk,hc,n,by simpa using hs⟩,?_⟩
  have e:=r.length
  simp only[Array.length_toList]at e
  omega
theorem Inv.list_inj (I:Inv X pins σ H s)(h:Am X.K H a xs)(h':Am X.K H a ys):xs=ys:=by
 obtain⟨its,r,⟨o,n,e,_,_,d⟩,_⟩:=I.list h
 obtain⟨its',r',⟨o',n',e',_,_,d'⟩,_⟩:=I.list h'
 rw[e]at e';cases e'
 rw[d]at d'
 injection d' with d1 _
 have:its=its':=by simpa using congrArg Array.toList d1
 subst this
 exact r.inj r'
theorem Inv.Mb (I:Inv X pins σ H s)(h:Ar X.K H a xs)(h':Ar X.K H a ys):xs=ys:=by
 obtain⟨its,r,⟨o,e,_,n,d⟩,_⟩:=I.tuple h
 obtain⟨its',r',⟨o',e',_,n',d'⟩,_⟩:=I.tuple h'
 rw[e]at e';cases e'
 rw[d]at d'
 injection d' with d1 _
 have:its=its':=by simpa using congrArg Array.toList d1
 subst this
 exact r.inj r'
end
abbrev Cx.Gp (X:Cx)(E:Value->Shared->Prop):Cx:={ X with xe:=E }
abbrev Cx.Ft (X:Cx):Cx:=X.Gp λ_ _=>False
theorem Cx.Ok.Gp {X:Cx}(ok:X.Ok)(E:Value->Shared->Prop):(X.Gp E).Ok:=
 ⟨ok.mod,ok.kind,ok.glob,ok.blt,ok.above,ok.inj,ok.has,ok.cab,ok.hd,ok.frames,ok.stk,ok.exf,ok.bs,ok.bsz,ok.noex,ok.exfs,ok.Cz,ok.frf⟩
theorem Cx.Ok.DV {X:Cx}{E:Value->Shared->Prop}(ok:(X.Gp E).Ok):X.Ok:=
 ⟨ok.mod,ok.kind,ok.glob,ok.blt,ok.above,ok.inj,ok.has,ok.cab,ok.hd,ok.frames,ok.stk,ok.exf,ok.bs,ok.bsz,ok.noex,ok.exfs,ok.Cz,ok.frf⟩
section
variable {X:Cx}{pins:List (Addr×Obj)}{σ:St}{H:Hp}{s:Shared}{E:Value->Shared->Prop}
theorem Inv.Gp (I:Inv X pins σ H s)(E:Value->Shared->Prop):Inv (X.Gp E) pins σ H s:=⟨I.ok.Gp E,I.os,I.bare,I.base,I.loc,I.cell,I.free,I.freeC,I.pin,I.hok,I.len⟩
theorem Inv.DV (I:Inv (X.Gp E) pins σ H s):Inv X pins σ H s:=⟨I.ok.DV,I.os,I.bare,I.base,I.loc,I.cell,I.free,I.freeC,I.pin,I.hok,I.len⟩
theorem SP.DV {D:Ends}{f:Flow}{s':Shared}(h:SP (X.Gp E) pins D f s'):SP X pins D f s':=by
 cases f with
 |next=>obtain⟨σ',H',I,q⟩:=h;exact⟨σ',H',I.DV,q⟩
 |brk=>obtain⟨σ',H',I,q⟩:=h;exact⟨σ',H',I.DV,q⟩
 |cont=>obtain⟨σ',H',I,q⟩:=h;exact⟨σ',H',I.DV,q⟩
 |ret u=>obtain⟨v,σ',H',I,r,q⟩:=h;exact⟨v,σ',H',I.DV,r,q⟩
theorem Iq.Ft {st:List Stmt}{t:TS}(h:Iq X.Ft st t):Iq X st t:=λpins s σ H D I hw=>
 wpAny_mono (h pins s σ H D (I.Gp _) hw) (λ_ _ q=>q.DV) λ_ _ z=>False.elim z
end
section
variable {X:Cx}{st:Stmt}{rest:List Stmt}{t u:TS}{e:Expr}{te:TE}{pos:Pos}
def Sb:TS:=λD σ H=>D.nx σ H
def Nd (t u:TS):TS:=λD σ H=>t { D with nx:=u D } σ H
theorem Av:Iq X [] Sb:=λ_ _ σ H _ I h=>wpAny_execs_nil ⟨σ,H,I,h⟩
theorem AE (h1:PS X st t)(h2:Iq X rest u):Iq X (st::rest) (Nd t u):=by
 intro pins s σ H D I h
 refine wpAny_execs_cons (BG (h1 pins s σ H { D with nx:=u D } I h) λf s1 q=>?_)
 cases f with
 |next=>
  obtain⟨σ',H',I',q⟩:=q
  exact h2 pins s1 σ' H' D I' q
 |ret v=>exact q
 |brk=>exact q
 |cont=>exact q
theorem AL (h1:PS X st t):Iq X [st] t:=by
 intro pins s σ H D I h
 refine wpAny_execs_cons (BG (h1 pins s σ H D I h) λf s1 q=>?_)
 cases f with
 |next=>exact wpAny_execs_nil q
 |ret v=>exact q
 |brk=>exact q
 |cont=>exact q
theorem Inv.quiet {pins:List (Addr×Obj)}{σ:St}{H:Hp}{s:Shared}(I:Inv X pins σ H s):interactive X.env=false:=by simp[interactive,I.ok.kind]
def Sd (te:TE):TS:=λD σ H=>te σ H λ_ H1=>D.nx σ H1
theorem B4 (he:PE X e te)(hs:swapsWith e none pos.line X.env=pure false:=by rfl):PS X (.Expr e pos) (Sd te):=by
 intro pins s σ H D I h
 exact wpAny_Expr_any (BG (he pins s σ H _ I h) λv s1 ⟨x,H1,I1,r1,q1⟩=>⟨σ,H1,I1,q1⟩) I.quiet hs
def T8 (te:TE):TS:=λD σ H=>te σ H D.rt
theorem AV (he:PE X e te):PS X (.Return (some e) pos) (T8 te):=by
 intro pins s σ H D I h
 exact wpAny_Return_some (BG (he pins s σ H _ I h) λv s1 ⟨x,H1,I1,r1,q1⟩=>⟨x,σ,H1,I1,r1,q1⟩)
def T9 (c:TT)(t u:TS):TS:=λD σ H=>c σ H λb H1=>if b=true then t D σ H1 else u D σ H1
theorem Bk {c:Expr}{a b:List Stmt}{tc:TT}(hc:PT X c tc)(ha:Iq X a t)(hb:Iq X b u):PS X (.If c a b pos) (T9 tc t u):=by
 intro pins s σ H D I h
 refine wpAny_If (BG (hc pins s σ H _ I h) λd s1 ⟨H1,I1,q1⟩=>?_)
 cases d with
 |true=>exact ha pins s1 σ H1 D I1 q1
 |false=>exact hb pins s1 σ H1 D I1 q1
end
abbrev TG:=V->St->Hp->(St->Hp->Prop)->Prop
abbrev Qw:=List V->St->Hp->(St->Hp->Prop)->Prop
def PG (X:Cx)(target:Expr)(t:TG):Prop:=
 ∀(pins:List (Addr×Obj)) (s:Shared) (σ:St) (H:Hp) (v:V) (u:Value) (Q:St->Hp->Prop),Inv X pins σ H s->RelV v u->t v σ H Q->
  wpAny (model X.prog X.w) X.A (assign target X.env u) (λ_ s'=>∃σ' H',Inv X pins σ' H' s'/\Q σ' H') X.xe s
def Se (X:Cx)(ts:List Expr)(t:Qw):Prop:=
 ∀(pins:List (Addr×Obj)) (s:Shared) (σ:St) (H:Hp) (vs:List V) (us:List Value) (Q:St->Hp->Prop),Inv X pins σ H s->Vals vs us->t vs σ H Q->
  wpAny (model X.prog X.w) X.A (assignInOrder ((assignEach ts X.env).map (·.2)) us) (λ_ s'=>∃σ' H',Inv X pins σ' H' s'/\Q σ' H') X.xe s
abbrev RP:=V->V->V->Hp->(Hp->Prop)->Prop
def Sf (X:Cx)(t:RP):Prop:=
 ∀(pins:List (Addr×Obj)) (s:Shared) (σ:St) (H:Hp) (o i v:V) (ov iv u:Value) (Q:Hp->Prop),Inv X pins σ H s->RelV o ov->RelV i iv->RelV v u->t o i v H Q->
  wpAny (model X.prog X.w) X.A (setItem ov iv u) (λ_ s'=>∃H',Inv X pins σ H' s'/\Q H') X.xe s
section
variable {X:Cx}{pos:Pos}
def Ee (i:Nat):TG:=λv σ H Q=>Q (σ.set i (some v)) H
theorem AQ {i:Nat}{x:Str}(hN:X.N.Nodup)(hi:X.N[i]?=some x)(hx:Loc X.env.scope x)(hf:X.fn x=true\/X.env.scope.names.lookup x=some .local:=by first|exact .inl rfl|exact .inr rfl|assumption):PG X (.Name x pos) (Ee i):=by
 intro pins s σ H v u Q I r h
 exact wpAny_assign_Name (F4 I hN hi hx r (λs' I'=>⟨_,H,I',h⟩) hf)
def UA:Qw:=λvs σ H Q=>vs=[]/\Q σ H
def Sg (t:TG)(u:Qw):Qw:=λvs σ H Q=>∃v r,vs=v::r/\t v σ H λσ' H'=>u r σ' H' Q
theorem Bv:Se X [] UA:=by
 intro pins s σ H vs us Q I r h
 obtain⟨e,h⟩:=h
 subst e
 cases r
 exact assignInOrder_nil ⟨σ,H,I,h⟩
theorem Ag {e:Expr}{es:List Expr}{t:TG}{u:Qw}(h1:PG X e t)(h2:Se X es u)
 (hs:(assignEach (e::es) X.env).map (·.2)=assign e X.env::(assignEach es X.env).map (·.2):=by rfl):Se X (e::es) (Sg t u):=by
 intro pins s σ H vs us Q I r h
 obtain⟨v,vr,e1,h⟩:=h
 subst e1
 cases r with
 |cons r rr=>
  rw[hs]
  refine assignInOrder_cons (BG (h1 pins s σ H _ _ _ I r h) λ_ s1 ⟨σ1,H1,I1,q1⟩=>?_)
  exact h2 pins s1 σ1 H1 _ _ Q I1 rr q1
def Sh (K:PySem.W.Frag)(n:Nat)(t:Qw):TG:=λv σ H Q=>∃a xs,v=.ref a/\Ar K H a xs/\xs.length=n/\t xs σ H Q
theorem Ce {es:List Expr}{k:Nat}{t:Qw}{n:Nat}(hc:X.calm=true)(h:Se X es t)
 (hn:(assignEach es X.env).length=n:=by rfl)(hst:(assignEach es X.env).findIdx? (·.1)=none:=by rfl):PG X (.Tuple es k pos) (Sh X.K n t):=by
 intro pins s σ H v u Q I r hw
 obtain⟨a,xs,e1,hq,hl,hw⟩:=hw
 subst e1
 cases r
 obtain⟨its,rv,ht,hz⟩:=I.tuple hq
 refine assign_Tuple_tuple (I.ok.hd hc) ht (by simp[hn,<-hl,rv.length]) hst λh' hx=>?_
 have I1:Inv X pins σ H { s with heap:=h' }:=I.kept (t':=s.toks) λb o e=>hx b o (Nat.ne_of_lt (Heap.lt_size e)) e
 exact h pins _ σ H xs _ Q I1 (by simpa using rv) hw
def UB (to ti:TE)(t:RP):TG:=λv σ H Q=>to σ H λo H1=>ti σ H1 λi H2=>t o i v H2 λH3=>Q σ H3
theorem FF {o i:Expr}{to ti:TE}{t:RP}(ho:PE X o to)(hi:PE X i ti)(hs:Sf X t)
 (ha:∀v,assign (.Subscript o i pos) X.env v=(do
  let ov<-holding [v] (eval o X.env)
  let iv<-holding [v,ov] (eval i X.env)
  standAt pos
  holding [v,ov,iv] (setItem ov iv v)
  release [v,ov,iv] []):=by intro _;rfl):PG X (.Subscript o i pos) (UB to ti t):=by
 intro pins s σ H v u Q I r h
 rw[ha]
 refine wpAny_bind (wpAny_holding (BG (ho pins s σ H _ I h) λov s1 ⟨x,H1,I1,r1,q1⟩=>?_))
 refine wpAny_bind (wpAny_holding (BG (hi pins s1 σ H1 _ I1 q1) λiv s2 ⟨y,H2,I2,r2,q2⟩=>?_))
 refine wpAny_bind (wpAny_standAt (wpAny_bind (wpAny_holding (BG (hs pins s2 σ H2 x y v ov iv u _ I2 r1 r2 r q2) λ_ s3 ⟨H3,I3,q3⟩=>?_))))
 exact wpAny_release ⟨σ,H3,I3,q3⟩
def P4 (te:TE)(g:TG):TS:=λD σ H=>te σ H λx H1=>g x σ H1 D.nx
theorem DC {tg e:Expr}{te:TE}{g:TG}(he:PE X e te)(hg:PG X tg g)(hs:swapsWithSole [tg] e pos.line X.env=pure false:=by rfl)(hw:swappedStores [tg] e X.env=pure none:=by rfl)
 (h1:(assignEach [tg] X.env).map (·.2)=[assign tg X.env]:=by rfl):PS X (.Assign [tg] e pos) (P4 te g):=by
 intro pins s σ H D I h
 refine wpAny_Assign_stores (BG (he pins s σ H _ I h) λv s1 ⟨x,H1,I1,r1,q1⟩=>?_) hs hw
 rw[h1]
 exact BG (hg pins s1 σ H1 x v _ I1 r1 q1) λ_ s2 q=>q
theorem AN {i:Nat}{x:Str}{e:Expr}{te:TE}{pos':Pos}(hN:X.N.Nodup)(hi:X.N[i]?=some x)(hx:Loc X.env.scope x)(he:PE X e te)(hs:swapsWith e (some (.Name x pos')) pos.line X.env=pure false:=by rfl)(hf:X.fn x=true\/X.env.scope.names.lookup x=some .local:=by first|exact .inl rfl|exact .inr rfl|assumption):
 PS X (.Assign [.Name x pos'] e pos) (P4 te (Ee i)):=by
 intro pins s σ H D I h
 refine wpAny_Assign_Name (BG (he pins s σ H _ I h) λv s1 ⟨y,H1,I1,r1,q1⟩=>?_) hs
 exact F4 I1 hN hi hx r1 (λs2 I2=>⟨_,H1,I2,q1⟩) hf
end
section
variable {X:Cx}{pos:Pos}
def Nf (c:TT)(tb:TS):TS:=λD σ H=>∃W:Nat->St->Hp->Prop,(∃m,W m σ H)/\∀m σ H,W m σ H->
 c σ H λb H1=>if b=true then∃N:St->Hp->Prop,(∀σ' H',N σ' H'->∃m',m' < m/\W m' σ' H')/\tb { D with nx:=N,ct:=N,bk:=D.nx } σ H1 else D.nx σ H1
theorem F5 {c:Expr}{body:List Stmt}{tc:TT}{tb:TS}(hp:PassesOwn (model X.prog X.w) X.A X.env X.xe)(hc:PT X c tc)(hb:Iq X body tb):PS X (.While c body [] pos) (Nf tc tb):=by
 intro pins s σ H D I h
 obtain⟨W,⟨m0,w0⟩,turn⟩:=h
 refine wpAny_While (codeAny_whileLoop (λn s'=>∃σ' H',Inv X pins σ' H' s'/\W n σ' H') ?_ m0 ⟨σ,H,I,w0⟩)
 rintro n s1 ⟨σ1,H1,I1,w1⟩
 refine wpAny_passesOwn hp (BG (hc pins s1 σ1 H1 _ I1 (turn n σ1 H1 w1)) λb s2 ⟨H2,I2,q2⟩=>?_)
 cases b with
 |true=>
  obtain⟨N,hN,q2⟩:=q2
  rw[if_pos rfl]
  refine wpAny_passesOwn hp (BG (hb pins s2 σ1 H2 _ I2 q2) λf s3 q3=>?_)
  cases f with
  |next=>
   obtain⟨σ3,H3,I3,n3⟩:=q3
   obtain⟨m',hm,w3⟩:=hN σ3 H3 n3
   exact⟨m',hm,σ3,H3,I3,w3⟩
  |cont=>
   obtain⟨σ3,H3,I3,n3⟩:=q3
   obtain⟨m',hm,w3⟩:=hN σ3 H3 n3
   exact⟨m',hm,σ3,H3,I3,w3⟩
  |brk=>exact q3
  |ret v=>exact q3
 |false=>
  rw[if_neg Bool.false_ne_true]
  exact wpAny_execs_nil ⟨σ1,H2,I2,q2⟩
end
structure It where
 go:Nat->Hp->Prop
 yld:Nat->Hp->V->Hp->Prop
 stop:Nat->Hp->Prop
def Bn (X:Cx)(pins:List (Addr×Obj))(H:Hp)(b:Addr):Prop:=
 H b=none/\b≠X.env.locals/\b∉X.fs/\(b∈X.ex\/X.s₀.heap.objs.size<=b)/\(∀x c,X.env.cells.lookup x=some c->c≠b)/\∀p∈X.pn++pins,p.1≠b
theorem Inv.Fl {X:Cx}{pins:List (Addr×Obj)}{σ:St}{H H':Hp}{s:Shared}{b:Addr}(I:Inv X pins σ H s)(hb:s.heap.objs.size<=b)(hn:H' b=none):Bn X pins H' b:=by
 refine⟨hn,Nat.ne_of_gt (Nat.lt_of_lt_of_le I.lt hb),I.T3 hb,.inr (Nat.le_trans I.sz hb),λx c e z=>?_,λp hp z=>?_⟩
 ·obtain⟨v,q⟩:=I.cell x c e
  exact absurd (Nat.lt_of_lt_of_le q.lt (by rw[z];exact hb)) (Nat.lt_irrefl _)
 ·exact absurd (Nat.lt_of_lt_of_le (Heap.lt_size (I.pin p hp).1) (by rw[z];exact hb)) (Nat.lt_irrefl _)
structure Turn (P:Program)(w:World)(K:PySem.W.Frag)(tg:Expr)(J:It)(fp:List Addr)(it:Addr)(tn:Nat->Heap->Prop):Prop where
 mem:it∈fp
 obj:∀i h,tn i h->∀b∈fp,∃o,h.get? b=some o/\∀v,o.data≠.cell v
 keep:∀i h h',tn i h->(∀b∈fp,∀o,h.get? b=some o->h'.get? b=some o)->tn i h'
 item:∀(X:Cx),X.prog=P->X.w=w->X.K=K->X.calm=true->∀(i:Nat) (pins:List (Addr×Obj)) (s:Shared) (σ:St) (H:Hp) (E:Value->Shared->Prop),Inv X pins σ H s->(∀b∈fp,Bn X pins H b)->tn i s.heap->J.go i H->
  wpAny (model P w) X.A (pyNext (.ref it)) (λr s1=>∃u,r=some u/\
   wpAny (model P w) X.A (letOwnedTupleGo tg (.ref it) u) (λ_ s2=>∃x H',Inv X pins σ H' s2/\RelV x u/\J.yld i H x H'/\tn (i+1) s2.heap/\∀b∈fp,H' b=none) E s1) E s
 done:∀(X:Cx),X.prog=P->X.w=w->X.K=K->X.calm=true->∀(i:Nat) (pins:List (Addr×Obj)) (s:Shared) (σ:St) (H:Hp) (E:Value->Shared->Prop),Inv X pins σ H s->(∀b∈fp,Bn X pins H b)->tn i s.heap->J.stop i H->
  wpAny (model P w) X.A (pyNext (.ref it)) (λr s1=>r=none/\Inv X pins σ H s1) E s
 self:∀(A:Around) (i:Nat) (s:Shared) (Q:Value->Shared->Prop) (E:Value->Shared->Prop),tn i s.heap->Q (.ref it) s->wpAny (model P w) A (pyIter (.ref it)) Q E s
abbrev TI:=St->Hp->(It->Hp->Prop)->Prop
def Um (X:Cx)(pins:List (Addr×Obj))(σ:St)(tg:Expr)(R:It->Hp->Prop)(itv:Value)(s2:Shared):Prop:=
 ∃(it:Addr) (fp:List Addr) (tn:Nat->Heap->Prop) (J:It) (H':Hp),itv=.ref it/\Inv X pins σ H' s2/\Turn X.prog X.w X.K tg J fp it tn/\tn 0 s2.heap/\(∀b∈fp,Bn X pins H' b)/\R J H'
def PI (X:Cx)(tg iter:Expr)(wi:TI):Prop:=
 ∀(pins:List (Addr×Obj)) (s:Shared) (σ:St) (H:Hp) (R:It->Hp->Prop),Inv X pins σ H s->wi σ H R->
  wpAny (model X.prog X.w) X.A (eval iter X.env) (λv s1=>wpAny (model X.prog X.w) X.A (pyIter v) (Um X pins σ tg R) X.xe s1) X.xe s
theorem LZ {M:Model}{A:Around}{E:Value->Shared->Prop}{s:Shared}{tg:Expr}{it:Addr}{u:Value}{o:Obj}{n:String}{vs:Array Value}{Q:Unit->Shared->Prop}(ho:s.heap.get? it=some o)(hc:o.cls=.type n)(hd:o.data=.fields vs)
 (hn:["enumerate","zip","dict_itemiterator","dict_reverseitemiterator","odict_iterator","itertools.zip_longest","itertools.pairwise"].contains n=false)(hQ:Q () s):wpAny M A (letOwnedTupleGo tg (.ref it) u) Q E s:=by
 unfold letOwnedTupleGo
 cases tg<;>first
  |exact wpAny_pure hQ
  |(cases u<;>first
   |exact wpAny_pure hQ
   |(refine wpAny_bind (wpAny_load ho ?_)
     rw[hc,hd]
     show wpAny M A (if(["enumerate","zip","dict_itemiterator","dict_reverseitemiterator","odict_iterator","itertools.zip_longest","itertools.pairwise"].contains n&&vs[0]?==some (rawInt _))=true then _ else _) Q E s
     rw[if_neg (by intro h;rw[hn,Bool.false_and]at h;cases h)]
     exact wpAny_pure hQ))
def Qx (K:PySem.W.Frag)(a:Addr):It:=
 ⟨λi H=>∃xs x,Am K H a xs/\xs[i]?=some x,λi H x H'=>H'=H/\∀xs,Am K H a xs->xs[i]?=some x,λi H=>∃xs,Am K H a xs/\xs.length<=i⟩
def Qy (K:PySem.W.Frag)(a:Addr):It:=
 ⟨λi H=>∃xs x,Ar K H a xs/\xs[i]?=some x,λi H x H'=>H'=H/\∀xs,Ar K H a xs->xs[i]?=some x,λi H=>∃xs,Ar K H a xs/\xs.length<=i⟩
def RQ (lo:Int)(n:Nat):It:=⟨λi _=>i < n,λi H x H'=>H'=H/\x=.int (lo+i),λi _=>n<=i⟩
theorem Mc {P:Program}{w:World}{K:PySem.W.Frag}{tg:Expr}(a it:Addr):Turn P w K tg (Qx K a) [it] it (λi h=>h.IsListIter it a i) where
 mem:=by simp
 obj:=λi h st b hb=>by
  have e:b=it:=by simpa using hb
  subst e
  obtain⟨o,e,c,d⟩:=st
  exact⟨o,e,λv z=>by rw[d]at z;cases z⟩
 keep:=λi h h' st k=>st.at λo e=>k it (by simp) o e
 item:=by
  intro X hP hw hK hc i pins s σ H E I hf st hg
  subst hP hw hK
  obtain⟨xs,x,hq,hx⟩:=hg
  obtain⟨its,rv,p,hz⟩:=I.list hq
  obtain⟨u,hu,ru⟩:=rv.get hx
  obtain⟨f0,f1,f2,f3,f4,f5⟩:=hf it (by simp)
  refine wpAny_pyNext_list_item st p.isList (x:=u) (by simpa using hu) λh' st' sb=>?_
  have I1:Inv X pins σ H { s with heap:=h' }:=I.turned (t':=s.toks) (λb o hb e=>(sb.2 b hb).trans e) f0 f1 f3 f4 f5
  obtain⟨o,e,c,d⟩:=id st'
  exact⟨u,rfl,LZ (s:={ s with heap:=h' }) e c d (by decide) ⟨x,H,I1,ru,⟨rfl,λys hy=>by rw[I.list_inj hy hq];exact hx⟩,st',λb hb=>(hf b hb).1⟩⟩
 done:=by
  intro X hP hw hK hc i pins s σ H E I hf st hg
  subst hP hw hK
  obtain⟨xs,hq,hx⟩:=hg
  obtain⟨its,rv,p,hz⟩:=I.list hq
  obtain⟨f0,f1,f2,f3,f4,f5⟩:=hf it (by simp)
  have hl:=rv.length
  exact wpAny_pyNext_list_end (I.ok.hd hc) st p.isList (by simp;omega) λh' eb=>⟨rfl,I.turned (t':=s.toks) (λb o hb e=>eb b o hb e) f0 f1 f3 f4 f5⟩
 self:=λ_ _ _ _ _ st h=>wpAny_pyIter_listiter st h
theorem KR {P:Program}{w:World}{K:PySem.W.Frag}{tg:Expr}(a it:Addr):Turn P w K tg (Qy K a) [it] it (λi h=>h.IsTupleIter it a i) where
 mem:=by simp
 obj:=λi h st b hb=>by
  have e:b=it:=by simpa using hb
  subst e
  obtain⟨o,e,c,d⟩:=st
  exact⟨o,e,λv z=>by rw[d]at z;cases z⟩
 keep:=λi h h' st k=>st.at λo e=>k it (by simp) o e
 item:=by
  intro X hP hw hK hc i pins s σ H E I hf st hg
  subst hP hw hK
  obtain⟨xs,x,hq,hx⟩:=hg
  obtain⟨its,rv,p,hz⟩:=I.tuple hq
  obtain⟨u,hu,ru⟩:=rv.get hx
  obtain⟨f0,f1,f2,f3,f4,f5⟩:=hf it (by simp)
  refine wpAny_pyNext_tuple_item st (show s.heap.IsTuple a its.toArray from p) (x:=u) (by simpa using hu) λh' st' sb=>?_
  have I1:Inv X pins σ H { s with heap:=h' }:=I.turned (t':=s.toks) (λb o hb e=>(sb.2 b hb).trans e) f0 f1 f3 f4 f5
  obtain⟨o,e,c,d⟩:=id st'
  exact⟨u,rfl,LZ (s:={ s with heap:=h' }) e c d (by decide) ⟨x,H,I1,ru,⟨rfl,λys hy=>by rw[I.Mb hy hq];exact hx⟩,st',λb hb=>(hf b hb).1⟩⟩
 done:=by
  intro X hP hw hK hc i pins s σ H E I hf st hg
  subst hP hw hK
  obtain⟨xs,hq,hx⟩:=hg
  obtain⟨its,rv,p,hz⟩:=I.tuple hq
  obtain⟨f0,f1,f2,f3,f4,f5⟩:=hf it (by simp)
  have hl:=rv.length
  exact wpAny_pyNext_tuple_end (I.ok.hd hc) st (show s.heap.IsTuple a its.toArray from p) (by simp;omega) λh' eb=>⟨rfl,I.turned (t':=s.toks) (λb o hb e=>eb b o hb e) f0 f1 f3 f4 f5⟩
 self:=λ_ _ _ _ _ st h=>wpAny_pyIter_tupleiter st h
theorem KS {P:Program}{w:World}{K:PySem.W.Frag}{tg:Expr}(it:Addr)(lo:Int)(n:Nat):Turn P w K tg (RQ lo n) [it] it (λi h=>IsRangeIter h it (lo+(i:Nat)*1) ((n:Int) - (i:Nat)) 1) where
 mem:=by simp
 obj:=λi h st b hb=>by
  have e:b=it:=by simpa using hb
  subst e
  exact⟨_,st,λv z=>by
   have z':Data.fields _=Data.cell v:=z
   cases z'⟩
 keep:=λi h h' st k=>k it (by simp) _ st
 item:=by
  intro X hP hw hK hc i pins s σ H E I hf st hg
  subst hP hw hK
  obtain⟨f0,f1,f2,f3,f4,f5⟩:=hf it (by simp)
  have W:=Walks.range (prog:=X.prog) (w:=X.w) (I.ok.hd hc) it lo 1 n
  refine W.item i s _ _ hg st λv h' tk hv st' kk=>?_
  obtain⟨t,rfl⟩:=hv
  have I1:Inv X pins σ H { s with heap:=h',toks:=tk }:=I.turned (λb o hb e=>kk b o (by simpa using hb) e) f0 f1 f3 f4 f5
  refine⟨_,rfl,LZ (s:={ s with heap:=h',toks:=tk }) (n:="range_iterator") st' rfl rfl (by decide) ⟨.int (lo+i),H,I1,⟨t,?_⟩,⟨rfl,rfl⟩,st',λb hb=>(hf b hb).1⟩⟩
  rw[Int.mul_one]
 done:=by
  intro X hP hw hK hc i pins s σ H E I hf st hg
  subst hP hw hK
  obtain⟨f0,f1,f2,f3,f4,f5⟩:=hf it (by simp)
  exact wpAny_pyNext_range_end (I.ok.hd hc) st (by have:n<=i:=hg;omega) λh' eb=>⟨rfl,I.turned (t':=s.toks) (λb o hb e=>eb b o hb e) f0 f1 f3 f4 f5⟩
 self:=λ_ _ _ _ _ st h=>wpAny_pyIter_rangeiter st h
end L2
namespace L2
open PySem PySem.Spec PyProof.Rows
section
variable {X:Cx}{tg:Expr}
def Si (K:PySem.W.Frag)(tl:TE):TI:=λσ H R=>tl σ H λx H1=>∃a,x=.ref a/\(∃xs,Am K H1 a xs)/\R (Qx K a) H1
def UC (K:PySem.W.Frag)(tl:TE):TI:=λσ H R=>tl σ H λx H1=>∃a,x=.ref a/\(∃xs,Ar K H1 a xs)/\R (Qy K a) H1
theorem B5 {l:Expr}{tl:TE}(hl:PE X l tl):PI X tg l (Si X.K tl):=by
 intro pins s σ H R I h
 refine BG (hl pins s σ H _ I h) λv s1 ⟨x,H1,I1,r1,q1⟩=>?_
 obtain⟨a,e,⟨xs,hq⟩,q⟩:=q1
 subst e
 cases r1
 obtain⟨its,rv,p,hz⟩:=I1.list hq
 refine wpAny_pyIter_list p.isList ?_
 refine⟨s1.heap.objs.size,[s1.heap.objs.size],_,_,H1,rfl,I1.kept (t':=s1.toks) λb o e=>Heap.get?_push_of_some _ e,Mc a _,⟨_,Heap.get?_push_size _ rfl,rfl,rfl⟩,λb hb=>?_,q⟩
 have e:b=s1.heap.objs.size:=by simpa using hb
 subst e
 exact I1.Fl (Nat.le_refl _) (I1.hok.fresh (Nat.le_refl _))
theorem Hy {l:Expr}{tl:TE}(hl:PE X l tl):PI X tg l (UC X.K tl):=by
 intro pins s σ H R I h
 refine BG (hl pins s σ H _ I h) λv s1 ⟨x,H1,I1,r1,q1⟩=>?_
 obtain⟨a,e,⟨xs,hq⟩,q⟩:=q1
 subst e
 cases r1
 obtain⟨its,rv,p,hz⟩:=I1.tuple hq
 refine wpAny_pyIter_tuple (show s1.heap.IsTuple a its.toArray from p) ?_
 refine⟨s1.heap.objs.size,[s1.heap.objs.size],_,_,H1,rfl,I1.kept (t':=s1.toks) λb o e=>Heap.get?_push_of_some _ e,KR a _,⟨_,Heap.get?_push_size _ rfl,rfl,rfl⟩,λb hb=>?_,q⟩
 have e:b=s1.heap.objs.size:=by simpa using hb
 subst e
 exact I1.Fl (Nat.le_refl _) (I1.hok.fresh (Nat.le_refl _))
theorem Iy {pins:List (Addr×Obj)}{σ:St}{H:Hp}{s:Shared}{R:It->Hp->Prop}{E:Value->Shared->Prop}{lo hi:Int}{t u v:Tok}{tk:Nat}(I:Inv X pins σ H s)(h1:-(2 ^ 62)<=lo)(h2:lo < 2 ^ 62)(h3:-(2 ^ 62)<=hi)(h4:hi < 2 ^ 62)
 (q:R (RQ lo (hi - lo).toNat) H):wpAny (model X.prog X.w) X.A (pyIter (.ref s.heap.objs.size)) (Um X pins σ tg R) E { s with heap:=s.heap.push { cls:=.type "range",data:=.fields #[.int lo t,.int hi u,.int 1 v] },toks:=tk }:=by
 refine wpAny_pyIter_range (IsRange.new ..) (small_one h1 h2 h3 h4) ?_
 have I1:Inv X pins σ H { s with heap:=s.heap.push { cls:=.type "range",data:=.fields #[.int lo t,.int hi u,.int 1 v] },toks:=tk }:=I.kept λb o e=>Heap.get?_push_of_some _ e
 refine⟨(s.heap.push { cls:=.type "range",data:=.fields #[.int lo t,.int hi u,.int 1 v] }).objs.size,[(s.heap.push { cls:=.type "range",data:=.fields #[.int lo t,.int hi u,.int 1 v] }).objs.size],_,_,H,rfl,
  I1.kept (t':=tk) λb o e=>Heap.get?_push_of_some _ e,KS _ lo (hi - lo).toNat,?_,λb hb=>?_,q⟩
 ·have e1:lo+((0:Nat):Int)*1=lo:=by simp
  have e2:(((hi - lo).toNat:Nat):Int) - ((0:Nat):Int)=Builtin.Range.rangeSize lo hi 1:=by rw[rangeSize_one];split<;>omega
  show IsRangeIter _ _ (lo+((0:Nat):Int)*1) ((((hi - lo).toNat:Nat):Int) - ((0:Nat):Int)) 1
  rw[e1,e2]
  exact Heap.get?_push_size _ rfl
 ·have e:b=(s.heap.push { cls:=.type "range",data:=.fields #[.int lo t,.int hi u,.int 1 v] }).objs.size:=by simpa using hb
  subst e
  exact I1.Fl (Nat.le_refl _) (I1.hok.fresh (Nat.le_refl _))
def Sj (ta:TA):TI:=λσ H R=>ta σ H λvs H1=>∃j:Int,vs=[.int j]/\-(2 ^ 62)<=j/\j < 2 ^ 62/\R (RQ 0 j.toNat) H1
def Sk (ta:TA):TI:=λσ H R=>ta σ H λvs H1=>∃i j:Int,vs=[.int i,.int j]/\(-(2 ^ 62)<=i/\i < 2 ^ 62/\-(2 ^ 62)<=j/\j < 2 ^ 62)/\R (RQ i (j - i).toNat) H1
theorem B0 {a:Expr}{ta:TA}{p pos:Pos}(hg:Gl X "range")(hm:X.mg "range"=none)(ha:PA X [a] ta)(hs:starEach [a] X.env=[(false,eval a X.env)]:=by rfl):PI X tg (.Call (.Name "range" p) [a] [] pos) (Sj ta):=by
 intro pins s σ H R I h
 refine Call_ (CU I hg hm boot_range (PyProof.Rows.callWith_type1 (BG (ha pos pins s σ H _ I h) λus s1 ⟨vs,H1,I1,r1,q1⟩=>?_) hs rfl))
 obtain⟨j,e,q1,q2,q⟩:=q1
 subst e
 cases r1 with
 |cons r rr=>
  cases rr
  obtain⟨t,rfl⟩:=r
  exact call_range_1 (Iy I1 (by omega) (by omega) q1 q2 (by simpa using q))
theorem HL {a b:Expr}{ta:TA}{p pos:Pos}(hg:Gl X "range")(hm:X.mg "range"=none)(ha:PA X [a,b] ta)(hs:starEach [a,b] X.env=[(false,eval a X.env),(false,eval b X.env)]:=by rfl)(hs2:starEach [b] X.env=[(false,eval b X.env)]:=by rfl):
 PI X tg (.Call (.Name "range" p) [a,b] [] pos) (Sk ta):=by
 intro pins s σ H R I h
 refine Call_ (CU I hg hm boot_range (PyProof.Rows.callWith_type1 (BG (ha pos pins s σ H _ I h) λus s1 ⟨vs,H1,I1,r1,q1⟩=>?_) (by rw[hs,hs2]) (by rw[hs2];rfl)))
 obtain⟨i,j,e,⟨q1,q2,q3,q4⟩,q⟩:=q1
 subst e
 cases r1 with
 |cons r rr=>
  cases rr with
  |cons r' rr=>
   cases rr
   obtain⟨t,rfl⟩:=r
   obtain⟨t',rfl⟩:=r'
   exact call_range_2 (Iy I1 q1 q2 q3 q4 q)
def UD (wi:TI)(g:TG)(tb:TS):TS:=λD σ H=>wi σ H λJ H1=>∃W:Nat->Nat->St->Hp->Prop,(∃m,W 0 m σ H1)/\∀i m σ H,W i m σ H->
 (J.stop i H/\D.nx σ H)\/(J.go i H/\∃N:St->Hp->Prop,(∀σ' H',N σ' H'->∃m',m' < m/\W (i+1) m' σ' H')/\∀x H',J.yld i H x H'->g x σ H' λσ2 H2=>tb { D with nx:=N,ct:=N,bk:=D.nx } σ2 H2)
def DW (fp:List Addr)(h:Heap):List (Addr×Obj):=fp.filterMap λb=>(h.get? b).map λo=>(b,o)
theorem CD {fp:List Addr}{h:Heap}{b:Addr}{o:Obj}(hb:b∈fp)(e:h.get? b=some o):(b,o)∈DW fp h:=List.mem_filterMap.mpr ⟨b,hb,by rw[e];rfl⟩
theorem Md {fp:List Addr}{h:Heap}{p:Addr×Obj}(hp:p∈DW fp h):p.1∈fp/\h.get? p.1=some p.2:=by
 obtain⟨b,hb,e⟩:=List.mem_filterMap.mp hp
 cases q:h.get? b with
 |none=>rw[q]at e;cases e
 |some o=>
  rw[q]at e
  have e':(b,o)=p:=Option.some.inj e
  subst e'
  exact⟨hb,q⟩
theorem Inv.pinned {pins:List (Addr×Obj)}{σ:St}{H:Hp}{s:Shared}{fp:List Addr}(I:Inv X pins σ H s)(hf:∀b∈fp,Bn X pins H b)(ho:∀b∈fp,∃o,s.heap.get? b=some o/\∀v,o.data≠.cell v):Inv X (pins++DW fp s.heap) σ H s:=
 I.Fs λp hp=>(List.mem_append.mp hp).elim (λz=>I.pin p (List.mem_append_right _ z)) λz=>by
  obtain⟨hb,e⟩:=Md z
  obtain⟨f0,f1,f2,_⟩:=hf p.1 hb
  obtain⟨o,e',d⟩:=ho p.1 hb
  rw[e]at e';cases e'
  exact⟨e,f0,f1,f2,d⟩
theorem Inv.Cf {pins pl:List (Addr×Obj)}{σ:St}{H:Hp}{s:Shared}(I:Inv X (pins++pl) σ H s):Inv X pins σ H s:=I.Fs λp hp=>I.pin p (List.mem_append_right _ (List.mem_append_left _ hp))
theorem CF {iter:Expr}{body:List Stmt}{wi:TI}{g:TG}{tb:TS}{pos:Pos}(hp:PassesOwn (model X.prog X.w) X.A X.env X.xe)(hc:X.calm=true)(hi:PI X tg iter wi)(hg:PG X tg g)(hb:Iq X body tb)
 (hs:∀x,foldedSetIterable iter X.env x=pure x:=by intro _;rfl):PS X (.For tg iter body [] pos) (UD wi g tb):=by
 intro pins s σ H D I h
 refine wpAny_For (BG (hi pins s σ H _ I h) λv s1 h1=>BG h1 λitv s2 h2=>?_) hs
 obtain⟨it,fp,tn,J,H2,e,I2,T,st2,f2,W,⟨m0,w0⟩,turn⟩:=h2
 subst e
 have stat:∀{H':Hp},(∀b∈fp,H' b=none)->∀b∈fp,Bn X pins H' b:=λhn b hb=>⟨hn b hb,(f2 b hb).2⟩
 refine codeAny_forLoop_any (λn s'=>∃i σ' H',Inv X pins σ' H' s'/\tn i s'.heap/\(∀b∈fp,H' b=none)/\W i n σ' H') ?_ m0 ⟨0,σ,H2,I2,st2,λb hb=>(f2 b hb).1,w0⟩
 rintro n s3 ⟨i,σ3,H3,I3,st3,fr3,w3⟩
 rcases turn i n σ3 H3 w3 with⟨stop,qn⟩|⟨go,N,hN,step⟩
 ·refine wpAny_passesOwn hp (BG (T.done X rfl rfl rfl hc i pins s3 σ3 H3 X.xe I3 (stat fr3) st3 stop) λr s4 ⟨hr,I4⟩=>?_)
  subst hr
  exact wpAny_execs_nil ⟨σ3,H3,I4,qn⟩
 ·refine wpAny_passesOwn hp (BG (T.item X rfl rfl rfl hc i pins s3 σ3 H3 X.xe I3 (stat fr3) st3 go) λr s4 ⟨u,hr,h4⟩=>?_)
  subst hr
  refine wpAny_passesOwn hp (BG h4 λ_ s5 ⟨x,H5,I5,r5,y5,st5,fr5⟩=>?_)
  have I5':=I5.pinned (stat fr5) (T.obj _ _ st5)
  refine wpAny_passesOwn hp (BG (hg _ s5 σ3 H5 x u _ I5' r5 (step x H5 y5)) λ_ s6 ⟨σ6,H6,I6,q6⟩=>?_)
  refine wpAny_passesOwn hp (BG (hb _ s6 σ6 H6 _ I6 q6) λf s7 q7=>?_)
  have again:∀{σ7:St} {H7:Hp},Inv X (pins++DW fp s5.heap) σ7 H7 s7->N σ7 H7->∃m,m < n/\∃i σ' H',Inv X pins σ' H' s7/\tn i s7.heap/\(∀b∈fp,H' b=none)/\W i m σ' H':=λ{σ7 H7} I7 n7=>by
   obtain⟨m',hm,w7⟩:=hN σ7 H7 n7
   refine⟨m',hm,i+1,σ7,H7,I7.Cf,T.keep _ _ _ st5 λb hb o e=>(I7.pin (b,o) (List.mem_append_right _ (List.mem_append_right _ (CD hb e)))).1,λb hb=>?_,w7⟩
   obtain⟨o,e,d⟩:=T.obj _ _ st5 b hb
   exact(I7.pin (b,o) (List.mem_append_right _ (List.mem_append_right _ (CD hb e)))).2.1
  cases f with
  |next=>obtain⟨σ7,H7,I7,n7⟩:=q7;exact again I7 n7
  |cont=>obtain⟨σ7,H7,I7,n7⟩:=q7;exact again I7 n7
  |brk=>obtain⟨σ7,H7,I7,q7⟩:=q7;exact⟨σ7,H7,I7.Cf,q7⟩
  |ret v=>obtain⟨x7,σ7,H7,I7,r7,q7⟩:=q7;exact⟨x7,σ7,H7,I7.Cf,r7,q7⟩
end
theorem Ng {K:PySem.W.Frag}{a:Addr}{xs:List V}{g:TG}{tb:TS}{D:Ends}{σ:St}{H:Hp}(Pv:Nat->St->Hp->Prop)(h0:Pv 0 σ H)(hl:∀i σ H,i<=xs.length->Pv i σ H->Am K H a xs)
 (hs:∀i x σ H,xs[i]?=some x->Pv i σ H->g x σ H λσ2 H2=>tb { D with nx:=Pv (i+1),ct:=Pv (i+1),bk:=D.nx } σ2 H2)(hd:∀σ H,Pv xs.length σ H->D.nx σ H):
 ∃W:Nat->Nat->St->Hp->Prop,(∃m,W 0 m σ H)/\∀i m σ H,W i m σ H->
  ((Qx K a).stop i H/\D.nx σ H)\/((Qx K a).go i H/\∃N:St->Hp->Prop,(∀σ' H',N σ' H'->∃m',m' < m/\W (i+1) m' σ' H')/\∀x H',(Qx K a).yld i H x H'->g x σ H' λσ2 H2=>tb { D with nx:=N,ct:=N,bk:=D.nx } σ2 H2):=by
 refine⟨λi m σ H=>m=xs.length - i/\i<=xs.length/\Pv i σ H,⟨xs.length,by simp,Nat.zero_le _,h0⟩,?_⟩
 rintro i m σ H ⟨rfl,hi,p⟩
 have q:=hl i σ H hi p
 by_cases hlt:i < xs.length
 ·refine .inr ⟨⟨xs,xs[i],q,by simp[hlt]⟩,Pv (i+1),λσ' H' p'=>⟨xs.length - (i+1),by omega,rfl,hlt,p'⟩,λx H' y=>?_⟩
  obtain⟨e,y⟩:=y
  subst e
  exact hs i x σ _ (y xs q) p
 ·have e:i=xs.length:=by omega
  subst e
  exact .inl ⟨⟨xs,q,Nat.le_refl _⟩,hd σ H p⟩
theorem P5 {K:PySem.W.Frag}{a:Addr}{xs:List V}{g:TG}{tb:TS}{D:Ends}{σ:St}{H:Hp}(Pv:Nat->St->Hp->Prop)(h0:Pv 0 σ H)(hl:∀i σ H,i<=xs.length->Pv i σ H->Ar K H a xs)
 (hs:∀i x σ H,xs[i]?=some x->Pv i σ H->g x σ H λσ2 H2=>tb { D with nx:=Pv (i+1),ct:=Pv (i+1),bk:=D.nx } σ2 H2)(hd:∀σ H,Pv xs.length σ H->D.nx σ H):
 ∃W:Nat->Nat->St->Hp->Prop,(∃m,W 0 m σ H)/\∀i m σ H,W i m σ H->
  ((Qy K a).stop i H/\D.nx σ H)\/((Qy K a).go i H/\∃N:St->Hp->Prop,(∀σ' H',N σ' H'->∃m',m' < m/\W (i+1) m' σ' H')/\∀x H',(Qy K a).yld i H x H'->g x σ H' λσ2 H2=>tb { D with nx:=N,ct:=N,bk:=D.nx } σ2 H2):=by
 refine⟨λi m σ H=>m=xs.length - i/\i<=xs.length/\Pv i σ H,⟨xs.length,by simp,Nat.zero_le _,h0⟩,?_⟩
 rintro i m σ H ⟨rfl,hi,p⟩
 have q:=hl i σ H hi p
 by_cases hlt:i < xs.length
 ·refine .inr ⟨⟨xs,xs[i],q,by simp[hlt]⟩,Pv (i+1),λσ' H' p'=>⟨xs.length - (i+1),by omega,rfl,hlt,p'⟩,λx H' y=>?_⟩
  obtain⟨e,y⟩:=y
  subst e
  exact hs i x σ _ (y xs q) p
 ·have e:i=xs.length:=by omega
  subst e
  exact .inl ⟨⟨xs,q,Nat.le_refl _⟩,hd σ H p⟩
theorem C0 {lo:Int}{n:Nat}{g:TG}{tb:TS}{D:Ends}{σ:St}{H:Hp}(Pv:Nat->St->Hp->Prop)(h0:Pv 0 σ H)
 (hs:∀i σ H,i < n->Pv i σ H->g (.int (lo+i)) σ H λσ2 H2=>tb { D with nx:=Pv (i+1),ct:=Pv (i+1),bk:=D.nx } σ2 H2)(hd:∀σ H,Pv n σ H->D.nx σ H):
 ∃W:Nat->Nat->St->Hp->Prop,(∃m,W 0 m σ H)/\∀i m σ H,W i m σ H->
  ((RQ lo n).stop i H/\D.nx σ H)\/((RQ lo n).go i H/\∃N:St->Hp->Prop,(∀σ' H',N σ' H'->∃m',m' < m/\W (i+1) m' σ' H')/\∀x H',(RQ lo n).yld i H x H'->g x σ H' λσ2 H2=>tb { D with nx:=N,ct:=N,bk:=D.nx } σ2 H2):=by
 refine⟨λi m σ H=>m=n - i/\i<=n/\Pv i σ H,⟨n,by simp,Nat.zero_le _,h0⟩,?_⟩
 rintro i m σ H ⟨rfl,hi,p⟩
 by_cases hlt:i < n
 ·refine .inr ⟨hlt,Pv (i+1),λσ' H' p'=>⟨n - (i+1),by omega,rfl,hlt,p'⟩,λx H' y=>?_⟩
  obtain⟨e,y⟩:=y
  subst e y
  exact hs i σ _ hlt p
 ·have e:i=n:=by omega
  subst e
  exact .inl ⟨Nat.le_refl _,hd σ H p⟩
theorem F6 {c:TT}{tb:TS}{D:Ends}{σ:St}{H:Hp}(Pv:St->Hp->Prop)(μ:St->Hp->Nat)(h0:Pv σ H)
 (hs:∀σ H,Pv σ H->c σ H λb H1=>if b=true then tb { D with nx:=λσ' H'=>Pv σ' H'/\μ σ' H' < μ σ H,ct:=λσ' H'=>Pv σ' H'/\μ σ' H' < μ σ H,bk:=D.nx } σ H1 else D.nx σ H1)
 (mono:∀σ H Q Q',(∀b H1,Q b H1->Q' b H1)->c σ H Q->c σ H Q'):Nf c tb D σ H:=by
 refine⟨λm σ H=>m=μ σ H/\Pv σ H,⟨_,rfl,h0⟩,?_⟩
 rintro m σ H ⟨rfl,p⟩
 refine mono σ H _ _ (λb H1 q=>?_) (hs σ H p)
 cases b with
 |true=>exact⟨_,λσ' H' ⟨p',l⟩=>⟨_,l,rfl,p'⟩,q⟩
 |false=>exact q
end L2
namespace L2
open PySem PySem.Spec PyProof.Rows
abbrev R2:=V->V->Hp->VK->Prop
def DS (X:Cx)(f:Value->Value->Sem Value)(r:R2):Prop:=
 ∀(pins:List (Addr×Obj)) (s:Shared) (σ:St) (H:Hp) (x y:V) (v u:Value) (Q:VK),Inv X pins σ H s->RelV x v->RelV y u->r x y H Q->
  wpAny (model X.prog X.w) X.A (f v u) (EP X pins σ Q) X.xe s
def UE (X:Cx)(f:Value->Sem Value)(r:V->Hp->VK->Prop):Prop:=
 ∀(pins:List (Addr×Obj)) (s:Shared) (σ:St) (H:Hp) (x:V) (v:Value) (Q:VK),Inv X pins σ H s->RelV x v->r x H Q->
  wpAny (model X.prog X.w) X.A (f v) (EP X pins σ Q) X.xe s
def Bs (X:Cx)(f:Value)(r:List V->Hp->VK->Prop):Prop:=
 ∀(pins:List (Addr×Obj)) (s:Shared) (σ:St) (H:Hp) (xs:List V) (us:List Value) (Q:VK),Inv X pins σ H s->Vals xs us->r xs H Q->
  wpAny (model X.prog X.w) X.A (call f us) (EP X pins σ Q) X.xe s
def UG (X:Cx)(r:V->Hp->(Bool->Hp->Prop)->Prop):Prop:=
 ∀(pins:List (Addr×Obj)) (s:Shared) (σ:St) (H:Hp) (x:V) (v:Value) (Q:Bool->Hp->Prop),Inv X pins σ H s->RelV x v->r x H Q->
  wpAny (model X.prog X.w) X.A (truthy v) (TP X pins σ Q) X.xe s
def To (r:R2)(ta tb:TE):TE:=λσ H Q=>ta σ H λx H1=>tb σ H1 λy H2=>r x y H2 Q
def Uy (r:V->Hp->VK->Prop)(ta:TE):TE:=λσ H Q=>ta σ H λx H1=>r x H1 Q
def rI (C:Int->Int->Prop)(g:Int->Int->V):R2:=λx y H Q=>∃i j,x=.int i/\y=.int j/\C i j/\Q (g i j) H
def Qz (g:Int->Int->V):R2:=λx y H Q=>∃i j,x=.int i/\y=.int j/\Q (g i j) H
def rU (g:Int->V):V->Hp->VK->Prop:=λx H Q=>∃i,x=.int i/\Q (g i) H
section
variable {X:Cx}{a b c:Expr}{ta tb tc:TE}{pos:Pos}
theorem RS (ha:PE X a ta)(hb:PE X b tb){pins:List (Addr×Obj)}{s:Shared}{σ:St}{H:Hp}{R:V->V->Hp->Prop}(I:Inv X pins σ H s)
 (h:ta σ H λx H1=>tb σ H1 λy H2=>R x y H2){Q:Value->Shared->Prop}{f:Value->Value->Sem Value}
 (hf:∀v u s2 x y H2,Inv X pins σ H2 s2->RelV x v->RelV y u->R x y H2->wpAny (model X.prog X.w) X.A (f v u) Q X.xe s2):
 wpAny (model X.prog X.w) X.A (eval a X.env) (λv s₁=>wpAny (model X.prog X.w) X.A (eval b X.env) (λu s₂=>wpAny (model X.prog X.w) X.A (f v u) Q X.xe s₂) X.xe s₁) X.xe s:=by
 refine BG (ha pins s σ H _ I h) λv s1 ⟨x,H1,I1,r1,q1⟩=>?_
 refine BG (hb pins s1 σ H1 _ I1 q1) λu s2 ⟨y,H2,I2,r2,q2⟩=>?_
 exact hf v u s2 x y H2 I2 r1 r2 q2
theorem AS {op:Operator}{r:R2}(ho:DS X (binaryOp op) r)(ha:PE X a ta)(hb:PE X b tb):PE X (.BinOp a op b pos) (To r ta tb):=by
 intro pins s σ H Q I h
 exact wpAny_BinOp (RS ha hb I h λv u s2 x y H2 I2 rx ry q=>ho pins s2 σ H2 x y v u Q I2 rx ry q)
theorem Iz {op:UnaryOp}{r:V->Hp->VK->Prop}(ho:UE X (unaryOp op) r)(ha:PE X a ta):PE X (.UnaryOp op a pos) (Uy r ta):=by
 intro pins s σ H Q I h
 exact UnaryOp_ (BG (ha pins s σ H _ I h) λv s1 ⟨x,H1,I1,r1,q1⟩=>ho pins s1 σ H1 x v Q I1 r1 q1)
theorem Tp {f:Value->Value->Sem Value}{C:Int->Int->Prop}{g:Int->Int->Int}
 (rule:∀(i j:Int) (t u:Tok) (s:Shared) (Q:Value->Shared->Prop) (E:Value->Shared->Prop),C i j->Q (.int (g i j) s.toks) { s with toks:=s.toks+1 }->wpAny (model X.prog X.w) X.A (f (.int i t) (.int j u)) Q E s):
 DS X f (rI C λi j=>.int (g i j)):=by
 intro pins s σ H x y v u Q I rx ry h
 obtain⟨i,j,rfl,rfl,hc,q⟩:=h
 obtain⟨t,rfl⟩:=rx
 obtain⟨t',rfl⟩:=ry
 exact rule i j t t' s _ _ hc ⟨.int (g i j),H,I.tok _,⟨_,rfl⟩,q⟩
theorem Sl {f:Value->Value->Sem Value}{g:Int->Int->Int}
 (rule:∀(i j:Int) (t u:Tok) (s:Shared) (Q:Value->Shared->Prop) (E:Value->Shared->Prop),Q (.int (g i j) s.toks) { s with toks:=s.toks+1 }->wpAny (model X.prog X.w) X.A (f (.int i t) (.int j u)) Q E s):
 DS X f (Qz λi j=>.int (g i j)):=by
 intro pins s σ H x y v u Q I rx ry h
 obtain⟨i,j,rfl,rfl,q⟩:=h
 obtain⟨t,rfl⟩:=rx
 obtain⟨t',rfl⟩:=ry
 exact rule i j t t' s _ _ ⟨.int (g i j),H,I.tok _,⟨_,rfl⟩,q⟩
theorem P6 {f:Value->Value->Sem Value}{g:Int->Int->Bool}
 (rule:∀(i j:Int) (t u:Tok) (s:Shared) (Q:Value->Shared->Prop) (E:Value->Shared->Prop),Q (.bool (g i j)) s->wpAny (model X.prog X.w) X.A (f (.int i t) (.int j u)) Q E s):
 DS X f (Qz λi j=>.bl (g i j)):=by
 intro pins s σ H x y v u Q I rx ry h
 obtain⟨i,j,rfl,rfl,q⟩:=h
 obtain⟨t,rfl⟩:=rx
 obtain⟨t',rfl⟩:=ry
 exact rule i j t t' s _ _ ⟨.bl (g i j),H,I,rfl,q⟩
def UH (i j:Int):Prop:=0 < j/\j < 1073741824
def UI (i j:Int):Prop:=0<=j/\j<=1000000/\i.natAbs < 2 ^ 64
def RT (i j:Int):Prop:=(-(2 ^ 64) < i/\i < 2 ^ 64)\/(-(2 ^ 64) < j/\j < 2 ^ 64)
theorem RT.ok {i j:Int}(h:RT i j):IntMulOk i j:=by
 rcases h with⟨h1,h2⟩|⟨h1,h2⟩
 ·exact .of_left (intBits_le_64 h1 h2)
 ·exact .of_right (intBits_le_64 h1 h2)
theorem BC:DS X (binaryOp .Add) (Qz λi j=>.int (i+j)):=Sl λ_ _ _ _ _ _ _ q=>add_int q
theorem KU:DS X (binaryOp .Sub) (Qz λi j=>.int (i - j)):=Sl λ_ _ _ _ _ _ _ q=>sub_int q
theorem EN:DS X (binaryOp .Mult) (rI RT λi j=>.int (i*j)):=Tp λ_ _ _ _ _ _ _ hc q=>mul_int q hc.ok
theorem La:DS X (binaryOp .FloorDiv) (rI UH λi j=>.int (i / j)):=Tp λi j _ _ _ _ _ hc q=>by
 have h1:(0:Int) < j:=hc.1
 have h2:j < 1073741824:=hc.2
 exact floordiv_int (by omega) (by rw[Int.fdiv_eq_ediv_of_nonneg i (by omega)];exact q) (.inl (PyProof.noPylong_small (by omega)))
theorem CV:DS X (binaryOp .Mod) (rI (λ_ j=>0 < j) λi j=>.int (i % j)):=Tp λi j _ _ _ _ _ hc q=>by
 have h1:(0:Int) < j:=hc
 exact mod_int' (by omega) (by rw[Int.fmod_eq_emod_of_nonneg i (by omega)];exact q)
theorem KW:DS X (binaryOp .Pow) (rI UI λi j=>.int (i ^ j.toNat)):=Tp λ_ _ _ _ _ _ _ hc q=>pow_int_small hc.1 hc.2.1 hc.2.2 q
theorem Uz {f:Value->Sem Value}{g:Int->Int}
 (rule:∀(i:Int) (t:Tok) (s:Shared) (Q:Value->Shared->Prop) (E:Value->Shared->Prop),Q (.int (g i) s.toks) { s with toks:=s.toks+1 }->wpAny (model X.prog X.w) X.A (f (.int i t)) Q E s):
 UE X f (rU λi=>.int (g i)):=by
 intro pins s σ H x v Q I rx h
 obtain⟨i,rfl,q⟩:=h
 obtain⟨t,rfl⟩:=rx
 exact rule i t s _ _ ⟨.int (g i),H,I.tok _,⟨_,rfl⟩,q⟩
theorem F7:UE X (unaryOp .USub) (rU λi=>.int (-i)):=Uz λ_ _ _ _ _ q=>neg_int q
end
def Sm:V->V->Bool
 |.A3,.A3=>true|.A3,.int _=>true|.int _,.A3=>true|.A3,.bl _=>true|.bl _,.A3=>true|.A3,.str _=>true|.str _,.A3=>true
 |.int _,.int _=>true|.bl _,.bl _=>true|.str _,.str _=>true|.byt _,.byt _=>true
 |.int _,.str _=>true|.str _,.int _=>true|.bl _,.str _=>true|.str _,.bl _=>true
 |_,_=>false
def U0:R2:=λx y H Q=>Sm x y=true/\Q (.bl (decide (x=y))) H
def U1:R2:=λx y H Q=>Sm x y=true/\Q (.bl (!decide (x=y))) H
theorem Lb {i j:Int}:decide (V.int i=V.int j)=(i==j):=by
 rw[Bool.eq_iff_iff]
 simp
theorem Nh {i j:Bool}:decide (V.bl i=V.bl j)=(i==j):=by
 rw[Bool.eq_iff_iff]
 simp
theorem Ld {i j:Str}:decide (V.str i=V.str j)=(i==j):=by
 rw[Bool.eq_iff_iff]
 simp
theorem Le {i j:Array UInt8}:decide (V.byt i=V.byt j)=(i.toList==j.toList):=by
 rw[Bool.eq_iff_iff]
 cases i
 cases j
 simp
section
variable {X:Cx}{a b c:Expr}{ta tb tc:TE}{pos:Pos}
theorem An {pins:List (Addr×Obj)}{σ:St}{H:Hp}{s:Shared}{Q:VK}{k k':Bool}(I:Inv X pins σ H s)(q:Q (.bl k) H)(e:k=k'):EP X pins σ Q (.bool k') s:=by
 subst e
 exact⟨.bl k,H,I,rfl,q⟩
theorem Cg:DS X (compareOp .Eq) U0:=by
 intro pins s σ H x y v u Q I rx ry h
 obtain⟨hs,q⟩:=h
 cases x with
 |A3=>
  cases rx
  cases y with
  |A3=>cases ry;exact PySem.EqNone.eq_none_none (An I q (by simp))
  |bl j=>cases ry;exact PySem.EqNone.eq_none_bool (An I q (by simp))
  |int j=>obtain⟨t',rfl⟩:=ry;exact PySem.EqNone.eq_none_int (An I q (by simp))
  |str j=>obtain⟨t',rfl⟩:=ry;exact PySem.EqNone.eq_none_str (An I q (by simp))
  |_=>exact absurd (show false=true from hs) Bool.false_ne_true
 |bl i=>
  cases rx
  cases y with
  |A3=>cases ry;exact PySem.EqNone.eq_bool_none (An I q (by simp))
  |bl j=>cases ry;exact eq_bool (An I q Nh)
  |str j=>obtain⟨t',rfl⟩:=ry;exact PySem.EqMixed.eq_bool_str (An I q (by simp))
  |_=>exact absurd (show false=true from hs) Bool.false_ne_true
 |int i=>
  obtain⟨t,rfl⟩:=rx
  cases y with
  |A3=>cases ry;exact PySem.EqNone.eq_int_none (An I q (by simp))
  |int j=>obtain⟨t',rfl⟩:=ry;exact eq_int (An I q Lb)
  |str j=>obtain⟨t',rfl⟩:=ry;exact PySem.EqMixed.eq_int_str (An I q (by simp))
  |_=>exact absurd (show false=true from hs) Bool.false_ne_true
 |str i=>
  obtain⟨t,rfl⟩:=rx
  cases y with
  |A3=>cases ry;exact PySem.EqNone.eq_str_none (An I q (by simp))
  |bl j=>cases ry;exact PySem.EqMixed.eq_str_bool (An I q (by simp))
  |int j=>obtain⟨t',rfl⟩:=ry;exact PySem.EqMixed.eq_str_int (An I q (by simp))
  |str j=>obtain⟨t',rfl⟩:=ry;exact eq_str (An I q Ld)
  |_=>exact absurd (show false=true from hs) Bool.false_ne_true
 |byt i=>
  obtain⟨t,rfl⟩:=rx
  cases y with
  |byt j=>obtain⟨t',rfl⟩:=ry;exact PySem.W.eq_bytes (An I q Le)
  |_=>exact absurd (show false=true from hs) Bool.false_ne_true
 |_=>cases y<;>exact absurd (show false=true from hs) Bool.false_ne_true
theorem FZ:DS X (compareOp .NotEq) U1:=by
 intro pins s σ H x y v u Q I rx ry h
 obtain⟨hs,q⟩:=h
 cases x with
 |A3=>
  cases rx
  cases y with
  |A3=>cases ry;exact PySem.EqNone.ne_none_none (An I q (by simp))
  |bl j=>cases ry;exact PySem.EqNone.ne_none_bool (An I q (by simp))
  |int j=>obtain⟨t',rfl⟩:=ry;exact PySem.EqNone.ne_none_int (An I q (by simp))
  |str j=>obtain⟨t',rfl⟩:=ry;exact PySem.EqNone.ne_none_str (An I q (by simp))
  |_=>exact absurd (show false=true from hs) Bool.false_ne_true
 |bl i=>
  cases rx
  cases y with
  |A3=>cases ry;exact PySem.EqNone.ne_bool_none (An I q (by simp))
  |bl j=>cases ry;exact ne_bool (An I q (congrArg not Nh))
  |str j=>obtain⟨t',rfl⟩:=ry;exact PySem.EqMixed.ne_bool_str (An I q (by simp))
  |_=>exact absurd (show false=true from hs) Bool.false_ne_true
 |int i=>
  obtain⟨t,rfl⟩:=rx
  cases y with
  |A3=>cases ry;exact PySem.EqNone.ne_int_none (An I q (by simp))
  |int j=>obtain⟨t',rfl⟩:=ry;exact ne_int (An I q (congrArg not Lb))
  |str j=>obtain⟨t',rfl⟩:=ry;exact PySem.EqMixed.ne_int_str (An I q (by simp))
  |_=>exact absurd (show false=true from hs) Bool.false_ne_true
 |str i=>
  obtain⟨t,rfl⟩:=rx
  cases y with
  |A3=>cases ry;exact PySem.EqNone.ne_str_none (An I q (by simp))
  |bl j=>cases ry;exact PySem.EqMixed.ne_str_bool (An I q (by simp))
  |int j=>obtain⟨t',rfl⟩:=ry;exact PySem.EqMixed.ne_str_int (An I q (by simp))
  |str j=>obtain⟨t',rfl⟩:=ry;exact ne_str (An I q (congrArg not Ld))
  |_=>exact absurd (show false=true from hs) Bool.false_ne_true
 |byt i=>
  obtain⟨t,rfl⟩:=rx
  cases y with
  |byt j=>obtain⟨t',rfl⟩:=ry;exact PySem.W.ne_bytes (An I q (congrArg not Le))
  |_=>exact absurd (show false=true from hs) Bool.false_ne_true
 |_=>cases y<;>exact absurd (show false=true from hs) Bool.false_ne_true
theorem I0:DS X (compareOp .Lt) (Qz λi j=>.bl (decide (i < j))):=P6 λ_ _ _ _ _ _ _ q=>lt_int q
theorem Ni:DS X (compareOp .LtE) (Qz λi j=>.bl (decide (i<=j))):=P6 λ_ _ _ _ _ _ _ q=>le_int q
theorem Lf:DS X (compareOp .Gt) (Qz λi j=>.bl (decide (j < i))):=P6 λ_ _ _ _ _ _ _ q=>gt_int q
theorem Sn:DS X (compareOp .GtE) (Qz λi j=>.bl (decide (j<=i))):=P6 λ_ _ _ _ _ _ _ q=>ge_int q
theorem Me:DS X (compareOp .In) (λx y H Q=>∃i j,x=.str i/\y=.str j/\Q (.bl (!(Builtin.Str.occurrences j i 0 j.length 1).isEmpty)) H):=by
 intro pins s σ H x y v u Q I rx ry h
 obtain⟨i,j,rfl,rfl,q⟩:=h
 obtain⟨t,rfl⟩:=rx
 obtain⟨t',rfl⟩:=ry
 exact in_str (An I q rfl)
theorem KY:DS X (compareOp .Is) (λx y H Q=>y=.A3/\Q (.bl (decide (x=.A3))) H):=by
 intro pins s σ H x y v u Q I rx ry h
 obtain⟨rfl,q⟩:=h
 cases ry
 refine is_none_gen (An I q ?_)
 cases x<;>first
  |(cases rx;rfl)
  |(obtain⟨t,rfl⟩:=rx;rfl)
theorem P7:DS X (compareOp .IsNot) (λx y H Q=>y=.A3/\Q (.bl (!decide (x=.A3))) H):=by
 intro pins s σ H x y v u Q I rx ry h
 obtain⟨rfl,q⟩:=h
 cases ry
 refine isnot_none_gen (An I q ?_)
 cases x<;>first
  |(cases rx;rfl)
  |(obtain⟨t,rfl⟩:=rx;rfl)
theorem Hz:DS X (compareOp .NotIn) (λx y H Q=>∃i j,x=.str i/\y=.str j/\Q (.bl (!(!(Builtin.Str.occurrences j i 0 j.length 1).isEmpty))) H):=by
 intro pins s σ H x y v u Q I rx ry h
 obtain⟨i,j,rfl,rfl,q⟩:=h
 obtain⟨t,rfl⟩:=rx
 obtain⟨t',rfl⟩:=ry
 exact notIn_str (An I q rfl)
theorem AZ (b:Expr){op:CmpOp}(h:op≠.In:=by decide)(h2:op≠.NotIn:=by decide):behindInMarks op b=false:=by
 have e1:(op==CmpOp.In)=false:=by cases op<;>first|rfl|exact absurd rfl h
 have e2:(op==CmpOp.NotIn)=false:=by cases op<;>first|rfl|exact absurd rfl h2
 cases b<;>simp[behindInMarks,e1,e2]
theorem Bd {op:CmpOp}{r:R2}(ho:DS X (compareOp op) r)(ha:PE X a ta)(hb:PE X b tb)(hm:behindInMarks op b=false):PE X (.Compare a [op] [b] pos) (To r ta tb):=by
 intro pins s σ H Q I h
 exact wpAny_Compare1 (RS ha hb I h λv u s2 x y H2 I2 rx ry q=>ho pins s2 σ H2 x y v u Q I2 rx ry q) hm
def So (t:TE):TT:=λσ H Q=>t σ H λx H'=>∃k,x=.bl k/\Q k H'
theorem Ab {op:CmpOp}{r:R2}(ho:DS X (compareOp op) r)(ha:PE X a ta)(hb:PE X b tb)(hm:behindInMarks op b=false):PT X (.Compare a [op] [b] pos) (So (To r ta tb)):=by
 intro pins s σ H Q I h
 refine wpAny_isTrue_Compare1 (BG (ha pins s σ H _ I h) λv s1 ⟨x,H1,I1,r1,q1⟩=>BG (hb pins s1 σ H1 _ I1 q1) λu s2 ⟨y,H2,I2,r2,q2⟩=>
  BG (ho pins s2 σ H2 x y v u _ I2 r1 r2 q2) λc s3 ⟨z,H3,I3,r3,k,e,q3⟩=>?_) hm
 subst e
 cases r3
 exact wpAny_truthy_bool ⟨H3,I3,q3⟩
def RU (r r':R2)(ta tb tc:TE):TE:=λσ H Q=>ta σ H λx H1=>tb σ H1 λy H2=>r x y H2 λz H3=>∃k,z=.bl k/\
 (if k=true then tc σ H3 λw' H4=>r' y w' H4 Q else Q (.bl false) H3)
theorem Nj {op op':CmpOp}{r r':R2}(ho:DS X (compareOp op) r)(ho':DS X (compareOp op') r')(ha:PE X a ta)(hb:PE X b tb)(hc:PE X c tc)
 (hm:lastMarks [op,op'] [b,c]=false:=by with_unfolding_all rfl):PE X (.Compare a [op,op'] [b,c] pos) (RU r r' ta tb tc):=by
 intro pins s σ H Q I h
 refine Compare_chain (BG (ha pins s σ H _ I h) λv s1 ⟨x,H1,I1,r1,q1⟩=>chain_link (BG (hb pins s1 σ H1 _ I1 q1) λu s2 ⟨y,H2,I2,r2,q2⟩=>
  BG (ho pins s2 σ H2 x y v u _ I2 r1 r2 q2) λd s3 ⟨z,H3,I3,r3,k,e,q3⟩=>?_)) hm
 subst e
 cases r3
 refine wpAny_truthy_bool ?_
 cases k with
 |false=>exact ite_ff ⟨.bl false,H3,I3,rfl,q3⟩
 |true=>exact ite_tt (chain_last (BG (hc pins s3 σ H3 _ I3 q3) λw' s4 ⟨z',H4,I4,r4,q4⟩=>ho' pins s4 σ H4 y z' u w' Q I4 r2 r4 q4))
def Sq (K:PySem.W.Frag)(x:V)(H:Hp)(k:Bool):Prop:=
 match x with
 |.A3=>k=false
 |.bl b=>k=b
 |.int i=>k=(i !=0)
 |.str y=>y.length<=sizeLine/\k=((y.length:Int) !=0)
 |.byt y=>y.size<=sizeLine/\k=((y.size:Int) !=0)
 |.ref p=>(∃xs,Am K H p xs/\k=!xs.isEmpty)\/(∃xs,Ar K H p xs/\k=!xs.isEmpty)\/∃kvs,H p=some (.dK kvs)/\k=!kvs.isEmpty
 |_=>False
theorem KZ {κ:Type}{kvs:List (κ×V)}{vs:List (κ×Value)}(r:KV kvs vs):(!vs.isEmpty)=!kvs.isEmpty:=by
 cases r<;>rfl
theorem F8 {xs:List V}{its:List Value}(r:Vals xs its):(!its.toArray.isEmpty)=!xs.isEmpty:=by
 cases r<;>simp
theorem EO:(sizeLine:Nat) < 2 ^ 63:=by rw[sizeLine_eq];decide
theorem RV:UG X (λx H Q=>∃k,Sq X.K x H k/\Q k H):=by
 intro pins s σ H x v Q I rx h
 obtain⟨k,e,q⟩:=h
 have hl:=EO
 have hs:sizeLine=16777216:=sizeLine_eq
 cases x with
 |A3=>
  cases rx
  have e':k=false:=e
  subst e'
  exact truthy_none ⟨H,I,q⟩
 |bl b=>
  cases rx
  have e':k=b:=e
  subst e'
  exact wpAny_truthy_bool ⟨H,I,q⟩
 |int i=>
  obtain⟨t,rfl⟩:=rx
  have e':k=(i !=0):=e
  subst e'
  exact PySem.P.truthy_int ⟨H,I,q⟩
 |str y=>
  obtain⟨t,rfl⟩:=rx
  obtain⟨hy,e'⟩:y.length<=sizeLine/\k=((y.length:Int) !=0):=e
  subst e'
  exact PySem.P.truthy_str (by omega) ⟨H,I.tok _,q⟩
 |byt y=>
  obtain⟨t,rfl⟩:=rx
  obtain⟨hy,e'⟩:y.size<=sizeLine/\k=((y.size:Int) !=0):=e
  subst e'
  exact PySem.W.truthy_bytes (by omega) ⟨H,I.tok _,q⟩
 |ref p=>
  cases rx
  have e':(∃xs,Am X.K H p xs/\k=!xs.isEmpty)\/(∃xs,Ar X.K H p xs/\k=!xs.isEmpty)\/∃kvs,H p=some (.dK kvs)/\k=!kvs.isEmpty:=e
  rcases e' with⟨xs,hx,e'⟩|⟨xs,hx,e'⟩|⟨kvs,hx,e'⟩
  ·subst e'
   obtain⟨its,r,pl,hz⟩:=I.list hx
   have hlen:=r.length
   exact wpAny_truthy_list pl.isList (by simp only[List.size_toArray];omega) ⟨H,I.tok _,by rw[F8 r];exact q⟩
  ·subst e'
   obtain⟨its,r,pl,hz⟩:=I.tuple hx
   have hlen:=r.length
   exact truthy_tuple pl (by simp only[List.size_toArray];omega) ⟨H,I.tok _,by rw[F8 r];exact q⟩
  ·subst e'
   obtain⟨hz,hS,vs,r,m⟩:kvs.length<=sizeLine/\(p==sysModules)=false/\∃vs,KV kvs vs/\s.heap.DictOf (BO X.prog X.w) p vs:=I.hok p _ hx
   have hlen:kvs.length=vs.length:=Paired.length r
   exact wpAny_truthy_dict hS m (by omega) ⟨H,I.tok _,by rw[KZ r];exact q⟩
 |_=>exact(show False from e).elim
theorem Nk (ha:PE X a ta)(he:∀whole,isTrue a X.env whole=(do let v<-whole;standAt a.pos;holding [v] (truthy v))):
 PT X a (λσ H Q=>ta σ H λx H'=>∃k,Sq X.K x H' k/\Q k H'):=by
 intro pins s σ H Q I h
 exact isTrue_plain (BG (ha pins s σ H _ I h) λv s1 ⟨x,H1,I1,r1,q1⟩=>RV pins s1 σ H1 x v Q I1 r1 q1) (he _)
theorem BU:DS X (binaryOp .Add) (λx y H Q=>∃i j,x=.str i/\y=.str j/\i.length+j.length<=sizeLine/\Q (.str (i++j)) H):=by
 intro pins s σ H x y v u Q I rx ry h
 obtain⟨i,j,rfl,rfl,hz,q⟩:=h
 obtain⟨t,rfl⟩:=rx
 obtain⟨t',rfl⟩:=ry
 exact add_str (λt' tk=>⟨.str (i++j),H,I.tok _,⟨_,rfl⟩,q⟩) hz
theorem vals1 {x:V}{us:List Value}(r:Vals [x] us):∃u,us=[u]/\RelV x u:=by
 cases r with
 |cons r1 r2=>cases r2;exact⟨_,rfl,r1⟩
theorem vals2 {x y:V}{us:List Value}(r:Vals [x,y] us):∃u w',us=[u,w']/\RelV x u/\RelV y w':=by
 cases r with
 |cons r1 r2=>
  cases r2 with
  |cons r3 r4=>cases r4;exact⟨_,_,rfl,r1,r3⟩
theorem FG (hc:X.calm=true):Bs X (.builtin "max") (λxs H Q=>∃i j,xs=[.int i,.int j]/\Q (.int (if j > i then j else i)) H):=by
 intro pins s σ H xs us Q I r h
 obtain⟨i,j,rfl,q⟩:=h
 obtain⟨u,w',rfl,⟨t,rfl⟩,⟨t',rfl⟩⟩:=vals2 r
 refine max_two_ints (I.ok.hd hc) λh' tk k=>⟨_,H,I.kept k,?_,q⟩
 by_cases hj:j > i
 ·rw[if_pos hj,if_pos hj];exact⟨_,rfl⟩
 ·rw[if_neg hj,if_neg hj];exact⟨_,rfl⟩
theorem Mf (hc:X.calm=true):Bs X (.builtin "min") (λxs H Q=>∃i j,xs=[.int i,.int j]/\Q (.int (if j < i then j else i)) H):=by
 intro pins s σ H xs us Q I r h
 obtain⟨i,j,rfl,q⟩:=h
 obtain⟨u,w',rfl,⟨t,rfl⟩,⟨t',rfl⟩⟩:=vals2 r
 refine min_two_ints (I.ok.hd hc) λh' tk k=>⟨_,H,I.kept k,?_,q⟩
 by_cases hj:j < i
 ·rw[if_pos hj,if_pos hj];exact⟨_,rfl⟩
 ·rw[if_neg hj,if_neg hj];exact⟨_,rfl⟩
theorem CG:Bs X (.type "int") (λxs H Q=>(∃i,xs=[.int i]/\Q (.int i) H)\/∃k,xs=[.bl k]/\Q (.int (if k then 1 else 0)) H):=by
 intro pins s σ H xs us Q I r h
 rcases h with⟨i,rfl,q⟩|⟨k,rfl,q⟩
 ·obtain⟨u,rfl,t,rfl⟩:=vals1 r
  exact call_int_int ⟨.int i,H,I,⟨_,rfl⟩,q⟩
 ·obtain⟨u,rfl,r1⟩:=vals1 r
  cases r1
  exact call_int_bool ⟨.int (if k then 1 else 0),H,I.tok _,⟨_,rfl⟩,q⟩
end
end L2
namespace L2
open PySem PySem.Spec PyProof.Rows
structure RW (h:Heap)(x dx C:Addr)(mA:Str->Option Value):Prop where
 obj:h.get? x=some (PySem.W.instObj C dx)
 ns:h.Ns1 dx mA
 ne:dx≠x
theorem Mg {h:Heap}{dx:Addr}{mA:Str->Option Value}(n:h.Ns1 dx mA):∃od,h.get? dx=some od/\∀name,PySem.W.lookIn name od=some (mA name):=by
 obtain⟨o,es,ep,ho,hd,hk,_,hm⟩:=n
 refine⟨o,ho,λname=>?_⟩
 have e:=hm name
 unfold nsFind findBy at e
 rw[<-Array.find?_toList]at e
 unfold PySem.W.lookIn
 rw[hd]
 dsimp only
 split
 ·rename_i y q
  rw[q]at e
  exact congrArg some e
 ·rename_i q
  rw[q]at e
  have a:es.toList.any (·.refKey)=false:=by
   rw[List.any_eq_false]
   intro y hy
   obtain⟨z,t,hkey⟩:=hk y (Array.mem_toList_iff.mp hy)
   simp[DictEntry.refKey,hkey]
  have a':¬es.toList.any (·.refKey)=true:=by rw[a];exact Bool.false_ne_true
  rw[if_neg a']
  exact congrArg some e
theorem RW.look {h:Heap}{x dx C:Addr}{mA:Str->Option Value}(I:RW h x dx C mA):∃od,PySem.W.InstAt h x (PySem.W.instObj C dx) C (some od)/\∀name,PySem.W.lookIn name od=some (mA name):=
 let⟨od,ho,hl⟩:=Mg I.ns
 ⟨od,⟨I.obj,rfl,rfl,ho⟩,hl⟩
section
variable {prog:Program}{w:World}{A:Around}{E:Value->Shared->Prop}{s:Shared}{K:PySem.W.Frag}{x dx C f:Addr}{mA:Str->Option Value}{name:Str}{v:Value}
end
section
variable {P:Program}{w:World}{H H':Hp}{h h':Heap}{a C dx:Addr}{fs fs':List (Str×V)}
theorem P8 (hok:DQ P w H h)(e:H a=some (.ins C dx fs)):∃mA,RW h a dx C mA/\(∀f,Hv (fs.lookup f) (mA f))/\PySem.Within mA (fs.map (·.1))/\fs.length<=1000/\H dx=some (.own a):=by
 obtain⟨d,z,ne,ob,mA,n,r,q⟩:=(show A2 P w H h a (.ins C dx fs)from hok a _ e)
 exact⟨mA,⟨ob,n,ne⟩,r,q,z,d⟩
end
structure UJ (K:PySem.W.Frag)(C:Addr):Prop where
 pg:PySem.W.plainGet K C Str.empty=true
 hd:PySem.W.hasDictIn K C=true
 po:PySem.W.plainOver K C=true
 sa:PySem.W.findIn K (.ref C) "__setattr__"=some (some (.builtin "object.__setattr__"))
theorem UJ.get {K:PySem.W.Frag}{C:Addr}(c:UJ K C)(f:Str):PySem.W.plainGet K C f=true:=c.pg
section
variable {X:Cx}{pins:List (Addr×Obj)}{σ:St}{H:Hp}{s:Shared}{a C dx:Addr}{fs:List (Str×V)}{f:Str}{v:V}{A:Around}{E:Value->Shared->Prop}
end
section
variable {X:Cx}{o e value:Expr}{f:Str}{pos pos' tpos:Pos}{ta tv:TE}
end
section
variable {X:Cx}{pins:List (Addr×Obj)}{σ:St}{H:Hp}{s:Shared}{A:Around}{E:Value->Shared->Prop}{Q:Value->Shared->Prop}{c:Value}{b:Bool}
inductive DX (K:PySem.W.Frag)(H:Hp):V->Value->Prop where
 |A3:DX K H .A3 (.type "NoneType")
 |bl (x:Bool):DX K H (.bl x) (.type "bool")
 |int (i:Int):DX K H (.int i) (.type "int")
 |str (x:Str):DX K H (.str x) (.type "str")
 |flt (x:UInt64):DX K H (.flt x) (.type "float")
 |lst {a:Addr} {xs:List V} (e:H a=some (.lst xs)):DX K H (.ref a) (.type "list")
 |frz {a:Addr} {o:Obj} {xs:List V} (e:H a=some (.frz o (.lst xs))):DX K H (.ref a) (.type "list")
 |tup {a:Addr} {xs:List V} (e:H a=some (.tup xs)):DX K H (.ref a) (.type "tuple")
 |dK {a:Addr} {kvs:List (Key×V)} (e:H a=some (.dK kvs)):DX K H (.ref a) (.type "dict")
 |dT {a:Addr} {kvs:List (List Key×V)} (e:H a=some (.dT kvs)):DX K H (.ref a) (.type "dict")
 |ins {a C dx:Addr} {fs:List (Str×V)} (e:H a=some (.ins C dx fs)) (cl:UJ K C) (ha:PySem.W.findIn K (.ref C) "__class__"=some (some (.builtin "object.__class__")))
  (hn:PySem.W.specialIn K (.builtin "object.__class__") "__get__"=some (some (.builtin "getset_descriptor.__get__"))) (htk:PySem.W.takesIn K (.builtin "object.__class__")=some true)
  (hm:PySem.W.mroIn K C (.type "object")=some true):DX K H (.ref a) (.ref C)
theorem Mh {x:V}{u t:Value}(I:Inv X pins σ H s)(rx:RelV x u)(ty:DX X.K H x t)(e:PySem.W.kitOne X.K t c=some b)(h:∀tk,Q (.bool b) { s with toks:=tk }):
 wpAny (model X.prog X.w) A (call (.builtin "isinstance") [u,c]) Q E s:=by
 cases ty with
 |A3=>cases(show u=Value.none from rx);exact PySem.W.kia_one PySem.W.kitx_none I.Gn True.intro e (λz=>nomatch z) h
 |bl y=>cases(show u=Value.bool y from rx);exact PySem.W.kia_one PySem.W.kitx_bool I.Gn True.intro e (λz=>nomatch z) h
 |int i=>obtain⟨t,q⟩:=(show∃t,u=Value.int i t from rx);cases q;exact PySem.W.kia_one PySem.W.kitx_int I.Gn True.intro e (λz=>nomatch z) h
 |str y=>obtain⟨t,q⟩:=(show∃t,u=Value.str y t from rx);cases q;exact PySem.W.kia_one PySem.W.kitx_str I.Gn True.intro e (λz=>nomatch z) h
 |flt y=>obtain⟨t,q⟩:=(show∃t,u=Value.float y t from rx);cases q;exact PySem.W.kia_one PySem.W.kitx_float I.Gn True.intro e (λz=>nomatch z) h
 |@lst a xs ea=>
  cases(show u=Value.ref a from rx)
  obtain⟨_,_,n,_,h1⟩:=(show A2 X.prog X.w H s.heap a (.lst xs)from I.hok a _ ea)
  exact PySem.W.kia_one PySem.W.kitx_list I.Gn ⟨_,h1,rfl⟩ e (λz=>nomatch z) h
 |@frz a ob xs ea=>
  cases(show u=Value.ref a from rx)
  obtain⟨_,_,_,n,_,h1⟩:=(show A2 X.prog X.w H s.heap a (.frz ob (.lst xs))from I.hok a _ ea)
  exact PySem.W.kia_one PySem.W.kitx_list I.Gn ⟨_,h1,rfl⟩ e (λz=>nomatch z) h
 |@tup a xs ea=>
  cases(show u=Value.ref a from rx)
  obtain⟨_,_,_,p⟩:=(show A2 X.prog X.w H s.heap a (.tup xs)from I.hok a _ ea)
  obtain⟨o,h1,h2,_⟩:=p
  exact PySem.W.kia_one PySem.W.kitx_tuple I.Gn ⟨o,h1,h2⟩ e (λz=>nomatch z) h
 |@dK a kvs ea=>
  cases(show u=Value.ref a from rx)
  obtain⟨_,_,vs,_,p⟩:=(show A2 X.prog X.w H s.heap a (.dK kvs)from I.hok a _ ea)
  obtain⟨o,es,ep,h1,h2,_⟩:=p
  exact PySem.W.kia_one PySem.W.kitx_dict I.Gn ⟨o,h1,h2.1⟩ e (λz=>nomatch z) h
 |@dT a kvs ea=>
  cases(show u=Value.ref a from rx)
  obtain⟨_,_,xs,_,o,es,ep,h1,h2,_⟩:=(show A2 X.prog X.w H s.heap a (.dT kvs)from I.hok a _ ea)
  exact PySem.W.kia_one PySem.W.kitx_dict I.Gn ⟨o,h1,h2.1⟩ e (λz=>nomatch z) h
 |@ins a C dx fs ea cl ha hn htk hm=>
  cases(show u=Value.ref a from rx)
  obtain⟨mA,O,_⟩:=P8 I.hok ea
  obtain⟨od,J,_⟩:=O.look
  exact PySem.W.kia_one (PySem.W.kitx_own (cl.get _) cl.hd ha hn htk hm) I.Gn J e (λz=>nomatch z) h
end
end L2
namespace L2
open PySem PySem.Spec PyProof.Rows
structure B6 (k:Nat)(A:Around):Prop where
 hd:A.handled=none
 dp:A.depth+3*k+5 < recursionLimit
 un:A.units+16*k+200 < cLine
 gd:A.guards=some []
theorem B6.mono {j k:Nat}{A:Around}(r:B6 k A)(h:j<=k):B6 j A:=⟨r.hd,by have:=r.dp;omega,by have:=r.un;omega,by first|exact r.gd|(simpa[Around.under,Code.isGuard,guardIds]using r.gd)⟩
theorem B6.deeper {k:Nat}{A:Around}(r:B6 (k+1) A)(env:Env):B6 k (A.deeper env):=
 ⟨r.hd,by have:=r.dp;show A.depth+1+3*k+5 < _;omega,by have:=r.un;show A.units+3+16*k+200 < _;omega,by first|exact r.gd|(simpa[Around.under,Code.isGuard,guardIds]using r.gd)⟩
theorem B6.depth {k:Nat}{A:Around}(r:B6 k A):A.depth < recursionLimit:=by have:=r.dp;omega
theorem B6.units {k:Nat}{A:Around}(r:B6 k A):A.units+64 < cLine:=by have:=r.un;omega
theorem B6.IA {k:Nat}{A:Around}(r:B6 k A):A.units < cLine:=by have:=r.un;omega
def Sr:TA:=λ_ H Q=>Q [] H
def Q0 (ta:TE)(tr:TA):TA:=λσ H Q=>ta σ H λx H1=>tr σ H1 λxs H2=>Q (x::xs) H2
section
variable {X:Cx}{e:Expr}{es:List Expr}{te:TE}{t:TA}{pos:Pos}
theorem AD:PA X [] Sr:=λ_ _ _ _ H Q I h=>Calls.spliced_nil ⟨[],H,I,.nil,h⟩
theorem AA (ha:PE X e te)(hr:PA X es t)(hs:starEach (e::es) X.env=(false,eval e X.env)::starEach es X.env:=by rfl):PA X (e::es) (Q0 te t):=by
 intro pos pins s σ H Q I h
 rw[hs]
 show wpAny _ _ (spliced ((false,eval e X.env)::backTo pos (starEach es X.env))) _ _ s
 refine Calls.spliced_cons (BG (ha pins s σ H _ I h) λu s1 ⟨x,H1,I1,r1,q1⟩=>?_)
 exact BG (hr pos pins s1 σ H1 _ I1 q1) λus s2 ⟨xs,H2,I2,r2,q2⟩=>⟨x::xs,H2,I2,.cons r1 r2,q2⟩
def UK (t:TA):TE:=λσ H Q=>t σ H λxs H1=>xs.length<=sizeLine/\∀p,H1 p=none->Q (.ref p) (upd H1 p (.tup xs))
def UL (t:TA):TE:=λσ H Q=>t σ H λxs H1=>xs.length<=sizeLine/\∀p,H1 p=none->Q (.ref p) (upd H1 p (.lst xs))
theorem Ak {x1}(h:PA X es t):PE X (.Tuple es x1 pos) (UK t):=by
 intro pins s σ H Q I hq
 refine wpAny_Tuple_spliced (BG (h pos pins s σ H _ I hq) λus s1 ⟨xs,H1,I1,r,z,q⟩=>⟨by rw[<-r.length];exact z,?_⟩)
 have hf:H1 s1.heap.objs.size=none:=I1.hok.fresh (Nat.le_refl _)
 refine⟨.ref s1.heap.objs.size,upd H1 s1.heap.objs.size (.tup xs),I1.laid (t':=s1.toks) (λb u e=>Heap.get?_push_of_some _ e) (Nat.le_refl _) ?_,rfl,q _ hf⟩
 exact⟨⟨z,_,Heap.get?_push_size _ rfl,rfl⟩,us,r,⟨_,Heap.get?_push_size _ rfl,rfl,_,rfl⟩⟩
theorem Ai (h:PA X es t):PE X (.List es pos) (UL t):=by
 intro pins s σ H Q I hq
 refine wpAny_List_spliced (BG (h pos pins s σ H _ I hq) λus s1 ⟨xs,H1,I1,r,z,q⟩=>⟨by rw[<-r.length];exact z,?_⟩)
 have hf:H1 s1.heap.objs.size=none:=I1.hok.fresh (Nat.le_refl _)
 refine⟨.ref s1.heap.objs.size,upd H1 s1.heap.objs.size (.lst xs),I1.laid (t':=s1.toks) (λb u e=>Heap.get?_push_of_some _ e) (Nat.le_refl _) ?_,rfl,q _ hf⟩
 exact⟨z,us,0,r,Heap.get?_push_size _ rfl⟩
end
abbrev Sp:=List V->Hp->VK->XK->Prop
abbrev Lg:=List Env->Hp->Shared->XK->Value->Shared->Prop
structure P9 (P:Program)(w:World)(K:PySem.W.Frag)(mg:Str->Option Value)(base:Heap)(A:Around)(outer:List Env)(s:Shared)(H:Hp):Prop where
 frames:A.frames=some outer
 mod:Mod K mg base
 bs:∀b o,base.get? b=some o->s.heap.get? b=some o/\H b=none
 bsz:base.objs.size<=s.heap.objs.size
 Cz:s.heap.FunFrames base outer
 frf:∀b∈ED outer,H b=none
 hok:DQ P w H s.heap
 bare:AllBare s.gens
def CE (outer:List Env)(P:Program)(w:World)(H:Hp)(s:Shared)(Q:VK)(u:Value)(s':Shared):Prop:=
 ∃v H',s'.os=s.os/\AllBare s'.gens/\Un (ED outer) [] H H' s.heap s'.heap/\DQ P w H' s'.heap/\RelV v u/\Q v H'
def CR (CX:Lg)(outer:List Env)(P:Program)(w:World)(H:Hp)(s:Shared)(Q:VK)(E:XK)(r:Result)(s':Shared):Prop:=
 match r with
 |.ok (.ret u)=>CE outer P w H s Q u s'
 |.ok _=>False
 |.error e=>CX outer H s E e s'
structure Ef (P:Program)(w:World)(K:PySem.W.Frag)(mg:Str->Option Value)(base:Heap)(CX:Lg)(k:Nat)(f:Addr)(fd:FuncData)(ps:List Str)(sp:Sp):Prop where
 len:∀vs H Q E,sp vs H Q E->vs.length=ps.length
 run:∀(A:Around) (outer:List Env) (s:Shared) (H:Hp) (args:Args) (us:List Value) (vs:List V) (Q:VK) (E:XK),B6 k A->P9 P w K mg base A outer s H->BindsTo s fd args (ps.zip us)->Vals vs us->sp vs H Q E->
  codeAny (model P w) A (.call (.ref f) args) (CR CX outer P w H s Q E) s
theorem Ef.mono {P:Program}{w:World}{K:PySem.W.Frag}{mg:Str->Option Value}{base:Heap}{CX:Lg}{j k:Nat}{f:Addr}{fd:FuncData}{ps:List Str}{sp:Sp}(F:Ef P w K mg base CX j f fd ps sp)(h:j<=k):
 Ef P w K mg base CX k f fd ps sp:=⟨F.len,λA outer s H args us vs Q E hr=>F.run A outer s H args us vs Q E (hr.mono h)⟩
section
variable {X:Cx}{pins:List (Addr×Obj)}{σ:St}{H:Hp}{s s':Shared}
theorem Inv.Nl (I:Inv X pins σ H s):P9 X.prog X.w X.K X.mg X.base X.A X.stack s H:=
 ⟨I.ok.frames,I.ok.mod,I.bs,Nat.le_trans I.ok.bsz I.sz,I.stack,I.LY,I.hok,I.bare⟩
theorem Inv.after {Q:VK}{u:Value}(I:Inv X pins σ H s)(h:CE X.stack X.prog X.w H s Q u s'):EP X pins σ Q u s':=by
 obtain⟨v,H',os,bare,un,hok,r,q⟩:=h
 obtain⟨hh,g,d,t,os'⟩:=s'
 obtain rfl:os'=s.os:=os
 exact⟨v,H',I.call (h':=hh) (g':=g) (d':=d) (t':=t) (ch:=[]) un hok bare (λb z=>absurd z (by simp)),r,q⟩
end
def Nm (sp:Sp)(dvs:List V)(E:XK)(t:TA):TE:=λσ H Q=>t σ H λvs H1=>sp (vs++dvs) H1 Q E
def Binds (K:PySem.W.Frag)(fd:FuncData)(ps:List Str)(ds:List Value):Prop:=
 ∀(s:Shared) (us:List Value),K.In s.heap->(us++ds).length=ps.length->BindsTo s fd ⟨us,[]⟩ (ps.zip (us++ds))
theorem Binds.all {K:PySem.W.Frag}{fd:FuncData}{ps:List Str}(h:∀us:List Value,us.length=ps.length->bindArgs fd ⟨us,[]⟩=pure (ps.zip us)):Binds K fd ps []:=λs us _ hl=>by
 rw[List.append_nil]at hl ⊢
 exact .of_eq (h us hl)
def Passes (CX:Lg)(X:Cx)(E:XK):Prop:=∀(pins:List (Addr×Obj)) (σ:St) (H:Hp) (s:Shared) (e:Value) (s':Shared),Inv X pins σ H s->CX X.stack H s E e s'->X.xe e s'
section
variable {X:Cx}{CX:Lg}{k:Nat}{f C:Addr}{fd:FuncData}{ps:List Str}{sp:Sp}{dvs:List V}{ds:List Value}{E:XK}{x m:Str}{p pos apos:Pos}{e o:Expr}{es:List Expr}{ta:TE}{t:TA}
theorem RX {pins:List (Addr×Obj)}{σ:St}{H:Hp}{s:Shared}{Q:VK}{us:List Value}{vs:List V}(F:Ef X.prog X.w X.K X.mg X.base CX k f fd ps sp)(hr:B6 k X.A)(hb:Binds X.K fd ps ds)(hd:Vals dvs ds)(hx:Passes CX X E)
 (I:Inv X pins σ H s)(r:Vals vs us)(h:sp (vs++dvs) H Q E):wpAny (model X.prog X.w) X.A (call (.ref f) us) (EP X pins σ Q) X.xe s:=by
 have r2:Vals (vs++dvs) (us++ds):=r.append hd
 have hl:(us++ds).length=ps.length:=by rw[<-r2.length];exact F.len _ _ _ _ h
 refine wpAny_call (codeAny_mono (F.run X.A X.stack s H ⟨us,[]⟩ (us++ds) (vs++dvs) Q E hr I.Nl (hb s us I.Gn hl) r2 h) λr s' hq=>?_)
 cases r with
 |error e=>exact hx pins σ H s e s' I hq
 |ok fl=>
  cases fl with
  |ret u=>exact I.after hq
  |next=>exact False.elim hq
  |brk=>exact False.elim hq
  |cont=>exact False.elim hq
theorem QA (F:Ef X.prog X.w X.K X.mg X.base CX k f fd ps sp)(hr:B6 k X.A)(hg:Gl X x)(hm:X.mg x=some (.ref f))(hk:PySem.W.keepIn X.K (.ref f)=true)(hb:Binds X.K fd ps ds)(hd:Vals dvs ds)(hx:Passes CX X E)
 (ha:PA X (e::es) t)(hdb:(x==("__debug__":Str))=false:=by decide)(he:starEach (e::es) X.env=(false,eval e X.env)::starEach es X.env:=by rfl)(hpl:(backTo pos (starEach es X.env)).any (·.1)=false:=by rfl):
 PE X (.Call (.Name x p) (e::es) [] pos) (Nm sp dvs E t):=by
 intro pins s σ H Q I h
 refine wpAny_Call_Name_kw (Ed I hg hm ?_ hdb)
 refine PySem.W.callWith_K (h₀:=X.base) I.ok.mod.kin hk (BG (ha pos pins s σ H _ I h) λus s1 ⟨vs,H1,I1,r,q⟩=>⟨I1.Gn,?_⟩) he hpl
 exact RX F hr hb hd hx I1 r q
end
section
variable {X:Cx}{CX:Lg}{k:Nat}{f C:Addr}{fd:FuncData}{ps ks:List Str}{sp:Sp}{E:XK}{x m:Str}{p pos apos kpos:Pos}{e o:Expr}{es:List Expr}{kws:List Keyword}{te ta:TE}{t tk:TA}{nm:Option Str}
variable {g:List Value->List Value->List Value}{gV:List V->List V->List V}
end
structure AW (N P:List Str)(sc:Scope):Prop where
 kind:sc.kind=.function
 co:sc.isCoroutine=false
 gen:sc.isGenerator=false
 nd:N.Nodup
 pre:N.take P.length=P
 par:∀x∈P,sc.names.lookup x=some .local\/sc.names.lookup x=some .cell
 nofree:∀y∈sc.names,y.2≠.free
theorem HM {kindOf:Str->Option NameKind}{x:Str}:∀{binds:List (Str×Value)} {m:Str->Option Value},(∀v,(x,v)∉binds)->bindL kindOf binds m x=m x
 |[],_,_=>rfl
 |(n,v)::r,m,h=>by
  unfold bindL
  rw[HM λw hw=>h w (List.mem_cons_of_mem _ hw)]
  split
  ·have:x≠n:=by rintro rfl;exact h v List.mem_cons_self
   simp[this]
  ·rfl
theorem HN {kindOf:Str->Option NameKind}{x:Str}:∀{binds:List (Str×Value)} {m:Str->Option Value},(∀v,(x,v)∉binds)->bindC kindOf binds m x=m x
 |[],_,_=>rfl
 |(n,v)::r,m,h=>by
  unfold bindC
  rw[HN λw hw=>h w (List.mem_cons_of_mem _ hw)]
  split
  ·rfl
  ·have:x≠n:=by rintro rfl;exact h v List.mem_cons_self
   simp[this]
theorem HP {kindOf:Str->Option NameKind}{x:Str}{v:Value}:∀{P:List Str} {vs:List Value} {i:Nat} {m:Str->Option Value},P.Nodup->P[i]?=some x->vs[i]?=some v->kindOf x=some .local->
 bindL kindOf (P.zip vs) m x=some v
 |[],_,_,_,_,h,_,_=>by simp at h
 |_::_,[],_,_,_,_,h,_=>by simp at h
 |p::P,w::vs,0,m,nd,h1,h2,hk=>by
  simp at h1 h2;subst h1;subst h2
  show bindL kindOf ((p,w)::P.zip vs) m p=_
  unfold bindL
  rw[HM λv hv=>(List.nodup_cons.mp nd).1 (List.of_mem_zip hv).1,if_pos hk]
  simp
 |p::P,w::vs,i+1,m,nd,h1,h2,hk=>by
  show bindL kindOf ((p,w)::P.zip vs) m x=_
  unfold bindL
  exact HP (i:=i) (List.nodup_cons.mp nd).2 (by simpa using h1) (by simpa using h2) hk
theorem HQ {kindOf:Str->Option NameKind}{x:Str}{v:Value}:∀{P:List Str} {vs:List Value} {i:Nat} {m:Str->Option Value},P.Nodup->P[i]?=some x->vs[i]?=some v->kindOf x≠some .local->
 bindC kindOf (P.zip vs) m x=some v
 |[],_,_,_,_,h,_,_=>by simp at h
 |_::_,[],_,_,_,_,h,_=>by simp at h
 |p::P,w::vs,0,m,nd,h1,h2,hk=>by
  simp at h1 h2;subst h1;subst h2
  show bindC kindOf ((p,w)::P.zip vs) m p=_
  unfold bindC
  rw[HN λv hv=>(List.nodup_cons.mp nd).1 (List.of_mem_zip hv).1,if_neg hk]
  simp
 |p::P,w::vs,i+1,m,nd,h1,h2,hk=>by
  show bindC kindOf ((p,w)::P.zip vs) m x=_
  unfold bindC
  exact HQ (i:=i) (List.nodup_cons.mp nd).2 (by simpa using h1) (by simpa using h2) hk
def start (N:List Str)(vs:List V):St:=vs.map some++List.replicate (N.length - vs.length) none
def Bp (CX:Lg)(P:Program)(w:World)(K:PySem.W.Frag)(mg:Str->Option Value)(base:Heap)(N:List Str)(qual:Str)(scope:Scope)(f:Addr)(cd:Value)(A:Around)(outer:List Env)(s:Shared)(H:Hp)(E:XK):Cx where
 prog:=P
 w:=w
 K:=K
 mg:=mg
 base:=base
 A:=A.deeper (envOfC qual scope s.heap.objs.size f cd)
 N:=N
 s₀:=s
 H₀:=H
 env:=envOfC qual scope s.heap.objs.size f cd
 outer:=outer
 stack:=envOfC qual scope s.heap.objs.size f cd::outer
 ex:=[]
 calm:=true
 fn:=λ_=>true
 pn:=[]
 xe:=λe s'=>wpAny (model P w) (A.deeper (envOfC qual scope s.heap.objs.size f cd)) (leaving (envOfC qual scope s.heap.objs.size f cd) e) (λ_ s''=>CX outer H s E e s'') (λe' s''=>CX outer H s E e' s'') s'
theorem JA {sc:Scope}{n:Nat}{x:Str}(h:sc.names.lookup x=some .cell):∃c,(cellsFrom n sc.names []).lookup x=some c:=by
 have q:=PySem.W.cellsFrom_some sc.names n [] (.inl h)
 exact Option.isSome_iff_exists.mp q
theorem Mi {CX:Lg}{P:Program}{w:World}{K:PySem.W.Frag}{mg:Str->Option Value}{base:Heap}{N ps:List Str}{qual:Str}{scope:Scope}{f:Addr}{cd:Value}{A:Around}{outer:List Env}{s s1:Shared}{H:Hp}{E:XK}{us:List Value}{vs:List V}
 (S:AW N ps scope)(hd:A.handled=none)(e0:P9 P w K mg base A outer s H)(hl:vs.length=ps.length)(r:Vals vs us)
 (x:InCallC s s.heap.objs.size (bindL (envOfC qual scope s.heap.objs.size f cd).kindOf (ps.zip us) λ_=>none) (cellsFrom (s.heap.objs.size+1) scope.names []) (bindC (envOfC qual scope s.heap.objs.size f cd).kindOf (ps.zip us) λ_=>none) s1):
 Inv (Bp CX P w K mg base N qual scope f cd A outer s H E) [] (start N vs) H s1:=by
 have hpl:ps.length<=N.length:=by have:=congrArg List.length S.pre;rw[List.length_take]at this;omega
 obtain⟨h1,tk,rfl,hk⟩:=x.done
 have noA:∀b:Addr,b∉(Bp CX P w K mg base N qual scope f cd A outer s H E).ex:=λb z=>absurd (show b∈([]:List Addr)from z) (by simp)
 refine⟨⟨e0.mod,S.kind,rfl,rfl,Nat.le_refl _,λy z c h1 h2=>?_,λy hy=>?_,λy c _ h=>?_,λ_=>hd,Around.frames_deeper e0.frames,.inr ⟨rfl,rfl⟩,λb z=>absurd z (noA b),e0.bs,e0.bsz,λb _ _=>noA b,λb z=>absurd z (noA b),e0.Cz,e0.frf⟩,
  rfl,e0.bare,Un.kept hk,⟨_,x.toInCall.ns,λi y v h1 h2 h3=>?_⟩,λy c h=>⟨_,x.cell y c h⟩,e0.hok.fresh (Nat.le_refl _),λy c h=>?_,λp hp=>absurd (show p∈([]:List (Addr×Obj))from hp) (by simp),e0.hok.kept hk,?_⟩
 ·exact name_of_addr x.apart (PySem.mem_of_lookup h1) (PySem.mem_of_lookup h2)
 ·have hy:scope.names.lookup y=some .cell\/scope.names.lookup y=some .free:=hy
  rcases hy with hy|hy
  ·exact JA hy
  ·exact absurd rfl (S.nofree _ (PySem.mem_of_lookup hy))
 ·exact Nat.le_of_lt (x.above y c (PySem.mem_of_lookup h))
 ·have hi:i < vs.length:=by
   unfold start at h2
   by_cases hi:i < vs.length
   ·exact hi
   ·rw[List.getElem?_append_right (by simpa using hi)]at h2
    rw[List.getElem?_replicate]at h2
    split at h2<;>cases h2
  have ha:vs[i]?=some v:=by
   unfold start at h2
   rw[List.getElem?_append_left (by simpa using hi),List.getElem?_map]at h2
   cases e:vs[i]? with
   |none=>rw[e]at h2;cases h2
   |some a=>rw[e]at h2;cases h2;rfl
  obtain⟨u,hu,rv⟩:=r.get ha
  have hp:ps[i]?=some y:=by
   rw[<-S.pre,List.getElem?_take_of_lt (by omega)];exact h1
  have ndP:ps.Nodup:=by rw[<-S.pre];exact S.nd.sublist (List.take_sublist _ _)
  refine⟨u,rv,?_⟩
  rcases S.par y (List.mem_of_getElem? hp)with k|k
  ·exact .inl ⟨k,HP ndP hp hu k⟩
  ·obtain⟨c,e⟩:=JA (n:=s.heap.objs.size+1) k
   refine .inr ⟨.inl k,c,e,?_⟩
   have q:=x.cell y c e
   rw[HQ ndP hp hu (by show scope.names.lookup y≠_;rw[k];decide)]at q
   exact q
 ·exact e0.hok.fresh (Nat.le_of_lt (x.above y c (PySem.mem_of_lookup h)))
 ·unfold start
  show _=N.length
  rw[List.length_append,List.length_map,List.length_replicate]
  omega
theorem Nn {CX:Lg}{P:Program}{w:World}{K:PySem.W.Frag}{mg:Str->Option Value}{base:Heap}{k:Nat}{f:Addr}{name qual:Str}{params:Arguments}{body:List Stmt}{scope:Scope}{dV kV doc pm cdv ct oc:Value}{an od:Option Addr}
 {osl:Array (Option Value)}{N ps:List Str}{sp:Sp}(lk:K.lookup f=some ⟨oc,od,.func (PySem.W.fnOf name qual params body scope dV kV doc pm an cdv ct),osl⟩)(hcd:PySem.W.codeIn K cdv qual=true)(S:AW N ps scope)
 (len:∀vs H Q E,sp vs H Q E->vs.length=ps.length)
 (hbody:∀(A:Around) (outer:List Env) (s:Shared) (H:Hp) (vs:List V) (Q:VK) (E:XK),B6 k (A.deeper (envOfC qual scope s.heap.objs.size f cdv))->sp vs H Q E->
  ∃t,Iq (Bp CX P w K mg base N qual scope f cdv A outer s H E) body t/\t { nx:=λ_ H'=>Q .A3 H',rt:=Q } (start N vs) H):
 Ef P w K mg base CX (k+1) f (PySem.W.fnOf name qual params body scope dV kV doc pm an cdv ct) ps sp:=by
 refine⟨len,λA outer s H args us vs Q E hr e0 hb r hsp=>?_⟩
 have hl:=len _ _ _ _ hsp
 have KX:K.In s.heap:=e0.mod.kin.keeps λb o e=>(e0.bs b o e).1
 have lim:s.heap.NoLimit:=e0.mod.nolimit.keeps λb o e=>(e0.bs b o e).1
 have hkind:∀y∈ps.zip us,scope.names.lookup y.1=some .local\/(scope.names.lookup y.1=some .cell/\((cellsFrom (s.heap.objs.size+1) scope.names []).lookup y.1).isSome=true):=λ⟨n,v⟩ hy=>by
  rcases S.par n (List.of_mem_zip hy).1 with q|q
  ·exact .inl q
  ·exact .inr ⟨q,PySem.W.cellsFrom_some _ _ _ (.inl q)⟩
 refine codeAny_call_function hr.depth (KX _ _ lk) rfl S.co S.gen rfl (PySem.W.codeRec_of KX hcd) (hb _ _ _ _ ?_)
 refine wpAny_newFunctionEnv_cells S.kind hkind λenv he s1 x=>?_
 subst he
 refine⟨lim.keeps x.toInCall.keep,codeAny_func ?_⟩
 obtain⟨t,ht,hq⟩:=hbody A outer s H vs Q E (hr.deeper _) hsp
 have I:Inv (Bp CX P w K mg base N qual scope f cdv A outer s H E) [] (start N vs) H s1:=Mi S hr.hd e0 hl r x
 refine wpAny_mono (ht [] s1 (start N vs) H _ I hq) (λfl s' hs=>?_) λe s' hs=>hs
 have fin:∀{σ':St} {H':Hp} {v:V} {u:Value},Inv (Bp CX P w K mg base N qual scope f cdv A outer s H E) [] σ' H' s'->RelV v u->Q v H'->CE outer P w H s Q u s':=
  λ{σ' H' v u} J rv q=>⟨v,H',J.os,J.bare,J.base,J.hok,rv,q⟩
 cases fl with
 |ret u=>
  obtain⟨v,σ',H',J,rv,q⟩:=hs
  exact fin J rv q
 |next=>
  obtain⟨σ',H',J,q⟩:=hs
  exact fin (v:=V.A3) (u:=Value.none) J rfl q
 |brk=>
  obtain⟨_,_,_,q⟩:=hs
  exact False.elim q
 |cont=>
  obtain⟨_,_,_,q⟩:=hs
  exact False.elim q
end L2
namespace L2
open PySem PySem.Spec PyProof.Rows
section
variable {X:Cx}{x:Str}{p pos:Pos}{e:Expr}{es:List Expr}{t:TA}{id T:String}{r:List V->Hp->VK->Prop}
def Uo (r:List V->Hp->VK->Prop)(t:TA):TE:=λσ H Q=>t σ H λvs H1=>r vs H1 Q
theorem AM (hc:Bs X (.builtin id) r)(hg:Gl X x)(hm:X.mg x=none)(hv:bootBuiltins x=some (.builtin id))(ha:PA X (e::es) t)(hn:x≠"__name__":=by decide)(hdb:(x==("__debug__":Str))=false:=by decide)
 (he:starEach (e::es) X.env=(false,eval e X.env)::starEach es X.env:=by rfl)(hpl:(backTo pos (starEach es X.env)).any (·.1)=false:=by rfl):PE X (.Call (.Name x p) (e::es) [] pos) (Uo r t):=by
 intro pins s σ H Q I h
 refine wpAny_Call_Name_kw (CU I hg hm hv ?_ hn hdb)
 exact PyProof.Rows.callWith_builtin1 (BG (ha pos pins s σ H _ I h) λus s1 ⟨vs,H1,I1,r1,q1⟩=>hc pins s1 σ H1 vs us Q I1 r1 q1) he hpl
theorem Ao (hc:Bs X (.type T) r)(hg:Gl X x)(hm:X.mg x=none)(hv:bootBuiltins x=some (.type T))(ha:PA X (e::es) t)(hn:x≠"__name__":=by decide)(hdb:(x==("__debug__":Str))=false:=by decide)
 (he:starEach (e::es) X.env=(false,eval e X.env)::starEach es X.env:=by rfl)(hpl:(backTo pos (starEach es X.env)).any (·.1)=false:=by rfl):PE X (.Call (.Name x p) (e::es) [] pos) (Uo r t):=by
 intro pins s σ H Q I h
 refine wpAny_Call_Name_kw (CU I hg hm hv ?_ hn hdb)
 exact PyProof.Rows.callWith_type1 (BG (ha pos pins s σ H _ I h) λus s1 ⟨vs,H1,I1,r1,q1⟩=>hc pins s1 σ H1 vs us Q I1 r1 q1) he hpl
end
end L2
namespace HT
open PySem PyProof.Rows
section
open PySem.SeqAt
open PySem.AutoSeq1 (wpAny_loadPart')
open PySem.MeetsSeq PySem.MeetsSeq2 PySem.MeetsSeq3
end
section
variable {prog:Program}{w:World}{A:Around}{E:Value->Shared->Prop}{s:Shared}
theorem QB {t b:Addr}{vs ws:List Value}{Q:Value->Shared->Prop}(ht:IsTup s.heap t vs.toArray)(hb:IsTup s.heap b ws.toArray)(hv:vs≠[])
 (h1:ws=[]->Q (.ref t) s)(h2:ws≠[]->Q (.ref s.heap.objs.size) { s with heap:=s.heap.push { cls:=.type "tuple",data:=.seq (vs++ws).toArray } })
 (hsz:vs.length+ws.length<=sizeLine):wpAny (model prog w) A (binaryOp .Add (.ref t) (.ref b)) Q E s:=by
 obtain⟨⟨cls,dd,data,sl⟩,ho,hc,n,hd⟩:=id ht
 obtain⟨⟨cls2,dd2,data2,sl2⟩,ho2,hc2,n2,hd2⟩:=id hb
 simp only at hc hd hc2 hd2
 subst hc hd hc2 hd2
 have e:vs.toArray++ws.toArray=(vs++ws).toArray:=by simp
 by_cases hw:ws=[]
 ·exact concat_meets ⟨_,ho,rfl⟩ ⟨_,ho2,rfl⟩ noFill_tuple_add seq_tuple_add PySem.F.slot_tuple_add PySem.F.entry_tuple_add (PySem.F.args_tuple_add_2 _ _)
   (tuple_addW1 t b vs.toArray ws.toArray n n2 dd dd2 sl sl2 (by simpa using hv) (by simp[hw])) ⟨ho,ho2,h1 hw⟩
 ·refine concat_meets ⟨_,ho,rfl⟩ ⟨_,ho2,rfl⟩ noFill_tuple_add seq_tuple_add PySem.F.slot_tuple_add PySem.F.entry_tuple_add (PySem.F.args_tuple_add_2 _ _)
   (tuple_addW2 t b vs.toArray ws.toArray n n2 dd dd2 sl sl2 (by simpa using hv) (by simpa using hw) (by rw[List.size_toArray,List.size_toArray];exact hsz)) ⟨ho,ho2,?_⟩
  rw[e]
  exact h2 hw
def BD (n d:Nat):Option Int->Nat
 |none=>d
 |some v=>if v < 0 then(v+(n:Int)).toNat else min v.toNat n
theorem Np (n d:Nat):BD n d none=d:=rfl
theorem Ka (n d:Nat)(hd:d<=n)(o:Option Int):BD n d o<=n:=by
 cases o with
 |none=>exact hd
 |some v=>
  show(if v < 0 then(v+(n:Int)).toNat else min v.toNat n)<=n
  by_cases hv:v < 0
  ·rw[if_pos hv];omega
  ·rw[if_neg hv];exact Nat.min_le_right _ _
theorem Lh (v:Int)(n d:Nat):(if v < 0 then max (v+(n:Int)) 0 else min v (n:Int))=((BD n d (some v):Nat):Int):=by
 show(if v < 0 then max (v+(n:Int)) 0 else min v (n:Int))=(((if v < 0 then(v+(n:Int)).toNat else min v.toNat n):Nat):Int)
 by_cases hv:v < 0
 ·simp only[if_pos hv];omega
 ·simp only[if_neg hv];omega
theorem Kb (lo hi:Option Int)(n:Nat):Builtin.Slice.sliceAdjust lo hi 1 (n:Int)=(((BD n 0 lo:Nat):Int),((BD n n hi:Nat):Int)):=by
 have h1:¬((1:Int) < 0):=by omega
 unfold Builtin.Slice.sliceAdjust
 simp only[h1,if_false]
 refine Prod.ext ?_ ?_
 ·cases lo with
  |none=>rfl
  |some v=>exact Lh v n 0
 ·cases hi with
  |none=>rfl
  |some v=>exact Lh v n n
theorem Kc (i j:Nat):Builtin.Slice.slicePlaces (i:Int) (j:Int) 1=j - i:=by
 unfold Builtin.Slice.slicePlaces
 have h1:(1:Int) > 0:=by omega
 simp only[h1,if_true,Int.ediv_one]
 split<;>omega
theorem F9 {v:Value}{o:Option Int}{Q:Option Int->Shared->Prop}(p:IsPart v o)(h:Q o s):wpAny (model prog w) A (Builtin.Slice.slicePartIndex v) Q E s:=by
 cases p with
 |none=>exact slicePart_none h
 |int i t=>exact slicePart_int h
theorem C1 {sl:Addr}{vl vu:Value}{lo hi:Option Int}{n:Nat}{Q:Int×Int×Nat->Shared->Prop}(hs:s.heap.IsSliceOf sl vl vu .none)(pl:IsPart vl lo)(pu:IsPart vu hi)
 (h:Q (((BD n 0 lo:Nat):Int),1,BD n n hi - BD n 0 lo) s):wpAny (model prog w) A (Builtin.Slice.sliceApplied (.ref sl) (pure (n:Int))) Q E s:=by
 obtain⟨os,hos,hcs,hds⟩:=id hs
 unfold Builtin.Slice.sliceApplied Builtin.Slice.sliceFields
 refine wpAny_bind (wpAny_bind (wpAny_field hos hds (x:=vl) rfl (wpAny_bind (wpAny_field hos hds (x:=vu) rfl (wpAny_bind (wpAny_field hos hds (x:=.none) rfl (wpAny_pure ?_)))))))
 refine wpAny_bind (slicePart_none ?_)
 show wpAny _ _ (if((1:Int)==0)=true then _ else _) _ _ s
 rw[if_neg (by decide)]
 refine wpAny_bind (F9 pl (wpAny_bind (F9 pu (wpAny_bind (wpAny_pure ?_)))))
 show wpAny _ _ (match Builtin.Slice.sliceAdjust lo hi 1 (n:Int)with|(lo,hi)=>pure (lo,(1:Int),Builtin.Slice.slicePlaces lo hi 1)) _ _ s
 rw[Kb lo hi n]
 show wpAny _ _ (pure (((BD n 0 lo:Nat):Int),(1:Int),Builtin.Slice.slicePlaces ((BD n 0 lo:Nat):Int) ((BD n n hi:Nat):Int) 1)) _ _ s
 rw[Kc]
 exact wpAny_pure h
theorem Nq (xs:Array Value)(i k:Nat):((List.range k).filterMap λ(m:Nat)=>xs[((i:Int)+(m:Int)*1).toNat]?).toArray=((xs.toList.drop i).take k).toArray:=by
 have e:(λ(m:Nat)=>xs[((i:Int)+(m:Int)*1).toNat]?)=λm=>xs[i+m]?:=by
  funext m
  have:((i:Int)+(m:Int)*1).toNat=i+m:=by omega
  rw[this]
 rw[e]
 have:=pick_run xs i k
 rw[List.filterMap_map]at this
 have e2:((λx=>xs[x]?)∘λx=>i+x)=λm=>xs[i+m]?:=rfl
 rw[e2]at this
 rw[this]
theorem Eg {t sl:Addr}{items:Array Value}{vl vu:Value}{lo hi:Option Int}{Q:Value->Shared->Prop}(ht:IsTup s.heap t items)(hs:s.heap.IsSliceOf sl vl vu .none)(pl:IsPart vl lo)(pu:IsPart vu hi)
 (hw:¬(BD items.size 0 lo=0/\BD items.size items.size hi=items.size))
 (h:Q (.ref s.heap.objs.size) { s with heap:=s.heap.push { cls:=.type "tuple",data:=.seq ((items.toList.drop (BD items.size 0 lo)).take (BD items.size items.size hi - BD items.size 0 lo)).toArray } })
 (hsz:items.size<=sizeLine):wpAny (model prog w) A (getItem (.ref t) (.ref sl)) Q E s:=by
 have htake:sizeOk (.seq ((items.toList.drop (BD items.size 0 lo)).take (BD items.size items.size hi - BD items.size 0 lo)).toArray):=by
  show((items.toList.drop (BD items.size 0 lo)).take (BD items.size items.size hi - BD items.size 0 lo)).toArray.size<=sizeLine
  rw[List.size_toArray,List.length_take,List.length_drop,Array.length_toList]
  omega
 have hj:BD items.size items.size hi<=items.size:=Ka _ _ (Nat.le_refl _) hi
 obtain⟨os,hos,hcs,hds⟩:=id hs
 have hTs:s.TypeIs (.ref sl) "slice":=⟨os,hos,hcs⟩
 unfold getItem
 try with_reducible refine wpAny_holding ?_
 first|refine wpAny_bind (wpAny_pure ?_)|skip
 refine wpAny_bind (wpAny_sequenceKey ht.typeIs (by decide) ?_)
 refine wpAny_bind (wpAny_callSpecial?_slot (name:=Str.ofString "__getitem__") ht.typeIs PyProof.Rows.slot_tuple_getitem
  (wpAny_call_entry PyProof.Rows.slot_tuple_getitem ht.typeIs entry_tuple_getitem ?_ (args_tuple_getitem _ _)))
 show wpAny _ _ (Builtin.Tuple.tupleItemsOf (.ref t) >>= _) _ _ s
 refine wpAny_bind (tupleItemsOf_ ht ?_)
 refine wpAny_bind (wpAny_typeOf hTs ?_)
 rw[if_pos (by decide)]
 refine wpAny_bind (C1 hs pl pu ?_)
 have hno:¬((((BD items.size 0 lo:Nat):Int)==0&&(1:Int)==1&&(BD items.size items.size hi - BD items.size 0 lo)==items.size)=true):=by
  intro q
  rw[Bool.and_eq_true,Bool.and_eq_true]at q
  have q1:((BD items.size 0 lo:Nat):Int)=0:=eq_of_beq q.1.1
  have q2:BD items.size items.size hi - BD items.size 0 lo=items.size:=eq_of_beq q.2
  exact hw ⟨by omega,by omega⟩
 show wpAny _ _ (if(((BD items.size 0 lo:Nat):Int)==0&&(1:Int)==1&&(BD items.size items.size hi - BD items.size 0 lo)==items.size)=true then _ else _) _ _ s
 rw[if_neg hno,Nq]
 first
  |exact wpAny_bind (m:=Builtin.Tuple.tupleExact _) (wpAny_newObj_type (wpAny_pure ⟨_,rfl,wpAny_pure h⟩) htake)
  |exact wpAny_bind (m:=Builtin.Tuple.tupleExact _) (wpAny_newObj_type (wpAny_bind (wpAny_pure (wpAny_pure ⟨_,rfl,wpAny_pure h⟩))) htake)
  |exact wpAny_bind (wpAny_bind (m:=Builtin.Tuple.tupleExact _) (wpAny_newObj_type (wpAny_pure (wpAny_pure ⟨_,rfl,wpAny_pure h⟩)) htake))
  |exact wpAny_bind (wpAny_bind (m:=Builtin.Tuple.tupleExact _) (wpAny_newObj_type (wpAny_pure ⟨_,rfl,wpAny_pure h⟩) htake))
end
end HT
namespace L2
open PySem PySem.Spec PyProof.Rows
abbrev TO:=St->Hp->(Option Int->Hp->Prop)->Prop
def PO (X:Cx)(e:Option Expr)(t:TO):Prop:=
 ∀(pins:List (Addr×Obj)) (s:Shared) (σ:St) (H:Hp) (Q:Option Int->Hp->Prop),Inv X pins σ H s->t σ H Q->
  wpAny (model X.prog X.w) X.A (evalPart e X.env) (λu s'=>∃o H',Inv X pins σ H' s'/\IsPart u o/\Q o H') X.xe s
def QC:TO:=λ_ H Q=>Q none H
def Ss (t:TE):TO:=λσ H Q=>t σ H λx H1=>∃i,x=.int i/\Q (some i) H1
section
variable {X:Cx}{e:Expr}{te:TE}{lo hi:Option Expr}{tl th:TO}{pos p2:Pos}
theorem Aq:PO X none QC:=by
 intro pins s σ H Q I h
 rw[evalPart_none]
 exact wpAny_pure ⟨none,H,I,.none,h⟩
theorem Ac (h:PE X e te):PO X (some e) (Ss te):=by
 intro pins s σ H Q I hw
 rw[evalPart_some]
 refine BG (h pins s σ H _ I hw) λu s1 ⟨x,H1,I1,r1,q1⟩=>?_
 obtain⟨i,rfl,q⟩:=q1
 obtain⟨t,rfl⟩:=r1
 exact⟨some i,H1,I1,.int i t,q⟩
def SO (X:Cx)(r:V->Option Int->Option Int->Hp->VK->Prop):Prop:=
 ∀(pins:List (Addr×Obj)) (s:Shared) (σ:St) (H:Hp) (x:V) (v vl vu:Value) (lo hi:Option Int) (sl:Addr) (Q:VK),Inv X pins σ H s->RelV x v->s.heap.IsSliceOf sl vl vu .none->IsPart vl lo->IsPart vu hi->r x lo hi H Q->
  ∃T id,typeLookup (.type T) "__getitem__"=pure (some (.builtin id))/\s.TypeIs v T/\wpAny (model X.prog X.w) X.A (getItem v (.ref sl)) (EP X pins σ Q) X.xe s
def U2 (r:V->Option Int->Option Int->Hp->VK->Prop)(te:TE)(tl th:TO):TE:=λσ H Q=>te σ H λx H1=>tl σ H1 λl H2=>th σ H2 λu H3=>r x l u H3 Q
theorem Aa {r:V->Option Int->Option Int->Hp->VK->Prop}(hr:SO X r)(he:PE X e te)(hl:PO X lo tl)(hu:PO X hi th):PE X (.Subscript e (.Slice lo hi none p2) pos) (U2 r te tl th):=by
 intro pins s σ H Q I h
 refine Subscript_ (BG (he pins s σ H _ I h) λv s1 ⟨x,H1,I1,r1,q1⟩=>?_)
 refine wpAny_Slice (BG (hl pins s1 σ H1 _ I1 q1) λvl s2 ⟨l,H2,I2,pl,q2⟩=>BG (hu pins s2 σ H2 _ I2 q2) λvu s3 ⟨u,H3,I3,pu,q3⟩=>?_)
 rw[evalPart_none]
 refine wpAny_pure ?_
 have I4:Inv X pins σ H3 { s3 with heap:=s3.heap.push { cls:=.type "slice",data:=.fields #[vl,vu,.none] } }:=I3.kept (t':=s3.toks) λb ob q=>Heap.get?_push_of_some _ q
 obtain⟨T,id,hT,ht,hg⟩:=hr pins { s3 with heap:=s3.heap.push { cls:=.type "slice",data:=.fields #[vl,vu,.none] } } σ H3 x v vl vu l u s3.heap.objs.size Q I4 r1 (Heap.IsSliceOf.new ..) pl pu q3
 show wpAny (model X.prog X.w) X.A (subscriptTail e (.Slice lo hi none p2) v (.ref s3.heap.objs.size)) (EP X pins σ Q) X.xe { s3 with heap:=s3.heap.push { cls:=.type "slice",data:=.fields #[vl,vu,.none] } }
 exact tail_any (ops:=[.ref s3.heap.objs.size,v]) ht hT hg (by with_unfolding_all rfl)
def Bq (xs:List V)(lo hi:Option Int):List V:=(xs.drop (HT.BD xs.length 0 lo)).take (HT.BD xs.length xs.length hi - HT.BD xs.length 0 lo)
theorem Fb (xs:List V)(lo hi:Option Int):(Bq xs lo hi).length<=xs.length:=by
 unfold Bq
 rw[List.length_take,List.length_drop]
 omega
def UM (K:PySem.W.Frag):V->Option Int->Option Int->Hp->VK->Prop:=λx lo hi H Q=>∃a xs,x=.ref a/\Ar K H a xs/\
 ¬(HT.BD xs.length 0 lo=0/\HT.BD xs.length xs.length hi=xs.length)/\∀p,H p=none->Q (.ref p) (upd H p (.tup (Bq xs lo hi)))
theorem RY:SO X (UM X.K):=by
 intro pins s σ H x v vl vu lo hi sl Q I rx hs pl pu h
 obtain⟨a,xs,rfl,hx,hw,q⟩:=h
 cases rx
 obtain⟨its,r,ht,hz⟩:=I.tuple hx
 have hlen:its.toArray.size=xs.length:=by rw[List.size_toArray];exact r.length.symm
 refine⟨"tuple",_,PyProof.Rows.slot_tuple_getitem.lookup,ht.typeIs,?_⟩
 refine HT.Eg ht hs pl pu (by rw[hlen];exact hw) ?_ (by rw[hlen];exact hz)
 rw[hlen]
 refine⟨.ref s.heap.objs.size,_,I.laid (t':=s.toks) (o:=.tup (Bq xs lo hi)) (λb ob q=>Heap.get?_push_of_some _ q) (Nat.le_refl _) ?_,rfl,q _ (I.hok.fresh (Nat.le_refl _))⟩
 exact⟨⟨Nat.le_trans (Fb xs lo hi) hz,_,Heap.get?_push_size _ rfl,rfl⟩,_,(r.drop (HT.BD xs.length 0 lo)).take (HT.BD xs.length xs.length hi - HT.BD xs.length 0 lo),IsTup.new _ _⟩
def Su (K:PySem.W.Frag):R2:=λx y H Q=>∃a b xs ys,x=.ref a/\y=.ref b/\Ar K H a xs/\Ar K H b ys/\xs≠[]/\xs.length+ys.length<=sizeLine/\
 (ys=[]->Q (.ref a) H)/\(ys≠[]->∀p,H p=none->Q (.ref p) (upd H p (.tup (xs++ys))))
theorem Vals.Fu {xs:List V}{us:List Value}(r:Vals xs us):us=[]↔xs=[]:=by
 cases r with
 |nil=>simp
 |cons _ _=>simp
theorem QD:DS X (binaryOp .Add) (Su X.K):=by
 intro pins s σ H x y v u Q I rx ry h
 obtain⟨a,b,xs,ys,rfl,rfl,ha,hb,hx,hz,q1,q2⟩:=h
 cases rx
 cases ry
 obtain⟨its,r1,p1,_⟩:=I.tuple ha
 obtain⟨its2,r2,p2,_⟩:=I.tuple hb
 refine HT.QB p1 p2 (λz=>hx (r1.Fu.mp z)) (λz=>⟨.ref a,H,I,rfl,q1 (r2.Fu.mp z)⟩) (λz=>?_) (by rw[<-r1.length,<-r2.length];exact hz)
 refine⟨.ref s.heap.objs.size,_,I.laid (t':=s.toks) (o:=.tup (xs++ys)) (λb ob q=>Heap.get?_push_of_some _ q) (Nat.le_refl _) ?_,rfl,q2 (λw=>z (r2.Fu.mpr w)) _ (I.hok.fresh (Nat.le_refl _))⟩
 exact⟨⟨by rw[List.length_append];exact hz,_,Heap.get?_push_size _ rfl,rfl⟩,_,r1.append r2,IsTup.new _ _⟩
end
end L2
namespace L2
open PySem PySem.Spec PyProof.Rows
def Mj (n:Nat)(i:Int):Option Nat:=if 0<=i then(if i < n then some i.toNat else none)else if -(n:Int)<=i then some (i+n).toNat else none
def DY {α:Type}(xs:List α)(i:Int):Option α:=(Mj xs.length i).bind λj=>xs[j]?
theorem Li {n:Nat}{i:Int}{j:Nat}(h:Mj n i=some j):seqIndex? i n=some j/\j < n/\-(n:Int)<=i/\i < n:=by
 unfold Mj at h
 by_cases h0:0<=i
 ·rw[if_pos h0]at h
  by_cases h1:i < n
  ·rw[if_pos h1]at h
   have e:i.toNat=j:=Option.some.inj h
   exact⟨by rw[seqIndex_of h0 h1,e],by omega,by omega,h1⟩
  ·rw[if_neg h1]at h;cases h
 ·rw[if_neg h0]at h
  by_cases h1:-(n:Int)<=i
  ·rw[if_pos h1]at h
   have e:(i+n).toNat=j:=Option.some.inj h
   exact⟨by rw[seqIndex_neg (by omega) h1,e],by omega,h1,by omega⟩
  ·rw[if_neg h1]at h;cases h
theorem IB {α:Type}{xs:List α}{i:Int}{v:α}(h:DY xs i=some v):∃j,seqIndex? i xs.length=some j/\xs[j]?=some v/\j < xs.length/\-(xs.length:Int)<=i/\i < xs.length:=by
 unfold DY at h
 cases e:Mj xs.length i with
 |none=>rw[e]at h;cases h
 |some j=>
  rw[e]at h
  obtain⟨h1,h2,h3,h4⟩:=Li e
  exact⟨j,h1,h,h2,h3,h4⟩
theorem A0 {α:Type}{xs:List α}{j:Nat}{v:α}(h:xs[j]?=some v):DY xs (j:Int)=some v:=by
 have hj:j < xs.length:=(List.getElem?_eq_some_iff.mp h).1
 have e:Mj xs.length (j:Int)=some j:=by
  unfold Mj
  rw[if_pos (by omega),if_pos (by omega)];simp
 unfold DY;rw[e];exact h
theorem Nr {α:Type}(xs:List α)(v:α):DY (xs++[v]) (-1)=some v:=by
 have hl:(xs++[v]).length=xs.length+1:=by simp
 have e:Mj (xs++[v]).length (-1)=some xs.length:=by
  unfold Mj
  rw[hl,if_neg (by decide),if_pos (by omega)]
  congr 1
  omega
 unfold DY
 rw[e]
 show(xs++[v])[xs.length]?=some v
 simp
def QE (b:Expr):Prop:=∀o i,subscripted b false o i=operate [o,i] (getItem o i)
def SQ (X:Cx)(r:R2):Prop:=
 ∀(value slice:Expr) (pins:List (Addr×Obj)) (s:Shared) (σ:St) (H:Hp) (x y:V) (v u:Value) (Q:VK),Inv X pins σ H s->RelV x v->RelV y u->r x y H Q->
  subscripted slice false v u=operate [v,u] (getItem v u)->wpAny (model X.prog X.w) X.A (subscriptTail value slice v u) (EP X pins σ Q) X.xe s
def UN (X:Cx)(id:String)(r:V->List V->Hp->VK->Prop):Prop:=
 ∀(pins:List (Addr×Obj)) (s:Shared) (σ:St) (H:Hp) (x:V) (xs:List V) (v:Value) (us:List Value) (Q:VK),Inv X pins σ H s->RelV x v->Vals xs us->r x xs H Q->
  wpAny (model X.prog X.w) X.A (call (.builtin id) (v::us)) (EP X pins σ Q) X.xe s
section
variable {X:Cx}{a b:Expr}{ta tb:TE}{pos:Pos}
theorem AR {r:R2}(hr:SQ X r)(ha:PE X a ta)(hb:PE X b tb)(hs:QE b):PE X (.Subscript a b pos) (To r ta tb):=by
 intro pins s σ H Q I h
 exact Subscript_ (RS ha hb I h λv u s2 x y H2 I2 rx ry q=>hr a b pins s2 σ H2 x y v u Q I2 rx ry q (hs _ _))
def Sv (K:PySem.W.Frag):R2:=λx y H Q=>∃p xs i v,x=.ref p/\y=.int i/\Am K H p xs/\DY xs i=some v/\Q v H
def Sw (K:PySem.W.Frag):R2:=λx y H Q=>∃p xs i v,x=.ref p/\y=.int i/\Ar K H p xs/\DY xs i=some v/\Q v H
def UO:R2:=λx y H Q=>∃z i c,x=.str z/\y=.int i/\z.length<=sizeLine/\DY z.cps.toList i=some c/\Q (.str ⟨#[c]⟩) H
theorem Ap:SQ X (Sv X.K):=by
 intro value slice pins s σ H x y v u Q I rx ry h hs
 obtain⟨p,xs,i,z,rfl,rfl,hq,he,q⟩:=h
 cases rx
 obtain⟨t,rfl⟩:=ry
 obtain⟨its,r,pl,hz⟩:=I.list hq
 obtain⟨j,h1,h2,h3,h4,h5⟩:=IB he
 obtain⟨w,ew,rw'⟩:=r.get h2
 have hl:=r.length
 have hn:=EO
 have fin:EP X pins σ Q w s:=⟨z,H,I,rw',q⟩
 by_cases h0:0<=i
 ·have hj:i.toNat=j:=by
   rw[seqIndex_of h0 h5]at h1
   exact Option.some.inj h1
  exact item_listR pl.isList h0 (by omega) (by rw[hj];simpa using ew) fin hs
 ·have hj:(i+(its.toArray.size:Int)).toNat=j:=by
   rw[seqIndex_neg (by omega) h4]at h1
   rw[List.size_toArray,<-hl]
   exact Option.some.inj h1
  exact subscriptTail_builtinR (x:=w) pl.isList.typeIs slot_list_getitem.lookup
   (wpAny_getItem_list_neg (Q:=λr s'=>r=w/\EP X pins σ Q r s') pl.isList (by omega) (by rw[List.size_toArray]<;>omega) (by omega) (by rw[hj];simpa using ew) ⟨rfl,fin⟩) hs
theorem Aj:SQ X (Sw X.K):=by
 intro value slice pins s σ H x y v u Q I rx ry h hs
 obtain⟨p,xs,i,z,rfl,rfl,hq,he,q⟩:=h
 cases rx
 obtain⟨t,rfl⟩:=ry
 obtain⟨its,r,pl,hz⟩:=I.tuple hq
 obtain⟨j,h1,h2,h3,h4,h5⟩:=IB he
 obtain⟨w,ew,rw'⟩:=r.get h2
 have hl:=r.length
 have hn:=EO
 have fin:EP X pins σ Q w s:=⟨z,H,I,rw',q⟩
 exact subscriptTail_builtinR (x:=w) pl.typeIs slot_tuple_getitem.lookup
  (getItem_tuple (j:=j) (Q:=λr s'=>r=w/\EP X pins σ Q r s') pl (by omega) (by omega) (by rw[List.size_toArray,<-hl];exact h1) (by simpa using ew) ⟨rfl,fin⟩) hs
theorem DD:SQ X UO:=by
 intro value slice pins s σ H x y v u Q I rx ry h hs
 obtain⟨z,i,c,rfl,rfl,hz,he,q⟩:=h
 obtain⟨t,rfl⟩:=rx
 obtain⟨t',rfl⟩:=ry
 obtain⟨j,h1,h2,h3,h4,h5⟩:=IB he
 have hl:z.cps.toList.length=z.length:=by simp[Str.length]
 rw[hl]at h1 h4 h5
 have hn:=EO
 exact tail_any (typeIs_str s z t) slot_str_getitem.lookup (getItem_str (c:=c) (by
  have e1:decide (i < -(2 ^ 63:Int))=false:=decide_eq_false (by omega)
  have e2:decide (i≥2 ^ 63)=false:=decide_eq_false (by omega)
  rw[e1,e2,Bool.or_false]) (by rw[h1];simpa using h2) ⟨.str ⟨#[c]⟩,H,I.tok _,⟨_,rfl⟩,q⟩) hs
theorem Ke (its:List Value)(n j:Nat)(u:Value):Obj.mapSeq (·.setIfInBounds j u) { cls:=.type "list",data:=.seq its.toArray n }={ cls:=.type "list",data:=.seq (its.set j u).toArray n }:=by
 simp[Obj.mapSeq]
theorem Inv.lst {pins:List (Addr×Obj)}{σ:St}{H:Hp}{s:Shared}{p:Addr}{xs:List V}(I:Inv X pins σ H s)(h:H p=some (.lst xs)):
 ∃(its:List Value) (n:Nat),Vals xs its/\s.heap.get? p=some { cls:=.type "list",data:=.seq its.toArray n }/\xs.length<=sizeLine:=by
 obtain⟨z,its,n,r,e⟩:=I.hok p _ h
 exact⟨its,n,r,e,z⟩
theorem Inv.RZ {pins:List (Addr×Obj)}{σ:St}{H:Hp}{s:Shared}{p:Addr}{xs ys:List V}{its its':List Value}{n n':Nat}{f:Obj->Obj}(I:Inv X pins σ H s)(h:H p=some (.lst xs))
 (ho:s.heap.get? p=some { cls:=.type "list",data:=.seq its.toArray n })(hf:f { cls:=.type "list",data:=.seq its.toArray n }={ cls:=.type "list",data:=.seq its'.toArray n' })(r:Vals ys its')(hz:ys.length<=sizeLine)(t:Nat):
 Inv X pins σ (upd H p (.lst ys)) { s with heap:=s.heap.update p f,toks:=t }:=by
 have e:(s.heap.update p f).get? p=some { cls:=.type "list",data:=.seq its'.toArray n' }:=by
  rw[Heap.get?_update_self f ho (by rw[hf]<;>rfl),hf]
 refine I.write (x:=p) (e:=p) (by rw[h];trivial) (.inl rfl) (λb u hb q=>(Heap.get?_update_other _ _ (Ne.symm hb)).trans q) ⟨_,e⟩ ?_
 exact⟨hz,its',n',r,e⟩
def Sx:V->V->V->Hp->(Hp->Prop)->Prop:=λo i v H Q=>∃p xs k j,o=.ref p/\i=.int k/\H p=some (.lst xs)/\Mj xs.length k=some j/\Q (upd H p (.lst (xs.set j v)))
theorem set_list:Sf X Sx:=by
 intro pins s σ H o i v ov iv u Q I ro ri rv h
 obtain⟨p,xs,k,j,rfl,rfl,hp,hj,q⟩:=h
 cases ro
 obtain⟨t,rfl⟩:=ri
 obtain⟨its,n,r,ho,hz⟩:=I.lst hp
 obtain⟨h1,h2,h3,h4⟩:=Li hj
 have hl:=r.length
 have hn:=EO
 have I':Inv X pins σ (upd H p (.lst (xs.set j v))) { s with heap:=s.heap.update p (Obj.mapSeq (·.setIfInBounds j u)) }:=
  I.RZ hp ho (Ke its n j u) (r.set rv j) (by rw[List.length_set];exact hz) s.toks
 by_cases h0:0<=k
 ·have hk:k.toNat=j:=by
   rw[seqIndex_of h0 h4]at h1
   exact Option.some.inj h1
  exact PySem.W.ki_setAt ho h0 (by omega) (by rw[List.size_toArray,<-hl];exact h4) (by rw[hk];exact⟨_,I',q⟩)
 ·have hk:(k+(its.toArray.size:Int)).toNat=j:=by
   rw[seqIndex_neg (by omega) h3]at h1
   rw[List.size_toArray,<-hl]
   exact Option.some.inj h1
  exact PySem.W.ki_setBack ho (by omega) (by rw[List.size_toArray,<-hl];exact h3) (by omega) (by rw[hk];exact⟨_,I',q⟩)
theorem IC (lo hi:Option Int)(n:Nat):(sliceBounds lo hi none n).1=((HT.BD n 0 lo:Nat):Int)/\(sliceBounds lo hi none n).2.1=((HT.BD n n hi:Nat):Int)/\(sliceBounds lo hi none n).2.2=1:=by
 refine⟨?_,?_,rfl⟩
 ·cases lo with
  |none=>simp[sliceBounds,HT.BD]
  |some i=>
   simp only[sliceBounds,HT.BD,Option.getD_none,show(1:Int) > 0 by decide,if_true]
   by_cases h:i < 0
   ·simp only[h,if_true]<;>omega
   ·simp only[h,if_false]<;>omega
 ·cases hi with
  |none=>simp[sliceBounds,HT.BD]
  |some i=>
   simp only[sliceBounds,HT.BD,Option.getD_none,show(1:Int) > 0 by decide,if_true]
   by_cases h:i < 0
   ·simp only[h,if_true]<;>omega
   ·simp only[h,if_false]<;>omega
theorem Gq (its:List Value)(lo hi:Option Int):slicePick its.toArray lo hi none=((its.drop (HT.BD its.length 0 lo)).take (HT.BD its.length its.length hi - HT.BD its.length 0 lo)).toArray:=by
 obtain⟨h1,h2,h3⟩:=IC lo hi its.toArray.size
 unfold slicePick
 rw[h1,h2,h3]
 simp only[sliceRange_one,pick_run,List.size_toArray]<;>rfl
def UP (K:PySem.W.Frag):V->Option Int->Option Int->Hp->VK->Prop:=λx lo hi H Q=>∃a xs,x=.ref a/\Am K H a xs/\∀p,H p=none->Q (.ref p) (upd H p (.lst (Bq xs lo hi)))
theorem QF:SO X (UP X.K):=by
 intro pins s σ H x v vl vu lo hi sl Q I rx hs pl pu h
 obtain⟨a,xs,rfl,hx,q⟩:=h
 cases rx
 obtain⟨its,r,ht,hz⟩:=I.list hx
 have hlen:=r.length
 refine⟨"list",_,slot_list_getitem.lookup,ht.isList.typeIs,?_⟩
 refine wpAny_getItem_list_slice ht.isList hs pl pu .none (by simp) ?_ (by rw[List.size_toArray]<;>omega)
 rw[Gq,<-hlen]
 refine⟨.ref s.heap.objs.size,_,I.laid (t':=s.toks) (o:=.lst (Bq xs lo hi)) (λb ob q=>Heap.get?_push_of_some _ q) (Nat.le_refl _) ?_,rfl,q _ (I.hok.fresh (Nat.le_refl _))⟩
 exact⟨Nat.le_trans (Fb xs lo hi) hz,_,0,(r.drop (HT.BD xs.length 0 lo)).take (HT.BD xs.length xs.length hi - HT.BD xs.length 0 lo),Heap.get?_push_size _ rfl⟩
def BZ:V->Bool
 |.A3=>true
 |.bl _=>true
 |.int _=>true
 |.str _=>true
 |_=>false
def JB:V->V->Bool
 |.A3,.A3=>true
 |.bl a,.bl b=>a==b
 |.bl a,.int b=>(if a then 1 else 0)==b
 |.int a,.bl b=>a==(if b then 1 else 0)
 |.int a,.int b=>a==b
 |.str a,.str b=>a==b
 |_,_=>false
theorem Kf {A:Around}{s:Shared}{y x:V}{u v:Value}(ry:RelV y u)(rx:RelV x v)(fy:BZ y=true)(fx:BZ x=true):SeqAt.EqAt A s u v (JB y x):=by
 cases y with
 |A3=>
  cases ry
  cases x with
  |A3=>cases rx;exact SeqAt.EqAt.same _
  |bl b=>cases rx;exact SeqAt.EqAt.none_bool b
  |int b=>obtain⟨t,rfl⟩:=rx;exact SeqAt.EqAt.none_int b t
  |str b=>obtain⟨t,rfl⟩:=rx;exact SeqAt.EqAt.none_str b t
  |_=>exact absurd (show false=true from fx) Bool.false_ne_true
 |bl a=>
  cases ry
  cases x with
  |A3=>cases rx;exact SeqAt.EqAt.bool_none a
  |bl b=>cases rx;exact SeqAt.EqAt.bool_bool a b
  |int b=>obtain⟨t,rfl⟩:=rx;exact SeqAt.EqAt.bool_int a b t
  |str b=>obtain⟨t,rfl⟩:=rx;exact SeqAt.EqAt.bool_str a b t
  |_=>exact absurd (show false=true from fx) Bool.false_ne_true
 |int a=>
  obtain⟨t',rfl⟩:=ry
  cases x with
  |A3=>cases rx;exact SeqAt.EqAt.int_none a t'
  |bl b=>cases rx;exact SeqAt.EqAt.int_bool a t' b
  |int b=>obtain⟨t,rfl⟩:=rx;exact SeqAt.EqAt.int_int a t' b t
  |str b=>obtain⟨t,rfl⟩:=rx;exact SeqAt.EqAt.int_str a t' b t
  |_=>exact absurd (show false=true from fx) Bool.false_ne_true
 |str a=>
  obtain⟨t',rfl⟩:=ry
  cases x with
  |A3=>cases rx;exact SeqAt.EqAt.str_none a t'
  |bl b=>cases rx;exact SeqAt.EqAt.str_bool a t' b
  |int b=>obtain⟨t,rfl⟩:=rx;exact SeqAt.EqAt.str_int a t' b t
  |str b=>obtain⟨t,rfl⟩:=rx;exact SeqAt.EqAt.str_str a t' b t
  |_=>exact absurd (show false=true from fx) Bool.false_ne_true
 |_=>exact absurd (show false=true from fy) Bool.false_ne_true
def Nt (x:V)(u:Value):Bool:=match u with
 |.none=>JB .A3 x
 |.bool b=>JB (.bl b) x
 |.int i _=>JB (.int i) x
 |.str z _=>JB (.str z) x
 |_=>false
theorem Nu {x y:V}{u:Value}(r:RelV y u)(f:BZ y=true):Nt x u=JB y x:=by
 cases y with
 |A3=>cases r;rfl
 |bl b=>cases r;rfl
 |int i=>obtain⟨t,rfl⟩:=r;rfl
 |str z=>obtain⟨t,rfl⟩:=r;rfl
 |_=>exact absurd (show false=true from f) Bool.false_ne_true
theorem ID {x:V}:∀{xs:List V} {us:List Value},Vals xs us->xs.all BZ=true->us.any (Nt x)=xs.any λy=>JB y x
 |_,_,.nil,_=>rfl
 |y::xs,u::us,.cons r t,f=>by
  rw[List.all_cons,Bool.and_eq_true]at f
  rw[List.any_cons,List.any_cons,Nu r f.1,ID t f.2]
theorem Eh {A:Around}{s:Shared}{x:V}{v:Value}(rx:RelV x v)(fx:BZ x=true):∀{xs:List V} {us:List Value},Vals xs us->xs.all BZ=true->∀u∈us,SeqAt.EqAt A s u v (Nt x u)
 |_,_,.nil,_=>λu hu=>by cases hu
 |y::xs,u::us,.cons r t,f=>λu' hu=>by
  rw[List.all_cons,Bool.and_eq_true]at f
  rcases List.mem_cons.mp hu with rfl|hu
  ·rw[Nu r f.1];exact Kf r rx f.1 fx
  ·exact Eh rx fx t f.2 u' hu
def Tq (x:V)(xs:List V):Bool:=xs.any λy=>JB y x
def Uq (K:PySem.W.Frag)(neg:Bool):R2:=λx y H Q=>∃p xs,y=.ref p/\(Am K H p xs\/Ar K H p xs)/\BZ x=true/\xs.all BZ=true/\Q (.bl (if neg then !Tq x xs else Tq x xs)) H
theorem Ei:DS X (compareOp .NotIn) (Uq X.K true):=by
 intro pins s σ H x y v u Q I rx ry h
 obtain⟨p,xs,rfl,hq,fx,fs,q⟩:=h
 cases ry
 rcases hq with hq|hq
 ·obtain⟨its,r,pl,hz⟩:=I.list hq
  refine SeqAt.notIn_listAt (Nt x) pl.isList (λw hw=>Eh rx fx r fs w (by simpa using hw)) ⟨.bl _,H,I,rfl,?_⟩
  rw[show its.toArray.any (Nt x)=its.any (Nt x) by simp,ID r fs]
  exact q
 ·obtain⟨its,r,pl,hz⟩:=I.tuple hq
  refine SeqAt.notIn_tupleAt (Nt x) pl (λw hw=>Eh rx fx r fs w (by simpa using hw)) ⟨.bl _,H,I,rfl,?_⟩
  rw[show its.toArray.any (Nt x)=its.any (Nt x) by simp,ID r fs]
  exact q
theorem Ad:Bs X (.builtin "len") (λxs H Q=>∃p ys,xs=[.ref p]/\(Am X.K H p ys\/Ar X.K H p ys)/\Q (.int ys.length) H):=by
 intro pins s σ H xs us Q I r h
 obtain⟨p,ys,rfl,hq,q⟩:=h
 obtain⟨u,rfl,rx⟩:=vals1 r
 cases rx
 have hn:=EO
 rcases hq with hq|hq
 ·obtain⟨its,r',pl,hz⟩:=I.list hq
  have hlen:=r'.length
  exact Calls.call_len_list pl.isList (by simp only[List.size_toArray]<;>omega) ⟨.int ys.length,H,I.tok _,⟨s.toks+1,by rw[List.size_toArray,hlen]⟩,q⟩
 ·obtain⟨its,r',pl,hz⟩:=I.tuple hq
  have hlen:=r'.length
  exact len_tuple pl (by simp only[List.size_toArray]<;>omega) ⟨.int ys.length,H,I.tok _,⟨s.toks+1,by rw[List.size_toArray,hlen]⟩,q⟩
theorem A4:Bs X (.builtin "len") (λxs H Q=>∃z,xs=[.str z]/\z.length<=sizeLine/\Q (.int z.length) H):=by
 intro pins s σ H xs us Q I r h
 obtain⟨z,rfl,hz,q⟩:=h
 obtain⟨u,rfl,t,rfl⟩:=vals1 r
 have hn:=EO
 exact len_str (by omega) ⟨.int z.length,H,I.tok _,⟨_,rfl⟩,q⟩
theorem Ej:Bs X (.type "list") (λxs H Q=>∃p ys,xs=[.ref p]/\(Am X.K H p ys\/Ar X.K H p ys)/\∀l,H l=none->Q (.ref l) (upd H l (.lst ys))):=by
 intro pins s σ H xs us Q I r h
 obtain⟨p,ys,rfl,hq,q⟩:=h
 obtain⟨u,rfl,rx⟩:=vals1 r
 cases rx
 have fin:∀(its:List Value),Vals ys its->ys.length<=sizeLine->∀(h':Heap) (c':Nat),(∀b o',s.heap.get? b=some o'->h'.get? b=some o')->
  h'.get? s.heap.objs.size=some { cls:=.type "list",dict:=none,data:=.seq its.toArray c',slots:=#[] }->EP X pins σ Q (.ref s.heap.objs.size) { s with heap:=h' }:=λits r' hz h' c' kp e=>
  ⟨.ref s.heap.objs.size,_,I.laid (t':=s.toks) kp (Nat.le_refl _) (show A2 X.prog X.w _ h' _ (.lst ys)from⟨hz,its,c',r',e⟩),rfl,q _ (I.hok.fresh (Nat.le_refl _))⟩
 rcases hq with hq|hq
 ·obtain⟨its,r',pl,hz⟩:=I.list hq
  have hlen:=r'.length
  obtain⟨o,ho,hc,n,hd⟩:=pl.isList
  exact call_list_seq p (.inl rfl) ho hc hd (λh' c' kp e=>fin its r' hz h' c' kp e) (by simp only[List.size_toArray]<;>omega)
 ·obtain⟨its,r',pl,hz⟩:=I.tuple hq
  have hlen:=r'.length
  obtain⟨o,ho,hc,n,hd⟩:=pl
  exact call_list_seq p (.inr rfl) ho hc hd (λh' c' kp e=>fin its r' hz h' c' kp e) (by simp only[List.size_toArray]<;>omega)
theorem BI:Bs X (.type "tuple") (λxs H Q=>∃p ys,xs=[.ref p]/\((Am X.K H p ys/\∀l,H l=none->Q (.ref l) (upd H l (.tup ys)))\/(Ar X.K H p ys/\Q (.ref p) H))):=by
 intro pins s σ H xs us Q I r h
 obtain⟨p,ys,rfl,h⟩:=h
 obtain⟨u,rfl,rx⟩:=vals1 r
 cases rx
 rcases h with⟨hq,q⟩|⟨hq,q⟩
 ·obtain⟨its,r',pl,hz⟩:=I.list hq
  have hlen:=r'.length
  refine call_tuple_list pl.isList (λh' kp=>?_) (by simp only[List.size_toArray]<;>omega)
  have I1:Inv X pins σ H { s with heap:=h' }:=I.kept (t':=s.toks) kp
  have I2:Inv X pins σ (upd H h'.objs.size (.tup ys)) { s with heap:=h'.push { cls:=.type "tuple",data:=.seq its.toArray } }:=
   I1.laid (t':=s.toks) (λb o e=>Heap.get?_push_of_some _ e) (Nat.le_refl _) (show A2 X.prog X.w _ _ _ (.tup ys)from⟨⟨hz,_,Heap.get?_push_size _ rfl,rfl⟩,its,r',IsTup.new _ _⟩)
  exact⟨.ref h'.objs.size,_,I2,rfl,q _ (I1.hok.fresh (Nat.le_refl _))⟩
 ·obtain⟨its,r',pl,hz⟩:=I.tuple hq
  exact call_tuple_same pl ⟨.ref p,H,I,rfl,q⟩
def UQ (K:PySem.W.Frag)(T:String)(x:V)(H:Hp):Prop:=match x with
 |.str _=>T="str"
 |.int _=>T="int"
 |.ref p=>(T="list"/\∃xs,Am K H p xs)\/(T="tuple"/\∃o,K.lookup p=some o/\o.cls=.type "tuple"/\o.dict=none)\/
  (T="dict"/\((∃kvs,H p=some (.dK kvs))\/∃kvs,H p=some (.dT kvs)))\/(T="set"/\∃S n,H p=some (.set S n))
 |_=>False
theorem Nv {pins:List (Addr×Obj)}{σ:St}{H:Hp}{s:Shared}{T:String}{x:V}{v:Value}(I:Inv X pins σ H s)(r:RelV x v)(ty:UQ X.K T x H):
 s.TypeIs v T/\∀a,v=.ref a->∃ob,s.heap.get? a=some ob/\ob.dict=none:=by
 cases x with
 |str z=>
  obtain⟨t,rfl⟩:=r
  cases(show T="str" from ty)
  exact⟨typeIs_str s z t,λ_ e=>nomatch e⟩
 |int i=>
  obtain⟨t,rfl⟩:=r
  cases(show T="int" from ty)
  exact⟨typeIs_int s i t,λ_ e=>nomatch e⟩
 |ref p=>
  cases r
  rcases ty with⟨rfl,xs,hq⟩|⟨rfl,o,hk,hc,hd⟩|⟨rfl,hk⟩|⟨rfl,S,n,hk⟩
  ·obtain⟨its,_,pl,_⟩:=I.list hq
   refine⟨pl.isList.typeIs,λa e=>?_⟩
   cases e
   obtain⟨o,n,e,c,hd,_⟩:=pl
   exact⟨o,e,hd⟩
  ·refine⟨⟨o,I.Gn p o hk,hc⟩,λa e=>?_⟩
   cases e
   exact⟨o,I.Gn _ o hk,hd⟩
  ·have z:∃o,s.heap.get? p=some o/\o.ExactDict:=by
    rcases hk with⟨kvs,hk⟩|⟨kvs,hk⟩
    ·obtain⟨_,_,_,_,o,_,_,e,ex,_⟩:=I.hok p _ hk
     exact⟨o,e,ex⟩
    ·obtain⟨_,_,_,_,o,_,_,e,ex,_⟩:=I.hok p _ hk
     exact⟨o,e,ex⟩
   obtain⟨o,e,ex⟩:=z
   refine⟨⟨o,e,ex.1⟩,λa e2=>?_⟩
   cases e2
   exact⟨o,e,ex.2.1⟩
  ·obtain⟨o,_,_,_,e,ex,_⟩:=I.hok p _ hk
   refine⟨⟨o,e,ex.1⟩,λa e2=>?_⟩
   cases e2
   exact⟨o,e,ex.2.1⟩
 |_=>exact False.elim ty
def UR (K:PySem.W.Frag)(T:String)(r:V->List V->Hp->VK->Prop)(to:TE):TE:=λσ H Q=>to σ H λx H1=>UQ K T x H1/\r x [] H1 Q
def U3 (K:PySem.W.Frag)(T:String)(r:V->List V->Hp->VK->Prop)(to:TE)(t:TA):TE:=λσ H Q=>to σ H λx H1=>UQ K T x H1/\t σ H1 λxs H2=>r x xs H2 Q
variable {o e:Expr}{es:List Expr}{to:TE}{t:TA}{name:Str}{apos cpos:Pos}{T id:String}{r:V->List V->Hp->VK->Prop}
theorem Nw (pa:PlainAttrs T)(slot:Slot T name id)(hty:typeOf (.builtin id)=pure (.type "method_descriptor"))(hm:UN X id r)(ho:PE X o to)
 (hbase:attributeBase o name X.env (eval o X.env)=eval o X.env:=by rfl)(hline:(apos.endLine==cpos.line)=true:=by rfl):PE X (.Call (.Attribute o name apos) [] [] cpos) (UR X.K T r to):=by
 intro pins s σ H Q I h
 refine wpAny_Call_method0_late hbase hline (BG (ho pins s σ H _ I h) λv s1 ⟨x,H1,I1,r1,ty,q1⟩=>?_)
 obtain⟨h1,h2⟩:=Nv I1 r1 ty
 exact⟨T,id,pa,slot,hty,h1,h2,Calls.callWith_builtin rfl (PySem.evalArgs_none (hm pins s1 σ H1 x [] v [] Q I1 r1 .nil q1))⟩
theorem Cp (pa:PlainAttrs T)(slot:Slot T name id)(hty:typeOf (.builtin id)=pure (.type "method_descriptor"))(hm:UN X id r)(ho:PE X o to)(ha:PA X (e::es) t)
 (hbase:attributeBase o name X.env (eval o X.env)=eval o X.env:=by rfl)
 (hfew:((backTo cpos (starEach (e::es) X.env)).all (λx=>!x.1)&&(backToKw cpos (keywordEach [] X.env)).all (λx=>x.1.isSome)
  &&decide ((e::es).length+([]:List Keyword).length+(if([]:List Keyword).isEmpty then 0 else 1) < 30))=true:=by rfl)
 (hline:(apos.endLine==cpos.line)=true:=by rfl)(hs:starEach (e::es) X.env=(false,eval e X.env)::starEach es X.env:=by rfl)(hplain:(backTo cpos (starEach es X.env)).any (·.1)=false:=by rfl):
 PE X (.Call (.Attribute o name apos) (e::es) [] cpos) (U3 X.K T r to t):=by
 intro pins s σ H Q I h
 refine wpAny_Call_method_late hbase hfew hline rfl (BG (ho pins s σ H _ I h) λv s1 ⟨x,H1,I1,r1,ty,q1⟩=>?_)
 obtain⟨h1,h2⟩:=Nv I1 r1 ty
 refine⟨T,id,pa,slot,hty,h1,h2,?_⟩
 have hA:=ha cpos pins s1 σ H1 _ I1 q1
 rw[hs]at hA ⊢
 refine Calls.callWith_builtin (by show(false||(backTo cpos (starEach es X.env)).any (·.1))=false;rw[hplain]<;>rfl) (Calls.evalArgs_plain ?_)
 exact BG hA λus s2 ⟨vs,H2,I2,r2,q2⟩=>hm pins s2 σ H2 x vs v us Q I2 r1 r2 q2
end
end L2
namespace L2
open PySem PySem.Spec PyProof.Rows
def Sy (X:Cx)(id:String)(r:V->List V->Hp->VK->Prop):Prop:=
 ∀(pins:List (Addr×Obj)) (s:Shared) (σ:St) (H:Hp) (x:V) (xs:List V) (v:Value) (us:List Value) (Q:VK),Inv X pins σ H s->RelV x v->Vals xs us->r x xs H Q->
  wpAny (model X.prog X.w) X.A (call (.builtin id) (v::us)) (EP X pins σ Q) X.xe s
theorem Vals.one:∀{x:V} {us:List Value},Vals [x] us->∃u,us=[u]/\RelV x u
 |_,_,.cons r .nil=>⟨_,rfl,r⟩
theorem Vals.zero:∀{us:List Value},Vals [] us->us=[]
 |_,.nil=>rfl
theorem Vals.dropLast {xs:List V}{us:List Value}(h:Vals xs us):Vals xs.dropLast us.dropLast:=by
 induction h with
 |nil=>exact .nil
 |cons r t ih=>
  cases t with
  |nil=>exact .nil
  |cons q t'=>exact .cons r ih
theorem Vals.rep {xs:List V}{us:List Value}(h:Vals xs us):∀k:Nat,Vals (List.replicate k xs).flatten (List.replicate k us).flatten
 |0=>.nil
 |k+1=>by
  rw[List.replicate_succ,List.replicate_succ,List.flatten_cons,List.flatten_cons]
  exact Vals.append h (Vals.rep h k)
theorem Kg {α:Type}(l:List α):l.eraseIdx (l.length - 1)=l.dropLast:=by
 induction l with
 |nil=>rfl
 |cons a r ih=>
  cases r with
  |nil=>rfl
  |cons b r=>
   have e:(a::b::r).length - 1=((b::r).length - 1)+1:=by
    have h1:(a::b::r).length=r.length+2:=rfl
    have h2:(b::r).length=r.length+1:=rfl
    omega
   rw[e,List.eraseIdx_cons_succ,ih]
   all_goals rfl
theorem foldl_rep (its:List Value):∀(k:Nat) (acc:List Value),
 List.foldl (λx1 x2=>x1++x2) acc.toArray (List.replicate k its.toArray)=(acc++(List.replicate k its).flatten).toArray
 |0,acc=>by simp
 |k+1,acc=>by
  have e:acc.toArray++its.toArray=(acc++its).toArray:=by simp
  have e2:(acc++its)++(List.replicate k its).flatten=acc++(List.replicate (k+1) its).flatten:=by
   rw[List.replicate_succ,List.flatten_cons,List.append_assoc]
  rw[<-e2,<-foldl_rep its k (acc++its),<-e,List.replicate_succ,List.foldl_cons]
section
variable {X:Cx}{pins:List (Addr×Obj)}{σ:St}{H:Hp}{s:Shared}{l b:Addr}{xs ys zs:List V}
theorem Inv.Nx {its its':List Value}{n:Nat}{f:Array Value->Array Value}{t':Nat}(I:Inv X pins σ H s)(hH:H l=some (.lst xs))
 (e:s.heap.get? l=some { cls:=.type "list",data:=.seq its.toArray n })(hf:f its.toArray=its'.toArray)(hv:Vals ys its')(hz:ys.length<=sizeLine):
 Inv X pins σ (upd H l (.lst ys)) { s with heap:=s.heap.update l (Obj.mapSeq f),toks:=t' }:=by
 have q:=PySem.IsL.update e f
 rw[hf]at q
 refine I.write (x:=l) (e:=l) (by rw[hH];exact trivial) (.inl rfl) (λb' u hb hu=>(Heap.get?_update_other s.heap (Obj.mapSeq f) (Ne.symm hb)).trans hu) ⟨_,q⟩ ?_
 exact⟨hz,its',_,hv,q⟩
theorem Inv.Ny {its:List Value}{t':Nat}(I:Inv X pins σ H s)(hv:Vals ys its)(hz:ys.length<=sizeLine):
 Inv X pins σ (upd H s.heap.objs.size (.lst ys)) { s with heap:=s.heap.push { cls:=.type "list",data:=.seq its.toArray },toks:=t' }:=
 I.laid (λ_ _ q=>Heap.get?_push_of_some _ q) (Nat.le_refl _) ⟨hz,its,0,hv,Heap.get?_push_size _ rfl⟩
theorem Inv.fresh (I:Inv X pins σ H s):H s.heap.objs.size=none:=I.hok.fresh (Nat.le_refl _)
theorem Inv.IE (I:Inv X pins σ H s)(hH:H l=some (.lst xs)):xs.length<=sizeLine/\∃(its:List Value) (n:Nat),Vals xs its/\xs.length=its.length/\s.heap.get? l=some { cls:=.type "list",data:=.seq its.toArray n }:=by
 obtain⟨z,its,n,r,e⟩:=I.hok l _ hH
 exact⟨z,its,n,r,r.length,e⟩
theorem JC {n:Nat}(h:n<=sizeLine):Builtin.List.listTooLong n=false:=by
 unfold Builtin.List.listTooLong
 exact decide_eq_false (by omega)
end
section
variable {X:Cx}
def QG:V->List V->Hp->VK->Prop:=λx vs H Q=>∃l xs y,x=.ref l/\vs=[y]/\H l=some (.lst xs)/\xs.length < sizeLine/\Q .A3 (upd H l (.lst (xs++[y])))
theorem BM:Sy X "list.append" QG:=by
 intro pins s σ H x vs v us Q I rx rv h
 obtain⟨l,xs,y,rfl,rfl,hH,hz,q⟩:=h
 cases rx
 obtain⟨u,rfl,ru⟩:=rv.one
 obtain⟨z,its,n,r,hl,e⟩:=I.IE hH
 refine call_meets F.slot_list_append ⟨_,e,rfl⟩ F.entry_list_append (F.args_list_append_2 _ _) (PySem.list_append l its.toArray n u (by rw[List.size_toArray];omega)) ⟨e,?_⟩
 refine⟨.A3,_,I.Nx (its':=its++[u]) hH e (by simp) (r.append (.cons ru .nil)) ?_,rfl,q⟩
 rw[List.length_append,List.length_singleton]
 omega
def QH:V->List V->Hp->VK->Prop:=λx vs H Q=>∃l b xs zs,x=.ref l/\vs=[.ref b]/\H l=some (.lst xs)/\H b=some (.lst zs)/\xs.length+zs.length<=sizeLine/\Q .A3 (upd H l (.lst (xs++zs)))
theorem Mk:Sy X "list.extend" QH:=by
 intro pins s σ H x vs v us Q I rx rv h
 obtain⟨l,b,xs,zs,rfl,rfl,hH,hB,hz,q⟩:=h
 cases rx
 obtain⟨u,rfl,ru⟩:=rv.one
 cases ru
 obtain⟨z,its,n,r,hl,e⟩:=I.IE hH
 obtain⟨z2,its2,n2,r2,hl2,e2⟩:=I.IE hB
 have hsz:its.toArray.size+its2.toArray.size<=sizeLine:=by rw[List.size_toArray,List.size_toArray];omega
 have hlong:¬(!its.toArray.isEmpty&&Builtin.List.listTooLong (its.toArray.size+its2.toArray.size))=true:=by
  rw[JC hsz,Bool.and_false]
  exact Bool.false_ne_true
 refine call_meets F.slot_list_extend ⟨_,e,rfl⟩ F.entry_list_extend (F.args_list_extend_2 _ _)
  (AutoSeq1.list_extend_list_list_0 l its.toArray n b its2.toArray n2 hlong (by rw[List.size_toArray];omega) (by omega)) ⟨e,e2,?_⟩
 refine⟨.A3,_,I.Nx (its':=its++its2) hH e (by simp) (r.append r2) ?_,rfl,q⟩
 rw[List.length_append]
 omega
def US:V->List V->Hp->VK->Prop:=λx vs H Q=>∃l xs y,x=.ref l/\vs=[]/\H l=some (.lst xs)/\xs[xs.length - 1]?=some y/\Q y (upd H l (.lst xs.dropLast))
theorem Nz:Sy X "list.pop" US:=by
 intro pins s σ H x vs v us Q I rx rv h
 obtain⟨l,xs,y,rfl,rfl,hH,hy,q⟩:=h
 cases rx
 have hus:=rv.zero
 subst hus
 obtain⟨z,its,n,r,hl,e⟩:=I.IE hH
 obtain⟨u,hu,ru⟩:=r.get hy
 have hy':its.toArray[its.toArray.size - 1]?=some u:=by
  show its.toArray[its.length - 1]?=some u
  rw[<-Array.getElem?_toList,<-hl]
  exact hu
 refine call_meets F.slot_list_pop ⟨_,e,rfl⟩ F.entry_list_pop (F.args_list_pop_1 _) (MeetsSeq.list_pop_last l its.toArray n u hy' (by rw[List.size_toArray];omega)) ⟨e,?_⟩
 refine⟨y,_,I.Nx (its':=its.dropLast) hH e ?_ r.dropLast ?_,ru,q⟩
 ·show its.toArray.eraseIdxIfInBounds (its.toArray.size - 1)=its.dropLast.toArray
  rw[List.size_toArray,List.eraseIdxIfInBounds_toArray,Kg]
 ·rw[List.length_dropLast]
  omega
def UT:R2:=λx y H Q=>∃l b xs zs,x=.ref l/\y=.ref b/\H l=some (.lst xs)/\H b=some (.lst zs)/\xs.length+zs.length<=sizeLine/\∀p,H p=none->Q (.ref p) (upd H p (.lst (xs++zs)))
theorem ER:DS X (binaryOp .Add) UT:=by
 intro pins s σ H x y v u Q I rx ry h
 obtain⟨l,b,xs,zs,rfl,rfl,hH,hB,hz,q⟩:=h
 cases rx
 cases ry
 obtain⟨z,its,n,r,hl,e⟩:=I.IE hH
 obtain⟨z2,its2,n2,r2,hl2,e2⟩:=I.IE hB
 refine PySem.P.add_list e e2 ?_ (by rw[List.size_toArray,List.size_toArray];omega)
 have ea:its.toArray++its2.toArray=(its++its2).toArray:=by simp
 rw[ea]
 exact⟨.ref _,_,I.Ny (t':=s.toks) (r.append r2) (by rw[List.length_append];omega),rfl,q _ I.fresh⟩
def UU:R2:=λx y H Q=>∃l k xs,x=.ref l/\y=.int k/\H l=some (.lst xs)/\-(2 ^ 63)<=k/\k < 2 ^ 63/\xs.length*k.toNat<=sizeLine/\
 ∀p,H p=none->Q (.ref p) (upd H p (.lst (List.replicate k.toNat xs).flatten))
theorem len_rep {α:Type}(xs:List α)(k:Nat):(List.replicate k xs).flatten.length=k*xs.length:=by
 induction k with
 |zero=>simp
 |succ k ih=>rw[List.replicate_succ,List.flatten_cons,List.length_append,ih,Nat.succ_mul,Nat.add_comm]
theorem Kh:DS X (binaryOp .Mult) UU:=by
 intro pins s σ H x y v u Q I rx ry h
 obtain⟨l,k,xs,rfl,rfl,hH,h1,h2,hz,q⟩:=h
 cases rx
 obtain⟨t,rfl⟩:=ry
 obtain⟨z,its,n,r,hl,e⟩:=I.IE hH
 have hlen:its.toArray.size*k.toNat<=sizeLine:=by rw[List.size_toArray,<-hl];exact hz
 have hcap:¬its.toArray.size*k.toNat > (2 ^ 63 - 1) / 8:=by
  have:(sizeLine:Nat)<=(2 ^ 63 - 1) / 8:=by decide
  omega
 have hfit:¬(!Builtin.List.listFitsIndex k)=true:=by
  rw[fitsIndex_both h1 h2]
  exact Bool.false_ne_true
 have hlong:¬Builtin.List.listTooLong (its.toArray.size*k.toNat)=true:=by
  rw[JC hlen]
  exact Bool.false_ne_true
 have hnew:List.foldl (λx1 x2=>x1++x2) #[] (List.replicate (if its.toArray.isEmpty=true then 0 else k.toNat) its.toArray)=(List.replicate k.toNat its).flatten.toArray:=by
  have f0:∀m:Nat,List.foldl (λx1 x2=>x1++x2) #[] (List.replicate m its.toArray)=(List.replicate m its).flatten.toArray:=λm=>by
   have:=foldl_rep its m []
   rw[List.nil_append]at this
   exact this
  rw[f0]
  cases its with
  |nil=>simp
  |cons a r'=>rw[if_neg (by simp)]
 refine wpAny_binaryOp_repeat_ref (T:="list") (U:="int") (by decide) ⟨_,e,rfl⟩ (λs'=>typeIs_int s' k t) noFill_list_mul F.fills_int_mul F.slot_int_rmul repeat_list F.slot_int_index.lookup
  (call_meets F.slot_int_rmul (typeIs_int s k t) F.entry_int_rmul (F.args_int_rmul_2 _ _) (int___rmul___int_list k t l its.toArray n)
   ⟨e,rfl,⟨_,e,rfl⟩,call_meets F.slot_list_mul ⟨_,e,rfl⟩ F.entry_list_mul (F.args_list_mul_2 _ _) (AutoListH.list___mul___list_int_3 l its.toArray n k t hfit hcap hlong) ⟨e,?_⟩⟩)
 rw[hnew]
 exact⟨.ref _,_,I.Ny (t':=s.toks) (r.rep k.toNat) (by rw[len_rep,Nat.mul_comm];exact hz),rfl,q _ I.fresh⟩
end
section
variable {prog:Program}{w:World}{A:Around}{E:Value->Shared->Prop}{s:Shared}
end
section
variable {X:Cx}
end
end L2
namespace Att
open PySem PySem.W PySem.Calls PyProof.Rows
theorem Fm {P:Params}{h:Heap}:∀(ns:List Int) (vs:List Value),WellAll P h vs (ns.map WData.int)->IntsAre vs ns:=by
 intro ns
 induction ns with
 |nil=>
  intro vs w
  rw[List.map_nil]at w
  cases w
  exact .nil
 |cons n ns ih=>
  intro vs w
  rw[List.map_cons]at w
  cases w with
  |cons a b=>
   cases a
   exact .cons _ _ (ih _ b)
theorem Ml {l:OpenLaw}{n:Nat}(hn:l.most=some n){P:Params}{h:Heap}{args:List WData}{vals:List Value}
 (hpre:l.row.toRowW.claim.pre args=true)(hwl:WellAll P h vals args):
 ∃a vs ns,vals=[Value.ref a]/\args=[WData.list (ns.map WData.int)]/\h.get? a=some { cls:=.type "list",data:=.seq vs.toArray }/\IntsAre vs ns/\ns.length<=n:=by
 have hsh:WShape.hasAll [] args [.list .int]=true:=(pre_splitW hpre).1
 have hc:l.pre.holds [] { args:=args }=true:=(pre_splitW hpre).2
 obtain⟨d,r,rfl,h1,h2⟩:=hasAllW_cons hsh
 obtain rfl:=hasAllW_nil h2
 obtain⟨xs,rfl,h3⟩:=hasW_list h1
 obtain⟨ns,rfl⟩:=items_int h3
 have hlen:ns.length<=n:=by
  unfold OpenLaw.pre at hc
  have h4:(WTm.not (.lt (.lit (.int (n:Int))) (.len (.arg 0)))).holds [] { args:=[.list (ns.map .int)] }=true:=by
   have h4:=(holds_andW hc).1
   rw[hn]at h4
   exact h4
  have h5:=condW_of h4 (w_not (w_lt w_lit (w_len_list (w_arg rfl))))
  rw[List.length_map]at h5
  refine Nat.le_of_not_lt λq=>?_
  have q':(n:Int) < ((ns.length:Nat):Int):=by omega
  first
   |(rw[decide_eq_true q']at h5;exact absurd h5 (by decide))
   |(simp at h5;omega)
 cases hwl with
 |cons w1 w2=>
  cases w2
  cases w1 with
  |list ho hall=>exact⟨_,_,ns,rfl,rfl,ho,Fm ns _ hall,hlen⟩
theorem Mm (l:OpenLaw)(args:List WData):l.row.toRowW.claim.post args (.bool true) args=true:=
 postW_of (r:=l.row.toRowW) (X:=(true==true))
  (show WShape.has [] (.bool true) .bool=true by first|rfl|decide|simp[WShape.has,WShape.arms,WShape.armsAll])
  (show(WTm.eq .res (.lit (.bool true))).value [] { args:=args,res:=some (.bool true),after:=args }=some (.bool (true==true))from w_eq_bool (w_res rfl) w_lit) rfl
theorem JD {l:OpenLaw}{n:Nat}{q:Program}{loose:List Str}{XP:(Str->Option Value)->Heap->Prop}{YP:World->Heap->Prop}{d:DefRec}
 (hn:l.most=some n)(hdf:d.params.defaults=[])
 (call:∀(w:World) (s₀ s₁:Shared) (mg mb:Str->Option Value) (fa:Addr) (o:Obj) (pm cd doc:Value) (a:Addr) (vs:List Value) (ns:List Int),
  Ground q loose [] XP w s₀ mg mb s₁.heap->YP w s₁.heap->
  s₁.heap.get? fa=some o->o.data=.func (docDef d.name d.params d.body d.scope pm cd doc)->s₁.heap.CodeRec cd d.name->mg d.name=some (.ref fa)->
  s₁.heap.get? a=some { cls:=.type "list",data:=.seq vs.toArray }->IntsAre vs ns->ns.length<=n->s₁.gens=#[]->
  codeAny (model l.prog w) callerA (.call (.ref fa) ⟨[.ref a],[]⟩) (λr s'=>r=.ok (.ret (.bool true))/\OldK s₁.heap s'.heap/\s'.os=s₁.os/\AllBare s'.gens) s₁):
 WalkO q loose XP YP l.row.toRowW d [] (λf vs=>PySem.call f vs):=by
 intro w s₀ s₁ mg mb G Y fa o pm cd doc dV kV ho hd hcd hD hmg hg args vals as hpre hlay hrd hwl hlo
 obtain rfl:dV=.none:=Dflts.none hD hdf
 obtain rfl:kV=.none:=Dflts.noKw hD
 obtain⟨a,vs,ns,rfl,rfl,hobj,hints,hlen⟩:=Ml hn hpre hwl
 refine enter_call (codeAny_mono (call w s₀ s₁ mg mb fa o pm cd doc a vs ns G Y ho (fd_plain hd) hcd hmg hobj hints hlen hg) λr s' hq=>?_)
 obtain⟨rfl,h2,h3,h4⟩:=hq
 exact⟨.inl ⟨.bool true,.bool true,[],rfl,λ_=>rfl,.bool true,Mm l _,λ_=>⟨List.Pairwise.nil,λ_ hm=>(nomatch hm)⟩⟩,h2,h3,h4⟩
section
variable {prog:Program}{w:World}{A:Around}{E:Value->Shared->Prop}{s:Shared}{K:Frag}
end
end Att
namespace L2
open PySem PySem.Spec PyProof.Rows
theorem HR:∀{vs:List Value} {ns:List Int},IntsAre vs ns->Vals (ns.map V.int) vs
 |_,_,.nil=>.nil
 |_,_,.cons n t h=>.cons ⟨t,rfl⟩ (HR h)
end L2
namespace L2
open PySem PySem.Spec PyProof.Rows
abbrev KOf {K:PySem.W.Frag}{h:Heap}(_:K.In h):PySem.W.Frag:=K
end L2
namespace L2
open PySem PySem.Spec PyProof.Rows
def Cq (s:Stmt):Arguments:=match s with
 |.FunctionDef _ a _ _ _ _ _ _ _ _=>a
 |_=>{ posonlyargs:=[],args:=[],vararg:=none,kwonlyargs:=[],kw_defaults:=[],kwarg:=none,defaults:=[] }
def Bw (s:Stmt):List Stmt:=match s with
 |.FunctionDef _ _ b _ _ _ _ _ _ _=>b
 |_=>[]
def AJ (s:Stmt):Scope:=match s with
 |.FunctionDef _ _ _ _ _ _ sc _ _ _=>sc
 |_=>{ kind:=.function,names:=[],isGenerator:=false,isCoroutine:=false }
abbrev CX0:Lg:=λ_ _ _ _ _ _=>False
abbrev E0:XK:=λ_ _ _=>False
theorem Sz {X:Cx}:Passes CX0 X E0:=λ_ _ _ _ _ _ _ h=>h.elim
structure Ra (K:PySem.W.Frag)(x qual:Str)(st:Stmt)(f:Addr)(fd:FuncData):Prop where
 ex:∃(oc:Value) (od:Option Addr) (kV doc pm:Value) (an:Option Addr) (cdv ct:Value) (osl:Array (Option Value)),
  fd=PySem.W.fnOf x qual (Cq st) (Bw st) (AJ st) .none kV doc pm an cdv ct/\K.lookup f=some ⟨oc,od,.func fd,osl⟩/\PySem.W.codeIn K cdv qual=true
 kp:PySem.W.keepIn K (.ref f)=true
section
variable {P:Program}{w:World}{K:PySem.W.Frag}{mg:Str->Option Value}{base:Heap}
theorem Ra.ok {x qual:Str}{st:Stmt}{f:Addr}{fd:FuncData}{N ps:List Str}{k:Nat}{sp:Sp}(F:Ra K x qual st f fd)(S:AW N ps (AJ st))(len:∀vs H Q E,sp vs H Q E->vs.length=ps.length)
 (hbody:∀(cdv:Value) (A:Around) (outer:List Env) (s:Shared) (H:Hp) (vs:List V) (Q:VK) (E:XK),B6 k (A.deeper (envOfC qual (AJ st) s.heap.objs.size f cdv))->sp vs H Q E->
  ∃t,Iq (Bp CX0 P w K mg base N qual (AJ st) f cdv A outer s H E).Ft (Bw st) t/\t { nx:=λ_ H'=>Q .A3 H',rt:=Q } (start N vs) H):Ef P w K mg base CX0 (k+1) f fd ps sp:=by
 obtain⟨oc,od,kV,doc,pm,an,cdv,ct,osl,rfl,lk,hcd⟩:=F.ex
 refine Nn lk hcd S len λA outer s H vs Q E hr hsp=>?_
 obtain⟨t,h,q⟩:=hbody cdv A outer s H vs Q E hr hsp
 exact⟨t,h.Ft,q⟩
theorem Ra.binds {x qual:Str}{st:Stmt}{f:Addr}{fd:FuncData}{ps:List Str}(F:Ra K x qual st f fd)
 (h:∀(kV doc pm:Value) (an:Option Addr) (cdv ct:Value) (us:List Value),us.length=ps.length->bindArgs (PySem.W.fnOf x qual (Cq st) (Bw st) (AJ st) .none kV doc pm an cdv ct) ⟨us,[]⟩=pure (ps.zip us)):Binds K fd ps []:=by
 obtain⟨oc,od,kV,doc,pm,an,cdv,ct,osl,rfl,lk,hcd⟩:=F.ex
 exact .all (h kV doc pm an cdv ct)
theorem Rb {x qual:Str}{st:Stmt}{f:Addr}{oc:Value}{od an:Option Addr}{osl:Array (Option Value)}{kV doc pm cdv ct:Value}(l:K.lookup f=some ⟨oc,od,.func (PySem.W.fnOf x qual (Cq st) (Bw st) (AJ st) .none kV doc pm an cdv ct),osl⟩)
 (c:PySem.W.codeIn K cdv qual=true)(k:PySem.W.keepIn K (.ref f)=true):Ra K x qual st f (PySem.W.fnOf x qual (Cq st) (Bw st) (AJ st) .none kV doc pm an cdv ct):=⟨⟨oc,od,kV,doc,pm,an,cdv,ct,osl,rfl,l,c⟩,k⟩
end
theorem Q3 {A:Around}{k:Nat}(hr:B6 k A):A.units+1 < cLine:=Nat.lt_of_le_of_lt (Nat.add_le_add_left (by decide:1<=64) _) hr.units
theorem AO {n:Nat}(h:n<=1000):n < sizeLine:=Nat.lt_of_le_of_lt h (by decide)
section
variable {X:Cx}
theorem pv (i:Nat){x:Str}{pos:Pos}(hN:X.N[i]?=some x:=by rfl)(hv:SN X.env.scope x:=by first|exact Or.inl rfl|exact Or.inr (Or.inl rfl)|exact Or.inr (Or.inr rfl))(hd:(x==("__debug__":Str))=false:=by decide)
 (hcd:(x==("__classdict__":Str))=false:=by decide):PE X (.Name x pos) (SW i):=RM hN hv hd hcd
end
theorem QI {A B:Prop}(h:B):if false=true then A else B:=by
 rw[if_neg Bool.false_ne_true]
 exact h
theorem IF {A B:Prop}(h:A):if true=true then A else B:=by
 rw[if_pos rfl]
 exact h
theorem CC {c A B:Prop}[Decidable c](h1:c->A)(h2:¬c->B):if c then A else B:=by
 by_cases h:c
 ·rw[if_pos h]
  exact h1 h
 ·rw[if_neg h]
  exact h2 h
def AG (H H':Hp):Prop:=∀b o,H b=some o->H' b=some o
theorem AG.refl (H:Hp):AG H H:=λ_ _ h=>h
theorem AG.trans {H H1 H2:Hp}(a:AG H H1)(b:AG H1 H2):AG H H2:=λc o h=>b c o (a c o h)
theorem AG.free {H H':Hp}(e:AG H H'){l:Addr}(h:H' l=Option.none):H l=Option.none:=by
 cases q:H l with
 |none=>rfl
 |some o=>
  rw[e l o q]at h
  cases h
end L2
set_option maxHeartbeats 16000000
namespace L2
open PySem PySem.Spec PyProof.Rows
theorem lookup_mem {α:Type}:∀{cl:List (Str×α)} {x:Str} {c:α},cl.lookup x=some c->(x,c)∈cl
 |[],_,_,h=>by simp at h
 |(y,d)::r,x,c,h=>by
  rw[List.lookup_cons]at h
  cases e:x==y with
  |true=>
   rw[e]at h
   have e':x=y:=eq_of_beq e
   cases h
   rw[e'];exact List.mem_cons_self
  |false=>
   rw[e]at h
   exact List.mem_cons_of_mem _ (lookup_mem h)
theorem EH {α:Type}:∀{cl:List (Str×α)} {x:Str} {c:α},(x,c)∈cl->∃c',cl.lookup x=some c'
 |[],_,_,h=>nomatch h
 |(y,d)::r,x,c,h=>by
  rw[List.lookup_cons]
  cases e:x==y with
  |true=>exact⟨d,rfl⟩
  |false=>
   rcases List.mem_cons.mp h with h|h
   ·cases h
    simp at e
   ·exact EH h
theorem ES {env:Env}{f:(Str×NameKind)->List (Str×Addr)->Sem (ForInStep (List (Str×Addr)))}
 (h1:∀x k cs,k≠NameKind.free->f (x,k) cs=pure (.yield cs))(h2:∀x cs c,env.cells.lookup x=some c->f (x,NameKind.free) cs=pure (.yield ((x,c)::cs))):
 ∀(names:List (Str×NameKind)) (acc:List (Str×Addr)),(∀x,(x,NameKind.free)∈names->∃c,env.cells.lookup x=some c)->
  ∃cl,forIn names acc f=pure cl/\(∀p∈cl,p∈acc\/env.cells.lookup p.1=some p.2)/\(∀p∈acc,p∈cl)/\∀x,(x,NameKind.free)∈names->∃c,(x,c)∈cl
 |[],acc,_=>⟨acc,rfl,λ_ h=>.inl h,λ_ h=>h,λ_ h=>nomatch h⟩
 |(x,k)::r,acc,h=>by
  by_cases hk:k=NameKind.free
  ·subst hk
   obtain⟨c,hc⟩:=h x List.mem_cons_self
   obtain⟨cl,e,a,b,d⟩:=ES h1 h2 r ((x,c)::acc) λy hy=>h y (List.mem_cons_of_mem _ hy)
   refine⟨cl,?_,λp hp=>?_,λp hp=>b p (List.mem_cons_of_mem _ hp),λy hy=>?_⟩
   ·rw[List.forIn_cons,h2 x acc c hc,pure_bind];exact e
   ·rcases a p hp with q|q
    ·rcases List.mem_cons.mp q with q|q
     ·subst q;exact .inr hc
     ·exact .inl q
    ·exact .inr q
   ·rcases List.mem_cons.mp hy with q|q
    ·cases q;exact⟨c,b _ List.mem_cons_self⟩
    ·exact d y q
  ·obtain⟨cl,e,a,b,d⟩:=ES h1 h2 r acc λy hy=>h y (List.mem_cons_of_mem _ hy)
   refine⟨cl,?_,a,b,λy hy=>?_⟩
   ·rw[List.forIn_cons,h1 x k acc hk,pure_bind];exact e
   ·rcases List.mem_cons.mp hy with q|q
    ·cases q;exact absurd rfl hk
    ·exact d y q
theorem DE {scope:Scope}{env:Env}(h:∀x,(x,NameKind.free)∈scope.names->∃c,env.cells.lookup x=some c):
 ∃cl,closureFor scope env=pure cl/\(∀x c,cl.lookup x=some c->env.cells.lookup x=some c)/\∀x,(x,NameKind.free)∈scope.names->∃c,cl.lookup x=some c:=by
 have go:=ES (env:=env) (f:=λx cs=>match x with|(name,kind)=>if(kind==NameKind.free)=true then do let a<-cellOf env name;pure (.yield ((name,a)::cs))else pure (.yield cs))
  (λx k cs hk=>by
   have:(k==NameKind.free)=false:=by simpa using hk
   simp only[this,Bool.false_eq_true,if_false])
  (λx cs c hc=>by
   simp only[beq_self_eq_true,if_true]
   unfold cellOf
   rw[hc,pure_bind])
  scope.names [] h
 obtain⟨cl,e,a,_,d⟩:=go
 refine⟨cl,?_,λx c hx=>?_,λx hx=>?_⟩
 ·unfold closureFor
  simp only[bind_pure]
  exact e
 ·rcases a _ (lookup_mem hx)with q|q
  ·exact nomatch q
  ·exact q
 ·obtain⟨c,hc⟩:=d x hx
  exact EH hc
theorem BJ {env:Env}{x:Str}{k:NameKind}:∀{names:List (Str×NameKind)},
 (names.map λ(n,k)=>if(k==NameKind.free&&env.scope.kind==.function&&env.kindOf n==some .cell)then(n,NameKind.cell)else(n,k)).lookup x=some k->
  names.lookup x=some k\/(k=.cell/\names.lookup x=some .free)
 |[],h=>by simp at h
 |(n,j)::r,h=>by
  have ih:=@BJ env x k r
  rw[List.lookup_cons]
  change List.lookup x ((if(j==NameKind.free&&env.scope.kind==.function&&env.kindOf n==some .cell)=true then(n,NameKind.cell)else(n,j))::_)=_ at h
  by_cases hc:(j==NameKind.free&&env.scope.kind==.function&&env.kindOf n==some .cell)=true
  ·rw[if_pos hc,List.lookup_cons]at h
   have hj:j=NameKind.free:=by
    simp only[Bool.and_eq_true]at hc
    exact eq_of_beq hc.1.1
   cases hx:x==n with
   |true=>rw[hx]at h;cases h;exact .inr ⟨rfl,by rw[hj]⟩
   |false=>rw[hx]at h;exact ih h
  ·rw[if_neg hc,List.lookup_cons]at h
   cases hx:x==n with
   |true=>rw[hx]at h;exact .inl h
   |false=>rw[hx]at h;exact ih h
def CW (X:Cx)(scope:Scope)(NL:List Str)(ix:List Nat)(cl:List (Str×Addr))(C:Addr)(s₃:Shared)(H₃:Hp)(fp:List Addr)(pins:List (Addr×Obj)):Cx where
 prog:=X.prog
 w:=X.w
 K:=X.K
 mg:=X.mg
 base:=X.base
 A:=X.A
 N:=NL++ix.map λj=>X.N.getD j ""
 s₀:=s₃
 H₀:=H₃
 env:=compEnvC scope cl C X.env
 outer:=X.stack
 stack:=X.stack
 ex:=fp
 fn:=λ_=>false
 calm:=X.calm
 pn:=X.pn++pins
 xe:=λ_ _=>False
def As (NL:List Str)(ix:List Nat)(σ:St):St:=NL.map (λ_=>none)++ix.map λj=>σ.getD j none
def Ki (X:Cx)(ifs:List Expr)(t:TT):Prop:=
 ∀(pins:List (Addr×Obj)) (s:Shared) (σ:St) (H:Hp) (Q:Bool->Hp->Prop),Inv X pins σ H s->t σ H Q->
  wpAny (model X.prog X.w) X.A (forIn ifs true λc r=>if r=true then do let ok<-isTrue c X.env (eval c X.env);pure (ForInStep.yield ok)else pure (ForInStep.yield r)) (TP X pins σ Q) X.xe s
def UW:TT:=λ_ H Q=>Q true H
theorem A5 {X:Cx}:Ki X [] UW:=λ_ _ _ H _ I h=>wpAny_tests_nil ⟨H,I,h⟩
theorem DZ {X:Cx}{c:Expr}{t:TT}(h:PT X c t):Ki X [c] t:=λpins s σ H Q I q=>wpAny_tests_one (h pins s σ H Q I q)
def N0 (NL:List Str)(ix:List Nat)(wi:TI)(g:TG)(tt:TT)(te:TE):TE:=λσ H Q=>
 wi σ H λJ H1=>∀acc,H1 acc=none->∃W:Nat->Nat->List V->Hp->Prop,(∃m,W 0 m [] (upd H1 acc (.lst [])))/\
  ∀i m ys H2,W i m ys H2->H2 acc=some (.lst ys)/\ys.length < sizeLine/\
   ((J.stop i H2/\Q (.ref acc) H2)\/(J.go i H2/\∃N:List V->Hp->Prop,(∀ys' H',N ys' H'->∃m',m' < m/\W (i+1) m' ys' H')/\
     ∀x H3,J.yld i H2 x H3->g x (As NL ix σ) H3 λσ' H4=>σ'.drop NL.length=ix.map (λj=>σ.getD j none)/\tt σ' H4 λb H5=>
      if b=true then te σ' H5 λv H6=>H6 acc=some (.lst ys)/\N (ys++[v]) (upd H6 acc (.lst (ys++[v])))else N ys H5))
section
variable {X:Cx}{pins:List (Addr×Obj)}{σ:St}{H:Hp}{s:Shared}
structure B1 (X:Cx)(scope:Scope)(NL:List Str)(ix:List Nat):Prop where
 kind:scope.kind=.function
 cell:∀y∈scope.names,y.2≠.cell
 names:∀y∈scope.names,y.2=.local->scope.names.lookup y.1=some .local
 free:∀y∈scope.names,y.2=.free->X.env.kindOf y.1=some .cell\/X.env.kindOf y.1=some .free
 cap:∀j∈ix,∃x,X.N[j]?=some x/\scope.names.lookup x=some .free
theorem N1 {scope:Scope}{NL:List Str}{ix:List Nat}{cl:List (Str×Addr)}{fp:List Addr}{tn:Nat->Heap->Prop}{s₃:Shared}{h₁:Heap}{m:Str->Option Value}{tk:Nat}
 (S:B1 X scope NL ix)(I:Inv X pins σ H s₃)(c1:∀x c,cl.lookup x=some c->X.env.cells.lookup x=some c)(c2:∀x,(x,NameKind.free)∈scope.names->∃c,cl.lookup x=some c)
 (hf:∀b∈fp,Bn X pins H b)(ho:∀b∈fp,∃o,s₃.heap.get? b=some o)(hn:h₁.Ns s₃.heap.objs.size m)(old:∀b o,s₃.heap.get? b=some o->h₁.get? b=some o):
 Inv (CW X scope NL ix cl s₃.heap.objs.size s₃ H fp pins) [] (As NL ix σ) H { s₃ with heap:=h₁,toks:=tk }:=by
 have e0:=I.Nl
 have lt:∀b o,s₃.heap.get? b=some o->b≠s₃.heap.objs.size:=λb o e=>Nat.ne_of_lt (Heap.lt_size e)
 have nst:∀b,b≠X.env.locals->b∉X.fs->b∉ED X.stack:=λb h1 h2 h3=>(List.mem_cons.mp (I.DT b h3)).elim h1 h2
 have ok:(CW X scope NL ix cl s₃.heap.objs.size s₃ H fp pins).Ok:=
  { mod:=I.ok.mod
    kind:=S.kind
    glob:=I.ok.glob
    blt:=I.ok.blt
    above:=Nat.le_refl _
    inj:=λx y c h1 h2=>I.ok.inj x y c (c1 x c h1) (c1 y c h2)
    has:=λx hx=>by
     have hfree:scope.names.lookup x=some .free:=by
      rcases hx with hx|hx
      ·rcases BJ hx with q|⟨_,q⟩
       ·exact absurd rfl (S.cell _ (lookup_mem q))
       ·exact q
      ·rcases BJ hx with q|⟨z,_⟩
       ·exact q
       ·cases z
     exact c2 x (lookup_mem hfree)
    cab:=λ_ _ z=>nomatch z
    hd:=I.ok.hd
    frames:=I.ok.frames
    stk:=.inl rfl
    exf:=λb hb=>⟨let⟨o,e⟩:=ho b hb;lt b o e,λx c hx=>(hf b hb).2.2.2.2.1 x c (c1 x c hx)⟩
    bs:=I.bs
    bsz:=e0.bsz
    noex:=λb o e hb=>by
     rcases(hf b hb).2.2.2.1 with z|z
     ·exact I.ok.noex b o e z
     ·exact absurd (Nat.lt_of_lt_of_le (Heap.lt_size e) (Nat.le_trans I.ok.bsz z)) (Nat.lt_irrefl _)
    exfs:=λb hb=>nst b (hf b hb).2.1 (hf b hb).2.2.1
    Cz:=e0.Cz
    frf:=e0.frf }
 refine⟨ok,rfl,I.bare,Un.kept old,⟨m,hn,λi x v e1 e2 e3=>?_⟩,λx c e=>?_,I.hok.fresh (Nat.le_refl _),λx c e=>I.freeC x c (c1 x c e),λp hp=>?_,I.hok.kept old,?_⟩
 ·have hl:NL.length<=i:=by
   rcases Nat.lt_or_ge i NL.length with z|z
   ·exfalso
    unfold As at e2
    rw[List.getElem?_append_left (by simpa using z),List.getElem?_map]at e2
    cases q:NL[i]? with
    |none=>rw[q]at e2;cases e2
    |some y=>rw[q]at e2;cases e2
   ·exact z
  unfold As at e2
  rw[List.getElem?_append_right (by simpa using hl),List.length_map,List.getElem?_map]at e2
  change(NL++ix.map λj=>X.N.getD j "")[i]?=some x at e1
  rw[List.getElem?_append_right hl,List.getElem?_map]at e1
  cases q:ix[i - NL.length]? with
  |none=>rw[q]at e1;cases e1
  |some j=>
   rw[q]at e1 e2
   have e1':X.N.getD j ""=x:=Option.some.inj e1
   have e2':σ.getD j none=some v:=Option.some.inj e2
   obtain⟨x',hx',hfr⟩:=S.cap j (List.mem_of_getElem? q)
   have exx:x'=x:=by
    rw[<-e1',List.getD_eq_getElem?_getD,hx'];rfl
   subst exx
   have hσ:σ[j]?=some (some v):=by
    rw[List.getD_eq_getElem?_getD]at e2'
    cases z:σ[j]? with
    |none=>rw[z]at e2';cases e2'
    |some o=>rw[z]at e2';exact congrArg some e2'
   have kd:=S.free _ (lookup_mem hfr) rfl
   have vis:SN X.env.scope x':=by
    rcases kd with z|z
    ·exact .inr (.inl z)
    ·exact .inr (.inr z)
   obtain⟨m',hn',hl'⟩:=I.loc
   obtain⟨u,r,l⟩:=hl' j x' v hx' hσ vis
   refine⟨u,r,.inr ?_⟩
   have hk':(compEnvC scope cl s₃.heap.objs.size X.env).kindOf x'=some .cell\/(compEnvC scope cl s₃.heap.objs.size X.env).kindOf x'=some .free:=by
    rcases e3 with z|z|z
    ·rcases BJ z with w|⟨w,_⟩
     ·rw[hfr]at w;cases w
     ·cases w
    ·exact .inl z
    ·exact .inr z
   refine⟨hk',?_⟩
   obtain⟨c,hc⟩:=c2 x' (lookup_mem hfr)
   rcases l with⟨k,_⟩|⟨k,c',ec,o,ho',hd⟩
   ·rcases kd with z|z
    ·rw[k]at z;cases z
    ·rw[k]at z;cases z
   ·have:c'=c:=by
     have:=c1 x' c hc
     rw[ec]at this
     exact Option.some.inj this
    subst this
    exact⟨c',hc,o,old _ _ ho',hd⟩
 ·obtain⟨v,o,ho',hd⟩:=I.cell x c (c1 x c e)
  exact⟨v,o,old _ _ ho',hd⟩
 ·have hp':p∈X.pn++pins:=by
   rcases List.mem_append.mp hp with z|z
   ·exact z
   ·exact nomatch z
  obtain⟨e,n,ne,nf,d⟩:=I.pin p hp'
  exact⟨old _ _ e,n,lt _ _ e,nst _ ne nf,d⟩
 ·show(NL.map (λ_=>(none:Option V))++ix.map λj=>σ.getD j none).length=(NL++ix.map λj=>X.N.getD j "").length
  simp
theorem JE {scope:Scope}{NL:List Str}{ix:List Nat}{elt tg iter:Expr}{ifs:List Expr}{pos:Pos}{g:TG}{tt:TT}{te:TE}{cl:List (Str×Addr)}{fp:List Addr}{it:Addr}{tn:Nat->Heap->Prop}{J:It}{Q:VK}
 {E:Value->Shared->Prop}{RR:Value->Addr->Result->Shared->Prop}
 (hc:X.calm=true)(S:B1 X scope NL ix)(c1:∀x c,cl.lookup x=some c->X.env.cells.lookup x=some c)(c2:∀x,(x,NameKind.free)∈scope.names->∃c,cl.lookup x=some c)
 (hb:∀(cl:List (Str×Addr)) (C:Addr) (s₃:Shared) (H₃:Hp) (fp:List Addr) (pins:List (Addr×Obj)),PG (CW X scope NL ix cl C s₃ H₃ fp pins) tg g/\Ki (CW X scope NL ix cl C s₃ H₃ fp pins) ifs tt/\PE (CW X scope NL ix cl C s₃ H₃ fp pins) elt te)
 (I:Inv X pins σ H s)(T:Turn X.prog X.w X.K tg J fp it tn)(st:tn 0 s.heap)(hf:∀b∈fp,Bn X pins H b)
 (q:∀acc,H acc=none->∃W:Nat->Nat->List V->Hp->Prop,(∃m,W 0 m [] (upd H acc (.lst [])))/\
  ∀i m ys H2,W i m ys H2->H2 acc=some (.lst ys)/\ys.length < sizeLine/\
  ((J.stop i H2/\Q (.ref acc) H2)\/(J.go i H2/\∃N:List V->Hp->Prop,(∀ys' H',N ys' H'->∃m',m' < m/\W (i+1) m' ys' H')/\
    ∀x H3,J.yld i H2 x H3->g x (As NL ix σ) H3 λσ' H4=>σ'.drop NL.length=ix.map (λj=>σ.getD j none)/\tt σ' H4 λb H5=>
     if b=true then te σ' H5 λv H6=>H6 acc=some (.lst ys)/\N (ys++[v]) (upd H6 acc (.lst (ys++[v])))else N ys H5)))
 (hRR:∀(acc C:Addr) (H':Hp) (s':Shared) (m':Str->Option Value),Inv X pins σ H' s'->s'.heap.Ns C m'->Bn X pins H' C->Q (.ref acc) H'->RR (.ref acc) C (.ok .next) s'):
 wpAny (model X.prog X.w) X.A (newList []) (λacc s₃=>wpAny (model X.prog X.w) X.A (newFunctionEnv scope X.env.globals cl [] X.env.qual none .none (some X.env)) (λcenv s₄=>
  codeAny (model X.prog X.w) X.A (.compStart (.ListComp elt [⟨tg,iter,ifs,0⟩] scope pos) 0 (.ref it) acc { cenv with scope:=relabel scope X.env }) (RR acc cenv.locals) s₄) E s₃) E s:=by
 refine wpAny_newObj_type (wpAny_newFunctionEnv S.cell (by intro y hy;simp at hy) (λh₁ hns₁ hsb₁=>?_) S.kind)
 have I3:Inv X pins σ (upd H s.heap.objs.size (.lst [])) { s with heap:=s.heap.push { cls:=.type "list",data:=.seq ([]:List Value).toArray },toks:=s.toks }:=I.Ny (its:=[]) .nil (Nat.zero_le _)
 have hfr:H s.heap.objs.size=none:=I.hok.fresh (Nat.le_refl _)
 generalize hs3:({ s with heap:=s.heap.push { cls:=.type "list",data:=.seq ([]:List Value).toArray },toks:=s.toks }:Shared)=s₃ at I3
 have hsz:s₃.heap.objs.size=s.heap.objs.size+1:=by rw[<-hs3];exact Heap.size_push ..
 have old1:∀b o,s.heap.get? b=some o->s₃.heap.get? b=some o:=λb o e=>by rw[<-hs3];exact Heap.get?_push_of_some _ e
 have key:codeAny (model X.prog X.w) X.A (.compStart (.ListComp elt [⟨tg,iter,ifs,0⟩] scope pos) 0 (.ref it) (.ref s.heap.objs.size) (compEnvC scope cl s₃.heap.objs.size X.env))
  (RR (.ref s.heap.objs.size) s₃.heap.objs.size) { s₃ with heap:=h₁,toks:=s₃.toks+0 }:=by
  have hns:h₁.Ns s₃.heap.objs.size (λ_=>none):=by
   have:=hns₁
   rw[<-hs3]
   exact this
  have hsb:Heap.SameBut s₃.heap.objs.size (s₃.heap.push { cls:=.type "dict",data:=.dict #[] }) h₁:=by
   have:=hsb₁
   rw[<-hs3]
   exact this
  have old:∀b o,s₃.heap.get? b=some o->h₁.get? b=some o:=λb o e=>hsb.extBut b o (Nat.ne_of_lt (Heap.lt_size e)) (Heap.get?_push_of_some _ e)
  have hf3:∀b∈fp,Bn X pins (upd H s.heap.objs.size (.lst [])) b:=λb hb'=>by
   obtain⟨o,e,_⟩:=T.obj 0 _ st b hb'
   have ne:b≠s.heap.objs.size:=Nat.ne_of_lt (Heap.lt_size e)
   exact⟨by rw[AH ne];exact(hf b hb').1,(hf b hb').2⟩
  have ho3:∀b∈fp,∃o,s₃.heap.get? b=some o:=λb hb'=>by
   obtain⟨o,e,_⟩:=T.obj 0 _ st b hb'
   exact⟨o,old1 b o e⟩
  have st1:tn 0 h₁:=T.keep 0 _ _ st λb hb' o e=>old b o (old1 b o e)
  have I4:=N1 (tn:=tn) (tk:=s₃.toks+0) S I3 c1 c2 hf3 ho3 hns old
  obtain⟨W,⟨m0,w0⟩,turn⟩:=q s.heap.objs.size hfr
  obtain⟨hg,ht,he⟩:=hb cl s₃.heap.objs.size s₃ (upd H s.heap.objs.size (.lst [])) fp pins
  generalize hX':CW X scope NL ix cl s₃.heap.objs.size s₃ (upd H s.heap.objs.size (.lst [])) fp pins=X' at I4 hg ht he
  have p1:X'.prog=X.prog:=by rw[<-hX'];rfl
  have p2:X'.w=X.w:=by rw[<-hX'];rfl
  have p3:X'.K=X.K:=by rw[<-hX'];rfl
  have p4:X'.A=X.A:=by rw[<-hX'];rfl
  have p5:X'.env=compEnvC scope cl s₃.heap.objs.size X.env:=by rw[<-hX'];rfl
  have p6:X'.calm=true:=by rw[<-hX'];exact hc
  have p7:X'.xe=λ_ _=>False:=by rw[<-hX'];rfl
  have stat:∀{H':Hp},(∀b∈fp,H' b=none)->∀b∈fp,Bn X' [] H' b:=λ{H'} hn b hb'=>by
   have z:=hf3 b hb'
   obtain⟨o,eo⟩:=ho3 b hb'
   rw[<-hX']
   refine⟨hn b hb',Nat.ne_of_lt (Heap.lt_size eo),λq=>(List.mem_cons.mp (I3.DT b q)).elim z.2.1 z.2.2.1,.inl hb',λx c hx=>z.2.2.2.2.1 x c (c1 x c hx),λp hp=>?_⟩
   rcases List.mem_append.mp hp with w|w
   ·exact z.2.2.2.2.2 p w
   ·exact nomatch w
  have fin:∀i n ys H' s',Inv X' [] (As NL ix σ) H' s'->W i n ys H'->Q (.ref s.heap.objs.size) H'->RR (.ref s.heap.objs.size) s₃.heap.objs.size (.ok .next) s':=λi n ys H' s' I' w' q'=>by
   obtain⟨m',hn',_⟩:=I'.loc
   have hos:s'.os=s₃.os:=by have:=I'.os;rw[<-hX']at this;exact this
   have hu:Un (ED X.stack) fp (upd H s.heap.objs.size (.lst [])) H' s₃.heap s'.heap:=by have:=I'.base;rw[<-hX']at this;exact this
   have hk:DQ X.prog X.w H' s'.heap:=by have:=I'.hok;rw[<-hX']at this;exact this
   have hfC:H' s₃.heap.objs.size=none:=by have:=I'.free;rw[<-hX']at this;exact this
   have hnC:s'.heap.Ns s₃.heap.objs.size m':=by rw[p5]at hn';exact hn'
   exact hRR _ _ H' s' m' (I3.Nc hos hu hk I'.bare λb hb'=>⟨(hf3 b hb').2.2.2.1,(hf3 b hb').2.1,(hf3 b hb').2.2.2.2.1,(hf3 b hb').2.2.2.2.2⟩) hnC (I3.Fl (Nat.le_refl _) hfC) q'
  have loop:∀s₄:Shared,Inv X' [] (As NL ix σ) (upd H s.heap.objs.size (.lst [])) s₄->tn 0 s₄.heap->codeAny (model X.prog X.w) X.A (.compLoop (.ListComp elt [⟨tg,iter,ifs,0⟩] scope pos) 0 (.ref it) (.ref s.heap.objs.size) (compEnvC scope cl s₃.heap.objs.size X.env))
   (RR (.ref s.heap.objs.size) s₃.heap.objs.size) s₄:=λs₄ I4 st1=>by
   refine codeAny_loop rfl (λn s'=>∃i ys H',Inv X' [] (As NL ix σ) H' s'/\tn i s'.heap/\(∀b∈fp,H' b=none)/\W i n ys H') (λn s' hI=>?_) m0 ⟨0,[],_,I4,st1,λb hb'=>(hf3 b hb').1,w0⟩
   obtain⟨i,ys,H',I',st',fr',w'⟩:=hI
   show wpAny _ X.A ((compTurn (.ListComp elt [⟨tg,iter,ifs,0⟩] scope pos) 0 (.ref it) (.ref s.heap.objs.size) (compEnvC scope cl s₃.heap.objs.size X.env)).onRaise (λx=>do noteFrame x (compEnvC scope cl s₃.heap.objs.size X.env);theTreesLotGoes x)) _ _ s'
   refine wpAny_noted ?_
   rw[compTurn_list]
   obtain⟨hacc,hz8,alt⟩:=turn i n ys H' w'
   rcases alt with⟨stop,qn⟩|⟨go,N,hN,step⟩
   ·have d:=T.done X' p1 p2 p3 p6 i [] s' (As NL ix σ) H' (notedBy (model X.prog X.w) X.A (compEnvC scope cl s₃.heap.objs.size X.env) λe s'=>RR (.ref s.heap.objs.size) s₃.heap.objs.size (.error e) s') I' (stat fr') st' stop
    rw[p4]at d
    refine wpAny_bind (wpAny_standAt (wpAny_bind (BG d λr s1 ⟨hr,I1⟩=>?_)))
    subst hr
    exact wpAny_pure (fin i n ys H' s1 I1 w' qn)
   ·have d:=T.item X' p1 p2 p3 p6 i [] s' (As NL ix σ) H' (notedBy (model X.prog X.w) X.A (compEnvC scope cl s₃.heap.objs.size X.env) λe s'=>RR (.ref s.heap.objs.size) s₃.heap.objs.size (.error e) s') I' (stat fr') st' go
    rw[p4]at d
    refine wpAny_bind (wpAny_standAt (wpAny_bind (BG d λr s1 ⟨u,hr,h4⟩=>?_)))
    subst hr
    refine wpAny_bind (BG h4 λ_ s5 ⟨x,H5,I5,r5,y5,st5,fr5⟩=>?_)
    have I5':=I5.pinned (stat fr5) (T.obj _ _ st5)
    have nofail:∀{α:Type} {t:Sem α} {R:α->Shared->Prop} {sx:Shared},wpAny (model X'.prog X'.w) X'.A t R X'.xe sx->wpAny (model X.prog X.w) X.A t R (notedBy (model X.prog X.w) X.A (compEnvC scope cl s₃.heap.objs.size X.env) λe s'=>RR (.ref s.heap.objs.size) s₃.heap.objs.size (.error e) s') sx:=λ{α t R sx} hh=>by
     rw[p1,p2,p4,p7]at hh
     exact wpAny_mono hh (λ_ _ z=>z) λ_ _ z=>z.elim
    have again:∀{σ7:St} {H7:Hp} {s7:Shared} {ys':List V},σ7.drop NL.length=ix.map (λj=>σ.getD j none)->Inv X' ([]++DW fp s5.heap) σ7 H7 s7->(∃m',m' < n/\W (i+1) m' ys' H7)->∃m,m < n/\∃i ys H',Inv X' [] (As NL ix σ) H' s7/\tn i s7.heap/\(∀b∈fp,H' b=none)/\W i m ys H':=λ{σ7 H7 s7 ys'} hσ I7 n7=>by
     obtain⟨m',hm,w7⟩:=n7
     have Iw:Inv X' ([]++DW fp s5.heap) (As NL ix σ) H7 s7:=I7.weak (by rw[I7.len,I'.len]) λj v hj=>by
      have hlj:NL.length<=j:=by
       rcases Nat.lt_or_ge j NL.length with z|z
       ·exfalso
        unfold As at hj
        rw[List.getElem?_append_left (by simpa using z),List.getElem?_map]at hj
        cases q:NL[j]? with
        |none=>rw[q]at hj;cases hj
        |some y=>rw[q]at hj;cases hj
       ·exact z
      unfold As at hj
      rw[List.getElem?_append_right (by simpa using hlj),List.length_map,<-hσ,List.getElem?_drop]at hj
      rw[<-hj]
      congr 1
      omega
     refine⟨m',hm,i+1,ys',H7,Iw.Cf,T.keep _ _ _ st5 λb hb' o e=>(I7.pin (b,o) (List.mem_append_right _ (List.mem_append_right _ (CD hb' e)))).1,λb hb'=>?_,w7⟩
     obtain⟨o,e,d⟩:=T.obj _ _ st5 b hb'
     exact(I7.pin (b,o) (List.mem_append_right _ (List.mem_append_right _ (CD hb' e)))).2.1
    have hg':=nofail (hg _ s5 (As NL ix σ) H5 x u _ I5' r5 (step x H5 y5))
    rw[p5]at hg'
    refine wpAny_bind (BG hg' λ_ s6 ⟨σ6,H6,I6,hσ6,q6⟩=>?_)
    have ht':=nofail (ht _ s6 σ6 H6 _ I6 q6)
    rw[p5]at ht'
    refine wpAny_bind (BG ht' λok s7 ⟨H7,I7,q7⟩=>?_)
    cases ok with
    |false=>
     have q7':N ys H7:=by simpa using q7
     exact wpAny_pure ⟨rfl,again hσ6 I7 (hN _ _ q7')⟩
    |true=>
     have q7':=(if_pos rfl).mp q7
     have he':=nofail (he _ s7 σ6 H7 _ I7 q7')
     rw[p5]at he'
     refine wpAny_bind (wpAny_bind (BG he' λv s8 ⟨y,H8,I8,r8,ha8,q8⟩=>?_))
     have ap:=nofail (BM _ s8 σ6 H8 (.ref s.heap.objs.size) [y] (.ref s.heap.objs.size) [v] (λ_ H9=>H9=upd H8 s.heap.objs.size (.lst (ys++[y]))) I8 rfl (.cons r8 .nil) ⟨_,ys,y,rfl,rfl,ha8,hz8,rfl⟩)
     refine wpAny_bind (BG ap λ_ s9 ⟨z,H9,I9,r9,e9⟩=>wpAny_pure (wpAny_pure ⟨rfl,?_⟩))
     subst e9
     exact again hσ6 I9 (hN _ _ q8)
  exact codeAny_compStart_list (loop _ I4 st1) (T.self X.A 0 _ _ _ st1 (loop _ I4 st1))
 exact key
theorem BL {scope:Scope}{NL:List Str}{ix:List Nat}{elt tg iter:Expr}{ifs:List Expr}{pos:Pos}{wi:TI}{g:TG}{tt:TT}{te:TE}
 (hc:X.calm=true)(hi:PI X tg iter wi)(S:B1 X scope NL ix)
 (hb:∀(cl:List (Str×Addr)) (C:Addr) (s₃:Shared) (H₃:Hp) (fp:List Addr) (pins:List (Addr×Obj)),PG (CW X scope NL ix cl C s₃ H₃ fp pins) tg g/\Ki (CW X scope NL ix cl C s₃ H₃ fp pins) ifs tt/\PE (CW X scope NL ix cl C s₃ H₃ fp pins) elt te)
 (hs:∀x,foldedSetIterable iter X.env x=pure x:=by intro _;rfl):PE X (.ListComp elt [⟨tg,iter,ifs,0⟩] scope pos) (N0 NL ix wi g tt te):=by
 intro pins s σ H Q I h
 obtain⟨cl,hcl,c1,c2⟩:=DE (scope:=scope) (env:=X.env) λx hx=>by
  rcases S.free _ hx rfl with z|z
  ·exact I.ok.has x (.inl z)
  ·exact I.ok.has x (.inr z)
 rw[eval_ListComp]
 refine wpAny_comprehension_free (use:=none) rfl hs hcl S.kind S.names (BG (hi pins s σ H _ I h) λxv s1 h1=>BG h1 λitv s2 h2=>?_)
 obtain⟨it,fp,tn,J,H2,rfl,I2,T,st2,f2,q⟩:=h2
 refine JE (RR:=λacc C=>compPost (model X.prog X.w) X.A X.xe none (EP X pins σ Q) acc C) hc S c1 c2 hb I2 T st2 f2 q ?_
 intro acc C H' s' m' I' hn fC q'
 refine⟨m',hn,λh' sb=>⟨.ref acc,H',?_,rfl,q'⟩⟩
 exact I'.turned (t':=s'.toks) (λb o hb e=>sb.extBut b o hb e) fC.1 fC.2.1 fC.2.2.2.1 fC.2.2.2.2.1 fC.2.2.2.2.2
theorem IG {i:Nat}{y:Str}{py spos:Pos}{scope:Scope}{NL:List Str}{ix:List Nat}{elt tg iter:Expr}{ifs:List Expr}{pos:Pos}{wi:TI}{g:TG}{tt:TT}{te:TE}
 (hN:X.N.Nodup)(hiy:X.N[i]?=some y)(hy:Loc X.env.scope y)
 (hc:X.calm=true)(hi:PI X tg iter wi)(S:B1 X scope NL ix)
 (hb:∀(cl:List (Str×Addr)) (C:Addr) (s₃:Shared) (H₃:Hp) (fp:List Addr) (pins:List (Addr×Obj)),PG (CW X scope NL ix cl C s₃ H₃ fp pins) tg g/\Ki (CW X scope NL ix cl C s₃ H₃ fp pins) ifs tt/\PE (CW X scope NL ix cl C s₃ H₃ fp pins) elt te)
 (hsw:swapsWith (.ListComp elt [⟨tg,iter,ifs,0⟩] scope pos) (some (.Name y py)) spos.line X.env=pure true:=by rfl)
 (hs:∀x,foldedSetIterable iter X.env x=pure x:=by intro _;rfl)
 (hf:X.fn y=true\/X.env.scope.names.lookup y=some .local:=by first|exact .inl rfl|exact .inr rfl|assumption):
 PS X (.Assign [.Name y py] (.ListComp elt [⟨tg,iter,ifs,0⟩] scope pos) spos) (P4 (N0 NL ix wi g tt te) (Ee i)):=by
 intro pins s σ H D I h
 obtain⟨cl,hcl,c1,c2⟩:=DE (scope:=scope) (env:=X.env) λx hx=>by
  rcases S.free _ hx rfl with z|z
  ·exact I.ok.has x (.inl z)
  ·exact I.ok.has x (.inr z)
 rw[exec_Assign_Name_used _ _ _ _ hsw]
 refine wpAny_bind (wpAny_standAt (wpAny_bind ?_))
 show wpAny _ X.A (do let _<-comprehension (.ListComp elt [⟨tg,iter,ifs,0⟩] scope pos) scope X.env _ (newList []) false (eval iter X.env) (some (assign (.Name y py) X.env))) _ _ s
 refine wpAny_bind (BG (wpAny_comprehension_free (use:=some (assign (.Name y py) X.env)) (Q:=λ_ s'=>SP X pins D .next s') rfl hs hcl S.kind S.names
  (BG (hi pins s σ H _ I h) λxv s1 h1=>BG h1 λitv s2 h2=>?_)) λ_ s' hq=>wpAny_pure (wpAny_pure hq))
 obtain⟨it,fp,tn,J,H2,rfl,I2,T,st2,f2,q⟩:=h2
 refine JE (RR:=λacc C=>compPost (model X.prog X.w) X.A X.xe (some (assign (.Name y py) X.env)) (λ_ s'=>SP X pins D .next s') acc C) (Q:=λx H1=>Ee i x σ H1 D.nx) hc S c1 c2 hb I2 T st2 f2 q ?_
 intro acc C H' s' m' I' hn fC q'
 show wpAny _ X.A (assign (.Name y py) X.env (.ref acc)) _ _ _
 refine wpAny_assign_Name (HK I' hN hiy hy (v:=.ref acc) rfl (λs'' I'' hsb=>?_) hf)
 obtain⟨a,sb,ha⟩:=hsb
 have hne:C≠a:=by
  rcases ha with z|z
  ·rw[z];exact fC.2.1
  ·exact λw=>fC.2.2.2.2.1 y a z w.symm
 refine⟨m',hn.sameBut sb hne,λh' sb'=>⟨_,H',?_,q'⟩⟩
 exact I''.turned (t':=s''.toks) (λb o hb e=>sb'.extBut b o hb e) fC.1 fC.2.1 fC.2.2.2.1 fC.2.2.2.2.1 fC.2.2.2.2.2
theorem Cr {J:It}{NL:List Str}{ix:List Nat}{g:TG}{tt:TT}{te:TE}{σ:St}{H1:Hp}{Qs:Hp->Prop}{acc:Addr}(n:Nat)(hn:n < 1000)(Pv:Nat->List V->Hp->Prop)
 (hacc:∀i ys H2,Pv i ys H2->H2 acc=some (.lst ys)/\ys.length<=i)(h0:Pv 0 [] (upd H1 acc (.lst [])))(hstop:∀ys H2,Pv n ys H2->J.stop n H2/\Qs H2)
 (hturn:∀i ys H2,i < n->Pv i ys H2->J.go i H2/\∀x H3,J.yld i H2 x H3->g x (As NL ix σ) H3 λσ' H4=>σ'.drop NL.length=ix.map (λj=>σ.getD j none)/\tt σ' H4 λb H5=>
  if b=true then te σ' H5 λv H6=>H6 acc=some (.lst ys)/\Pv (i+1) (ys++[v]) (upd H6 acc (.lst (ys++[v])))else Pv (i+1) ys H5):
 ∃W:Nat->Nat->List V->Hp->Prop,(∃m,W 0 m [] (upd H1 acc (.lst [])))/\
 ∀i m ys H2,W i m ys H2->H2 acc=some (.lst ys)/\ys.length < sizeLine/\
  ((J.stop i H2/\Qs H2)\/(J.go i H2/\∃N:List V->Hp->Prop,(∀ys' H',N ys' H'->∃m',m' < m/\W (i+1) m' ys' H')/\
    ∀x H3,J.yld i H2 x H3->g x (As NL ix σ) H3 λσ' H4=>σ'.drop NL.length=ix.map (λj=>σ.getD j none)/\tt σ' H4 λb H5=>
     if b=true then te σ' H5 λv H6=>H6 acc=some (.lst ys)/\N (ys++[v]) (upd H6 acc (.lst (ys++[v])))else N ys H5)):=by
 refine⟨λi m ys H2=>i<=n/\m=n - i/\Pv i ys H2,⟨n,Nat.zero_le _,rfl,h0⟩,λi m ys H2 ⟨hi,hm,hp⟩=>?_⟩
 obtain⟨a1,a2⟩:=hacc i ys H2 hp
 refine⟨a1,AO (by omega),?_⟩
 rcases Nat.lt_or_ge i n with lt|ge
 ·obtain⟨go,tn⟩:=hturn i ys H2 lt hp
  exact .inr ⟨go,Pv (i+1),λys' H' hN=>⟨n - (i+1),by omega,by omega,rfl,hN⟩,tn⟩
 ·have e:i=n:=by omega
  subst e
  exact .inl (hstop ys H2 hp)
end
end L2
namespace L2
open PySem PySem.Spec PyProof.Rows
section
variable {prog:Program}{w:World}{A:Around}{E:Value->Shared->Prop}{s:Shared}
theorem Ek {it t:Addr}{i:Nat}{items:Array Value}{x:Value}{Q:Value->Shared->Prop}(hit:s.heap.IsTupleIter it t i)
 (ht:s.heap.IsTuple t items)(hx:items[i]?=some x)
 (hQ:∀h',h'.IsTupleIter it t (i+1)->Heap.SameBut it s.heap h'->Q x { s with heap:=h' }):
 wpAny (model prog w) A (Builtin.SmallTypes.nextOf (.ref it)) Q E s:=by
 obtain⟨o,ho,hc,hd⟩:=id hit
 obtain⟨ol,hol,_,nl,hdl⟩:=ht
 unfold Builtin.SmallTypes.nextOf
 refine wpAny_bind (wpAny_callSpecial?_slot (name:=Str.ofString "__next__") hit.typeIs F.slot_tuple_iterator_next
  (wpAny_call_entry F.slot_tuple_iterator_next hit.typeIs F.entry_tuple_iterator_next ?_ (F.args_tuple_iterator_next_1 _)))
 show wpAny _ _ (field (.ref it) 0 >>= _) _ _ s
 refine wpAny_bind (wpAny_field ho hd (x:=.ref t) rfl ?_)
 show wpAny _ _ (if(Value.ref t==Value.none)=true then _ else _) _ _ s
 rw[if_neg (show¬((Value.ref t==Value.none)=true)from Bool.false_ne_true)]
 show wpAny _ _ (field (.ref it) 1 >>= _) _ _ s
 refine wpAny_bind (wpAny_field ho hd (x:=.int i 0) rfl ?_)
 show wpAny _ _ (seqItems? (.ref t) >>= _) _ _ s
 refine wpAny_bind (wpAny_seqItems hol hdl ?_)
 simp only[Int.toNat_natCast,hx]
 refine wpAny_bind (wpAny_setField ho hd (by simp) (wpAny_pure ⟨x,rfl,wpAny_pure (hQ _ ?_ (Heap.SameBut.update ..))⟩))
 exact⟨_,Heap.get?_update_self _ ho (Obj.isFreed_of_fields (Obj.data_mapFields hd _)),(Obj.cls_mapFields ..).trans hc,by
  rw[Obj.data_mapFields hd];simp[rawInt]⟩
theorem FH {it t:Addr}{i:Nat}{items:Array Value}{Q:Value->Shared->Prop}(hh:A.handled=none)
 (hit:s.heap.IsTupleIter it t i)(ht:s.heap.IsTuple t items)(hx:items[i]?=none)
 (hE:∀h' e,Heap.ExtBut it s.heap h'->(∃o,h'.get? e=some o/\o.cls=.type "StopIteration")->E (.ref e) { s with heap:=h' }):
 wpAny (model prog w) A (Builtin.SmallTypes.nextOf (.ref it)) Q E s:=by
 obtain⟨o,ho,hc,hd⟩:=id hit
 obtain⟨ol,hol,_,nl,hdl⟩:=ht
 unfold Builtin.SmallTypes.nextOf
 refine wpAny_bind (wpAny_callSpecial?_slot (name:=Str.ofString "__next__") hit.typeIs F.slot_tuple_iterator_next
  (wpAny_call_entry F.slot_tuple_iterator_next hit.typeIs F.entry_tuple_iterator_next ?_ (F.args_tuple_iterator_next_1 _)))
 show wpAny _ _ (field (.ref it) 0 >>= _) _ _ s
 refine wpAny_bind (wpAny_field ho hd (x:=.ref t) rfl ?_)
 show wpAny _ _ (if(Value.ref t==Value.none)=true then _ else _) _ _ s
 rw[if_neg (show¬((Value.ref t==Value.none)=true)from Bool.false_ne_true)]
 show wpAny _ _ (field (.ref it) 1 >>= _) _ _ s
 refine wpAny_bind (wpAny_field ho hd (x:=.int i 0) rfl ?_)
 show wpAny _ _ (seqItems? (.ref t) >>= _) _ _ s
 refine wpAny_bind (wpAny_seqItems hol hdl ?_)
 simp only[Int.toNat_natCast,hx]
 refine wpAny_bind (wpAny_rule (wpAny_bind (wpAny_setField ho hd (by simp) ?_)))
 show wpAny _ _ (newExc (.type "StopIteration") [] >>= _) _ _ _
 refine wpAny_bind ?_
 simp only[newExc,newTuple]
 refine wpAny_bind (wpAny_newObj_type ?_ (by size_fits))
 refine wpAny_bind (m:=firstArgMember _ _) (wpAny_of_eq (a:=Value.none) (by first|rfl|(simp only[firstArgMember];rfl)) ?_)
 refine wpAny_newObj_type ?_ (by size_fits)
 simp only[raiseNew]
 refine wpAny_bind (wpAny_handled ?_)
 first|rw[show A.in1.handled=none from hh]|rw[hh]
 refine wpAny_bind (wpAny_pure (wpAny_throw ?_))
 exact hE _ _ (((Heap.SameBut.update ..).extBut.push _).push _) ⟨_,Heap.get?_push_size _ rfl,rfl⟩
end
theorem JF {prog:Program}{w:World}{A:Around}(hh:A.handled=none)(it l:Addr)(hne:l≠it)(items:Array Value):
 Draws prog w A it [it,l] items.size (λi v=>items[i]?=some v) (λi h=>h.IsTupleIter it l i/\h.IsTuple l items) where
 live:=λ_ _ st=>let⟨o,ho,_⟩:=st.1;⟨o,ho⟩
 frame:=λ_ _ _ st hk=>⟨st.1.at λo e=>hk it (by simp) o e,let⟨o,ho,r⟩:=st.2;⟨o,hk l (by simp) o ho,r⟩⟩
 item:=λi s Q E hi st hQ=>by
  refine Ek st.1 st.2 (x:=items[i]) (by simp[hi]) λh' hit' hs'=>?_
  exact hQ _ h' s.toks (by simp[hi]) ⟨hit',st.2.extBut hs'.extBut hne⟩ hs'
 done:=λs Q E st hE=>FH hh st.1 st.2 (by simp) hE
theorem Mn {prog:Program}{w:World}{A:Around}(hh:A.handled=none)(it:Addr)(x:Str)(t:Tok):
 Draws prog w A it [it] x.cps.size (λi v=>∃c u,x.cps[i]?=some c/\v=.str ⟨#[c]⟩ u) (λi h=>h.IsStrIter it (strIterType x) x t i):=by
 unfold strIterType
 cases x.cps.all (·< 128)with
 |true=>exact Draws.strAscii hh it x t
 |false=>exact Draws.strWide hh it x t
inductive SK where
 |lst (a:Addr)|tup (a:Addr)|str (x:Str)
def SK.val:SK->V
 |.lst a=>.ref a
 |.tup a=>.ref a
 |.str x=>.str x
def signs (x:Str):List V:=x.cps.toList.map λc=>.str ⟨#[c]⟩
def SK.has (H:Hp):SK->List V->Prop
 |.lst a,xs=>Rd H a (.lst xs)
 |.tup a,xs=>Rd H a (.tup xs)
 |.str x,xs=>xs=signs x
def SK.own (it:Addr)(k:Nat)(h:Heap):SK->Prop
 |.lst a=>h.IsListIter it a k
 |.tup a=>h.IsTupleIter it a k
 |.str x=>∃t,h.IsStrIter it (strIterType x) x t k
theorem SK.Dc {it:Addr}{k:Nat}{h h':Heap}{κ:SK}(x:κ.own it k h)(e:∀o,h.get? it=some o->h'.get? it=some o):κ.own it k h':=by
 cases κ with
 |lst a=>exact Heap.IsListIter.at x e
 |tup a=>exact Heap.IsTupleIter.at x e
 |str y=>obtain⟨t,o,ho,r⟩:=x;exact⟨t,o,e o ho,r⟩
theorem SK.Bx {it:Addr}{k:Nat}{h:Heap}{κ:SK}(x:κ.own it k h):∃o,h.get? it=some o/\(∀v,o.data≠.cell v)/\o.cls≠.type "tuple"/\o.cls≠.type "zip"/\o.cls≠.type "enumerate":=by
 cases κ with
 |lst a=>obtain⟨o,ho,c,d⟩:=x;exact⟨o,ho,(λv z=>by rw[d]at z;cases z),(λz=>by rw[c]at z;simp at z),(λz=>by rw[c]at z;simp at z),(λz=>by rw[c]at z;simp at z)⟩
 |tup a=>obtain⟨o,ho,c,d⟩:=x;exact⟨o,ho,(λv z=>by rw[d]at z;cases z),(λz=>by rw[c]at z;simp at z),(λz=>by rw[c]at z;simp at z),(λz=>by rw[c]at z;simp at z)⟩
 |str y=>
  obtain⟨t,o,ho,c,d⟩:=x
  refine⟨o,ho,(λv z=>by rw[d]at z;cases z),?_,?_,?_⟩<;>
  ·intro z
   rw[c]at z
   unfold strIterType at z
   split at z<;>simp at z
theorem Rd.inj {H:Hp}{a:Addr}{u v:HO}(hu:∀o w,u≠.frz o w)(hv:∀o w,v≠.frz o w)(x:Rd H a u)(y:Rd H a v):u=v:=by
 rcases x with x|⟨o,x⟩<;>rcases y with y|⟨p,y⟩<;>rw[x]at y
 ·exact Option.some.inj y
 ·exact absurd (Option.some.inj y) (hu p v)
 ·exact absurd (Option.some.inj y).symm (hv o u)
 ·have:=Option.some.inj y
  injection this
theorem SK.inj {H:Hp}{κ:SK}{xs ys:List V}(x:κ.has H xs)(y:κ.has H ys):xs=ys:=by
 cases κ with
 |lst a=>have:=Rd.inj (u:=.lst xs) (v:=.lst ys) (λ_ _ z=>nomatch z) (λ_ _ z=>nomatch z) x y;injection this
 |tup a=>have:=Rd.inj (u:=.tup xs) (v:=.tup ys) (λ_ _ z=>nomatch z) (λ_ _ z=>nomatch z) x y;injection this
 |str z=>exact Eq.trans x (Eq.symm y)
def SK.box:SK->List Addr
 |.lst a=>[a]
 |.tup a=>[a]
 |.str _=>[]
theorem SK.Dd {H:Hp}{κ:SK}{xs:List V}(x:κ.has H xs){b:Addr}(hb:b∈κ.box):H b≠none:=by
 cases κ with
 |lst a=>have e:b=a:=by simpa[SK.box]using hb
         subst e;intro z;rcases x with q|⟨o,q⟩<;>(rw[z]at q;cases q)
 |tup a=>have e:b=a:=by simpa[SK.box]using hb
         subst e;intro z;rcases x with q|⟨o,q⟩<;>(rw[z]at q;cases q)
 |str z=>simp[SK.box]at hb
section
variable {X:Cx}{pins:List (Addr×Obj)}{σ:St}{H:Hp}{s:Shared}
theorem Bt {κ:SK}{it:Addr}{k:Nat}{xs:List V}{A:Around}(I:Inv X pins σ H s)(hv:κ.has H xs)(hit:κ.own it k s.heap)(hn:H it=none)(hh:A.handled=none):
 ∃(P:Nat->Value->Prop) (St:Nat->Heap->Prop),Draws X.prog X.w A it (it::κ.box) xs.length P St/\St k s.heap/\(∀i u,P i u->∃x,xs[i]?=some x/\RelV x u)/\(∀i h,St i h->κ.own it i h):=by
 have ne:∀b∈κ.box,b≠it:=λb hb z=>SK.Dd hv hb (by rw[z];exact hn)
 cases κ with
 |lst a=>
  obtain⟨_,its,n,r,e⟩:=Rd.ok hv I.hok
  have hl:s.heap.IsList a its.toArray:=⟨_,e,rfl,n,rfl⟩
  have D:=Draws.list (prog:=X.prog) (w:=X.w) hh it a (ne a (by simp[SK.box])) its.toArray
  rw[List.size_toArray,<-r.length]at D
  refine⟨_,_,D,⟨hit,hl⟩,λi u hu=>?_,λi h st=>st.1⟩
  ·have hu':its[i]?=some u:=by simpa using hu
   have hlt:i < xs.length:=by rw[r.length];exact(List.getElem?_eq_some_iff.mp hu').1
   obtain⟨u',e1,e2⟩:=r.get (List.getElem?_eq_getElem hlt)
   rw[hu']at e1;cases e1
   exact⟨_,List.getElem?_eq_getElem hlt,e2⟩
 |tup a=>
  obtain⟨_,its,r,ht⟩:=Rd.ok hv I.hok
  have hl:s.heap.IsTuple a its.toArray:=ht
  have D:=JF (prog:=X.prog) (w:=X.w) hh it a (ne a (by simp[SK.box])) its.toArray
  rw[List.size_toArray,<-r.length]at D
  refine⟨_,_,D,⟨hit,hl⟩,λi u hu=>?_,λi h st=>st.1⟩
  ·have hu':its[i]?=some u:=by simpa using hu
   have hlt:i < xs.length:=by rw[r.length];exact(List.getElem?_eq_some_iff.mp hu').1
   obtain⟨u',e1,e2⟩:=r.get (List.getElem?_eq_getElem hlt)
   rw[hu']at e1;cases e1
   exact⟨_,List.getElem?_eq_getElem hlt,e2⟩
 |str z=>
  obtain⟨t,hit⟩:=hit
  have hv':xs=signs z:=hv
  subst hv'
  have D:=Mn (prog:=X.prog) (w:=X.w) hh it z t
  have e:(signs z).length=z.cps.size:=by simp[signs]
  rw[<-e]at D
  refine⟨_,_,D,hit,λi u hu=>?_,λi h st=>⟨t,st⟩⟩
  ·obtain⟨c,u',hc,rfl⟩:=hu
   refine⟨.str ⟨#[c]⟩,?_,⟨u',rfl⟩⟩
   simp only[signs,List.getElem?_map,Array.getElem?_toList,hc,Option.map_some]
theorem Inv.FI {ch:List Addr}{p:Addr}{o:HO}{h':Heap}{tk:Nat}(I:Inv X pins σ H s)
 (hch:∀b∈ch,Bn X pins H b)(k:∀b ob,b∉ch->s.heap.get? b=some ob->h'.get? b=some ob)(hp:s.heap.objs.size<=p)(new:A2 X.prog X.w (upd H p o) h' p o):
 Inv X pins σ (upd H p o) { s with heap:=h',toks:=tk }:=by
 have hn:H p=none:=I.hok.fresh hp
 refine I.call (g':=s.gens) (d':=s.drawn) (ch:=ch) ⟨λb u q _ _ hx=>k b u hx q,λb u q _ _ hx=>⟨u.slots,k b u hx q⟩,λb u q n _=>?_,λb u q hx=>⟨u,k b u hx q⟩,λb xs q=>?_,λb u xs q=>?_,λb ps q=>⟨#[],?_⟩⟩ (λb u e=>?_) I.bare
  λb hb=>⟨(hch b hb).2.2.2.1,(hch b hb).2.1,(hch b hb).2.2.2.2.1,(hch b hb).2.2.2.2.2⟩
 ·rw[AH (Nat.ne_of_lt (Nat.lt_of_lt_of_le (Heap.lt_size q) hp))];exact n
 ·rw[AH (AI q hn)];exact q
 ·rw[AH (AI q hn)];exact q
 ·rw[AH (AI q hn),q];simp
 ·by_cases hb:b=p
  ·subst hb;rw[AB]at e;cases e;exact new
  ·rw[AH hb]at e
   refine(I.hok b u e).EC (λc v hc q=>k c v (λhm=>?_) q) (λc q=>by rw[AH (AI q hn)];exact q) λc xs q=>by rw[AH (AI q hn)];exact q
   have z:=(hch c hm).1
   rcases hc with hc|hc
   ·rw[hc,e]at z;cases z
   ·rw[hc]at z;cases z
theorem Inv.DF {ch:List Addr}{h':Heap}{tk:Nat}(I:Inv X pins σ H s)
 (hch:∀b∈ch,Bn X pins H b)(k:∀b ob,b∉ch->s.heap.get? b=some ob->h'.get? b=some ob):Inv X pins σ H { s with heap:=h',toks:=tk }:=by
 refine I.call (g':=s.gens) (d':=s.drawn) (ch:=ch) ⟨λb u q _ _ hx=>k b u hx q,λb u q _ _ hx=>⟨u.slots,k b u hx q⟩,λb u q n _=>n,λb u q hx=>⟨u,k b u hx q⟩,λb xs q=>q,λb u xs q=>q,λb ps q=>⟨#[],by rw[q];simp⟩⟩ (λb u e=>?_) I.bare
  λb hb=>⟨(hch b hb).2.2.2.1,(hch b hb).2.1,(hch b hb).2.2.2.2.1,(hch b hb).2.2.2.2.2⟩
 refine(I.hok b u e).EC (λc v hc q=>k c v (λhm=>?_) q) (λ_ q=>q) λ_ _ q=>q
 have z:=(hch c hm).1
 rcases hc with hc|hc
 ·rw[hc,e]at z;cases z
 ·rw[hc]at z;cases z
end
def Q4 (κ:SK):It:=
 ⟨λi H=>∃xs x,κ.has H xs/\xs[i]?=some x,λi H v H'=>∃p x,v=.ref p/\H p=none/\H'=upd H p (.tup [.int i,x])/\∀xs,κ.has H xs->xs[i]?=some x,λi H=>∃xs,κ.has H xs/\xs.length=i⟩
theorem Mo {P:Program}{w:World}{K:PySem.W.Frag}{elts:List Expr}{x1:Nat}{tpos:Pos}(κ:SK)(e it:Addr)(hei:e≠it):
 Turn P w K (.Tuple elts x1 tpos) (Q4 κ) [e,it] e (λi h=>(∃old,IsEnum h e it i old)/\κ.own it i h) where
 mem:=by simp
 obj:=λi h st b hb=>by
  obtain⟨⟨old,he⟩,ho⟩:=st
  simp only[List.mem_cons,List.not_mem_nil,or_false]at hb
  rcases hb with rfl|rfl
  ·exact⟨_,he,λv z=>by
    have z':Data.fields _=Data.cell v:=z
    cases z'⟩
  ·obtain⟨o,h1,h2,_⟩:=SK.Bx ho
   exact⟨o,h1,h2⟩
 keep:=λi h h' st k=>by
  obtain⟨⟨old,he⟩,ho⟩:=st
  exact⟨⟨old,k e (by simp) _ he⟩,SK.Dc ho λo q=>k it (by simp) o q⟩
 item:=by
  intro X hP hw hK hc i pins s σ H E I hf st hg
  subst hP hw hK
  obtain⟨⟨old,he⟩,ho⟩:=st
  obtain⟨xs,x,hx,hxi⟩:=hg
  have hlt:i < xs.length:=(List.getElem?_eq_some_iff.mp hxi).1
  have hh:X.A.in1.handled=none:=I.ok.hd hc
  obtain⟨Pp,St,D,hst,hrel,hown⟩:=Bt (A:=X.A.in1) I hx ho (hf it (by simp)).1 hh
  have hef:e∉it::κ.box:=λz=>by
   rcases List.mem_cons.mp z with z|z
   ·exact hei z
   ·exact SK.Dd hx z (hf e (by simp)).1
  refine wpAny_pyNext_enum_itemD D he hst hlt hei hef λy h' tk hy ho' hst' hT hsz hk=>⟨_,rfl,?_⟩
  refine wpAny_letOwnedTupleGo_enum ho' λh'' he'' hs''=>?_
  obtain⟨x',hx',rx⟩:=hrel i y hy
  have exx:x'=x:=Option.some.inj (hx'.symm.trans hxi)
  subst exx
  have kk:∀b ob,b∉[e,it]->s.heap.get? b=some ob->h''.get? b=some ob:=λb ob hb q=>
   (hs''.2 b (λz=>hb (by simp[z]))).trans (hk b ob (λz=>hb (by simp[z])) (λz=>hb (by simp[z])) q)
  have ne:s.heap.objs.size≠e:=Nat.ne_of_gt (Heap.lt_size he)
  have hT':h''.get? s.heap.objs.size=some { cls:=.type "tuple",data:=.seq #[.int i tk,y] }:=(hs''.2 _ ne).trans hT
  refine⟨.ref s.heap.objs.size,upd H s.heap.objs.size (.tup [.int i,x']),I.FI (tk:=tk+1) hf kk (Nat.le_refl _) ⟨⟨(by show 2<=sizeLine;decide),_,hT',rfl⟩,[.int i tk,y],.cons ⟨tk,rfl⟩ (.cons rx .nil),_,hT',rfl,0,rfl⟩,rfl,
   ⟨_,x',rfl,I.hok.fresh (Nat.le_refl _),rfl,λys hy'=>by rw[SK.inj hy' hx];exact hxi⟩,⟨⟨y,by simpa using he''⟩,SK.Dc (hown _ _ hst') λo q=>(hs''.2 it (Ne.symm hei)).trans q⟩,λb hb=>?_⟩
  obtain⟨o,hob,_⟩:∃o,s.heap.get? b=some o/\True:=by
   simp only[List.mem_cons,List.not_mem_nil,or_false]at hb
   rcases hb with rfl|rfl
   ·exact⟨_,he,trivial⟩
   ·obtain⟨o,h1,_⟩:=SK.Bx ho;exact⟨o,h1,trivial⟩
  rw[AH (Nat.ne_of_lt (Heap.lt_size hob))]
  exact(hf b hb).1
 done:=by
  intro X hP hw hK hc i pins s σ H E I hf st hg
  subst hP hw hK
  obtain⟨⟨old,he⟩,ho⟩:=st
  obtain⟨xs,hx,hlen⟩:=hg
  have hh:X.A.in1.handled=none:=I.ok.hd hc
  obtain⟨Pp,St,D,hst,hrel,hown⟩:=Bt (A:=X.A.in1) I hx ho (hf it (by simp)).1 hh
  have hst':St xs.length s.heap:=by rw[hlen];exact hst
  refine wpAny_pyNext_enum_endD D he hst' λh' hx'=>⟨rfl,?_⟩
  have f:=hf it (by simp)
  exact I.turned (t':=s.toks) (λb o hb q=>hx' b o hb q) f.1 f.2.1 f.2.2.2.1 f.2.2.2.2.1 f.2.2.2.2.2
 self:=λ_ _ _ _ _ st h=>let⟨⟨_,he⟩,_⟩:=st;wpAny_pyIter_enum he h
open AutoSeq1 (wpAny_loadPart') in
set_option maxHeartbeats 4000000 in
theorem De (l:Addr)(items:Array Value)(n:Nat)(dct:Option Addr)(sl:Array (Option Value)):
 Meets (Builtin.«enumerate.__new__» ⟨[.type "enumerate",.ref l],[]⟩) (λ_ R s=>s.heap.get? l=some { cls:=.type "tuple",dict:=dct,data:=.seq items n,slots:=sl }/\
  R (.ok (.ret (.ref (s.heap.push { cls:=.type "tuple_iterator",data:=.fields #[.ref l,.int 0 0] }).objs.size)))
   { s with heap:=(s.heap.push { cls:=.type "tuple_iterator",data:=.fields #[.ref l,.int 0 0] }).push { cls:=.type "enumerate",data:=.fields #[.none,.bool false,.ref s.heap.objs.size,rawInt 0,.none,.none] } }):=
 .of_wp λprog w A R s h=>by
  obtain⟨hp,g,d,tk,os⟩:=s;obtain⟨hl,h⟩:=h
  have hsub:=sub_enumerate
  have hL:Heap.IsTuple (Shared.heap ⟨hp,g,d,tk,os⟩) l items:=⟨_,hl,rfl,n,rfl⟩
  wp_walk using wpAny_loadPart' hl
  refine wpAny_stack_any λst=>wpAny_pure ?_
  split
  ·rename_i c _ _ _ _ _
   cases(c==Value.type "enumerate")
   ·wp_walk using wpAny_loadPart' hl,wpAny_pyIter_tuple hL
    exact⟨_,rfl,h⟩
   ·wp_walk using wpAny_loadPart' hl,wpAny_pyIter_tuple hL
    exact⟨_,rfl,h⟩
  ·wp_walk using wpAny_loadPart' hl,wpAny_pyIter_tuple hL
   exact⟨_,rfl,h⟩
theorem Dg {prog:Program}{w:World}{A:Around}{E:Value->Shared->Prop}{s:Shared}{l:Addr}{items:Array Value}{Q:Value->Shared->Prop}(hL:s.heap.IsTuple l items)
 (h:∀h',IsEnum h' (s.heap.objs.size+1) s.heap.objs.size 0 .none->h'.IsTupleIter s.heap.objs.size l 0->h'.objs.size=s.heap.objs.size+2->
  (∀b o,s.heap.get? b=some o->h'.get? b=some o)->Q (.ref (s.heap.objs.size+1)) { s with heap:=h' }):
 wpAny (model prog w) A (call (.type "enumerate") [.ref l]) Q E s:=by
 obtain⟨⟨c,dct,dt,sl⟩,hl,hc,n,hd⟩:=hL
 replace hc:c=.type "tuple":=hc
 replace hd:dt=.seq items n:=hd
 subst hc hd
 refine callType_new F.called_enumerate (by decide) (F.typeCall_enumerate_1 _) (F.newCall_enumerate_1 _) (λobj=>F.args_object_init_2 obj _) F.entry_enumerate_new
  (De l items n dct sl) ⟨hl,?_⟩
 have hz:(s.heap.push { cls:=.type "tuple_iterator",data:=.fields #[.ref l,.int 0 0] }).objs.size=s.heap.objs.size+1:=Heap.size_push ..
 show _/\_
 rw[hz]
 have he:IsEnum ((s.heap.push { cls:=.type "tuple_iterator",data:=.fields #[.ref l,.int 0 0] }).push
  { cls:=.type "enumerate",data:=.fields #[.none,.bool false,.ref s.heap.objs.size,rawInt 0,.none,.none] }) (s.heap.objs.size+1) s.heap.objs.size 0 .none:=by
  have:=Heap.get?_push_size (s.heap.push { cls:=.type "tuple_iterator",data:=.fields #[.ref l,.int 0 0] })
   (o:={ cls:=.type "enumerate",data:=.fields #[.none,.bool false,.ref s.heap.objs.size,rawInt 0,.none,.none] }) rfl
  rw[hz]at this;exact this
 refine⟨⟨_,he,rfl⟩,h _ he ⟨_,Heap.get?_push_of_some _ (Heap.get?_push_size _ rfl),rfl,rfl⟩ (by rw[Heap.size_push,hz]) λb o x=>Heap.get?_push_of_some _ (Heap.get?_push_of_some _ x)⟩
section
variable {X:Cx}{pins:List (Addr×Obj)}{σ:St}{H:Hp}{s:Shared}
theorem Mp {κ:SK}{xs:List V}{u:Value}{E:Value->Shared->Prop}{Q:Value->Shared->Prop}(I:Inv X pins σ H s)(hv:κ.has H xs)(r:RelV κ.val u)
 (h:∀h',IsEnum h' (s.heap.objs.size+1) s.heap.objs.size 0 .none->κ.own s.heap.objs.size 0 h'->(∀b o,s.heap.get? b=some o->h'.get? b=some o)->Q (.ref (s.heap.objs.size+1)) { s with heap:=h' }):
 wpAny (model X.prog X.w) X.A (call (.type "enumerate") [u]) Q E s:=by
 cases κ with
 |lst a=>
  cases(show u=Value.ref a from r)
  obtain⟨_,its,n,rr,e⟩:=Rd.ok hv I.hok
  exact call_enumerate_list ⟨_,e,rfl,n,rfl⟩ λh' a1 a2 _ a4=>h h' a1 a2 a4
 |tup a=>
  cases(show u=Value.ref a from r)
  obtain⟨_,its,rr,e⟩:=Rd.ok hv I.hok
  exact Dg e λh' a1 a2 _ a4=>h h' a1 a2 a4
 |str x=>
  obtain⟨t,q⟩:=(show∃t,u=Value.str x t from r)
  subst q
  exact call_enumerate_str λh' a1 a2 _ a4=>h h' a1 ⟨t,a2⟩ a4
def S0 (ta:TA):TI:=λσ H R=>ta σ H λvs H1=>∃κ:SK,vs=[κ.val]/\(∃xs,κ.has H1 xs)/\R (Q4 κ) H1
theorem D3 {a:Expr}{ta:TA}{p pos:Pos}{elts:List Expr}{x1:Nat}{tpos:Pos}(hg:Gl X "enumerate")(hm:X.mg "enumerate"=none)(ha:PA X [a] ta)
 (hs:starEach [a] X.env=[(false,eval a X.env)]:=by rfl):PI X (.Tuple elts x1 tpos) (.Call (.Name "enumerate" p) [a] [] pos) (S0 ta):=by
 intro pins s σ H R I h
 refine Call_ (CU I hg hm boot_enumerate (PyProof.Rows.callWith_type1 (BG (ha pos pins s σ H _ I h) λus s1 ⟨vs,H1,I1,r1,q1⟩=>?_) hs rfl))
 obtain⟨κ,e,⟨xs,hx⟩,q⟩:=q1
 subst e
 obtain⟨u,rfl,ru⟩:=vals1 r1
 refine Mp I1 hx ru λh' he hi hk=>?_
 refine wpAny_pyIter_enum he ⟨s1.heap.objs.size+1,[s1.heap.objs.size+1,s1.heap.objs.size],_,_,H1,rfl,I1.kept (t':=s1.toks) hk,Mo κ _ _ (Nat.ne_of_gt (Nat.lt_succ_self _)),⟨⟨_,he⟩,hi⟩,λb hb=>?_,q⟩
 have hge:s1.heap.objs.size<=b:=by
  simp only[List.mem_cons,List.not_mem_nil,or_false]at hb
  rcases hb with rfl|rfl
  ·exact Nat.le_succ _
  ·exact Nat.le_refl _
 exact I1.Fl hge (I1.hok.fresh hge)
end
structure ZA (z TI TO i1 i2:Addr)(fp1 fp2:List Addr):Prop where
 TIz:TI≠z
 TOz:TO≠z
 i1z:i1≠z
 i2z:i2≠z
 TITO:TI≠TO
 TIi1:TI≠i1
 TIi2:TI≠i2
 TOi1:TO≠i1
 TOi2:TO≠i2
 i12:i1≠i2
 z1:z∉fp1
 z2:z∉fp2
 o1:TO∉fp1
 o2:TO∉fp2
 a1:i2∉fp1
 a2:i1∉fp2
section
variable {prog:Program}{w:World}{A:Around}{E:Value->Shared->Prop}{s:Shared}
theorem Dh {z TI TO i1 i2:Addr}{fp1 fp2:List Addr}{n1 n2 k:Nat}{P1 P2:Nat->Value->Prop}{S1 S2:Nat->Heap->Prop}{a b:Value}{Q:Value->Shared->Prop}(Z:ZA z TI TO i1 i2 fp1 fp2)
 (D1:Draws prog w A i1 fp1 n1 P1 S1)(D2:Draws prog w A i2 fp2 n2 P2 S2)
 (hz:IsZip s.heap z TI TO .none)(hTI:IsPair s.heap TI (.ref i1) (.ref i2))(hTO:IsPair s.heap TO a b)(h1:S1 k s.heap)(h2:S2 k s.heap)(l1:k < n1)(l2:k < n2)
 (hQ:∀x y h' tk,P1 k x->P2 k y->IsZip h' z TI TO (rawInt s.heap.objs.size)->IsPair h' TO x y->S1 (k+1) h'->S2 (k+1) h'->IsPair h' s.heap.objs.size x y->h'.objs.size=s.heap.objs.size+1->
  (∀c o,c≠z->c≠TO->c≠i1->c≠i2->s.heap.get? c=some o->h'.get? c=some o)->Q (.ref s.heap.objs.size) { s with heap:=h',toks:=tk }):
 wpAny (model prog w) A (Builtin.«zip.__next__» ⟨[.ref z],[]⟩) (λfin s'=>∃v,fin=.done (.ret v)/\Q v s') E s:=by
 obtain⟨hp,g,d,tk₀,os⟩:=s
 show wpAny _ _ (field (.ref z) 2 >>= _) _ _ _
 refine wpAny_bind (wpAny_field hz rfl (x:=.bool false) rfl ?_)
 show wpAny _ _ (field (.ref z) 3 >>= _) _ _ _
 refine wpAny_bind (wpAny_field hz rfl (x:=.ref TI) rfl ?_)
 refine wpAny_bind (wpAny_seqItems hTI rfl ?_)
 show wpAny _ _ (Builtin.SmallTypes.ownedTupleIsFree (.ref z) >>= _) _ _ _
 refine wpAny_bind ?_
 unfold Builtin.SmallTypes.ownedTupleIsFree
 refine wpAny_bind (wpAny_field hz rfl (x:=.none) rfl (wpAny_pure ?_))
 simp only[if_true]
 refine wpAny_bind (wpAny_rule ?_)
 refine wpAny_bind (wpAny_field hz rfl (x:=.ref TO) rfl ?_)
 refine wpAny_bind (wpAny_setField_rec hz (by simp) λh₁ hz₁ hs₁=>?_)
 replace hz₁:IsZip h₁ z TI TO .ellipsis:=hz₁
 replace hs₁:Heap.SameBut z hp h₁:=hs₁
 refine wpAny_bind ?_
 simp only[List.zipIdx_cons,List.zipIdx_nil,List.forIn_cons,List.forIn_nil]
 refine wpAny_bind (wpAny_bind (wpAny_onRaise ?_))
 show wpAny _ _ (Builtin.SmallTypes.nextOf (.ref i1) >>= _) _ _ _
 have h1₁:S1 k h₁:=D1.frame _ _ _ h1 λc hc o e=>hs₁.extBut _ _ (λq=>Z.z1 (q▸hc)) e
 refine wpAny_bind (D1.item k _ _ _ l1 h1₁ λx h₂ tk₂ hx h1₂ hs₂=>wpAny_pure ?_)
 replace hs₂:Heap.SameBut i1 h₁ h₂:=hs₂
 have hTO₂:IsPair h₂ TO a b:=hs₂.extBut _ _ Z.TOi1 (hs₁.extBut _ _ Z.TOz hTO)
 refine wpAny_bind (wpAny_seqItems (s:=⟨h₂,g,d,tk₂,os⟩) hTO₂ rfl ?_)
 refine wpAny_bind (wpAny_updateSeq_pair (s:=⟨h₂,g,d,tk₂,os⟩) hTO₂ λh₃ hTO₃ hs₃=>?_)
 replace hTO₃:IsPair h₃ TO x b:=hTO₃
 replace hs₃:Heap.SameBut TO h₂ h₃:=hs₃
 refine wpAny_bind (wpAny_letGo (wpAny_pure ?_))
 refine wpAny_bind (wpAny_bind (wpAny_onRaise ?_))
 show wpAny _ _ (Builtin.SmallTypes.nextOf (.ref i2) >>= _) _ _ _
 have h2₃:S2 k h₃:=D2.frame _ _ _ h2 λc hc o e=>hs₃.extBut _ _ (λq=>Z.o2 (q▸hc)) (hs₂.extBut _ _ (λq=>Z.a2 (q▸hc)) (hs₁.extBut _ _ (λq=>Z.z2 (q▸hc)) e))
 refine wpAny_bind (D2.item k _ _ _ l2 h2₃ λy h₄ tk₄ hy h2₄ hs₄=>wpAny_pure ?_)
 replace hs₄:Heap.SameBut i2 h₃ h₄:=hs₄
 have hTO₄:IsPair h₄ TO x b:=hs₄.extBut _ _ Z.TOi2 hTO₃
 refine wpAny_bind (wpAny_seqItems (s:=⟨h₄,g,d,tk₄,os⟩) hTO₄ rfl ?_)
 refine wpAny_bind (wpAny_updateSeq_pair (s:=⟨h₄,g,d,tk₄,os⟩) hTO₄ λh₅ hTO₅ hs₅=>?_)
 replace hTO₅:IsPair h₅ TO x y:=hTO₅
 replace hs₅:Heap.SameBut TO h₄ h₅:=hs₅
 refine wpAny_bind (wpAny_letGo (wpAny_pure (wpAny_pure ?_)))
 refine wpAny_bind (wpAny_seqItems (s:=⟨h₅,g,d,tk₄,os⟩) hTO₅ rfl ?_)
 refine wpAny_bind (wpAny_newTuple ?_)
 have hsz:h₅.objs.size=hp.objs.size:=by rw[hs₅.1,hs₄.1,hs₃.1,hs₂.1,hs₁.1]
 have hz₅:IsZip h₅ z TI TO .ellipsis:=hs₅.extBut _ _ Z.TOz.symm (hs₄.extBut _ _ Z.i2z.symm (hs₃.extBut _ _ Z.TOz.symm (hs₂.extBut _ _ Z.i1z.symm hz₁)))
 have hk₅:∀c o,c≠z->c≠TO->c≠i1->c≠i2->hp.get? c=some o->h₅.get? c=some o:=λc o c1 c2 c3 c4 e=>
  hs₅.extBut _ _ c2 (hs₄.extBut _ _ c4 (hs₃.extBut _ _ c2 (hs₂.extBut _ _ c3 (hs₁.extBut _ _ c1 e))))
 have h1₅:S1 (k+1) h₅:=D1.frame _ _ _ h1₂ λc hc o e=>hs₅.extBut _ _ (λq=>Z.o1 (q▸hc)) (hs₄.extBut _ _ (λq=>Z.a1 (q▸hc)) (hs₃.extBut _ _ (λq=>Z.o1 (q▸hc)) e))
 have h2₅:S2 (k+1) h₅:=D2.frame _ _ _ h2₄ λc hc o e=>hs₅.extBut _ _ (λq=>Z.o2 (q▸hc)) e
 have hzlt:z < h₅.objs.size:=Heap.lt_size hz₅
 show wpAny _ _ (Builtin.SmallTypes.ownedTupleHandOut (.ref z) (.ref h₅.objs.size) >>= _) _ _ _
 refine wpAny_bind ?_
 unfold Builtin.SmallTypes.ownedTupleHandOut
 have hz₆:IsZip (h₅.push { cls:=.type "tuple",data:=.seq #[x,y] }) z TI TO .ellipsis:=Heap.get?_push_of_some _ hz₅
 refine wpAny_bind (wpAny_setField_rec hz₆ (by simp) λh₇ hz₇ hs₇=>?_)
 replace hz₇:IsZip h₇ z TI TO (rawInt h₅.objs.size):=hz₇
 replace hs₇:Heap.SameBut z (h₅.push { cls:=.type "tuple",data:=.seq #[x,y] }) h₇:=hs₇
 refine wpAny_setField_rec hz₇ (by simp) λh₈ hz₈ hs₈=>?_
 replace hz₈:IsZip h₈ z TI TO (rawInt h₅.objs.size):=hz₈
 replace hs₈:Heap.SameBut z h₇ h₈:=hs₈
 have up:∀c o,c≠z->h₅.get? c=some o->h₈.get? c=some o:=λc o c1 e=>hs₈.extBut _ _ c1 (hs₇.extBut _ _ c1 (Heap.get?_push_of_some _ e))
 have hT₈:IsPair h₈ h₅.objs.size x y:=hs₈.extBut _ _ (Nat.ne_of_gt hzlt) (hs₇.extBut _ _ (Nat.ne_of_gt hzlt) (Heap.get?_push_size _ rfl))
 have hz8:h₈.objs.size=h₅.objs.size+1:=by rw[hs₈.1,hs₇.1,Heap.size_push]
 rw[hsz]at hz₈ hT₈ hz8
 refine wpAny_pure ⟨_,rfl,?_⟩
 show Q (.ref h₅.objs.size) _
 rw[hsz]
 exact hQ x y h₈ tk₄ hx hy hz₈ (up _ _ Z.TOz hTO₅) (D1.frame _ _ _ h1₅ λc hc o e=>up c o (λq=>Z.z1 (q▸hc)) e) (D2.frame _ _ _ h2₅ λc hc o e=>up c o (λq=>Z.z2 (q▸hc)) e) hT₈ hz8 λc o c1 c2 c3 c4 e=>up c o c1 (hk₅ c o c1 c2 c3 c4 e)
theorem EI {z TI TO i1 i2:Addr}{fp1 fp2:List Addr}{n1 n2 k:Nat}{P1 P2:Nat->Value->Prop}{S1 S2:Nat->Heap->Prop}{a b:Value}{Q:Fin->Shared->Prop}(Z:ZA z TI TO i1 i2 fp1 fp2)
 (D1:Draws prog w A i1 fp1 n1 P1 S1)(D2:Draws prog w A i2 fp2 n2 P2 S2)
 (hz:IsZip s.heap z TI TO .none)(hTI:IsPair s.heap TI (.ref i1) (.ref i2))(hTO:IsPair s.heap TO a b)(h1:S1 k s.heap)(h2:S2 k s.heap)(hend:n1=k\/(k < n1/\n2=k))
 (hE:∀h' e tk,(∀c o,c≠z->c≠TO->c≠i1->c≠i2->s.heap.get? c=some o->h'.get? c=some o)->(∃o,h'.get? e=some o/\o.cls=.type "StopIteration")->E (.ref e) { s with heap:=h',toks:=tk }):
 wpAny (model prog w) A (Builtin.«zip.__next__» ⟨[.ref z],[]⟩) Q E s:=by
 obtain⟨hp,g,d,tk₀,os⟩:=s
 show wpAny _ _ (field (.ref z) 2 >>= _) _ _ _
 refine wpAny_bind (wpAny_field hz rfl (x:=.bool false) rfl ?_)
 show wpAny _ _ (field (.ref z) 3 >>= _) _ _ _
 refine wpAny_bind (wpAny_field hz rfl (x:=.ref TI) rfl ?_)
 refine wpAny_bind (wpAny_seqItems hTI rfl ?_)
 show wpAny _ _ (Builtin.SmallTypes.ownedTupleIsFree (.ref z) >>= _) _ _ _
 refine wpAny_bind ?_
 unfold Builtin.SmallTypes.ownedTupleIsFree
 refine wpAny_bind (wpAny_field hz rfl (x:=.none) rfl (wpAny_pure ?_))
 simp only[if_true]
 refine wpAny_bind (wpAny_rule ?_)
 refine wpAny_bind (wpAny_field hz rfl (x:=.ref TO) rfl ?_)
 refine wpAny_bind (wpAny_setField_rec hz (by simp) λh₁ hz₁ hs₁=>?_)
 replace hz₁:IsZip h₁ z TI TO .ellipsis:=hz₁
 replace hs₁:Heap.SameBut z hp h₁:=hs₁
 refine wpAny_bind ?_
 simp only[List.zipIdx_cons,List.zipIdx_nil,List.forIn_cons,List.forIn_nil]
 refine wpAny_bind (wpAny_bind (wpAny_onRaise ?_))
 show wpAny _ _ (Builtin.SmallTypes.nextOf (.ref i1) >>= _) _ _ _
 have h1₁:S1 k h₁:=D1.frame _ _ _ h1 λc hc o e=>hs₁.extBut _ _ (λq=>Z.z1 (q▸hc)) e
 rcases hend with hn|⟨l1,hn⟩
 ·subst hn
  refine wpAny_bind (D1.done _ _ _ h1₁ λh₂ e hs₂ he=>?_)
  obtain⟨oe,hoe,hce⟩:=he
  replace hs₂:Heap.ExtBut i1 h₁ h₂:=hs₂
  have hz₂:IsZip h₂ z TI TO .ellipsis:=hs₂ _ _ Z.i1z.symm hz₁
  have hez:e≠z:=λx=>by subst x;rw[hz₂]at hoe;cases hoe;simp at hce
  exact wpAny_setField_rec hz₂ (by simp) λh₃ _ hs₃=>hE h₃ e _ (λc o c1 _ c3 _ x=>hs₃.extBut _ _ c1 (hs₂ _ _ c3 (hs₁.extBut _ _ c1 x))) ⟨oe,hs₃.extBut _ _ hez hoe,hce⟩
 ·subst hn
  refine wpAny_bind (D1.item _ _ _ _ l1 h1₁ λx h₂ tk₂ hx h1₂ hs₂=>wpAny_pure ?_)
  replace hs₂:Heap.SameBut i1 h₁ h₂:=hs₂
  have hTO₂:IsPair h₂ TO a b:=hs₂.extBut _ _ Z.TOi1 (hs₁.extBut _ _ Z.TOz hTO)
  refine wpAny_bind (wpAny_seqItems (s:=⟨h₂,g,d,tk₂,os⟩) hTO₂ rfl ?_)
  refine wpAny_bind (wpAny_updateSeq_pair (s:=⟨h₂,g,d,tk₂,os⟩) hTO₂ λh₃ hTO₃ hs₃=>?_)
  replace hs₃:Heap.SameBut TO h₂ h₃:=hs₃
  refine wpAny_bind (wpAny_letGo (wpAny_pure ?_))
  refine wpAny_bind (wpAny_bind (wpAny_onRaise ?_))
  show wpAny _ _ (Builtin.SmallTypes.nextOf (.ref i2) >>= _) _ _ _
  have h2₃:=D2.frame _ _ h₃ h2 λc hc o e=>hs₃.extBut _ _ (λq=>Z.o2 (q▸hc)) (hs₂.extBut _ _ (λq=>Z.a2 (q▸hc)) (hs₁.extBut _ _ (λq=>Z.z2 (q▸hc)) e))
  refine wpAny_bind (D2.done _ _ _ h2₃ λh₄ e hs₄ he=>?_)
  obtain⟨oe,hoe,hce⟩:=he
  replace hs₄:Heap.ExtBut i2 h₃ h₄:=hs₄
  have hz₄:IsZip h₄ z TI TO .ellipsis:=hs₄ _ _ Z.i2z.symm (hs₃.extBut _ _ Z.TOz.symm (hs₂.extBut _ _ Z.i1z.symm hz₁))
  have hez:e≠z:=λx=>by subst x;rw[hz₄]at hoe;cases hoe;simp at hce
  exact wpAny_setField_rec hz₄ (by simp) λh₅ _ hs₅=>hE h₅ e _ (λc o c1 c2 c3 c4 x=>hs₅.extBut _ _ c1 (hs₄ _ _ c4 (hs₃.extBut _ _ c2 (hs₂.extBut _ _ c3 (hs₁.extBut _ _ c1 x))))) ⟨oe,hs₅.extBut _ _ hez hoe,hce⟩
end
def S3 (κ1 κ2:SK):It:=
 ⟨λi H=>∃xs ys x y,κ1.has H xs/\κ2.has H ys/\xs[i]?=some x/\ys[i]?=some y,
  λi H v H'=>∃p x y,v=.ref p/\H p=none/\H'=upd H p (.tup [x,y])/\(∀xs,κ1.has H xs->xs[i]?=some x)/\∀ys,κ2.has H ys->ys[i]?=some y,
  λi H=>∃xs ys,κ1.has H xs/\κ2.has H ys/\(xs.length=i\/(i < xs.length/\ys.length=i))⟩
theorem N2 {P:Program}{w:World}{K:PySem.W.Frag}{elts:List Expr}{x1:Nat}{tpos:Pos}(κ1 κ2:SK)(z TI TO i1 i2:Addr)(hnd:[z,TI,TO,i1,i2].Nodup):
 Turn P w K (.Tuple elts x1 tpos) (S3 κ1 κ2) [z,TI,TO,i1,i2] z (λi h=>IsZip h z TI TO .none/\IsPair h TI (.ref i1) (.ref i2)/\(∃a b,IsPair h TO a b)/\κ1.own i1 i h/\κ2.own i2 i h) where
 mem:=by simp
 obj:=λi h st b hb=>by
  obtain⟨hz,hTI,⟨a,c,hTO⟩,h1,h2⟩:=st
  simp only[List.mem_cons,List.not_mem_nil,or_false]at hb
  rcases hb with rfl|rfl|rfl|rfl|rfl
  ·exact⟨_,hz,λv y=>by have y':Data.fields _=Data.cell v:=y;cases y'⟩
  ·exact⟨_,hTI,λv y=>by have y':Data.seq _ _=Data.cell v:=y;cases y'⟩
  ·exact⟨_,hTO,λv y=>by have y':Data.seq _ _=Data.cell v:=y;cases y'⟩
  ·obtain⟨o,e1,e2,_⟩:=SK.Bx h1;exact⟨o,e1,e2⟩
  ·obtain⟨o,e1,e2,_⟩:=SK.Bx h2;exact⟨o,e1,e2⟩
 keep:=λi h h' st k=>by
  obtain⟨hz,hTI,⟨a,c,hTO⟩,h1,h2⟩:=st
  exact⟨k z (by simp) _ hz,k TI (by simp) _ hTI,⟨a,c,k TO (by simp) _ hTO⟩,SK.Dc h1 λo q=>k i1 (by simp) o q,SK.Dc h2 λo q=>k i2 (by simp) o q⟩
 item:=by
  intro X hP hw hK hc i pins s σ H E I hf st hg
  subst hP hw hK
  obtain⟨hz,hTI,⟨a,c,hTO⟩,h1,h2⟩:=st
  obtain⟨xs,ys,x,y,hx,hy,hxi,hyi⟩:=hg
  have l1:i < xs.length:=(List.getElem?_eq_some_iff.mp hxi).1
  have l2:i < ys.length:=(List.getElem?_eq_some_iff.mp hyi).1
  have hh:X.A.in1.handled=none:=I.ok.hd hc
  obtain⟨P1,S1,D1,s1,r1,w1⟩:=Bt (A:=X.A.in1) I hx h1 (hf i1 (by simp)).1 hh
  obtain⟨P2,S2,D2,s2,r2,w2⟩:=Bt (A:=X.A.in1) I hy h2 (hf i2 (by simp)).1 hh
  simp only[List.nodup_cons,List.mem_cons,List.not_mem_nil,or_false,not_or]at hnd
  obtain⟨⟨n1,n2,n3,n4⟩,⟨n5,n6,n7⟩,⟨n8,n9⟩,n10,_⟩:=hnd
  have nb:∀{κ:SK} {zs:List V} {b it:Addr},κ.has H zs->H b=none->b≠it->b∉it::κ.box:=λ{κ zs b it} hκ hb hne q=>by
   rcases List.mem_cons.mp q with q|q
   ·exact hne q
   ·exact SK.Dd hκ q hb
  have Z:ZA z TI TO i1 i2 (i1::κ1.box) (i2::κ2.box):=
   { TIz:=Ne.symm n1,TOz:=Ne.symm n2,i1z:=Ne.symm n3,i2z:=Ne.symm n4,TITO:=n5,TIi1:=n6,TIi2:=n7,TOi1:=n8,TOi2:=n9,i12:=n10
     z1:=nb hx (hf z (by simp)).1 n3,z2:=nb hy (hf z (by simp)).1 n4,o1:=nb hx (hf TO (by simp)).1 n8,o2:=nb hy (hf TO (by simp)).1 n9,a1:=nb hx (hf i2 (by simp)).1 (Ne.symm n10),a2:=nb hy (hf i1 (by simp)).1 n10 }
  have hT:s.TypeIs (.ref z) "zip":=⟨_,hz,rfl⟩
  unfold pyNext
  refine wpAny_bind (wpAny_attempt (wpAny_callSpecial?_slot (name:=Str.ofString "__next__") hT F.slot_zip_next
   (wpAny_call_entry F.slot_zip_next hT F.entry_zip_next
    (Dh Z D1 D2 hz hTI hTO s1 s2 l1 l2 λu v h' tk hu hv hz' hTO' s1' s2' hT' hsz hk=>wpAny_pure ⟨_,rfl,?_⟩) (F.args_zip_next_1 _))))
  refine wpAny_letOwnedTupleGo_zip hz' λh'' hz'' hs''=>?_
  obtain⟨x',hx',rx⟩:=r1 i u hu
  obtain⟨y',hy',ry⟩:=r2 i v hv
  have ex:x'=x:=Option.some.inj (hx'.symm.trans hxi)
  have ey:y'=y:=Option.some.inj (hy'.symm.trans hyi)
  subst ex ey
  have kk:∀b ob,b∉[z,TI,TO,i1,i2]->s.heap.get? b=some ob->h''.get? b=some ob:=λb ob hb q=>
   (hs''.2 b (λe=>hb (by simp[e]))).trans (hk b ob (λe=>hb (by simp[e])) (λe=>hb (by simp[e])) (λe=>hb (by simp[e])) (λe=>hb (by simp[e])) q)
  have ne:s.heap.objs.size≠z:=Nat.ne_of_gt (Heap.lt_size hz)
  have hT'':h''.get? s.heap.objs.size=some { cls:=.type "tuple",data:=.seq #[u,v] }:=(hs''.2 _ ne).trans hT'
  refine⟨.ref s.heap.objs.size,upd H s.heap.objs.size (.tup [x',y']),I.FI (tk:=tk) hf kk (Nat.le_refl _) ⟨⟨(by show 2<=sizeLine;decide),_,hT'',rfl⟩,[u,v],.cons rx (.cons ry .nil),_,hT'',rfl,0,rfl⟩,rfl,
   ⟨_,x',y',rfl,I.hok.fresh (Nat.le_refl _),rfl,λzs hzs=>by rw[SK.inj hzs hx];exact hxi,λzs hzs=>by rw[SK.inj hzs hy];exact hyi⟩,
   ⟨hz'',hs''.extBut _ _ (Ne.symm n1) (hk _ _ (Ne.symm n1) n5 n6 n7 hTI),⟨_,_,hs''.extBut _ _ (Ne.symm n2) hTO'⟩,SK.Dc (w1 _ _ s1') λo q=>(hs''.2 i1 (Ne.symm n3)).trans q,SK.Dc (w2 _ _ s2') λo q=>(hs''.2 i2 (Ne.symm n4)).trans q⟩,λb hb=>?_⟩
  have hob:∃o,s.heap.get? b=some o:=by
   simp only[List.mem_cons,List.not_mem_nil,or_false]at hb
   rcases hb with rfl|rfl|rfl|rfl|rfl
   ·exact⟨_,hz⟩
   ·exact⟨_,hTI⟩
   ·exact⟨_,hTO⟩
   ·obtain⟨o,e1,_⟩:=SK.Bx h1;exact⟨o,e1⟩
   ·obtain⟨o,e1,_⟩:=SK.Bx h2;exact⟨o,e1⟩
  obtain⟨o,hob⟩:=hob
  rw[AH (Nat.ne_of_lt (Heap.lt_size hob))]
  exact(hf b hb).1
 done:=by
  intro X hP hw hK hc i pins s σ H E I hf st hg
  subst hP hw hK
  obtain⟨hz,hTI,⟨a,c,hTO⟩,h1,h2⟩:=st
  obtain⟨xs,ys,hx,hy,hend⟩:=hg
  have hh:X.A.in1.handled=none:=I.ok.hd hc
  obtain⟨P1,S1,D1,s1,r1,w1⟩:=Bt (A:=X.A.in1) I hx h1 (hf i1 (by simp)).1 hh
  obtain⟨P2,S2,D2,s2,r2,w2⟩:=Bt (A:=X.A.in1) I hy h2 (hf i2 (by simp)).1 hh
  simp only[List.nodup_cons,List.mem_cons,List.not_mem_nil,or_false,not_or]at hnd
  obtain⟨⟨n1,n2,n3,n4⟩,⟨n5,n6,n7⟩,⟨n8,n9⟩,n10,_⟩:=hnd
  have nb:∀{κ:SK} {zs:List V} {b it:Addr},κ.has H zs->H b=none->b≠it->b∉it::κ.box:=λ{κ zs b it} hκ hb hne q=>by
   rcases List.mem_cons.mp q with q|q
   ·exact hne q
   ·exact SK.Dd hκ q hb
  have Z:ZA z TI TO i1 i2 (i1::κ1.box) (i2::κ2.box):=
   { TIz:=Ne.symm n1,TOz:=Ne.symm n2,i1z:=Ne.symm n3,i2z:=Ne.symm n4,TITO:=n5,TIi1:=n6,TIi2:=n7,TOi1:=n8,TOi2:=n9,i12:=n10
     z1:=nb hx (hf z (by simp)).1 n3,z2:=nb hy (hf z (by simp)).1 n4,o1:=nb hx (hf TO (by simp)).1 n8,o2:=nb hy (hf TO (by simp)).1 n9,a1:=nb hx (hf i2 (by simp)).1 (Ne.symm n10),a2:=nb hy (hf i1 (by simp)).1 n10 }
  have hT:s.TypeIs (.ref z) "zip":=⟨_,hz,rfl⟩
  unfold pyNext
  refine wpAny_bind (wpAny_attempt (wpAny_callSpecial?_slot (name:=Str.ofString "__next__") hT F.slot_zip_next
   (wpAny_call_entry F.slot_zip_next hT F.entry_zip_next (EI Z D1 D2 hz hTI hTO s1 s2 hend λh' e tk hk he=>?_) (F.args_zip_next_1 _))))
  obtain⟨o,ho,hcl⟩:=he
  refine wpAny_bind (wpAny_isInstance (T:="StopIteration") (b:=true) ⟨o,ho,hcl⟩ isSubtype_stop ?_)
  exact wpAny_pure ⟨rfl,I.DF hf λb ob hb q=>hk b ob (λe=>hb (by simp[e])) (λe=>hb (by simp[e])) (λe=>hb (by simp[e])) (λe=>hb (by simp[e])) q⟩
 self:=λ_ _ _ _ _ st h=>wpAny_pyIter_zip st.1 h
def N3 (v:Value):SK->Obj
 |.lst _=>{ cls:=.type "list_iterator",data:=.fields #[v,.int 0 0] }
 |.tup _=>{ cls:=.type "tuple_iterator",data:=.fields #[v,.int 0 0] }
 |.str x=>{ cls:=.type (strIterType x),data:=.fields #[v,.int 0 0] }
theorem DG (v:Value)(κ:SK):(N3 v κ).isFreed=false:=by cases κ<;>rfl
def JG (h:Heap)(v:Value)(o:Obj):Prop:=∀(prog:Program) (w:World) (A:Around) (E:Value->Shared->Prop) (s:Shared) (Q:Value->Shared->Prop),(∀b ob,h.get? b=some ob->s.heap.get? b=some ob)->Q (.ref s.heap.objs.size) { s with heap:=s.heap.push o }->wpAny (model prog w) A (pyIter v) Q E s
theorem El {X:Cx}{pins:List (Addr×Obj)}{σ:St}{H:Hp}{s:Shared}{κ:SK}{xs:List V}{u:Value}(I:Inv X pins σ H s)(hv:κ.has H xs)(r:RelV κ.val u):JG s.heap u (N3 u κ):=by
 intro prog w A E s' Q k h
 cases κ with
 |lst a=>
  cases(show u=Value.ref a from r)
  obtain⟨_,its,n,rr,e⟩:=Rd.ok hv I.hok
  exact wpAny_pyIter_list (items:=its.toArray) ⟨_,k _ _ e,rfl,n,rfl⟩ h
 |tup a=>
  cases(show u=Value.ref a from r)
  obtain⟨_,its,rr,o,e,c⟩:=Rd.ok hv I.hok
  exact wpAny_pyIter_tuple (items:=its.toArray) ⟨o,k _ _ e,c⟩ h
 |str x=>
  obtain⟨t,q⟩:=(show∃t,u=Value.str x t from r)
  subst q
  exact wpAny_pyIter_strU h
theorem Fv {κ:SK}{u:Value}{h h':Heap}{it:Addr}(r:RelV κ.val u)(e:h.get? it=some (N3 u κ)):κ.own it 0 h:=by
 cases κ with
 |lst a=>cases(show u=Value.ref a from r);exact⟨_,e,rfl,rfl⟩
 |tup a=>cases(show u=Value.ref a from r);exact⟨_,e,rfl,rfl⟩
 |str x=>obtain⟨t,q⟩:=(show∃t,u=Value.str x t from r);subst q;exact⟨t,_,e,rfl,rfl⟩
abbrev Tt (h:Heap)(o1:Obj):Heap:=h.push o1
abbrev Tu (h:Heap)(o1 o2:Obj):Heap:=(Tt h o1).push o2
abbrev Tv (h:Heap)(o1 o2:Obj):Heap:=(Tu h o1 o2).push { cls:=.type "tuple",data:=.seq #[.ref h.objs.size,.ref (Tt h o1).objs.size] }
abbrev Tw (h:Heap)(o1 o2:Obj):Heap:=(Tv h o1 o2).push { cls:=.type "tuple",data:=.seq #[.none,.none] }
abbrev SR (h:Heap)(o1 o2:Obj):Heap:=(Tw h o1 o2).push { cls:=.type "zip",data:=.fields #[.none,.bool false,.bool false,.ref (Tu h o1 o2).objs.size,.ref (Tv h o1 o2).objs.size] }
set_option maxHeartbeats 4000000 in
theorem Kj (v1 v2:Value)(o1 o2:Obj):
 Meets (Builtin.«zip.__new__» ⟨[.type "zip",v1,v2],[]⟩) (λ_ R s=>JG s.heap v1 o1/\JG s.heap v2 o2/\
  R (.ok (.ret (.ref (Tw s.heap o1 o2).objs.size))) { s with heap:=SR s.heap o1 o2 }):=
 .of_wp λprog w A R s h=>by
  obtain⟨hp,g,d,tk,os⟩:=s;obtain⟨hl1,hl2,h⟩:=h
  have hsub:=sub_zip
  have g1:∀(A:Around) (E:Value->Shared->Prop) (Q:Value->Shared->Prop),Q (.ref hp.objs.size) ⟨hp.push o1,g,d,tk,os⟩->wpAny (model prog w) A (pyIter v1) Q E ⟨hp,g,d,tk,os⟩:=λA E Q q=>hl1 prog w A E ⟨hp,g,d,tk,os⟩ Q (λ_ _ e=>e) q
  have g2:∀(A:Around) (E:Value->Shared->Prop) (Q:Value->Shared->Prop),Q (.ref (hp.push o1).objs.size) ⟨(hp.push o1).push o2,g,d,tk,os⟩->wpAny (model prog w) A (pyIter v2) Q E ⟨hp.push o1,g,d,tk,os⟩:=λA E Q q=>hl2 prog w A E ⟨hp.push o1,g,d,tk,os⟩ Q (λ_ _ e=>Heap.get?_push_of_some _ e) q
  wp_walk using g1 _ _ _,g2 _ _ _
  exact⟨_,rfl,h⟩
theorem HS {prog:Program}{w:World}{A:Around}{E:Value->Shared->Prop}{s:Shared}{v1 v2:Value}{o1 o2:Obj}{Q:Value->Shared->Prop}(f1:o1.isFreed=false)(f2:o2.isFreed=false)(hl1:JG s.heap v1 o1)(hl2:JG s.heap v2 o2)
 (h:∀h',IsZip h' (s.heap.objs.size+4) (s.heap.objs.size+2) (s.heap.objs.size+3) .none->IsPair h' (s.heap.objs.size+2) (.ref s.heap.objs.size) (.ref (s.heap.objs.size+1))->
  IsPair h' (s.heap.objs.size+3) .none .none->h'.get? s.heap.objs.size=some o1->h'.get? (s.heap.objs.size+1)=some o2->
  (∀c o,s.heap.get? c=some o->h'.get? c=some o)->Q (.ref (s.heap.objs.size+4)) { s with heap:=h' }):
 wpAny (model prog w) A (call (.type "zip") [v1,v2]) Q E s:=by
 refine callType_new F.called_zip (by decide) (F.typeCall_zip_2 _ _) (F.newCall_zip_2 _ _) (λobj=>F.args_object_init_3 obj _ _) F.entry_zip_new
  (Kj v1 v2 o1 o2) ⟨hl1,hl2,?_⟩
 have z1:(Tt s.heap o1).objs.size=s.heap.objs.size+1:=Heap.size_push ..
 have z2:(Tu s.heap o1 o2).objs.size=s.heap.objs.size+2:=by rw[Heap.size_push,z1]
 have z3:(Tv s.heap o1 o2).objs.size=s.heap.objs.size+3:=by rw[Heap.size_push,z2]
 have z4:(Tw s.heap o1 o2).objs.size=s.heap.objs.size+4:=by rw[Heap.size_push,z3]
 have g5:(SR s.heap o1 o2).get? (Tw s.heap o1 o2).objs.size=some _:=Heap.get?_push_size _ rfl
 have g4:(SR s.heap o1 o2).get? (Tv s.heap o1 o2).objs.size=some _:=Heap.get?_push_of_some _ (Heap.get?_push_size _ rfl)
 have g3:(SR s.heap o1 o2).get? (Tu s.heap o1 o2).objs.size=some _:=Heap.get?_push_of_some _ (Heap.get?_push_of_some _ (Heap.get?_push_size _ rfl))
 have g2:(SR s.heap o1 o2).get? (Tt s.heap o1).objs.size=some _:=Heap.get?_push_of_some _ (Heap.get?_push_of_some _ (Heap.get?_push_of_some _ (Heap.get?_push_size _ f2)))
 have g1:(SR s.heap o1 o2).get? s.heap.objs.size=some _:=Heap.get?_push_of_some _ (Heap.get?_push_of_some _ (Heap.get?_push_of_some _ (Heap.get?_push_of_some _ (Heap.get?_push_size _ f1))))
 show _/\_
 rw[z2,z3,z4]at g5
 rw[z1,z2]at g3
 rw[z3]at g4
 rw[z1]at g2
 rw[z4]
 exact⟨⟨_,g5,rfl⟩,h _ g5 g3 g4 g1 g2 λc o x=>
  Heap.get?_push_of_some _ (Heap.get?_push_of_some _ (Heap.get?_push_of_some _ (Heap.get?_push_of_some _ (Heap.get?_push_of_some _ x))))⟩
section
variable {X:Cx}
def UX (ta:TA):TI:=λσ H R=>ta σ H λvs H1=>∃κ1 κ2:SK,vs=[κ1.val,κ2.val]/\(∃xs,κ1.has H1 xs)/\(∃ys,κ2.has H1 ys)/\R (S3 κ1 κ2) H1
theorem Rf {a b:Expr}{ta:TA}{p pos:Pos}{elts:List Expr}{x1:Nat}{tpos:Pos}(hg:Gl X "zip")(hm:X.mg "zip"=none)(ha:PA X [a,b] ta)
 (hs:starEach [a,b] X.env=[(false,eval a X.env),(false,eval b X.env)]:=by rfl)(hs2:starEach [b] X.env=[(false,eval b X.env)]:=by rfl):PI X (.Tuple elts x1 tpos) (.Call (.Name "zip" p) [a,b] [] pos) (UX ta):=by
 intro pins s σ H R I h
 refine Call_ (CU I hg hm boot_zip (PyProof.Rows.callWith_type1 (BG (ha pos pins s σ H _ I h) λus s1 ⟨vs,H1,I1,r1,q1⟩=>?_) (by rw[hs,hs2]) (by rw[hs2];rfl)))
 obtain⟨κ1,κ2,e,⟨xs,hx⟩,⟨ys,hy⟩,q⟩:=q1
 subst e
 obtain⟨u,v,rfl,ru,rv⟩:=vals2 r1
 refine HS (DG u κ1) (DG v κ2) (El I1 hx ru) (El I1 hy rv) λh' hz hTI hTO h1 h2 hk=>?_
 refine wpAny_pyIter_zip hz ⟨s1.heap.objs.size+4,[s1.heap.objs.size+4,s1.heap.objs.size+2,s1.heap.objs.size+3,s1.heap.objs.size,s1.heap.objs.size+1],_,_,H1,rfl,I1.kept (t':=s1.toks) hk,
  N2 κ1 κ2 _ _ _ _ _ (by simp),⟨hz,hTI,⟨_,_,hTO⟩,Fv (h':=h') ru h1,Fv (h':=h') rv h2⟩,λb hb=>?_,q⟩
 have hge:s1.heap.objs.size<=b:=by
  simp only[List.mem_cons,List.not_mem_nil,or_false]at hb
  rcases hb with rfl|rfl|rfl|rfl|rfl<;>first|exact Nat.le_add_right _ _|exact Nat.le_refl _
 exact I1.Fl hge (I1.hok.fresh hge)
end
theorem QJ {κ1 κ2:SK}{xs ys:List V}{g:TG}{tb:TS}{D:Ends}{σ:St}{H:Hp}(Pv:Nat->St->Hp->Prop)(h0:Pv 0 σ H)(hlen:xs.length=ys.length)(hl:∀i σ H,i<=xs.length->Pv i σ H->κ1.has H xs/\κ2.has H ys)
 (hs:∀i x y σ H p,xs[i]?=some x->ys[i]?=some y->Pv i σ H->H p=none->g (.ref p) σ (upd H p (.tup [x,y])) λσ2 H2=>tb { D with nx:=Pv (i+1),ct:=Pv (i+1),bk:=D.nx } σ2 H2)(hd:∀σ H,Pv xs.length σ H->D.nx σ H):
 ∃W:Nat->Nat->St->Hp->Prop,(∃m,W 0 m σ H)/\∀i m σ H,W i m σ H->
  ((S3 κ1 κ2).stop i H/\D.nx σ H)\/((S3 κ1 κ2).go i H/\∃N:St->Hp->Prop,(∀σ' H',N σ' H'->∃m',m' < m/\W (i+1) m' σ' H')/\∀x H',(S3 κ1 κ2).yld i H x H'->g x σ H' λσ2 H2=>tb { D with nx:=N,ct:=N,bk:=D.nx } σ2 H2):=by
 refine⟨λi m σ H=>i<=xs.length/\m=xs.length - i/\Pv i σ H,⟨xs.length,Nat.zero_le _,rfl,h0⟩,λi m σ H ⟨hi,hm,hp⟩=>?_⟩
 obtain⟨a1,a2⟩:=hl i σ H hi hp
 rcases Nat.lt_or_ge i xs.length with lt|ge
 ·have lt2:i < ys.length:=by omega
  refine .inr ⟨⟨xs,ys,xs[i],ys[i],a1,a2,List.getElem?_eq_getElem lt,List.getElem?_eq_getElem lt2⟩,Pv (i+1),λσ' H' hn=>⟨xs.length - (i+1),by omega,by omega,rfl,hn⟩,λx H' hy=>?_⟩
  obtain⟨p,x',y',rfl,hpn,rfl,e1,e2⟩:=hy
  exact hs i x' y' σ H p (e1 xs a1) (e2 ys a2) hp hpn
 ·have e:i=xs.length:=by omega
  subst e
  exact .inl ⟨⟨xs,ys,a1,a2,.inl rfl⟩,hd σ H hp⟩
theorem Em {κ:SK}{xs:List V}{g:TG}{tb:TS}{D:Ends}{σ:St}{H:Hp}(Pv:Nat->St->Hp->Prop)(h0:Pv 0 σ H)(hl:∀i σ H,i<=xs.length->Pv i σ H->κ.has H xs)
 (hs:∀(i:Nat) x σ H p,xs[i]?=some x->Pv i σ H->H p=none->g (.ref p) σ (upd H p (.tup [.int i,x])) λσ2 H2=>tb { D with nx:=Pv (i+1),ct:=Pv (i+1),bk:=D.nx } σ2 H2)(hd:∀σ H,Pv xs.length σ H->D.nx σ H):
 ∃W:Nat->Nat->St->Hp->Prop,(∃m,W 0 m σ H)/\∀i m σ H,W i m σ H->
  ((Q4 κ).stop i H/\D.nx σ H)\/((Q4 κ).go i H/\∃N:St->Hp->Prop,(∀σ' H',N σ' H'->∃m',m' < m/\W (i+1) m' σ' H')/\∀x H',(Q4 κ).yld i H x H'->g x σ H' λσ2 H2=>tb { D with nx:=N,ct:=N,bk:=D.nx } σ2 H2):=by
 refine⟨λi m σ H=>i<=xs.length/\m=xs.length - i/\Pv i σ H,⟨xs.length,Nat.zero_le _,rfl,h0⟩,λi m σ H ⟨hi,hm,hp⟩=>?_⟩
 have a1:=hl i σ H hi hp
 rcases Nat.lt_or_ge i xs.length with lt|ge
 ·refine .inr ⟨⟨xs,xs[i],a1,List.getElem?_eq_getElem lt⟩,Pv (i+1),λσ' H' hn=>⟨xs.length - (i+1),by omega,by omega,rfl,hn⟩,λx H' hy=>?_⟩
  obtain⟨p,x',rfl,hpn,rfl,e1⟩:=hy
  exact hs i x' σ H p (e1 xs a1) hp hpn
 ·have e:i=xs.length:=by omega
  subst e
  exact .inl ⟨⟨xs,a1,rfl⟩,hd σ H hp⟩
def Di (z:Str)(lo hi:Option Int):Str:=⟨((z.cps.toList.drop (HT.BD z.length 0 lo)).take (HT.BD z.length z.length hi - HT.BD z.length 0 lo)).toArray⟩
theorem IH (i:Int)(n d:Nat):max 0 (min (if i < 0 then i+(n:Int)else i) (n:Int))=((HT.BD n d (some i):Nat):Int):=by
 simp only[HT.BD]
 split
 ·omega
 ·omega
theorem D4 (a b:Nat):sliceRange (a:Int) (b:Int) 1=(List.range (b - a)).map λk=>a+k:=by
 unfold sliceRange
 simp only[show((1:Int) > 0)=True from by simp,if_true]
 by_cases hlt:(a:Int) < b
 ·have e3:(((b:Int) - a+1 - 1) / 1).toNat=b - a:=by
   rw[Int.ediv_one];omega
  simp only[hlt,if_true,e3]
  refine List.map_congr_left λk _=>?_
  omega
 ·have:b - a=0:=by omega
  simp[hlt,this]
theorem IJ (lo hi:Option Int)(n:Nat):Builtin.Str.strSliceIndices lo hi 1 n=(List.range (HT.BD n n hi - HT.BD n 0 lo)).map λk=>HT.BD n 0 lo+k:=by
 unfold Builtin.Str.strSliceIndices
 simp only[show((1:Int) > 0)=True from by simp,if_true]
 cases lo with
 |none=>
  cases hi with
  |none=>exact D4 0 n
  |some j=>dsimp only;rw[IH j n n];exact D4 0 _
 |some i=>
  cases hi with
  |none=>dsimp only;rw[IH i n 0];exact D4 _ n
  |some j=>dsimp only;rw[IH i n 0,IH j n n];exact D4 _ _
theorem Kk (z:Str)(t:Tok)(l u:Option (Int×Tok)):∀(Q:Value->Shared->Prop) (s:Shared),z.length<=sizeLine->(∀t' s',s'.heap=s.heap->s'.gens=s.gens->s'.drawn=s.drawn->s'.os=s.os->Q (.str (Di z (l.map (·.1)) (u.map (·.1))) t') s')->(sliceMade z t l u none).post Q s:=by
 intro Q s hz h
 have hidx:=IJ (l.map (·.1)) (u.map (·.1)) z.length
 have hle:HT.BD z.length z.length (u.map (·.1))<=z.length:=HT.Ka _ _ (Nat.le_refl _) _
 have hlo:HT.BD z.length 0 (l.map (·.1))<=z.length:=HT.Ka _ _ (Nat.zero_le _) _
 have hzl:z.length=z.cps.toList.length:=by simp[Str.length]
 have cut:((slicePicked z l u none).filterMap (z.cps[·]?))=(z.cps.toList.drop (HT.BD z.length 0 (l.map (·.1)))).take (HT.BD z.length z.length (u.map (·.1)) - HT.BD z.length 0 (l.map (·.1))):=by
  have p:=StrLaws.picks z.cps.toList (HT.BD z.length z.length (u.map (·.1)) - HT.BD z.length 0 (l.map (·.1))) (HT.BD z.length 0 (l.map (·.1))) (by omega)
  rw[<-p]
  unfold slicePicked
  simp only[Option.map_none,Option.getD_none]
  rw[hidx]
  congr 1
  funext k
  simp
 unfold sliceMade
 split
 ·rename_i c
  have whole:Di z (l.map (·.1)) (u.map (·.1))=z:=by
   unfold Di
   have e:(slicePicked z l u none).length=z.length:=by
    simp only[Bool.and_eq_true,beq_iff_eq]at c
    exact c.2
   have e':HT.BD z.length z.length (u.map (·.1)) - HT.BD z.length 0 (l.map (·.1))=z.length:=by
    unfold slicePicked at e
    simp only[Option.map_none,Option.getD_none]at e
    rw[hidx]at e
    simpa using e
   have e0:HT.BD z.length 0 (l.map (·.1))=0:=by omega
   rw[e',e0,List.drop_zero,hzl,List.take_length]
  have:=h t s rfl rfl rfl rfl
  rw[whole]at this
  exact this
 ·rw[cut]
  have hl':(⟨((z.cps.toList.drop (HT.BD z.length 0 (l.map (·.1)))).take (HT.BD z.length z.length (u.map (·.1)) - HT.BD z.length 0 (l.map (·.1)))).toArray⟩:Str).length<=sizeLine:=by
   have:(⟨((z.cps.toList.drop (HT.BD z.length 0 (l.map (·.1)))).take (HT.BD z.length z.length (u.map (·.1)) - HT.BD z.length 0 (l.map (·.1)))).toArray⟩:Str).length<=z.length:=by
    simp only[Str.length,List.size_toArray,List.length_take,List.length_drop]
    have:z.cps.size=z.length:=rfl
    omega
   omega
  first
   |exact⟨hl',h _ _ rfl rfl rfl rfl⟩
   |exact h _ _ rfl rfl rfl rfl
def UY:V->Option Int->Option Int->Hp->VK->Prop:=λx lo hi H Q=>∃z,x=.str z/\z.length<=sizeLine/\Q (.str (Di z lo hi)) H
theorem DH {X:Cx}:SO X UY:=by
 intro pins s σ H x v vl vu lo hi sl Q I rx hs pl pu h
 obtain⟨z,rfl,hz,q⟩:=h
 obtain⟨t,rfl⟩:=rx
 refine⟨"str",_,F.slot_str_getitem.lookup,typeIs_str s z t,?_⟩
 have part:∀{v:Value} {o:Option Int},IsPart v o->∃p:Option (Int×Tok),v=partValue p/\p.map (·.1)=o:=λ{v o} p=>by
  cases p with
  |none=>exact⟨none,rfl,rfl⟩
  |int i t=>exact⟨some (i,t),rfl,rfl⟩
 obtain⟨l,rfl,rfl⟩:=part pl
 obtain⟨u,rfl,rfl⟩:=part pu
 refine wpAny_getItem_str_slice (l:=l) (u:=u) (st:=none) hs rfl (Kk z t l u _ s hz λt' s' e1 e2 e3 e4=>⟨.str _,H,?_,⟨t',rfl⟩,q⟩)
 obtain⟨hp,g,d,tk,os⟩:=s'
 cases e1;cases e2;cases e3;cases e4
 exact I.tok tk
theorem Ba {X:Cx}:Bs X (.builtin "isinstance") (λvs H Q=>∃x t T b,vs=[x,.ty T]/\DX X.K H x t/\PySem.W.kitOne X.K t (.type T)=some b/\Q (.bl b) H):=by
 intro pins s σ H xs us Q I r h
 obtain⟨x,t,T,b,rfl,ty,e,q⟩:=h
 obtain⟨u,v,rfl,ru,rv⟩:=vals2 r
 cases(show v=Value.type T from rv)
 exact Mh I ru ty e λtk=>⟨.bl b,H,I.tok tk,rfl,q⟩
end L2
namespace L2
open PySem PySem.Spec PyProof.Rows
theorem GB {X:Cx}{scope:Scope}{NL:List Str}{ix:List Nat}(esc:Scope)(N:List Str)(h1:X.env.scope=esc:=by rfl)(h2:X.N=N:=by rfl)(c1:scope.kind=.function:=by rfl)
 (c2:∀y∈scope.names,y.2≠.cell:=by decide+kernel)(c3:∀y∈scope.names,y.2=.local->scope.names.lookup y.1=some .local:=by decide+kernel)
 (c4:∀y∈scope.names,y.2=.free->esc.names.lookup y.1=some .cell\/esc.names.lookup y.1=some .free:=by decide+kernel)
 (c5:∀j∈ix,(N[j]?).bind (λx=>scope.names.lookup x)=some .free:=by decide+kernel):B1 X scope NL ix where
 kind:=c1
 cell:=c2
 names:=c3
 free:=λy hy hf=>by
  have:=c4 y hy hf
  rw[<-h1]at this
  exact this
 cap:=λj hj=>by
  have:=c5 j hj
  rw[h2]
  cases e:N[j]? with
  |none=>rw[e]at this;cases this
  |some x=>rw[e]at this;exact⟨x,rfl,this⟩
def Bb (P:Program)(w:World)(K:PySem.W.Frag)(mg:Str->Option Value)(base:Heap)(x:Str)(k:Nat)(ps:List Str)(sp:Sp):Prop:=
 ∃f fd,Ef P w K mg base CX0 k f fd ps sp/\Binds K fd ps []/\PySem.W.keepIn K (.ref f)=true/\mg x=some (.ref f)
section
variable {P:Program}{w:World}{K:PySem.W.Frag}{mg:Str->Option Value}{base:Heap}
theorem Bb.mono {x:Str}{j k:Nat}{ps:List Str}{sp:Sp}(G:Bb P w K mg base x j ps sp)(h:j<=k):Bb P w K mg base x k ps sp:=
 let⟨f,fd,F,r⟩:=G;⟨f,fd,F.mono h,r⟩
def Df (K:PySem.W.Frag)(mg:Str->Option Value)(x:Str)(st:Stmt):Prop:=∃f fd,Ra K x x st f fd/\mg x=some (.ref f)
theorem Df.has {x:Str}{st:Stmt}{N ps:List Str}{k:Nat}{sp:Sp}(D:Df K mg x st)(S:AW N ps (AJ st))
 (hb:∀(kV doc pm:Value) (an:Option Addr) (cdv ct:Value) (us:List Value),us.length=ps.length->bindArgs (PySem.W.fnOf x x (Cq st) (Bw st) (AJ st) .none kV doc pm an cdv ct) ⟨us,[]⟩=pure (ps.zip us))
 (len:∀vs H Q E,sp vs H Q E->vs.length=ps.length)
 (hbody:∀(f:Addr) (cdv:Value) (A:Around) (outer:List Env) (s:Shared) (H:Hp) (vs:List V) (Q:VK) (E:XK),B6 k (A.deeper (envOfC x (AJ st) s.heap.objs.size f cdv))->sp vs H Q E->
  ∃t,Iq (Bp CX0 P w K mg base N x (AJ st) f cdv A outer s H E).Ft (Bw st) t/\t { nx:=λ_ H'=>Q .A3 H',rt:=Q } (start N vs) H):Bb P w K mg base x (k+1) ps sp:=by
 obtain⟨f,fd,F,m⟩:=D
 exact⟨f,fd,F.ok S len λcdv A outer s H vs Q E hr h=>hbody f cdv A outer s H vs Q E hr h,F.binds hb,F.kp,m⟩
end
theorem AK {X:Cx}{x:Str}{k:Nat}{ps:List Str}{sp:Sp}{p pos:Pos}{e:Expr}{es:List Expr}{t:TA}(G:Bb X.prog X.w X.K X.mg X.base x k ps sp)(hr:B6 k X.A)(hg:Gl X x)(ha:PA X (e::es) t)
 (hdb:(x==("__debug__":Str))=false:=by decide)(he:starEach (e::es) X.env=(false,eval e X.env)::starEach es X.env:=by rfl)(hpl:(backTo pos (starEach es X.env)).any (·.1)=false:=by rfl):
 PE X (.Call (.Name x p) (e::es) [] pos) (Nm sp [] E0 t):=by
 obtain⟨f,fd,F,b,kp,m⟩:=G
 exact QA F hr hg m kp b .nil Sz ha hdb he hpl
structure Blt (mg:Str->Option Value):Prop where
 len:mg "len"=none
 range:mg "range"=none
 zip:mg "zip"=none
 enumerate:mg "enumerate"=none
 max:mg "max"=none
 min:mg "min"=none
 int_:mg "int"=none
 str_:mg "str"=none
 bool_:mg "bool"=none
 list_:mg "list"=none
 tuple_:mg "tuple"=none
 isinstance:mg "isinstance"=none
section
variable {p q:Addr}{H H1 H2:Hp}{o:HO}
end
theorem Aw:bootBuiltins "len"=some (.builtin "len"):=by decide+kernel
theorem IK:bootBuiltins "max"=some (.builtin "max"):=by decide+kernel
theorem Rg:bootBuiltins "min"=some (.builtin "min"):=by decide+kernel
theorem FJ:bootBuiltins "sorted"=some (.builtin "sorted"):=by decide+kernel
theorem Au:bootBuiltins "isinstance"=some (.builtin "isinstance"):=by decide+kernel
theorem ET:bootBuiltins "int"=some (.type "int"):=by decide+kernel
theorem N4:bootBuiltins "str"=some (.type "str"):=by decide+kernel
theorem IL:bootBuiltins "bool"=some (.type "bool"):=by decide+kernel
theorem Fw:bootBuiltins "list"=some (.type "list"):=by decide+kernel
theorem BW:bootBuiltins "tuple"=some (.type "tuple"):=by decide+kernel
theorem AG.new {H0 H:Hp}{q:Addr}{o:HO}(h:AG H0 H)(hq:H q=none):AG H0 (upd H q o):=λb u e=>by
 have:=h b u e
 rw[AH (AI this hq)];exact this
theorem AG.write {H0 H:Hp}{q:Addr}{o:HO}(h:AG H0 H)(hq:H0 q=none):AG H0 (upd H q o):=λb u e=>by
 rw[AH (AI e hq)];exact h b u e
theorem app_list (a y:Str):(a++y).cps.toList=a.cps.toList++y.cps.toList:=by
 show(a.cps++y.cps).toList=_
 simp
end L2
namespace L2
open PySem PySem.Spec PyProof.Rows
section
variable {X:Cx}
theorem Lj (K:PySem.W.Frag){es:List Expr}{k:Nat}{t:Qw}{n:Nat}{pos:Pos}(hc:X.calm=true)(h:Se X es t)(hK:X.K=K:=by rfl)(hn:(assignEach es X.env).length=n:=by rfl)
 (hst:(assignEach es X.env).findIdx? (·.1)=none:=by rfl):PG X (.Tuple es k pos) (Sh K n t):=by
 subst hK
 exact Ce hc h hn hst
theorem GC:∀{ys:List Str} {us:List Value},Vals (ys.map V.str) us->StrsAre us ys
 |[],[],_=>.nil
 |[],_::_,h=>nomatch h
 |_::_,[],h=>nomatch h
 |y::r,u::us,h=>by
  cases h with
  |cons a b=>
   obtain⟨t,rfl⟩:=a
   exact .cons y t (GC b)
theorem IM:UN X "str.join" (λx vs H Q=>∃z a ys,x=.str z/\vs=[.ref a]/\Am X.K H a (ys.map V.str)/\(ys.map (·.length)).sum+ys.length*z.length<=16777216/\Q (.str (Txt.join z ys)) H):=by
 intro pins s σ H x xs v us Q I rx rv h
 obtain⟨z,a,ys,rfl,rfl,hl,hok,q⟩:=h
 obtain⟨t,rfl⟩:=rx
 obtain⟨u,rfl,ru⟩:=rv.one
 cases(show u=Value.ref a from ru)
 obtain⟨its,r,ht,hz⟩:=I.list hl
 exact join_list ht.isList (GC (by simpa using r)) hok λt' k=>⟨.str _,H,I.tok k,⟨t',rfl⟩,q⟩
def DO (xs ys:List V)(j:Nat):Bool:=match xs[j]?,ys[j]? with
 |some x,some y=>JB x y
 |_,_=>false
def Ci (xs ys:List V):Bool:=xs.length==ys.length&&(List.range xs.length).all (DO xs ys)
theorem FK (ns:List Int):(ns.map V.int).all BZ=true:=by
 rw[List.all_eq_true];intro x hx;obtain⟨n,_,rfl⟩:=List.mem_map.mp hx;rfl
theorem EU {A:Around}{s:Shared}{xs ys:List V}{us ws:List Value}(r1:Vals xs us)(r2:Vals ys ws)(f1:xs.all BZ=true)(f2:ys.all BZ=true)(j:Nat)(h1:j < us.toArray.size)(h2:j < ws.toArray.size):
 SeqAt.EqAt A s us.toArray[j] ws.toArray[j] (DO xs ys j):=by
 have g1:j < xs.length:=by rw[r1.length];simpa using h1
 have g2:j < ys.length:=by rw[r2.length];simpa using h2
 obtain⟨u,e1,q1⟩:=r1.get (List.getElem?_eq_getElem g1)
 obtain⟨v,e2,q2⟩:=r2.get (List.getElem?_eq_getElem g2)
 have d1:us.toArray[j]=u:=by
  rw[List.getElem?_eq_getElem (by simpa using h1)]at e1
  simpa using Option.some.inj e1
 have d2:ws.toArray[j]=v:=by
  rw[List.getElem?_eq_getElem (by simpa using h2)]at e2
  simpa using Option.some.inj e2
 rw[d1,d2]
 unfold DO
 rw[List.getElem?_eq_getElem g1,List.getElem?_eq_getElem g2]
 exact Kf q1 q2 (List.all_eq_true.mp f1 _ (List.getElem_mem g1)) (List.all_eq_true.mp f2 _ (List.getElem_mem g2))
theorem Mq (hu:X.A.units < cLine):DS X (compareOp .Eq) (λx y H Q=>∃a b xs ys,x=.ref a/\y=.ref b/\Am X.K H a xs/\Am X.K H b ys/\xs.all BZ=true/\ys.all BZ=true/\Q (.bl (Ci xs ys)) H):=by
 intro pins s σ H x y v u Q I rx ry h
 obtain⟨a,b,xs,ys,rfl,rfl,h1,h2,f1,f2,q⟩:=h
 cases(show v=Value.ref a from rx)
 cases(show u=Value.ref b from ry)
 obtain⟨us,r1,l1,_⟩:=I.list h1
 obtain⟨ws,r2,l2,_⟩:=I.list h2
 have e1:=r1.length
 have e2:=r2.length
 by_cases hl:xs.length=ys.length
 ·refine SeqAt.eq_listAt (e:=DO xs ys) l1.isList l2.isList (by simp;omega) hu (λj g1 g2=>EU r1 r2 f1 f2 j g1 g2) ⟨.bl _,H,I,rfl,?_⟩
  have:Ci xs ys=(List.range us.toArray.size).all (DO xs ys):=by
   unfold Ci
   rw[List.size_toArray,<-e1,beq_iff_eq.mpr hl,Bool.true_and]
  rw[<-this];exact q
 ·refine SeqAt.eq_list_lengthsAt l1.isList l2.isList (by simp;omega) hu ⟨.bl _,H,I,rfl,?_⟩
  have:Ci xs ys=false:=by
   unfold Ci
   have:(xs.length==ys.length)=false:=by simpa using hl
   rw[this];rfl
  rw[this]at q;exact q
end
section
variable {NL:List Str}{ix:List Nat}{g:TG}{tt:TT}{te:TE}{σ:St}{H1:Hp}{Qs:Hp->Prop}{acc:Addr}
theorem Bu {K:PySem.W.Frag}{a:Addr}{xs:List V}(hn:xs.length < 1000)(Pv:Nat->List V->Hp->Prop)
 (hl:∀i ys H2,Pv i ys H2->Am K H2 a xs)(hacc:∀i ys H2,Pv i ys H2->H2 acc=some (.lst ys)/\ys.length<=i)(h0:Pv 0 [] (upd H1 acc (.lst [])))(hstop:∀ys H2,Pv xs.length ys H2->Qs H2)
 (hturn:∀i x ys H2,xs[i]?=some x->Pv i ys H2->g x (As NL ix σ) H2 λσ' H4=>σ'.drop NL.length=ix.map (λj=>σ.getD j none)/\tt σ' H4 λb H5=>
  if b=true then te σ' H5 λv H6=>H6 acc=some (.lst ys)/\Pv (i+1) (ys++[v]) (upd H6 acc (.lst (ys++[v])))else Pv (i+1) ys H5):
 ∃W:Nat->Nat->List V->Hp->Prop,(∃m,W 0 m [] (upd H1 acc (.lst [])))/\
 ∀i m ys H2,W i m ys H2->H2 acc=some (.lst ys)/\ys.length < sizeLine/\
  (((Qx K a).stop i H2/\Qs H2)\/((Qx K a).go i H2/\∃N:List V->Hp->Prop,(∀ys' H',N ys' H'->∃m',m' < m/\W (i+1) m' ys' H')/\
    ∀x H3,(Qx K a).yld i H2 x H3->g x (As NL ix σ) H3 λσ' H4=>σ'.drop NL.length=ix.map (λj=>σ.getD j none)/\tt σ' H4 λb H5=>
     if b=true then te σ' H5 λv H6=>H6 acc=some (.lst ys)/\N (ys++[v]) (upd H6 acc (.lst (ys++[v])))else N ys H5)):=by
 refine Cr xs.length hn Pv hacc h0 (λys H2 hp=>⟨⟨xs,hl _ _ _ hp,Nat.le_refl _⟩,hstop ys H2 hp⟩) λi ys H2 hi hp=>?_
 have hs:=hl _ _ _ hp
 refine⟨⟨xs,xs[i],hs,List.getElem?_eq_getElem hi⟩,?_⟩
 rintro x H3 ⟨rfl,hx⟩
 exact hturn i x ys H3 (hx xs hs) hp
theorem HU {κ:SK}{xs:List V}(hn:xs.length < 1000)(Pv:Nat->List V->Hp->Prop)
 (hl:∀i ys H2,Pv i ys H2->κ.has H2 xs)(hacc:∀i ys H2,Pv i ys H2->H2 acc=some (.lst ys)/\ys.length<=i)(h0:Pv 0 [] (upd H1 acc (.lst [])))(hstop:∀ys H2,Pv xs.length ys H2->Qs H2)
 (hturn:∀(i:Nat) x ys H2 p,xs[i]?=some x->Pv i ys H2->H2 p=none->g (.ref p) (As NL ix σ) (upd H2 p (.tup [.int i,x])) λσ' H4=>σ'.drop NL.length=ix.map (λj=>σ.getD j none)/\tt σ' H4 λb H5=>
  if b=true then te σ' H5 λv H6=>H6 acc=some (.lst ys)/\Pv (i+1) (ys++[v]) (upd H6 acc (.lst (ys++[v])))else Pv (i+1) ys H5):
 ∃W:Nat->Nat->List V->Hp->Prop,(∃m,W 0 m [] (upd H1 acc (.lst [])))/\
 ∀i m ys H2,W i m ys H2->H2 acc=some (.lst ys)/\ys.length < sizeLine/\
  (((Q4 κ).stop i H2/\Qs H2)\/((Q4 κ).go i H2/\∃N:List V->Hp->Prop,(∀ys' H',N ys' H'->∃m',m' < m/\W (i+1) m' ys' H')/\
    ∀x H3,(Q4 κ).yld i H2 x H3->g x (As NL ix σ) H3 λσ' H4=>σ'.drop NL.length=ix.map (λj=>σ.getD j none)/\tt σ' H4 λb H5=>
     if b=true then te σ' H5 λv H6=>H6 acc=some (.lst ys)/\N (ys++[v]) (upd H6 acc (.lst (ys++[v])))else N ys H5)):=by
 refine Cr xs.length hn Pv hacc h0 (λys H2 hp=>⟨⟨xs,hl _ _ _ hp,rfl⟩,hstop ys H2 hp⟩) λi ys H2 hi hp=>?_
 have hs:=hl _ _ _ hp
 refine⟨⟨xs,xs[i],hs,List.getElem?_eq_getElem hi⟩,?_⟩
 rintro x H3 ⟨p,x',rfl,hpn,rfl,hx⟩
 exact hturn i x' ys H2 p (hx xs hs) hp hpn
end
abbrev CO (H:Hp)(p:Addr)(c:Int):Prop:=∃x y z:Int,H p=some (.lst [.int x,.int y,.int z])/\0<=z/\z<=c
structure Kd (p:Addr)(c:Int)(H H':Hp):Prop where
 deck:CO H' p c
 keep:∀b o,b≠p->H b=some o->H' b=some o
section
variable {p q:Addr}{H H1 H2:Hp}{o:HO}{c d:Int}
theorem CO.mono (h:CO H p c)(e:c<=d):CO H p d:=let⟨x,y,z,a,b,f⟩:=h;⟨x,y,z,a,b,Int.le_trans f e⟩
theorem Kd.mono (h:Kd p c H H1)(e:c<=d):Kd p d H H1:=⟨h.deck.mono e,h.keep⟩
theorem Kd.refl (h:CO H p c):Kd p c H H:=⟨h,λ_ _ _ e=>e⟩
theorem Kd.trans (a:Kd p c H H1)(b:Kd p d H1 H2):Kd p d H H2:=⟨b.deck,λk u hc e=>b.keep k u hc (a.keep k u hc e)⟩
theorem Kd.new (a:Kd p c H H1)(hq:H1 q=none):Kd p c H (upd H1 q o):=by
 obtain⟨⟨x,y,z,e,r⟩,k⟩:=a
 refine⟨⟨x,y,z,by rw[AH (AI e hq)];exact e,r⟩,λb u hc h=>?_⟩
 have:=k b u hc h
 rw[AH (AI this hq)];exact this
theorem Kd.write (a:Kd p c H H1)(hq:H q=none)(hp:q≠p):Kd p c H (upd H1 q o):=by
 obtain⟨⟨x,y,z,e,r⟩,k⟩:=a
 refine⟨⟨x,y,z,by rw[AH (Ne.symm hp)];exact e,r⟩,λb u hc h=>?_⟩
 rw[AH (AI h hq)];exact k b u hc h
theorem CO.ne (h:CO H p c)(hq:H q=none):q≠p:=by
 obtain⟨x,y,z,e,_⟩:=h
 exact Ne.symm (AI e hq)
theorem Kd.same (a:Kd p c H H1)(s:AG H1 H2):Kd p c H H2:=by
 obtain⟨⟨x,y,z,e,r⟩,k⟩:=a
 exact⟨⟨x,y,z,s _ _ e,r⟩,λb u hc h=>s _ _ (k b u hc h)⟩
theorem Kd.fresh (a:Kd p c H H1)(hq:H1 q=none):H q=none:=by
 cases e:H q with
 |none=>rfl
 |some u=>
  have:=a.keep q u (a.deck.ne hq) e
  rw[hq]at this;cases this
theorem Lk {o:HO}(h:CO H p c)(e:H q=some o)(ho:∀x y z:Int,o≠.lst [.int x,.int y,.int z]):q≠p:=λk=>by
 obtain⟨x,y,z,hp,_⟩:=h
 subst k
 rw[hp]at e
 exact ho x y z (Option.some.inj e).symm
end
end L2
namespace L2
open PySem PySem.Spec PyProof.Rows
section
variable {X:Cx}
theorem Ll (f:Nat->Int):∀n,argBest (λi j=>decide (f i > f j)) n<=n/\∀i,i<=n->f i<=f (argBest (λi j=>decide (f i > f j)) n)
 |0=>⟨Nat.le_refl _,λi h=>by have:i=0:=by omega
                             subst this;exact Int.le_refl _⟩
 |n+1=>by
  obtain⟨a,b⟩:=Ll f n
  unfold argBest
  by_cases h:f (n+1) > f (argBest (λi j=>decide (f i > f j)) n)
  ·rw[decide_eq_true h,if_pos rfl]
   refine⟨Nat.le_refl _,λi hi=>?_⟩
   rcases Nat.lt_or_ge i (n+1)with c|c
   ·have:=b i (by omega);omega
   ·have:i=n+1:=by omega
    rw[this];exact Int.le_refl _
  ·rw[decide_eq_false h,if_neg Bool.false_ne_true]
   refine⟨by omega,λi hi=>?_⟩
   rcases Nat.lt_or_ge i (n+1)with c|c
   ·exact b i (by omega)
   ·have:i=n+1:=by omega
    rw[this];omega
theorem Mr (hc:X.calm=true):Bs X (.builtin "max") (λvs H Q=>∃(a:Addr) (ns:List Int),vs=[.ref a]/\Am X.K H a (ns.map V.int)/\ns≠[]/\∀m:Int,m∈ns->(∀x∈ns,x<=m)->Q (.int m) H):=by
 intro pins s σ H xs us Q I r h
 obtain⟨a,ns,rfl,hl,hne,q⟩:=h
 obtain⟨u,rfl,ru⟩:=vals1 r
 cases(show u=Value.ref a from ru)
 obtain⟨its,rv,ht,hz⟩:=I.list hl
 have hlen:=rv.length
 rw[List.length_map]at hlen
 have hh:X.A.in1.handled=none:=I.ok.hd hc
 have hlt:a < s.heap.objs.size:=by obtain⟨o,e,_⟩:=ht.isList;exact Heap.lt_size e
 have hpos:0 < ns.length:=List.length_pos_iff.mpr hne
 refine call_max_walk (wpAny_pyIter_list ht.isList ⟨s.heap.objs.size,_,_,_,_,_,_,rfl,Walks.list hh s.heap.objs.size a (Nat.ne_of_lt hlt) its.toArray,?_,?_,?_,CmpOf.ints_gt (λi=>ns.getD i 0) ?_,?_⟩)
 ·exact⟨⟨_,Heap.get?_push_size _ rfl,rfl,rfl⟩,Heap.IsList.push ht.isList _⟩
 ·intro b hb
  have:b=s.heap.objs.size\/b=a:=by simpa using hb
  show b < (s.heap.objs.push _).size
  rw[Array.size_push]
  rcases this with rfl|rfl
  ·exact Nat.lt_succ_self _
  ·exact Nat.lt_succ_of_lt hlt
 ·rw[List.size_toArray,<-hlen];exact hpos
 ·intro i v hv
  have hv':its[i]?=some v:=by simpa using hv
  have hi:i < (ns.map V.int).length:=by rw[List.length_map,hlen];exact(List.getElem?_eq_some_iff.mp hv').1
  obtain⟨u',e1,e2⟩:=rv.get (List.getElem?_eq_getElem hi)
  rw[hv']at e1
  cases e1
  rw[List.getElem_map]at e2
  obtain⟨t,e2⟩:∃t,v=Value.int _ t:=e2
  have hb:ns.getD i 0=ns[i]'(by simpa using hi):=by rw[List.getD_eq_getElem?_getD,List.getElem?_eq_getElem (by simpa using hi)];rfl
  exact⟨t,by rw[hb];exact e2⟩
 ·intro v h' tk hv hk
  rw[List.size_toArray,<-hlen]at hv
  obtain⟨b1,b2⟩:=Ll (λi=>ns.getD i 0) (ns.length - 1)
  generalize argBest (λi j=>decide (ns.getD i 0 > ns.getD j 0)) (ns.length - 1)=m at hv b1 b2
  have hv':its[m]?=some v:=by simpa using hv
  have hi:m < (ns.map V.int).length:=by rw[List.length_map];omega
  obtain⟨u',e1,e2⟩:=rv.get (List.getElem?_eq_getElem hi)
  rw[hv']at e1
  cases e1
  rw[List.getElem_map]at e2
  have hb:ns.getD m 0=ns[m]'(by omega):=by rw[List.getD_eq_getElem?_getD,List.getElem?_eq_getElem (by omega)];rfl
  refine⟨.int (ns[m]'(by omega)),H,?_,e2,q _ (List.getElem_mem _) λx hx=>?_⟩
  ·exact I.kept (t':=tk) λb o e=>hk b o (by simp;exact Nat.ne_of_lt (Heap.lt_size e)) (Heap.get?_push_of_some _ e)
  ·obtain⟨j,hj,rfl⟩:=List.getElem_of_mem hx
   have g:=b2 j (by omega)
   have hb2:ns.getD j 0=ns[j]:=by rw[List.getD_eq_getElem?_getD,List.getElem?_eq_getElem hj];rfl
   show ns[j]<=_
   rw[<-hb,<-hb2];exact g
theorem Ms (hu:X.A.units < cLine):DS X (compareOp .NotEq) (λx y H Q=>∃a b xs ys,x=.ref a/\y=.ref b/\Am X.K H a xs/\Am X.K H b ys/\xs.all BZ=true/\ys.all BZ=true/\Q (.bl (!Ci xs ys)) H):=by
 intro pins s σ H x y v u Q I rx ry h
 obtain⟨a,b,xs,ys,rfl,rfl,h1,h2,f1,f2,q⟩:=h
 cases(show v=Value.ref a from rx)
 cases(show u=Value.ref b from ry)
 obtain⟨us,r1,l1,_⟩:=I.list h1
 obtain⟨ws,r2,l2,_⟩:=I.list h2
 have e1:=r1.length
 have e2:=r2.length
 by_cases hl:xs.length=ys.length
 ·refine SeqAt.RcNeAt.lists (e:=DO xs ys) l1.isList l2.isList (by simp;omega) hu (λj g1 g2=>EU r1 r2 f1 f2 j g1 g2) _ _ _ _ ⟨.bl _,H,I,rfl,?_⟩
  have:Ci xs ys=(List.range us.toArray.size).all (DO xs ys):=by
   unfold Ci
   rw[List.size_toArray,<-e1,beq_iff_eq.mpr hl,Bool.true_and]
  rw[<-this];exact q
 ·refine SeqAt.RcNeAt.lists_lengths l1.isList l2.isList (by simp;omega) hu _ _ _ _ ⟨.bl _,H,I,rfl,?_⟩
  have:Ci xs ys=false:=by
   unfold Ci
   have:(xs.length==ys.length)=false:=by simpa using hl
   rw[this];rfl
  rw[this]at q;exact q
end
end L2
namespace L2
open PySem PySem.Spec PyProof.Rows
section
variable {X:Cx}
theorem range_all (bs:List Bool):(List.range bs.length).all (λi=>bs.getD i true)=bs.all id:=by
 rw[Bool.eq_iff_iff,List.all_eq_true,List.all_eq_true]
 constructor
 ·intro h b hb
  obtain⟨i,hi,rfl⟩:=List.getElem_of_mem hb
  have:=h i (List.mem_range.mpr hi)
  rw[List.getD_eq_getElem?_getD,List.getElem?_eq_getElem hi]at this
  exact this
 ·intro h i hi
  have hi':=List.mem_range.mp hi
  rw[List.getD_eq_getElem?_getD,List.getElem?_eq_getElem hi']
  exact h _ (List.getElem_mem hi')
theorem JI (hc:X.calm=true):Bs X (.builtin "all") (λvs H Q=>∃(a:Addr) (bs:List Bool),vs=[.ref a]/\Am X.K H a (bs.map V.bl)/\Q (.bl (bs.all id)) H):=by
 intro pins s σ H xs us Q I r h
 obtain⟨a,bs,rfl,hl,q⟩:=h
 obtain⟨u,rfl,ru⟩:=vals1 r
 cases(show u=Value.ref a from ru)
 obtain⟨its,rv,ht,hz⟩:=I.list hl
 have hlen:=rv.length
 rw[List.length_map]at hlen
 have hh:X.A.in1.handled=none:=I.ok.hd hc
 have hlt:a < s.heap.objs.size:=by obtain⟨o,e,_⟩:=ht.isList;exact Heap.lt_size e
 refine call_all_walk (wpAny_pyIter_list ht.isList ⟨s.heap.objs.size,_,_,_,_,_,λi=>bs.getD i true,rfl,Walks.list hh s.heap.objs.size a (Nat.ne_of_lt hlt) its.toArray,?_,?_,?_⟩)
 ·exact⟨⟨_,Heap.get?_push_size _ rfl,rfl,rfl⟩,Heap.IsList.push ht.isList _⟩
 ·intro i v s' Q' E' hv hQ
  have hv':its[i]?=some v:=by simpa using hv
  have hi:i < (bs.map V.bl).length:=by rw[List.length_map,hlen];exact(List.getElem?_eq_some_iff.mp hv').1
  obtain⟨u',e1,e2⟩:=rv.get (List.getElem?_eq_getElem hi)
  rw[hv']at e1
  cases e1
  rw[List.getElem_map]at e2
  cases(show v=Value.bool _ from e2)
  refine wpAny_truthy_bool ?_
  have hb:bs.getD i true=bs[i]'(by simpa using hi):=by rw[List.getD_eq_getElem?_getD,List.getElem?_eq_getElem (by simpa using hi)];rfl
  rw[<-hb]
  exact hQ
 ·intro h' tk hk
  refine⟨.bl (bs.all id),H,?_,?_,q⟩
  ·exact I.kept (t':=tk) λb o e=>hk b o (by simp;exact Nat.ne_of_lt (Heap.lt_size e)) (Heap.get?_push_of_some _ e)
  ·show Value.bool _=Value.bool _
   rw[<-range_all,hlen,List.size_toArray]
end
end L2
namespace L2
open PySem.W PyProof.Rows
section
variable {α β:Type}{n:Nat}{lt:Nat->Nat->Bool}
def JJ (n:Nat)(lt:Nat->Nat->Bool):KasT α->(α->Prop)->Prop
 |.ret a,Q=>Q a
 |.ask i j k,Q=>i < n/\j < n/\JJ n lt (k (lt i j)) Q
theorem C2 {f:α->KasT β}{Q:β->Prop}:∀t:KasT α,JJ n lt t (λa=>JJ n lt (f a) Q)->JJ n lt (t.bind f) Q
 |.ret _,h=>h
 |.ask i j k,h=>⟨h.1,h.2.1,C2 (k (lt i j)) h.2.2⟩
structure S4 (n:Nat)(lt:Nat->Nat->Bool):Prop where
 asym:∀i j,lt i j=true->lt j i=false
 tr:∀i j k,lt j i=false->lt k j=false->lt k i=false
 Q5:∀i j,i < n->j < n->lt i j=false->lt j i=false->i=j
def A6 (n:Nat)(p:Array Nat):Prop:=p.toList.Perm (List.range n)
abbrev Cv (lt:Nat->Nat->Bool)(p:Array Nat)(m:Nat):Prop:=∀i j,i < j->j < m->lt (p.getD j 0) (p.getD i 0)=false
abbrev N5 (lt:Nat->Nat->Bool)(p:Array Nat)(m:Nat):Prop:=∀i j,i < j->j < m->lt (p.getD i 0) (p.getD j 0)=false
theorem A6.sz {p:Array Nat}(h:A6 n p):p.size=n:=by
 have:=List.Perm.length_eq h
 simpa using this
theorem A6.below {p:Array Nat}(h:A6 n p)(h0:0 < n)(k:Nat):p.getD k 0 < n:=by
 rw[Array.getD_eq_getD_getElem?]
 cases e:p[k]? with
 |none=>exact h0
 |some x=>
  have:x∈p.toList:=by
   have:=Array.mem_of_getElem? e
   exact Array.mem_toList_iff.mpr this
  exact List.mem_range.mp ((List.Perm.mem_iff h).mp this)
theorem A6.inj {p:Array Nat}(h:A6 n p){i j:Nat}(hi:i < n)(hj:j < n)(e:p.getD i 0=p.getD j 0):i=j:=by
 have nd:p.toList.Nodup:=(List.Perm.nodup_iff h).mpr List.nodup_range
 have s:=h.sz
 have hi':i < p.toList.length:=by rw[Array.length_toList,s];exact hi
 have hj':j < p.toList.length:=by rw[Array.length_toList,s];exact hj
 rw[Array.getD_eq_getD_getElem?,Array.getD_eq_getD_getElem?,Array.getElem?_eq_getElem (by omega),Array.getElem?_eq_getElem (by omega)]at e
 have e':p.toList[i]=p.toList[j]:=by simpa using e
 exact(List.getElem_inj nd).mp e'
theorem N6 {p:Array Nat}{m:Nat}(hm:m<=p.size)(k:Nat):(kas_rev p 0 m).getD k 0=if k < m then p.getD (m - 1 - k) 0 else p.getD k 0:=by
 unfold kas_rev
 rw[Array.getD_eq_getD_getElem?,getElem?_mirror_all hm]
 by_cases h:k < m
 ·rw[if_pos ⟨Nat.zero_le _,h⟩,if_pos h,Array.getD_eq_getD_getElem?,Nat.zero_add]
 ·rw[if_neg (by omega),if_neg h,Array.getD_eq_getD_getElem?]
theorem JK {p:Array Nat}{m:Nat}(h:A6 n p):A6 n (kas_rev p 0 m):=List.Perm.trans (Array.perm_iff_toList_perm.mp (mirror_perm p 0 m _)) h
theorem N7 {p:Array Nat}{m:Nat}(hm:m<=p.size)(h:N5 lt p m):Cv lt (kas_rev p 0 m) m:=λi j hij hj=>by
 rw[N6 hm,N6 hm,if_pos hj,if_pos (by omega)]
 exact h _ _ (by omega) (by omega)
variable (o:S4 n lt)
include o
theorem Km {p:Array Nat}(hp:A6 n p){Q:Nat->Prop}:∀f m,1<=m->m+f<=n->Cv lt p m->(∀k,m<=k->k<=m+f->Cv lt p k->(k=m+f\/lt (p.getD k 0) (p.getD (k - 1) 0)=true)->Q k)->JJ n lt (kas_asc p f m) Q
 |0,m,h1,h2,hr,hq=>hq m (Nat.le_refl _) (Nat.le_refl _) hr (.inl rfl)
 |f+1,m,h1,h2,hr,hq=>by
  refine⟨hp.below (by omega) _,hp.below (by omega) _,?_⟩
  cases e:lt (p.getD m 0) (p.getD (m - 1) 0)with
  |true=>exact hq m (Nat.le_refl _) (by omega) hr (.inr e)
  |false=>
   refine Km hp f (m+1) (by omega) (by omega) (λi j hij hj=>?_) λk a b c d=>hq k (by omega) (by omega) c (by rcases d with d|d;exact .inl (by omega);exact .inr d)
   rcases Nat.lt_or_ge j m with q|q
   ·exact hr i j hij q
   ·have:j=m:=by omega
    subst this
    rcases Nat.lt_or_ge i (j - 1)with z|z
    ·exact o.tr _ _ _ (hr i (j - 1) z (by omega)) e
    ·have:i=j - 1:=by omega
     rw[this];exact e
theorem Ln {p:Array Nat}(hp:A6 n p){Q:Array Nat×Nat×Nat->Prop}:∀f m,1<=m->m+f<=n->N5 lt p m->(∀k,m<=k->k<=m+f->N5 lt p k->Q (p,k,0))->JJ n lt (kas_desc f p m 0) Q
 |0,m,h1,h2,hr,hq=>hq m (Nat.le_refl _) (Nat.le_refl _) hr
 |f+1,m,h1,h2,hr,hq=>by
  refine⟨hp.below (by omega) _,hp.below (by omega) _,?_⟩
  cases e:lt (p.getD m 0) (p.getD (m - 1) 0)with
  |true=>
   simp only[if_true,Nat.lt_irrefl,gt_iff_lt,if_false]
   refine Ln hp f (m+1) (by omega) (by omega) (λi j hij hj=>?_) λk a b c=>hq k (by omega) (by omega) c
   rcases Nat.lt_or_ge j m with q|q
   ·exact hr i j hij q
   ·have:j=m:=by omega
    subst this
    have e':=o.asym _ _ e
    rcases Nat.lt_or_ge i (j - 1)with z|z
    ·exact o.tr _ _ _ e' (hr i (j - 1) z (by omega))
    ·have:i=j - 1:=by omega
     rw[this];exact e'
  |false=>
   simp only[Bool.false_eq_true,if_false]
   refine⟨hp.below (by omega) _,hp.below (by omega) _,?_⟩
   cases d:lt (p.getD (m - 1) 0) (p.getD m 0)with
   |true=>exact hq m (Nat.le_refl _) (by omega) hr
   |false=>
    have z:=hp.inj (by omega) (by omega) (o.Q5 _ _ (hp.below (by omega) _) (hp.below (by omega) _) d e)
    omega
theorem QK {p:Array Nat}(hp:A6 n p){Q:Nat×Array Nat->Prop}{m:Nat}(h1:1<=m)(h2:m<=n)(hf:N5 lt p m)(hq:∀k p',1<=k->k<=n->A6 n p'->Cv lt p' k->Q (k,p')):JJ n lt (kas_tail3 m n p) Q:=by
 have s:=hp.sz
 exact C2 _ (Km o (JK hp) (n - m) m h1 (by omega) (N7 (by omega) hf) λk a b c _=>hq k _ (by omega) (by omega) (JK hp) c)
theorem QL {p:Array Nat}(hp:A6 n p){Q:Nat×Array Nat->Prop}{m:Nat}(h1:1<=m)(h2:m+1<=n)(hf:N5 lt p (m+1))(hq:∀k p',1<=k->k<=n->A6 n p'->Cv lt p' k->Q (k,p')):JJ n lt (kas_descPart m n p) Q:=by
 refine C2 _ (Ln o hp (n - (m+1)) (m+1) (by omega) (by omega) hf λk a b c=>?_)
 show JJ n lt (if 0 > 0 then _ else kas_tail3 k n p) Q
 rw[if_neg (by omega)]
 exact QK o hp (by omega) (by omega) c hq
theorem N8 {p:Array Nat}(hp:A6 n p){Q:Nat×Array Nat->Prop}(h1:1<=n)(hq:∀k p',1<=k->k<=n->A6 n p'->Cv lt p' k->Q (k,p')):JJ n lt (kas_count n p) Q:=by
 refine C2 _ (Km o hp (n - 1) 1 (Nat.le_refl _) (by omega) (λi j a b=>by omega) λk a b c d=>?_)
 by_cases e:k=n
 ·rw[if_pos (by rw[e];exact beq_self_eq_true _)]
  exact hq k p a (by omega) hp c
 ·rw[if_neg (by simpa using e)]
  have dk:lt (p.getD k 0) (p.getD (k - 1) 0)=true:=by rcases d with d|d;exact absurd (by omega) e;exact d
  by_cases g:k > 1
  ·rw[if_pos g]
   refine⟨hp.below (by omega) _,hp.below (by omega) _,?_⟩
   cases f:lt (p.getD 0 0) (p.getD (k - 1) 0)with
   |true=>exact hq k p a (by omega) hp c
   |false=>
    have z:=hp.inj (by omega) (by omega) (o.Q5 _ _ (hp.below (by omega) _) (hp.below (by omega) _) f (c 0 (k - 1) (by omega) (by omega)))
    omega
  ·rw[if_neg g]
   have hk:k=1:=by omega
   subst hk
   refine QL o hp (Nat.le_refl _) (by omega) (λi j hij hj=>?_) hq
   have:i=0/\j=1:=by omega
   rw[this.1,this.2]
   exact o.asym _ _ dk
theorem GD {p:Array Nat}(hp:A6 n p){k:Nat}(hk:k < n)(hr:Cv lt p k){Q:Nat->Prop}(hq:∀x,x<=k->(∀i,i < x->lt (p.getD k 0) (p.getD i 0)=false)->(∀i,x<=i->i < k->lt (p.getD k 0) (p.getD i 0)=true)->Q x):
 ∀f l r,l<=r->r<=k->r - l<=f->(∀i,i < l->lt (p.getD k 0) (p.getD i 0)=false)->(∀i,r<=i->i < k->lt (p.getD k 0) (p.getD i 0)=true)->JJ n lt (kas_place p k f l r) Q
 |0,l,r,h1,h2,h3,a,b=>hq l (by omega) a λi x y=>b i (by omega) y
 |f+1,l,r,h1,h2,h3,a,b=>by
  unfold kas_place
  by_cases g:l≥r
  ·rw[if_pos g]
   exact hq l (by omega) a λi x y=>b i (by omega) y
  ·rw[if_neg g]
   refine⟨hp.below (by omega) _,hp.below (by omega) _,?_⟩
   cases e:lt (p.getD k 0) (p.getD ((l+r) / 2) 0)with
   |true=>
    show JJ n lt (kas_place p k f l ((l+r) / 2)) Q
    refine GD hp hk hr hq f l ((l+r) / 2) (by omega) (by omega) (by omega) a λi x y=>?_
    rcases Nat.lt_or_ge ((l+r) / 2) i with z|z
    ·cases w:lt (p.getD k 0) (p.getD i 0)with
     |true=>rfl
     |false=>
      have:=o.tr _ _ _ (hr _ i z y) w
      rw[e]at this;cases this
    ·have:i=(l+r) / 2:=by omega
     rw[this];exact e
   |false=>
    show JJ n lt (kas_place p k f ((l+r) / 2+1) r) Q
    refine GD hp hk hr hq f ((l+r) / 2+1) r (by omega) h2 (by omega) (λi x=>?_) b
    rcases Nat.lt_or_ge i ((l+r) / 2)with z|z
    ·exact o.tr _ _ _ (hr i _ z (by omega)) e
    ·have:i=(l+r) / 2:=by omega
     rw[this];exact e
theorem N9 {Q:Array Nat->Prop}(hq:∀p,A6 n p->Cv lt p n->Q p):∀f k (p:Array Nat),k+f=n->A6 n p->Cv lt p k->JJ n lt (kas_bin f p k) Q
 |0,k,p,hk,hp,hr=>by
  have:k=n:=by omega
  subst this
  exact hq p hp hr
 |f+1,k,p,hk,hp,hr=>by
  have s:=hp.sz
  refine C2 _ (GD o hp (by omega) hr (λx hx lo hi=>?_) k 0 k (Nat.zero_le _) (Nat.le_refl _) (by omega) (λi hi=>absurd hi (Nat.not_lt_zero _)) λi a b=>absurd b (by omega))
  have e:k - (k - x)=x:=by omega
  have at':∀y,(bubble p k (k - x)).getD y 0=if y=x then p.getD k 0 else if x < y/\y<=k then p.getD (y - 1) 0 else p.getD y 0:=λy=>by
   rw[Array.getD_eq_getD_getElem?,getElem?_bubble (by omega) (k - x) (by omega) y,e]
   split
   ·rw[Array.getD_eq_getD_getElem?]
   ·split<;>rw[Array.getD_eq_getD_getElem?]
  refine N9 hq f (k+1) _ (by omega) (List.Perm.trans (Array.perm_iff_toList_perm.mp (bubble_perm p k _)) hp) λi j hij hj=>?_
  rw[at',at']
  by_cases jx:j=x
  ·rw[if_pos jx,if_neg (by omega),if_neg (by omega)]
   exact lo i (by omega)
  ·rw[if_neg jx]
   by_cases ix:i=x
   ·rw[if_pos ix,if_pos ⟨by omega,by omega⟩]
    exact o.asym _ _ (hi (j - 1) (by omega) (by omega))
   ·rw[if_neg ix]
    by_cases jg:x < j/\j<=k
    ·rw[if_pos jg]
     by_cases ig:x < i/\i<=k
     ·rw[if_pos ig];exact hr _ _ (by omega) (by omega)
     ·rw[if_neg ig];exact hr _ _ (by omega) (by omega)
    ·rw[if_neg jg,if_neg (by omega)];exact hr _ _ hij (by omega)
theorem QM (h1:1<=n):JJ n lt (kas_sort n) λp=>A6 n p/\Cv lt p n:=by
 refine C2 _ (N8 o (by unfold A6;simp) h1 λk p a b hp hr=>?_)
 show JJ n lt (if k < n then kas_bin (n - max k 1) p (max k 1)else .ret p) _
 by_cases g:k < n
 ·rw[if_pos g]
  have e:max k 1=k:=by omega
  rw[e]
  exact N9 o (λp hp hr=>⟨hp,hr⟩) (n - k) k p (by omega) hp hr
 ·rw[if_neg g]
  have:k=n:=by omega
  subst this
  exact⟨hp,hr⟩
end
open PySem PySem.Spec
theorem OA {α:Type}{n:Nat}{lt:Nat->Nat->Bool}{cmp:Nat->Nat->(Bool->Shared->Prop)->Shared->Prop}{J:Shared->Prop}{Q:α->Prop}{G:α->Shared->Prop}
 (hc:∀i j C s,i < n->j < n->J s->(∀s',J s'->C (lt i j) s')->cmp i j C s)(hG:∀a s',Q a->J s'->G a s'):∀(t:KasT α) (s:Shared),J s->JJ n lt t Q->t.kasWp cmp G s
 |.ret a,s,hi,h=>hG a s h hi
 |.ask i j k,s,hi,h=>hc i j _ s h.1 h.2.1 hi λs' hi'=>OA hc hG (k (lt i j)) s' hi' h.2.2
def DR:V->Nat
 |.int _=>1
 |.str _=>2
 |_=>0
def ltV:V->V->Bool
 |.int i,.int j=>decide (i < j)
 |.str a,.str b=>decide (a.cps.toList < b.cps.toList)
 |_,_=>false
def A8:List V->List V->Bool
 |x::xs,y::ys=>if x=y then A8 xs ys else ltV x y
 |[],_::_=>true
 |_,_=>false
theorem Rh {a b:Str}(h:a.cps.toList=b.cps.toList):a=b:=by
 obtain⟨x⟩:=a;obtain⟨y⟩:=b
 have:x=y:=Array.toList_inj.mp h
 rw[this]
theorem CI {x y:V}(hs:DR x=DR y)(h0:DR x≠0):(∃i j,x=.int i/\y=.int j)\/∃a b,x=.str a/\y=.str b:=by
 cases x<;>cases y<;>simp[DR]at hs h0 ⊢
theorem OB {x y:V}(h:ltV x y=true):ltV y x=false:=by
 cases x<;>cases y<;>simp[ltV]at h ⊢
 ·omega
 ·exact List.not_lt.mp (List.lt_asymm h)
theorem Lp {x y:V}(hs:DR x=DR y)(h0:DR x≠0)(h1:ltV x y=false)(h2:ltV y x=false):x=y:=by
 rcases CI hs h0 with⟨i,j,rfl,rfl⟩|⟨a,b,rfl,rfl⟩
 ·have h1':¬i < j:=of_decide_eq_false h1
  have h2':¬j < i:=of_decide_eq_false h2
  rw[show i=j by omega]
 ·have h1':¬a.cps.toList < b.cps.toList:=of_decide_eq_false h1
  have h2':¬b.cps.toList < a.cps.toList:=of_decide_eq_false h2
  rw[Rh (List.le_antisymm (List.not_lt.mp h2') (List.not_lt.mp h1'))]
theorem Ri {x y z:V}(hs:DR x=DR y)(ht:DR y=DR z)(h0:DR x≠0)(h1:ltV y x=false)(h2:ltV z y=false):ltV z x=false:=by
 rcases CI hs h0 with⟨i,j,rfl,rfl⟩|⟨a,b,rfl,rfl⟩
 ·rcases CI ht (by simp[DR])with⟨_,k,e,rfl⟩|⟨_,_,e,_⟩
  ·have h1':¬j < i:=of_decide_eq_false h1
   cases e
   have h2':¬k < j:=of_decide_eq_false h2
   exact decide_eq_false (by omega)
  ·cases e
 ·rcases CI ht (by simp[DR])with⟨_,_,e,_⟩|⟨_,c,e,rfl⟩
  ·cases e
  ·cases e
   have h1':¬b.cps.toList < a.cps.toList:=of_decide_eq_false h1
   have h2':¬c.cps.toList < b.cps.toList:=of_decide_eq_false h2
   exact decide_eq_false (List.not_lt.mpr (List.le_trans (List.not_lt.mp h1') (List.not_lt.mp h2')))
theorem C3:∀(xs ys:List V),A8 xs ys=true->A8 ys xs=false
 |x::xs,y::ys,h=>by
  unfold A8 at h ⊢
  by_cases e:x=y
  ·rw[if_pos e]at h;rw[if_pos e.symm];exact C3 xs ys h
  ·rw[if_neg e]at h;rw[if_neg (Ne.symm e)];exact OB h
 |[],_::_,_=>rfl
 |[],[],h=>by cases h
 |_::_,[],h=>by cases h
theorem En:∀(xs ys:List V),xs.map DR=ys.map DR->0∉xs.map DR->A8 xs ys=false->A8 ys xs=false->xs=ys
 |x::xs,y::ys,hs,h0,h1,h2=>by
  simp only[List.map_cons,List.cons.injEq]at hs
  simp only[List.map_cons,List.mem_cons,not_or]at h0
  unfold A8 at h1 h2
  by_cases e:x=y
  ·rw[if_pos e]at h1;rw[if_pos e.symm]at h2
   rw[e,En xs ys hs.2 h0.2 h1 h2]
  ·rw[if_neg e]at h1;rw[if_neg (Ne.symm e)]at h2
   exact absurd (Lp hs.1 (Ne.symm h0.1) h1 h2) e
 |[],[],_,_,_,_=>rfl
 |[],_::_,hs,_,_,_=>by cases hs
 |_::_,[],hs,_,_,_=>by cases hs
theorem Lr:∀(xs ys zs:List V),xs.map DR=ys.map DR->ys.map DR=zs.map DR->0∉xs.map DR->A8 ys xs=false->A8 zs ys=false->A8 zs xs=false
 |x::xs,y::ys,z::zs,hs,ht,h0,h1,h2=>by
  simp only[List.map_cons,List.cons.injEq]at hs ht
  simp only[List.map_cons,List.mem_cons,not_or]at h0
  unfold A8 at h1 h2 ⊢
  by_cases e:y=x
  ·rw[if_pos e]at h1
   by_cases f:z=y
   ·rw[if_pos f]at h2;rw[if_pos (f.trans e)];exact Lr xs ys zs hs.2 ht.2 h0.2 h1 h2
   ·rw[if_neg f]at h2;rw[if_neg (λq=>f (q.trans e.symm)),<-e];exact h2
  ·rw[if_neg e]at h1
   by_cases f:z=y
   ·rw[if_pos f]at h2;rw[if_neg (λq=>e (f.symm.trans q)),f];exact h1
   ·rw[if_neg f]at h2
    by_cases g:z=x
    ·exact absurd (Lp hs.1.symm (by rw[<-hs.1];exact Ne.symm h0.1) h1 (by rw[<-g];exact h2)) e
    ·rw[if_neg g];exact Ri hs.1 ht.1 (Ne.symm h0.1) h1 h2
 |[],[],[],_,_,_,_,_=>rfl
 |[],_::_,_,hs,_,_,_,_=>by cases hs
 |_::_,[],_,hs,_,_,_,_=>by cases hs
 |[],[],_::_,_,ht,_,_,_=>by cases ht
 |_::_,_::_,[],_,ht,_,_,_=>by cases ht
structure FL (n:Nat)(K:Nat->List V)(sh:List Nat):Prop where
 shp:∀i,(K i).map DR=sh
 ne:sh≠[]
 z:0∉sh
 inj:∀i j,i < n->j < n->K i=K j->i=j
theorem FL.Q5 {n:Nat}{K:Nat->List V}{sh:List Nat}(k:FL n K sh):S4 n (λi j=>A8 (K i) (K j)) where
 asym:=λi j h=>C3 _ _ h
 tr:=λi j l h1 h2=>Lr _ _ _ ((k.shp i).trans (k.shp j).symm) ((k.shp j).trans (k.shp l).symm) (by rw[k.shp];exact k.z) h1 h2
 Q5:=λi j hi hj h1 h2=>k.inj i j hi hj (En _ _ ((k.shp i).trans (k.shp j).symm) (by rw[k.shp];exact k.z) h1 h2)
section
variable {prog:Program}{w:World}{A:Around}{E:Value->Shared->Prop}{s:Shared}{Q:Bool->Shared->Prop}
theorem S5 {x y:V}{u v:Value}(hx:RelV x u)(hy:RelV y v)(hs:DR x=DR y)(h0:DR x≠0)(h:Q (decide (x=y)) s):wpAny (model prog w) A (eqBool u v) Q E s:=by
 rcases CI hs h0 with⟨i,j,rfl,rfl⟩|⟨a,b,rfl,rfl⟩
 ·obtain⟨t,rfl⟩:=hx
  obtain⟨t',rfl⟩:=hy
  refine wpAny_eqBool_int ?_
  have e:(i==j)=decide (V.int i=V.int j):=by by_cases q:i=j<;>simp[q]
  rw[e];exact h
 ·obtain⟨t,rfl⟩:=hx
  obtain⟨t',rfl⟩:=hy
  refine wpAny_eqBool_str ?_
  have e:decide (a=b)=decide (V.str a=V.str b):=by by_cases q:a=b<;>simp[q]
  rw[e];exact h
theorem S6 (flag:Bool){x y:V}{u v:Value}(hx:RelV x u)(hy:RelV y v)(hs:DR x=DR y)(h0:DR x≠0)(h:Q (ltV x y) s):wpAny (model prog w) A (oneLt' flag u v) Q E s:=by
 rcases CI hs h0 with⟨i,j,rfl,rfl⟩|⟨a,b,rfl,rfl⟩
 ·obtain⟨t,rfl⟩:=hx
  obtain⟨t',rfl⟩:=hy
  cases flag
  ·exact kat_one _ _ (PyProof.Rows.lt_int h)
  ·exact oneLt_int h
 ·obtain⟨t,rfl⟩:=hx
  obtain⟨t',rfl⟩:=hy
  cases flag
  ·exact kat_one _ _ (PyProof.Rows.lt_str h)
  ·exact oneLt_str h
theorem Lu:∀{xs ys:List V} {us ws:List Value} (i:Nat),Vals xs us->Vals ys ws->xs.map DR=ys.map DR->0∉xs.map DR->Q (A8 xs ys) s->KatLex prog w A true false Q (us.zip ws) i s
 |[],[],_,_,i,.nil,.nil,_,_,h=>kat_nil h
 |x::xs,y::ys,_,_,i,.cons (b:=u) r1 t1,.cons (b:=v) r2 t2,hs,h0,h=>by
  simp only[List.map_cons,List.cons.injEq]at hs
  simp only[List.map_cons,List.mem_cons,not_or]at h0
  rw[List.zip_cons_cons]
  refine kat_cons (S5 r1 r2 hs.1 (Ne.symm h0.1) ?_)
  unfold A8 at h
  by_cases e:x=y
  ·rw[if_pos e]at h
   rw[decide_eq_true e]
   exact kat_yes (Lu (i+1) t1 t2 hs.2 h0.2 h)
  ·rw[if_neg e]at h
   rw[decide_eq_false e]
   exact kat_no (S6 _ r1 r2 hs.1 (Ne.symm h0.1) h)
 |[],_::_,_,_,_,_,_,hs,_,_=>by cases hs
 |_::_,[],_,_,_,_,_,hs,_,_=>by cases hs
def Cj (h:Heap)(ks:List Value)(K:Nat->List V):Prop:=∀(i:Nat) (v:Value),ks[i]?=some v->∃a its,v=.ref a/\IsTup h a its.toArray/\Vals (K i) its
theorem Cj.keeps {h h':Heap}{ks:List Value}{K:Nat->List V}(x:Cj h ks K)(k:∀b o,o.cls=.type "tuple"->h.get? b=some o->h'.get? b=some o):Cj h' ks K:=λi v hv=>by
 obtain⟨a,its,rfl,⟨o,ho,hc,r⟩,q⟩:=x i v hv
 exact⟨a,its,rfl,⟨o,k _ _ hc ho,hc,r⟩,q⟩
theorem GF {h:Heap}:∀(ks:List Value) (K:Nat->List V),Cj h ks K->(∀i,K i≠[])->∃fs,KatTups h ks fs/\fs.length=ks.length/\∀f∈fs,∃i x r,K i=x::r/\RelV x f
 |[],K,_,_=>⟨[],.nil,rfl,λ_ h=>nomatch h⟩
 |v::ks,K,hk,ne=>by
  obtain⟨a,its,rfl,⟨o,ho,hc,n,hd⟩,r⟩:=hk 0 v rfl
  obtain⟨fs,t,l,q⟩:=GF ks (λi=>K (i+1)) (λi v hv=>hk (i+1) v (by simpa using hv)) λi=>ne (i+1)
  cases e:K 0 with
  |nil=>exact absurd e (ne 0)
  |cons x rr=>
   rw[e]at r
   cases r with
   |cons rx rt=>
    refine⟨_::fs,.cons ho hc hd rfl t,by simp[l],λf hf=>?_⟩
    rcases List.mem_cons.mp hf with rfl|hf
    ·exact⟨0,x,rr,e,rx⟩
    ·obtain⟨i,x,r,h1,h2⟩:=q f hf
     exact⟨i+1,x,r,h1,h2⟩
theorem OC {M:Model}{h:Heap}{x:V}{u:Value}(r:RelV x u)(h0:DR x≠0):Looks M h (typeOf u) (.type (if DR x=1 then"int" else"str")):=by
 rcases CI (rfl:DR x=DR x) h0 with⟨i,_,rfl,_⟩|⟨a,_,rfl,_⟩
 ·obtain⟨t,rfl⟩:=r;exact Looks.now
 ·obtain⟨t,rfl⟩:=r;exact Looks.now
variable {n:Nat}{K:Nat->List V}{sh:List Nat}{ks:List Value}
theorem Hd {Q:SortKind->Shared->Prop}(k:FL n K sh)(hk:Cj s.heap ks K)(h1:0 < ks.length)(h:Q (tuples' true) s):wpAny (model prog w) A (keyKind' ks.toArray) Q E s:=by
 have ne:∀i,K i≠[]:=λi e=>k.ne (by rw[<-k.shp i,e];rfl)
 obtain⟨fs,t,l,q⟩:=GF ks K hk ne
 obtain⟨d,dr,hd⟩:∃d dr,sh=d::dr:=by
  cases e:sh with
  |nil=>exact absurd e k.ne
  |cons d dr=>exact⟨d,dr,rfl⟩
 refine kat_kind (T:=.type (if d=1 then"int" else"str")) t (by omega) (λv hv=>?_) (by split<;>rfl) (by split<;>exact h)
 obtain⟨i,x,r,e,rx⟩:=q v hv
 have e2:=k.shp i
 rw[e,hd,List.map_cons]at e2
 have e3:DR x=d:=(List.cons.inj e2).1
 rw[<-e3]
 exact OC rx (λz=>k.z (by rw[hd,<-e3,z];exact List.mem_cons_self))
theorem JL {G:Array Nat->Shared->Prop}(k:FL n K sh)(hk:Cj s.heap ks K)(hl:ks.length=n)(h1:1<=n)(h:∀p,A6 n p->Cv (λi j=>A8 (K i) (K j)) p n->G p s):
 (kas_sort n).kasWp (kas_ask prog w A (tuples' true) ks) G s:=by
 refine OA (n:=n) (lt:=λi j=>A8 (K i) (K j)) (J:=λs'=>s'=s) (Q:=λp=>A6 n p/\Cv (λi j=>A8 (K i) (K j)) p n) (λi j C s' hi hj es hC=>?_) (λp s' hp es=>?_) _ s rfl (QM k.Q5 h1)
 ·subst es
  have gi:ks[i]?=some ks[i]:=List.getElem?_eq_getElem (by omega)
  have gj:ks[j]?=some ks[j]:=List.getElem?_eq_getElem (by omega)
  obtain⟨a,xs,ea,⟨o,ho,_,m,hd⟩,r1⟩:=hk i _ gi
  obtain⟨b,ys,eb,⟨o',ho',_,m',hd'⟩,r2⟩:=hk j _ gj
  unfold kas_ask
  rw[List.getD_eq_getElem?_getD,List.getD_eq_getElem?_getD,gi,gj,Option.getD_some,Option.getD_some,ea,eb]
  have l1:=r1.length
  have l2:=r2.length
  have l3:(K i).length=(K j).length:=by
   have:=congrArg List.length ((k.shp i).trans (k.shp j).symm)
   simpa using this
  have ef:decide (xs.toArray.size < ys.toArray.size)=false:=by
   rw[List.size_toArray,List.size_toArray];exact decide_eq_false (by omega)
  refine kat_lt ho hd ho' hd' ?_
  rw[ef]
  exact Lu 0 r1 r2 ((k.shp i).trans (k.shp j).symm) (by rw[k.shp];exact k.z) (hC _ rfl)
 ·subst es
  exact h p hp.1 hp.2
end
end L2
namespace L2
open PySem PySem.Spec PyProof.Rows PySem.W
theorem FN:∀{as:List Addr} {its:List Value},Vals (as.map V.ref) its->its=as.map Value.ref
 |[],_,.nil=>rfl
 |a::as,_,.cons r t=>by
  cases(show _=Value.ref a from r)
  rw[FN t];rfl
theorem He (as:List Addr):Vals (as.map V.ref) (as.map Value.ref):=by
 induction as with
 |nil=>exact .nil
 |cons a r ih=>exact .cons rfl ih
section
variable {prog:Program}{w:World}{A:Around}{E:Value->Shared->Prop}{s:Shared}{K:Nat->List V}{sh:List Nat}{vs:List Value}
abbrev Dj (vs:List Value)(p:Array Nat):List Value:=p.toList.map λi=>vs.getD i Value.none
theorem Lv {xs:Array Value}(hl:xs.size=vs.length)(h2:vs.length < 2):(xs.zip vs.toArray).map (·.2)=(Dj vs (List.range vs.length).toArray).toArray:=by
 apply Array.toList_inj.mp
 match vs,h2 with
 |[],_=>
  have:xs=#[]:=Array.eq_empty_of_size_eq_zero (by simpa using hl)
  subst this;simp[Dj]
 |[v],_=>
  obtain⟨x,rfl⟩:∃x,xs=#[x]:=Array.size_eq_one_iff.mp (by simpa using hl)
  simp[Dj]
theorem EV (n:Nat):A6 n (List.range n).toArray:=by unfold A6;simp
theorem Kn {D:Addr}{c0:Nat}{P:PySem.Fin->Shared->Prop}(hD:s.heap.get? D=some (seqObj "list" vs.toArray c0))(h64:vs.length < 64)(k:FL vs.length K sh)(hk:Cj s.heap vs K)
 (h:∀(p:Array Nat) (h':Heap) (c:Nat),A6 vs.length p->Cv (λi j=>A8 (K i) (K j)) p vs.length->(∀b o,b≠D->s.heap.get? b=some o->h'.get? b=some o)->
  h'.get? D=some (seqObj "list" (Dj vs p).toArray c)->P (.done (.ret .none)) { s with heap:=h' }):
 wpAny (model prog w) A (Builtin.«list.sort» ⟨[.ref D],[]⟩) P E s:=by
 have ltD:D < s.heap.objs.size:=Heap.lt_size hD
 rw[list_sort_plain]
 refine wpAny_bind (listItems_at (a:=D) hD rfl ?_)
 refine wpAny_bind (listUpdate_at (a:=D) hD rfl ?_ (by rw[List.size_toArray,sizeLine_eq];omega) (Nat.zero_le _))
 obtain⟨e1,hD1⟩:∃e1,(s.heap.update D (Obj.mapSeq λ_=>#[])).get? D=some (seqObj "list" #[] e1):=⟨_,get?_update_seq hD (λ_=>#[])⟩
 refine wpAny_bind (seqEpoch_at (a:=D) hD1 rfl ?_)
 refine wpAny_bind (wpAny_newTuple ?_ (by show vs.length<=_;rw[sizeLine_eq];omega))
 refine wpAny_bind (wpAny_newList ?_ (Nat.zero_le _))
 refine wpAny_holding ?_
 generalize hg:((s.heap.update D (Obj.mapSeq λ_=>#[])).push (seqObj "tuple" vs.toArray 0)).push (seqObj "list" #[] 0)=g
 have keep:∀b o,b≠D->s.heap.get? b=some o->g.get? b=some o:=λb o hb e=>by
  rw[<-hg]
  exact Heap.get?_push_of_some _ (Heap.get?_push_of_some _ ((Heap.get?_update_ne _ _ _ _ hb).trans e))
 have hDg:g.get? D=some (seqObj "list" #[] e1):=by
  rw[<-hg]
  exact Heap.get?_push_of_some _ (Heap.get?_push_of_some _ hD1)
 have hkg:Cj g vs K:=hk.keeps λb o hc e=>keep b o (λz=>by subst z;rw[hD]at e;cases e;exact absurd (Value.type.inj hc) (by decide)) e
 have sz:vs.toArray.size=vs.length:=List.size_toArray ..
 have fin:∀(p:Array Nat),A6 vs.length p->Cv (λi j=>A8 (K i) (K j)) p vs.length->
  P (.done (.ret .none)) { s with heap:=g.update D (Obj.mapSeq λ_=>(Dj vs p).toArray) }:=λp hp hr=>
  h p _ _ hp hr (λb o hb e=>(Heap.get?_update_ne _ _ _ _ hb).trans (keep b o hb e)) (get?_update_seq hDg _)
 have fit:∀(p:Array Nat),A6 vs.length p->(Dj vs p).toArray.size<=sizeLine+1:=λp hp=>by
  rw[List.size_toArray,List.length_map,Array.length_toList,hp.sz,sizeLine_eq];omega
 show wpAny (model prog w) A _ P E { s with heap:=g }
 dsimp only
 by_cases h2:vs.toArray.size < 2
 ·rw[if_pos h2,if_pos h2]
  refine wpAny_bind (wpAny_pure ?_)
  rw[StateT.run_pure]
  refine wpAny_bind (wpAny_pure ?_)
  dsimp only
  have eo:(arrOf (SortSt.mk' general' (vs.toArray.zip vs.toArray) #[] 7 none)).map (·.2)=(Dj vs (List.range vs.length).toArray).toArray:=Lv sz (by omega)
  rw[eo]
  refine wpAny_bind (seqEpoch_at (a:=D) (s:={ s with heap:=g }) hDg rfl ?_)
  refine wpAny_bind (listUpdate_at (a:=D) (s:={ s with heap:=g }) hDg rfl ?_ (Nat.zero_le _) (fit _ (EV _)))
  simp only[bne_self_eq_false,Bool.false_eq_true,if_false]
  exact wpAny_pure (fin _ (EV _) λi j hij hj=>by omega)
 ·rw[if_neg h2,if_neg h2]
  refine wpAny_bind (Hd (s:={ s with heap:=g }) (n:=vs.length) k hkg (by omega) ?_)
  refine wpAny_bind (wpAny_mono (kat_run (ks:=vs) (vs:=vs) (s:={ s with heap:=g }) (Q:=λst' s'=>∃p:Array Nat,s'={ s with heap:=g }/\A6 vs.length p/\Cv (λi j=>A8 (K i) (K j)) p vs.length/\arrOf st'=p.map (kas_item (vs.toArray.zip vs.toArray))/\failedOf st'=none)
   (G:=λp s'=>s'={ s with heap:=g }/\A6 vs.length p/\Cv (λi j=>A8 (K i) (K j)) p vs.length) rfl (by omega) h64 (λp st' s' a1 a2 a3 a4=>⟨p,a4.1,a4.2.1,a4.2.2,a2,a3⟩)
   (JL (s:={ s with heap:=g }) k hkg rfl (by omega) λp hp hr=>⟨rfl,hp,hr⟩)) ?_ λ_ _ e=>e)
  rintro⟨⟨⟩,st'⟩ s' ⟨p,rfl,hp,hr,har,hf⟩
  dsimp only
  rw[kat_snds rfl har]
  refine wpAny_bind (seqEpoch_at (a:=D) (s:={ s with heap:=g }) hDg rfl ?_)
  refine wpAny_bind (listUpdate_at (a:=D) (s:={ s with heap:=g }) hDg rfl ?_ (Nat.zero_le _) (fit p hp))
  rw[hf]
  simp only[bne_self_eq_false,Bool.false_eq_true,if_false]
  exact wpAny_pure (fin p hp hr)
end
theorem OD (as:List Addr)(p:Array Nat)(hp:A6 as.length p):Dj (as.map Value.ref) p=(p.toList.map λi=>as.getD i 0).map Value.ref:=by
 unfold Dj
 rw[List.map_map]
 refine List.map_congr_left λi hi=>?_
 have hi':i < as.length:=List.mem_range.mp ((List.Perm.mem_iff hp).mp hi)
 show(as.map Value.ref).getD i Value.none=Value.ref (as.getD i 0)
 rw[List.getD_eq_getElem?_getD,List.getD_eq_getElem?_getD,List.getElem?_map,List.getElem?_eq_getElem hi'];rfl
theorem Hf {n:Nat}{lt:Nat->Nat->Bool}{p:Array Nat}(h:Cv lt p n):∀i j,i < j->j < n->lt (p.toList.getD j 0) (p.toList.getD i 0)=false:=λi j a b=>by
 have:=h i j a b
 rw[Array.getD_eq_getD_getElem?,Array.getD_eq_getD_getElem?]at this
 rw[List.getD_eq_getElem?_getD,List.getD_eq_getElem?_getD,Array.getElem?_toList,Array.getElem?_toList];exact this
section
variable {X:Cx}
theorem C4:Bs X (.builtin "sorted") (λvs H Q=>∃(a:Addr) (as:List Addr) (K:Nat->List V) (sh:List Nat),vs=[.ref a]/\Am X.K H a (as.map V.ref)/\as.length < 64/\(∀i b,as[i]?=some b->Ar X.K H b (K i))/\FL as.length K sh/\
 ∀(p:List Nat) (l:Addr),p.Perm (List.range as.length)->(∀i j,i < j->j < as.length->A8 (K (p.getD j 0)) (K (p.getD i 0))=false)->H l=none->Q (.ref l) (upd H l (.lst ((p.map λi=>as.getD i 0).map V.ref)))):=by
 intro pins s σ H xs us Q I r h
 obtain⟨a,as,K,sh,rfl,hl,h64,hT,k,q⟩:=h
 obtain⟨u,rfl,ru⟩:=vals1 r
 cases(show u=Value.ref a from ru)
 obtain⟨its,rv,ht,hz⟩:=I.list hl
 have ei:=FN rv
 subst ei
 have lm:(as.map Value.ref).length=as.length:=List.length_map _
 have fz:(as.map Value.ref).length<=sizeLine:=by rw[lm,sizeLine_eq];omega
 refine Calls.call_function_entry kind_sorted plain_sorted entry_sorted (args_sorted1 _) ?_
 unfold Builtin.«sorted»
 refine wpAny_bind (m:=checkCount "sorted" 1 1 _) (wpAny_pure ?_)
 refine wpAny_bind (collect_list (l:=a) ht.isList ?_ fz)
 refine wpAny_bind (wpAny_newList ?_ fz)
 generalize hg:(s.heap.push (seqObj "list" #[] 0)).update s.heap.objs.size (Obj.mapSeq (·++(as.map Value.ref).toArray))=g
 have szg:g.objs.size=s.heap.objs.size+1:=by rw[<-hg,Heap.size_update,size_push']
 have kg:∀b o,s.heap.get? b=some o->g.get? b=some o:=λb o e=>by
  have hlt:b≠s.heap.objs.size:=Nat.ne_of_lt (Heap.lt_size e)
  rw[<-hg,Heap.get?_update_ne _ _ _ _ hlt]
  exact Heap.get?_push_of_some _ e
 have hDL:(g.push (seqObj "list" (as.map Value.ref).toArray 0)).get? g.objs.size=some (seqObj "list" (as.map Value.ref).toArray 0):=Heap.get?_push_size _ rfl
 have kp1:∀b o,s.heap.get? b=some o->(g.push (seqObj "list" (as.map Value.ref).toArray 0)).get? b=some o:=λb o e=>Heap.get?_push_of_some _ (kg b o e)
 have hks:Cj (g.push (seqObj "list" (as.map Value.ref).toArray 0)) (as.map Value.ref) K:=λi v hv=>by
  rw[List.getElem?_map]at hv
  cases e:as[i]? with
  |none=>rw[e]at hv;cases hv
  |some b=>
   rw[e]at hv
   cases hv
   obtain⟨ys,ry,⟨o,ho,r⟩,_⟩:=I.tuple (hT i b e)
   exact⟨b,ys,rfl,⟨o,kp1 _ _ ho,r⟩,ry⟩
 refine wpAny_bind (wpAny_holding (wpAny_call_entry slot_list_sort ⟨_,hDL,rfl⟩ entry_list_sort (Kn (s:={ s with heap:=g.push (seqObj "list" (as.map Value.ref).toArray 0) }) hDL (by rw[lm];exact h64) (by rw[lm];exact k) hks λp h' c hp hr kp at'=>⟨_,rfl,?_⟩) (args_list_sort _)))
 rw[lm]at hp hr
 rw[OD as p hp]at at'
 refine wpAny_pure ⟨_,rfl,⟨.ref g.objs.size,_,I.laid (t':=s.toks) (λb o e=>kp b o (Nat.ne_of_lt (Nat.lt_of_lt_of_le (Heap.lt_size e) (show s.heap.objs.size<=g.objs.size by omega))) (kp1 b o e)) (show s.heap.objs.size<=g.objs.size by omega) ?_,rfl,q p.toList g.objs.size hp (Hf hr) (I.hok.fresh (show s.heap.objs.size<=g.objs.size by omega))⟩⟩
 have lp:(p.toList.map λi=>as.getD i 0).length=as.length:=by rw[List.length_map,Array.length_toList,hp.sz]
 exact⟨by rw[List.length_map,lp,sizeLine_eq];omega,_,_,He _,at'⟩
end
end L2
namespace L2
open PySem PySem.Spec PyProof.Rows PySem.W
section
variable {X:Cx}{pins:List (Addr×Obj)}{σ:St}{H:Hp}{s:Shared}
theorem Inv.adopt {D:Addr}{o:HO}{h':Heap}{t':Nat}{oD:Obj}(I:Inv X pins σ H s)(f:Bn X pins H D)(k:∀b u,b≠D->s.heap.get? b=some u->h'.get? b=some u)(new:A2 X.prog X.w (upd H D o) h' D o)(hD:s.heap.get? D=some oD):
 Inv X pins σ (upd H D o) { s with heap:=h',toks:=t' }:=by
 have nD:∀b u,H b=some u->b≠D:=λb u e=>AI e f.1
 refine I.step (g':=s.gens) (d':=s.drawn) (ch:=[D]) (λb hb=>?_) (λb u _ _ hc e _=>k b u (λz=>hc (by simp[z])) e) (λb u _ _ hc e _=>⟨u.slots,k b u (λz=>hc (by simp[z])) e⟩)
  (λb u hc e n=>by rw[AH (λz=>hc (by simp[z]))];exact n) (λb u hc e=>⟨u,k b u (λz=>hc (by simp[z])) e⟩)
  (λb xs e=>by rw[AH (nD b _ e)];exact e) (λb ob u e=>by rw[AH (nD b _ e)];exact e) (λb ps e=>⟨#[],by rw[AH (nD b _ e),e];simp⟩) (λm hm=>?_) (λb u e=>?_) I.bare
 ·have e:b=D:=by simpa using hb
  subst e
  exact⟨f.2.2.2.1,f.2.1,f.2.2.2.2.1,f.2.2.2.2.2⟩
 ·obtain⟨ob,es,ep,ho,r⟩:=hm
  exact⟨ob,es,ep,k _ ob (Ne.symm f.2.1) ho,r⟩
 ·by_cases hb:b=D
  ·subst hb;rw[AB]at e;cases e;exact new
  ·rw[AH hb]at e
   refine(I.hok b u e).EC (λc v hc q=>k c v ?_ q) (λc q=>by rw[AH (nD c _ q)];exact q) λc xs q=>by rw[AH (nD c _ q)];exact q
   rcases hc with z|z
   ·rw[z];exact hb
   ·exact nD c _ z
def S7 (X:Cx)(A1:Around)(pins0:List (Addr×Obj))(σ:St)(H0:Hp)(fv:Value)(vs:List Value)(K:Nat->List V):Prop:=
 ∀(i:Nat) (v:Value) (pins:List (Addr×Obj)) (H:Hp) (s:Shared),vs[i]?=some v->(∀p∈pins0,p∈pins)->Inv X pins σ H s->AG H0 H->
  wpAny (model X.prog X.w) A1 (call fv [v]) (EP X pins σ λk H'=>∃a,k=.ref a/\H' a=some (.tup (K i))/\AG H H') (λ_ _=>False) s
theorem Mt {as:List Addr}{K:Nat->List V}(I:Inv X pins σ H s)(h:∀j a,as[j]?=some a->H a=some (.tup (K j))):Cj s.heap (as.map Value.ref) K:=λi v hv=>by
 rw[List.getElem?_map]at hv
 cases e:as[i]? with
 |none=>rw[e]at hv;cases hv
 |some b=>
  rw[e]at hv
  cases hv
  obtain⟨_,ys,ry,t⟩:=I.hok b _ (h i b e)
  exact⟨b,ys,rfl,t,ry⟩
theorem OE {A1:Around}{E:Value->Shared->Prop}{D fa:Addr}{c0:Nat}{vs:List Value}{vV:List V}{K:Nat->List V}{sh:List Nat}{P:PySem.Fin->Shared->Prop}(I:Inv X pins σ H s)(hD:s.heap.get? D=some (seqObj "list" vs.toArray c0))(fD:Bn X pins H D)
 (rv:Vals vV vs)(h64:vs.length < 64)(k:FL vs.length K sh)(F:S7 X A1 pins σ H (.ref fa) vs K)
 (h:∀(p:Array Nat) (H':Hp) (s':Shared) (c:Nat),A6 vs.length p->Cv (λi j=>A8 (K i) (K j)) p vs.length->AG H H'->H' D=none->Inv X pins σ (upd H' D (.lst (p.toList.map λi=>vV.getD i .A3))) s'->P (.done (.ret .none)) s'):
 wpAny (model X.prog X.w) A1 (ksk_tree D (.ref fa) false) P E s:=by
 have lv:=rv.length
 unfold ksk_tree
 refine wpAny_bind (listItems_at (a:=D) hD rfl ?_)
 refine wpAny_bind (listUpdate_at (a:=D) hD rfl ?_ (by rw[List.size_toArray,sizeLine_eq];omega) (Nat.zero_le _))
 obtain⟨e1,hD1⟩:∃e1,(s.heap.update D (Obj.mapSeq λ_=>#[])).get? D=some (seqObj "list" #[] e1):=⟨_,get?_update_seq hD (λ_=>#[])⟩
 have I1:Inv X pins σ H { s with heap:=s.heap.update D (Obj.mapSeq λ_=>#[]),toks:=s.toks }:=I.turned (t':=s.toks) (λb o hb e=>(Heap.get?_update_ne _ _ _ _ hb).trans e) fD.1 fD.2.1 fD.2.2.2.1 fD.2.2.2.2.1 fD.2.2.2.2.2
 refine wpAny_bind (seqEpoch_at (a:=D) hD1 rfl ?_)
 refine wpAny_bind (wpAny_newTuple ?_ (by show vs.length<=_;rw[sizeLine_eq];omega))
 have I2:Inv X pins σ H { s with heap:=(s.heap.update D (Obj.mapSeq λ_=>#[])).push (seqObj "tuple" vs.toArray 0),toks:=s.toks }:=I1.kept (t':=s.toks) λb o e=>Heap.get?_push_of_some _ e
 have hD2:((s.heap.update D (Obj.mapSeq λ_=>#[])).push (seqObj "tuple" vs.toArray 0)).get? D=some (seqObj "list" #[] e1):=Heap.get?_push_of_some _ hD1
 generalize hg2:(s.heap.update D (Obj.mapSeq λ_=>#[])).push (seqObj "tuple" vs.toArray 0)=g2 at I2 hD2
 have e2:((s.heap.update D (Obj.mapSeq λ_=>(#[]:Array Value))).push { cls:=.type "tuple",data:=.seq vs.toArray })=g2:=hg2
 refine wpAny_bind (wpAny_newList ?_ (Nat.zero_le _))
 refine wpAny_holding ?_
 have fk:H g2.objs.size=none:=I2.hok.fresh (Nat.le_refl _)
 have I3:Inv X pins σ (upd H g2.objs.size (.lst [])) { s with heap:=g2.push { cls:=.type "list",data:=.seq ([]:List Value).toArray },toks:=s.toks }:=I2.Ny (its:=[]) (t':=s.toks) .nil (Nat.zero_le _)
 have hD3:(g2.push { cls:=.type "list",data:=.seq ([]:List Value).toArray }).get? D=some (seqObj "list" #[] e1):=Heap.get?_push_of_some _ hD2
 have kD:g2.objs.size≠D:=Nat.ne_of_gt (Heap.lt_size hD2)
 simp only[e2]
 generalize hkS:g2.objs.size=kS at I3 fk kD ⊢
 have fD3:Bn X pins (upd H kS (.lst [])) D:=⟨by rw[AH (Ne.symm kD)];exact fD.1,fD.2⟩
 have I4:Inv X (pins++[(D,seqObj "list" #[] e1)]) σ (upd H kS (.lst [])) { s with heap:=g2.push { cls:=.type "list",data:=.seq ([]:List Value).toArray },toks:=s.toks }:=I3.Fs λp hp=>by
  rcases List.mem_append.mp hp with q|q
  ·exact I3.pin p (List.mem_append_right _ q)
  ·obtain rfl:p=(D,seqObj "list" #[] e1):=by simpa using q
   exact⟨hD3,fD3.1,fD3.2.1,fD3.2.2.1,λv z=>by cases z⟩
 generalize({ s with heap:=g2.push { cls:=.type "list",data:=.seq ([]:List Value).toArray },toks:=s.toks }:Shared)=s4 at I4 ⊢
 unfold ksk_rest
 refine wpAny_bind (wpAny_rule ?_)
 rw[List.forIn_toArray]
 refine wpAny_bind (ksk_fold (λi s'=>∃(H':Hp) (as:List Addr),Inv X (pins++[(D,seqObj "list" #[] e1)]) σ H' s'/\AG H H'/\H' kS=some (.lst (as.map V.ref))/\as.length=i/\∀j a,as[j]?=some a->H' a=some (.tup (K j))) vs 0 s4
  ⟨_,[],I4,(AG.refl H).new fk,AB,rfl,λj a e=>by simp at e⟩ (λj x s' hx hJ=>?_) λs' hJ=>?_)
 ·obtain⟨H',as,I',S',hk',hl',ht'⟩:=hJ
  rw[Nat.zero_add]at hl' ⊢
  refine wpAny_bind (wpAny_attempt (wpAny_mono (F j x _ H' s' hx (λp hp=>List.mem_append_left _ hp) I' S') (λu s'' hu=>?_) λ_ _ z=>z.elim))
  obtain⟨v,H'',I'',ru,a,rfl,ha,S''⟩:=hu
  cases(show u=Value.ref a from ru)
  have hk'':=S'' _ _ hk'
  obtain⟨z,its,m,r,hl,e⟩:=I''.IE hk''
  have jl:j < vs.length:=(List.getElem?_eq_some_iff.mp hx).1
  have il:its.length=j:=by rw[<-hl,List.length_map,hl']
  dsimp only
  refine wpAny_bind (listUpdate_at (a:=kS) e rfl ?_ (by rw[List.size_toArray,sizeLine_eq];omega) (by rw[Array.size_push,List.size_toArray,sizeLine_eq];omega))
  refine wpAny_pure ⟨rfl,_,as++[a],I''.Nx (ys:=as.map V.ref++[V.ref a]) (its':=its++[.ref a]) (t':=s''.toks) hk'' e (by simp) (r.append (.cons (show RelV (V.ref a) (Value.ref a)from rfl) .nil)) (by rw[List.length_append,List.length_map,List.length_singleton,sizeLine_eq];omega),(S'.trans S'').write fk,by rw[AB,List.map_append];rfl,by simp[hl'],λi b hb=>?_⟩
  rcases Nat.lt_or_ge i as.length with q|q
  ·rw[List.getElem?_append_left q]at hb
   have:=S'' _ _ (ht' i b hb)
   rw[AH (Bh this hk'' (by intro z;cases z))];exact this
  ·rw[List.getElem?_append_right q]at hb
   have q0:i - as.length=0:=by
    rcases Nat.eq_zero_or_pos (i - as.length)with z|z
    ·exact z
    ·rw[List.getElem?_eq_none (by simp;omega)]at hb;cases hb
   rw[q0]at hb
   have eb:a=b:=by simpa using hb
   subst eb
   have ei:i=j:=by omega
   subst ei
   rw[AH (Bh ha hk'' (by intro z;cases z))];exact ha
 ·obtain⟨H',as,I',S',hk',hl',ht'⟩:=hJ
  rw[Nat.zero_add]at hl'
  obtain⟨z,its,m,r,hl,e⟩:=I'.IE hk'
  have ei:=FN r
  subst ei
  have lm:(as.map Value.ref).length=vs.length:=by rw[List.length_map,hl']
  refine wpAny_bind (listItems_at (a:=kS) e rfl ?_)
  have hks:Cj s'.heap (as.map Value.ref) K:=Mt I' ht'
  have fin:∀(st:SortSt) (p:Array Nat),A6 vs.length p->Cv (λi j=>A8 (K i) (K j)) p vs.length->(arrOf st).map (·.2)=(Dj vs p).toArray->failedOf st=none->wpAny (model X.prog X.w) A1 (ksk_tail D false e1 (.ref kS) st) P E s':=λst p hp hr ho hf=>by
   have pD:s'.heap.get? D=some (seqObj "list" #[] e1):=(I'.pin (D,seqObj "list" #[] e1) (List.mem_append_right _ (List.mem_append_right _ List.mem_cons_self))).1
   have nD:H' D=none:=(I'.pin (D,seqObj "list" #[] e1) (List.mem_append_right _ (List.mem_append_right _ List.mem_cons_self))).2.1
   unfold ksk_tail
   dsimp only
   rw[ho]
   refine wpAny_bind (listUpdate_at (a:=kS) e rfl ?_ (by rw[List.size_toArray,lm,sizeLine_eq];omega) (Nat.zero_le _))
   refine wpAny_bind (wpAny_letGo ?_)
   have I5:=I'.Nx (its':=[]) (ys:=[]) (t':=s'.toks) (f:=λ_=>#[]) hk' e rfl .nil (Nat.zero_le _)
   have pD5:(s'.heap.update kS (Obj.mapSeq λ_=>#[])).get? D=some (seqObj "list" #[] e1):=(Heap.get?_update_ne _ _ _ _ (Ne.symm kD)).trans pD
   refine wpAny_bind (seqEpoch_at (a:=D) (s:={ s' with heap:=s'.heap.update kS (Obj.mapSeq λ_=>#[]) }) pD5 rfl ?_)
   refine wpAny_bind (listUpdate_at (a:=D) (s:={ s' with heap:=s'.heap.update kS (Obj.mapSeq λ_=>#[]) }) pD5 rfl ?_ (Nat.zero_le _) (by rw[if_neg (by simp),List.size_toArray,List.length_map,Array.length_toList,hp.sz,sizeLine_eq];omega))
   rw[hf]
   simp only[bne_self_eq_false,Bool.false_eq_true,if_false]
   refine wpAny_pure (h p (upd H' kS (.lst [])) _ 0 hp hr (S'.write fk) (by rw[AH (Ne.symm kD)];exact nD) ?_)
   refine Inv.adopt (s:={ s' with heap:=s'.heap.update kS (Obj.mapSeq λ_=>#[]),toks:=s'.toks }) (t':=s'.toks) I5.Cf ⟨by rw[AH (Ne.symm kD)];exact nD,fD.2⟩ (λb u hb q=>(Heap.get?_update_ne _ _ _ _ hb).trans q) ?_ pD5
   refine⟨by rw[List.length_map,Array.length_toList,hp.sz,sizeLine_eq];omega,Dj vs p,_,?_,get?_update_seq pD5 _⟩
   have all:∀l:List Nat,(∀i∈l,i < vs.length)->Vals (l.map λi=>vV.getD i .A3) (l.map λi=>vs.getD i Value.none):=λl=>by
    induction l with
    |nil=>exact λ_=>.nil
    |cons i r ih=>
     intro hl
     have hi:i < vV.length:=by rw[lv];exact hl i List.mem_cons_self
     obtain⟨u,hu,ru⟩:=rv.get (List.getElem?_eq_getElem hi)
     refine .cons ?_ (ih λj hj=>hl j (List.mem_cons_of_mem _ hj))
     show RelV (vV.getD i .A3) (vs.getD i Value.none)
     rw[List.getD_eq_getElem?_getD,List.getD_eq_getElem?_getD,hu,List.getElem?_eq_getElem hi]
     exact ru
   exact all p.toList λi hi=>List.mem_range.mp ((List.Perm.mem_iff hp).mp hi)
  unfold ksk_end
  dsimp only
  simp only[Bool.false_eq_true,if_false]
  have sz:vs.toArray.size=vs.length:=List.size_toArray ..
  by_cases h2:vs.toArray.size < 2
  ·rw[if_pos h2,if_pos h2]
   refine wpAny_bind (wpAny_pure ?_)
   rw[StateT.run_pure]
   refine wpAny_bind (wpAny_pure ?_)
   exact fin _ _ (EV _) (λi j hij hj=>by omega) (Lv (by rw[List.size_toArray,lm]) (by omega)) rfl
  ·rw[if_neg h2,if_neg h2]
   refine wpAny_bind (Hd (n:=vs.length) k hks (by omega) ?_)
   refine wpAny_bind (wpAny_mono (kat_run (ks:=as.map Value.ref) (vs:=vs) (Q:=λst' t'=>∃p:Array Nat,t'=s'/\A6 vs.length p/\Cv (λi j=>A8 (K i) (K j)) p vs.length/\arrOf st'=p.map (kas_item ((as.map Value.ref).toArray.zip vs.toArray))/\failedOf st'=none)
    (G:=λp t'=>t'=s'/\A6 vs.length p/\Cv (λi j=>A8 (K i) (K j)) p vs.length) lm (by omega) h64 (λp st' t' a1 a2 a3 a4=>⟨p,a4.1,a4.2.1,a4.2.2,a2,a3⟩)
    (JL k hks lm (by omega) λp hp hr=>⟨rfl,hp,hr⟩)) ?_ λ_ _ e=>e)
   rintro⟨⟨⟩,st'⟩ t' ⟨p,rfl,hp,hr,har,hf⟩
   exact fin st' p hp hr (kat_snds lm har) hf
end
end L2
namespace L2
open PySem PySem.Spec PyProof.Rows PySem.W
def Hg (c:Addr)(qual:Str):HO:=.ext λh=>h.CodeRec (.ref c) qual
def Dk (P:Addr)(lp:Pos)(qual:Str)(H:Hp):Prop:=∃ps,H P=some (.tbl ps)/\TriplesOk ps.toList/\(codeAmong lp ps.toList=none\/∃c,codeAmong lp ps.toList=some (.ref c)/\H c=some (Hg c qual))
abbrev Lm:=Addr×Pos×Str
def CJ (ls:List Lm)(H:Hp):Prop:=∀l∈ls,Dk l.1 l.2.1 l.2.2 H
def Mu (ls:List Lm):Prop:=∀l∈ls,∀m∈ls,l=m\/¬(l.2.1.line=m.2.1.line/\l.2.1.col=m.2.1.col)
structure Kt (ls:List Lm)(H H':Hp):Prop where
 lam:CJ ls H'
 keep:∀b o,(∀ps,o≠.tbl ps)->H b=some o->H' b=some o
 here:∀b,H' b=none->H b=none
theorem Fn {pos p2:Pos}{c:Value}(hne:¬(p2.line=pos.line/\p2.col=pos.col))(l:List Value)(h:TriplesOk l):codeAmong pos (l++[rawInt p2.line,rawInt p2.col,c])=codeAmong pos l:=by
 fun_induction TriplesOk l with
 |case1=>
  have e:((p2.line:Int)==(pos.line:Int)&&(p2.col:Int)==(pos.col:Int))=false:=by
   rw[Bool.eq_false_iff]
   intro z
   rw[Bool.and_eq_true,beq_iff_eq,beq_iff_eq]at z
   exact hne ⟨by have:=z.1;omega,by have:=z.2;omega⟩
  show(if((p2.line:Int)==(pos.line:Int)&&(p2.col:Int)==(pos.col:Int))then some c else codeAmong pos [])=codeAmong pos []
  rw[e];rfl
 |case2 a t b u x rest ih=>
  simp only[List.cons_append,codeAmong]
  rw[ih h]
 |case3 l h1 h2=>exact h.elim
section
variable {P q:Addr}{lp:Pos}{qual:Str}{H H1 H2:Hp}{o:HO}{ls:List Lm}{xs:List V}
theorem Dk.same (a:Dk P lp qual H)(s:AG H H1):Dk P lp qual H1:=by
 obtain⟨ps,a,b,c⟩:=a
 refine⟨ps,s _ _ a,b,?_⟩
 rcases c with c|⟨d,c,e⟩
 ·exact .inl c
 ·exact .inr ⟨d,c,s _ _ e⟩
theorem Dk.start (h:H P=some (.tbl #[])):Dk P lp qual H:=⟨#[],h,trivial,.inl rfl⟩
theorem CJ.same (a:CJ ls H)(s:AG H H1):CJ ls H1:=λl hl=>(a l hl).same s
theorem Dk.write (a:Dk P lp qual H)(h:H q=some (.lst xs)):Dk P lp qual (upd H q o):=by
 obtain⟨ps,a,b,c⟩:=a
 refine⟨ps,by rw[AH (Bh a h (by intro z;cases z))];exact a,b,?_⟩
 rcases c with c|⟨d,c,e⟩
 ·exact .inl c
 ·exact .inr ⟨d,c,by rw[AH (Bh e h (by intro z;cases z))];exact e⟩
theorem Kt.refl (a:CJ ls H):Kt ls H H:=⟨a,λ_ _ _ e=>e,λ_ e=>e⟩
theorem Kt.trans (a:Kt ls H H1)(b:Kt ls H1 H2):Kt ls H H2:=⟨b.lam,λc u hc e=>b.keep c u hc (a.keep c u hc e),λc e=>a.here c (b.here c e)⟩
theorem Kt.same (a:Kt ls H H1)(s:AG H1 H2):Kt ls H H2:=⟨a.lam.same s,λc u hc e=>s _ _ (a.keep c u hc e),λc e=>a.here c (s.free e)⟩
theorem AG.kt (s:AG H H1)(b:Kt ls H1 H2):Kt ls H H2:=⟨b.lam,λc u hc e=>b.keep c u hc (s _ _ e),λc e=>s.free (b.here c e)⟩
theorem Kt.of (s:AG H H1)(a:CJ ls H):Kt ls H H1:=(Kt.refl a).same s
theorem Kt.write (a:Kt ls H H1)(hq:H q=none)(h:H1 q=some (.lst xs)):Kt ls H (upd H1 q o):=
 ⟨λl hl=>(a.lam l hl).write h,λb u hb e=>by rw[AH (AI e hq)];exact a.keep b u hb e,λb e=>by
  by_cases z:b=q
  ·rw[z,AB]at e;cases e
  ·rw[AH z]at e;exact a.here b e⟩
theorem Kt.lst (a:Kt ls H H1)(h:H q=some (.lst xs)):H1 q=some (.lst xs):=a.keep _ _ (λ_ z=>by cases z) h
theorem Kt.tup (a:Kt ls H H1)(h:H q=some (.tup xs)):H1 q=some (.tup xs):=a.keep _ _ (λ_ z=>by cases z) h
end
def GG (X:Cx)(scope:Scope)(NL:List Str)(ix:List Nat)(qual:Str)(cl:List (Str×Addr))(fa:Addr)(cd:Value)(A1:Around)(s₃:Shared)(H₃:Hp)(pins:List (Addr×Obj)):Cx where
 prog:=X.prog
 w:=X.w
 K:=X.K
 mg:=X.mg
 base:=X.base
 A:=A1.deeper (envX qual scope s₃.heap.objs.size fa cd cl)
 N:=NL++ix.map λj=>X.N.getD j ""
 s₀:=s₃
 H₀:=H₃
 env:=envX qual scope s₃.heap.objs.size fa cd cl
 outer:=X.stack
 stack:=envX qual scope s₃.heap.objs.size fa cd cl::X.stack
 ex:=[]
 fn:=λ_=>false
 calm:=X.calm
 pn:=X.pn++pins
 xe:=λ_ _=>False
def Mv (v:V)(ix:List Nat)(σ:St):St:=some v::ix.map λj=>σ.getD j none
section
variable {X:Cx}{pins:List (Addr×Obj)}{σ:St}{H:Hp}{s:Shared}
theorem QN {scope:Scope}{x:Str}{ix:List Nat}{qual:Str}{cl:List (Str×Addr)}{fa:Addr}{cd:Value}{A1:Around}{s₃:Shared}{h₁:Heap}{m:Str->Option Value}{tk:Nat}{v:V}{u:Value}
 (S:B1 X scope [x] ix)(I:Inv X pins σ H s₃)(c1:∀x c,cl.lookup x=some c->X.env.cells.lookup x=some c)(c2:∀x,(x,NameKind.free)∈scope.names->∃c,cl.lookup x=some c)
 (hfr:A1.frames=some X.stack)(hh:A1.handled=none)(hx:scope.names.lookup x=some .local)(hmx:m x=some u)(ru:RelV v u)
 (hn:h₁.Ns s₃.heap.objs.size m)(old:∀b o,s₃.heap.get? b=some o->h₁.get? b=some o):
 Inv (GG X scope [x] ix qual cl fa cd A1 s₃ H pins) [] (Mv v ix σ) H { s₃ with heap:=h₁,toks:=tk }:=by
 have e0:=I.Nl
 have lt:∀b o,s₃.heap.get? b=some o->b≠s₃.heap.objs.size:=λb o e=>Nat.ne_of_lt (Heap.lt_size e)
 have noA:∀b:Addr,b∉(GG X scope [x] ix qual cl fa cd A1 s₃ H pins).ex:=λb z=>absurd (show b∈([]:List Addr)from z) (by simp)
 have nst:∀b,b≠X.env.locals->b∉X.fs->b∉ED X.stack:=λb h1 h2 h3=>(List.mem_cons.mp (I.DT b h3)).elim h1 h2
 have ok:(GG X scope [x] ix qual cl fa cd A1 s₃ H pins).Ok:=
  { mod:=I.ok.mod
    kind:=S.kind
    glob:=rfl
    blt:=rfl
    above:=Nat.le_refl _
    inj:=λx y c h1 h2=>I.ok.inj x y c (c1 x c h1) (c1 y c h2)
    has:=λy hy=>by
     have hy':scope.names.lookup y=some .cell\/scope.names.lookup y=some .free:=hy
     rcases hy' with q|q
     ·exact absurd rfl (S.cell _ (lookup_mem q))
     ·exact c2 y (lookup_mem q)
    cab:=λ_ _ z=>nomatch z
    hd:=λ_=>hh
    frames:=Around.frames_deeper hfr
    stk:=.inr ⟨rfl,rfl⟩
    exf:=λb hb=>absurd hb (noA b)
    bs:=I.bs
    bsz:=e0.bsz
    noex:=λb _ _=>noA b
    exfs:=λb hb=>absurd hb (noA b)
    Cz:=e0.Cz
    frf:=e0.frf }
 refine⟨ok,rfl,I.bare,Un.kept old,⟨m,hn,λi y w e1 e2 e3=>?_⟩,λy c e=>?_,I.hok.fresh (Nat.le_refl _),λy c e=>I.freeC y c (c1 y c e),λp hp=>?_,I.hok.kept old,?_⟩
 ·cases i with
  |zero=>
   have ey:x=y:=by simpa[GG]using e1
   have ev:v=w:=by simpa[Mv]using e2
   subst ey;subst ev
   exact⟨u,ru,.inl ⟨hx,hmx⟩⟩
  |succ i=>
   have e1':(ix.map λj=>X.N.getD j "")[i]?=some y:=by simpa[GG]using e1
   have e2':(ix.map λj=>σ.getD j none)[i]?=some (some w):=by simpa[Mv]using e2
   rw[List.getElem?_map]at e1' e2'
   cases q:ix[i]? with
   |none=>rw[q]at e1';cases e1'
   |some j=>
    rw[q]at e1' e2'
    have e1'':X.N.getD j ""=y:=Option.some.inj e1'
    have e2'':σ.getD j none=some w:=Option.some.inj e2'
    obtain⟨x',hx',hfr'⟩:=S.cap j (List.mem_of_getElem? q)
    have exx:x'=y:=by
     rw[<-e1'',List.getD_eq_getElem?_getD,hx'];rfl
    subst exx
    have hσ:σ[j]?=some (some w):=by
     rw[List.getD_eq_getElem?_getD]at e2''
     cases z:σ[j]? with
     |none=>rw[z]at e2'';cases e2''
     |some o=>rw[z]at e2'';exact congrArg some e2''
    have kd:=S.free _ (lookup_mem hfr') rfl
    have vis:SN X.env.scope x':=by
     rcases kd with z|z
     ·exact .inr (.inl z)
     ·exact .inr (.inr z)
    obtain⟨m',hn',hl'⟩:=I.loc
    obtain⟨u',r,l⟩:=hl' j x' w hx' hσ vis
    refine⟨u',r,.inr ⟨.inr hfr',?_⟩⟩
    obtain⟨c,hc⟩:=c2 x' (lookup_mem hfr')
    rcases l with⟨k,_⟩|⟨k,c',ec,o,ho',hd⟩
    ·rcases kd with z|z
     ·rw[k]at z;cases z
     ·rw[k]at z;cases z
    ·have:c'=c:=by
      have:=c1 x' c hc
      rw[ec]at this
      exact Option.some.inj this
     subst this
     exact⟨c',hc,o,old _ _ ho',hd⟩
 ·obtain⟨v',o,ho',hd⟩:=I.cell y c (c1 y c e)
  exact⟨v',o,old _ _ ho',hd⟩
 ·have hp':p∈X.pn++pins:=by
   rcases List.mem_append.mp hp with z|z
   ·exact z
   ·exact nomatch z
  obtain⟨e,n,ne,nf,d⟩:=I.pin p hp'
  exact⟨old _ _ e,n,lt _ _ e,nst _ ne nf,d⟩
 ·show(some v::ix.map λj=>σ.getD j none).length=([x]++ix.map λj=>X.N.getD j "").length
  simp
theorem OF {scope:Scope}{x:Str}{ix:List Nat}{nm qual:Str}{params:Arguments}{body:Expr}{cl:List (Str×Addr)}{fa c:Addr}{pm ctv:Value}{A1:Around}{te:TE}{v:V}{u:Value}{Q:VK}
 (S:B1 X scope [x] ix)(I:Inv X pins σ H s)(c1:∀x c,cl.lookup x=some c->X.env.cells.lookup x=some c)(c2:∀x,(x,NameKind.free)∈scope.names->∃c,cl.lookup x=some c)
 (ho:s.heap.get? fa=some (kla_obj nm qual params body scope cl pm c ctv))(hcd:s.heap.CodeRec (.ref c) qual)(hfr:A1.frames=some X.stack)(hh:A1.handled=none)(hroom:A1.depth < recursionLimit)
 (hbind:∀u:Value,bindArgs (kla_fn nm qual params body scope cl pm (.ref c) ctv) ⟨[u],[]⟩=pure [(x,u)])(hx:scope.names.lookup x=some .local)(hco:scope.isCoroutine=false)(hgen:scope.isGenerator=false)
 (hb:∀(s₃:Shared) (H₃:Hp),PE (GG X scope [x] ix qual cl fa (.ref c) A1 s₃ H₃ pins) body te)(ru:RelV v u)(q:te (Mv v ix σ) H Q):
 wpAny (model X.prog X.w) A1 (call (.ref fa) [u]) (EP X pins σ Q) (λ_ _=>False) s:=by
 refine wpAny_call (kla_callFunE hroom ho rfl hco hgen rfl hcd ?_)
 rw[hbind u]
 refine wpAny_pure (wpAny_newFunctionEnv S.cell (λy hy=>?_) (λh₁ hns hsb=>⟨(I.nolimit).fresh _ hsb,?_⟩) S.kind)
 ·obtain rfl:y=(x,u):=by simpa using hy
  exact hx
 show codeAny _ _ (.expr body (envX qual scope s.heap.objs.size fa (.ref c) cl)) _ _
 have hk₁:∀b o,s.heap.get? b=some o->h₁.get? b=some o:=λb o e=>hsb.extBut b o (Nat.ne_of_lt (Heap.lt_size e)) (Heap.get?_push_of_some _ e)
 have I1:=QN (qual:=qual) (fa:=fa) (cd:=.ref c) (A1:=A1) (tk:=s.toks+[(x,u)].length) S I c1 c2 hfr hh hx (show(λy=>[(x,u)].reverse.lookup y) x=some u by simp) ru hns hk₁
 refine kla_codeExpr (wpAny_mono (hb s H [] _ (Mv v ix σ) H Q I1 q) (λv' s' hv=>?_) λ_ _ z=>z.elim)
 obtain⟨v2,H',J,rv,q'⟩:=hv
 exact I.after ⟨v2,H',J.os,J.bare,J.base,J.hok,rv,q'⟩
theorem OG {scope:Scope}{params:Arguments}{body:Expr}{lp:Pos}{cl:List (Str×Addr)}{c0 P:Addr}{ls:List Lm}{E:Value->Shared->Prop}{Q:Value->Shared->Prop}(I:Inv X pins σ H s)(hcl:closureFor scope X.env=pure cl)(hcode:X.env.code=.ref c0)(CH:CodeHd X.base c0 P)
 (hb:X.base.BuiltinsAt X.mg P)(lo:Mu ls)(li:(P,lp,X.env.qual++"<lambda>")∈ls)(LL:CJ ls H)(hdef:defaultsOf params X.env=([],[]))
 (h:∀(fa c:Addr) (pm ctv:Value) (H':Hp) (s':Shared),Kt ls H H'->H' c=some (Hg c (X.env.qual++"<lambda>"))->Inv X (pins++[(fa,kla_obj "<lambda>" (X.env.qual++"<lambda>") params body scope cl pm c ctv)]) σ H' s'->Q (.ref fa) s'):
 wpAny (model X.prog X.w) X.A (eval (.Lambda params body scope lp) X.env) Q E s:=by
 refine kla_eval hdef ?_
 have hgs:s.heap.Ns mainGlobals X.mg:=I.mod.glob.keeps I.bk
 have C:=CH.keeps I.bk
 have pinIt:∀{fa c:Addr} {pm ctv:Value} {H':Hp} {h':Heap} {tk:Nat},Inv X pins σ H' { s with heap:=h',toks:=tk }->fa=h'.objs.size->
  Inv X (pins++[(fa,kla_obj "<lambda>" (X.env.qual++"<lambda>") params body scope cl pm c ctv)]) σ H' { s with heap:=h'.push (kla_obj "<lambda>" (X.env.qual++"<lambda>") params body scope cl pm c ctv),toks:=tk }:=λ{fa c pm ctv H' h' tk} J e=>by
  subst e
  have J2:=J.kept (t':=tk) (h':=h'.push (kla_obj "<lambda>" (X.env.qual++"<lambda>") params body scope cl pm c ctv)) λb o e=>Heap.get?_push_of_some _ e
  have f:=J.Fl (Nat.le_refl _) (J.hok.fresh (Nat.le_refl _))
  refine J2.Fs λp hp=>?_
  rcases List.mem_append.mp hp with z|z
  ·exact J2.pin p (List.mem_append_right _ z)
  ·obtain rfl:=List.mem_singleton.mp z
   exact⟨Heap.get?_push_size _ rfl,f.1,f.2.1,f.2.2.1,λv z=>by cases z⟩
 obtain⟨bm,ob,b1,b2,b3,b4,b5,b6⟩:=hb
 have hbs:s.heap.BuiltinsAt X.mg P:=⟨bm,ob,b1,b2,b3,b4,I.bk _ _ b5,b6⟩
 obtain⟨ps,L,tok,Lc⟩:=LL _ li
 dsimp only at L Lc
 rcases Lc with Lno|⟨c,Lc,Hc⟩
 ·have hP:s.heap.get? P=some (tabObj ps):=I.hok P _ L
  have hgP:mainGlobals≠P:=λq=>by
   obtain⟨o,es,ep,e,hd,_⟩:=hgs
   rw[q,hP]at e;cases e;cases hd
  refine kla_makeFunction (mg:=X.mg) hcl I.ok.glob hgs hcode C hP tok Lno hgP hbs λc ctv h' tk hx hge hlt hrec htb=>?_
  have hc0:H c=none:=I.hok.fresh hge
  have ncP:c≠P:=λe=>by rw[e,L]at hc0;cases hc0
  have nP:∀b,H b=none->b≠P:=λb e z=>by rw[z,L]at e;cases e
  have htb':h'.get? P=some (tabObj (ps++#[rawInt lp.line,rawInt lp.col,.ref c])):=htb
  have hc1:∃oc,h'.get? c=some oc:=by
   obtain⟨_,oc,_,_,e,ho,_⟩:=id hrec
   cases e;exact⟨oc,ho⟩
  have J:Inv X pins σ (upd (upd H P (.tbl (ps++#[rawInt lp.line,rawInt lp.col,.ref c]))) c (Hg c (X.env.qual++"<lambda>"))) { s with heap:=h',toks:=tk }:=by
   have at1:∀b,b≠P->b≠c->upd (upd H P (.tbl (ps++#[rawInt lp.line,rawInt lp.col,.ref c]))) c (Hg c (X.env.qual++"<lambda>")) b=H b:=λb h1 h2=>by rw[AH h2,AH h1]
   have atP:upd (upd H P (.tbl (ps++#[rawInt lp.line,rawInt lp.col,.ref c]))) c (Hg c (X.env.qual++"<lambda>")) P=some (.tbl (ps++#[rawInt lp.line,rawInt lp.col,.ref c])):=by rw[AH (Ne.symm ncP),AB]
   have old:∀b o,s.heap.get? b=some o->b≠c:=λb o e z=>absurd (Heap.lt_size e) (by rw[z];exact Nat.not_lt.mpr hge)
   have Px:∀b o,H b=some o->b≠c:=λb o e=>AI e hc0
   refine I.step (g':=s.gens) (d':=s.drawn) (ch:=[]) (λ_ z=>nomatch z) (λb o _ _ _ e n=>hx b o (nP b n) e) (λb o _ _ _ e n=>⟨o.slots,hx b o (nP b n) e⟩) (λb o _ e n=>by rw[at1 b (nP b n) (old b o e)];exact n) (λb o _ e=>?_)
    (λb xs e=>by rw[at1 b (λz=>by rw[z,L]at e;cases e) (Px b _ e)];exact e) (λb ob u e=>by rw[at1 b (λz=>by rw[z,L]at e;cases e) (Px b _ e)];exact e) (λb ps e=>?_) (λm hm=>?_) (λb u e=>?_) I.bare
   ·by_cases z:b=P
    ·exact⟨_,by rw[z];exact htb'⟩
    ·exact⟨o,hx b o z e⟩
   ·by_cases z:b=P
    ·subst z
     rw[L]at e;cases e
     exact⟨_,atP⟩
    ·exact⟨#[],by rw[at1 b z (Px b _ e),e];simp⟩
   ·obtain⟨o,es,ep,e,r⟩:=hm
    exact⟨o,es,ep,hx _ o (nP _ I.free) e,r⟩
   ·by_cases z1:b=c
    ·subst z1
     rw[AB]at e;cases e
     refine⟨hrec,hc1,λh1 h2 p k=>?_⟩
     obtain⟨c2,o2,vs2,t2,e2,g2,r2⟩:=p
     cases e2
     exact⟨b,o2,vs2,t2,rfl,k _ g2,r2⟩
    ·by_cases z2:b=P
     ·subst z2
      rw[atP]at e;cases e
      exact htb'
     ·rw[at1 b z2 z1]at e
      refine(I.hok b u e).EC (λd v hd q=>hx d v ?_ q) (λd q=>by rw[at1 d (λz=>by rw[z,L]at q;cases q) (Px d _ q)];exact q) λd xs q=>by rw[at1 d (λz=>by rw[z,L]at q;cases q) (Px d _ q)];exact q
      rcases hd with z|z
      ·rw[z];exact z2
      ·exact λy=>by rw[y,L]at z;cases z
  refine h h'.objs.size c _ ctv _ _ ⟨λl hl=>?_,λb o hb e=>?_,λb e=>?_⟩ AB (pinIt J rfl)
  ·obtain⟨qs,q1,q2,q3⟩:=LL l hl
   by_cases z:l.1=P
   ·rw[z]at q1 ⊢
    rw[L]at q1
    cases q1
    refine⟨_,by rw[AH (Ne.symm ncP),AB],by rw[Array.toList_append];exact TriplesOk_snoc _ _ _ _ q2,?_⟩
    rw[Array.toList_append]
    rcases lo _ li l hl with y|y
    ·subst y
     exact .inr ⟨c,codeAmong_snoc _ tok Lno,AB⟩
    ·show codeAmong l.2.1 (ps.toList++[rawInt lp.line,rawInt lp.col,.ref c])=none\/_
     have eo:=Fn (c:=.ref c) y ps.toList tok
     dsimp only at eo
     rcases q3 with q3|⟨d,q3,q4⟩
     ·exact .inl (eo.trans q3)
     ·exact .inr ⟨d,eo.trans q3,by rw[AH (AI q4 hc0),AH (λy=>by rw[y,L]at q4;cases q4)];exact q4⟩
   ·refine⟨qs,by rw[AH (AI q1 hc0),AH z];exact q1,q2,?_⟩
    rcases q3 with q3|⟨d,q3,q4⟩
    ·exact .inl q3
    ·exact .inr ⟨d,q3,by rw[AH (AI q4 hc0),AH (λy=>by rw[y,L]at q4;cases q4)];exact q4⟩
  ·rw[AH (AI e hc0),AH (λz=>by rw[z,L]at e;cases e;exact hb _ rfl)];exact e
  ·by_cases z1:b=c
   ·rw[z1];exact hc0
   ·rw[AH z1]at e
    by_cases z2:b=P
    ·rw[z2,AB]at e;cases e
    ·rw[AH z2]at e;exact e
 ·have hP:s.heap.get? P=some (tabObj ps):=I.hok P _ L
  refine kla_makeFunctionHit (mg:=X.mg) (cv:=.ref c) hcl I.ok.glob hgs hcode C hP tok Lc hbs λctv h' tk hk hsz=>?_
  exact h h'.objs.size c _ ctv H _ (Kt.refl LL) Hc (pinIt (I.kept (t':=tk) hk) rfl)
end
end L2
namespace L2
open PySem PySem.Spec PyProof.Rows PySem.W
section
variable {prog:Program}{w:World}{A:Around}{E:Value->Shared->Prop}{s:Shared}
theorem Fc {r:Addr}{lo hi:Int}{t u v:Tok}{n:Nat}{Q:List Value->Shared->Prop}(hh:A.handled=none)(hr:IsRange s.heap r lo hi 1 t u v)(hsmall:Builtin.Range.small lo hi 1=true)(hn:Builtin.Range.rangeSize lo hi 1=n)(hlen:n<=2 ^ 24)
 (h:∀(h':Heap) (tk:Nat) (acc:Array Value),(∀b o,s.heap.get? b=some o->h'.get? b=some o)->s.heap.objs.size<=h'.objs.size->ItemsOf (λi v=>∃t,v=.int (lo+i*1) t) acc n->Q acc.toList { s with heap:=h',toks:=tk }):
 wpAny (model prog w) A (collect (.ref r)) Q E s:=by
 unfold collect
 refine wpAny_bind (wpAny_runValue (codeAny_builtin F.entry_proto_collect ?_))
 rw[Around.under_plainId F.plain_proto_collect _]
 show wpAny _ A.in1 (newList [] >>= λl=>again (.builtin "list.__iadd__" ⟨[l,.ref r],[]⟩)) _ _ s
 refine wpAny_bind (wpAny_newObj_type ?_)
 refine wpAny_pure ⟨plainId_quiet F.plain_list_iadd _,codeAny_builtin F.entry_list_iadd ?_⟩
 rw[Around.under_plainId F.plain_list_iadd _]
 show wpAny _ A.in1 (Builtin.List.listExtendWith (.ref s.heap.objs.size) (.ref r) (.ref s.heap.objs.size)) _ _ _
 have hS₁:(s.heap.push { cls:=.type "list",data:=.seq ([]:List Value).toArray }).get? s.heap.objs.size=some { cls:=.type "list",data:=.seq #[] 0 }:=Heap.get?_push_size _ rfl
 refine wpAny_mono (wpAny_extend_range (s:={ s with heap:=s.heap.push { cls:=.type "list",data:=.seq ([]:List Value).toArray } }) (R:=λr' s'=>r'=.ok (.ret (.ref s.heap.objs.size))/\∃h' tk acc' c',s'={ s with heap:=h',toks:=tk }/\(∀b o,b≠s.heap.objs.size->(s.heap.push { cls:=.type "list",data:=.seq ([]:List Value).toArray }).get? b=some o->h'.get? b=some o)/\
  h'.get? s.heap.objs.size=some { cls:=.type "list",dict:=none,data:=.seq acc' c',slots:=#[] }/\ItemsOf (λi v=>∃t,v=.int (lo+i*1) t) acc' n)
  hh (Heap.get?_push_of_some _ hr) hsmall hn hlen s.heap.objs.size (.ref s.heap.objs.size) 0 hS₁ λh' tk acc' c' kp hS' hacc=>⟨rfl,h',tk,acc',c',rfl,kp,hS',hacc⟩) (λfin s' hf=>?_) (λe s' hf=>?_)
 ·have key:∀{f:Flow} {s':Shared},((Except.ok f:Result)=.ok (.ret (.ref s.heap.objs.size))/\∃h' tk acc' c',s'={ s with heap:=h',toks:=tk }/\(∀b o,b≠s.heap.objs.size->(s.heap.push { cls:=.type "list",data:=.seq ([]:List Value).toArray }).get? b=some o->h'.get? b=some o)/\
   h'.get? s.heap.objs.size=some { cls:=.type "list",dict:=none,data:=.seq acc' c',slots:=#[] }/\ItemsOf (λi v=>∃t,v=.int (lo+i*1) t) acc' n)->f=.ret (.ref s.heap.objs.size)/\wpAny (model prog w) A (do
    let __do_lift<-load s.heap.objs.size
    match __do_lift.data with
     |.seq xs _=>pure xs.toList
     |_=>unsupported "internal:collect") Q E s':=λ{f s'} hz=>by
   obtain⟨e1,h',tk,acc',c',rfl,kp,hS',hacc⟩:=hz
   refine⟨by injection e1,?_⟩
   refine wpAny_bind (wpAny_load (s:={ s with heap:=h',toks:=tk }) hS' ?_)
   exact wpAny_pure (h h' tk acc' (λb o e=>kp b o (Nat.ne_of_lt (Heap.lt_size e)) (Heap.get?_push_of_some _ e)) (Nat.le_of_lt (Heap.lt_size hS')) hacc)
  cases fin with
  |done f=>
   obtain⟨rfl,hw⟩:=key hf
   exact hw
  |again c'=>
   refine⟨hf.1,codeAny_mono hf.2 λr' s'' hr'=>?_⟩
   cases r' with
   |error e=>exact absurd hr'.1 (by intro z;cases z)
   |ok f=>
    obtain⟨rfl,hw⟩:=key hr'
    exact hw
 ·exact absurd hf.1 (by intro z;cases z)
end
theorem IP:∀{xs:List V} {us:List Value},xs.length=us.length->(∀(i:Nat) (x:V) (u:Value),xs[i]?=some x->us[i]?=some u->RelV x u)->Vals xs us
 |[],[],_,_=>.nil
 |[],_::_,h,_=>by cases h
 |_::_,[],h,_=>by cases h
 |x::xs,u::us,h,k=>.cons (k 0 x u rfl rfl) (IP (by simpa using h) λi y v a b=>k (i+1) y v (by simpa using a) (by simpa using b))
section
variable {X:Cx}
def S8 (ta:TA):TE:=λσ H Q=>ta σ H λvs H1=>∃j:Int,vs=[.int j]/\∀r,H1 r=none->Q (.ref r) (upd H1 r (.rng 0 j))
def S9 (ta:TA):TE:=λσ H Q=>ta σ H λvs H1=>∃i j:Int,vs=[.int i,.int j]/\∀r,H1 r=none->Q (.ref r) (upd H1 r (.rng i j))
theorem QO {a:Expr}{ta:TA}{p pos:Pos}(hg:Gl X "range")(hm:X.mg "range"=none)(ha:PA X [a] ta)(hs:starEach [a] X.env=[(false,eval a X.env)]:=by rfl):PE X (.Call (.Name "range" p) [a] [] pos) (S8 ta):=by
 intro pins s σ H Q I h
 refine Call_ (CU I hg hm boot_range (PyProof.Rows.callWith_type1 (BG (ha pos pins s σ H _ I h) λus s1 ⟨vs,H1,I1,r1,q1⟩=>?_) hs rfl))
 obtain⟨j,e,q⟩:=q1
 subst e
 cases r1 with
 |cons r rr=>
  cases rr
  obtain⟨t,rfl⟩:=r
  exact call_range_1 ⟨.ref s1.heap.objs.size,_,I1.laid (o:=.rng 0 j) (t':=s1.toks+1+1) (λb o e=>Heap.get?_push_of_some _ e) (Nat.le_refl _) ⟨_,_,_,Heap.get?_push_size _ rfl⟩,rfl,q _ I1.fresh⟩
theorem Lx {a b:Expr}{ta:TA}{p pos:Pos}(hg:Gl X "range")(hm:X.mg "range"=none)(ha:PA X [a,b] ta)(hs:starEach [a,b] X.env=[(false,eval a X.env),(false,eval b X.env)]:=by rfl)(hs2:starEach [b] X.env=[(false,eval b X.env)]:=by rfl):
 PE X (.Call (.Name "range" p) [a,b] [] pos) (S9 ta):=by
 intro pins s σ H Q I h
 refine Call_ (CU I hg hm boot_range (PyProof.Rows.callWith_type1 (BG (ha pos pins s σ H _ I h) λus s1 ⟨vs,H1,I1,r1,q1⟩=>?_) (by rw[hs,hs2]) (by rw[hs2];rfl)))
 obtain⟨i,j,e,q⟩:=q1
 subst e
 cases r1 with
 |cons r rr=>
  cases rr with
  |cons r' rr=>
   cases rr
   obtain⟨t,rfl⟩:=r
   obtain⟨t',rfl⟩:=r'
   exact call_range_2 ⟨.ref s1.heap.objs.size,_,I1.laid (o:=.rng i j) (t':=s1.toks+1) (λb o e=>Heap.get?_push_of_some _ e) (Nat.le_refl _) ⟨_,_,_,Heap.get?_push_size _ rfl⟩,rfl,q _ I1.fresh⟩
def GH (ls:List Lm)(ix:List Nat)(tb:TE)(σ:St)(Q:VK)(x:V)(H1:Hp):Prop:=∃(r:Addr) (lo hi:Int) (K:Nat->List V) (sh:List Nat),x=.ref r/\H1 r=some (.rng lo hi)/\(-(2 ^ 62)<=lo/\lo < 2 ^ 62/\-(2 ^ 62)<=hi/\hi < 2 ^ 62)/\(hi - lo).toNat < 64/\
 CJ ls H1/\FL (hi - lo).toNat K sh/\
 (∀(i:Nat) (H2:Hp),i < (hi - lo).toNat->Kt ls H1 H2->tb (Mv (.int (lo+i)) ix σ) H2 λk H3=>∃a,k=.ref a/\H3 a=some (.tup (K i))/\AG H2 H3)/\
 ∀(p:List Nat) (l:Addr) (H2:Hp),p.Perm (List.range (hi - lo).toNat)->(∀i j,i < j->j < (hi - lo).toNat->A8 (K (p.getD j 0)) (K (p.getD i 0))=false)->Kt ls H1 H2->H1 l=none->H2 l=some (.lst (p.map λi:Nat=>V.int (lo+(i:Int))))->Q (.ref l) H2
def OH (ls:List Lm)(ix:List Nat)(te tb:TE):TE:=λσ H Q=>te σ H (GH ls ix tb σ Q)
theorem GJ {k:Nat}{P c0:Addr}{ls:List Lm}{x:Str}{ix:List Nat}{e:Expr}{params:Arguments}{body:Expr}{scope:Scope}{lp kpos p pos:Pos}{te tb:TE}
 (hr:B6 k X.A)(hcalm:X.calm=true)(hg:Gl X "sorted")(hm:X.mg "sorted"=none)(he:PE X e te)(hcode:X.env.code=.ref c0)(CH:CodeHd X.base c0 P)(hb:X.base.BuiltinsAt X.mg P)(lk:Mu ls)(li:(P,lp,X.env.qual++"<lambda>")∈ls)(S:B1 X scope [x] ix)
 (ht:∀(qual:Str) (cl:List (Str×Addr)) (fa:Addr) (cd:Value) (A1:Around) (s₃:Shared) (H₃:Hp) (pins:List (Addr×Obj)),PE (GG X scope [x] ix qual cl fa cd A1 s₃ H₃ pins) body tb)
 (hx:scope.names.lookup x=some .local:=by rfl)(hco:scope.isCoroutine=false:=by rfl)(hgen:scope.isGenerator=false:=by rfl)(hdef:defaultsOf params X.env=([],[]):=by rfl)
 (hbind:∀(qual:Str) (cl:List (Str×Addr)) (pm:Value) (c:Addr) (ctv u:Value),bindArgs (kla_fn "<lambda>" qual params body scope cl pm (.ref c) ctv) ⟨[u],[]⟩=pure [(x,u)]:=by intros;rfl)
 (hs:starEach [e] X.env=[(false,eval e X.env)]:=by rfl):
 PE X (.Call (.Name "sorted" p) [e] [⟨some "key",.Lambda params body scope lp,kpos⟩] pos) (OH ls ix te tb):=by
 intro pins s σ H Q I h
 obtain⟨cl,hcl,c1,c2⟩:=DE (scope:=scope) (env:=X.env) λy hy=>by
  rcases S.free _ hy rfl with z|z
  ·exact I.ok.has y (.inl z)
  ·exact I.ok.has y (.inr z)
 refine wpAny_Call_Name_kw (CU I hg hm L2.FJ ?_)
 refine callWith_kw (BG ((AA he AD hs) pos pins s σ H (λxs H1=>match xs with|[x]=>GH ls ix tb σ Q x H1|_=>False) I h) λus s1 ⟨xs,H1,I1,r1,q1⟩=>?_) (by rw[hs];rfl) (by rw[hs];rfl)
 obtain⟨x0,ex0,q1⟩:∃x0,xs=[x0]/\GH ls ix tb σ Q x0 H1:=by
  cases xs with
  |nil=>exact False.elim q1
  |cons x0 rest=>
   cases rest with
   |nil=>exact⟨x0,rfl,q1⟩
   |cons _ _=>exact False.elim q1
 subst ex0
 obtain⟨r,lo,hi,K,sh,rfl,hrng,⟨l1,l2,l3,l4⟩,h64,L,kk,hbody,hend⟩:=q1
 obtain⟨u,rfl,ru⟩:=vals1 r1
 cases(show u=Value.ref r from ru)
 show wpAny _ _ (evalAll [do let v<-eval (.Lambda params body scope lp) X.env;standAt pos;pure v]) _ _ s1
 refine wpAny_evalAll_cons (wpAny_bind (OG (P:=P) (c0:=c0) I1 hcl hcode CH hb lk li L hdef λfa c pm ctv H2 s2 kt hc I2=>wpAny_bind (wpAny_standAt (wpAny_pure (wpAny_evalAll_nil ?_)))))
 show wpAny _ _ (call (.builtin "sorted") [.ref r] [(Str.ofString "key",.ref fa)]) _ _ s2
 obtain⟨t,t',t'',hr2⟩:=I2.hok r _ (kt.keep r _ (λps z=>by cases z) hrng)
 have hA:X.A.handled=none:=I.ok.hd hcalm
 have en:Builtin.Range.rangeSize lo hi 1=(((hi - lo).toNat:Nat):Int):=by rw[rangeSize_one];split<;>omega
 refine call_function_entry_kw kind_sorted plain_sorted entry_sorted (ksk_s1 _ _) ?_
 unfold Builtin.«sorted»
 refine wpAny_bind (m:=checkCount "sorted" 1 1 _) (wpAny_pure ?_)
 refine wpAny_bind (Fc (A:=X.A.in1) hA hr2 (small_one l1 l2 l3 l4) en (by omega) λh3 tk acc kp3 sz3 hacc=>?_)
 have la:acc.toList.length=(hi - lo).toNat:=by rw[Array.length_toList];exact hacc.1
 refine wpAny_bind (wpAny_newList ?_ (by rw[la,sizeLine_eq];omega))
 have I3:=I2.kept (t':=tk) kp3
 have vals:Vals ((List.range (hi - lo).toNat).map λi:Nat=>V.int (lo+(i:Int))) acc.toList:=by
  refine(IP ?_ ?_)
  ·rw[List.length_map,List.length_range,la]
  ·intro i x u hx' hu
   rw[List.getElem?_map]at hx'
   cases e1:(List.range (hi - lo).toNat)[i]? with
   |none=>rw[e1]at hx';cases hx'
   |some j=>
    rw[e1]at hx'
    have ej:j=i:=by
     have:=List.getElem?_eq_some_iff.mp e1
     obtain⟨a,b⟩:=this
     rw[List.getElem_range]at b;exact b.symm
    subst ej
    cases hx'
    obtain⟨tt,e2⟩:=hacc.2 j u (by rw[<-Array.getElem?_toList];exact hu)
    rw[Int.mul_one]at e2
    exact⟨tt,e2⟩
 generalize hg3:(h3.push { cls:=.type "list",data:=.seq acc.toList.toArray }:Heap)=g
 have hDg:g.get? h3.objs.size=some (seqObj "list" acc.toList.toArray 0):=by rw[<-hg3];exact Heap.get?_push_size _ rfl
 have I4:Inv X (pins++[(fa,kla_obj "<lambda>" (X.env.qual++"<lambda>") params body scope cl pm c ctv)]) σ H2 { s2 with heap:=g,toks:=tk }:=I3.kept (t':=tk) λb o e=>by rw[<-hg3];exact Heap.get?_push_of_some _ e
 have fD:Bn X (pins++[(fa,kla_obj "<lambda>" (X.env.qual++"<lambda>") params body scope cl pm c ctv)]) H2 h3.objs.size:=I3.Fl (Nat.le_refl _) (I3.hok.fresh (Nat.le_refl _))
 refine wpAny_bind (wpAny_holding (wpAny_call_entry_kw slot_list_sort ⟨_,hDg,rfl⟩ entry_list_sort ?body (ksk_l1 _ _)))
 case body=>
  show wpAny (model X.prog X.w) X.A.in1.in1 (Builtin.«list.sort» ⟨[.ref h3.objs.size],[(Str.ofString "key",.ref fa)]⟩) _ _ _
  rw[ksk_t1]
  refine OE (K:=K) (sh:=sh) I4 hDg fD vals (by rw[la];exact h64) (by rw[la];exact kk) (λi v pins' H' s' hv hsub I' S'=>?_) λp H' s' c' hp hr' S' hD' J=>⟨_,rfl,?_⟩
  ·have hi':i < (hi - lo).toNat:=by rw[<-la];exact(List.getElem?_eq_some_iff.mp hv).1
   obtain⟨u',hu',rv⟩:=vals.get (i:=i) (x:=V.int (lo+(i:Int))) (by rw[List.getElem?_map,List.getElem?_range hi'];rfl)
   rw[hv]at hu'
   cases hu'
   have pf:=(I'.pin (fa,kla_obj "<lambda>" (X.env.qual++"<lambda>") params body scope cl pm c ctv) (List.mem_append_right _ (hsub _ (List.mem_append_right _ List.mem_cons_self)))).1
   have hcd:=(I'.hok c _ (S' _ _ hc)).1
   exact OF (te:=tb) S I' c1 c2 pf hcd I.ok.frames hA hr.depth (hbind _ _ _ _ _) hx hco hgen (λs₃ H₃=>ht _ _ _ _ _ s₃ H₃ pins') rv (hbody i H' hi' (kt.same S'))
  ·rw[la]at hp hr'
   have J2:Inv X pins σ _ s':=J.Cf
   refine wpAny_pure ⟨_,rfl,⟨.ref h3.objs.size,_,J2,rfl,hend p.toList h3.objs.size _ hp (Hf hr') ((kt.same S').same ((AG.refl H').new hD')) (kt.here _ fD.1) ?_⟩⟩
   rw[AB]
   congr 2
   refine List.map_congr_left λi hi'=>?_
   have:i < (hi - lo).toNat:=List.mem_range.mp ((List.Perm.mem_iff hp).mp hi')
   rw[List.getD_eq_getElem?_getD,List.getElem?_map,List.getElem?_range this];rfl
end
end L2
namespace L2
open PySem PySem.Spec PyProof.Rows PySem.W
theorem JM {K:Frag}{h:Heap}{P:Addr}{ps:Array Value}(X:K.In h)(hK:noTabs K=true)(hP:h.get? P=some (tabObj ps)):K.lookup P=none:=by
 cases e:K.lookup P with
 |none=>rfl
 |some o=>
  have e1:=X P o e
  rw[hP]at e1
  cases e1
  have h2:=List.all_eq_true.mp hK (P,tabObj ps) (mem_of_lookupK e)
  exact absurd (show false=true from h2) Bool.false_ne_true
structure TabAt (base:Heap)(mg:Str->Option Value)(nm:Str)(T:Addr):Prop where
 fn:∃a o fd c,mg nm=some (.ref a)/\base.get? a=some o/\o.data=.func fd/\fd.code=.ref c/\CodeHd base c T
 blt:base.BuiltinsAt mg T
inductive Mw {α β:Type}(R:α->β->Prop):List α->List β->Prop
 |nil:Mw R [] []
 |cons {a b xs ys}:R a b->Mw R xs ys->Mw R (a::xs) (b::ys)
theorem Fd {α β:Type}{R S:α->β->Prop}(h:∀a b,R a b->S a b):∀{xs:List α} {ys:List β},Mw R xs ys->Mw S xs ys
 |[],[],_=>.nil
 |_::_,_::_,.cons a b=>.cons (h _ _ a) (Fd h b)
theorem Mx {P:Program}{w:World}{K:Frag}{mg mb:Str->Option Value}{CX:Lg}{k:Nat}{fa a:Addr}{Ts:List Addr}{nms:List Str}{fd:FuncData}{x:Str}{sp:Sp}{s₁:Shared}{vs:List Value}{ns:List Int}
 (KX:K.In s₁.heap)(hns:s₁.heap.Ns mainGlobals mg)(hb:s₁.heap.Ns builtinsNs mb)(hbb:∀x:Str,x≠"__name__"->mb x=bootBuiltins x)(hlim:s₁.heap.NoLimit)(hg:s₁.gens=#[])
 (ha:s₁.heap.get? a=some { cls:=.type "list",data:=.seq vs.toArray })(hi:IntsAre vs ns)(hl:ns.length<=sizeLine)(hr:B6 k callerA)
 (hT:∀T∈Ts,s₁.heap.get? T=some (tabObj #[]))(hTc:∀T∈Ts,isCodeTable s₁.heap T)(hTA:Mw (TabAt s₁.heap mg) nms Ts)(hnt:noTabs K=true)
 (F:∀base:Heap,K.In base->base.Ns mainGlobals mg->Mw (TabAt base mg) nms Ts->Ef P w K mg base CX k fa fd [x] sp)(hbind:∀(s:Shared) (u:Value),BindsTo s fd ⟨[u],[]⟩ [(x,u)])
 (hsp:∀H:Hp,(∀T∈Ts,H T=some (.tbl #[]))->Am K H a (ns.map V.int)->sp [.ref a] H (λv _=>v=.bl true) λ_ _ _=>False)
 (hCX:∀H e s',CX [] H s₁ (λ_ _ _=>False) e s'->False):
 codeAny (model P w) callerA (.call (.ref fa) ⟨[.ref a],[]⟩) (λr s'=>r=.ok (.ret (.bool true))/\OldK s₁.heap s'.heap/\s'.os=s₁.os/\AllBare s'.gens) s₁:=by
 have rv:=HR hi
 have lenV:=hi.length
 have aT:a∉Ts:=λe=>by rw[hT a e]at ha;cases ha
 have core:∀H:Hp,(∀T∈Ts,H T=some (.tbl #[]))->Am K H a (ns.map V.int)->DQ P w H s₁.heap->(∀b,H b≠none->b=a\/b∈Ts)->(H a≠none->K.lookup a=none)->(∀u,H a=some u->∃xs,u=.frz { cls:=.type "list",data:=.seq vs.toArray } (.lst xs))->
  codeAny (model P w) callerA (.call (.ref fa) ⟨[.ref a],[]⟩) (λr s'=>r=.ok (.ret (.bool true))/\OldK s₁.heap s'.heap/\s'.os=s₁.os/\AllBare s'.gens) s₁:=by
  intro H hHT hS hok hA hK hF
  have base_of:∀{b:Addr} {o:Obj},s₁.heap.get? b=some o->H b=none->(Gm s₁.heap H).get? b=some o:=λe n=>Nb e n
  have free:∀{b:Addr} {o:Obj},s₁.heap.get? b=some o->o.cls≠.type "list"->o.cls≠.none->H b=none:=λ{b o} e c1 c2=>by
   cases q:H b with
   |none=>rfl
   |some u=>
    rcases hA b (by rw[q];simp)with z|z
    ·subst z;rw[ha]at e;cases e;exact absurd rfl c1
    ·rw[hT b z]at e;cases e;exact absurd rfl c2
  have noA:∀{b:Addr} {o:Obj} {es:Array DictEntry} {ep:Nat},s₁.heap.get? b=some o->o.data=.dict es ep->H b=none:=λ{b o es ep} e d=>by
   cases q:H b with
   |none=>rfl
   |some u=>
    rcases hA b (by rw[q];simp)with z|z
    ·subst z;rw[ha]at e;cases e;cases d
    ·rw[hT b z]at e;cases e;cases d
  have nsK:∀{b:Addr} {m:Str->Option Value},s₁.heap.Ns b m->(Gm s₁.heap H).Ns b m:=λ{b m} ⟨o,es,ep,e,d,r⟩=>⟨o,es,ep,base_of e (noA e d),d,r⟩
  have hKb:K.In (Gm s₁.heap H):=λb o e=>base_of (KX b o e) (by
   cases q:H b with
   |none=>rfl
   |some u=>
    rcases hA b (by rw[q];simp)with z|z
    ·subst z;rw[hK (by rw[q];simp)]at e;cases e
    ·rw[JM KX hnt (hT b z)]at e;cases e)
  have hM:Mod K mg (Gm s₁.heap H):=⟨hKb,nsK hns,⟨mb,nsK hb,hbb⟩,let⟨mc,h1,h2⟩:=hlim;⟨mc,nsK h1,h2⟩⟩
  have hTb:Mw (TabAt (Gm s₁.heap H) mg) nms Ts:=Fd (λnm T hTA=>by
   obtain⟨⟨f,o,fd',c,e1,e2,e3,e4,o5,vs5,file,tf,flags,tg,inF,text,tt,f1,f2,r5⟩,bm,ob,b1,b2,b3,b4,b5,b6,b7⟩:=hTA
   refine⟨⟨f,o,fd',c,e1,base_of e2 ?_,e3,e4,o5,vs5,file,tf,flags,tg,inF,text,tt,base_of f1 (free f1 (by rw[f2];intro z;exact absurd (Value.type.inj z) (by decide)) (by rw[f2];intro z;cases z)),f2,r5⟩,bm,ob,b1,b2,b3,b4,base_of b5 (free b5 (by rw[b6];intro z;exact absurd (Value.type.inj z) (by decide)) (by rw[b6];intro z;cases z)),b6,b7⟩
   cases q:H f with
   |none=>rfl
   |some u=>
    rcases hA f (by rw[q];simp)with z|z
    ·subst z;rw[ha]at e2;cases e2;cases e3
    ·rw[hT f z]at e2;cases e2;cases e3) hTA
  have e0:P9 P w K mg (Gm s₁.heap H) callerA [] s₁ H:=⟨rfl,hM,λb o e=>Pz e,Nat.le_of_eq (Ma _ _),trivial,λb hb=>absurd (show b∈([]:List Addr)from hb) (by simp),hok,.of_eq hg⟩
  refine codeAny_mono ((F _ hKb (nsK hns) hTb).run callerA [] s₁ H ⟨[.ref a],[]⟩ [.ref a] [.ref a] _ _ hr e0 (hbind s₁ (.ref a)) (.cons rfl .nil) (hsp H hHT hS)) λr s' h=>?_
  cases r with
  |error e=>exact(hCX H e s' h).elim
  |ok fl=>
   cases fl with
   |next=>exact False.elim h
   |brk=>exact False.elim h
   |cont=>exact False.elim h
   |ret u=>
    obtain⟨v,H',os,bare,un,hok',r',q⟩:=h
    have q':v=.bl true:=q
    subst q'
    obtain rfl:u=Value.bool true:=r'
    have kept:∀b o,b∉Ts->s₁.heap.get? b=some o->s'.heap.get? b=some o:=λb o hbT e=>by
     cases q:H b with
     |none=>exact un.keep b o e q (by intro z;exact absurd (show b∈([]:List Addr)from z) (by simp)) (by simp)
     |some u=>
      rcases hA b (by rw[q];simp)with z|z
      ·subst z
       obtain⟨xs,z⟩:=hF u q
       subst z
       obtain⟨e2,_⟩:=hok' b _ (un.frzs b _ _ q)
       rw[ha]at e;cases e
       exact e2
      ·exact absurd z hbT
    have hT':∀T∈Ts,∃more,s'.heap.get? T=some (tabObj (#[]++more)):=λT hTm=>by
     obtain⟨more,eT⟩:=un.tbls T _ (hHT T hTm)
     exact⟨more,hok' T _ eT⟩
    refine⟨rfl,⟨λb o e=>?_,λb o e=>?_⟩,os,bare⟩
    ·by_cases z:b∈Ts
     ·rw[hT b z]at e;cases e
      obtain⟨more,hT''⟩:=hT' b z
      exact .inr (.inl ⟨hTc b z,rfl,#[],more,rfl,hT''⟩)
     ·exact .inl (kept b o z e)
    ·by_cases z:b∈Ts
     ·obtain⟨more,hT''⟩:=hT' b z
      exact⟨_,hT''⟩
     ·exact⟨o,kept b o z e⟩
 cases hk:K.lookup a with
 |some o=>
  have e:=KX a o hk
  rw[ha]at e
  cases e
  refine core (λb=>if b∈Ts then some (.tbl #[])else none) (λT hTm=>if_pos hTm) (.inr ⟨_,vs.toArray,_,hk,rfl,rfl,rfl,by rw[List.size_toArray,lenV];exact hl,by simpa using rv⟩) (λb u z=>?_) (λb z=>?_) (λz=>absurd (if_neg aT) z) (λu z=>by rw[if_neg aT]at z;cases z)
  ·dsimp only at z
   by_cases hb:b∈Ts
   ·rw[if_pos hb]at z;cases z;exact hT b hb
   ·rw[if_neg hb]at z;cases z
  ·by_cases hb:b∈Ts
   ·exact .inr hb
   ·exact absurd (if_neg hb) z
 |none=>
  refine core (λb=>if b∈Ts then some (.tbl #[])else if b=a then some (.frz { cls:=.type "list",data:=.seq vs.toArray } (.lst (ns.map V.int)))else none) (λT hTm=>if_pos hTm)
   (.inl (.inr ⟨{ cls:=.type "list",data:=.seq vs.toArray },by show(if a∈Ts then _ else _)=_;rw[if_neg aT,if_pos rfl]⟩)) (λb u z=>?_) (λb z=>?_) (λ_=>hk) (λu z=>?_)
  ·dsimp only at z
   by_cases hb:b∈Ts
   ·rw[if_pos hb]at z;cases z;exact hT b hb
   ·rw[if_neg hb]at z
    by_cases hb2:b=a
    ·rw[if_pos hb2]at z;cases z;subst hb2
     exact⟨ha,by rw[List.length_map];exact hl,vs,_,rv,ha⟩
    ·rw[if_neg hb2]at z;cases z
  ·by_cases hb:b∈Ts
   ·exact .inr hb
   ·by_cases hb2:b=a
    ·exact .inl hb2
    ·exact absurd (show(if b∈Ts then _ else if b=a then _ else none)=none by rw[if_neg hb,if_neg hb2]) z
  ·have z':(if a∈Ts then some (HO.tbl #[])else if a=a then some (.frz { cls:=.type "list",data:=.seq vs.toArray } (.lst (ns.map V.int)))else none)=some u:=z
   rw[if_neg aT,if_pos rfl]at z'
   cases z'
   exact⟨_,rfl⟩
theorem walk_ofT {l:PySem.W.OpenLaw}{n k:Nat}{q:Program}{loose:List Str}{XP:(Str->Option Value)->Heap->Prop}{YP:World->Heap->Prop}{d:DefRec}{dns:List DefRec}{K:Params->PySem.W.Frag}{CX:Lg}{sp:List Addr->PySem.W.Frag->Sp}{x:Str}{nms:List Str}
 (hn:l.most=some n)(hn2:n<=sizeLine)(hdf:d.params.defaults=[])(hr:B6 k callerA)
 (hY:∀(w:World) (h:Heap),YP w h->(K w.params).In h)(hfind:Mw (λnm dn=>(recsOf q).find? (λe=>e.name==nm)=some dn) nms dns)(hnt:∀w:World,noTabs (K w.params)=true)
 (F:∀(w:World) (mg:Str->Option Value) (fa:Addr) (h:Heap),(K w.params).In h->h.Ns mainGlobals mg->mg d.name=some (.ref fa)->
  ∃fd:FuncData,(∀(s:Shared) (u:Value),BindsTo s fd ⟨[u],[]⟩ [(x,u)])/\
   ∀(Ts:List Addr) (base:Heap),(K w.params).In base->base.Ns mainGlobals mg->Mw (TabAt base mg) nms Ts->Ef l.prog w (K w.params) mg base CX k fa fd [x] (sp Ts (K w.params)))
 (hsp:∀(K:PySem.W.Frag) (Ts:List Addr) (H:Hp) (a:Addr) (ns:List Int),ns.length<=n->Ts.length=nms.length->(∀T∈Ts,H T=some (.tbl #[]))->Am K H a (ns.map V.int)->sp Ts K [.ref a] H (λv _=>v=.bl true) λ_ _ _=>False)
 (hCX:∀(H:Hp) (s:Shared) (e:Value) (s':Shared),CX [] H s (λ_ _ _=>False) e s'->False):
 PySem.W.WalkO q loose XP YP l.row.toRowW d [] (λf vs=>PySem.call f vs):=by
 refine Att.JD hn hdf λw s₀ s₁ mg mb fa o pm cd doc a vs ns G Y ho hd hcd hmg hobj hints hlen hg=>?_
 have KX:=hY w _ Y
 obtain⟨fd,hb,hF⟩:=F w mg fa _ KX G.T.g hmg
 have all:∀{nms:List Str} {dns:List DefRec},Mw (λnm dn=>(recsOf q).find? (λe=>e.name==nm)=some dn) nms dns->∃Ts:List Addr,Mw (TabAt s₁.heap mg) nms Ts/\Ts.length=nms.length/\(∀T∈Ts,s₁.heap.get? T=some (tabObj #[]))/\∀T∈Ts,isCodeTable s₁.heap T:=by
  intro nms dns hf
  induction hf with
  |nil=>exact⟨[],.nil,rfl,λT h=>(by simp at h),λT h=>(by simp at h)⟩
  |@cons nm dn _ _ hfind _ ih=>
   obtain⟨Ts,i1,i2,i3,i4⟩:=ih
   have en:dn.name=nm:=beq_iff_eq.mp (List.find?_some (p:=λe:DefRec=>e.name==nm) hfind)
   obtain⟨f,o',fd',c,T,t1,t2,t3,t4,t5,t6⟩:=G.T.tab dn (List.mem_of_find?_eq_some hfind)
   rw[en]at t1
   obtain⟨bm,ob,b1,b2,b3,b4,b5,b6⟩:=G.T.bmain
   have hbP:bm≠T:=λq=>by
    have e:=b3
    rw[q,t6.2]at e;cases e;cases b4
   have hbG:bm≠mainGlobals:=λq=>by
    obtain⟨o,es,ep,e,hd,_⟩:=G.T.g
    rw[q,e]at b3;cases b3;rw[hd]at b6;cases b6
   refine⟨T::Ts,.cons ⟨⟨f,o',fd',c,t1,t2,t3,t4,CodeHd.of t5 t6⟩,bm,ob,b1,b2,hbG,hbP,b3,b4,b5,b6⟩ i1,by simp[i2],λT' h=>?_,λT' h=>?_⟩
   ·rcases List.mem_cons.mp h with z|z
    ·rw[z];exact t6.2
    ·exact i3 T' z
   ·rcases List.mem_cons.mp h with z|z
    ·rw[z];exact t6.isCodeTable
    ·exact i4 T' z
 obtain⟨Ts,i1,i2,i3,i4⟩:=all hfind
 exact Mx (nms:=nms) (Ts:=Ts) KX G.T.g G.T.b G.T.builtins G.T.nolimit hg hobj hints (Nat.le_trans hlen hn2) hr i3 i4 i1 (hnt w)
  (λbase h1 h2 h3=>hF Ts base h1 h2 h3) hb (λH hH hS=>hsp (K w.params) Ts H a ns hlen i2 hH hS) λH e s'=>hCX H s₁ e s'
end L2
namespace L2
open PySem PySem.Spec PyProof.Rows PySem.W
theorem Df.TB {P:Program}{w:World}{K:PySem.W.Frag}{mg:Str->Option Value}{base:Heap}{T:Addr}{x:Str}{st:Stmt}{N ps:List Str}{k:Nat}{sp:Sp}(D:Df K mg x st)(kb:K.In base)(TA:TabAt base mg x T)(S:AW N ps (AJ st))
 (hb:∀(kV doc pm:Value) (an:Option Addr) (cdv ct:Value) (us:List Value),us.length=ps.length->bindArgs (PySem.W.fnOf x x (Cq st) (Bw st) (AJ st) .none kV doc pm an cdv ct) ⟨us,[]⟩=pure (ps.zip us))
 (len:∀vs H Q E,sp vs H Q E->vs.length=ps.length)
 (hbody:∀(f c:Addr) (A:Around) (outer:List Env) (s:Shared) (H:Hp) (vs:List V) (Q:VK) (E:XK),CodeHd base c T->B6 k (A.deeper (envOfC x (AJ st) s.heap.objs.size f (.ref c)))->sp vs H Q E->
  ∃t,Iq (Bp CX0 P w K mg base N x (AJ st) f (.ref c) A outer s H E).Ft (Bw st) t/\t { nx:=λ_ H'=>Q .A3 H',rt:=Q } (start N vs) H):Bb P w K mg base x (k+1) ps sp:=by
 obtain⟨f,fd,F,m⟩:=D
 have bd:=F.binds hb
 have kp:=F.kp
 obtain⟨oc,od,kV,doc,pm,an,cdv,ct,osl,e,lk,hcd⟩:=F.ex
 obtain⟨a,o,fd',c,t1,t2,t3,t4,t5⟩:=TA.fn
 have ea:=m.symm.trans t1
 cases ea
 have eo:=kb f _ lk
 rw[t2]at eo
 cases eo
 cases t3
 subst e
 have ec:cdv=.ref c:=t4
 subst ec
 refine⟨f,_,Nn lk hcd S len λA outer s H vs Q E hr hsp=>?_,bd,kp,m⟩
 obtain⟨t,h,q⟩:=hbody f c A outer s H vs Q E t5 hr hsp
 exact⟨t,h.Ft,q⟩
theorem Eo {X:Cx}(K:PySem.W.Frag)(hK:X.K=K:=by rfl):SQ X (Sv K):=by
 subst hK;exact Ap
theorem Ep {X:Cx}(K:PySem.W.Frag)(hK:X.K=K:=by rfl):Bs X (.builtin "isinstance") (λvs H Q=>∃x t T b,vs=[x,V.ty T]/\DX K H x t/\PySem.W.kitOne K t (Value.type T)=some b/\Q (V.bl b) H):=by
 subst hK;exact Ba
theorem OI {n:Nat}{K:Nat->List V}{sh:List Nat}(k:FL n K sh){p q:List Nat}(hp:p.Perm (List.range n))(hq:q.Perm (List.range n))(rp:∀i j,i < j->j < n->A8 (K (p.getD j 0)) (K (p.getD i 0))=false)
 (rq:∀i j,i < j->j < n->A8 (K (q.getD j 0)) (K (q.getD i 0))=false):p=q:=by
 have pw:∀{r:List Nat},r.Perm (List.range n)->(∀i j,i < j->j < n->A8 (K (r.getD j 0)) (K (r.getD i 0))=false)->r.Pairwise (λa b=>A8 (K b) (K a)=false):=λ{r} hr h=>by
  have ln:r.length=n:=by have:=hr.length_eq;simpa using this
  rw[List.pairwise_iff_getElem]
  intro i j hi hj hij
  have:=h i j hij (by omega)
  rw[List.getD_eq_getElem?_getD,List.getD_eq_getElem?_getD,List.getElem?_eq_getElem hi,List.getElem?_eq_getElem hj]at this
  exact this
 refine(hp.trans hq.symm).eq_of_pairwise (λa b ha hb h1 h2=>?_) (pw hp rp) (pw hq rq)
 exact k.inj a b (List.mem_range.mp (hp.mem_iff.mp ha)) (List.mem_range.mp (hq.mem_iff.mp hb)) (En _ _ ((k.shp a).trans (k.shp b).symm) (by rw[k.shp];exact k.z) h2 h1)
end L2
namespace L2
open PySem PySem.Spec PyProof.Rows PySem.W
section
variable {X:Cx}{k:Nat}
theorem D5:bootBuiltins "repr"=some (.builtin "repr"):=by kernel_rfl
theorem CL (K:PySem.W.Frag)(hK:X.K=K:=by rfl):SQ X (Sw K):=by
 subst hK;exact Aj
end
end L2
namespace L2
open PySem PySem.Spec PyProof.Rows PySem.W
theorem Am.TC {K:PySem.W.Frag}{H H1:Hp}{q:Addr}{xs:List V}(h:Am K H q xs)(s:AG H H1):Am K H1 q xs:=by
 rcases h with(h|⟨ob,h⟩)|h
 ·exact .inl (.inl (s _ _ h))
 ·exact .inl (.inr ⟨ob,s _ _ h⟩)
 ·exact .inr h
end L2
namespace L2
open PySem PySem.Spec PyProof.Rows PySem.W
section
variable {X:Cx}
abbrev My (lo:Int)(n:Nat):List V:=(List.range n).map λi:Nat=>V.int (lo+(i:Int))
theorem OJ {lo:Int}{n:Nat}{acc:Array Value}(hacc:ItemsOf (λi v=>∃t,v=.int (lo+i*1) t) acc n):Vals (My lo n) acc.toList:=by
 have la:acc.toList.length=n:=by rw[Array.length_toList];exact hacc.1
 refine IP (by rw[List.length_map,List.length_range,la]) ?_
 intro i x u hx' hu
 rw[List.getElem?_map]at hx'
 cases e1:(List.range n)[i]? with
 |none=>rw[e1]at hx';cases hx'
 |some j=>
  rw[e1]at hx'
  have ej:j=i:=by
   obtain⟨a,b⟩:=List.getElem?_eq_some_iff.mp e1
   rw[List.getElem_range]at b;exact b.symm
  subst ej
  cases hx'
  obtain⟨tt,e2⟩:=hacc.2 j u (by rw[<-Array.getElem?_toList];exact hu)
  rw[Int.mul_one]at e2
  exact⟨tt,e2⟩
end
end L2
namespace L2
open PySem PySem.Spec PyProof.Rows
def DI (X:Cx)(scope:Scope)(NL:List Str)(ix:List Nat)(cl:List (Str×Addr))(C:Addr)(s₃:Shared)(H₃:Hp)(fp:List Addr)(pins:List (Addr×Obj)):Cx where
 prog:=X.prog
 w:=X.w
 K:=X.K
 mg:=X.mg
 base:=X.base
 A:=X.A
 N:=NL++ix.map λj=>X.N.getD j ""
 s₀:=s₃
 H₀:=H₃
 env:=compEnvC scope cl C X.env
 outer:=X.stack
 stack:=X.stack
 ex:=fp
 fn:=λx=>scope.names.lookup x==some .cell
 calm:=X.calm
 pn:=X.pn++pins
 xe:=λ_ _=>False
structure D6 (X:Cx)(scope:Scope)(NL:List Str)(ix:List Nat):Prop where
 kind:scope.kind=.function
 nodup:(scope.names.map (·.1)).Nodup
 cells:∀y∈scope.names,y.2=.cell->scope.names.lookup y.1=some .cell
 names:∀y∈scope.names,y.2=.local->scope.names.lookup y.1=some .local
 free:∀y∈scope.names,y.2=.free->X.env.kindOf y.1=some .cell\/X.env.kindOf y.1=some .free
 cap:∀j∈ix,∃x,X.N[j]?=some x/\scope.names.lookup x=some .free
theorem UZ {X:Cx}{scope:Scope}{NL:List Str}{ix:List Nat}(esc:Scope)(N:List Str)(h1:X.env.scope=esc:=by rfl)(h2:X.N=N:=by rfl)(c1:scope.kind=.function:=by rfl)
 (c0:(scope.names.map (·.1)).Nodup:=by decide+kernel)(c2:∀y∈scope.names,y.2=.cell->scope.names.lookup y.1=some .cell:=by decide+kernel)(c3:∀y∈scope.names,y.2=.local->scope.names.lookup y.1=some .local:=by decide+kernel)
 (c4:∀y∈scope.names,y.2=.free->esc.names.lookup y.1=some .cell\/esc.names.lookup y.1=some .free:=by decide+kernel)
 (c5:∀j∈ix,(N[j]?).bind (λx=>scope.names.lookup x)=some .free:=by decide+kernel):D6 X scope NL ix where
 kind:=c1
 nodup:=c0
 cells:=c2
 names:=c3
 free:=λy hy hf=>by
  have:=c4 y hy hf
  rw[<-h1]at this
  exact this
 cap:=λj hj=>by
  have:=c5 j hj
  rw[h2]
  cases e:N[j]? with
  |none=>rw[e]at this;cases this
  |some x=>rw[e]at this;exact⟨x,rfl,this⟩
theorem GK {M:Model}{A:Around}{E:Value->Shared->Prop}{f:(Str×NameKind)->List (Str×Addr)->Sem (ForInStep (List (Str×Addr)))}
 (h1:∀x k cs,k≠NameKind.cell->f (x,k) cs=pure (.yield cs))(h2:∀x cs,f (x,NameKind.cell) cs=(do let c<-alloc { cls:=Value.type "cell",data:=Data.cell none };pure (.yield ((x,c)::cs)))):
 ∀(names:List (Str×NameKind)) (acc:List (Str×Addr)) (s:Shared) (Q:List (Str×Addr)->Shared->Prop),(names.map (·.1)).Nodup->
  (∀(h':Heap) (cl':List (Str×Addr)),s.heap.objs.size<=h'.objs.size->(∀b o,s.heap.get? b=some o->h'.get? b=some o)->
   (∀x c,cl'.lookup x=some c->acc.lookup x=some c\/((x,NameKind.cell)∈names/\s.heap.objs.size<=c/\h'.IsCell c none))->
   (∀x c,acc.lookup x=some c->∃c',cl'.lookup x=some c')->(∀x,(x,NameKind.cell)∈names->∃c,cl'.lookup x=some c/\s.heap.objs.size<=c)->
   (∀x y c,cl'.lookup x=some c->cl'.lookup y=some c->s.heap.objs.size<=c->(acc.lookup x=some c\/acc.lookup y=some c)\/x=y)->Q cl' { s with heap:=h' })->
  wpAny M A (forIn names acc f) Q E s
 |[],acc,s,Q,_,h=>by
  refine wpAny_pure ?_
  exact h s.heap acc (Nat.le_refl _) (λ_ _ e=>e) (λx c e=>.inl e) (λx c e=>⟨c,e⟩) (λx hx=>nomatch hx) (λx y c e _ _=>.inl (.inl e))
 |(x,k)::r,acc,s,Q,nd,h=>by
  rw[List.map_cons,List.nodup_cons]at nd
  rw[List.forIn_cons]
  by_cases hk:k=NameKind.cell
  ·subst hk
   rw[h2]
   refine wpAny_bind (wpAny_bind (wpAny_alloc (wpAny_pure ?_)))
   have sz:(s.heap.push { cls:=Value.type "cell",data:=Data.cell none }).objs.size=s.heap.objs.size+1:=Heap.size_push ..
   refine GK h1 h2 r _ _ Q nd.2 λh' cl' z0 z1 z2 z3 z4 z5=>?_
   have lt2:∀{c:Nat},(s.heap.push { cls:=Value.type "cell",data:=Data.cell none }).objs.size<=c->s.heap.objs.size < c:=λ{c} z=>by rw[sz]at z;exact z
   have hcell:h'.IsCell s.heap.objs.size none:=⟨_,z1 _ _ (Heap.get?_push_size _ rfl),rfl⟩
   refine h h' cl' (Nat.le_of_lt (lt2 z0)) (λb o e=>z1 _ _ (Heap.get?_push_of_some _ e)) (λy c e=>?_) (λy c e=>?_) (λy hy=>?_) (λy y' c e e' hc=>?_)
   ·rcases z2 y c e with w|⟨w1,w2,w3⟩
    ·rw[List.lookup_cons]at w
     cases q:y==x with
     |true=>
      rw[q]at w;cases w
      have:y=x:=eq_of_beq q
      subst this
      exact .inr ⟨List.mem_cons_self,Nat.le_refl _,hcell⟩
     |false=>rw[q]at w;exact .inl w
    ·exact .inr ⟨List.mem_cons_of_mem _ w1,Nat.le_of_lt (lt2 w2),w3⟩
   ·have:∃c0,((x,s.heap.objs.size)::acc).lookup y=some c0:=by
     rw[List.lookup_cons]
     cases q:y==x with
     |true=>exact⟨_,rfl⟩
     |false=>exact⟨c,e⟩
    obtain⟨c0,e0⟩:=this
    exact z3 y c0 e0
   ·rcases List.mem_cons.mp hy with w|w
    ·cases w
     have e0:((x,s.heap.objs.size)::acc).lookup x=some s.heap.objs.size:=by rw[List.lookup_cons,beq_self_eq_true]
     obtain⟨c',e'⟩:=z3 x _ e0
     refine⟨c',e',?_⟩
     rcases z2 x c' e' with w|⟨_,w2,_⟩
     ·rw[e0]at w;cases w;exact Nat.le_refl _
     ·exact Nat.le_of_lt (lt2 w2)
    ·obtain⟨c,e,w2⟩:=z4 y w
     exact⟨c,e,Nat.le_of_lt (lt2 w2)⟩
   ·rcases Nat.lt_or_ge s.heap.objs.size c with lt|ge
    ·rcases z5 y y' c e e' (by show(s.heap.push _).objs.size<=c;rw[sz];exact lt)with(w|w)|w
     ·rw[List.lookup_cons]at w
      cases q:y==x with
      |true=>rw[q]at w;cases w;exact absurd lt (Nat.lt_irrefl _)
      |false=>rw[q]at w;exact .inl (.inl w)
     ·rw[List.lookup_cons]at w
      cases q:y'==x with
      |true=>rw[q]at w;cases w;exact absurd lt (Nat.lt_irrefl _)
      |false=>rw[q]at w;exact .inl (.inr w)
     ·exact .inr w
    ·have ec:c=s.heap.objs.size:=Nat.le_antisymm ge hc
     have one:∀z,cl'.lookup z=some c->acc.lookup z=some c\/z=x:=λz ez=>by
      rcases z2 z c ez with w|⟨_,w2,_⟩
      ·rw[List.lookup_cons]at w
       cases q:z==x with
       |true=>exact .inr (eq_of_beq q)
       |false=>rw[q]at w;exact .inl w
      ·exact absurd (lt2 w2) (Nat.not_lt.mpr ge)
     rcases one y e with w|w
     ·exact .inl (.inl w)
     ·rcases one y' e' with w'|w'
      ·exact .inl (.inr w')
      ·exact .inr (w.trans w'.symm)
  ·rw[h1 x k acc hk,pure_bind]
   refine GK h1 h2 r acc s Q nd.2 λh' cl' z0 z1 z2 z3 z4 z5=>h h' cl' z0 z1 (λy c e=>?_) z3 (λy hy=>?_) z5
   ·rcases z2 y c e with w|⟨w1,w2,w3⟩
    ·exact .inl w
    ·exact .inr ⟨List.mem_cons_of_mem _ w1,w2,w3⟩
   ·rcases List.mem_cons.mp hy with w|w
    ·cases w;exact absurd rfl hk
    ·exact z4 y w
theorem IQ {M:Model}{A:Around}{E:Value->Shared->Prop}{s:Shared}{scope:Scope}{g:Addr}{cl:List (Str×Addr)}{qual:Str}{env:Env}{Q:Env->Shared->Prop}(nd:(scope.names.map (·.1)).Nodup)
 (h:∀(h':Heap) (cl':List (Str×Addr)),h'.Ns s.heap.objs.size (λ_=>none)->(∀b o,s.heap.get? b=some o->h'.get? b=some o)->
  (∀x c,cl'.lookup x=some c->cl.lookup x=some c\/((x,NameKind.cell)∈scope.names/\s.heap.objs.size < c/\h'.IsCell c none))->
  (∀x c,cl.lookup x=some c->∃c',cl'.lookup x=some c')->(∀x,(x,NameKind.cell)∈scope.names->∃c,cl'.lookup x=some c/\s.heap.objs.size < c)->
  (∀x y c,cl'.lookup x=some c->cl'.lookup y=some c->s.heap.objs.size < c->(cl.lookup x=some c\/cl.lookup y=some c)\/x=y)->
  Q (newEnv scope s.heap.objs.size g cl' qual none .none (some env) builtinsNs) { s with heap:=h' }):
 wpAny M A (newFunctionEnv scope g cl [] qual none .none (some env)) Q E s:=by
 unfold newFunctionEnv
 refine wpAny_bind (wpAny_alloc ?_)
 have sz:(s.heap.push { cls:=Value.type "dict",data:=Data.dict #[] }).objs.size=s.heap.objs.size+1:=Heap.size_push ..
 refine wpAny_bind (GK (λx k cs hk=>?_) (λx cs=>?_) scope.names cl _ _ nd λh' cl' z0 z1 z2 z3 z4 z5=>?_)
 ·have:(k==NameKind.cell)=false:=by simpa using hk
  simp only[this,Bool.false_eq_true,if_false]
 ·simp only[beq_self_eq_true,if_true]
 have hsz:(s.heap.push { cls:=Value.type "dict",data:=Data.dict #[] }).objs.size=s.heap.objs.size+1:=sz
 have w2:∀c,(s.heap.push { cls:=Value.type "dict",data:=Data.dict #[] }).objs.size<=c↔s.heap.objs.size < c:=λc=>by rw[hsz];exact Iff.rfl
 have ns:h'.Ns s.heap.objs.size (λ_=>none):=⟨_,_,_,z1 _ _ (Heap.get?_push_size _ rfl),rfl,(by intro k hk;simp at hk),λ_=>rfl⟩
 simp only[List.forIn_nil,pure_bind]
 refine wpAny_pure ?_
 refine h h' cl' ns (λb o e=>z1 _ _ (Heap.get?_push_of_some _ e)) (λx c e=>?_) z3 (λx hx=>?_) (λx y c e e' hc=>z5 x y c e e' ((w2 c).mpr hc))
 ·rcases z2 x c e with w|⟨a,b,d⟩
  ·exact .inl w
  ·exact .inr ⟨a,(w2 c).mp b,d⟩
 ·obtain⟨c,e,w⟩:=z4 x hx
  exact⟨c,e,(w2 c).mp w⟩
section
variable {X:Cx}{pins:List (Addr×Obj)}{σ:St}{H:Hp}{s:Shared}
theorem OK {scope:Scope}{NL:List Str}{ix:List Nat}{cl:List (Str×Addr)}{fp:List Addr}{tn:Nat->Heap->Prop}{s₃:Shared}{h₁:Heap}{m:Str->Option Value}{tk:Nat}
 (S:D6 X scope NL ix)(I:Inv X pins σ H s₃)(c1:∀x c,cl.lookup x=some c->X.env.cells.lookup x=some c\/(scope.names.lookup x=some .cell/\s₃.heap.objs.size < c/\h₁.IsCell c none))(c2:∀x,scope.names.lookup x=some .free\/scope.names.lookup x=some .cell->∃c,cl.lookup x=some c)(c3:∀x c,scope.names.lookup x=some .cell->cl.lookup x=some c->s₃.heap.objs.size < c)(c4:∀x y c,cl.lookup x=some c->cl.lookup y=some c->s₃.heap.objs.size < c->x=y)
 (hf:∀b∈fp,Bn X pins H b)(ho:∀b∈fp,∃o,s₃.heap.get? b=some o)(hn:h₁.Ns s₃.heap.objs.size m)(old:∀b o,s₃.heap.get? b=some o->h₁.get? b=some o):
 Inv (DI X scope NL ix cl s₃.heap.objs.size s₃ H fp pins) [] (As NL ix σ) H { s₃ with heap:=h₁,toks:=tk }:=by
 have e0:=I.Nl
 have lt:∀b o,s₃.heap.get? b=some o->b≠s₃.heap.objs.size:=λb o e=>Nat.ne_of_lt (Heap.lt_size e)
 have nst:∀b,b≠X.env.locals->b∉X.fs->b∉ED X.stack:=λb h1 h2 h3=>(List.mem_cons.mp (I.DT b h3)).elim h1 h2
 have ok:(DI X scope NL ix cl s₃.heap.objs.size s₃ H fp pins).Ok:=
  { mod:=I.ok.mod
    kind:=S.kind
    glob:=I.ok.glob
    blt:=I.ok.blt
    above:=Nat.le_refl _
    inj:=λx y c h1 h2=>by
     rcases c1 x c h1 with z1|⟨_,z1,_⟩
     ·rcases c1 y c h2 with z2|⟨_,z2,_⟩
      ·exact I.ok.inj x y c z1 z2
      ·exact c4 x y c h1 h2 z2
     ·exact c4 x y c h1 h2 z1
    has:=λx hx=>by
     have hfree:scope.names.lookup x=some .free\/scope.names.lookup x=some .cell:=by
      rcases hx with hx|hx
      ·rcases BJ hx with q|⟨_,q⟩
       ·exact .inr q
       ·exact .inl q
      ·rcases BJ hx with q|⟨z,_⟩
       ·exact .inl q
       ·cases z
     exact c2 x hfree
    cab:=λx c z hx=>Nat.le_of_lt (c3 x c (eq_of_beq z) hx)
    hd:=I.ok.hd
    frames:=I.ok.frames
    stk:=.inl rfl
    exf:=λb hb=>⟨let⟨o,e⟩:=ho b hb;lt b o e,λx c hx=>by
     rcases c1 x c hx with z|⟨_,z,_⟩
     ·exact(hf b hb).2.2.2.2.1 x c z
     ·obtain⟨o,e⟩:=ho b hb
      exact λw=>by
       subst w
       exact Nat.lt_irrefl _ (Nat.lt_trans z (Heap.lt_size e))⟩
    bs:=I.bs
    bsz:=e0.bsz
    noex:=λb o e hb=>by
     rcases(hf b hb).2.2.2.1 with z|z
     ·exact I.ok.noex b o e z
     ·exact absurd (Nat.lt_of_lt_of_le (Heap.lt_size e) (Nat.le_trans I.ok.bsz z)) (Nat.lt_irrefl _)
    exfs:=λb hb=>nst b (hf b hb).2.1 (hf b hb).2.2.1
    Cz:=e0.Cz
    frf:=e0.frf }
 refine⟨ok,rfl,I.bare,Un.kept old,⟨m,hn,λi x v e1 e2 e3=>?_⟩,λx c e=>?_,I.hok.fresh (Nat.le_refl _),λx c e=>(c1 x c e).elim (λz=>I.freeC x c z) (λz=>I.hok.fresh (Nat.le_of_lt z.2.1)),λp hp=>?_,I.hok.kept old,?_⟩
 ·have hl:NL.length<=i:=by
   rcases Nat.lt_or_ge i NL.length with z|z
   ·exfalso
    unfold As at e2
    rw[List.getElem?_append_left (by simpa using z),List.getElem?_map]at e2
    cases q:NL[i]? with
    |none=>rw[q]at e2;cases e2
    |some y=>rw[q]at e2;cases e2
   ·exact z
  unfold As at e2
  rw[List.getElem?_append_right (by simpa using hl),List.length_map,List.getElem?_map]at e2
  change(NL++ix.map λj=>X.N.getD j "")[i]?=some x at e1
  rw[List.getElem?_append_right hl,List.getElem?_map]at e1
  cases q:ix[i - NL.length]? with
  |none=>rw[q]at e1;cases e1
  |some j=>
   rw[q]at e1 e2
   have e1':X.N.getD j ""=x:=Option.some.inj e1
   have e2':σ.getD j none=some v:=Option.some.inj e2
   obtain⟨x',hx',hfr⟩:=S.cap j (List.mem_of_getElem? q)
   have exx:x'=x:=by
    rw[<-e1',List.getD_eq_getElem?_getD,hx'];rfl
   subst exx
   have hσ:σ[j]?=some (some v):=by
    rw[List.getD_eq_getElem?_getD]at e2'
    cases z:σ[j]? with
    |none=>rw[z]at e2';cases e2'
    |some o=>rw[z]at e2';exact congrArg some e2'
   have kd:=S.free _ (lookup_mem hfr) rfl
   have vis:SN X.env.scope x':=by
    rcases kd with z|z
    ·exact .inr (.inl z)
    ·exact .inr (.inr z)
   obtain⟨m',hn',hl'⟩:=I.loc
   obtain⟨u,r,l⟩:=hl' j x' v hx' hσ vis
   refine⟨u,r,.inr ?_⟩
   have hk':(compEnvC scope cl s₃.heap.objs.size X.env).kindOf x'=some .cell\/(compEnvC scope cl s₃.heap.objs.size X.env).kindOf x'=some .free:=by
    rcases e3 with z|z|z
    ·rcases BJ z with w|⟨w,_⟩
     ·rw[hfr]at w;cases w
     ·cases w
    ·exact .inl z
    ·exact .inr z
   refine⟨hk',?_⟩
   obtain⟨c,hc⟩:=c2 x' (.inl hfr)
   have c1':X.env.cells.lookup x'=some c:=by
    rcases c1 x' c hc with z|⟨z,_⟩
    ·exact z
    ·rw[hfr]at z;cases z
   rcases l with⟨k,_⟩|⟨k,c',ec,o,ho',hd⟩
   ·rcases kd with z|z
    ·rw[k]at z;cases z
    ·rw[k]at z;cases z
   ·have:c'=c:=by
     have:=c1'
     rw[ec]at this
     exact Option.some.inj this
    subst this
    exact⟨c',hc,o,old _ _ ho',hd⟩
 ·rcases c1 x c e with z|⟨_,_,z⟩
  ·obtain⟨v,o,ho',hd⟩:=I.cell x c z
   exact⟨v,o,old _ _ ho',hd⟩
  ·exact⟨none,z⟩
 ·have hp':p∈X.pn++pins:=by
   rcases List.mem_append.mp hp with z|z
   ·exact z
   ·exact nomatch z
  obtain⟨e,n,ne,nf,d⟩:=I.pin p hp'
  exact⟨old _ _ e,n,lt _ _ e,nst _ ne nf,d⟩
 ·show(NL.map (λ_=>(none:Option V))++ix.map λj=>σ.getD j none).length=(NL++ix.map λj=>X.N.getD j "").length
  simp
theorem OL {scope:Scope}{NL:List Str}{ix:List Nat}{elt tg iter:Expr}{ifs:List Expr}{pos:Pos}{g:TG}{tt:TT}{te:TE}{cl:List (Str×Addr)}{fp:List Addr}{it:Addr}{tn:Nat->Heap->Prop}{J:It}{Q:VK}
 {E:Value->Shared->Prop}{RR:Value->Addr->Result->Shared->Prop}
 (hc:X.calm=true)(S:D6 X scope NL ix)(c1:∀x c,cl.lookup x=some c->X.env.cells.lookup x=some c)(c2:∀x,(x,NameKind.free)∈scope.names->∃c,cl.lookup x=some c)
 (hb:∀(cl:List (Str×Addr)) (C:Addr) (s₃:Shared) (H₃:Hp) (fp:List Addr) (pins:List (Addr×Obj)),PG (DI X scope NL ix cl C s₃ H₃ fp pins) tg g/\Ki (DI X scope NL ix cl C s₃ H₃ fp pins) ifs tt/\PE (DI X scope NL ix cl C s₃ H₃ fp pins) elt te)
 (I:Inv X pins σ H s)(T:Turn X.prog X.w X.K tg J fp it tn)(st:tn 0 s.heap)(hf:∀b∈fp,Bn X pins H b)
 (q:∀acc,H acc=none->∃W:Nat->Nat->List V->Hp->Prop,(∃m,W 0 m [] (upd H acc (.lst [])))/\
  ∀i m ys H2,W i m ys H2->H2 acc=some (.lst ys)/\ys.length < sizeLine/\
  ((J.stop i H2/\Q (.ref acc) H2)\/(J.go i H2/\∃N:List V->Hp->Prop,(∀ys' H',N ys' H'->∃m',m' < m/\W (i+1) m' ys' H')/\
    ∀x H3,J.yld i H2 x H3->g x (As NL ix σ) H3 λσ' H4=>σ'.drop NL.length=ix.map (λj=>σ.getD j none)/\tt σ' H4 λb H5=>
     if b=true then te σ' H5 λv H6=>H6 acc=some (.lst ys)/\N (ys++[v]) (upd H6 acc (.lst (ys++[v])))else N ys H5)))
 (hRR:∀(acc C:Addr) (H':Hp) (s':Shared) (m':Str->Option Value),Inv X pins σ H' s'->s'.heap.Ns C m'->Bn X pins H' C->Q (.ref acc) H'->RR (.ref acc) C (.ok .next) s'):
 wpAny (model X.prog X.w) X.A (newList []) (λacc s₃=>wpAny (model X.prog X.w) X.A (newFunctionEnv scope X.env.globals cl [] X.env.qual none .none (some X.env)) (λcenv s₄=>
  codeAny (model X.prog X.w) X.A (.compStart (.ListComp elt [⟨tg,iter,ifs,0⟩] scope pos) 0 (.ref it) acc { cenv with scope:=relabel scope X.env }) (RR acc cenv.locals) s₄) E s₃) E s:=by
 refine wpAny_newObj_type (IQ S.nodup λh₁ cl' hns₁ hold₁ f1 f2 f3 f4=>?_)
 have I3:Inv X pins σ (upd H s.heap.objs.size (.lst [])) { s with heap:=s.heap.push { cls:=.type "list",data:=.seq ([]:List Value).toArray },toks:=s.toks }:=I.Ny (its:=[]) .nil (Nat.zero_le _)
 have hfr:H s.heap.objs.size=none:=I.hok.fresh (Nat.le_refl _)
 generalize hs3:({ s with heap:=s.heap.push { cls:=.type "list",data:=.seq ([]:List Value).toArray },toks:=s.toks }:Shared)=s₃ at I3
 have hsz:s₃.heap.objs.size=s.heap.objs.size+1:=by rw[<-hs3];exact Heap.size_push ..
 have old1:∀b o,s.heap.get? b=some o->s₃.heap.get? b=some o:=λb o e=>by rw[<-hs3];exact Heap.get?_push_of_some _ e
 have key:codeAny (model X.prog X.w) X.A (.compStart (.ListComp elt [⟨tg,iter,ifs,0⟩] scope pos) 0 (.ref it) (.ref s.heap.objs.size) (compEnvC scope cl' s₃.heap.objs.size X.env))
  (RR (.ref s.heap.objs.size) s₃.heap.objs.size) { s₃ with heap:=h₁ }:=by
  have hns:h₁.Ns s₃.heap.objs.size (λ_=>none):=by
   have:=hns₁
   rw[<-hs3]
   exact this
  have old:∀b o,s₃.heap.get? b=some o->h₁.get? b=some o:=λb o e=>hold₁ b o (by rw[<-hs3]at e;exact e)
  have fsz:(s.heap.push { cls:=.type "list",data:=.seq ([]:List Value).toArray }).objs.size=s₃.heap.objs.size:=by rw[<-hs3]
  have g1:∀x c,cl'.lookup x=some c->X.env.cells.lookup x=some c\/(scope.names.lookup x=some .cell/\s₃.heap.objs.size < c/\h₁.IsCell c none):=λx c hx=>by
   rcases f1 x c hx with z|⟨z1,z2,z3⟩
   ·exact .inl (c1 x c z)
   ·exact .inr ⟨S.cells _ z1 rfl,by rw[<-fsz];exact z2,z3⟩
  have g2:∀x,scope.names.lookup x=some .free\/scope.names.lookup x=some .cell->∃c,cl'.lookup x=some c:=λx hx=>by
   rcases hx with hx|hx
   ·obtain⟨c,hc⟩:=c2 x (lookup_mem hx)
    exact f2 x c hc
   ·obtain⟨c,hc,_⟩:=f3 x (lookup_mem hx)
    exact⟨c,hc⟩
  have g3:∀x c,scope.names.lookup x=some .cell->cl'.lookup x=some c->s₃.heap.objs.size < c:=λx c hx hc=>by
   obtain⟨c',hc',z⟩:=f3 x (lookup_mem hx)
   rw[hc]at hc';cases hc'
   rw[<-fsz];exact z
  have g4:∀x y c,cl'.lookup x=some c->cl'.lookup y=some c->s₃.heap.objs.size < c->x=y:=λx y c h1 h2 h3=>by
   have bad:∀x,cl.lookup x=some c->False:=λx hx=>by
    obtain⟨v,o,e,_⟩:=I3.cell x c (c1 x c hx)
    exact Nat.lt_irrefl _ (Nat.lt_trans h3 (Heap.lt_size e))
   rcases f4 x y c h1 h2 (by rw[fsz];exact h3)with(z|z)|z
   ·exact(bad x z).elim
   ·exact(bad y z).elim
   ·exact z
  have hf3:∀b∈fp,Bn X pins (upd H s.heap.objs.size (.lst [])) b:=λb hb'=>by
   obtain⟨o,e,_⟩:=T.obj 0 _ st b hb'
   have ne:b≠s.heap.objs.size:=Nat.ne_of_lt (Heap.lt_size e)
   exact⟨by rw[AH ne];exact(hf b hb').1,(hf b hb').2⟩
  have ho3:∀b∈fp,∃o,s₃.heap.get? b=some o:=λb hb'=>by
   obtain⟨o,e,_⟩:=T.obj 0 _ st b hb'
   exact⟨o,old1 b o e⟩
  have st1:tn 0 h₁:=T.keep 0 _ _ st λb hb' o e=>old b o (old1 b o e)
  have I4:=OK (tn:=tn) (tk:=s₃.toks) S I3 g1 g2 g3 g4 hf3 ho3 hns old
  obtain⟨W,⟨m0,w0⟩,turn⟩:=q s.heap.objs.size hfr
  obtain⟨hg,ht,he⟩:=hb cl' s₃.heap.objs.size s₃ (upd H s.heap.objs.size (.lst [])) fp pins
  generalize hX':DI X scope NL ix cl' s₃.heap.objs.size s₃ (upd H s.heap.objs.size (.lst [])) fp pins=X' at I4 hg ht he
  have p1:X'.prog=X.prog:=by rw[<-hX'];rfl
  have p2:X'.w=X.w:=by rw[<-hX'];rfl
  have p3:X'.K=X.K:=by rw[<-hX'];rfl
  have p4:X'.A=X.A:=by rw[<-hX'];rfl
  have p5:X'.env=compEnvC scope cl' s₃.heap.objs.size X.env:=by rw[<-hX'];rfl
  have p6:X'.calm=true:=by rw[<-hX'];exact hc
  have p7:X'.xe=λ_ _=>False:=by rw[<-hX'];rfl
  have stat:∀{H':Hp},(∀b∈fp,H' b=none)->∀b∈fp,Bn X' [] H' b:=λ{H'} hn b hb'=>by
   have z:=hf3 b hb'
   obtain⟨o,eo⟩:=ho3 b hb'
   rw[<-hX']
   refine⟨hn b hb',Nat.ne_of_lt (Heap.lt_size eo),λq=>(List.mem_cons.mp (I3.DT b q)).elim z.2.1 z.2.2.1,.inl hb',λx c hx=>(g1 x c hx).elim (λy=>z.2.2.2.2.1 x c y) (λy w=>by subst w;exact Nat.lt_irrefl _ (Nat.lt_trans y.2.1 (Heap.lt_size eo))),λp hp=>?_⟩
   rcases List.mem_append.mp hp with w|w
   ·exact z.2.2.2.2.2 p w
   ·exact nomatch w
  have fin:∀i n ys H' s',Inv X' [] (As NL ix σ) H' s'->W i n ys H'->Q (.ref s.heap.objs.size) H'->RR (.ref s.heap.objs.size) s₃.heap.objs.size (.ok .next) s':=λi n ys H' s' I' w' q'=>by
   obtain⟨m',hn',_⟩:=I'.loc
   have hos:s'.os=s₃.os:=by have:=I'.os;rw[<-hX']at this;exact this
   have hu:Un (ED X.stack) fp (upd H s.heap.objs.size (.lst [])) H' s₃.heap s'.heap:=by have:=I'.base;rw[<-hX']at this;exact this
   have hk:DQ X.prog X.w H' s'.heap:=by have:=I'.hok;rw[<-hX']at this;exact this
   have hfC:H' s₃.heap.objs.size=none:=by have:=I'.free;rw[<-hX']at this;exact this
   have hnC:s'.heap.Ns s₃.heap.objs.size m':=by rw[p5]at hn';exact hn'
   exact hRR _ _ H' s' m' (I3.Nc hos hu hk I'.bare λb hb'=>⟨(hf3 b hb').2.2.2.1,(hf3 b hb').2.1,(hf3 b hb').2.2.2.2.1,(hf3 b hb').2.2.2.2.2⟩) hnC (I3.Fl (Nat.le_refl _) hfC) q'
  have loop:∀s₄:Shared,Inv X' [] (As NL ix σ) (upd H s.heap.objs.size (.lst [])) s₄->tn 0 s₄.heap->codeAny (model X.prog X.w) X.A (.compLoop (.ListComp elt [⟨tg,iter,ifs,0⟩] scope pos) 0 (.ref it) (.ref s.heap.objs.size) (compEnvC scope cl' s₃.heap.objs.size X.env))
   (RR (.ref s.heap.objs.size) s₃.heap.objs.size) s₄:=λs₄ I4 st1=>by
   refine codeAny_loop rfl (λn s'=>∃i ys H',Inv X' [] (As NL ix σ) H' s'/\tn i s'.heap/\(∀b∈fp,H' b=none)/\W i n ys H') (λn s' hI=>?_) m0 ⟨0,[],_,I4,st1,λb hb'=>(hf3 b hb').1,w0⟩
   obtain⟨i,ys,H',I',st',fr',w'⟩:=hI
   show wpAny _ X.A ((compTurn (.ListComp elt [⟨tg,iter,ifs,0⟩] scope pos) 0 (.ref it) (.ref s.heap.objs.size) (compEnvC scope cl' s₃.heap.objs.size X.env)).onRaise (λx=>do noteFrame x (compEnvC scope cl' s₃.heap.objs.size X.env);theTreesLotGoes x)) _ _ s'
   refine wpAny_noted ?_
   rw[compTurn_list]
   obtain⟨hacc,hz8,alt⟩:=turn i n ys H' w'
   rcases alt with⟨stop,qn⟩|⟨go,N,hN,step⟩
   ·have d:=T.done X' p1 p2 p3 p6 i [] s' (As NL ix σ) H' (notedBy (model X.prog X.w) X.A (compEnvC scope cl' s₃.heap.objs.size X.env) λe s'=>RR (.ref s.heap.objs.size) s₃.heap.objs.size (.error e) s') I' (stat fr') st' stop
    rw[p4]at d
    refine wpAny_bind (wpAny_standAt (wpAny_bind (BG d λr s1 ⟨hr,I1⟩=>?_)))
    subst hr
    exact wpAny_pure (fin i n ys H' s1 I1 w' qn)
   ·have d:=T.item X' p1 p2 p3 p6 i [] s' (As NL ix σ) H' (notedBy (model X.prog X.w) X.A (compEnvC scope cl' s₃.heap.objs.size X.env) λe s'=>RR (.ref s.heap.objs.size) s₃.heap.objs.size (.error e) s') I' (stat fr') st' go
    rw[p4]at d
    refine wpAny_bind (wpAny_standAt (wpAny_bind (BG d λr s1 ⟨u,hr,h4⟩=>?_)))
    subst hr
    refine wpAny_bind (BG h4 λ_ s5 ⟨x,H5,I5,r5,y5,st5,fr5⟩=>?_)
    have I5':=I5.pinned (stat fr5) (T.obj _ _ st5)
    have nofail:∀{α:Type} {t:Sem α} {R:α->Shared->Prop} {sx:Shared},wpAny (model X'.prog X'.w) X'.A t R X'.xe sx->wpAny (model X.prog X.w) X.A t R (notedBy (model X.prog X.w) X.A (compEnvC scope cl' s₃.heap.objs.size X.env) λe s'=>RR (.ref s.heap.objs.size) s₃.heap.objs.size (.error e) s') sx:=λ{α t R sx} hh=>by
     rw[p1,p2,p4,p7]at hh
     exact wpAny_mono hh (λ_ _ z=>z) λ_ _ z=>z.elim
    have again:∀{σ7:St} {H7:Hp} {s7:Shared} {ys':List V},σ7.drop NL.length=ix.map (λj=>σ.getD j none)->Inv X' ([]++DW fp s5.heap) σ7 H7 s7->(∃m',m' < n/\W (i+1) m' ys' H7)->∃m,m < n/\∃i ys H',Inv X' [] (As NL ix σ) H' s7/\tn i s7.heap/\(∀b∈fp,H' b=none)/\W i m ys H':=λ{σ7 H7 s7 ys'} hσ I7 n7=>by
     obtain⟨m',hm,w7⟩:=n7
     have Iw:Inv X' ([]++DW fp s5.heap) (As NL ix σ) H7 s7:=I7.weak (by rw[I7.len,I'.len]) λj v hj=>by
      have hlj:NL.length<=j:=by
       rcases Nat.lt_or_ge j NL.length with z|z
       ·exfalso
        unfold As at hj
        rw[List.getElem?_append_left (by simpa using z),List.getElem?_map]at hj
        cases q:NL[j]? with
        |none=>rw[q]at hj;cases hj
        |some y=>rw[q]at hj;cases hj
       ·exact z
      unfold As at hj
      rw[List.getElem?_append_right (by simpa using hlj),List.length_map,<-hσ,List.getElem?_drop]at hj
      rw[<-hj]
      congr 1
      omega
     refine⟨m',hm,i+1,ys',H7,Iw.Cf,T.keep _ _ _ st5 λb hb' o e=>(I7.pin (b,o) (List.mem_append_right _ (List.mem_append_right _ (CD hb' e)))).1,λb hb'=>?_,w7⟩
     obtain⟨o,e,d⟩:=T.obj _ _ st5 b hb'
     exact(I7.pin (b,o) (List.mem_append_right _ (List.mem_append_right _ (CD hb' e)))).2.1
    have hg':=nofail (hg _ s5 (As NL ix σ) H5 x u _ I5' r5 (step x H5 y5))
    rw[p5]at hg'
    refine wpAny_bind (BG hg' λ_ s6 ⟨σ6,H6,I6,hσ6,q6⟩=>?_)
    have ht':=nofail (ht _ s6 σ6 H6 _ I6 q6)
    rw[p5]at ht'
    refine wpAny_bind (BG ht' λok s7 ⟨H7,I7,q7⟩=>?_)
    cases ok with
    |false=>
     have q7':N ys H7:=by simpa using q7
     exact wpAny_pure ⟨rfl,again hσ6 I7 (hN _ _ q7')⟩
    |true=>
     have q7':=(if_pos rfl).mp q7
     have he':=nofail (he _ s7 σ6 H7 _ I7 q7')
     rw[p5]at he'
     refine wpAny_bind (wpAny_bind (BG he' λv s8 ⟨y,H8,I8,r8,ha8,q8⟩=>?_))
     have ap:=nofail (BM _ s8 σ6 H8 (.ref s.heap.objs.size) [y] (.ref s.heap.objs.size) [v] (λ_ H9=>H9=upd H8 s.heap.objs.size (.lst (ys++[y]))) I8 rfl (.cons r8 .nil) ⟨_,ys,y,rfl,rfl,ha8,hz8,rfl⟩)
     refine wpAny_bind (BG ap λ_ s9 ⟨z,H9,I9,r9,e9⟩=>wpAny_pure (wpAny_pure ⟨rfl,?_⟩))
     subst e9
     exact again hσ6 I9 (hN _ _ q8)
  exact codeAny_compStart_list (loop _ I4 st1) (T.self X.A 0 _ _ _ st1 (loop _ I4 st1))
 exact key
theorem OM {scope:Scope}{NL:List Str}{ix:List Nat}{elt tg iter:Expr}{ifs:List Expr}{pos:Pos}{wi:TI}{g:TG}{tt:TT}{te:TE}
 (hc:X.calm=true)(hi:PI X tg iter wi)(S:D6 X scope NL ix)
 (hb:∀(cl:List (Str×Addr)) (C:Addr) (s₃:Shared) (H₃:Hp) (fp:List Addr) (pins:List (Addr×Obj)),PG (DI X scope NL ix cl C s₃ H₃ fp pins) tg g/\Ki (DI X scope NL ix cl C s₃ H₃ fp pins) ifs tt/\PE (DI X scope NL ix cl C s₃ H₃ fp pins) elt te)
 (hs:∀x,foldedSetIterable iter X.env x=pure x:=by intro _;rfl):PE X (.ListComp elt [⟨tg,iter,ifs,0⟩] scope pos) (N0 NL ix wi g tt te):=by
 intro pins s σ H Q I h
 obtain⟨cl,hcl,c1,c2⟩:=DE (scope:=scope) (env:=X.env) λx hx=>by
  rcases S.free _ hx rfl with z|z
  ·exact I.ok.has x (.inl z)
  ·exact I.ok.has x (.inr z)
 rw[eval_ListComp]
 refine wpAny_comprehension_free (use:=none) rfl hs hcl S.kind S.names (BG (hi pins s σ H _ I h) λxv s1 h1=>BG h1 λitv s2 h2=>?_)
 obtain⟨it,fp,tn,J,H2,rfl,I2,T,st2,f2,q⟩:=h2
 refine OL (RR:=λacc C=>compPost (model X.prog X.w) X.A X.xe none (EP X pins σ Q) acc C) hc S c1 c2 hb I2 T st2 f2 q ?_
 intro acc C H' s' m' I' hn fC q'
 refine⟨m',hn,λh' sb=>⟨.ref acc,H',?_,rfl,q'⟩⟩
 exact I'.turned (t':=s'.toks) (λb o hb e=>sb.extBut b o hb e) fC.1 fC.2.1 fC.2.2.2.1 fC.2.2.2.2.1 fC.2.2.2.2.2
end
end L2
namespace L2
open PySem PySem.Spec PyProof.Rows PySem.W
section
variable {X:Cx}{k:Nat}
theorem Gr (K:PySem.W.Frag)(hK:X.K=K:=by rfl):DS X (compareOp .NotIn) (Uq K true):=by
 subst hK;exact Ei
theorem Ko (K:PySem.W.Frag)(hc:X.calm=true)(hK:X.K=K:=by rfl):Bs X (.builtin "max") (λvs H Q=>∃(a:Addr) (ns:List Int),vs=[.ref a]/\Am K H a (ns.map V.int)/\ns≠[]/\∀m:Int,m∈ns->(∀x∈ns,x<=m)->Q (.int m) H):=by
 subst hK;exact Mr hc
theorem EJ (K:PySem.W.Frag)(hK:X.K=K:=by rfl):Bs X (.builtin "len") (λxs H Q=>∃p ys,xs=[.ref p]/\(Am K H p ys\/Ar K H p ys)/\Q (.int (ys.length:Nat)) H):=by
 subst hK;exact Ad
end
end L2
namespace L2
open PySem PySem.Spec PyProof.Rows PySem.W
open AutoSeq1 (wpAny_loadPart')
open MeetsSeq MeetsSeq2 MeetsSeq3 SeqRoads2 SeqAt
section
variable {X:Cx}{o e:Expr}{es:List Expr}{to:TE}{t:TA}{name:Str}{apos cpos:Pos}{id:String}{r:V->List V->Hp->VK->Prop}
def Ur (r:V->List V->Hp->VK->Prop)(to:TE)(t:TA):TE:=λσ H Q=>to σ H λx H1=>(∃p xs,x=.ref p/\H1 p=some (.tup xs))/\t σ H1 λxs H2=>r x xs H2 Q
theorem TF (slot:Slot "tuple" name id)(hty:typeOf (.builtin id)=pure (.type "method_descriptor"))(hm:Sy X id r)(ho:PE X o to)(ha:PA X (e::es) t)
 (hbase:attributeBase o name X.env (eval o X.env)=eval o X.env:=by rfl)
 (hfew:((backTo cpos (starEach (e::es) X.env)).all (λx=>!x.1)&&(backToKw cpos (keywordEach [] X.env)).all (λx=>x.1.isSome)
  &&decide ((e::es).length+([]:List Keyword).length+(if([]:List Keyword).isEmpty then 0 else 1) < 30))=true:=by rfl)
 (hline:(apos.endLine==cpos.line)=true:=by rfl)(hs:starEach (e::es) X.env=(false,eval e X.env)::starEach es X.env:=by rfl)(hplain:(backTo cpos (starEach es X.env)).any (·.1)=false:=by rfl):
 PE X (.Call (.Attribute o name apos) (e::es) [] cpos) (Ur r to t):=by
 intro pins s σ H Q I h
 refine wpAny_Call_method_late hbase hfew hline rfl (BG (ho pins s σ H _ I h) λv s1 ⟨x,H1,I1,r1,ty,q1⟩=>?_)
 obtain⟨p,xs,rfl,hp⟩:=ty
 cases(show v=Value.ref p from r1)
 obtain⟨⟨_,od,oe,oz⟩,_,_,⟨o2,e2,c2,_⟩⟩:=(show A2 X.prog X.w H1 s1.heap p (.tup xs)from I1.hok p _ hp)
 refine⟨"tuple",id,F.plainAttrs_tuple,slot,hty,⟨o2,e2,c2⟩,(λa e=>by cases e;exact⟨od,oe,oz⟩),?_⟩
 have hA:=ha cpos pins s1 σ H1 _ I1 q1
 rw[hs]at hA ⊢
 refine Calls.callWith_builtin (by show(false||(backTo cpos (starEach es X.env)).any (·.1))=false;rw[hplain]<;>rfl) (Calls.evalArgs_plain ?_)
 exact BG hA λus s2 ⟨vs,H2,I2,r2,q2⟩=>hm pins s2 σ H2 (.ref p) vs (.ref p) us Q I2 rfl r2 q2
end
section
variable {X:Cx}{a:Expr}{ta:TA}{p p2 pos pos2:Pos}
end
end L2
namespace L2
open PySem PySem.Spec PyProof.Rows
section
variable {κ:Type}[DecidableEq κ]
def CP (kvs:List (κ×V))(k:κ):Option V:=(kvs.find? λkv=>decide (kv.1=k)).map (·.2)
def putK (kvs:List (κ×V))(k:κ)(v:V):List (κ×V):=
 if(kvs.any λkv=>decide (kv.1=k))=true then kvs.map (λkv=>if kv.1=k then(kv.1,v)else kv)else kvs++[(k,v)]
theorem Bl {p:κ×V}{r:List (κ×V)}{k:κ}(e:p.1=k):CP (p::r) k=some p.2:=by simp[CP,List.find?_cons,e]
theorem Bm {p:κ×V}{r:List (κ×V)}{k:κ}(e:¬p.1=k):CP (p::r) k=CP r k:=by simp[CP,List.find?_cons,e]
theorem Dl (k:κ):∀kvs:List (κ×V),(kvs.any λkv=>decide (kv.1=k))=(CP kvs k).isSome
 |[]=>rfl
 |p::r=>by
  rw[List.any_cons]
  by_cases e:p.1=k
  ·simp only[Bl e,decide_eq_true e,Bool.true_or,Option.isSome_some]
  ·rw[Bm e,decide_eq_false e,Bool.false_or];exact Dl k r
theorem JN (k j:κ)(y:V):∀kvs:List (κ×V),CP (kvs.map λkv=>if kv.1=k then(kv.1,y)else kv) j=(CP kvs j).map λx=>if j=k then y else x
 |[]=>rfl
 |p::r=>by
  have ih:=JN k j y r
  rw[List.map_cons]
  by_cases h:p.1=k
  ·rw[if_pos h]
   by_cases e:p.1=j
   ·rw[Bl (p:=(p.1,y)) e,Bl e,Option.map_some,if_pos (e.symm.trans h)]
   ·rw[Bm (p:=(p.1,y)) e,Bm e,ih]
  ·rw[if_neg h]
   by_cases e:p.1=j
   ·rw[Bl (p:=p) e,Bl e,Option.map_some,if_neg (λz=>h (e.trans z))]
   ·rw[Bm (p:=p) e,Bm e,ih]
theorem Hh (k j:κ)(y:V):∀kvs:List (κ×V),CP kvs k=none->CP (kvs++[(k,y)]) j=if j=k then some y else CP kvs j
 |[],_=>by
  by_cases e:k=j
  ·rw[if_pos e.symm];exact Bl (p:=(k,y)) e
  ·rw[if_neg (λz=>e z.symm)];exact Bm (p:=(k,y)) e
 |p::r,hn=>by
  rw[List.cons_append]
  have hk:¬p.1=k:=λz=>by rw[Bl z]at hn;cases hn
  rw[Bm hk]at hn
  have ih:=Hh k j y r hn
  by_cases e:p.1=j
  ·rw[Bl e,Bl e,if_neg (λz=>hk (e.trans z))]
  ·rw[Bm e,Bm e,ih]
theorem JO (kvs:List (κ×V))(k j:κ)(y:V):CP (putK kvs k y) j=if j=k then some y else CP kvs j:=by
 unfold putK
 by_cases a:(kvs.any λkv=>decide (kv.1=k))=true
 ·rw[if_pos a,JN]
  rw[Dl]at a
  by_cases e:j=k
  ·obtain⟨x,hx⟩:=Option.isSome_iff_exists.mp a
   rw[if_pos e,e,hx,Option.map_some,if_pos rfl]
  ·rw[if_neg e]
   cases CP kvs j with
   |none=>rfl
   |some x=>rw[Option.map_some,if_neg e]
 ·rw[if_neg a]
  refine Hh k j y kvs ?_
  rw[Dl]at a
  cases q:CP kvs k with
  |none=>rfl
  |some x=>rw[q]at a;exact(a rfl).elim
theorem Fe (kvs:List (κ×V))(k:κ)(v:V):(putK kvs k v).length<=kvs.length+1:=by
 unfold putK
 split
 ·rw[List.length_map];omega
 ·rw[List.length_append,List.length_cons,List.length_nil];omega
theorem ON {kvs:List (κ×V)}{k:κ}(v:V)(h:CP kvs k=none):putK kvs k v=kvs++[(k,v)]:=by
 unfold putK
 rw[Dl,h]
 exact if_neg (by decide)
theorem Hv.Mz {o:Option V}{u:Option Value}(r:Hv o u):o.isSome=u.isSome:=by
 cases o with
 |none=>cases u with
  |none=>rfl
  |some _=>exact(show False from r).elim
 |some _=>cases u with
  |none=>exact(show False from r).elim
  |some _=>rfl
theorem Hv.getD {o:Option V}{u:Option Value}{d:V}{d':Value}(r:Hv o u)(rd:RelV d d'):RelV (o.getD d) (u.getD d'):=by
 cases o with
 |none=>cases u with
  |none=>exact rd
  |some _=>exact(show False from r).elim
 |some _=>cases u with
  |none=>exact(show False from r).elim
  |some _=>exact r
theorem KV.val {kvs:List (κ×V)}{vs:List (κ×Value)}(r:KV kvs vs)(k:κ):Hv (CP kvs k) (valueAt vs k):=by
 unfold KV at r
 induction r with
 |nil=>exact True.intro
 |@cons p q ps qs h t ih=>
  obtain⟨h1,h2⟩:=h
  by_cases e:p.1=k
  ·have e':q.1=k:=h1.symm.trans e
   have b:valueAt (q::qs) k=some q.2:=by simp[valueAt,List.find?_cons,e']
   rw[Bl e,b];exact h2
  ·have e':¬q.1=k:=λz=>e (h1.trans z)
   have b:valueAt (q::qs) k=valueAt qs k:=by simp[valueAt,List.find?_cons,e']
   rw[Bm e,b];exact ih
theorem KV.any {kvs:List (κ×V)}{vs:List (κ×Value)}(r:KV kvs vs)(k:κ):(kvs.any λkv=>decide (kv.1=k))=vs.any λkv=>decide (kv.1=k):=by
 unfold KV at r
 induction r with
 |nil=>rfl
 |cons h t ih=>rw[List.any_cons,List.any_cons,ih,h.1]
theorem KV.Rj {kvs:List (κ×V)}{vs:List (κ×Value)}(r:KV kvs vs)(k:κ){y:V}{u:Value}(ry:RelV y u):
 KV (kvs.map λkv=>if kv.1=k then(kv.1,y)else kv) (vs.map λkv=>if kv.1=k then(kv.1,u)else kv):=by
 unfold KV at r ⊢
 induction r with
 |nil=>exact .nil
 |@cons p q ps qs h t ih=>
  rw[List.map_cons,List.map_cons]
  refine .cons ?_ ih
  obtain⟨h1,h2⟩:=h
  by_cases e:p.1=k
  ·rw[if_pos e,if_pos (h1.symm.trans e)];exact⟨h1,ry⟩
  ·rw[if_neg e,if_neg (λz=>e (h1.trans z))];exact⟨h1,h2⟩
theorem KV.put {kvs:List (κ×V)}{vs:List (κ×Value)}(r:KV kvs vs)(k:κ){y:V}{u:Value}(ry:RelV y u):KV (putK kvs k y) (stored vs k u):=by
 unfold putK stored
 rw[r.any k]
 by_cases e:(vs.any λkv=>decide (kv.1=k))=true
 ·rw[if_pos e,if_pos e];exact r.Rj k ry
 ·rw[if_neg e,if_neg e];exact Paired.snoc r ⟨rfl,ry⟩
theorem KV.length {kvs:List (κ×V)}{vs:List (κ×Value)}(r:KV kvs vs):kvs.length=vs.length:=Paired.length r
end
theorem OO {P:Program}{w:World}{k:Key}{u:Value}(r:RelV (kV k) u):(BO P w).is k u=true:=by
 cases k with
 |inl i=>obtain⟨t,e⟩:=(show∃t,u=Value.int i t from r);subst e;exact Iu P w i t
 |inr x=>obtain⟨t,e⟩:=(show∃t,u=Value.str x t from r);subst e;exact Iv P w x t
theorem Hi {P:Program}{w:World}:∀{ks:List Key} {us:List Value},Vals (ks.map kV) us->ItemsAre (BO P w) ks us
 |[],_,r=>by rw[List.map_nil]at r;cases r;exact .nil
 |k::ks,_,r=>by
  rw[List.map_cons]at r
  cases r with
  |cons h t=>exact .cons (OO h) (Hi t)
abbrev KT (H:Hp):List (List Key×V)->List (List Key×Addr×Value)->Prop:=Paired λp q=>p.1=q.1/\H q.2.1=some (.tup (p.1.map kV))/\RelV p.2 q.2.2
theorem KT.val {H:Hp}{kvs:List (List Key×V)}{xs:List (List Key×Addr×Value)}(r:KT H kvs xs)(k:List Key):Hv (CP kvs k) ((atKey xs k).map (·.2)):=by
 induction r with
 |nil=>exact True.intro
 |@cons p q ps qs h t ih=>
  obtain⟨h1,_,h2⟩:=h
  by_cases e:p.1=k
  ·have e':q.1=k:=h1.symm.trans e
   have b:atKey (q::qs) k=some q.2:=by simp[atKey,List.find?_cons,e']
   rw[Bl e,b];exact h2
  ·have e':¬q.1=k:=λz=>e (h1.trans z)
   have b:atKey (q::qs) k=atKey qs k:=by simp[atKey,List.find?_cons,e']
   rw[Bm e,b];exact ih
theorem KT.Rj {H:Hp}{kvs:List (List Key×V)}{xs:List (List Key×Addr×Value)}(r:KT H kvs xs)(k:List Key){y:V}{u:Value}(ry:RelV y u):
 KT H (kvs.map λkv=>if kv.1=k then(kv.1,y)else kv) (xs.map (putAt k u)):=by
 induction r with
 |nil=>exact .nil
 |@cons p q ps qs h t ih=>
  rw[List.map_cons,List.map_cons]
  refine .cons ?_ ih
  obtain⟨h1,h2,h3⟩:=h
  unfold putAt
  by_cases e:p.1=k
  ·rw[if_pos e,if_pos (h1.symm.trans e)];exact⟨h1,h2,ry⟩
  ·rw[if_neg e,if_neg (λz=>e (h1.trans z))];exact⟨h1,h2,h3⟩
theorem KT.put {H:Hp}{kvs:List (List Key×V)}{xs:List (List Key×Addr×Value)}(r:KT H kvs xs)(k:List Key){b:Addr}{y:V}{u:Value}(hb:H b=some (.tup (k.map kV)))(ry:RelV y u):
 KT H (putK kvs k y) (storedH xs k b u):=by
 have e:(kvs.any λkv=>decide (kv.1=k))=(atKey xs k).isSome:=by
  rw[Dl,(r.val k).Mz,Option.isSome_map]
 unfold putK storedH
 rw[e]
 by_cases q:(atKey xs k).isSome=true
 ·rw[if_pos q,if_pos q];exact r.Rj k ry
 ·rw[if_neg q,if_neg q];exact Paired.snoc r ⟨rfl,hb,ry⟩
theorem KT.keeps {H H':Hp}{kvs:List (List Key×V)}{xs:List (List Key×Addr×Value)}(r:KT H kvs xs)(ht:∀b ys,H b=some (.tup ys)->H' b=some (.tup ys)):KT H' kvs xs:=
 Paired.RL r λ_ _ z=>⟨z.1,ht _ _ z.2.1,z.2.2⟩
section
variable {P:Program}{w:World}{H:Hp}{h:Heap}{a:Addr}
theorem Q6 {u:HO}(ok:DQ P w H h)(e:Rd H a u):A2 P w H h a u:=e.ok ok
theorem Ly {kvs:List (Key×V)}(ok:DQ P w H h)(e:Rd H a (.dK kvs)):kvs.length<=sizeLine/\(a==sysModules)=false/\∃vs,KV kvs vs/\h.DictOf (BO P w) a vs:=
 show A2 P w H h a (.dK kvs)from Q6 ok e
theorem TH {kvs:List (Key×V)}(ok:DQ P w H h)(e:H a=some (.dK kvs)):kvs.length<=sizeLine/\(a==sysModules)=false/\∃vs,KV kvs vs/\h.DictOf (BO P w) a vs:=Ly ok (.inl e)
theorem Kp {ks:List Key}(ok:DQ P w H h)(e:H a=some (.tup (ks.map kV))):(tupleKind (BO P w)).is h ks a:=by
 obtain⟨_,its,r,o,h1,h2,n,h3⟩:=(show A2 P w H h a (.tup (ks.map kV))from ok a _ e)
 exact⟨o,its.toArray,n,h1,h2,h3,by simpa using Hi r⟩
theorem OP {kvs:List (List Key×V)}(ok:DQ P w H h)(e:Rd H a (.dT kvs)):kvs.length<=sizeLine/\(a==sysModules)=false/\
 ∃xs,KT H kvs xs/\h.DictOfH (tupleKind (BO P w)) a xs:=by
 obtain⟨z,y,xs,r,o,es,ep,h1,h2,h3,h4,h5⟩:=(show A2 P w H h a (.dT kvs)from Q6 ok e)
 refine⟨z,y,xs,r,o,es,ep,h1,h2,h3,h4,λx hx=>?_,h5⟩
 have all:∀{l:List (List Key×V)} {m:List (List Key×Addr×Value)},KT H l m->∀x∈m,(tupleKind (BO P w)).is h x.1 x.2.1:=by
  intro l m q
  induction q with
  |nil=>intro x hx;exact nomatch hx
  |@cons p q ps qs hq t ih=>
   intro x hx
   rcases List.mem_cons.mp hx with e|hx
   ·subst e
    exact Kp ok (by rw[<-hq.1];exact hq.2.1)
   ·exact ih x hx
 exact all r x hx
theorem TJ {kvs:List (List Key×V)}(ok:DQ P w H h)(e:H a=some (.dT kvs)):kvs.length<=sizeLine/\(a==sysModules)=false/\
 ∃xs,KT H kvs xs/\h.DictOfH (tupleKind (BO P w)) a xs:=OP ok (.inl e)
end
def M0 (H:Hp)(a:Addr)(y:V)(r:Option V):Prop:=
 (∃kvs k,Rd H a (.dK kvs)/\y=kV k/\r=CP kvs k)\/∃kvs k b,Rd H a (.dT kvs)/\y=.ref b/\H b=some (.tup (k.map kV))/\r=CP kvs k
def M1 (H:Hp)(a:Addr)(y v:V)(H':Hp):Prop:=
 (∃kvs k,H a=some (.dK kvs)/\y=kV k/\kvs.length < sizeLine/\H'=upd H a (.dK (putK kvs k v)))\/
 ∃kvs k b,H a=some (.dT kvs)/\y=.ref b/\H b=some (.tup (k.map kV))/\kvs.length < sizeLine/\H'=upd H a (.dT (putK kvs k v))
theorem M0.k {H:Hp}{a:Addr}{kvs:List (Key×V)}{k:Key}(e:H a=some (.dK kvs)):M0 H a (kV k) (CP kvs k):=.inl ⟨kvs,k,.inl e,rfl,rfl⟩
theorem M1.k {H:Hp}{a:Addr}{kvs:List (Key×V)}{k:Key}{v:V}(e:H a=some (.dK kvs))(hl:kvs.length < sizeLine):M1 H a (kV k) v (upd H a (.dK (putK kvs k v))):=.inl ⟨kvs,k,e,rfl,hl,rfl⟩
section
variable {X:Cx}{pins:List (Addr×Obj)}{σ:St}{H:Hp}{s:Shared}{a:Addr}{y v:V}{u r:Value}{o:Option V}{A:Around}{E:Value->Shared->Prop}
theorem Inv.big (I:Inv X pins σ H s):sysModules < s.heap.objs.size:=by
 have h:mainGlobals < s.heap.objs.size:=(I.mod.glob.keeps I.bk).lt
 exact Nat.lt_trans (by decide) h
theorem Lz {h':Heap}{t':Nat}{ob:HO}(I:Inv X pins σ H s)(mu:SV (H a))(hs:Heap.SameBut a s.heap h')(he:∃q,h'.get? a=some q)(new:A2 X.prog X.w (upd H a ob) h' a ob):
 Inv X pins σ (upd H a ob) { s with heap:=h',toks:=t' }:=
 I.write (x:=a) (e:=a) mu (.inl rfl) (λb q hb z=>(hs.2 b hb).trans z) he new
theorem Rk {P:Program}{w:World}{H':Hp}{h':Heap}{kvs:List (Key×V)}{vs:List (Key×Value)}(z:kvs.length<=sizeLine)(hd:(a==sysModules)=false)(rel:KV kvs vs)(dd:h'.DictOf (BO P w) a vs):
 A2 P w H' h' a (.dK kvs):=⟨z,hd,vs,rel,dd⟩
theorem M3 {H':Hp}{Q:Unit->Shared->Prop}(hu:A.units+1 < cLine)(I:Inv X pins σ H s)(g:M1 H a y v H')(ry:RelV y u)(rv:RelV v r)(h:∀s',Inv X pins σ H' s'->Q () s'):
 wpAny (model X.prog X.w) A (setItem (.ref a) u r) Q E s:=by
 rcases g with⟨kvs,k,e,ey,l,eH⟩|⟨kvs,k,b,e,ey,eb,l,eH⟩
 ·subst ey eH
  obtain⟨z,hd,vs,rel,dd⟩:=TH I.hok e
  have hz:vs.length<=sizeLine:=by rw[<-rel.length];exact z
  have hl:(putK kvs k v).length<=sizeLine:=by have:=Fe kvs k v;omega
  refine wpAny_setItem_pairs (hsz:=hz) (OO ry) dd λh' dd' hs=>h _ ?_
  have he:∃q,h'.get? a=some q:=let⟨q,_,_,hq,_⟩:=dd';⟨q,hq⟩
  exact Lz I (by rw[e];exact True.intro) hs he (Rk hl hd (rel.put k rv) dd')
 ·subst ey eH
  cases(show u=Value.ref b from ry)
  obtain⟨z,hd,xs,rel,dd⟩:=TJ I.hok e
  have hz:xs.length<=sizeLine:=by rw[<-Paired.length rel];exact z
  have hl:(putK kvs k v).length<=sizeLine:=by have:=Fe kvs k v;omega
  refine wpAny_setItem_heap (hsz:=hz) (tupleKind_room_in1 hu) (Kp I.hok eb) dd λh' dd' hs=>h _ ?_
  obtain⟨q,es,ep,hq,h2,h3,h4,_,h5⟩:=dd'
  refine Lz I (by rw[e];exact True.intro) hs ⟨q,hq⟩ ⟨hl,hd,_,(rel.put k eb rv).keeps λc ys ec=>?_,q,es,ep,hq,h2,h3,h4,h5⟩
  rw[AH (Bh ec e (λz=>nomatch z))]
  exact ec
end
section
variable {X:Cx}{pins:List (Addr×Obj)}{σ:St}{H:Hp}{s:Shared}{a:Addr}{kvs:List (Key×V)}{k:Key}{u:Value}{A:Around}{E:Value->Shared->Prop}
theorem TK {Q:Value->Shared->Prop}(I:Inv X pins σ H s)(e:Rd H a (.dK kvs))(h:∀t s',Inv X pins σ H s'->Q (.int kvs.length t) s'):wpAny (model X.prog X.w) A (call (.builtin "len") [.ref a]) Q E s:=by
 obtain⟨z,hd,vs,rel,dd⟩:=Ly I.hok e
 refine call_len_dict hd dd (by rw[<-rel.length];rw[sizeLine_eq]at z;omega) ?_
 rw[<-rel.length]
 exact h _ _ (I.tok _)
end
def TL (td ty tv:TE):TS:=λD σ H=>tv σ H λv H1=>td σ H1 λx H2=>ty σ H2 λy H3=>∃a H4,x=.ref a/\M1 H3 a y v H4/\D.nx σ H4
section
variable {X:Cx}{o i e value:Expr}{pos pos' tpos:Pos}{td ty tv:TE}
theorem QP (hu:X.A.units+1 < cLine)(ho:PE X o td)(hi:PE X i ty)(hv:PE X value tv)(hs:swapsWith value (some (.Subscript o i pos')) pos.line X.env=pure false):
 PS X (.Assign [.Subscript o i pos'] value pos) (TL td ty tv):=by
 intro pins s σ H D I h
 refine wpAny_Assign_Subscript (BG (hv pins s σ H _ I h) λr s1 ⟨v,H1,I1,rv,q1⟩=>BG (ho pins s1 σ H1 _ I1 q1) λu s2 ⟨x,H2,I2,rx,q2⟩=>BG (hi pins s2 σ H2 _ I2 q2) λiv s3 ⟨y,H3,I3,ry,a,H4,ex,g,q3⟩=>?_) hs
 subst ex
 obtain rfl:u=Value.ref a:=rx
 exact M3 hu I3 g ry rv λs4 I4=>⟨σ,H4,I4,q3⟩
end
theorem OQ {P:Program}{w:World}{H:Hp}(h:Heap)(hb:sysModules < h.objs.size):A2 P w H (h.push { cls:=.type "dict",data:=.dict #[] }) h.objs.size (.dK []):=
 ⟨Nat.zero_le _,beq_eq_false_iff_ne.mpr (Ne.symm (Nat.ne_of_lt hb)),[],.nil,Heap.DictOf.new h⟩
def Rl:TE:=λ_ H Q=>∀p,H p=none->Q (.ref p) (upd H p (.dK []))
section
variable {X:Cx}{pos:Pos}
theorem OR:PE X (.Dict [] [] pos) Rl:=λpins s σ H Q I h=>
 wpAny_Dict_empty ⟨.ref s.heap.objs.size,_,I.laid (a:=s.heap.objs.size) (o:=.dK []) (t':=s.toks) (λ_ _ q=>Heap.get?_push_of_some _ q) (Nat.le_refl _) (OQ s.heap I.big),rfl,h _ (I.hok.fresh (Nat.le_refl _))⟩
end
structure M2 (X:Cx)(o:Expr)(m:Str)(apos:Pos)(e f:Expr)(cpos:Pos):Prop where
 base:attributeBase o m X.env (eval o X.env)=eval o X.env
 few:((backTo cpos (starEach [e,f] X.env)).all (λx=>!x.1)&&(backToKw cpos (keywordEach [] X.env)).all (λx=>x.1.isSome)
  &&decide (([e,f]:List Expr).length+([]:List Keyword).length+(if([]:List Keyword).isEmpty then 0 else 1) < 30))=true
 line:(apos.endLine==cpos.line)=true
 trees:backTo cpos (starEach [e,f] X.env)=[(false,eval e X.env),(false,eval f X.env)]
def Us (H:Hp)(a:Addr):Prop:=(∃kvs,Rd H a (.dK kvs))\/∃kvs,Rd H a (.dT kvs)
theorem Rm {X:Cx}{pins:List (Addr×Obj)}{σ:St}{H:Hp}{s:Shared}{a:Addr}(I:Inv X pins σ H s)(d:Us H a):
 s.TypeIs (.ref a) "dict"/\(∀b,Value.ref a=.ref b->∃ob,s.heap.get? b=some ob/\ob.dict=none)/\(a==sysModules)=false:=by
 rcases d with⟨kvs,e⟩|⟨kvs,e⟩
 ·obtain⟨_,hd,vs,_,dd⟩:=Ly I.hok e
  refine⟨dd.typeIs,λb q=>?_,hd⟩
  cases q
  obtain⟨ob,_,_,h1,h2,_⟩:=dd
  exact⟨ob,h1,h2.2.1⟩
 ·obtain⟨_,hd,xs,_,dd⟩:=OP I.hok e
  refine⟨dd.typeIs,λb q=>?_,hd⟩
  cases q
  obtain⟨ob,_,_,h1,h2,_⟩:=dd
  exact⟨ob,h1,h2.2.1⟩
section
variable {X:Cx}{pins:List (Addr×Obj)}{σ:St}{H:Hp}{s:Shared}{a:Addr}{y d:V}{u r:Value}{o:Option V}{A:Around}{E:Value->Shared->Prop}
theorem Rn {Q:Value->Shared->Prop}(hu:A.units+1 < cLine)(I:Inv X pins σ H s)(g:M0 H a y o)(ry:RelV y u)(rd:RelV d r)(h:∀w' s',Inv X pins σ H s'->RelV (o.getD d) w'->Q w' s'):
 wpAny (model X.prog X.w) A (call (.builtin "dict.get") [.ref a,u,r]) Q E s:=by
 rcases g with⟨kvs,k,e,ey,l⟩|⟨kvs,k,b,e,ey,eb,l⟩
 ·subst ey
  obtain⟨z,hd,vs,rel,dd⟩:=Ly I.hok e
  refine call_meetsIn PySem.F.slot_dict_get dd.typeIs PySem.F.entry_dict_get (PySem.F.args_dict_get_3 _ _ _) (meets_dict_get_default (BO X.prog X.w) a (OO ry) hd r) ⟨_,dd.mapOf,h _ _ (I.tok _) ?_⟩
  rw[l]
  exact(rel.val k).getD rd
 ·subst ey
  cases(show u=Value.ref b from ry)
  obtain⟨z,hd,xs,rel,dd⟩:=OP I.hok e
  refine call_meetsIn PySem.F.slot_dict_get dd.typeIs PySem.F.entry_dict_get (PySem.F.args_dict_get_3 _ _ _) (meetsH_dict_get_default (tupleKind (BO X.prog X.w)) a b hd r) ⟨tupleKind_room_in1 hu,k,xs,Kp I.hok eb,dd,h _ _ (I.tok _) ?_⟩
  rw[l]
  exact(rel.val k).getD rd
end
def Ro (td ty tx:TE):TE:=λσ H Q=>td σ H λx H1=>∃a,x=.ref a/\Us H1 a/\ty σ H1 λy H2=>tx σ H2 λz H3=>∃o,M0 H3 a y o/\Q (o.getD z) H3
section
variable {X:Cx}{o e f:Expr}{apos cpos:Pos}{td ty tx:TE}
theorem OS (hu:X.A.units+1 < cLine)(ho:PE X o td)(he:PE X e ty)(hf:PE X f tx)(m:M2 X o "get" apos e f cpos):PE X (.Call (.Attribute o "get" apos) [e,f] [] cpos) (Ro td ty tx):=by
 intro pins s σ H Q I h
 refine wpAny_Call_method m.base m.few m.line PySem.F.plainAttrs_dict PySem.F.slot_dict_get PySem.F.type_dict_get (BG (ho pins s σ H _ I h) λu s1 ⟨x,H1,I1,rx,a,ex,d,q1⟩=>?_)
 subst ex
 obtain rfl:u=Value.ref a:=rx
 obtain⟨t1,t2,_⟩:=Rm I1 d
 refine⟨t1,t2,?_⟩
 rw[m.trees]
 refine Calls.callWith_builtin rfl (Calls.evalArgs_plain (Calls.spliced_cons (BG (he pins s1 σ H1 _ I1 q1) λiv s2 ⟨y,H2,I2,ry,q2⟩=>
  Calls.spliced_cons (BG (hf pins s2 σ H2 _ I2 q2) λfv s3 ⟨z,H3,I3,rz,ov,g,q3⟩=>Calls.spliced_nil ?_))))
 exact Rn hu I3 g ry rz λw' s4 I4 rw'=>⟨_,H3,I4,rw',q3⟩
end
section
variable {X:Cx}{pins:List (Addr×Obj)}{σ:St}{H:Hp}{s:Shared}{a:Addr}{kvs:List (Key×V)}{A:Around}{E:Value->Shared->Prop}
end
section
variable {X:Cx}{pins:List (Addr×Obj)}{σ:St}{H:Hp}{s:Shared}{a:Addr}{y:V}{u:Value}{A:Around}{E:Value->Shared->Prop}
end
end L2
namespace L2
open PySem PySem.Spec PyProof.Rows PySem.W
open MeetsSeq MeetsSeq2 MeetsSeq3 SeqRoads2 SeqAt
section
variable {X:Cx}{tg:Expr}
end
section
theorem Kq {n:Nat}(h:n < 10000):n < sizeLine:=by
 rw[sizeLine_eq];omega
theorem OT {J:It}{NL:List Str}{ix:List Nat}{g:TG}{tt:TT}{te:TE}{σ:St}{H1:Hp}{Qs:Hp->Prop}{acc:Addr}(n:Nat)(hn:n < 10000)(Pv:Nat->List V->Hp->Prop)
 (hacc:∀i ys H2,Pv i ys H2->H2 acc=some (.lst ys)/\ys.length<=i)(h0:Pv 0 [] (upd H1 acc (.lst [])))(hstop:∀ys H2,Pv n ys H2->J.stop n H2/\Qs H2)
 (hturn:∀i ys H2,i < n->Pv i ys H2->J.go i H2/\∀x H3,J.yld i H2 x H3->g x (As NL ix σ) H3 λσ' H4=>σ'.drop NL.length=ix.map (λj=>σ.getD j none)/\tt σ' H4 λb H5=>
  if b=true then te σ' H5 λv H6=>H6 acc=some (.lst ys)/\Pv (i+1) (ys++[v]) (upd H6 acc (.lst (ys++[v])))else Pv (i+1) ys H5):
 ∃W:Nat->Nat->List V->Hp->Prop,(∃m,W 0 m [] (upd H1 acc (.lst [])))/\
 ∀i m ys H2,W i m ys H2->H2 acc=some (.lst ys)/\ys.length < sizeLine/\
  ((J.stop i H2/\Qs H2)\/(J.go i H2/\∃N:List V->Hp->Prop,(∀ys' H',N ys' H'->∃m',m' < m/\W (i+1) m' ys' H')/\
    ∀x H3,J.yld i H2 x H3->g x (As NL ix σ) H3 λσ' H4=>σ'.drop NL.length=ix.map (λj=>σ.getD j none)/\tt σ' H4 λb H5=>
     if b=true then te σ' H5 λv H6=>H6 acc=some (.lst ys)/\N (ys++[v]) (upd H6 acc (.lst (ys++[v])))else N ys H5)):=by
 refine⟨λi m ys H2=>i<=n/\m=n - i/\Pv i ys H2,⟨n,Nat.zero_le _,rfl,h0⟩,λi m ys H2 ⟨hi,hm,hp⟩=>?_⟩
 obtain⟨a1,a2⟩:=hacc i ys H2 hp
 refine⟨a1,Kq (by omega),?_⟩
 rcases Nat.lt_or_ge i n with lt|ge
 ·obtain⟨go,tn⟩:=hturn i ys H2 lt hp
  exact .inr ⟨go,Pv (i+1),λys' H' hN=>⟨n - (i+1),by omega,by omega,rfl,hN⟩,tn⟩
 ·have e:i=n:=by omega
  subst e
  exact .inl (hstop ys H2 hp)
end
section
variable {NL:List Str}{ix:List Nat}{g:TG}{tt:TT}{te:TE}{σ:St}{H1:Hp}{Qs:Hp->Prop}{acc:Addr}
end
section
variable {X:Cx}
theorem Hj:Bs X (.builtin "len") (λxs H Q=>∃a kvs,xs=[V.ref a]/\Rd H a (.dK kvs)/\Q (.int kvs.length) H):=by
 intro pins s σ H xs us Q I r h
 obtain⟨a,kvs,rfl,ha,q⟩:=h
 obtain⟨u,rfl,ru⟩:=vals1 r
 cases ru
 exact TK I ha λt s' I'=>⟨.int kvs.length,H,I',⟨t,rfl⟩,q⟩
end
end L2
namespace L2
open PySem PySem.Spec PyProof.Rows PySem.W
end L2
namespace L2
open PySem PySem.Spec PyProof.Rows PySem.W
section
variable {X:Cx}
variable {e st:Expr}{te:TE}{ts:TO}{pos p2:Pos}
end
def QQ (x:Str):It:=⟨λi _=>i < x.cps.size,λi H v H'=>H'=H/\∃c,x.cps[i]?=some c/\v=.str ⟨#[c]⟩,λi _=>x.cps.size<=i⟩
theorem OU {P:Program}{w:World}{K:PySem.W.Frag}{tg:Expr}(x:Str)(t:Tok)(it:Addr):Turn P w K tg (QQ x) [it] it (λi h=>h.IsStrIter it (strIterType x) x t i) where
 mem:=by simp
 obj:=λi h st b hb=>by
  have e:b=it:=by simpa using hb
  subst e
  obtain⟨o,e,c,d⟩:=st
  exact⟨o,e,λv z=>by rw[d]at z;cases z⟩
 keep:=λi h h' st k=>by
  obtain⟨o,e,c,d⟩:=st
  exact⟨o,k it (by simp) o e,c,d⟩
 item:=by
  intro X hP hw hK hc i pins s σ H E I hf st hg
  subst hP hw hK
  have hg:i < x.cps.size:=hg
  obtain⟨f0,f1,f2,f3,f4,f5⟩:=hf it (by simp)
  have hx:x.cps[i]?=some (x.cps[i]'hg):=Array.getElem?_eq_getElem hg
  have go:∀(h':Heap),h'.IsStrIter it (strIterType x) x t (i+1)->Heap.SameBut it s.heap h'->∃u,some (Value.str ⟨#[x.cps[i]'hg]⟩ s.toks)=some u/\
   wpAny (model X.prog X.w) X.A (letOwnedTupleGo tg (.ref it) u) (λ_ s2=>∃v H',Inv X pins σ H' s2/\RelV v u/\(QQ x).yld i H v H'/\s2.heap.IsStrIter it (strIterType x) x t (i+1)/\∀b∈[it],H' b=none) E { s with heap:=h',toks:=s.toks+1 }:=λh' st' sb=>by
   have I1:Inv X pins σ H { s with heap:=h',toks:=s.toks+1 }:=I.turned (t':=s.toks+1) (λb o hb e=>(sb.2 b hb).trans e) f0 f1 f3 f4 f5
   obtain⟨o,e,c,d⟩:=id st'
   refine⟨_,rfl,LZ (s:={ s with heap:=h',toks:=s.toks+1 }) e c d ?_ ⟨.str ⟨#[x.cps[i]'hg]⟩,H,I1,⟨_,rfl⟩,⟨rfl,_,hx,rfl⟩,st',λb hb=>(hf b hb).1⟩⟩
   unfold strIterType
   split<;>decide
  cases c:x.cps.all (·< 128)with
  |true=>
   have e:strIterType x="str_ascii_iterator":=by unfold strIterType;rw[c];rfl
   rw[e]at st
   exact wpAny_pyNext_ascii_item st hx λh' st' sb=>go h' (by rw[e];exact st') sb
  |false=>
   have e:strIterType x="str_iterator":=by unfold strIterType;rw[c];rfl
   rw[e]at st
   exact wpAny_pyNext_wide_item st hx λh' st' sb=>go h' (by rw[e];exact st') sb
 done:=by
  intro X hP hw hK hc i pins s σ H E I hf st hg
  subst hP hw hK
  have hg:x.cps.size<=i:=hg
  obtain⟨f0,f1,f2,f3,f4,f5⟩:=hf it (by simp)
  have hx:x.cps[i]?=none:=Array.getElem?_eq_none hg
  cases c:x.cps.all (·< 128)with
  |true=>
   have e:strIterType x="str_ascii_iterator":=by unfold strIterType;rw[c];rfl
   rw[e]at st
   exact wpAny_pyNext_ascii_end (I.ok.hd hc) st hx λh' eb=>⟨rfl,I.turned (t':=s.toks) (λb o hb e=>eb b o hb e) f0 f1 f3 f4 f5⟩
  |false=>
   have e:strIterType x="str_iterator":=by unfold strIterType;rw[c];rfl
   rw[e]at st
   exact wpAny_pyNext_wide_end (I.ok.hd hc) st hx λh' eb=>⟨rfl,I.turned (t':=s.toks) (λb o hb e=>eb b o hb e) f0 f1 f3 f4 f5⟩
 self:=λ_ _ _ _ _ st h=>by
  cases c:x.cps.all (·< 128)with
  |true=>
   have e:strIterType x="str_ascii_iterator":=by unfold strIterType;rw[c];rfl
   rw[e]at st
   exact wpAny_pyIter_striter_ascii st h
  |false=>
   have e:strIterType x="str_iterator":=by unfold strIterType;rw[c];rfl
   rw[e]at st
   exact wpAny_pyIter_striter_wide st h
section
variable {X:Cx}{tg:Expr}
def Ua (tl:TE):TI:=λσ H R=>tl σ H λx H1=>∃z,x=.str z/\R (QQ z) H1
theorem Ks {l:Expr}{tl:TE}(hl:PE X l tl):PI X tg l (Ua tl):=by
 intro pins s σ H R I h
 refine BG (hl pins s σ H _ I h) λv s1 ⟨x,H1,I1,r1,q1⟩=>?_
 obtain⟨z,rfl,q⟩:=q1
 obtain⟨t,rfl⟩:=r1
 refine wpAny_pyIter_strU ?_
 refine⟨s1.heap.objs.size,[s1.heap.objs.size],_,_,H1,rfl,I1.kept (t':=s1.toks) λb o e=>Heap.get?_push_of_some _ e,OU z t _,⟨_,Heap.get?_push_size _ rfl,rfl,rfl⟩,λb hb=>?_,q⟩
 have e:b=s1.heap.objs.size:=by simpa using hb
 subst e
 exact I1.Fl (Nat.le_refl _) (I1.hok.fresh (Nat.le_refl _))
end
section
variable {NL:List Str}{ix:List Nat}{g:TG}{tt:TT}{te:TE}{σ:St}{H1:Hp}{Qs:Hp->Prop}{acc:Addr}
theorem JP {z:Str}(hn:z.cps.size < 10000)(Pv:Nat->List V->Hp->Prop)
 (hacc:∀i ys H2,Pv i ys H2->H2 acc=some (.lst ys)/\ys.length<=i)(h0:Pv 0 [] (upd H1 acc (.lst [])))(hstop:∀ys H2,Pv z.cps.size ys H2->Qs H2)
 (hturn:∀i c ys H2,z.cps[i]?=some c->Pv i ys H2->g (.str ⟨#[c]⟩) (As NL ix σ) H2 λσ' H4=>σ'.drop NL.length=ix.map (λj=>σ.getD j none)/\tt σ' H4 λb H5=>
  if b=true then te σ' H5 λv H6=>H6 acc=some (.lst ys)/\Pv (i+1) (ys++[v]) (upd H6 acc (.lst (ys++[v])))else Pv (i+1) ys H5):
 ∃W:Nat->Nat->List V->Hp->Prop,(∃m,W 0 m [] (upd H1 acc (.lst [])))/\
 ∀i m ys H2,W i m ys H2->H2 acc=some (.lst ys)/\ys.length < sizeLine/\
  (((QQ z).stop i H2/\Qs H2)\/((QQ z).go i H2/\∃N:List V->Hp->Prop,(∀ys' H',N ys' H'->∃m',m' < m/\W (i+1) m' ys' H')/\
    ∀x H3,(QQ z).yld i H2 x H3->g x (As NL ix σ) H3 λσ' H4=>σ'.drop NL.length=ix.map (λj=>σ.getD j none)/\tt σ' H4 λb H5=>
     if b=true then te σ' H5 λv H6=>H6 acc=some (.lst ys)/\N (ys++[v]) (upd H6 acc (.lst (ys++[v])))else N ys H5)):=by
 refine OT z.cps.size hn Pv hacc h0 (λys H2 hp=>⟨Nat.le_refl _,hstop ys H2 hp⟩) λi ys H2 hi hp=>⟨hi,?_⟩
 rintro x H3 ⟨rfl,c,hc,rfl⟩
 exact hturn i c ys H3 hc hp
end
section
variable {X:Cx}
end
end L2
namespace L2
open PySem PySem.Spec PyProof.Rows
section
variable {X:Cx}
def TM (K:PySem.W.Frag):R2:=λx y H Q=>∃a b xs ys,x=.ref a/\y=.ref b/\Ar K H a xs/\Ar K H b ys/\xs.length+ys.length<=sizeLine/\
 (xs=[]->Q (.ref b) H)/\(xs≠[]->ys=[]->Q (.ref a) H)/\(xs≠[]->ys≠[]->∀p,H p=none->Q (.ref p) (upd H p (.tup (xs++ys))))
theorem OV {prog:Program}{w:World}{A:Around}{E:Value->Shared->Prop}{s:Shared}{t b:Addr}{vs ws:List Value}{Q:Value->Shared->Prop}(ht:IsTup s.heap t vs.toArray)(hb:IsTup s.heap b ws.toArray)(hv:vs=[])
 (h:Q (.ref b) s):wpAny (model prog w) A (binaryOp .Add (.ref t) (.ref b)) Q E s:=by
 obtain⟨⟨cls,dd,data,sl⟩,ho,hc,n,hd⟩:=id ht
 obtain⟨⟨cls2,dd2,data2,sl2⟩,ho2,hc2,n2,hd2⟩:=id hb
 simp only at hc hd hc2 hd2
 subst hc hd hc2 hd2
 exact concat_meets ⟨_,ho,rfl⟩ ⟨_,ho2,rfl⟩ noFill_tuple_add seq_tuple_add PySem.F.slot_tuple_add PySem.F.entry_tuple_add (PySem.F.args_tuple_add_2 _ _)
  (tuple_addW0 t b vs.toArray ws.toArray n n2 dd dd2 sl sl2 (by simp[hv])) ⟨ho,ho2,h⟩
theorem QR:DS X (binaryOp .Add) (TM X.K):=by
 intro pins s σ H x y v u Q I rx ry h
 obtain⟨a,b,xs,ys,rfl,rfl,ha,hb,hz,q0,q1,q2⟩:=h
 by_cases hx:xs=[]
 ·cases rx
  cases ry
  obtain⟨its,r1,p1,_⟩:=I.tuple ha
  obtain⟨its2,r2,p2,_⟩:=I.tuple hb
  exact OV p1 p2 (r1.Fu.mpr hx) ⟨.ref b,H,I,rfl,q0 hx⟩
 ·exact QD pins s σ H _ _ v u Q I rx ry ⟨a,b,xs,ys,rfl,rfl,ha,hb,hx,hz,q1 hx,q2 hx⟩
end
end L2
namespace L2
open PySem PySem.Spec PyProof.Rows
theorem A2.obj {P:Program}{w:World}{H:Hp}{h:Heap}{a:Addr}{o:HO}(x:A2 P w H h a o):∃u,h.get? a=some u:=by
 cases o with
 |lst xs=>obtain⟨_,_,_,_,e⟩:=x;exact⟨_,e⟩
 |tup xs=>obtain⟨⟨_,o,e,_⟩,_⟩:=x;exact⟨_,e⟩
 |dK kvs=>obtain⟨_,_,_,_,o,_,_,e,_⟩:=x;exact⟨_,e⟩
 |dT kvs=>obtain⟨_,_,_,_,o,_,_,e,_⟩:=x;exact⟨_,e⟩
 |set S n=>obtain⟨o,_,_,_,e,_⟩:=x;exact⟨_,e⟩
 |ins C dx fs=>obtain⟨_,_,_,e,_⟩:=x;exact⟨_,e⟩
 |own y=>exact x
 |xd fs=>obtain⟨_,⟨_,_,_,e,_⟩,_⟩:=x;exact⟨_,e⟩
 |rng lo hi=>obtain⟨_,_,_,e⟩:=x;exact⟨_,e⟩
 |frz ob u=>exact⟨_,x.1⟩
 |tbl ps=>exact⟨_,x⟩
 |met f y=>exact⟨_,x⟩
 |ext φ=>exact x.2.1
def TN (l:List Env)(H₀:Hp)(h₀:Heap)(H':Hp)(a C:Addr)(h:Heap):Prop:=
 ∃B a0,Heap.FlyingW B l a (.ref C) a0 h/\(∀b o,h₀.get? b=some o->b∉ED l->∃o',B.get? b=some o'/\(H₀ b=none->o'=o))/\∀b u,H' b=some u->∃o,B.get? b=some o
def M4 (P:Program)(w:World):Lg:=λouter H s E e s'=>∃a C H',e=.ref a/\s'.os=s.os/\AllBare s'.gens/\Un (ED outer) [] H H' s.heap s'.heap/\DQ P w H' s'.heap/\TN outer H s.heap H' a C s'.heap/\H' a=none/\E e (some C) H'
theorem Rp {P:Program}{w:World}{H:Hp}{h h' B:Heap}(x:DQ P w H h)(hB:∀b o,B.get? b=some o->h.get? b=some o)(hB':B.StaysIn h')(t:∀b u,H b=some u->∃o,B.get? b=some o):DQ P w H h':=λa o e=>
 (x a o e).EC (λb u hb q=>by
  have:∃o,B.get? b=some o:=by
   rcases hb with rfl|hb
   ·exact t _ _ e
   ·exact t _ _ hb
  obtain⟨o',e'⟩:=this
  have z:=hB _ _ e'
  rw[q]at z;cases z
  exact hB' _ _ e') (λ_ q=>q) λ_ _ q=>q
theorem QS {X:Cx}{pins:List (Addr×Obj)}{σ:St}{H1 H2:Hp}{s1:Shared}{B h2:Heap}(I:Inv X pins σ H1 s1)(hex:X.ex=[])
 (inB:∀b o,s1.heap.get? b=some o->b∉ED X.stack->∃o',B.get? b=some o'/\(H1 b=none->o'=o))(st:B.StaysIn h2)
 (fr:∀b o,s1.heap.get? b=some o->b∈ED X.stack->∃sl,h2.get? b=some { o with slots:=sl })(free:∀b o,s1.heap.get? b=some o->H1 b=none->H2 b=none)
 (tups:∀b xs,H1 b=some (.tup xs)->H2 b=some (.tup xs))(frzs:∀b o u,H1 b=some (.frz o u)->H2 b=some (.frz o u))(tbls:∀b ps,H1 b=some (.tbl ps)->∃more,H2 b=some (.tbl (ps++more))):
 Un X.fs [] X.H₀ H2 X.s₀.heap h2/\∀b o,X.s₀.heap.get? b=some o->b∉X.fs->∃o',B.get? b=some o'/\(X.H₀ b=none->o'=o):=by
 have nx:∀b:Addr,b∉X.ex:=λb=>by rw[hex];simp
 have ns:∀b o,X.s₀.heap.get? b=some o->b∉X.fs->b∉ED X.stack:=λb o e n z=>by
  rcases List.mem_cons.mp (I.DT b z)with q|q
  ·rw[q]at e
   exact absurd (Nat.lt_of_lt_of_le (Heap.lt_size e) I.ok.above) (Nat.lt_irrefl _)
  ·exact n q
 have toB:∀b o,X.s₀.heap.get? b=some o->b∉X.fs->∃o',B.get? b=some o'/\(X.H₀ b=none->o'=o):=λb o e n=>by
  obtain⟨o1,e1⟩:=I.base.there b o e (nx b)
  obtain⟨o2,e2,k2⟩:=inB b o1 e1 (ns b o e n)
  refine⟨o2,e2,λh0=>?_⟩
  have z:=I.base.keep b o e h0 n (nx b)
  rw[e1]at z;cases z
  exact k2 (I.base.free b o e h0 (nx b))
 have inSt:∀b∈X.fs,∀o1,s1.heap.get? b=some o1->∃sl,h2.get? b=some { o1 with slots:=sl }:=λb hb o1 e1=>by
  by_cases hs:b∈ED X.stack
  ·exact fr b o1 e1 hs
  ·obtain⟨o2,e2,k2⟩:=inB b o1 e1 hs
   have h1:H1 b=none:=by
    obtain⟨_,o,ho,_⟩:=I.ok.Cz.mem hb
    exact I.base.free b o ho (I.ok.frf b hb) (nx b)
   rw[k2 h1]at e2
   exact⟨o1.slots,st _ _ e2⟩
 refine⟨⟨λb o e n hb _=>?_,λb o e n hb _=>?_,λb o e n _=>?_,λb o e _=>?_,λb xs e=>tups _ _ (I.base.tups _ _ e),λb o u e=>frzs _ _ _ (I.base.frzs _ _ _ e),λb ps e=>?_⟩,toB⟩
 ·obtain⟨o',e',k⟩:=toB b o e hb
  rw[k n]at e'
  exact st _ _ e'
 ·obtain⟨sl,e1⟩:=I.base.slot b o e n hb (nx b)
  obtain⟨sl2,e2⟩:=inSt b hb _ e1
  exact⟨sl2,e2⟩
 ·obtain⟨o1,e1⟩:=I.base.there b o e (nx b)
  exact free b o1 e1 (I.base.free b o e n (nx b))
 ·obtain⟨o1,e1⟩:=I.base.there b o e (nx b)
  by_cases hb:b∈X.fs
  ·obtain⟨sl,q⟩:=inSt b hb o1 e1
   exact⟨_,q⟩
  ·obtain⟨o',e',_⟩:=toB b o e hb
   exact⟨o',st _ _ e'⟩
 ·obtain⟨m1,e1⟩:=I.base.tbls b ps e
  obtain⟨m2,e2⟩:=tbls b _ e1
  exact⟨m1++m2,by rw[e2,Array.append_assoc]⟩
def Raises (X:Cx)(E:XK):Prop:=∀(pins:List (Addr×Obj)) (σ:St) (H1:Hp) (s1:Shared) (h':Heap) (a C:Addr) (vs:List Value),Inv X pins σ H1 s1->Heap.MadeExcOf s1.heap h' a (.ref C) vs->E (.ref a) (some C) H1->X.xe (.ref a) { s1 with heap:=h' }
section
variable {P:Program}{w:World}{K:PySem.W.Frag}{mg:Str->Option Value}{base:Heap}{N:List Str}{qual:Str}{scope:Scope}{f:Addr}{cd:Value}{A:Around}{outer:List Env}{s:Shared}{H:Hp}{E:XK}
theorem M5:Raises (Bp (M4 P w) P w K mg base N qual scope f cd A outer s H E) E:=by
 intro pins σ H1 s1 h' a C vs I mk hE
 have stk:=I.stack
 have nTr:∀b u,H1 b=some u->b∉ED (Bp (M4 P w) P w K mg base N qual scope f cd A outer s H E).stack:=λb u e z=>by
  rw[I.LY b z]at e;cases e
 have inB:∀b o,s1.heap.get? b=some o->b∉ED (Bp (M4 P w) P w K mg base N qual scope f cd A outer s H E).stack->(PySem.W.hideAll s1.heap (ED (Bp (M4 P w) P w K mg base N qual scope f cd A outer s H E).stack)).get? b=some o:=λb o e n=>PySem.W.hideAll_get _ e n
 show wpAny _ _ (leaving _ _) _ _ _
 refine wpAny_leaves_madeW (base:=PySem.W.hideAll s1.heap (ED (Bp (M4 P w) P w K mg base N qual scope f cd A outer s H E).stack)) (h:=s1.heap) I.ok.frames rfl (λb o q=>PySem.W.of_hideAll _ q)
  (PySem.W.funFrames_hide stk λenv he b hb=>List.mem_filterMap.mpr ⟨env,he,hb⟩) mk λh2 t fl _ _ sm=>?_
 generalize PySem.W.hideAll s1.heap (ED (Bp (M4 P w) P w K mg base N qual scope f cd A outer s H E).stack)=B at inB fl
 have BS:∀b o,B.get? b=some o->s1.heap.get? b=some o\/True:=λ_ _ _=>.inr trivial
 obtain⟨u,k1⟩:=QS (H2:=H1) (B:=B) (h2:=h2) I rfl (λb o e n=>⟨o,inB b o e n,λ_=>rfl⟩) fl.1
  (λb o e hb=>by
   obtain⟨_,o',e',nf⟩:=stk.mem hb
   rw[e]at e';cases e'
   exact sm b o (mk.keeps _ _ e) nf)
  (λ_ _ _ z=>z) (λ_ _ z=>z) (λ_ _ _ z=>z) (λb ps z=>⟨#[],by rw[z];simp⟩)
 have tr:∀b u,H1 b=some u->∃o,B.get? b=some o:=λb u e=>by
  obtain⟨o,eo⟩:=(I.hok b u e).obj
  exact⟨o,inB b o eo (nTr b u e)⟩
 refine⟨a,C,H1,rfl,I.os,I.bare,u,λb o e=>?_,⟨B,_,fl,k1,tr⟩,?_,hE⟩
 ·refine(I.hok b o e).EC (λc v hc q=>?_) (λ_ q=>q) λ_ _ q=>q
  have nc:c∉ED (Bp (M4 P w) P w K mg base N qual scope f cd A outer s H E).stack:=by
   rcases hc with rfl|hc
   ·exact nTr _ _ e
   ·exact nTr _ _ hc
  exact fl.1 _ _ (inB c v q nc)
 ·cases q:H1 a with
  |none=>rfl
  |some u=>
   obtain⟨o,eo⟩:=(I.hok a u q).obj
   rw[mk.new]at eo;cases eo
end
end L2
namespace L2
open PySem PySem.Spec PyProof.Rows
def Fo (a C:Addr):HO:=.ext λh=>∃o vs,h.get? a=some o/\o.cls=.ref C/\o.data=.fields vs
def Up (X:Cx)(pins:List (Addr×Obj))(σ:St)(a C:Addr)(H2:Hp)(s:Shared):Prop:=
 ∃H1 s1,Inv X pins σ H1 s1/\s.os=s1.os/\AllBare s.gens/\Un (ED X.stack) [] H1 H2 s1.heap s.heap/\DQ X.prog X.w H2 s.heap/\TN X.stack H1 s1.heap H2 a C s.heap/\H2 a=none
section
variable {X:Cx}{pins:List (Addr×Obj)}{σ:St}{a C:Addr}{H1 H2:Hp}{s s1:Shared}{B h h':Heap}{a0:Value}
theorem QT (H:Hp)(e:∃o vs,h.get? a=some o/\o.cls=.ref C/\o.data=.fields vs):A2 X.prog X.w H h a (Fo a C):=by
 refine⟨e,?_,λh1 h2 ⟨o,vs,x1,x2,x3⟩ k=>⟨o,vs,k _ x1,x2,x3⟩⟩
 obtain⟨o,_,e,_⟩:=e
 exact⟨o,e⟩
theorem Up.inv (U:Up X pins σ a C H2 s):Inv X pins σ (upd H2 a (Fo a C)) s:=by
 obtain⟨H1,s1,I,os,bare,un,hok,⟨B,a0,fl,k0,tr⟩,ha⟩:=U
 obtain⟨oe,vs,e1,e2,e3,_⟩:=fl.first
 have na:∀b o,s1.heap.get? b=some o->b≠a:=λb o e z=>by
  subst z
  by_cases hb:b∈ED X.stack
  ·obtain⟨_,o',e',nf⟩:=fl.2.2.1.mem hb
   rw[e1]at e';cases e'
   exact nf vs e3
  ·obtain⟨o',e',_⟩:=k0 b o e hb
   rw[fl.2.1]at e';cases e'
 have up:∀b u,H2 b=some u->upd H2 a (Fo a C) b=some u:=λb u e=>by rw[AH (AI e ha)];exact e
 refine I.Nc (ch:=[]) os ⟨un.keep,un.slot,λb o e n hx=>?_,un.there,λb xs e=>up _ _ (un.tups b xs e),λb o u e=>up _ _ (un.frzs b o u e),λb ps e=>?_⟩ (λb o e=>?_) bare (λ_ z=>nomatch z)
 ·rw[AH (na b o e)];exact un.free b o e n hx
 ·obtain⟨more,e2⟩:=un.tbls b ps e
  exact⟨more,up _ _ e2⟩
 ·by_cases hb:b=a
  ·subst hb
   rw[AB]at e;cases e
   exact QT _ ⟨oe,vs,e1,e2,e3⟩
  ·rw[AH hb]at e
   exact(hok b o e).EC (λ_ _ _ q=>q) (λc q=>up _ _ q) λc xs q=>up _ _ q
theorem Q7 (I:Inv X pins σ H1 s1)(os:s.os=s1.os)(bare:AllBare s.gens)(un:Un (ED X.stack) [] H1 H2 s1.heap s.heap)(hok:DQ X.prog X.w H2 s.heap)(hB:B.StaysIn s.heap)(ffs:s.heap.FunFrames B X.stack)
 (k0:∀b o,s1.heap.get? b=some o->b∉ED X.stack->∃o',B.get? b=some o'/\(H1 b=none->o'=o))(tr:∀b u,H2 b=some u->∃o,B.get? b=some o)(ha:H2 a=none)
 (fl':Heap.FlyingW B X.stack a (.ref C) a0 h')(sm:s.heap.UpToSlots h'):Up X pins σ a C H2 { s with heap:=h' }:=by
 refine⟨H1,s1,I,os,bare,⟨λb o e n hb _=>?_,λb o e n hb _=>?_,un.free,λb o e _=>?_,un.tups,un.frzs,un.tbls⟩,Rp hok hB fl'.1 tr,⟨B,a0,fl',k0,tr⟩,ha⟩
 ·obtain⟨o',e',k⟩:=k0 b o e hb
  rw[k n]at e'
  exact fl'.1 _ _ e'
 ·obtain⟨sl,e2⟩:=un.slot b o e n hb (by simp)
  obtain⟨_,o',e',nf⟩:=ffs.mem hb
  rw[e2]at e';cases e'
  obtain⟨sl3,e3⟩:=sm b _ e2 nf
  exact⟨sl3,e3⟩
 ·by_cases hb:b∈ED X.stack
  ·obtain⟨_,o',e',_⟩:=fl'.2.2.1.mem hb
   exact⟨o',e'⟩
  ·obtain⟨o',e',_⟩:=k0 b o e hb
   exact⟨o',fl'.1 _ _ e'⟩
theorem OW {M:Model}{A:Around}{E:Value->Shared->Prop}{Q:Unit->Shared->Prop}(U:Up X pins σ a C H2 s)(h:∀h',Up X pins σ a C H2 { s with heap:=h' }->Q () { s with heap:=h' }):
 wpAny M A (setFlight (.ref a) none) Q E s:=by
 obtain⟨H1,s1,I,os,bare,un,hok,⟨B,a0,fl,k0,tr⟩,ha⟩:=U
 exact lands_againW fl λh' fl' sm=>h h' (Q7 I os bare un hok fl.1 fl.2.2.1 k0 tr ha fl' sm)
theorem OX {M:Model}{A:Around}{E:Value->Shared->Prop}{Q:Unit->Shared->Prop}(hA:A.frames=some X.stack)(hst:X.stack=X.env::X.outer)(hf:X.env.frame=some X.env.locals)(U:Up X pins σ a C H2 s)
 (h:∀h',Up X pins σ a C H2 { s with heap:=h' }->Q () { s with heap:=h' }):
 wpAny M A (noteFrame (.ref a) X.env) (λ_ s2=>wpAny M A (setFlight (.ref a) none) Q E s2) E s:=by
 obtain⟨H1,s1,I,os,bare,un,hok,⟨B,a0,fl,k0,tr⟩,ha⟩:=U
 have fl0:=fl
 rw[hst]at fl0 hA
 refine wpAny_looks_onW hA hf fl0 λh1 hh sm=>?_
 refine wpAny_landsW hh λh2 fl2 sm2=>?_
 rw[<-hst]at fl2
 exact h h2 (Q7 I os bare un hok fl.1 fl.2.2.1 k0 tr ha fl2 (sm.trans sm2))
abbrev Cx.FO (X:Cx)(a:Addr):Cx:={ X with A:=X.A.mark (some (.ref a)),calm:=false,xe:=λ_ _=>False }
theorem Inv.FO {H:Hp}(I:Inv X pins σ H s)(a:Addr):Inv (X.FO a) pins σ H s:=
 ⟨⟨I.ok.mod,I.ok.kind,I.ok.glob,I.ok.blt,I.ok.above,I.ok.inj,I.ok.has,I.ok.cab,(λz=>nomatch z),I.ok.frames,I.ok.stk,I.ok.exf,I.ok.bs,I.ok.bsz,I.ok.noex,I.ok.exfs,I.ok.Cz,I.ok.frf⟩,I.os,I.bare,I.base,I.loc,I.cell,I.free,I.freeC,I.pin,I.hok,I.len⟩
theorem Inv.uncaught {H:Hp}(ok:X.Ok)(I:Inv (X.FO a) pins σ H s):Inv X pins σ H s:=⟨ok,I.os,I.bare,I.base,I.loc,I.cell,I.free,I.freeC,I.pin,I.hok,I.len⟩
theorem Inv.Ku {M:Model}{A:Around}{E:Value->Shared->Prop}{H:Hp}{i:Nat}{n:Str}{pos:Pos}{Q:Unit->Shared->Prop}(I:Inv X pins σ H s)(hN:X.N.Nodup)(hi:X.N[i]?=some n)(hl:X.env.kindOf n=some .local)
 (h:∀s',Inv X pins (σ.set i none) H s'->Q () s'):wpAny M A (do bindName X.env n .none;unbindBehindTheSuite X.env n pos) Q E s:=by
 obtain⟨m,hn,hl'⟩:=id I.loc
 have hcls:(X.env.scope.kind==.class||(X.env.scope.kind==.module&&X.env.locals !=X.env.globals))=false:=by rw[I.ok.kind];rfl
 have hiσ:i < σ.length:=by rw[I.len];exact(List.getElem?_eq_some_iff.mp hi).1
 refine wpAny_nameGoes_keeps hl hn hcls λh' v hn' hs=>?_
 obtain⟨oL,_,_,hoL,_⟩:=id hn
 refine h _ ⟨I.ok,I.os,I.bare,⟨λb o e n hb hx=>?_,λb o e n hb hx=>?_,I.base.free,λb o e hx=>?_,I.base.tups,I.base.frzs,I.base.tbls⟩,⟨_,hn',λj y v' e1 e2 e3=>?_⟩,λy c e=>?_,I.free,I.freeC,λp hp=>?_,λb ob e=>?_,by simpa using I.len⟩
 ·exact(hs.2 b (Nat.ne_of_lt (Nat.lt_of_lt_of_le (Heap.lt_size e) I.ok.above))).trans (I.base.keep b o e n hb hx)
 ·obtain⟨sl,e1⟩:=I.base.slot b o e n hb hx
  exact⟨sl,(hs.2 b (Nat.ne_of_lt (Nat.lt_of_lt_of_le (Heap.lt_size e) I.ok.above))).trans e1⟩
 ·obtain⟨o',e1⟩:=I.base.there b o e hx
  exact⟨o',(hs.2 b (Nat.ne_of_lt (Nat.lt_of_lt_of_le (Heap.lt_size e) I.ok.above))).trans e1⟩
 ·by_cases hj:j=i
  ·subst hj
   rw[List.getElem?_set_self hiσ]at e2
   cases e2
  ·rw[List.getElem?_set_ne (Ne.symm hj)]at e2
   obtain⟨u',r',q⟩:=hl' j y v' e1 e2 e3
   refine⟨u',r',?_⟩
   rcases q with⟨k,e⟩|⟨k,c,e,z⟩
   ·refine .inl ⟨k,?_⟩
    have:y≠n:=λe=>hj (F3 hN e1 (e▸hi))
    simp[this,e]
   ·exact .inr ⟨k,c,e,z.sameBut hs (I.P0 y c e)⟩
 ·obtain⟨w',z⟩:=I.cell y c e
  exact⟨w',z.sameBut hs (I.P0 y c e)⟩
 ·obtain⟨e,n,ne,nf,d⟩:=I.pin p hp
  exact⟨(hs.2 p.1 ne).trans e,n,ne,nf,d⟩
 ·refine(I.hok b ob e).EC (λc w' hc q=>(hs.2 c ?_).trans q) (λ_ q=>q) λ_ _ q=>q
  rintro rfl
  rcases hc with rfl|hc
  ·rw[I.free]at e;cases e
  ·rw[I.free]at hc;cases hc
end
def PH (X:Cx)(hs:List ExceptHandler)(th:Addr->Addr->TS):Prop:=
 ∀(pins:List (Addr×Obj)) (s:Shared) (σ:St) (H2:Hp) (D:Ends) (a C:Addr),Up X pins σ a C H2 s->th a C D σ (upd H2 a (Fo a C))->wpAny (model X.prog X.w) X.A (handleBy (.ref a) X.env hs) (SP X pins D) X.xe s
def Ends.Ku (D:Ends)(i:Nat):Ends:=⟨λσ H=>D.nx (σ.set i none) H,D.rt,λσ H=>D.bk (σ.set i none) H,λσ H=>D.ct (σ.set i none) H⟩
section
variable {X:Cx}{x n:Str}{i:Nat}{np pos:Pos}{b₀:Stmt}{suite:List Stmt}{rest:List ExceptHandler}{Cl:Addr}{th:Addr->TS}{tr:Addr->Addr->TS}
theorem Rq {M:Model}{H:Hp}{h:Heap}{a C:Addr}(e:A2 X.prog X.w H h a (Fo a C)):PySem.W.Looks M h (typeOf (.ref a)) (.ref C):=by
 obtain⟨⟨o,vs,e1,e2,_⟩,_⟩:=e
 rw[<-e2]
 exact(PySem.W.Looks.ld e1).andThen .now
theorem TQ (hg:Gl X x)(hm:X.mg x=some (.ref Cl))(hN:X.N.Nodup)(hi:X.N[i]?=some n)(hl:X.env.scope.names.lookup n=some .local)(hb:∀a,Iq (X.FO a) (b₀::suite) (th a))(hd:(x==("__debug__":Str))=false:=by decide):
 PH X (.ExceptHandler (some (.Name x np)) (some n) (b₀::suite) pos::rest) (λa C D σ H=>PySem.W.exmOne X.K (.ref C) (.ref Cl)=some true/\th a (D.Ku i) (σ.set i (some (.ref a))) H):=by
 intro pins s σ H2 D a C U h
 obtain⟨hx,h⟩:=h
 have I:=U.inv
 refine wpAny_handleBy_cons (codeAny_handlers_test (Ed (I.FO a) hg hm ?_ hd)) (by intro q;cases q)
 refine(PySem.W.exm_one I.Gn (Rq (I.hok a _ AB)) hx).here ?_
 refine codeAny_handlers_suite_as ?_
 refine OW U λh' U'=>?_
 have I':=U'.inv
 refine F4 I' hN hi (.inl hl) (v:=.ref a) rfl (λs2 I2=>?_) (.inr hl)
 refine wpAny_mono (hb a pins s2 _ _ (D.Ku i) (I2.FO a) h) (λf s3 q=>?_) λ_ _ z=>False.elim z
 cases f with
 |next=>obtain⟨σ',H',J,q⟩:=q;exact(J.uncaught I.ok).Ku hN hi hl λs4 J4=>⟨_,H',J4,q⟩
 |brk=>obtain⟨σ',H',J,q⟩:=q;exact(J.uncaught I.ok).Ku hN hi hl λs4 J4=>⟨_,H',J4,q⟩
 |cont=>obtain⟨σ',H',J,q⟩:=q;exact(J.uncaught I.ok).Ku hN hi hl λs4 J4=>⟨_,H',J4,q⟩
 |ret u=>obtain⟨v,σ',H',J,r,q⟩:=q;exact(J.uncaught I.ok).Ku hN hi hl λs4 J4=>⟨v,_,H',J4,r,q⟩
end
def GL (CX:Lg)(X:Cx)(E:XK)(σ:St):Prop:=∀(pins:List (Addr×Obj)) (H:Hp) (s:Shared) (e:Value) (s':Shared),Inv X pins σ H s->CX X.stack H s E e s'->X.xe e s'
abbrev Cx.tries (X:Cx)(pn:List (Addr×Obj))(xe:Value->Shared->Prop):Cx:={ X with pn:=pn,xe:=xe }
def TR (th:Addr->Addr->TS)(D:Ends)(σ:St):XK:=λv c H'=>∃a C,v=.ref a/\c=some C/\th a C D σ (upd H' a (Fo a C))
def Ub (tb:XK->St->TS)(th:Addr->Addr->TS):TS:=λD σ H=>tb (TR th D σ) σ D σ H
theorem Rr {X:Cx}{body:List Stmt}{h₀:ExceptHandler}{hs:List ExceptHandler}{pos:Pos}{tb:XK->St->TS}{th:Addr->Addr->TS}
 (hb:∀pn xe E σ0,GL (M4 X.prog X.w) (X.tries pn xe) E σ0->Iq (X.tries pn xe) body (tb E σ0))(hh:PH X (h₀::hs) th)
 (hst:X.stack=X.env::X.outer:=by rfl)(hf:X.env.frame=some X.env.locals:=by rfl):PS X (.Try body (h₀::hs) [] [] pos) (Ub tb th):=by
 intro pins s σ H D I h
 have toX:∀{xe:Value->Shared->Prop} {pins':List (Addr×Obj)} {σ':St} {H':Hp} {s':Shared},Inv (X.tries (X.pn++pins) xe) pins' σ' H' s'->Inv X pins σ' H' s':=λ{xe pins' σ' H' s'} J=>
  ⟨I.ok,J.os,J.bare,J.base,J.loc,J.cell,J.free,J.freeC,λp hp=>J.pin p (List.mem_append_left _ hp),J.hok,J.len⟩
 refine wpAny_Try_except ?_
 have J:∀xe,Inv (X.tries (X.pn++pins) xe) [] σ H s:=λxe=>
  ⟨⟨I.ok.mod,I.ok.kind,I.ok.glob,I.ok.blt,I.ok.above,I.ok.inj,I.ok.has,I.ok.cab,I.ok.hd,I.ok.frames,I.ok.stk,I.ok.exf,I.ok.bs,I.ok.bsz,I.ok.noex,I.ok.exfs,I.ok.Cz,I.ok.frf⟩,I.os,I.bare,I.base,I.loc,I.cell,I.free,I.freeC,λp hp=>by
    rw[List.append_nil]at hp
    exact I.pin p hp,I.hok,I.len⟩
 refine wpAny_mono (hb (X.pn++pins) (λe s'=>∃a C H2,e=.ref a/\Up X pins σ a C H2 s'/\th a C D σ (upd H2 a (Fo a C))) (TR th D σ) σ ?_ [] s σ H D (J _) h) (λf s1 q=>?_) λe s1 q=>?_
 ·rintro pins' H1 s1 e s2 I1 ⟨a,C,H2,rfl,os,bare,un,hok,fly,ha,a',C',e1,e2,hE⟩
  cases e1;cases e2
  exact⟨a,C,H2,rfl,⟨H1,s1,toX I1,os,bare,un,hok,fly,ha⟩,hE⟩
 ·cases f with
  |next=>obtain⟨σ',H',J,q⟩:=q;exact wpAny_execs_nil ⟨σ',H',toX J,q⟩
  |brk=>obtain⟨σ',H',J,q⟩:=q;exact⟨σ',H',toX J,q⟩
  |cont=>obtain⟨σ',H',J,q⟩:=q;exact⟨σ',H',toX J,q⟩
  |ret u=>obtain⟨v,σ',H',J,r,q⟩:=q;exact⟨v,σ',H',toX J,r,q⟩
 ·obtain⟨a,C,H2,rfl,U,hE⟩:=q
  exact OX I.ok.frames hst hf U λh' U'=>hh pins _ σ H2 D a C U' hE
end L2
namespace L2
open PySem PySem.Spec PyProof.Rows PySem.W PySem.Calls PySem.Builtin PySem.Builtin.ObjectAttr PySem.Builtin.Getset_descriptor
structure Q8 (K:Frag)(C:Addr):Prop where
 ga:findIn K (.ref C) "__getattribute__"=some (some (.builtin "BaseException.__getattribute__"))
 gn:findIn K (.ref C) "__getattr__"=some none
 cl:findIn K (.ref C) "__class__"=some (some (.builtin "object.__class__"))
 gt:specialIn K (.builtin "object.__class__") "__get__"=some (some (.builtin "getset_descriptor.__get__"))
 tk:takesIn K (.builtin "object.__class__")=some true
 ob:mroIn K C (.type "object")=some true
 be:mroIn K C (.type "BaseException")=some true
 cd:(clsIn K C).isSome=true
section
variable {prog:Program}{w:World}{A:Around}{E:Value->Shared->Prop}{s:Shared}{K:Frag}{x C:Addr}{R:Result->Shared->Prop}
theorem Gu {tp:Value}(X:K.In s.heap)(L0:Looks (model prog w) s.heap (typeOf (.ref x)) (.ref C))(L1:Looks (model prog w) s.heap (isSubtype (.ref C) (.type "object")) true)
 (h:R (.ok (.ret (.ref C))) s):codeAny (model prog w) A (.call (.builtin "getset_descriptor.__get__") ⟨[.builtin "object.__class__",.ref x,tp],[]⟩) R s:=by
 obtain⟨hh,g,dr,t,os⟩:=s
 refine codeAny_call_builtin KF.slot_gs.plain KF.entry_gs (KF.slot_gs.check _ _ _ _ _ _ _ _ KF.type_class (KF.args_gs _ _ _) ?_)
 unfold Builtin.«getset_descriptor.__get__» descrGet
 rw[dga_obj]
 refine wpAny_bind (wpAny_pure ?_)
 unfold descrGetter descrCheckInstance descrNameAndClass isInstance
 simp only[KF.owner_class]
 repeat lk
 refine⟨Code.quiet_builtin _ (by decide+kernel),codeAny_builtin KF.entry_class ?_⟩
 unfold Builtin.«object.__class__» shownTypeOf
 repeat lk
 exact h
theorem OY {M:Model}{h:Heap}(X:K.In h)(Z:Q8 K C):Looks M h (find (.ref x) (.ref C) "__class__") (.bind (.builtin "getset_descriptor.__get__") (.builtin "object.__class__")):=by
 have L1:=looks_findIn (M:=M) X Z.cl
 have L2:Looks M h (getOf (some (.builtin "object.__class__"))) (some (.builtin "getset_descriptor.__get__")):=looks_specialIn X Z.gt
 have L3:=looks_takesIn (M:=M) X Z.tk
 refine L1.andThen (L2.andThen ?_)
 exact(show Looks M h (dataDescriptor? (some (.builtin "object.__class__")) (some (.builtin "getset_descriptor.__get__"))) (some (.builtin "getset_descriptor.__get__",.builtin "object.__class__"))from L3.andThen .now).andThen (Looks.tag .now)
theorem M6 {tk:Tok}{Q:Fin->Shared->Prop}(X:K.In s.heap)(Z:Q8 K C)(L0:Looks (model prog w) s.heap (typeOf (.ref x)) (.ref C))(h:Q (.done (.ret (.ref C))) s):
 wpAny (model prog w) A (Builtin.«object.__getattribute__» ⟨[.ref x,.str "__class__" tk],[]⟩) Q E s:=by
 have L1:=looks_mroIn (M:=model prog w) X Z.ob
 have L2:=OY (M:=model prog w) (x:=x) X Z
 obtain⟨hh,g,dr,t,os⟩:=s
 unfold Builtin.«object.__getattribute__»
 repeat(any_goals (first|assumption|(refine wpAny_bind (L0.at ?_))|(refine wpAny_bind (L2.at ?_))|wp_step))
 refine Gu X L0 L1 ?_
 repeat(any_goals (first|assumption|wp_step))
theorem OZ:builtinKind "BaseException.__getattribute__"=some .slot:=by decide+kernel
theorem M7:splitId "BaseException.__getattribute__"=some ("BaseException","__getattribute__"):=by decide+kernel
theorem M8 {M:Model}{nameV:Value}{Q:Unit->Shared->Prop}(LI:Looks M s.heap (isInstance (.ref x) (.type "BaseException")) true)(h:Q () s):
 wpAny M A (checkBuiltinCall "BaseException.__getattribute__" ⟨[.ref x,nameV],[]⟩) Q E s:=
 check_slot (i:="BaseException.__getattribute__") (owner:="BaseException") (n:="__getattribute__") (self:=.ref x) (rest:=[nameV]) (kw:=[]) OZ M7 LI (F.args_bexc_ga (.ref x) nameV) h
theorem Oa {tk:Tok}(X:K.In s.heap)(Z:Q8 K C)(L0:Looks (model prog w) s.heap (typeOf (.ref x)) (.ref C))(h:R (.ok (.ret (.ref C))) s):
 codeAny (model prog w) A (.call (.builtin "BaseException.__getattribute__") ⟨[.ref x,.str "__class__" tk],[]⟩) R s:=
 codeAny_call_builtin F.attrBase_ValueError.ga.plain F.entry_bexc_ga (M8 (L0.andThen (looks_mroIn (M:=model prog w) X Z.be)) (M6 X Z L0 h))
theorem Rt {hh:Heap}{g:Array GenState}{dr:Drawn}{t:Nat}{os:OsState}{tk:Tok}{fill expr:Bool}{Q:Value->Shared->Prop}(X:K.In hh)(Z:Q8 K C)(L0:Looks (model prog w) hh (typeOf (.ref x)) (.ref C))(h:Q (.ref C) ⟨hh,g,dr,t,os⟩):
 wpAny (model prog w) A (getAttrBy (.ref x) (.str "__class__" tk) fill expr) Q E ⟨hh,g,dr,t,os⟩:=by
 have f3:=F.attrBase_ValueError.ga.bind (.ref x)
 have hx0:(expr&&onTheHeap (Value.builtin "BaseException.__getattribute__"))=false:=by cases expr<;>rfl
 have hx2:(Value.builtin "BaseException.__getattribute__"==Value.builtin "object.__getattribute__")=false:=by decide+kernel
 have hx1:(onTheHeap (Value.ref C)&&Value.builtin "BaseException.__getattribute__"==Value.builtin "object.__getattribute__")=false:=by rw[hx2];rfl
 have L1:=looks_findIn (M:=model prog w) X Z.ga
 have L2:=looks_findIn (M:=model prog w) X Z.gn
 repeat(any_goals (first|assumption|(refine wpAny_bind (L0.at ?_))|(refine wpAny_bind (L1.at ?_))|(refine wpAny_bind (L2.at ?_))|wp_step))
 refine Oa X Z L0 ?_
 repeat(any_goals (first|assumption|wp_step))
theorem M9 {hh:Heap}{g:Array GenState}{dr:Drawn}{t:Nat}{os:OsState}{Q:Option Value->Shared->Prop}(X:K.In hh)(Z:Q8 K C)(L0:Looks (model prog w) hh (typeOf (.ref x)) (.ref C))(h:Q (some (.ref C)) ⟨hh,g,dr,t+1,os⟩):
 wpAny (model prog w) A (getAttr? (.ref x) "__class__") Q E ⟨hh,g,dr,t,os⟩:=by
 unfold getAttr? getAttrBy?
 repeat(any_goals (first|assumption|(with_reducible apply Rt X Z L0)|wp_step))
end
end L2
namespace L2
open PySem PySem.Spec PyProof.Rows PySem.W
theorem Ob {K:Frag}{a C:Addr}(Z:Q8 K C):KitX K (.ref a) (.ref C) (λh=>∃o vs,h.get? a=some o/\o.cls=.ref C/\o.data=.fields vs) where
 ty:=λM h _ ⟨o,vs,e1,e2,_⟩=>e2▸(Looks.ld e1).andThen .now
 it:=λM h X _=>by
  obtain⟨cd,hcD⟩:=Option.isSome_iff_exists.mp Z.cd
  unfold clsIn at hcD
  split at hcD
  ·rename_i c' d' cd' sl' ho
   intro A' Q' E' s' k q
   unfold isType loadHead
   exact wpAny_bind (wpAny_loadPart (k _ _ (X _ _ ho)) (wpAny_pure q))
  ·cases hcD
 ne:=λh tp dd its n sl X htp=>by
  obtain⟨cd,hcD⟩:=Option.isSome_iff_exists.mp Z.cd
  refine Bool.eq_false_iff.mpr λq=>?_
  have e:C=tp:=Value.ref.inj (beq_iff_eq.mp q)
  subst e
  unfold clsIn at hcD
  split at hcD
  ·rename_i c' d' cd' sl' ho
   have z:=(X _ _ ho).symm.trans htp
   cases z
  ·cases hcD
 ca:=λ{prog w A E Q s} X I k=>by
  obtain⟨hh,g,d,t,os⟩:=s
  obtain⟨o,vs,e1,e2,_⟩:=I
  exact M9 (C:=C) X Z (e2▸(Looks.ld e1).andThen .now) k
section
variable {X:Cx}
theorem JQ:∀{Ds:List Addr} {its:List Value},Vals (Ds.map V.ref) its->its=Ds.map Value.ref
 |[],_,.nil=>rfl
 |D::Ds,_::_,.cons r h=>by rw[JQ h];cases(show _=Value.ref D from r);rfl
theorem Gv (K:Frag)(hK:X.K=K:=by rfl):Bs X (.builtin "isinstance") (λvs H Q=>∃(a C c:Addr) (Ds:List Addr) (b:Bool),vs=[.ref a,.ref c]/\H a=some (Fo a C)/\H c=some (.tup (Ds.map V.ref))/\Q8 K C/\kitAny K (.ref C) (Ds.map Value.ref)=some b/\Q (.bl b) H):=by
 subst hK
 intro pins s σ H xs us Q I r h
 obtain⟨a,C,c,Ds,b,rfl,ha,hc,Z,e,q⟩:=h
 obtain⟨u,v,rfl,ru,rv⟩:=vals2 r
 cases(show u=Value.ref a from ru)
 cases(show v=Value.ref c from rv)
 obtain⟨_,its,rv2,⟨o,h1,h2,n,h3⟩⟩:=(show A2 X.prog X.w H s.heap c (.tup (Ds.map V.ref))from I.hok c _ hc)
 cases JQ rv2
 obtain⟨cls,dd,dat,sl⟩:=o
 cases h2;cases h3
 exact kia_tup (Ob Z) I.Gn (I.hok a _ ha).1 h1 e (λz=>nomatch z) λtk=>⟨.bl b,H,I.tok tk,rfl,q⟩
end
abbrev Uc:List Value:=[.type "ValueError",.type "Exception",.type "BaseException",.type "object"]
theorem QU {K:Frag}{h:Heap}{C:Addr}{bmB:List Value}{newId:String}(X:K.In h)(q:excIn K C bmB newId=true):
 ∃bm N nm q bs hdct sn sub ab col dd k0 k1 k2 k3 k5 mN,h.get? C=some (excClassObj nm q C N bs bm hdct sn sub ab col dd k0 k1 k2 k3 k5 newId)/\h.Ns N mN/\mN "__init__"=none/\OwnTail h bmB bm:=by
 unfold excIn at q
 split at q
 ·rename_i dd cd sl ho
  split at q
  ·rename_i C' bm k0 k1 k2 k3 n k5 hm hs
   simp only[Bool.and_eq_true,beq_iff_eq,Bool.not_eq_true']at q
   obtain⟨⟨⟨⟨⟨rfl,rfl⟩,hdel⟩,ht⟩,hok⟩,hni⟩:=q
   obtain⟨nm,bs,mro,ns,qn,hd,sn,sub,ab,col,del⟩:=cd
   dsimp only at hm hdel hok hni
   subst hm hdel
   have hsl:sl=#[k0,k1,k2,k3,some (.builtin n),k5]:=by
    obtain⟨l⟩:=sl
    simp only at hs
    rw[hs]
   subst hsl
   exact⟨bm,ns,nm,qn,bs,hd,sn,sub,ab,col,dd,k0,k1,k2,k3,k5,_,X _ _ ho,.of_isNs (isNs_of_in X hok),nsMap_none_of_in X hok hni,tail_of_in X ht⟩
  ·cases q
 ·cases q
def Ru (E:XK)(C:Addr)(ta:TA):TS:=λ_ σ H=>ta σ H λvs H1=>vs.length<=sizeLine/\∀a,H1 a=none->E (.ref a) (some C) H1
theorem Oc {X:Cx}{E:XK}{x:Str}{C:Addr}{e₀:Expr}{rest:List Expr}{ta:TA}{np cpos pos:Pos}(R:Raises X E)(hm:X.mg x=some (.ref C))(hq:excIn X.K C Uc "ValueError.__new__"=true)(hg:Gl X x)(ha:PA X (e₀::rest) ta)
 (hc:X.calm=true:=by rfl)(he:starEach (e₀::rest) X.env=(false,eval e₀ X.env)::starEach rest X.env:=by rfl)(hplain:(backTo cpos (starEach rest X.env)).any (·.1)=false:=by rfl)(hd:(x==("__debug__":Str))=false:=by decide):
 PS X (.Raise (some (.Call (.Name x np) (e₀::rest) [] cpos)) none pos) (Ru E C ta):=by
 intro pins s σ H D I h
 obtain⟨tl,N,nm,q,bs,hdct,sn,sub,ab,col,dd,k0,k1,k2,k3,k5,mN,hC,hN,hni,T⟩:=QU I.ok.mod.kin hq
 refine wpAny_Raise_call_subT (C:=C) (nm:=nm) (q:=q) (N:=N) (bs:=bs) (bm:=tl) (hdct:=hdct) (sn:=sn) (sub:=sub) (ab:=ab) (col:=col) (dd:=dd) (k0:=k0) (k1:=k1) (k2:=k2) (k3:=k3) (k5:=k5)
  F.excBase_ValueError (mN:=mN) (T.hasType F.excBase_ValueError.hasBase) (I.ok.hd hc) (by rw[he];show(false||(backTo cpos (starEach rest X.env)).any (·.1))=false;rw[hplain];rfl) hni (Ed I hg hm ⟨rfl,?_⟩ hd)
 have hh:=ha cpos pins s σ H _ I h
 rw[he]at hh ⊢
 refine Calls.evalArgs_plain (wpAny_mono hh (λvs s₂ h₂=>?_) λ_ _ y=>y)
 obtain⟨us,H1,I1,r,hz,q⟩:=h₂
 refine⟨rfl,by rw[<-r.length];exact hz,I1.bk _ _ hC,hN.keeps I1.bk,T.keeps I1.bk,λh' e mk=>R pins σ H1 s₂ h' e C vs I1 mk (q e ?_)⟩
 cases z:H1 e with
 |none=>rfl
 |some u=>
  obtain⟨o,eo⟩:=(I1.hok e u z).obj
  rw[mk.new]at eo;cases eo
def QV (P:Program)(w:World)(K:Frag)(mg:Str->Option Value)(base:Heap)(x:Str)(k:Nat)(ps:List Str)(sp:Sp):Prop:=
 ∃f fd,Ef P w K mg base (M4 P w) k f fd ps sp/\Binds K fd ps []/\keepIn K (.ref f)=true/\mg x=some (.ref f)
section
variable {P:Program}{w:World}{K:Frag}{mg:Str->Option Value}{base:Heap}
theorem Df.Ud {x:Str}{st:Stmt}{N ps:List Str}{k:Nat}{sp:Sp}(D:Df K mg x st)(S:AW N ps (AJ st))
 (hb:∀(kV doc pm:Value) (an:Option Addr) (cdv ct:Value) (us:List Value),us.length=ps.length->bindArgs (fnOf x x (Cq st) (Bw st) (AJ st) .none kV doc pm an cdv ct) ⟨us,[]⟩=pure (ps.zip us))
 (len:∀vs H Q E,sp vs H Q E->vs.length=ps.length)
 (hbody:∀(f:Addr) (cdv:Value) (A:Around) (outer:List Env) (s:Shared) (H:Hp) (vs:List V) (Q:VK) (E:XK),B6 k (A.deeper (envOfC x (AJ st) s.heap.objs.size f cdv))->sp vs H Q E->
  ∃t,Iq (Bp (M4 P w) P w K mg base N x (AJ st) f cdv A outer s H E) (Bw st) t/\t { nx:=λ_ H'=>Q .A3 H',rt:=Q } (start N vs) H):QV P w K mg base x (k+1) ps sp:=by
 obtain⟨f,fd,F,m⟩:=D
 refine⟨f,fd,?_,F.binds hb,F.kp,m⟩
 obtain⟨oc,od,kV,doc,pm,an,cdv,ct,osl,rfl,lk,hcd⟩:=F.ex
 exact Nn lk hcd S len λA outer s H vs Q E hr hsp=>hbody f cdv A outer s H vs Q E hr hsp
end
section
variable {X:Cx}{x:Str}{k:Nat}{ps:List Str}{sp:Sp}{p pos:Pos}{e:Expr}{es:List Expr}{t:TA}{E:XK}{σ0:St}
theorem QW {f:Addr}{fd:FuncData}{pins:List (Addr×Obj)}{H:Hp}{s:Shared}{Q:VK}{us:List Value}{vs:List V}(F:Ef X.prog X.w X.K X.mg X.base (M4 X.prog X.w) k f fd ps sp)(hr:B6 k X.A)(hb:Binds X.K fd ps [])(hx:GL (M4 X.prog X.w) X E σ0)
 (I:Inv X pins σ0 H s)(r:Vals vs us)(h:sp (vs++[]) H Q E):wpAny (model X.prog X.w) X.A (call (.ref f) us) (EP X pins σ0 Q) X.xe s:=by
 have r2:Vals (vs++[]) (us++[]):=r.append .nil
 have hl:(us++[]).length=ps.length:=by rw[<-r2.length];exact F.len _ _ _ _ h
 refine wpAny_call (codeAny_mono (F.run X.A X.stack s H ⟨us,[]⟩ (us++[]) (vs++[]) Q E hr I.Nl (hb s us I.Gn hl) r2 h) λr s' hq=>?_)
 cases r with
 |error e=>exact hx pins H s e s' I hq
 |ok fl=>
  cases fl with
  |ret u=>exact I.after hq
  |next=>exact False.elim hq
  |brk=>exact False.elim hq
  |cont=>exact False.elim hq
theorem Od (G:QV X.prog X.w X.K X.mg X.base x k ps sp)(hx:GL (M4 X.prog X.w) X E σ0)(hr:B6 k X.A)(hg:Gl X x)(ha:PA X (e::es) t)
 (hdb:(x==("__debug__":Str))=false:=by decide)(he:starEach (e::es) X.env=(false,eval e X.env)::starEach es X.env:=by rfl)(hpl:(backTo pos (starEach es X.env)).any (·.1)=false:=by rfl):
 PE X (.Call (.Name x p) (e::es) [] pos) (λσ H Q=>σ=σ0/\Nm sp [] E t σ H Q):=by
 obtain⟨f,fd,F,b,kp,hm⟩:=G
 rintro pins s σ H Q I ⟨rfl,h⟩
 refine wpAny_Call_Name_kw (Ed I hg hm ?_ hdb)
 refine callWith_K (h₀:=X.base) I.ok.mod.kin kp (BG (ha pos pins s σ H _ I h) λus s1 ⟨vs,H1,I1,r,q⟩=>⟨I1.Gn,?_⟩) he hpl
 exact QW F hr b hx I1 r q
end
end L2
namespace L2
open PySem PySem.Spec PyProof.Rows PySem.W
section
variable {X:Cx}
end
end L2
namespace L2
section
variable {NL:List PySem.Str}{ix:List Nat}{g:TG}{tt:TT}{te:TE}{σ:St}{H1:Hp}{Qs:Hp->Prop}{acc:PySem.Addr}
theorem FP {K:PySem.W.Frag}{a:PySem.Addr}{xs:List V}(hn:xs.length < 1000)(Pv:Nat->List V->Hp->Prop)
 (hl:∀i ys H2,Pv i ys H2->Ar K H2 a xs)(hacc:∀i ys H2,Pv i ys H2->H2 acc=some (.lst ys)/\ys.length<=i)(h0:Pv 0 [] (upd H1 acc (.lst [])))(hstop:∀ys H2,Pv xs.length ys H2->Qs H2)
 (hturn:∀i x ys H2,xs[i]?=some x->Pv i ys H2->g x (As NL ix σ) H2 λσ' H4=>σ'.drop NL.length=ix.map (λj=>σ.getD j none)/\tt σ' H4 λb H5=>
  if b=true then te σ' H5 λv H6=>H6 acc=some (.lst ys)/\Pv (i+1) (ys++[v]) (upd H6 acc (.lst (ys++[v])))else Pv (i+1) ys H5):
 ∃W:Nat->Nat->List V->Hp->Prop,(∃m,W 0 m [] (upd H1 acc (.lst [])))/\
 ∀i m ys H2,W i m ys H2->H2 acc=some (.lst ys)/\ys.length < PySem.sizeLine/\
  (((Qy K a).stop i H2/\Qs H2)\/((Qy K a).go i H2/\∃N:List V->Hp->Prop,(∀ys' H',N ys' H'->∃m',m' < m/\W (i+1) m' ys' H')/\
    ∀x H3,(Qy K a).yld i H2 x H3->g x (As NL ix σ) H3 λσ' H4=>σ'.drop NL.length=ix.map (λj=>σ.getD j none)/\tt σ' H4 λb H5=>
     if b=true then te σ' H5 λv H6=>H6 acc=some (.lst ys)/\N (ys++[v]) (upd H6 acc (.lst (ys++[v])))else N ys H5)):=by
 refine Cr xs.length hn Pv hacc h0 (λys H2 hp=>⟨⟨xs,hl _ _ _ hp,Nat.le_refl _⟩,hstop ys H2 hp⟩) λi ys H2 hi hp=>?_
 have hs:=hl _ _ _ hp
 refine⟨⟨xs,xs[i],hs,List.getElem?_eq_getElem hi⟩,?_⟩
 rintro x H3 ⟨rfl,hx⟩
 exact hturn i x ys H3 (hx xs hs) hp
end
end L2
namespace L2
open PySem PySem.Spec PyProof.Rows PySem.W
section
variable {X:Cx}
theorem FQ (hu:X.A.units < cLine):DS X (compareOp .NotEq) (λx y H Q=>∃a b xs,x=.ref a/\y=.ref b/\Am X.K H a xs/\Am X.K H b []/\Q (.bl (!xs.isEmpty)) H):=by
 intro pins s σ H x y v u Q I rx ry h
 obtain⟨a,b,xs,rfl,rfl,h1,h2,q⟩:=h
 cases xs with
 |nil=>exact Ms hu pins s σ H _ _ v u Q I rx ry ⟨a,b,[],[],rfl,rfl,h1,h2,rfl,rfl,q⟩
 |cons z zs=>
  cases(show v=Value.ref a from rx)
  cases(show u=Value.ref b from ry)
  obtain⟨us,r1,l1,_⟩:=I.list h1
  obtain⟨ws,r2,l2,_⟩:=I.list h2
  have e1:=r1.length
  have e2:=r2.length
  rw[List.length_cons]at e1
  rw[List.length_nil]at e2
  exact SeqAt.RcNeAt.lists_lengths l1.isList l2.isList (by simp;omega) hu _ _ _ _ ⟨.bl _,H,I,rfl,q⟩
end
end L2
namespace L2
open PySem PySem.Spec PyProof.Rows PySem.W
theorem EK:entryFor table "list.extend.loop"=some Builtin.«list.extend.loop»:=by kernel_rfl
theorem CM:plainId "list.extend.loop"=true:=by kernel_rfl
theorem JR {M:Model}{A:Around}{E:Value->Shared->Prop}{s:Shared}{a:Addr}{Q:Option Obj->Shared->Prop}(h:Q (s.heap.get? a) s):wpAny M A (loadIfAlive a) Q E s:=by
 intro Γ p hΓ
 unfold loadIfAlive
 rw[Sem.wp_loadIfAlive]
 exact h
abbrev Dm (h:Heap)(z TI TO p:Addr)(b:Bool):Prop:=h.get? z=some { cls:=.type "zip",data:=.fields #[rawInt (p:Int),.bool b,.bool false,.ref TI,.ref TO] }
section
variable {prog:Program}{w:World}{A:Around}{E:Value->Shared->Prop}{s:Shared}
theorem JS {z TI TO p:Addr}{b:Bool}{Q:Bool->Shared->Prop}(hz:Dm s.heap z TI TO p b)(hp:∃o,s.heap.get? p=some o)
 (h:∀h',Dm h' z TI TO p true->Heap.SameBut z s.heap h'->Q false { s with heap:=h' }):wpAny (model prog w) A (Builtin.SmallTypes.ownedTupleIsFree (.ref z)) Q E s:=by
 obtain⟨o,ho⟩:=hp
 unfold Builtin.SmallTypes.ownedTupleIsFree
 refine wpAny_bind (wpAny_field hz rfl (x:=rawInt (p:Int)) rfl ?_)
 show wpAny _ _ (loadIfAlive (p:Int).toNat >>= _) _ _ _
 refine wpAny_bind (JR ?_)
 rw[Int.toNat_natCast,ho]
 show wpAny _ _ (field (.ref z) 1 >>= _) _ _ _
 refine wpAny_bind (wpAny_field hz rfl (x:=.bool b) rfl ?_)
 cases b with
 |true=>exact wpAny_pure (h s.heap hz ⟨rfl,λ_ _=>rfl⟩)
 |false=>
  show wpAny _ _ (setField (.ref z) 1 (.bool true) >>= _) _ _ _
  exact wpAny_bind (wpAny_setField_rec hz (by simp) λh₁ hz₁ hs₁=>wpAny_pure (h h₁ hz₁ hs₁))
theorem GN {z TI TO i1 i2 p:Addr}{fp1 fp2:List Addr}{n1 n2 k:Nat}{P1 P2:Nat->Value->Prop}{S1 S2:Nat->Heap->Prop}{bb:Bool}{Q:Value->Shared->Prop}(Z:ZA z TI TO i1 i2 fp1 fp2)
 (D1:Draws prog w A i1 fp1 n1 P1 S1)(D2:Draws prog w A i2 fp2 n2 P2 S2)
 (hz:Dm s.heap z TI TO p bb)(hp:∃o,s.heap.get? p=some o)(hTI:IsPair s.heap TI (.ref i1) (.ref i2))(h1:S1 k s.heap)(h2:S2 k s.heap)(l1:k < n1)(l2:k < n2)
 (hQ:∀x y h' tk,P1 k x->P2 k y->Dm h' z TI TO p true->S1 (k+1) h'->S2 (k+1) h'->IsPair h' s.heap.objs.size x y->h'.objs.size=s.heap.objs.size+1->
  (∀c o,c≠z->c≠i1->c≠i2->s.heap.get? c=some o->h'.get? c=some o)->Q (.ref s.heap.objs.size) { s with heap:=h',toks:=tk }):
 wpAny (model prog w) A (Builtin.«zip.__next__» ⟨[.ref z],[]⟩) (λfin s'=>∃v,fin=.done (.ret v)/\Q v s') E s:=by
 obtain⟨hp₀,g,d,tk₀,os⟩:=s
 show wpAny _ _ (field (.ref z) 2 >>= _) _ _ _
 refine wpAny_bind (wpAny_field hz rfl (x:=.bool false) rfl ?_)
 show wpAny _ _ (field (.ref z) 3 >>= _) _ _ _
 refine wpAny_bind (wpAny_field hz rfl (x:=.ref TI) rfl ?_)
 refine wpAny_bind (wpAny_seqItems hTI rfl ?_)
 show wpAny _ _ (Builtin.SmallTypes.ownedTupleIsFree (.ref z) >>= _) _ _ _
 refine wpAny_bind (JS hz hp λh₁ hz₁ hs₁=>?_)
 replace hs₁:Heap.SameBut z hp₀ h₁:=hs₁
 simp only[Bool.false_eq_true,if_false,List.forIn_toArray,List.forIn_cons,List.forIn_nil]
 refine wpAny_bind (wpAny_bind (wpAny_bind (wpAny_holding ?_)))
 show wpAny _ _ (Builtin.SmallTypes.nextOf (.ref i1) >>= _) _ _ _
 have h1₁:S1 k h₁:=D1.frame _ _ _ h1 λc hc o e=>hs₁.extBut _ _ (λq=>Z.z1 (q▸hc)) e
 refine wpAny_bind (D1.item k _ _ _ l1 h1₁ λx h₂ tk₂ hx h1₂ hs₂=>wpAny_pure ?_)
 replace hs₂:Heap.SameBut i1 h₁ h₂:=hs₂
 refine wpAny_pure ?_
 refine wpAny_bind (wpAny_bind (wpAny_holding ?_))
 show wpAny _ _ (Builtin.SmallTypes.nextOf (.ref i2) >>= _) _ _ _
 have h2₂:S2 k h₂:=D2.frame _ _ _ h2 λc hc o e=>hs₂.extBut _ _ (λq=>Z.a2 (q▸hc)) (hs₁.extBut _ _ (λq=>Z.z2 (q▸hc)) e)
 refine wpAny_bind (D2.item k _ _ _ l2 h2₂ λy h₃ tk₃ hy h2₃ hs₃=>wpAny_pure ?_)
 replace hs₃:Heap.SameBut i2 h₂ h₃:=hs₃
 refine wpAny_pure (wpAny_pure ?_)
 refine wpAny_bind (wpAny_newTuple (wpAny_pure ⟨_,rfl,?_⟩) (by show 2<=sizeLine;decide))
 have hsz:h₃.objs.size=hp₀.objs.size:=by rw[hs₃.1,hs₂.1,hs₁.1]
 have up:∀c o,h₃.get? c=some o->(h₃.push { cls:=.type "tuple",data:=.seq #[x,y] }).get? c=some o:=λc o e=>Heap.get?_push_of_some _ e
 have hz₃:Dm h₃ z TI TO p true:=hs₃.extBut _ _ Z.i2z.symm (hs₂.extBut _ _ Z.i1z.symm hz₁)
 have h1₃:S1 (k+1) h₃:=D1.frame _ _ _ h1₂ λc hc o e=>hs₃.extBut _ _ (λq=>Z.a1 (q▸hc)) e
 have hT:IsPair (h₃.push { cls:=.type "tuple",data:=.seq #[x,y] }) h₃.objs.size x y:=Heap.get?_push_size _ rfl
 have e8:(h₃.push { cls:=.type "tuple",data:=.seq #[x,y] }).objs.size=hp₀.objs.size+1:=by rw[Heap.size_push,hsz]
 have:=hQ x y (h₃.push { cls:=.type "tuple",data:=.seq #[x,y] }) tk₃ hx hy (up _ _ hz₃) (D1.frame _ _ _ h1₃ λc _ o e=>up c o e) (D2.frame _ _ _ h2₃ λc _ o e=>up c o e) (by rw[<-hsz];exact hT) e8
  λc o c1 c3 c4 e=>up c o (hs₃.extBut _ _ c4 (hs₂.extBut _ _ c3 (hs₁.extBut _ _ c1 e)))
 rw[<-hsz]at this
 exact this
theorem Gw {z TI TO i1 i2 p:Addr}{fp1 fp2:List Addr}{n1 k:Nat}{P1:Nat->Value->Prop}{S1:Nat->Heap->Prop}{bb:Bool}{Q:Fin->Shared->Prop}(Z:ZA z TI TO i1 i2 fp1 fp2)
 (D1:Draws prog w A i1 fp1 n1 P1 S1)
 (hz:Dm s.heap z TI TO p bb)(hp:∃o,s.heap.get? p=some o)(hTI:IsPair s.heap TI (.ref i1) (.ref i2))(h1:S1 k s.heap)(hend:n1=k)
 (hE:∀h' e tk,(∀c o,c≠z->c≠i1->s.heap.get? c=some o->h'.get? c=some o)->(∃o,h'.get? e=some o/\o.cls=.type "StopIteration")->E (.ref e) { s with heap:=h',toks:=tk }):
 wpAny (model prog w) A (Builtin.«zip.__next__» ⟨[.ref z],[]⟩) Q E s:=by
 obtain⟨hp₀,g,d,tk₀,os⟩:=s
 subst hend
 show wpAny _ _ (field (.ref z) 2 >>= _) _ _ _
 refine wpAny_bind (wpAny_field hz rfl (x:=.bool false) rfl ?_)
 show wpAny _ _ (field (.ref z) 3 >>= _) _ _ _
 refine wpAny_bind (wpAny_field hz rfl (x:=.ref TI) rfl ?_)
 refine wpAny_bind (wpAny_seqItems hTI rfl ?_)
 show wpAny _ _ (Builtin.SmallTypes.ownedTupleIsFree (.ref z) >>= _) _ _ _
 refine wpAny_bind (JS hz hp λh₁ hz₁ hs₁=>?_)
 replace hs₁:Heap.SameBut z hp₀ h₁:=hs₁
 simp only[Bool.false_eq_true,if_false,List.forIn_toArray,List.forIn_cons,List.forIn_nil]
 refine wpAny_bind (wpAny_bind (wpAny_bind (wpAny_holding ?_)))
 show wpAny _ _ (Builtin.SmallTypes.nextOf (.ref i1) >>= _) _ _ _
 have h1₁:=D1.frame _ _ h₁ h1 λc hc o e=>hs₁.extBut _ _ (λq=>Z.z1 (q▸hc)) e
 exact wpAny_bind (D1.done _ _ _ h1₁ λh₂ e hs₂ he=>hE h₂ e _ (λc o c1 c3 x=>hs₂ _ _ c3 (hs₁.extBut _ _ c1 x)) he)
end
def Oe (κ1 κ2:SK)(z TI TO i1 i2:Addr)(k:Nat)(h:Heap):Prop:=
 ((IsZip h z TI TO .none)\/∃p b,Dm h z TI TO p b/\(∃o,h.get? p=some o))/\IsPair h TI (.ref i1) (.ref i2)/\(∃a b,IsPair h TO a b)/\κ1.own i1 k h/\κ2.own i2 k h
theorem Oe.keep {κ1 κ2:SK}{z TI TO i1 i2:Addr}{k:Nat}{h h':Heap}(x:Oe κ1 κ2 z TI TO i1 i2 k h)(k1:∀b∈[z,TI,TO,i1,i2],∀o,h.get? b=some o->h'.get? b=some o)(k2:∀b o,h.get? b=some o->∃o',h'.get? b=some o'):Oe κ1 κ2 z TI TO i1 i2 k h':=by
 obtain⟨hz,hTI,⟨a,c,hTO⟩,h1,h2⟩:=x
 refine⟨?_,k1 TI (by simp) _ hTI,⟨a,c,k1 TO (by simp) _ hTO⟩,SK.Dc h1 λo q=>k1 i1 (by simp) o q,SK.Dc h2 λo q=>k1 i2 (by simp) o q⟩
 rcases hz with hz|⟨p,b,hz,o,hp⟩
 ·exact .inl (k1 z (by simp) _ hz)
 ·exact .inr ⟨p,b,k1 z (by simp) _ hz,k2 _ _ hp⟩
section
variable {X:Cx}{pins:List (Addr×Obj)}{σ:St}{H:Hp}{s:Shared}{A:Around}{E:Value->Shared->Prop}{κ1 κ2:SK}{z TI TO i1 i2:Addr}
theorem Q9 {xs ys:List V}(hnd:[z,TI,TO,i1,i2].Nodup)(hf:∀b∈[z,TI,TO,i1,i2],Bn X pins H b)(hx:κ1.has H xs)(hy:κ2.has H ys):ZA z TI TO i1 i2 (i1::κ1.box) (i2::κ2.box):=by
 simp only[List.nodup_cons,List.mem_cons,List.not_mem_nil,or_false,not_or]at hnd
 obtain⟨⟨n1,n2,n3,n4⟩,⟨n5,n6,n7⟩,⟨n8,n9⟩,n10,_⟩:=hnd
 have nb:∀{κ:SK} {zs:List V} {b it:Addr},κ.has H zs->H b=none->b≠it->b∉it::κ.box:=λ{κ zs b it} hκ hb hne q=>by
  rcases List.mem_cons.mp q with q|q
  ·exact hne q
  ·exact SK.Dd hκ q hb
 exact{ TIz:=Ne.symm n1,TOz:=Ne.symm n2,i1z:=Ne.symm n3,i2z:=Ne.symm n4,TITO:=n5,TIi1:=n6,TIi2:=n7,TOi1:=n8,TOi2:=n9,i12:=n10
        z1:=nb hx (hf z (by simp)).1 n3,z2:=nb hy (hf z (by simp)).1 n4,o1:=nb hx (hf TO (by simp)).1 n8,o2:=nb hy (hf TO (by simp)).1 n9,a1:=nb hx (hf i2 (by simp)).1 (Ne.symm n10),a2:=nb hy (hf i1 (by simp)).1 n10 }
theorem Of {k:Nat}{xs ys:List V}{x y:V}{Q:Option Value->Shared->Prop}(I:Inv X pins σ H s)(hnd:[z,TI,TO,i1,i2].Nodup)(hf:∀b∈[z,TI,TO,i1,i2],Bn X pins H b)(st:Oe κ1 κ2 z TI TO i1 i2 k s.heap)
 (hx:κ1.has H xs)(hy:κ2.has H ys)(hxi:xs[k]?=some x)(hyi:ys[k]?=some y)(hh:A.in1.handled=none)
 (h:∀h' tk,Inv X pins σ (upd H s.heap.objs.size (.tup [x,y])) { s with heap:=h',toks:=tk }->Oe κ1 κ2 z TI TO i1 i2 (k+1) h'->(∀b ob,b∉[z,TI,TO,i1,i2]->s.heap.get? b=some ob->h'.get? b=some ob)->Q (some (.ref s.heap.objs.size)) { s with heap:=h',toks:=tk }):
 wpAny (model X.prog X.w) A (pyNext (.ref z)) Q E s:=by
 obtain⟨hz,hTI,⟨a,c,hTO⟩,h1,h2⟩:=st
 have l1:k < xs.length:=(List.getElem?_eq_some_iff.mp hxi).1
 have l2:k < ys.length:=(List.getElem?_eq_some_iff.mp hyi).1
 obtain⟨P1,S1,D1,s1,r1,w1⟩:=Bt (A:=A.in1) I hx h1 (hf i1 (by simp)).1 hh
 obtain⟨P2,S2,D2,s2,r2,w2⟩:=Bt (A:=A.in1) I hy h2 (hf i2 (by simp)).1 hh
 have Z:=Q9 hnd hf hx hy
 have fin:∀u v h' tk,P1 k u->P2 k v->((IsZip h' z TI TO .none)\/∃p b,Dm h' z TI TO p b/\(∃o,h'.get? p=some o))->IsPair h' TI (.ref i1) (.ref i2)->(∃a b,IsPair h' TO a b)->S1 (k+1) h'->S2 (k+1) h'->IsPair h' s.heap.objs.size u v->
  (∀b ob,b∉[z,TI,TO,i1,i2]->s.heap.get? b=some ob->h'.get? b=some ob)->Q (some (.ref s.heap.objs.size)) { s with heap:=h',toks:=tk }:=λu v h' tk hu hv hz' hTI' hTO' s1' s2' hT' kk=>by
  obtain⟨x',hx',rx⟩:=r1 k u hu
  obtain⟨y',hy',ry⟩:=r2 k v hv
  have ex:x'=x:=Option.some.inj (hx'.symm.trans hxi)
  have ey:y'=y:=Option.some.inj (hy'.symm.trans hyi)
  subst ex ey
  exact h h' tk (I.FI (tk:=tk) hf kk (Nat.le_refl _) ⟨⟨(by show 2<=sizeLine;decide),_,hT',rfl⟩,[u,v],.cons rx (.cons ry .nil),_,hT',rfl,0,rfl⟩) ⟨hz',hTI',hTO',w1 _ _ s1',w2 _ _ s2'⟩ kk
 have hT:s.TypeIs (.ref z) "zip":=by
  rcases hz with hz|⟨p,b,hz,_⟩
  ·exact⟨_,hz,rfl⟩
  ·exact⟨_,hz,rfl⟩
 unfold pyNext
 refine wpAny_bind (wpAny_attempt (wpAny_callSpecial?_slot (name:=Str.ofString "__next__") hT F.slot_zip_next (wpAny_call_entry F.slot_zip_next hT F.entry_zip_next ?_ (F.args_zip_next_1 _))))
 rcases hz with hz|⟨p,b,hz,hp⟩
 ·refine Dh Z D1 D2 hz hTI hTO s1 s2 l1 l2 λu v h' tk hu hv hz' hTO' s1' s2' hT' hsz hk=>wpAny_pure (fin u v h' tk hu hv (.inr ⟨_,_,hz',_,hT'⟩) (hk _ _ Z.TIz Z.TITO Z.TIi1 Z.TIi2 hTI) ⟨_,_,hTO'⟩ s1' s2' hT' λb ob hb q=>hk b ob ?_ ?_ ?_ ?_ q)<;>(intro e;exact hb (by simp[e]))
 ·refine GN Z D1 D2 hz hp hTI s1 s2 l1 l2 λu v h' tk hu hv hz' s1' s2' hT' hsz hk=>wpAny_pure (fin u v h' tk hu hv (.inr ⟨_,_,hz',?_⟩) (hk _ _ Z.TIz Z.TIi1 Z.TIi2 hTI) ⟨_,_,hk _ _ Z.TOz Z.TOi1 Z.TOi2 hTO⟩ s1' s2' hT' λb ob hb q=>hk b ob ?_ ?_ ?_ q)
  ·obtain⟨o,hp⟩:=hp
   by_cases q1:p=z
   ·rw[q1];exact⟨_,hz'⟩
   ·by_cases q2:p=i1
    ·obtain⟨o,e,_⟩:=SK.Bx (w1 _ _ s1');rw[q2];exact⟨o,e⟩
    ·by_cases q3:p=i2
     ·obtain⟨o,e,_⟩:=SK.Bx (w2 _ _ s2');rw[q3];exact⟨o,e⟩
     ·exact⟨o,hk p o q1 q2 q3 hp⟩
  all_goals(intro e;exact hb (by simp[e]))
theorem Og {xs ys:List V}{Q:Option Value->Shared->Prop}(I:Inv X pins σ H s)(hnd:[z,TI,TO,i1,i2].Nodup)(hf:∀b∈[z,TI,TO,i1,i2],Bn X pins H b)(st:Oe κ1 κ2 z TI TO i1 i2 xs.length s.heap)
 (hx:κ1.has H xs)(hy:κ2.has H ys)(hh:A.in1.handled=none)
 (h:∀h' tk,(∀b ob,b∉[z,TI,TO,i1,i2]->s.heap.get? b=some ob->h'.get? b=some ob)->Q none { s with heap:=h',toks:=tk }):
 wpAny (model X.prog X.w) A (pyNext (.ref z)) Q E s:=by
 obtain⟨hz,hTI,⟨a,c,hTO⟩,h1,h2⟩:=st
 obtain⟨P1,S1,D1,s1,r1,w1⟩:=Bt (A:=A.in1) I hx h1 (hf i1 (by simp)).1 hh
 obtain⟨P2,S2,D2,s2,r2,w2⟩:=Bt (A:=A.in1) I hy h2 (hf i2 (by simp)).1 hh
 have Z:=Q9 hnd hf hx hy
 have hT:s.TypeIs (.ref z) "zip":=by
  rcases hz with hz|⟨p,b,hz,_⟩
  ·exact⟨_,hz,rfl⟩
  ·exact⟨_,hz,rfl⟩
 unfold pyNext
 refine wpAny_bind (wpAny_attempt (wpAny_callSpecial?_slot (name:=Str.ofString "__next__") hT F.slot_zip_next (wpAny_call_entry F.slot_zip_next hT F.entry_zip_next ?_ (F.args_zip_next_1 _))))
 rcases hz with hz|⟨p,b,hz,hp⟩
 ·refine EI Z D1 D2 hz hTI hTO s1 s2 (.inl rfl) λh' e tk hk he=>?_
  obtain⟨o,ho,hcl⟩:=he
  refine wpAny_bind (wpAny_isInstance (T:="StopIteration") (b:=true) ⟨o,ho,hcl⟩ isSubtype_stop ?_)
  exact wpAny_pure (h h' tk λb ob hb q=>hk b ob (λe=>hb (by simp[e])) (λe=>hb (by simp[e])) (λe=>hb (by simp[e])) (λe=>hb (by simp[e])) q)
 ·refine Gw Z D1 hz hp hTI s1 rfl λh' e tk hk he=>?_
  obtain⟨o,ho,hcl⟩:=he
  refine wpAny_bind (wpAny_isInstance (T:="StopIteration") (b:=true) ⟨o,ho,hcl⟩ isSubtype_stop ?_)
  exact wpAny_pure (h h' tk λb ob hb q=>hk b ob (λe=>hb (by simp[e])) (λe=>hb (by simp[e])) q)
end
def Be (H0 H:Hp)(as:List Addr)(xs ys:List V):Prop:=
 as.Nodup/\(∀b,b∉as->H b=H0 b)/\∀(i:Nat) (a:Addr),as[i]?=some a->H0 a=none/\∃x y,xs[i]?=some x/\ys[i]?=some y/\H a=some (.tup [x,y])
theorem Be.nil {H:Hp}{xs ys:List V}:Be H H [] xs ys:=⟨List.nodup_nil,λ_ _=>rfl,λi a e=>by simp at e⟩
theorem Be.same {H0 H:Hp}{as:List Addr}{xs ys:List V}(n:Be H0 H as xs ys):AG H0 H:=λb u e=>by
 have nb:b∉as:=λhb=>by
  obtain⟨i,hi⟩:=List.getElem?_of_mem hb
  rw[(n.2.2 i b hi).1]at e;cases e
 exact(n.2.1 b nb).trans e
theorem Be.push {H0 H:Hp}{as:List Addr}{xs ys:List V}{p:Addr}{x y:V}(n:Be H0 H as xs ys)(hp:H p=none)(hx:xs[as.length]?=some x)(hy:ys[as.length]?=some y):Be H0 (upd H p (.tup [x,y])) (as++[p]) xs ys:=by
 have np:p∉as:=λhm=>by
  obtain⟨i,hi⟩:=List.getElem?_of_mem hm
  obtain⟨_,x,y,_,_,e⟩:=n.2.2 i p hi
  rw[hp]at e;cases e
 refine⟨List.nodup_append.mpr ⟨n.1,by simp,λa ha b hb=>by simp at hb;subst hb;exact λe=>np (e▸ha)⟩,λb hb=>?_,λi a e=>?_⟩
 ·have h1:b∉as:=λq=>hb (by simp[q])
  have h2:b≠p:=λq=>hb (by simp[q])
  rw[AH h2];exact n.2.1 b h1
 ·rcases Nat.lt_or_ge i as.length with q|q
  ·rw[List.getElem?_append_left q]at e
   obtain⟨e1,x,y,e2,e3,e4⟩:=n.2.2 i a e
   exact⟨e1,x,y,e2,e3,by rw[AH (λz=>np (by rw[<-z];exact List.mem_of_getElem? e))];exact e4⟩
  ·have q0:i=as.length:=by
    have:=(List.getElem?_eq_some_iff.mp e).1
    simp at this;omega
   subst q0
   have ea:p=a:=by simpa using e
   subst ea
   exact⟨by rw[<-n.2.1 p np];exact hp,x,y,hx,hy,AB⟩
section
variable {X:Cx}{pins:List (Addr×Obj)}{σ:St}{A:Around}{κ1 κ2:SK}{z TI TO i1 i2 S:Addr}{xs ys:List V}{H0:Hp}{res:Value}{R:Result->Shared->Prop}{g0:Array GenState}{d0:Drawn}{o0:OsState}
theorem Fx {κ:SK}{H H':Hp}{xs:List V}(s:AG H H')(x:κ.has H xs):κ.has H' xs:=by
 cases κ with
 |lst a=>exact Or.imp (s _ _) (λ⟨o,q⟩=>⟨o,s _ _ q⟩) x
 |tup a=>exact Or.imp (s _ _) (λ⟨o,q⟩=>⟨o,s _ _ q⟩) x
 |str z=>exact x
theorem JT (hnd:[z,TI,TO,i1,i2].Nodup)(hS:S∉[z,TI,TO,i1,i2])(hh:A.in1.in1.handled=none)(hx0:κ1.has H0 xs)(hy0:κ2.has H0 ys)(hl:xs.length=ys.length)(hz:xs.length<=sizeLine)
 (fin:∀(H':Hp) (s':Shared) (as:List Addr) (c:Nat),Inv X pins σ H' s'->Bn X pins H' S->Be H0 H' as xs ys->as.length=xs.length->s'.heap.get? S=some (seqObj "list" (as.map Value.ref).toArray c)->R (.ok (.ret res)) s'):
 ∀(m k:Nat) (H:Hp) (s:Shared) (as:List Addr) (c:Nat),xs.length - k=m->k<=xs.length->Inv X pins σ H s->(∀b∈S::[z,TI,TO,i1,i2],Bn X pins H b)->Oe κ1 κ2 z TI TO i1 i2 k s.heap->Be H0 H as xs ys->as.length=k->
  s.heap.get? S=some (seqObj "list" (as.map Value.ref).toArray c)->codeAny (model X.prog X.w) A (.builtin "list.extend.loop" ⟨[.ref S,.ref z,res],[]⟩) R s
 |0,k,H,s,as,c,hm,hk,I,hf,st,nt,la,hS0=>by
  have ek:k=xs.length:=by omega
  subst ek
  refine codeAny_builtin EK ?_
  rw[Around.under_plainId CM _]
  show wpAny _ _ (pyNext (.ref z) >>= _) _ _ _
  have hf5:∀b∈[z,TI,TO,i1,i2],Bn X pins H b:=λb hb=>hf b (List.mem_cons_of_mem _ hb)
  refine wpAny_bind (Og I hnd hf5 st (Fx nt.same hx0) (Fx nt.same hy0) hh λh' tk kk=>wpAny_pure ?_)
  exact fin H _ as c (I.DF (tk:=tk) hf5 kk) (hf S (by simp)) nt la (kk S _ hS hS0)
 |m+1,k,H,s,as,c,hm,hk,I,hf,st,nt,la,hS0=>by
  have lk:k < xs.length:=by omega
  have lk2:k < ys.length:=by omega
  refine codeAny_builtin EK ?_
  rw[Around.under_plainId CM _]
  show wpAny _ _ (pyNext (.ref z) >>= _) _ _ _
  have hf5:∀b∈[z,TI,TO,i1,i2],Bn X pins H b:=λb hb=>hf b (List.mem_cons_of_mem _ hb)
  refine wpAny_bind (Of I hnd hf5 st (Fx nt.same hx0) (Fx nt.same hy0) (List.getElem?_eq_getElem lk) (List.getElem?_eq_getElem lk2) hh λh' tk I' st' kk=>?_)
  have hS1:h'.get? S=some (seqObj "list" (as.map Value.ref).toArray c):=kk S _ hS hS0
  have pS:s.heap.objs.size≠S:=Nat.ne_of_gt (Heap.lt_size hS0)
  refine wpAny_bind (listUpdate_at (s:={ s with heap:=h',toks:=tk }) (a:=S) hS1 rfl (wpAny_pure ⟨plainId_quiet CM _,?_⟩) (by rw[List.size_toArray,List.length_map];omega) (by rw[Array.size_push,List.size_toArray,List.length_map];omega))
  have fp:∀b∈S::[z,TI,TO,i1,i2],Bn X pins (upd H s.heap.objs.size (.tup [xs[k],ys[k]])) b:=λb hb=>by
   refine⟨?_,(hf b hb).2⟩
   have:b≠s.heap.objs.size:=by
    obtain⟨hz,hTI,⟨a,c,hTO⟩,h1,h2⟩:=st
    simp only[List.mem_cons,List.not_mem_nil,or_false]at hb
    rcases hb with rfl|rfl|rfl|rfl|rfl|rfl
    ·exact Ne.symm pS
    ·rcases hz with hz|⟨_,_,hz,_⟩<;>exact Nat.ne_of_lt (Heap.lt_size hz)
    ·exact Nat.ne_of_lt (Heap.lt_size hTI)
    ·exact Nat.ne_of_lt (Heap.lt_size hTO)
    ·obtain⟨o,e,_⟩:=SK.Bx h1;exact Nat.ne_of_lt (Heap.lt_size e)
    ·obtain⟨o,e,_⟩:=SK.Bx h2;exact Nat.ne_of_lt (Heap.lt_size e)
   rw[AH this];exact(hf b hb).1
  have ku:∀b o,b≠S->h'.get? b=some o->(h'.update S (Obj.mapSeq λv=>v.push (.ref s.heap.objs.size))).get? b=some o:=λb o hb e=>(Heap.get?_update_ne _ _ _ _ hb).trans e
  have ee:(as.map Value.ref).toArray.push (.ref s.heap.objs.size)=((as++[s.heap.objs.size]).map Value.ref).toArray:=by simp
  obtain⟨c',hS2⟩:∃c',(h'.update S (Obj.mapSeq λv=>v.push (.ref s.heap.objs.size))).get? S=some (seqObj "list" ((as++[s.heap.objs.size]).map Value.ref).toArray c'):=⟨_,by rw[<-ee];exact get?_update_seq hS1 λv=>v.push (.ref s.heap.objs.size)⟩
  refine JT hnd hS hh hx0 hy0 hl hz fin m (k+1) _ { s with heap:=h'.update S (Obj.mapSeq λv=>v.push (.ref s.heap.objs.size)),toks:=tk } (as++[s.heap.objs.size]) c' (by omega) lk (I'.DF (tk:=tk) (ch:=[S]) (λb hb=>fp b (by simp at hb;simp[hb])) λb ob hb q=>ku b ob (λz=>hb (by simp[z])) q) fp
   (st'.keep (λb hb o e=>ku b o (λz=>hS (z▸hb)) e) λb o e=>?_) (nt.push (I.hok.fresh (Nat.le_refl _)) (by rw[la];exact List.getElem?_eq_getElem lk) (by rw[la];exact List.getElem?_eq_getElem lk2)) (by simp[la]) hS2
  ·by_cases q:b=S
   ·rw[q];exact⟨_,hS2⟩
   ·exact⟨o,ku b o q e⟩
end
end L2
namespace L2
open PySem PySem.Spec PyProof.Rows PySem.W
section
variable {prog:Program}{w:World}{A:Around}{E:Value->Shared->Prop}{s:Shared}
theorem Oh {r:Addr}{Q:Bool->Shared->Prop}(hT:s.TypeIs (.ref r) "zip")(h:Q true s):wpAny (model prog w) A (Builtin.List.listLengthHint (.ref r)) Q E s:=by
 unfold Builtin.List.listLengthHint
 refine wpAny_bind (wpAny_specialOf hT (r:=none) (by kernel_rfl) ?_)
 dsimp only
 refine wpAny_bind (wpAny_specialOf hT (r:=none) (by kernel_rfl) ?_)
 exact wpAny_pure h
end
section
variable {X:Cx}{pins:List (Addr×Obj)}{σ:St}{H:Hp}{s:Shared}{A:Around}{E:Value->Shared->Prop}{κ1 κ2:SK}{z TI TO i1 i2:Addr}{xs ys:List V}
theorem Oe.zip {k:Nat}{h:Heap}(x:Oe κ1 κ2 z TI TO i1 i2 k h):∃o,h.get? z=some o/\o.cls=.type "zip":=by
 rcases x.1 with e|⟨_,_,e,_⟩
 ·exact⟨_,e,rfl⟩
 ·exact⟨_,e,rfl⟩
theorem Kv {S:Addr}{c:Nat}{res:Value}{R:Result->Shared->Prop}(I:Inv X pins σ H s)(hnd:[z,TI,TO,i1,i2].Nodup)(hS:S∉[z,TI,TO,i1,i2])(hf:∀b∈S::[z,TI,TO,i1,i2],Bn X pins H b)(st:Oe κ1 κ2 z TI TO i1 i2 0 s.heap)(hz0:IsZip s.heap z TI TO .none)
 (hx:κ1.has H xs)(hy:κ2.has H ys)(hl:xs.length=ys.length)(hz:xs.length<=sizeLine)(hh:A.in1.in1.handled=none)(hS0:s.heap.get? S=some (seqObj "list" #[] c))
 (fin:∀(H':Hp) (s':Shared) (as:List Addr) (c:Nat),Inv X pins σ H' s'->Bn X pins H' S->Be H H' as xs ys->as.length=xs.length->s'.heap.get? S=some (seqObj "list" (as.map Value.ref).toArray c)->R (.ok (.ret res)) s'):
 wpAny (model X.prog X.w) A.in1 (Builtin.List.listExtendWith (.ref S) (.ref z) res) (λfin s'=>match fin with|.done f=>R (.ok f) s'|.again c'=>c'.quiet=true/\codeAny (model X.prog X.w) A c' R s') (λe s'=>R (.error e) s') s:=by
 obtain⟨oz,hoz,hcz⟩:=st.zip
 have hT:s.TypeIs (.ref z) "zip":=⟨oz,hoz,hcz⟩
 have nSz:S≠z:=λe=>hS (by simp[e])
 unfold Builtin.List.listExtendWith
 refine wpAny_bind (wpAny_typeOf hT ?_)
 rw[if_neg (by
  have:(S==z)=false:=by simpa using nSz
  show¬(((S==z)||_||_)=true)
  rw[this];decide)]
 refine wpAny_bind (wpAny_pyIter_zip hz0 ?_)
 refine wpAny_bind (wpAny_holding (Oh hT ?_))
 simp only[Bool.true_or,if_true]
 refine wpAny_bind (wpAny_rule (wpAny_bind ?_))
 unfold Builtin.List.listTouch
 refine wpAny_bind (listUpdate_at hS0 rfl ?_ (Nat.zero_le _) (by show 1<=_;rw[sizeLine_eq];omega))
 obtain⟨c1,hS1⟩:∃c1,(s.heap.update S (Obj.mapSeq λx=>x.push .none)).get? S=some (seqObj "list" #[Value.none] c1):=⟨_,get?_update_seq hS0 λx=>x.push Value.none⟩
 refine listUpdate_at (s:={ s with heap:=s.heap.update S (Obj.mapSeq λx=>x.push .none) }) hS1 rfl ?_ (by show 1<=_;rw[sizeLine_eq];omega) (Nat.zero_le _)
 obtain⟨c2,hS2⟩:∃c2,((s.heap.update S (Obj.mapSeq λx=>x.push .none)).update S (Obj.mapSeq λx=>x.pop)).get? S=some (seqObj "list" #[] c2):=⟨_,get?_update_seq hS1 λx=>x.pop⟩
 refine wpAny_pure ⟨plainId_quiet CM _,?_⟩
 have ku:∀b o,b≠S->s.heap.get? b=some o->((s.heap.update S (Obj.mapSeq λx=>x.push .none)).update S (Obj.mapSeq λx=>x.pop)).get? b=some o:=λb o hb e=>(Heap.get?_update_ne _ _ _ _ hb).trans ((Heap.get?_update_ne _ _ _ _ hb).trans e)
 refine JT hnd hS hh hx hy hl hz fin xs.length 0 H { s with heap:=(s.heap.update S (Obj.mapSeq λx=>x.push .none)).update S (Obj.mapSeq λx=>x.pop) } [] c2 rfl (Nat.zero_le _) (I.DF (tk:=s.toks) (ch:=[S]) (λb hb=>hf b (by simp at hb;simp[hb])) λb ob hb q=>ku b ob (λz=>hb (by simp[z])) q) hf
  (st.keep (λb hb o e=>ku b o (λz=>hS (z▸hb)) e) λb o e=>?_) Be.nil rfl hS2
 by_cases q:b=S
 ·rw[q];exact⟨_,hS2⟩
 ·exact⟨o,ku b o q e⟩
theorem Rv {a b:Expr}{ta:TA}{p pos:Pos}{R:SK->SK->List V->List V->Hp->Prop}(hg:Gl X "zip")(hm:X.mg "zip"=none)(ha:PA X [a,b] ta)(I:Inv X pins σ H s)
 (h:ta σ H λvs H1=>∃(κ1 κ2:SK) (xs ys:List V),vs=[κ1.val,κ2.val]/\κ1.has H1 xs/\κ2.has H1 ys/\R κ1 κ2 xs ys H1)
 (hs:starEach [a,b] X.env=[(false,eval a X.env),(false,eval b X.env)]:=by rfl)(hs2:starEach [b] X.env=[(false,eval b X.env)]:=by rfl):
 wpAny (model X.prog X.w) X.A (eval (.Call (.Name "zip" p) [a,b] [] pos) X.env) (λu s'=>∃(z TI TO i1 i2:Addr) (κ1 κ2:SK) (xs ys:List V) (H1:Hp),u=.ref z/\Inv X pins σ H1 s'/\[z,TI,TO,i1,i2].Nodup/\(∀b∈[z,TI,TO,i1,i2],Bn X pins H1 b)/\
  Oe κ1 κ2 z TI TO i1 i2 0 s'.heap/\IsZip s'.heap z TI TO .none/\κ1.has H1 xs/\κ2.has H1 ys/\R κ1 κ2 xs ys H1) X.xe s:=by
 refine Call_ (CU I hg hm boot_zip (PyProof.Rows.callWith_type1 (BG (ha pos pins s σ H _ I h) λus s1 ⟨vs,H1,I1,r1,q1⟩=>?_) (by rw[hs,hs2]) (by rw[hs2];rfl)))
 obtain⟨κ1,κ2,xs,ys,e,hx,hy,q⟩:=q1
 subst e
 obtain⟨u,v,rfl,ru,rv⟩:=vals2 r1
 refine HS (DG u κ1) (DG v κ2) (El I1 hx ru) (El I1 hy rv) λh' hz hTI hTO h1 h2 hk=>?_
 refine⟨s1.heap.objs.size+4,s1.heap.objs.size+2,s1.heap.objs.size+3,s1.heap.objs.size,s1.heap.objs.size+1,κ1,κ2,xs,ys,H1,rfl,I1.kept (t':=s1.toks) hk,by simp,λb hb=>?_,⟨.inl hz,hTI,⟨_,_,hTO⟩,Fv (h':=h') ru h1,Fv (h':=h') rv h2⟩,hz,hx,hy,q⟩
 have hge:s1.heap.objs.size<=b:=by
  simp only[List.mem_cons,List.not_mem_nil,or_false]at hb
  rcases hb with rfl|rfl|rfl|rfl|rfl<;>first|exact Nat.le_add_right _ _|exact Nat.le_refl _
 exact I1.Fl hge (I1.hok.fresh hge)
end
end L2
namespace L2
open PySem PySem.Spec PyProof.Rows PySem.W
section
variable {X:Cx}
def Rx (ta:TA):TE:=λσ H Q=>ta σ H λvs H1=>∃(κ1 κ2:SK) (xs ys:List V),vs=[κ1.val,κ2.val]/\κ1.has H1 xs/\κ2.has H1 ys/\xs.length=ys.length/\xs.length<=10000/\
 ∀(as:List Addr) (H2:Hp) (l:Addr),Be H1 H2 as xs ys->as.length=xs.length->H1 l=none->H2 l=none->Q (.ref l) (upd H2 l (.lst (as.map V.ref)))
theorem Oi {a b:Expr}{ta:TA}{p p2 pos pos2:Pos}(hcalm:X.calm=true)(hg:Gl X "list")(hm:X.mg "list"=none)(hg2:Gl X "zip")(hm2:X.mg "zip"=none)(ha:PA X [a,b] ta)
 (hs0:starEach [.Call (.Name "zip" p2) [a,b] [] pos2] X.env=[(false,eval (.Call (.Name "zip" p2) [a,b] [] pos2) X.env)]:=by rfl)
 (hs:starEach [a,b] X.env=[(false,eval a X.env),(false,eval b X.env)]:=by rfl)(hs2:starEach [b] X.env=[(false,eval b X.env)]:=by rfl):
 PE X (.Call (.Name "list" p) [.Call (.Name "zip" p2) [a,b] [] pos2] [] pos) (Rx ta):=by
 intro pins s σ H Q I h
 have h':ta σ H λvs H1=>∃(κ1 κ2:SK) (xs ys:List V),vs=[κ1.val,κ2.val]/\κ1.has H1 xs/\κ2.has H1 ys/\(xs.length=ys.length/\xs.length<=10000/\
  ∀(as:List Addr) (H2:Hp) (l:Addr),Be H1 H2 as xs ys->as.length=xs.length->H1 l=none->H2 l=none->Q (.ref l) (upd H2 l (.lst (as.map V.ref)))):=h
 refine Call_ (CU I hg hm Fw ?_)
 refine PyProof.Rows.callWith_type1 ?_ hs0 rfl
 rw[hs0]
 show wpAny _ _ (spliced [(false,eval (.Call (.Name "zip" p2) [a,b] [] pos2) X.env)]) _ _ s
 refine Calls.spliced_cons (BG (Rv (R:=λ_ _ xs ys H1=>xs.length=ys.length/\xs.length<=10000/\∀(as:List Addr) (H2:Hp) (l:Addr),Be H1 H2 as xs ys->as.length=xs.length->H1 l=none->H2 l=none->Q (.ref l) (upd H2 l (.lst (as.map V.ref)))) (p:=p2) (pos:=pos2) hg2 hm2 ha I h' hs hs2) λu s1 hu=>Calls.spliced_nil ?_)
 obtain⟨z,TI,TO,i1,i2,κ1,κ2,xs,ys,H1,rfl,I1,hnd,hf,st,hz0,hx,hy,hl,hz,q⟩:=hu
 have hh:X.A.in1.handled=none:=I.ok.hd hcalm
 have lsz:xs.length<=sizeLine:=by rw[sizeLine_eq];omega
 have nS:s1.heap.objs.size∉[z,TI,TO,i1,i2]:=λhb=>by
  obtain⟨_,hTI,⟨a,c,hTO⟩,h1,h2⟩:=st
  simp only[List.mem_cons,List.not_mem_nil,or_false]at hb
  rcases hb with e|e|e|e|e
  ·exact Nat.lt_irrefl _ (e▸Heap.lt_size hz0)
  ·exact Nat.lt_irrefl _ (e▸Heap.lt_size hTI)
  ·exact Nat.lt_irrefl _ (e▸Heap.lt_size hTO)
  ·obtain⟨o,e1,_⟩:=SK.Bx h1;exact Nat.lt_irrefl _ (e▸Heap.lt_size e1)
  ·obtain⟨o,e1,_⟩:=SK.Bx h2;exact Nat.lt_irrefl _ (e▸Heap.lt_size e1)
 refine callType_codes F.called_list (F.typeCall_list_1 _) F.entry_list_init (code_list_new _ (Q₁:=λobj s'=>obj=.ref s1.heap.objs.size/\s'={ s1 with heap:=s1.heap.push { cls:=.type "list",data:=.seq #[] } }) ⟨rfl,rfl⟩) ?_
 rintro obj s' ⟨rfl,rfl⟩
 have hS₁:(s1.heap.push { cls:=.type "list",data:=.seq #[] }).get? s1.heap.objs.size=some (seqObj "list" #[] 0):=Heap.get?_push_size _ rfl
 have old:∀b o,s1.heap.get? b=some o->(s1.heap.push { cls:=.type "list",data:=.seq #[] }).get? b=some o:=λb o e=>Heap.get?_push_of_some _ e
 refine⟨⟨_,hS₁,rfl⟩,F.args_list_init_2 _ _,?_⟩
 show wpAny _ _ (Builtin.List.listItems (.ref s1.heap.objs.size) >>= _) _ _ _
 refine wpAny_bind (listItems_at (a:=s1.heap.objs.size) (s:={ s1 with heap:=s1.heap.push { cls:=.type "list",data:=.seq #[] } }) hS₁ rfl ?_)
 refine wpAny_bind (listUpdate_at (a:=s1.heap.objs.size) (s:={ s1 with heap:=s1.heap.push { cls:=.type "list",data:=.seq #[] } }) hS₁ rfl ?_ (Nat.zero_le _) (Nat.zero_le _))
 refine wpAny_bind (wpAny_letGo ?_)
 obtain⟨c2,hS2⟩:∃c2,((s1.heap.push { cls:=.type "list",data:=.seq #[] }).update s1.heap.objs.size (Obj.mapSeq λ_=>#[])).get? s1.heap.objs.size=some (seqObj "list" #[] c2):=⟨_,get?_update_seq hS₁ λ_=>#[]⟩
 have old2:∀b o,s1.heap.get? b=some o->((s1.heap.push { cls:=.type "list",data:=.seq #[] }).update s1.heap.objs.size (Obj.mapSeq λ_=>#[])).get? b=some o:=λb o e=>(Heap.get?_update_ne _ _ _ _ (Nat.ne_of_lt (Heap.lt_size e))).trans (old b o e)
 have fS:Bn X pins H1 s1.heap.objs.size:=I1.Fl (Nat.le_refl _) (I1.hok.fresh (Nat.le_refl _))
 refine Kv (A:=X.A.in1) (res:=.none) (s:={ s1 with heap:=(s1.heap.push { cls:=.type "list",data:=.seq #[] }).update s1.heap.objs.size (Obj.mapSeq λ_=>#[]),toks:=s1.toks }) (I1.kept (t':=s1.toks) old2) hnd nS (λb hb=>?_) (st.keep (λb _ o e=>old2 b o e) λb o e=>⟨o,old2 b o e⟩) (old2 _ _ hz0) hx hy hl lsz hh hS2 λH' s' as c I' fS' nt la hS'=>⟨rfl,?_⟩
 ·rcases List.mem_cons.mp hb with e|e
  ·rw[e];exact fS
  ·exact hf b e
 ·have J:=I'.adopt (t':=s'.toks) (o:=.lst (as.map V.ref)) (h':=s'.heap) fS' (λb u _ e=>e) ⟨by rw[List.length_map,la];exact lsz,as.map Value.ref,c,He as,hS'⟩ hS'
  exact⟨.ref s1.heap.objs.size,_,J,rfl,q as H' _ nt la fS.1 fS'.1⟩
theorem Fp (r:Addr)(lo hi:Int)(t u v:Tok)(n:Nat):Meets (Builtin.«tuple.__new__» ⟨[.type "tuple",.ref r],[]⟩) (λA R s=>A.handled=none/\IsRange s.heap r lo hi 1 t u v/\Builtin.Range.small lo hi 1=true/\Builtin.Range.rangeSize lo hi 1=n/\n<=2 ^ 24/\
 ∀(h':Heap) (tk:Nat) (acc:Array Value),(∀b o,s.heap.get? b=some o->h'.get? b=some o)->s.heap.objs.size<=h'.objs.size->ItemsOf (λi v=>∃t,v=.int (lo+i*1) t) acc n->R (.ok (.ret (.ref h'.objs.size))) { s with heap:=h'.push { cls:=.type "tuple",data:=.seq acc },toks:=tk }):=
 .of_wp λprog w A R s h=>by
  obtain⟨hh,hr,h1,h2,h3,h⟩:=h
  have hT:s.TypeIs (.ref r) "range":=⟨_,hr,rfl⟩
  have g:∀(Q:List Value->Shared->Prop) (E:Value->Shared->Prop),(∀(h':Heap) (tk:Nat) (acc:Array Value),(∀b o,s.heap.get? b=some o->h'.get? b=some o)->s.heap.objs.size<=h'.objs.size->ItemsOf (λi v=>∃t,v=.int (lo+i*1) t) acc n->Q acc.toList { s with heap:=h',toks:=tk })->wpAny (model prog w) A.in1 (collect (.ref r)) Q E s:=λQ E q=>Fc (A:=A.in1) hh hr h1 h2 h3 q
  have f2:=AutoSeq1.sub_tuple_tuple
  have f3:Bind.madeHere "tuple.__new__" (.type "tuple")=pure ():=by kernel_rfl
  have f4:=F.called_tuple.init.lookup
  wp_walk using g _ _
  intro h' tk acc kp sz it
  refine wpAny_bind (wpAny_pure ?_)
  show wpAny _ _ (newTuple acc.toList >>= _) _ _ _
  refine wpAny_bind (wpAny_newTuple (wpAny_pure ⟨_,rfl,h h' tk acc kp sz it⟩) ?_)
  rw[Array.length_toList,it.1,sizeLine_eq];exact h3
theorem GO (hc:X.calm=true):Bs X (.type "tuple") (λxs H Q=>∃(r:Addr) (lo hi:Int),xs=[.ref r]/\H r=some (.rng lo hi)/\(-(2 ^ 62)<=lo/\lo < 2 ^ 62/\-(2 ^ 62)<=hi/\hi < 2 ^ 62)/\(hi - lo).toNat<=1000/\∀l,H l=none->Q (.ref l) (upd H l (.tup (My lo (hi - lo).toNat)))):=by
 intro pins s σ H xs us Q I r h
 obtain⟨a,lo,hi,rfl,hr,⟨l1,l2,l3,l4⟩,hn,q⟩:=h
 obtain⟨u,rfl,rx⟩:=vals1 r
 cases rx
 obtain⟨t,t',t'',hr2⟩:=I.hok a _ hr
 have en:Builtin.Range.rangeSize lo hi 1=(((hi - lo).toNat:Nat):Int):=by rw[rangeSize_one];split<;>omega
 refine callType_new F.called_tuple (by decide) (F.typeCall_tuple_1 _) (F.newCall_tuple_1 _) (λobj=>F.args_object_init_2 obj _) F.entry_tuple_new (Fp a lo hi t t' t'' (hi - lo).toNat) ⟨I.ok.hd hc,hr2,small_one l1 l2 l3 l4,en,by omega,λh' tk acc kp sz hacc=>⟨⟨_,Heap.get?_push_size _ rfl,rfl⟩,?_⟩⟩
 have v:=OJ hacc
 have ls:(My lo (hi - lo).toNat).length<=sizeLine:=by
  rw[List.length_map,List.length_range]
  exact Nat.le_of_lt (Nat.lt_of_le_of_lt hn (by decide+kernel))
 have I1:Inv X pins σ H { s with heap:=h',toks:=tk }:=I.kept (t':=tk) kp
 have et:(h'.push { cls:=.type "tuple",data:=.seq acc }).get? h'.objs.size=some { cls:=.type "tuple",data:=.seq acc }:=Heap.get?_push_size _ rfl
 exact⟨.ref h'.objs.size,_,I1.laid (t':=tk) (o:=.tup (My lo (hi - lo).toNat)) (λb o e=>Heap.get?_push_of_some _ e) (Nat.le_refl _) ⟨⟨ls,_,et,rfl⟩,acc.toList,v,_,et,rfl,0,by simp⟩,rfl,q _ (I1.hok.fresh (Nat.le_refl _))⟩
end
end L2
namespace L2
open PySem PySem.Spec PyProof.Rows PySem.W
theorem JU (items:Array Value):(List.filterMap (λk:Nat=>items[((items.size:Int) - 1+(k:Int)*-1).toNat]?) (List.range items.size))=items.toList.reverse:=by
 apply List.ext_getElem?
 intro i
 have e:(List.range items.size).filterMap (λk:Nat=>items[((items.size:Int) - 1+(k:Int)*-1).toNat]?)=(List.range items.size).map λk=>items.getD (items.size - 1 - k) .none:=by
  have go:∀l:List Nat,(∀k∈l,k < items.size)->l.filterMap (λk:Nat=>items[((items.size:Int) - 1+(k:Int)*-1).toNat]?)=l.map λk=>items.getD (items.size - 1 - k) .none:=λl=>by
   induction l with
   |nil=>intro _;rfl
   |cons k l ih=>
    intro hl
    have hk:=hl k List.mem_cons_self
    rw[List.filterMap_cons,List.map_cons,ih λx hx=>hl x (List.mem_cons_of_mem _ hx),show((items.size:Int) - 1+(k:Int)*-1).toNat=items.size - 1 - k by omega,Array.getElem?_eq_getElem (by omega),Array.getD_eq_getD_getElem?,Array.getElem?_eq_getElem (by omega)]
    rfl
  exact go _ λk hk=>List.mem_range.mp hk
 rw[e,List.getElem?_map]
 rcases Nat.lt_or_ge i items.size with c|c
 ·rw[List.getElem?_range c,List.getElem?_reverse (by simpa using c),Array.length_toList,Array.getElem?_toList,Array.getElem?_eq_getElem (by omega)]
  show some (items.getD (items.size - 1 - i) .none)=some _
  rw[Array.getD_eq_getD_getElem?,Array.getElem?_eq_getElem (by omega)];rfl
 ·rw[List.getElem?_eq_none (by simpa using c),List.getElem?_eq_none (by simpa using c)];rfl
theorem Kx (n:Nat):Builtin.Slice.slicePlaces ((n:Int) - 1) (-1) (-1)=n:=by
 unfold Builtin.Slice.slicePlaces
 rw[if_neg (by decide)]
 split
 ·rename_i h
  have:((n:Int) - 1 - -1 - 1) / - -1=(n:Int) - 1:=by
   rw[show(- -1:Int)=1 by decide,Int.ediv_one];omega
  rw[this];omega
 ·omega
section
variable {prog:Program}{w:World}{A:Around}{E:Value->Shared->Prop}{s:Shared}
theorem Hk {Q:Option Int->Shared->Prop}(h:Q none s):wpAny (model prog w) A (Builtin.Slice.slicePartIndex .none) Q E s:=wpAny_pure h
theorem Oj {i:Int}{tk:Tok}{Q:Option Int->Shared->Prop}(h:Q (some i) s):wpAny (model prog w) A (Builtin.Slice.slicePartIndex (.int i tk)) Q E s:=by
 unfold Builtin.Slice.slicePartIndex
 rw[if_neg (by show¬(false=true);decide)]
 refine wpAny_bind (wpAny_specialOf_val (T:="int") rfl (r:=some (.builtin "int.__index__")) (by kernel_rfl) ?_)
 rw[if_neg (by decide)]
 show wpAny _ _ (pure i >>= _) _ _ _
 exact wpAny_bind (wpAny_pure (wpAny_pure h))
theorem Er {t sl:Addr}{items:Array Value}{tk:Tok}{Q:Value->Shared->Prop}(ht:IsTup s.heap t items)(hs:s.heap.get? sl=some { cls:=.type "slice",data:=.fields #[.none,.none,.int (-1) tk] })(hz:items.size<=sizeLine)
 (h:Q (.ref s.heap.objs.size) { s with heap:=s.heap.push { cls:=.type "tuple",data:=.seq items.toList.reverse.toArray } }):wpAny (model prog w) A (getItem (.ref t) (.ref sl)) Q E s:=by
 have hT:s.TypeIs (.ref t) "tuple":=ht.typeIs
 have hTs:s.TypeIs (.ref sl) "slice":=⟨_,hs,rfl⟩
 refine wpAny_getItem_slot hT (by decide) PyProof.Rows.slot_tuple_getitem (wpAny_call_entry PyProof.Rows.slot_tuple_getitem hT PyProof.Rows.entry_tuple_getitem ?_ (PyProof.Rows.args_tuple_getitem _ _))
 obtain⟨o,ho,hc,n,hd⟩:=id ht
 have f1:wpAny (model prog w) A.in1 (Builtin.Slice.sliceApplied (.ref sl) (pure (items.size:Int))) (λr s'=>r=((items.size:Int) - 1,-1,items.size)/\s'=s) E s:=by
  unfold Builtin.Slice.sliceApplied Builtin.Slice.sliceFields
  refine wpAny_bind (wpAny_bind (wpAny_field hs rfl (x:=.none) rfl (wpAny_bind (wpAny_field hs rfl (x:=.none) rfl (wpAny_bind (wpAny_field hs rfl (x:=.int (-1) tk) rfl (wpAny_pure ?_)))))))
  dsimp only
  refine wpAny_bind (Oj ?_)
  show wpAny _ _ (Builtin.Slice.slicePartIndex .none >>= _) _ _ _
  refine wpAny_bind (Hk ?_)
  refine wpAny_bind (Hk ?_)
  refine wpAny_bind (wpAny_pure ?_)
  show wpAny _ _ (pure ((items.size:Int) - 1,(-1:Int),Builtin.Slice.slicePlaces ((items.size:Int) - 1) (-1) (-1))) _ _ _
  rw[Kx]
  exact wpAny_pure ⟨rfl,rfl⟩
 show wpAny _ _ (Builtin.Tuple.tupleItemsOf (.ref t) >>= _) _ _ _
 refine wpAny_bind (PyProof.Rows.tupleItemsOf_ ht ?_)
 refine wpAny_bind (wpAny_typeOf hTs ?_)
 rw[if_pos (by decide)]
 refine wpAny_bind (BG f1 λr s' hr=>?_)
 obtain⟨rfl,rfl⟩:=hr
 dsimp only
 have nb:¬(((items.size:Int) - 1==0&&(-1:Int)==1&&items.size==items.size)=true):=by simp
 rw[if_neg nb,JU]
 show wpAny _ _ (newTuple items.toList.reverse >>= _) _ _ _
 exact wpAny_bind (wpAny_newTuple (wpAny_pure ⟨_,rfl,h⟩) (by rw[List.length_reverse,Array.length_toList];exact hz))
end
section
variable {X:Cx}{e st:Expr}{te:TE}{ts:TO}{pos p2:Pos}
def TU (K:PySem.W.Frag)(te:TE)(ts:TO):TE:=λσ H Q=>te σ H λx H1=>ts σ H1 λo H2=>∃(a:Addr) (xs:List V),o=some (-1)/\x=.ref a/\Ar K H2 a xs/\∀r:Addr,H2 r=none->Q (.ref r) (upd H2 r (.tup xs.reverse))
theorem GP:∀{xs:List V} {us:List Value},Vals xs us->Vals xs.reverse us.reverse
 |[],_,.nil=>.nil
 |x::xs,_,.cons r t=>by
  rw[List.reverse_cons,List.reverse_cons]
  exact(GP t).append (.cons r .nil)
theorem QX (K:PySem.W.Frag)(he:PE X e te)(hs:PO X (some st) ts)(hK:X.K=K:=by rfl):PE X (.Subscript e (.Slice none none (some st) p2) pos) (TU K te ts):=by
 subst hK
 intro pins s σ H Q I h
 refine Subscript_ (BG (he pins s σ H _ I h) λv s1 ⟨x,H1,I1,r1,q1⟩=>?_)
 refine wpAny_Slice ?_
 rw[evalPart_none]
 refine wpAny_pure (wpAny_pure ?_)
 refine BG (hs pins s1 σ H1 _ I1 q1) λvs s3 ⟨o,H3,I3,po,q3⟩=>?_
 obtain⟨a,xs,rfl,rfl,hq,q⟩:=q3
 cases r1
 cases po with
 |int i tk=>
 have I4:Inv X pins σ H3 { s3 with heap:=s3.heap.push { cls:=.type "slice",data:=.fields #[.none,.none,.int (-1) tk] } }:=I3.kept (t':=s3.toks) λb ob q=>Heap.get?_push_of_some _ q
 show wpAny (model X.prog X.w) X.A (subscriptTail e (.Slice none none (some st) p2) (.ref a) (.ref s3.heap.objs.size)) (EP X pins σ Q) X.xe { s3 with heap:=s3.heap.push { cls:=.type "slice",data:=.fields #[.none,.none,.int (-1) tk] } }
 obtain⟨its,r,ht,hz⟩:=I4.tuple hq
 have hlen:=r.length
 refine tail_any (ops:=[.ref a,.ref s3.heap.objs.size]) (T:="tuple") ht.typeIs PyProof.Rows.slot_tuple_getitem.lookup ?_ (by with_unfolding_all rfl)
 refine Er ht (Heap.get?_push_size _ rfl) (by rw[List.size_toArray];omega) ?_
 have rl:its.toArray.toList.reverse=its.reverse:=by simp
 rw[rl]
 refine⟨.ref _,_,I4.laid (t':=s3.toks) (o:=.tup xs.reverse) (λb ob q=>Heap.get?_push_of_some _ q) (Nat.le_refl _) ?_,rfl,q _ (I4.hok.fresh (Nat.le_refl _))⟩
 exact⟨⟨by rw[List.length_reverse];exact hz,_,Heap.get?_push_size _ rfl,rfl⟩,its.reverse,GP r,_,Heap.get?_push_size _ rfl,rfl,0,rfl⟩
end
end L2
namespace L2
open PySem PySem.Spec PyProof.Rows PySem.W
theorem NA {x y:V}{u:Value}(h1:RelV x u)(h2:RelV y u)(f1:BZ x=true)(f2:BZ y=true):JB x y=true:=by
 cases x<;>cases y<;>first|cases f1;done|cases f2;done|skip
 all_goals simp only[RelV]at h1 h2
 all_goals first
  |(obtain⟨t,rfl⟩:=h1;obtain⟨t',e⟩:=h2;cases e;simp[JB];done)
  |(subst h1;cases h2;simp[JB];done)
  |(subst h1;obtain⟨t',e⟩:=h2;cases e;done)
  |(obtain⟨t,rfl⟩:=h1;cases h2;done)
  |(obtain⟨t,rfl⟩:=h1;obtain⟨t',e⟩:=h2;exact absurd e (by simp))
theorem Ol {us:List Value}:∀{xs ys:List V},Vals xs us->Vals ys us->xs.all BZ=true->ys.all BZ=true->Ci xs ys=true:=λ{xs ys} h1 h2 f1 f2=>by
 have l1:=h1.length
 have l2:=h2.length
 unfold Ci
 rw[Bool.and_eq_true,beq_iff_eq,List.all_eq_true]
 refine⟨by omega,λj hj=>?_⟩
 have hj':=List.mem_range.mp hj
 obtain⟨u,e1,r1⟩:=h1.get (List.getElem?_eq_getElem hj')
 obtain⟨u',e2,r2⟩:=h2.get (List.getElem?_eq_getElem (show j < ys.length by omega))
 rw[e1]at e2;cases e2
 unfold DO
 rw[List.getElem?_eq_getElem hj',List.getElem?_eq_getElem (show j < ys.length by omega)]
 exact NA r1 r2 (List.all_eq_true.mp f1 _ (List.getElem_mem _)) (List.all_eq_true.mp f2 _ (List.getElem_mem _))
theorem GQ (ns ms:List Bool):Ci (ns.map V.bl) (ms.map V.bl)=decide (ns=ms):=by
 rw[Bool.eq_iff_iff]
 unfold Ci
 simp only[Bool.and_eq_true,beq_iff_eq,List.length_map,List.all_eq_true,List.mem_range,decide_eq_true_eq]
 constructor
 ·rintro⟨hl,h⟩
  apply List.ext_getElem hl
  intro i h1 h2
  have:=h i h1
  unfold DO at this
  rw[List.getElem?_map,List.getElem?_map,List.getElem?_eq_getElem h1,List.getElem?_eq_getElem h2]at this
  exact eq_of_beq (show(ns[i]==ms[i])=true from this)
 ·rintro rfl
  refine⟨rfl,λj hj=>?_⟩
  unfold DO
  rw[List.getElem?_map,List.getElem?_eq_getElem hj]
  show(ns[j]==ns[j])=true
  exact beq_self_eq_true _
theorem NB {A:Around}{s:Shared}{a b:Addr}{us ws:List Value}{xs ys:List V}(t1:IsTup s.heap a us.toArray)(t2:IsTup s.heap b ws.toArray)(q1:Vals xs us)(q2:Vals ys ws)(f1:xs.all BZ=true)(f2:ys.all BZ=true)(hu:A.units < cLine):SeqAt.EqAt A s (.ref a) (.ref b) (Ci xs ys):=by
 have z1:=q1.length
 have z2:=q2.length
 by_cases e:a=b
 ·subst e
  obtain⟨o,ho,hc,n,hd⟩:=t1
  obtain⟨o',ho',hc',n',hd'⟩:=t2
  rw[ho]at ho';cases ho'
  rw[hd]at hd'
  have exy:us=ws:=by
   have:us.toArray=ws.toArray:=by cases hd';rfl
   simpa using this
  subst exy
  rw[Ol q1 q2 f1 f2]
  exact SeqAt.EqAt.same _
 ·refine SeqAt.EqAt.of_refs e ?_
  have hc:=SeqAt.RcAt.tuples (A:=A) (s:=s) (e:=DO xs ys) t1 t2 hu (λj g1 g2=>EU q1 q2 f1 f2 j g1 g2)
  have ev:((List.range (min us.toArray.size ws.toArray.size)).all (DO xs ys)&&us.toArray.size==ws.toArray.size)=Ci xs ys:=by
   unfold Ci
   rw[List.size_toArray,List.size_toArray,<-z1,<-z2]
   by_cases el:xs.length=ys.length
   ·rw[el,Nat.min_self,beq_self_eq_true,Bool.and_true,Bool.true_and]
   ·have:(xs.length==ys.length)=false:=by simpa using el
    rw[this,Bool.and_false,Bool.false_and]
  rw[ev]at hc
  exact hc
section
variable {X:Cx}
def NE (K:PySem.W.Frag)(H:Hp)(x y:V)(b:Bool):Prop:=(BZ x=true/\BZ y=true/\b=JB x y)\/∃(p q:Addr) (us ws:List V),x=.ref p/\y=.ref q/\Ar K H p us/\Ar K H q ws/\us.all BZ=true/\ws.all BZ=true/\b=Ci us ws
theorem Ky {k:Nat}(K:PySem.W.Frag)(hr:B6 k X.A)(hK:X.K=K:=by rfl):DS X (compareOp .Eq) (λx y H Q=>∃(a b:Addr) (xs ys:List V) (e:Nat->Bool),x=.ref a/\y=.ref b/\a≠b/\Ar K H a xs/\Ar K H b ys/\xs.length=ys.length/\(∀(i:Nat) x y,xs[i]?=some x->ys[i]?=some y->NE K H x y (e i))/\Q (.bl ((List.range xs.length).all e)) H):=by
 subst hK
 intro pins s σ H x y v u Q I rx ry h
 obtain⟨a,b,xs,ys,e,rfl,rfl,ab,h1,h2,hl,hat,q⟩:=h
 cases(show v=Value.ref a from rx)
 cases(show u=Value.ref b from ry)
 obtain⟨us,r1,l1,_⟩:=I.tuple h1
 obtain⟨ws,r2,l2,_⟩:=I.tuple h2
 have e1:=r1.length
 have e2:=r2.length
 have un:=hr.un
 have hc:=SeqAt.RcAt.tuples (A:=X.A) (s:=s) (e:=e) l1 l2 (by omega) (λj g1 g2=>by
  have j1:j < xs.length:=by rw[e1];simpa using g1
  have j2:j < ys.length:=by omega
  obtain⟨u1,eu1,ru1⟩:=r1.get (List.getElem?_eq_getElem j1)
  obtain⟨u2,eu2,ru2⟩:=r2.get (List.getElem?_eq_getElem j2)
  have d1:us.toArray[j]=u1:=by
   have:us[j]?=some u1:=eu1
   rw[List.getElem?_eq_getElem (by omega)]at this
   simpa using Option.some.inj this
  have d2:ws.toArray[j]=u2:=by
   have:ws[j]?=some u2:=eu2
   rw[List.getElem?_eq_getElem (by omega)]at this
   simpa using Option.some.inj this
  rw[d1,d2]
  rcases hat j _ _ (List.getElem?_eq_getElem j1) (List.getElem?_eq_getElem j2)with⟨f1,f2,eb⟩|⟨p,q',vs,zs,ex,ey,t1,t2,f1,f2,eb⟩
  ·rw[eb];exact Kf ru1 ru2 f1 f2
  ·rw[ex]at ru1
   rw[ey]at ru2
   cases(show u1=Value.ref p from ru1)
   cases(show u2=Value.ref q' from ru2)
   obtain⟨is1,w1,m1,_⟩:=I.tuple t1
   obtain⟨is2,w2,m2,_⟩:=I.tuple t2
   rw[eb]
   exact NB (A:=X.A.in1) m1 m2 w1 w2 f1 f2 (by show X.A.units+1 < _;omega))
 refine hc X.prog X.w X.xe _ ⟨.bl _,H,I,rfl,?_⟩
 have ev:((List.range (min us.toArray.size ws.toArray.size)).all e&&us.toArray.size==ws.toArray.size)=(List.range xs.length).all e:=by
  rw[List.size_toArray,List.size_toArray,<-e1,<-e2,hl,Nat.min_self,beq_self_eq_true,Bool.and_true]
 rw[ev];exact q
def TV:V->List V->Hp->VK->Prop:=λx vs H Q=>∃(l:Addr) (bs:List Bool) (y:Bool),x=.ref l/\vs=[.bl y]/\H l=some (.tup (bs.map V.bl))/\Q (.int ((bs.count y:Nat):Int)) H
theorem Ck (bs:List Bool):(bs.map V.bl).all BZ=true:=by
 rw[List.all_eq_true]
 intro x hx
 obtain⟨b,_,rfl⟩:=List.mem_map.mp hx
 rfl
theorem Kz:Sy X "tuple.count" TV:=by
 intro pins s σ H x vs v us Q I rx rv h
 obtain⟨l,bs,y,rfl,rfl,hH,q⟩:=h
 cases rx
 obtain⟨u,rfl,ru⟩:=rv.one
 have ru0:=ru
 cases(show u=Value.bool y from ru)
 obtain⟨_,its,r,⟨o,e,h2,n,h3⟩⟩:=(show A2 X.prog X.w H s.heap l (.tup (bs.map V.bl))from I.hok l _ hH)
 obtain⟨cls,dd,dat,sl⟩:=o
 cases h2;cases h3
 refine call_meets F.slot_tuple_count ⟨_,e,rfl⟩ F.entry_tuple_count (F.args_tuple_count_2 _ _) (SeqAt.tuple_countAt l its.toArray n dd sl (.bool y) (Nt (V.bl y))) ⟨e,λu hu=>Eh (x:=V.bl y) ru0 rfl r (Ck bs) u (by simpa using hu),?_⟩
 have key:∀(ms:List Bool) (us:List Value),Vals (ms.map V.bl) us->us.countP (Nt (V.bl y))=ms.count y:=by
  intro ms
  induction ms with
  |nil=>intro us hv;cases hv;rfl
  |cons m ms ih=>
   intro us hv
   cases hv with
   |cons h t=>
    cases(show _=Value.bool m from h)
    rw[List.countP_cons,ih _ t,List.count_cons]
    rfl
 have ek:=key bs its r
 have el:its.toArray.toList=its:=by simp
 rw[el,ek]
 exact⟨.int _,H,I.tok _,⟨_,rfl⟩,q⟩
theorem K0 {o e:Expr}{to te:TE}{apos cpos:Pos}(ho:PE X o to)(he:PE X e te)(hbase:attributeBase o "count" X.env (eval o X.env)=eval o X.env:=by rfl)
 (h1:starEach [e] X.env=[(false,eval e X.env)]:=by rfl)(hl:(apos.endLine==cpos.line)=true:=by rfl):
 PE X (.Call (.Attribute o "count" apos) [e] [] cpos) (Ur TV to (Q0 te Sr)):=
 TF PySem.F.slot_tuple_count PySem.F.type_tuple_count Kz ho (AA he AD h1) hbase (by rw[h1];rfl) hl h1 (by rfl)
end
end L2
namespace L2
open PySem
theorem U4 {α:Type}{p:List α->Prop}(h:p [])(us:List α)(hl:us.length=0):p us:=by
 cases us with
 |nil=>exact h
 |cons _ _=>cases hl
theorem Gy {α:Type}{p:List α->Prop}(h:∀a,p [a])(us:List α)(hl:us.length=1):p us:=by
 cases us with
 |nil=>cases hl
 |cons a us=>exact U4 (p:=λus=>p (a::us)) (h a) us (Nat.succ.inj hl)
theorem Om {α:Type}{p:List α->Prop}(h:∀a b,p [a,b])(us:List α)(hl:us.length=2):p us:=by
 cases us with
 |nil=>cases hl
 |cons a us=>exact Gy (p:=λus=>p (a::us)) (h a) us (Nat.succ.inj hl)
theorem mid {t u:TS}{D:Ends}{σ:St}{H:Hp}(P:St->Hp->Prop)(h2:∀σ' H',P σ' H'->u D σ' H')(h1:∀E:Ends,(∀σ' H',P σ' H'->E.nx σ' H')->t E σ H):Nd t u D σ H:=h1 { D with nx:=u D } h2
def Ue (U:PySem.W.Frag->TS)(K:PySem.W.Frag)(D:Ends):St->Hp->Prop:=U K D
def TX (T U:PySem.W.Frag->TS)(K:PySem.W.Frag):TS:=λD σ H=>T K { D with nx:=Ue U K D } σ H
theorem Ae {T U V:PySem.W.Frag->TS}(h:∀K,U K=V K):∀K,Nd (T K) (U K)=TX T V K:=by
 have e:U=V:=funext h
 subst e
 exact λ_=>rfl
theorem Dn {K:PySem.W.Frag}{t u V:PySem.W.Frag->TS}{D:Ends}{σ:St}{H:Hp}(e:∀K,Nd (t K) (u K)=V K)(h:V K D σ H):∀K',K=K'->Nd (t K') (u K') D σ H:=by
 rintro K' rfl;rw[e];exact h
end L2
namespace W29
structure Rw (n:Nat)(κ:Nat->Nat->Prop)(pl par:Nat->Nat)(last:Nat->Bool):Prop where
 irr:∀a,¬κ a a
 tr:∀a b c,κ a b->κ b c->κ a c
 ro:∀o o',1<=o->o < o'->o' < n->κ (par o) (par o')\/(par o=par o'/\pl o < pl o')
 lst:∀o,1<=o->o < n->(last o=true↔∀o',1<=o'->o' < n->par o'=par o->pl o'<=pl o)
section
variable {n:Nat}{κ:Nat->Nat->Prop}{pl par:Nat->Nat}{last:Nat->Bool}
theorem Rw.mid (R:Rw n κ pl par last){o m o':Nat}(h1:1<=o)(h2:o<=m)(h3:m<=o')(h4:o' < n)(e:par o=par o'):par m=par o:=by
 rcases Nat.eq_or_lt_of_le h2 with a|a
 ·rw[a]
 ·rcases Nat.eq_or_lt_of_le h3 with b|b
  ·rw[b,e]
  ·rcases R.ro o m h1 a (by omega)with x|⟨x,_⟩
   ·rcases R.ro m o' (by omega) b h4 with y|⟨y,_⟩
    ·exact absurd (R.tr _ _ _ x (by rw[e];exact y)) (R.irr _)
    ·rw[y,<-e]
   ·exact x.symm
theorem Rw.next (R:Rw n κ pl par last){o:Nat}(h1:1<=o)(h2:o < n)(h:last o=false):o+1 < n/\par (o+1)=par o:=by
 have nl:¬∀o',1<=o'->o' < n->par o'=par o->pl o'<=pl o:=λz=>by
  have:=(R.lst o h1 h2).mpr z
  rw[h]at this;cases this
 have ex:∃o',1<=o'/\o' < n/\par o'=par o/\pl o < pl o':=by
  refine Classical.byContradiction λc=>nl λo' a b e=>?_
  rcases Nat.lt_or_ge (pl o) (pl o')with z|z
  ·exact absurd ⟨o',a,b,e,z⟩ c
  ·exact z
 obtain⟨o',a,b,e,z⟩:=ex
 have lt:o < o':=by
  rcases Nat.lt_trichotomy o o' with c|c|c
  ·exact c
  ·subst c;omega
  ·rcases R.ro o' o a c h2 with y|⟨_,y⟩
   ·rw[e]at y;exact absurd y (R.irr _)
   ·omega
 exact⟨by omega,R.mid h1 (Nat.le_succ o) lt b e.symm⟩
theorem Rw.stop (R:Rw n κ pl par last){o o':Nat}(h1:1<=o)(h2:o < o')(h3:o' < n)(h:last o=true):par o'≠par o:=λe=>by
 have z:=(R.lst o h1 (by omega)).mp h o' (by omega) h3 e
 rcases R.ro o o' h1 h2 h3 with y|⟨_,y⟩
 ·rw[e]at y;exact absurd y (R.irr _)
 ·omega
def Br (last:Nat->Bool):Nat->List (Nat×Nat)×Nat
 |0=>([],1)
 |r+1=>if 0 < r/\last r=true then((Br last r).1++[((Br last r).2,r+1)],r+1)else Br last r
structure GI (last:Nat->Bool)(r:Nat)(gs:List (Nat×Nat))(first:Nat):Prop where
 f1:1<=first
 f2:first<=r\/first=1
 fl:first=1\/last (first - 1)=true
 opn:∀o,first<=o->o < r->last o=false
 ends:∀(k:Nat) (g:Nat×Nat),gs[k]?=some g->(1::gs.map (·.2))[k]?=some g.1
 endL:(1::gs.map (·.2)).getLast?=some first
 mem:∀g∈gs,1<=g.1/\g.1 < g.2/\g.2<=first/\(g.1=1\/last (g.1 - 1)=true)/\last (g.2 - 1)=true/\∀o,g.1<=o->o < g.2 - 1->last o=false
 pw:gs.Pairwise (λg h=>g.2<=h.1)
 cov:∀o,1<=o->o < first->∃g∈gs,g.1<=o/\o < g.2
 len:gs.length<=r
theorem Dp (last:Nat->Bool):∀r,GI last r (Br last r).1 (Br last r).2
 |0=>⟨Nat.le_refl _,.inr rfl,.inl rfl,λo _ h=>absurd h (Nat.not_lt_zero _),λk g h=>by simp[Br]at h,rfl,λg h=>by simp[Br]at h,by simp[Br],λo a b=>by simp[Br]at b;omega,Nat.le_refl _⟩
 |r+1=>by
  have I:=Dp last r
  rw[Br]
  by_cases c:0 < r/\last r=true
  ·rw[if_pos c]
   generalize(Br last r).1=gs at I
   generalize(Br last r).2=first at I
   have fr:first<=r:=by rcases I.f2 with z|z<;>omega
   refine⟨by show 1<=r+1;omega,.inl (Nat.le_refl _),.inr c.2,λo a b=>by simp at a;omega,λk g h=>?_,by rw[List.map_append,<-List.cons_append];exact List.getLast?_concat,λg h=>?_,?_,λo a b=>?_,by simp;have:=I.len;omega⟩
   ·simp only at h
    rcases Nat.lt_or_ge k gs.length with z|z
    ·rw[List.getElem?_append_left z]at h
     have:=I.ends k g h
     rw[List.map_append,<-List.cons_append,List.getElem?_append_left (by simp;omega)]
     exact this
    ·rw[List.getElem?_append_right z]at h
     have k0:k - gs.length=0:=by
      rcases Nat.eq_zero_or_pos (k - gs.length)with y|y
      ·exact y
      ·rw[List.getElem?_eq_none (by simp;omega)]at h;cases h
     rw[k0]at h
     have eg:(first,r+1)=g:=by simpa using h
     have ek:k=gs.length:=by omega
     rw[<-eg,ek,List.map_append,<-List.cons_append,List.getElem?_append_left (by simp)]
     have:=I.endL
     rw[List.getLast?_eq_getElem?]at this
     simpa using this
   ·simp only at h
    rcases List.mem_append.mp h with z|z
    ·obtain⟨a1,a2,a3,a4,a5,a6⟩:=I.mem g z
     exact⟨a1,a2,by show g.2<=r+1;omega,a4,a5,a6⟩
    ·have eg:g=(first,r+1):=by simpa using z
     subst eg
     exact⟨I.f1,by show first < r+1;omega,Nat.le_refl _,I.fl,c.2,λo a b=>I.opn o a (by simp at b;omega)⟩
   ·simp only
    rw[List.pairwise_append]
    refine⟨I.pw,List.pairwise_singleton _ _,λg hg h hh=>?_⟩
    have eg:h=(first,r+1):=by simpa using hh
    subst eg
    exact(I.mem g hg).2.2.1
   ·simp only at b ⊢
    rcases Nat.lt_or_ge o first with z|z
    ·obtain⟨g,hg,w⟩:=I.cov o a z
     exact⟨g,List.mem_append_left _ hg,w⟩
    ·exact⟨(first,r+1),by simp,z,b⟩
  ·rw[if_neg c]
   refine⟨I.f1,I.f2.elim (λz=>.inl (by omega)) .inr,I.fl,λo a b=>?_,I.ends,I.endL,I.mem,I.pw,I.cov,by have:=I.len;omega⟩
   rcases Nat.lt_or_ge o r with z|z
   ·exact I.opn o a z
   ·have:o=r:=by omega
    subst this
    have:=I.f1
    cases e:last o with
    |false=>rfl
    |true=>exact absurd ⟨by omega,e⟩ c
theorem Rw.whole (R:Rw n κ pl par last)(hn:1<=n){gs:List (Nat×Nat)}{first:Nat}(I:GI last n gs first):first=n:=by
 have f2:=I.f2
 have f1:=I.f1
 rcases Nat.lt_or_ge first n with z|z
 ·exfalso
  have:=I.opn (n - 1) (by omega) (by omega)
  have:=(R.next (o:=n - 1) (by omega) (by omega) this).1
  omega
 ·omega
theorem Rw.one (R:Rw n κ pl par last){gs:List (Nat×Nat)}{first:Nat}(I:GI last n gs first)(hf:first<=n){g:Nat×Nat}(hg:g∈gs):∀d,g.1+d < g.2->par (g.1+d)=par g.1
 |0,_=>rfl
 |d+1,h=>by
  obtain⟨a1,a2,a3,a4,a5,a6⟩:=I.mem g hg
  have ih:=R.one I hf hg d (by omega)
  have:=(R.next (o:=g.1+d) (by omega) (by omega) (a6 _ (by omega) (by omega))).2
  rw[<-ih];exact this
theorem Rw.all (R:Rw n κ pl par last){gs:List (Nat×Nat)}{first:Nat}(I:GI last n gs first)(hf:first<=n){g:Nat×Nat}(hg:g∈gs){o:Nat}(h1:1<=o)(h2:o < n):par o=par g.1↔g.1<=o/\o < g.2:=by
 obtain⟨a1,a2,a3,a4,a5,a6⟩:=I.mem g hg
 constructor
 ·intro e
  constructor
  ·rcases Nat.lt_or_ge o g.1 with z|z
   ·exfalso
    have l:=a4.resolve_left (by omega)
    have m:=R.mid (o:=o) (m:=g.1 - 1) (o':=g.1) h1 (by omega) (by omega) (by omega) e
    exact R.stop (o:=g.1 - 1) (o':=g.1) (by omega) (by omega) (by omega) l (by rw[m,e])
   ·exact z
  ·rcases Nat.lt_or_ge o g.2 with z|z
   ·exact z
   ·exfalso
    have:=R.one I hf hg (g.2 - 1 - g.1) (by omega)
    rw[show g.1+(g.2 - 1 - g.1)=g.2 - 1 by omega]at this
    exact R.stop (o:=g.2 - 1) (o':=o) (by omega) (by omega) h2 a5 (by rw[e,this])
 ·rintro⟨x,y⟩
  have:=R.one I hf hg (o - g.1) (by omega)
  rw[show g.1+(o - g.1)=o by omega]at this
  exact this
theorem Rw.rise (R:Rw n κ pl par last){gs:List (Nat×Nat)}{first:Nat}(I:GI last n gs first)(hf:first<=n):(gs.map λg=>par g.1).Pairwise κ:=by
 rw[List.pairwise_map]
 have pw:=I.pw
 refine List.Pairwise.imp_of_mem (λ{g h} hg hh e=>?_) pw
 obtain⟨a1,a2,a3,_⟩:=I.mem g hg
 obtain⟨b1,b2,b3,_⟩:=I.mem h hh
 rcases R.ro g.1 h.1 a1 (by omega) (by omega)with z|⟨z,_⟩
 ·exact z
 ·have:=((R.all I hf hg (o:=h.1) b1 (by omega)).mp z.symm).2
  omega
end
theorem Cd {κ:Nat->Nat->Prop}(irr:∀a,¬κ a a)(tr:∀a b c,κ a b->κ b c->κ a c):∀l1 l2:List Nat,l1.Pairwise κ->l2.Pairwise κ->(∀x,x∈l1↔x∈l2)->l1=l2
 |[],[],_,_,_=>rfl
 |[],y::ys,_,_,h=>absurd ((h y).mpr List.mem_cons_self) (by simp)
 |x::xs,[],_,_,h=>absurd ((h x).mp List.mem_cons_self) (by simp)
 |x::xs,y::ys,p1,p2,h=>by
  rw[List.pairwise_cons]at p1 p2
  have e:x=y:=by
   rcases List.mem_cons.mp ((h x).mp List.mem_cons_self)with z|z
   ·exact z
   ·rcases List.mem_cons.mp ((h y).mpr List.mem_cons_self)with w|w
    ·exact w.symm
    ·exact absurd (tr _ _ _ (p1.1 y w) (p2.1 x z)) (irr _)
  subst e
  congr 1
  refine Cd irr tr xs ys p1.2 p2.2 λz=>?_
  constructor
  ·intro hz
   rcases List.mem_cons.mp ((h z).mp (List.mem_cons_of_mem _ hz))with w|w
   ·subst w;exact absurd (p1.1 z hz) (irr _)
   ·exact w
  ·intro hz
   rcases List.mem_cons.mp ((h z).mpr (List.mem_cons_of_mem _ hz))with w|w
   ·subst w;exact absurd (p2.1 z hz) (irr _)
   ·exact w
end W29
namespace W27
abbrev St:=List (Nat×Int)×List Int×List Nat
def step (kids:Nat->List Nat)(lt:Nat->Nat):St->St
 |((r,u)::st,us,ls)=>((kids r).map (λl=>(l,(us.length:Int)))++st,us++[u],ls++[lt r])
 |s=>s
def run (kids:Nat->List Nat)(lt:Nat->Nat):Nat->St
 |0=>([(0,-1)],[],[])
 |i+1=>step kids lt (run kids lt i)
section
variable (ups:List Int)
def fr (i:Nat):List Nat:=(List.range ups.length).filter λy=>decide (i<=y/\ups.getD y 0 < (i:Int))
def EE (i:Nat):List Nat:=(List.range ups.length).filter λy=>decide (ups.getD y 0=(i:Int))
end
structure Tr (ups:List Int):Prop where
 pos:0 < ups.length
 root:ups.getD 0 0=-1
 up:∀k,0 < k->k < ups.length->0<=ups.getD k 0/\ups.getD k 0 < (k:Int)
 btw:∀i y z:Nat,y < ups.length->ups.getD y 0=(i:Int)->i < z->z < y->(i:Int)<=ups.getD z 0
variable {ups:List Int}
theorem K7 {i y:Nat}:y∈fr ups i↔y < ups.length/\i<=y/\ups.getD y 0 < (i:Int):=by
 unfold fr;rw[List.mem_filter,List.mem_range,decide_eq_true_eq]
theorem Ca {i y:Nat}:y∈EE ups i↔y < ups.length/\ups.getD y 0=(i:Int):=by
 unfold EE;rw[List.mem_filter,List.mem_range,decide_eq_true_eq]
theorem C5 (n:Nat)(p:Nat->Bool):((List.range n).filter p).Pairwise (·<·):=List.Pairwise.sublist List.filter_sublist List.pairwise_lt_range
theorem QY (t:Tr ups):fr ups 0=[0]:=by
 refine W29.Cd (κ:=(·<·)) Nat.lt_irrefl (λa b c=>Nat.lt_trans) _ _ (C5 _ _) (List.pairwise_singleton _ _) λx=>?_
 rw[K7,List.mem_singleton]
 constructor
 ·rintro⟨h1,_,h3⟩
  rcases Nat.eq_zero_or_pos x with e|e
  ·exact e
  ·have:=(t.up x e h1).1;omega
 ·rintro rfl
  exact⟨t.pos,Nat.le_refl _,by rw[t.root];decide⟩
theorem L4 (t:Tr ups){i:Nat}(hi:i < ups.length):∃F,fr ups i=i::F/\fr ups (i+1)=EE ups i++F:=by
 have upi:ups.getD i 0 < (i:Int):=by
  rcases Nat.eq_zero_or_pos i with e|e
  ·subst e;rw[t.root];decide
  ·exact(t.up i e hi).2
 let F:=(List.range ups.length).filter λy=>decide (i+1<=y/\ups.getD y 0 < (i:Int))
 have memF:∀y,y∈F↔y < ups.length/\i+1<=y/\ups.getD y 0 < (i:Int):=λy=>by
  show y∈(List.range ups.length).filter _↔_
  rw[List.mem_filter,List.mem_range,decide_eq_true_eq]
 have pF:F.Pairwise (·<·):=C5 _ _
 refine⟨F,?_,?_⟩
 ·refine W29.Cd (κ:=(·<·)) Nat.lt_irrefl (λa b c=>Nat.lt_trans) _ _ (C5 _ _) (List.pairwise_cons.mpr ⟨λy hy=>by have:=(memF y).mp hy;omega,pF⟩) λx=>?_
  rw[K7,List.mem_cons,memF]
  constructor
  ·rintro⟨h1,h2,h3⟩
   rcases Nat.eq_or_lt_of_le h2 with e|e
   ·exact .inl e.symm
   ·exact .inr ⟨h1,e,h3⟩
  ·rintro(rfl|⟨h1,h2,h3⟩)
   ·exact⟨hi,Nat.le_refl _,upi⟩
   ·exact⟨h1,by omega,h3⟩
 ·refine W29.Cd (κ:=(·<·)) Nat.lt_irrefl (λa b c=>Nat.lt_trans) _ _ (C5 _ _) (List.pairwise_append.mpr ⟨C5 _ _,pF,λa ha b hb=>?_⟩) λx=>?_
  ·obtain⟨a1,a2⟩:=Ca.mp ha
   obtain⟨b1,b2,b3⟩:=(memF b).mp hb
   rcases Nat.lt_trichotomy a b with q|q|q
   ·exact q
   ·subst q;omega
   ·have:=t.btw i a b a1 a2 (by omega) q;omega
  ·rw[K7,List.mem_append,Ca,memF]
   constructor
   ·rintro⟨h1,h2,h3⟩
    by_cases e:ups.getD x 0=(i:Int)
    ·exact .inl ⟨h1,e⟩
    ·exact .inr ⟨h1,h2,by omega⟩
   ·rintro(⟨h1,h2⟩|⟨h1,h2,h3⟩)
    ·refine⟨h1,?_,by omega⟩
     have:x≠0:=λe=>by rw[e,t.root]at h2;omega
     have:=(t.up x (by omega) h1).2
     omega
    ·exact⟨h1,h2,by omega⟩
theorem Oo (t:Tr ups){lab:List Nat}{kids:Nat->List Nat}{lt:Nat->Nat}{ro:Nat->Nat}(r0:ro 0=0)(hk:∀i,i < ups.length->kids (ro i)=(EE ups i).map ro)(hl:∀i,i < ups.length->lt (ro i)=lab.getD i 0)(ll:lab.length=ups.length):
 ∀i,i<=ups.length->run kids lt i=((fr ups i).map (λy=>(ro y,ups.getD y 0)),ups.take i,lab.take i)
 |0,_=>by
  rw[QY t]
  show([(0,-1)],[],[])=_
  rw[List.map_cons,List.map_nil,r0,t.root];rfl
 |i+1,hi=>by
  have ih:=Oo t r0 hk hl ll i (by omega)
  obtain⟨F,e1,e2⟩:=L4 t (show i < ups.length by omega)
  show step kids lt (run kids lt i)=_
  rw[ih,e1,e2,List.map_cons]
  show((kids (ro i)).map (λl=>(l,((ups.take i).length:Int)))++F.map (λy=>(ro y,ups.getD y 0)),ups.take i++[ups.getD i 0],lab.take i++[lt (ro i)])=_
  rw[hk i (by omega),hl i (by omega),List.length_take,Nat.min_eq_left (by omega),List.map_map,List.map_append]
  have g1:ups.take (i+1)=ups.take i++[ups.getD i 0]:=by
   rw[List.take_succ,List.getD_eq_getElem?_getD,List.getElem?_eq_getElem (by omega)];rfl
  have g2:lab.take (i+1)=lab.take i++[lab.getD i 0]:=by
   rw[List.take_succ,List.getD_eq_getElem?_getD,List.getElem?_eq_getElem (by omega)];rfl
  rw[g1,g2]
  congr 2
  refine List.map_congr_left λy hy=>?_
  show(ro y,(i:Int))=(ro y,ups.getD y 0)
  rw[(Ca.mp hy).2]
end W27
namespace W7
def wd (ups:List Int)(lab:List Nat):Nat->Nat->List Nat
 |0,_=>[]
 |f+1,k=>lab.getD k 0::(if ups.getD k 0 < 0 then[]else wd ups lab f (ups.getD k 0).toNat)
structure Af (ups:List Int)(lab:List Nat):Prop where
 len:ups.length=lab.length
 pos:0 < ups.length
 most:ups.length<=60
 root:ups.getD 0 0=-1
 up:∀k,0 < k->k < ups.length->0<=ups.getD k 0/\ups.getD k 0 < (k:Int)
theorem Af.lt {ups:List Int}{lab:List Nat}(t:Af ups lab){k:Nat}(h:k < ups.length)(h0:¬ups.getD k 0 < 0):(ups.getD k 0).toNat < k:=by
 rcases Nat.eq_zero_or_pos k with e|e
 ·subst e;have:=t.root;omega
 ·have:=t.up k e h;omega
theorem Af.neg {ups:List Int}{lab:List Nat}(t:Af ups lab){k:Nat}(h:k < ups.length):ups.getD k 0 < 0↔ups.getD k 0=-1:=by
 rcases Nat.eq_zero_or_pos k with e|e
 ·subst e;have:=t.root;omega
 ·have:=t.up k e h;omega
theorem L5 {ups:List Int}{lab:List Nat}(t:Af ups lab):∀(f g k:Nat),k < ups.length->k < f->k < g->wd ups lab f k=wd ups lab g k
 |0,_,_,_,h,_=>absurd h (Nat.not_lt_zero _)
 |_+1,0,_,_,_,h=>absurd h (Nat.not_lt_zero _)
 |f+1,g+1,k,hk,hf,hg=>by
  simp only[wd]
  congr 1
  split
  ·rfl
  ·rename_i h0
   have:=t.lt hk h0
   exact L5 t f g _ (by omega) (by omega) (by omega)
def W (ups:List Int)(lab:List Nat)(k:Nat):List Nat:=wd ups lab (k+1) k
theorem JV {ups:List Int}{lab:List Nat}(t:Af ups lab){k:Nat}(hk:k < ups.length):W ups lab k=lab.getD k 0::(if ups.getD k 0 < 0 then[]else W ups lab (ups.getD k 0).toNat):=by
 unfold W
 rw[wd]
 congr 1
 split
 ·rfl
 ·rename_i h0
  have:=t.lt hk h0
  exact L5 t _ _ _ (by omega) (by omega) (by omega)
theorem RA {ups:List Int}{lab:List Nat}(t:Af ups lab):∀(n k:Nat),k < n->k < ups.length->(W ups lab k).length<=k+1
 |0,_,h,_=>absurd h (Nat.not_lt_zero _)
 |n+1,k,hn,hk=>by
  rw[JV t hk]
  split
  ·simp
  ·rename_i h0
   have:=t.lt hk h0
   have ih:=RA t n (ups.getD k 0).toNat (by omega) (by omega)
   simp only[List.length_cons]
   omega
def R (ups:List Int)(lab:List Nat)(k:Int):List Nat:=if k < 0 then[]else W ups lab k.toNat
theorem Ry {ups:List Int}{lab:List Nat}(t:Af ups lab){k:Int}(h0:0<=k)(hk:k < (ups.length:Int)):R ups lab k=lab.getD k.toNat 0::R ups lab (ups.getD k.toNat 0):=by
 unfold R
 rw[if_neg (by omega),JV t (by omega)]
end W7
namespace W7
def SS (ups:List Int):Nat->Nat->List Int
 |0,_=>[]
 |f+1,k=>if ups.getD k 0 < 0 then[]else ups.getD k 0::SS ups f (ups.getD k 0).toNat
theorem JW {ups:List Int}{lab:List Nat}(t:Af ups lab):∀(f g k:Nat),k < ups.length->k < f->k < g->SS ups f k=SS ups g k
 |0,_,_,_,h,_=>absurd h (Nat.not_lt_zero _)
 |_+1,0,_,_,_,h=>absurd h (Nat.not_lt_zero _)
 |f+1,g+1,k,hk,hf,hg=>by
  simp only[SS]
  split
  ·rfl
  ·rename_i h0
   have:=t.lt hk h0
   congr 1
   exact JW t f g _ (by omega) (by omega) (by omega)
def JX (ups:List Int)(k:Nat):List Int:=SS ups (k+1) k
theorem Dq {ups:List Int}{lab:List Nat}(t:Af ups lab){k:Nat}(hk:k < ups.length):JX ups k=if ups.getD k 0 < 0 then[]else ups.getD k 0::JX ups (ups.getD k 0).toNat:=by
 unfold JX
 rw[SS]
 split
 ·rfl
 ·rename_i h0
  have:=t.lt hk h0
  congr 1
  exact JW t _ _ _ (by omega) (by omega) (by omega)
theorem IS {ups:List Int}{lab:List Nat}(t:Af ups lab):∀(n k:Nat),k < n->k < ups.length->(JX ups k).length<=k/\∀v∈JX ups k,0<=v/\v < (k:Int)
 |0,_,h,_=>absurd h (Nat.not_lt_zero _)
 |n+1,k,hn,hk=>by
  rw[Dq t hk]
  split
  ·exact⟨Nat.zero_le _,λv hv=>nomatch hv⟩
  ·rename_i h0
   have lt:=t.lt hk h0
   obtain⟨i1,i2⟩:=IS t n (ups.getD k 0).toNat (by omega) (by omega)
   refine⟨by rw[List.length_cons];omega,λv hv=>?_⟩
   rcases List.mem_cons.mp hv with e|e
   ·omega
   ·have:=i2 v e;omega
end W7
namespace S28
open PySem L2 W7
def top (i:Nat):Stmt:=PySem.Challenge.pw_upwords_k28_rows_told_apart.main.body.getD i (.Pass ⟨0,0,0,0⟩)
abbrev s_words_of:Stmt:=top 8
abbrev K8:List Str:=["tree","words","letter","up"]
theorem Cs:AW K8 ["tree"] (AJ s_words_of):=⟨rfl,rfl,rfl,by decide+kernel,rfl,by decide+kernel,by decide+kernel⟩
abbrev s_order_of:Stmt:=top 10
abbrev GR:List Str:=["tree","words"]
theorem Ff:AW GR ["tree"] (AJ s_order_of):=⟨rfl,rfl,rfl,by decide+kernel,rfl,by decide+kernel,by decide+kernel⟩
abbrev s_ranks_of:Stmt:=top 11
abbrev K9:List Str:=["tree","order","ranks","rank","place"]
theorem CQ:AW K9 ["tree"] (AJ s_ranks_of):=⟨rfl,rfl,rfl,by decide+kernel,rfl,by decide+kernel,by decide+kernel⟩
abbrev s_is_letters:Stmt:=top 14
abbrev Es:List Str:=["thing"]
theorem Gz:AW Es ["thing"] (AJ s_is_letters):=⟨rfl,rfl,rfl,by decide+kernel,rfl,by decide+kernel,by decide+kernel⟩
abbrev s_is_labels:Stmt:=top 17
abbrev JY:List Str:=["thing"]
theorem IT:AW JY ["thing"] (AJ s_is_labels):=⟨rfl,rfl,rfl,by decide+kernel,rfl,by decide+kernel,by decide+kernel⟩
abbrev s_beneath_of:Stmt:=top 18
abbrev Et:List Str:=["tree","place"]
theorem G0:AW Et ["tree","place"] (AJ s_beneath_of):=⟨rfl,rfl,rfl,by decide+kernel,rfl,by decide+kernel,by decide+kernel⟩
abbrev s_is_leaf:Stmt:=top 19
abbrev NC:List Str:=["tree","place"]
theorem LA:AW NC ["tree","place"] (AJ s_is_leaf):=⟨rfl,rfl,rfl,by decide+kernel,rfl,by decide+kernel,by decide+kernel⟩
abbrev s_grown_tree:Stmt:=top 20
abbrev DJ:List Str:=["knots","start","ups","labels","waiting","pair","knot","place"]
theorem BV:AW DJ ["knots","start"] (AJ s_grown_tree):=⟨rfl,rfl,rfl,by decide+kernel,rfl,by decide+kernel,by decide+kernel⟩
abbrev s_kept_order:Stmt:=top 22
abbrev Eu:List Str:=["tree","ups","ranks"]
theorem Cw:AW Eu ["tree"] (AJ s_kept_order):=⟨rfl,rfl,rfl,by decide+kernel,rfl,by decide+kernel,by decide+kernel⟩
abbrev s_rows_of:Stmt:=top 23
abbrev D7:List Str:=["tree","order","labels","lasts","leaves"]
theorem Cm:AW D7 ["tree"] (AJ s_rows_of):=⟨rfl,rfl,rfl,by decide+kernel,rfl,by decide+kernel,by decide+kernel⟩
abbrev s_is_last:Stmt:=top 24
abbrev ND:List Str:=["tree","place"]
theorem LB:AW ND ["tree","place"] (AJ s_is_last):=⟨rfl,rfl,rfl,by decide+kernel,rfl,by decide+kernel,by decide+kernel⟩
abbrev s_is_rows:Stmt:=top 25
abbrev NF:List Str:=["thing"]
theorem LC:AW NF ["thing"] (AJ s_is_rows):=⟨rfl,rfl,rfl,by decide+kernel,rfl,by decide+kernel,by decide+kernel⟩
abbrev s_tree_of:Stmt:=top 26
abbrev NG:List Str:=["rows"]
theorem LD:AW NG ["rows"] (AJ s_tree_of):=⟨rfl,rfl,rfl,by decide+kernel,rfl,by decide+kernel,by decide+kernel⟩
abbrev s_has_form:Stmt:=top 27
abbrev LF:List Str:=["thing","many"]
theorem Fg:AW LF ["thing"] (AJ s_has_form):=⟨rfl,rfl,rfl,by decide+kernel,rfl,by decide+kernel,by decide+kernel⟩
abbrev s_is_truths:Stmt:=top 28
abbrev Fh:List Str:=["thing","many"]
theorem IU:AW Fh ["thing","many"] (AJ s_is_truths):=⟨rfl,rfl,rfl,by decide+kernel,rfl,by decide+kernel,by decide+kernel⟩
abbrev s_tree_by:Stmt:=top 29
abbrev FR:List Str:=["rows","groups","beneath"]
theorem EW:AW FR ["rows"] (AJ s_tree_by):=⟨rfl,rfl,rfl,by decide+kernel,rfl,by decide+kernel,by decide+kernel⟩
abbrev s_groups_of:Stmt:=top 30
abbrev JZ:List Str:=["rows","found","first","row","last"]
theorem Bo:AW JZ ["rows"] (AJ s_groups_of):=⟨rfl,rfl,rfl,by decide+kernel,rfl,by decide+kernel,by decide+kernel⟩
abbrev s_group_numbers:Stmt:=top 31
abbrev DP:List Str:=["rows","inner","numbers","number","pair"]
theorem BX:AW DP ["rows"] (AJ s_group_numbers):=⟨rfl,rfl,rfl,by decide+kernel,rfl,by decide+kernel,by decide+kernel⟩
abbrev s_law_prime:Stmt:=top 33
abbrev Ja:List Str:=["at","some"]
theorem Ew:AW Ja ["at"] (AJ s_law_prime):=⟨rfl,rfl,rfl,by decide+kernel,rfl,by decide+kernel,by decide+kernel⟩
abbrev s_law_pool:Stmt:=top 34
abbrev LG:List Str:=["cell"]
theorem Jb:AW LG ["cell"] (AJ s_law_pool):=⟨rfl,rfl,rfl,by decide+kernel,rfl,by decide+kernel,by decide+kernel⟩
abbrev s_law_take:Stmt:=top 35
abbrev LH:List Str:=["pool","many","found","at","one","two"]
theorem CS:AW LH ["pool","many"] (AJ s_law_take):=⟨rfl,rfl,rfl,by decide+kernel,rfl,by decide+kernel,by decide+kernel⟩
abbrev s_law_letter:Stmt:=top 36
abbrev IV:List Str:=["pool","base"]
theorem HG:AW IV ["pool","base"] (AJ s_law_letter):=⟨rfl,rfl,rfl,by decide+kernel,rfl,by decide+kernel,by decide+kernel⟩
abbrev s_law_tree:Stmt:=top 37
abbrev EY:List Str:=["pool","most","many","base","way","kind","odd","period","climbs","signs","other","ups","labels","k","some","place","step","letters"]
theorem AX:AW EY ["pool","most"] (AJ s_law_tree):=⟨rfl,rfl,rfl,by decide+kernel,rfl,by decide+kernel,by decide+kernel⟩
abbrev s_law_word:Stmt:=top 38
abbrev LJ:List Str:=["tree","place","found"]
theorem Ct:AW LJ ["tree","place"] (AJ s_law_word):=⟨rfl,rfl,rfl,by decide+kernel,rfl,by decide+kernel,by decide+kernel⟩
abbrev s_law_cells:Stmt:=top 39
abbrev Jc:List Str:=["script","many"]
theorem IW:AW Jc ["script","many"] (AJ s_law_cells):=⟨rfl,rfl,rfl,by decide+kernel,rfl,by decide+kernel,by decide+kernel⟩
abbrev s_law_rows:Stmt:=top 40
abbrev Bz:List Str:=["tree","ups","labels","words","order","lasts"]
theorem B2:AW Bz ["tree"] (AJ s_law_rows):=⟨rfl,rfl,rfl,by decide+kernel,rfl,by decide+kernel,by decide+kernel⟩
abbrev s_law_form:Stmt:=top 41
abbrev EZ:List Str:=["thing","many","marks"]
theorem Dr:AW EZ ["thing"] (AJ s_law_form):=⟨rfl,rfl,rfl,by decide+kernel,rfl,by decide+kernel,by decide+kernel⟩
abbrev s_law_tree_by:Stmt:=top 42
abbrev EL:List Str:=["thing","labels","lasts","leaves","groups","group","row","under","letter","ups","found","waiting","up"]
theorem AU:AW EL ["thing"] (AJ s_law_tree_by):=⟨rfl,rfl,rfl,by decide+kernel,rfl,by decide+kernel,by decide+kernel⟩
abbrev s_law_due:Stmt:=top 43
abbrev NH:List Str:=["thing","tree"]
theorem GS:AW NH ["thing"] (AJ s_law_due):=⟨rfl,rfl,rfl,by decide+kernel,rfl,by decide+kernel,by decide+kernel⟩
abbrev s_law_marks_bent:Stmt:=top 44
abbrev FT:List Str:=["pool","marks","way","at","to","some","odd","turned"]
theorem Ax:AW FT ["pool","marks"] (AJ s_law_marks_bent):=⟨rfl,rfl,rfl,by decide+kernel,rfl,by decide+kernel,by decide+kernel⟩
abbrev s_law_bent:Stmt:=top 45
abbrev LM:List Str:=["pool","rows","way","labels","lasts","leaves","at","letter","some"]
theorem BP:AW LM ["pool","rows"] (AJ s_law_bent):=⟨rfl,rfl,rfl,by decide+kernel,rfl,by decide+kernel,by decide+kernel⟩
abbrev s_law_told:Stmt:=top 46
abbrev LN:List Str:=["thing","e"]
theorem Fi:AW LN ["thing"] (AJ s_law_told):=⟨rfl,rfl,rfl,by decide+kernel,rfl,by decide+kernel,by decide+kernel⟩
abbrev s_law:Stmt:=top 47
abbrev TY:List Str:=["script","k","cell","pool","rows","things","turn","once","thing","kept","due","found"]
theorem CY:AW TY ["script"] (AJ s_law):=⟨rfl,rfl,rfl,by decide+kernel,rfl,by decide+kernel,by decide+kernel⟩
section
variable {P:Program}{w:World}{K:PySem.W.Frag}{mg:Str->Option Value}{base:Heap}{k:Nat}
def mk (l:List Nat):Str:=⟨l.toArray⟩
theorem Oq (l:List Nat):(mk l).cps.toList=l:=rfl
theorem LO (l:List Nat):(mk l).length=l.length:=by simp[mk,Str.length]
theorem Cu {a b:Str}(h:a.cps.toList=b.cps.toList):a=b:=by
 obtain⟨x⟩:=a;obtain⟨y⟩:=b
 have:x=y:=Array.toList_inj.mp h
 rw[this]
theorem Rz (c:Nat)(l:List Nat):(⟨#[c]⟩:Str)++mk l=mk (c::l):=by
 apply Cu
 rw[app_list]
 rfl
def BE (H:Hp)(t:Addr)(ups:List Int)(lab:Str):Prop:=∃u,H t=some (.tup [.ref u,.str lab])/\H u=some (.tup (ups.map V.int))/\Af ups lab.cps.toList
theorem BE.same {H H':Hp}{t:Addr}{ups:List Int}{lab:Str}(h:BE H t ups lab)(s:AG H H'):BE H' t ups lab:=by
 obtain⟨u,a,b,c⟩:=h
 exact⟨u,s _ _ a,s _ _ b,c⟩
def Co (cs:List Nat):List V:=cs.map λc=>.str ⟨#[c]⟩
theorem Jd (cs:List Nat):(Co cs).length=cs.length:=List.length_map _
theorem IX {cs:List Nat}{i:Int}(h0:0<=i)(h1:i < (cs.length:Int)):∃c,DY (Co cs) i=some (.str ⟨#[c]⟩)/\c∈cs:=by
 have hk:i.toNat < cs.length:=by omega
 refine⟨cs[i.toNat],?_,List.getElem_mem hk⟩
 have e:=A0 (xs:=Co cs) (j:=i.toNat) (v:=.str ⟨#[cs[i.toNat]]⟩) (by unfold Co;rw[List.getElem?_map,List.getElem?_eq_getElem hk];rfl)
 rw[show((i.toNat:Nat):Int)=i by omega]at e
 exact e
theorem DK {us:List Int}{i:Int}(h0:0<=i)(h1:i < (us.length:Int)):DY (us.map V.int) i=some (.int (us.getD i.toNat 0)):=by
 have hk:i.toNat < us.length:=by omega
 have e:=A0 (xs:=us.map V.int) (j:=i.toNat) (v:=.int (us.getD i.toNat 0)) (by rw[List.getElem?_map,List.getElem?_eq_getElem hk,List.getD_eq_getElem?_getD,List.getElem?_eq_getElem hk];rfl)
 rw[show((i.toNat:Nat):Int)=i by omega]at e
 exact e
abbrev Lw (c:Nat):Prop:=97<=c/\c < 123
theorem L6 {i:Int}(h0:0<=i)(h1:i < 26):∃c,DY (Str.ofString "abcdefghijklmnopqrstuvwxyz").cps.toList i=some c/\Lw c:=by
 have hl:(Str.ofString "abcdefghijklmnopqrstuvwxyz").cps.toList.length=26:=by decide+kernel
 have hk:i.toNat < (Str.ofString "abcdefghijklmnopqrstuvwxyz").cps.toList.length:=by omega
 have e:=A0 (xs:=(Str.ofString "abcdefghijklmnopqrstuvwxyz").cps.toList) (j:=i.toNat) (List.getElem?_eq_getElem hk)
 rw[show((i.toNat:Nat):Int)=i by omega]at e
 have all:∀c∈(Str.ofString "abcdefghijklmnopqrstuvwxyz").cps.toList,Lw c:=by decide+kernel
 exact⟨_,e,all _ (List.getElem_mem hk)⟩
theorem menu {us:List Int}{n lo hi:Int}(h0:0<=n)(h1:n < (us.length:Int))(hb:∀v∈us,lo<=v/\v<=hi):∃v:Int,DY (us.map V.int) n=some (.int v)/\lo<=v/\v<=hi:=by
 refine⟨_,DK h0 h1,?_⟩
 have hk:n.toNat < us.length:=by omega
 rw[List.getD_eq_getElem?_getD,List.getElem?_eq_getElem hk]
 exact hb _ (List.getElem_mem hk)
def Je:Sp:=λvs H Q _=>∃z:Int,vs=[.int z]/\∀(n:Int) (H':Hp),0 < n->n < 2147483648->AG H H'->Q (.int n) H'
theorem NI (D:Df K mg "_law_prime" s_law_prime)(B:Blt mg):Bb P w K mg base "_law_prime" (k+1) ["at"] Je:=by
 refine D.has Ew (λ_ _ _ _ _ _=>Gy λ_=>rfl) (λvs H Q E h=>by obtain⟨z,rfl,_⟩:=h;rfl) (λf cdv A outer s H vs Q E hr h=>?_)
 obtain⟨z,rfl,q⟩:=h
 refine⟨_,(AE (AN (i:=1) Ew.nd rfl (by first|exact Or.inl rfl|exact Or.inr rfl) (Ai (AA AF (AA AF (AA AF (AA AF (AA AF (AA AF (AA AF AD)))))))))
 (AL (AV (AR Ap (AS ER (pv 1) (Ai (AA AF (AA AF (AA AF (AA AF AD)))))) (AS CV (pv 0) AF) (λ_ _=>rfl))))),?_⟩
 refine⟨(by show 7<=sizeLine;decide),λr1 hr1=>?_⟩
 refine⟨_,rfl,(by show 4<=sizeLine;decide),λr2 hr2=>?_⟩
 have n12:r1≠r2:=AI AB hr2
 refine⟨r1,r2,_,_,rfl,rfl,by rw[AH n12];exact AB,AB,(by show 11<=sizeLine;decide),λr3 hr3=>?_⟩
 refine⟨_,rfl,_,_,rfl,rfl,(by decide:(0:Int) < 11),?_⟩
 obtain⟨v,hv,v0,v1⟩:=menu (us:=[2147483647,2147483629,2147483587,2147483579,2147483563,2147483549,2147483543,2147483497,2147483489,2147483477,2147483423]) (n:=z % 11) (lo:=1) (hi:=2147483647) (Int.emod_nonneg _ (by decide)) (Int.emod_lt_of_pos _ (by decide)) (by decide)
 refine⟨r3,_,_,_,rfl,rfl,Am.of AB,hv,q v _ (by omega) (by omega) ?_⟩
 exact(((AG.refl H).new hr1).new hr2).new hr3
def L7:Sp:=λvs H Q _=>∃cell:Int,vs=[.int cell]/\∀(p:Addr) (x y:Int),H p=none->Q (.ref p) (upd H p (.lst [.int x,.int y,.int 0]))
theorem Ot (D:Df K mg "_law_pool" s_law_pool)(B:Blt mg):Bb P w K mg base "_law_pool" (k+1) ["cell"] L7:=by
 refine D.has Jb (λ_ _ _ _ _ _=>Gy λ_=>rfl) (λvs H Q E h=>by obtain⟨z,rfl,_⟩:=h;rfl) (λf cdv A outer s H vs Q E hr h=>?_)
 obtain⟨cell,rfl,q⟩:=h
 refine⟨_,(AL (AV (Ai (AA (AM (FG rfl) rfl B.max IK (AA AF (AA (AS KU (pv 0) (AS KW AF AF)) AD))) (AA (pv 0) (AA AF AD)))))),?_⟩
 refine⟨_,rfl,_,_,rfl,rfl,⟨by decide,by decide,by decide⟩,_,_,rfl,rfl,_,_,rfl,?_⟩
 exact⟨_,rfl,(by show 3<=sizeLine;decide),λp hp=>q p _ _ hp⟩
theorem R1 (u n z y:Int)(hn:0 < n)(hn2:n < 2147483648)(z0:0<=z)(z1:z < 1000000):(u % n*(u % n)+69621*z+y % 65537+1).natAbs < 2 ^ 64:=by
 have o1:=Int.emod_nonneg u (show n≠0 by omega)
 have o2:=Int.emod_lt_of_pos u hn
 generalize u % n=one at o1 o2
 have oo:one*one<=2147483648*2147483648:=Int.mul_le_mul (by omega) (by omega) o1 (by decide)
 have oo0:0<=one*one:=Int.mul_nonneg o1 o1
 have w1:=Int.emod_nonneg y (by decide:(65537:Int)≠0)
 have w2:=Int.emod_lt_of_pos y (by decide:(0:Int) < 65537)
 generalize one*one=q1 at oo oo0
 omega
theorem R3 (u n:Int)(hn:0 < n)(hn2:n < 2147483648):-(2 ^ 64) < u % n/\u % n < 2 ^ 64:=by
 have o1:=Int.emod_nonneg u (show n≠0 by omega)
 have o2:=Int.emod_lt_of_pos u hn
 omega
def Ex:Sp:=λvs H Q _=>∃(p:Addr) (m c:Int),vs=[.ref p,.int m]/\CO H p c/\c < 1000000/\0 < m/\m < 1073741824/\∀(n:Int) (H':Hp),0<=n->n < m->Kd p (c+1) H H'->Q (.int n) H'
theorem Ou (D:Df K mg "_law_take" s_law_take)(B:Blt mg)(G_law_prime:Bb P w K mg base "_law_prime" k ["at"] Je):Bb P w K mg base "_law_take" (k+1) ["pool","many"] Ex:=by
 refine D.has CS (λ_ _ _ _ _ _=>Om λ_ _=>rfl) (λvs H Q E h=>by obtain⟨p,m,c,rfl,_⟩:=h;rfl) (λf cdv A outer s H vs Q E hr h=>?_)
 obtain⟨p,m,c,rfl,⟨x,y,z,hp,z0,z1⟩,c6,m0,m1,q⟩:=h
 refine⟨_,(AE (Bk (Ab Lf (AR Ap (pv 0) AF (λ_ _=>rfl)) AF (AZ _))
 (AE (AN (i:=2) CS.nd rfl (by first|exact Or.inl rfl|exact Or.inr rfl) (AS CV (AR Ap (pv 0) AF (λ_ _=>rfl)) (pv 1)))
 (AE (DC (AS La (AR Ap (pv 0) AF (λ_ _=>rfl)) (pv 1)) (FF (pv 0) AF set_list))
 (AL (AV (pv 2)))))
 Av)
 (AE (AN (i:=3) CS.nd rfl (by first|exact Or.inl rfl|exact Or.inr rfl) (AR Ap (pv 0) AF (λ_ _=>rfl)))
 (AE (DC (AS BC (pv 3) AF) (FF (pv 0) AF set_list))
 (AE (AN (i:=4) CS.nd rfl (by first|exact Or.inl rfl|exact Or.inr rfl) (AS CV (AS KW (AS BC (AS BC (AS CV (AR Ap (pv 0) AF (λ_ _=>rfl)) AF) (AS EN AF (pv 3))) AF) AF) (AK G_law_prime hr rfl (AA (pv 3) AD))))
 (AE (AN (i:=5) CS.nd rfl (by first|exact Or.inl rfl|exact Or.inr rfl) (AS CV (AS KW (AS BC (AS BC (AS BC (AS EN (pv 4) (pv 4)) (AS EN AF (pv 3))) (AS CV (AR Ap (pv 0) AF (λ_ _=>rfl)) AF)) AF) AF) (AK G_law_prime hr rfl (AA (AS BC (pv 3) AF) AD))))
 (AL (AV (AS CV (AS La (AS CV (AS BC (AS EN (pv 5) AF) (pv 4)) (AK G_law_prime hr rfl (AA (AS BC (pv 3) AF) AD))) AF) (pv 1))))))))),?_⟩
 first|(dsimp only[Bp,Cx.Ft];generalize hK:K=K';revert K' hK;refine Dn (Ae <|Ae <|Ae <|Ae <|Ae <|λ_=>rfl) ?_)|skip
 refine⟨_,rfl,p,_,_,_,rfl,rfl,Am.of hp,rfl,_,_,rfl,rfl,_,rfl,CC (λcnd=>?_) (λcnd=>?_)⟩
 ·refine⟨_,rfl,p,_,_,_,rfl,rfl,Am.of hp,rfl,_,rfl,_,_,rfl,rfl,m0,?_⟩
  refine⟨_,rfl,p,_,_,_,rfl,rfl,Am.of hp,rfl,_,rfl,_,_,rfl,rfl,⟨m0,m1⟩,?_⟩
  refine⟨_,rfl,p,_,_,0,rfl,rfl,hp,rfl,_,rfl,?_⟩
  exact q _ _ (Int.emod_nonneg _ (by omega)) (Int.emod_lt_of_pos _ m0) ⟨⟨_,y,z,AB,z0,by omega⟩,λb o hb e=>by rw[AH hb];exact e⟩
 ·refine⟨_,rfl,p,_,_,_,rfl,rfl,Am.of hp,rfl,_,rfl,_,_,rfl,rfl,?_⟩
  refine⟨_,rfl,p,_,_,2,rfl,rfl,hp,rfl,?_⟩
  have hp':upd H p (.lst [.int x,.int y,.int (z+1)]) p=some (.lst [.int x,.int y,.int (z+1)]):=AB
  have kd:Kd p (c+1) H (upd H p (.lst [.int x,.int y,.int (z+1)])):=⟨⟨x,y,z+1,AB,by omega,by omega⟩,λb o hb e=>by rw[AH hb];exact e⟩
  have y1:=Int.emod_nonneg y (by decide:(2147483399:Int)≠0)
  have y2:=Int.emod_lt_of_pos y (by decide:(0:Int) < 2147483399)
  refine⟨_,rfl,p,_,_,_,rfl,rfl,Am.of hp',rfl,_,_,rfl,rfl,(by decide:(0:Int) < 2147483399),_,rfl,_,_,rfl,rfl,.inl ⟨by decide,by decide⟩,_,_,rfl,rfl,_,_,rfl,rfl,_,_,rfl,rfl,⟨by decide,by decide,by omega⟩,?_⟩
  refine⟨_,rfl,z,rfl,λn1 H1 a0 a1 s1=>⟨_,_,rfl,rfl,a0,?_⟩⟩
  have hp1:=s1 _ _ hp'
  refine⟨_,rfl,_,rfl,_,_,rfl,rfl,.inl (R3 _ _ a0 a1),_,rfl,_,_,rfl,rfl,.inl ⟨by decide,by decide⟩,_,_,rfl,rfl,_,rfl,p,_,_,_,rfl,rfl,Am.of hp1,rfl,_,_,rfl,rfl,(by decide:(0:Int) < 65537),_,_,rfl,rfl,_,_,rfl,rfl,_,_,rfl,rfl,⟨by decide,by decide,R1 _ _ _ _ a0 a1 z0 (by omega)⟩,?_⟩
  refine⟨_,rfl,_,_,rfl,rfl,z+4,rfl,λn2 H2 b0 b1 s2=>⟨_,_,rfl,rfl,b0,?_⟩⟩
  refine⟨_,rfl,_,_,rfl,rfl,.inr ⟨by decide,by decide⟩,_,rfl,_,_,rfl,rfl,_,rfl,_,_,rfl,rfl,z+7,rfl,λn3 H3 d0 d1 s3=>⟨_,_,rfl,rfl,d0,?_⟩⟩
  refine⟨_,_,rfl,rfl,⟨by decide,by decide⟩,_,rfl,_,_,rfl,rfl,m0,?_⟩
  exact q _ _ (Int.emod_nonneg _ (by omega)) (Int.emod_lt_of_pos _ m0) (((kd.same s1).same s2).same s3)
def Hl:Sp:=λvs H Q _=>∃(p b:Addr) (c b0 b1:Int),vs=[.ref p,.ref b]/\CO H p c/\c < 1000000/\H b=some (.tup [.int b0,.int b1])/\0 < b1/\b1<=26/\∀(ch:Nat) (H':Hp),Lw ch->Kd p (c+1) H H'->Q (.str ⟨#[ch]⟩) H'
theorem LP (D:Df K mg "_law_letter" s_law_letter)(B:Blt mg)(G_law_take:Bb P w K mg base "_law_take" k ["pool","many"] Ex):Bb P w K mg base "_law_letter" (k+1) ["pool","base"] Hl:=by
 refine D.has HG (λ_ _ _ _ _ _=>Om λ_ _=>rfl) (λvs H Q E h=>by obtain⟨p,b,c,b0,b1,rfl,_⟩:=h;rfl) (λf cdv A outer s H vs Q E hr h=>?_)
 obtain⟨p,b,c,b0,b1,rfl,hd,c6,hb,p0,p1,q⟩:=h
 refine⟨_,(AL (AV (AR DD Bi (AS CV (AS BC (AR Aj (pv 1) AF (λ_ _=>rfl)) (AS EN AF (AK G_law_take hr rfl (AA (pv 0) (AA (AR Aj (pv 1) AF (λ_ _=>rfl)) AD))))) AF) (λ_ _=>rfl)))),?_⟩
 have hl:(Str.ofString "abcdefghijklmnopqrstuvwxyz").length=26:=by decide+kernel
 refine⟨_,rfl,b,_,_,_,rfl,rfl,Ar.of hb,rfl,_,rfl,_,rfl,b,_,_,_,rfl,rfl,Ar.of hb,rfl,p,b1,c,rfl,hd,c6,p0,by omega,λn H1 n0 n1 kd=>?_⟩
 obtain⟨ch,hch,chl⟩:=L6 (i:=(b0+5*n) % 26) (Int.emod_nonneg _ (by decide)) (Int.emod_lt_of_pos _ (by decide))
 refine⟨_,_,rfl,rfl,.inl ⟨by decide,by decide⟩,_,_,rfl,rfl,_,_,rfl,rfl,(by decide:(0:Int) < 26),_,_,_,rfl,rfl,by rw[hl];exact Nat.le_of_lt (AO (by decide)),hch,q ch H1 chl kd⟩
def BY (ups:List Int)(lab:Str)(n:Nat):List V:=(List.range n).map λj=>.str (mk (W ups lab.cps.toList j))
def Jf:Sp:=λvs H Q _=>∃(t:Addr) (ups:List Int) (lab:Str),vs=[.ref t]/\BE H t ups lab/\∀(q:Addr) (H':Hp),AG H H'->H' q=some (.lst (BY ups lab ups.length))->Q (.ref q) H'
theorem NJ (D:Df K mg "words_of" s_words_of)(B:Blt mg):Bb P w K mg base "words_of" (k+1) ["tree"] Jf:=by
 refine D.has Cs (λ_ _ _ _ _ _=>Gy λ_=>rfl) (λvs H Q E h=>by obtain⟨t,ups,lab,rfl,_⟩:=h;rfl) (λf cdv A outer s H vs Q E hr h=>?_)
 obtain⟨t,ups,lab,rfl,⟨u,ht,hu,ok⟩,q⟩:=h
 refine⟨_,(AE (AN (i:=1) Cs.nd rfl (by first|exact Or.inl rfl|exact Or.inr rfl) (Ai AD))
 (AE (CF PassesOwn.never rfl (Rf rfl B.zip (AA (AR Aj (pv 0) AF (λ_ _=>rfl)) (AA (AR Aj (pv 0) AF (λ_ _=>rfl)) AD))) (Ce rfl (Ag (AQ (i:=2) Cs.nd rfl (by first|exact Or.inl rfl|exact Or.inr rfl)) (Ag (AQ (i:=3) Cs.nd rfl (by first|exact Or.inl rfl|exact Or.inr rfl)) Bv)))
 (AL (B4 (Cp PySem.F.plainAttrs_list PySem.F.slot_list_append PySem.F.type_list_append BM (pv 1) (AA (DU (Ab Cg (pv 3) (Iz F7 AF) (AZ _)) (pv 2) (AS BU (pv 2) (AR Ap (pv 1) (pv 3) (λ_ _=>rfl)))) AD)))))
 (AL (AV (pv 1))))),?_⟩
 first|(dsimp only[Bp,Cx.Ft];generalize hK:K=K';revert K' hK;refine Dn (Ae <|Ae <|λ_=>rfl) ?_)|skip
 have hlen:(signs lab).length=(ups.map V.int).length:=by rw[List.length_map,ok.len];simp[signs]
 refine⟨(by show 0<=sizeLine;decide),λr hr0=>?_⟩
 have s0:AG H (upd H r (.lst [])):=(AG.refl H).new hr0
 refine⟨_,rfl,t,_,_,_,rfl,rfl,Ar.of (s0 _ _ ht),rfl,_,rfl,t,_,_,_,rfl,rfl,Ar.of (s0 _ _ ht),rfl,.str lab,.tup u,rfl,⟨_,rfl⟩,⟨_,.inl (s0 _ _ hu)⟩,?_⟩
 refine QJ (xs:=signs lab) (ys:=ups.map V.int) (λi σ H'=>∃o1 o2:Option V,σ=[some (.ref t),some (.ref r),o1,o2]/\AG H H'/\H' r=some (.lst (BY ups lab i))) ⟨none,none,rfl,s0,AB⟩ hlen
  (λi σ H' hi h=>by obtain⟨o1,o2,_,s1,_⟩:=h;exact⟨rfl,.inl (s1 _ _ hu)⟩) ?_ ?_
 ·rintro i x y σ H' p hx hy ⟨o1,o2,rfl,s1,hr1⟩ hp
  obtain⟨c,hc,rfl⟩:∃c,lab.cps.toList[i]?=some c/\x=.str ⟨#[c]⟩:=by
   simp only[signs,List.getElem?_map]at hx
   cases e:lab.cps.toList[i]? with
   |none=>rw[e]at hx;cases hx
   |some c=>rw[e]at hx;exact⟨c,rfl,(Option.some.inj hx).symm⟩
  obtain⟨v,hv,rfl⟩:∃v,ups[i]?=some v/\y=.int v:=by
   simp only[List.getElem?_map]at hy
   cases e:ups[i]? with
   |none=>rw[e]at hy;cases hy
   |some v=>rw[e]at hy;exact⟨v,rfl,(Option.some.inj hy).symm⟩
  have hi:i < ups.length:=(List.getElem?_eq_some_iff.mp hv).1
  have ev:ups.getD i 0=v:=by rw[List.getD_eq_getElem?_getD,hv];rfl
  have ec:lab.cps.toList.getD i 0=c:=by rw[List.getD_eq_getElem?_getD,hc];rfl
  have hm:=ok.most
  have s2:AG H (upd H' p (.tup [.str ⟨#[c]⟩,.int v])):=s1.new hp
  have hr2:upd H' p (.tup [.str ⟨#[c]⟩,.int v]) r=some (.lst (BY ups lab i)):=by rw[AH (AI hr1 hp)];exact hr1
  have wl:(BY ups lab i).length=i:=by simp[BY]
  have step:BY ups lab (i+1)=BY ups lab i++[.str (mk (W ups lab.cps.toList i))]:=by
   unfold BY
   rw[List.range_succ,List.map_append];rfl
  refine⟨p,_,rfl,Ar.of AB,rfl,_,_,rfl,_,_,rfl,rfl,?_⟩
  refine⟨_,rfl,.inl ⟨rfl,_,Am.of hr2⟩,_,rfl,_,rfl,rfl,_,rfl,CC (λcnd=>?_) (λcnd=>?_)⟩
  ·have e1:V.int v=V.int (-1):=of_decide_eq_true cnd
   have e2:v=-1:=by injection e1
   have ew:W ups lab.cps.toList i=[c]:=by rw[JV ok hi,ev,ec,if_pos (by omega)]
   refine⟨_,rfl,r,_,_,rfl,rfl,hr2,by rw[wl];exact AO (by omega),⟨_,_,rfl,s2.write hr0,?_⟩⟩
   rw[AB,step,ew]
   rfl
  ·have e1:¬V.int v=V.int (-1):=of_decide_eq_false (Bool.eq_false_iff.mpr cnd)
   have e2:v≠-1:=λz=>e1 (by rw[z])
   have e3:¬v < 0:=by
    have:=ok.neg hi
    rw[ev]at this
    omega
   have lt:=ok.lt hi (by rw[ev];exact e3)
   rw[ev]at lt
   have hat:DY (BY ups lab i) v=some (.str (mk (W ups lab.cps.toList v.toNat))):=by
    have e:DY (BY ups lab i) ((v.toNat:Nat):Int)=some (.str (mk (W ups lab.cps.toList v.toNat))):=A0 (by
     unfold BY
     rw[List.getElem?_map,List.getElem?_range lt];rfl)
    rw[show((v.toNat:Nat):Int)=v by omega]at e
    exact e
   have wle:=RA ok (v.toNat+1) v.toNat (by omega) (by omega)
   have ew:W ups lab.cps.toList i=c::W ups lab.cps.toList v.toNat:=by rw[JV ok hi,ev,ec,if_neg e3]
   refine⟨_,rfl,_,rfl,_,rfl,r,_,_,_,rfl,rfl,Am.of hr2,hat,_,_,rfl,rfl,?_,r,_,_,rfl,rfl,hr2,by rw[wl];exact AO (by omega),⟨_,_,rfl,s2.write hr0,?_⟩⟩
   ·rw[LO]
    have:(⟨#[c]⟩:Str).length=1:=rfl
    rw[this]
    exact Nat.le_of_lt (AO (by omega))
   ·rw[AB,step,ew,Rz]
 ·rintro σ H' ⟨o1,o2,rfl,s1,hr1⟩
  refine⟨_,rfl,q r H' s1 ?_⟩
  rw[hr1]
  congr 2
  simp[signs,ok.len]
end
end S28
namespace S28
open PySem L2 W7
section
variable {P:Program}{w:World}{K:PySem.W.Frag}{mg:Str->Option Value}{base:Heap}{k:Nat}
def BF (us:List Int)(p:Int):Int:=if us.getD p.toNat 0 > 0 then us.getD p.toNat 0 else 0
def Ah (us:List Int):Nat->Int->Int
 |0,p=>p
 |n+1,p=>BF us (Ah us n p)
structure Dt (us:List Int):Prop where
 road:∀k,0 < k->k < us.length->∃n,Ah us n ((k:Int) - 1)=us.getD k 0
 pos:0 < us.length
 root:us.getD 0 0=-1
 up:∀k,0 < k->k < us.length->0<=us.getD k 0/\us.getD k 0 < (k:Int)
theorem C6 {us vs:List Int}{j:Nat}:(us++vs).getD j 0=if j < us.length then us.getD j 0 else vs.getD (j - us.length) 0:=by
 simp only[List.getD_eq_getElem?_getD]
 split
 ·rename_i h;rw[List.getElem?_append_left h]
 ·rename_i h;rw[List.getElem?_append_right (by omega)]
theorem Dt.Ah {us:List Int}(g:Dt us)(v:Int){p:Int}(h0:0<=p)(h1:p < (us.length:Int)):∀n,Ah (us++[v]) n p=Ah us n p/\0<=Ah us n p/\Ah us n p < (us.length:Int)
 |0=>⟨rfl,h0,h1⟩
 |n+1=>by
  obtain⟨a,b,c⟩:=g.Ah v h0 h1 n
  have lt:(S28.Ah us n p).toNat < us.length:=by omega
  have e:(us++[v]).getD (S28.Ah us n p).toNat 0=us.getD (S28.Ah us n p).toNat 0:=by rw[C6,if_pos lt]
  refine⟨?_,?_⟩
  ·show BF (us++[v]) (S28.Ah (us++[v]) n p)=BF us (S28.Ah us n p)
   rw[a];unfold BF;rw[e]
  ·show 0<=BF us (S28.Ah us n p)/\BF us (S28.Ah us n p) < (us.length:Int)
   have pos:=g.pos
   unfold BF
   rcases Nat.eq_zero_or_pos (S28.Ah us n p).toNat with z|z
   ·rw[z,g.root];exact⟨by decide,by show(0:Int) < _;omega⟩
   ·have:=g.up _ z lt
    split<;>omega
theorem Dt.snoc {us:List Int}(g:Dt us){v:Int}(h0:0<=v)(h1:v < (us.length:Int))(hr:∃n,S28.Ah us n ((us.length:Int) - 1)=v):Dt (us++[v]) where
 road:=λj hj hl=>by
  rw[List.length_append,List.length_singleton]at hl
  rw[C6]
  have pos:=g.pos
  split
  ·rename_i h
   obtain⟨n,e⟩:=g.road j hj h
   exact⟨n,((g.Ah v (by omega) (by omega) n).1).trans e⟩
  ·rename_i h
   have e:j=us.length:=by omega
   subst e
   obtain⟨n,e⟩:=hr
   rw[Nat.sub_self]
   exact⟨n,((g.Ah v (by omega) (by omega) n).1).trans e⟩
 pos:=by rw[List.length_append];have:=g.pos;omega
 root:=by rw[C6,if_pos g.pos];exact g.root
 up:=λj hj hl=>by
  rw[List.length_append,List.length_singleton]at hl
  rw[C6]
  split
  ·rename_i h;exact g.up j hj h
  ·rename_i h
   have e:j=us.length:=by omega
   subst e
   rw[Nat.sub_self]
   exact⟨h0,h1⟩
theorem Dt.one:Dt [-1]:=⟨λj h0 h1=>by
 have:j < 1:=h1
 omega,by decide,rfl,λj h0 h1=>by
 have:j < 1:=h1
 omega⟩
theorem IY {us:List Int}{ls:List Nat}(g:Dt us)(hl:us.length=ls.length)(h60:us.length<=60):Af us (mk ls).cps.toList:=⟨by rw[Oq];exact hl,g.pos,h60,g.root,g.up⟩
structure Jg (ups:List Int)(lab:Str):Prop where
 low:∀c∈lab.cps.toList,Lw c
 road:∀k,0 < k->k < ups.length->∃n,Ah ups n ((k:Int) - 1)=ups.getD k 0
def U5 (us:List Int):Prop:=us=[]\/Dt us
theorem L8 {cs:List Nat}{c:Nat}(h:∀x∈cs,Lw x)(hc:Lw c):∀x∈cs++[c],Lw x:=λx hx=>by
 rcases List.mem_append.mp hx with z|z
 ·exact h x z
 ·obtain rfl:=List.mem_singleton.mp z;exact hc
def L9:Sp:=λvs H Q _=>∃(p:Addr) (most c:Int),vs=[.ref p,.int most]/\CO H p c/\0<=c/\c < 900000/\1<=most/\most<=60/\∀(t:Addr) (ups:List Int) (lab:Str) (H':Hp),Kd p (c+400) H H'->BE H' t ups lab->Jg ups lab->Q (.ref t) H'
theorem Ov (D:Df K mg "_law_tree" s_law_tree)(B:Blt mg)(G_law_take:Bb P w K mg base "_law_take" k ["pool","many"] Ex)(G_law_letter:Bb P w K mg base "_law_letter" k ["pool","base"] Hl):Bb P w K mg base "_law_tree" (k+1) ["pool","most"] L9:=by
 refine D.has AX (λ_ _ _ _ _ _=>Om λ_ _=>rfl) (λvs H Q E h=>by obtain⟨p,m,c,rfl,_⟩:=h;rfl) (λf cdv A outer s H vs Q E hr h=>?_)
 obtain⟨p,most,c,rfl,hd,cc0,cc1,ms1,ms60,q⟩:=h
 refine⟨_,(AE (AN (i:=2) AX.nd rfl (by first|exact Or.inl rfl|exact Or.inr rfl) (AR Ap (Ai (AA (AS BC AF (AK G_law_take hr rfl (AA (pv 0) (AA (pv 1) AD)))) (AA (pv 1) (AA (AS BC AF (AK G_law_take hr rfl (AA (pv 0) (AA (AM (Mf rfl) rfl B.min Rg (AA (pv 1) (AA AF AD))) AD)))) AD)))) (AK G_law_take hr rfl (AA (pv 0) (AA AF AD))) (λ_ _=>rfl)))
 (AE (AN (i:=3) AX.nd rfl (by first|exact Or.inl rfl|exact Or.inr rfl) (Ak (AA (AK G_law_take hr rfl (AA (pv 0) (AA AF AD))) (AA (AR Ap (Ai (AA AF (AA AF (AA AF (AA AF AD))))) (AK G_law_take hr rfl (AA (pv 0) (AA AF AD))) (λ_ _=>rfl)) AD))))
 (AE (AN (i:=4) AX.nd rfl (by first|exact Or.inl rfl|exact Or.inr rfl) (AK G_law_take hr rfl (AA (pv 0) (AA AF AD))))
 (AE (AN (i:=5) AX.nd rfl (by first|exact Or.inl rfl|exact Or.inr rfl) (AM (FG rfl) rfl B.max IK (AA (AK G_law_take hr rfl (AA (pv 0) (AA AF AD))) (AA (Ao CG rfl B.int_ ET (AA (Bd Cg (pv 4) AF (AZ _)) AD)) AD))))
 (AE (AN (i:=6) AX.nd rfl (by first|exact Or.inl rfl|exact Or.inr rfl) (AK G_law_take hr rfl (AA (pv 0) (AA (pv 2) AD))))
 (AE (AN (i:=7) AX.nd rfl (by first|exact Or.inl rfl|exact Or.inr rfl) (AS BC AF (AK G_law_take hr rfl (AA (pv 0) (AA AF AD)))))
 (AE (IG (i:=8) AX.nd rfl (by first|exact Or.inl rfl|exact Or.inr rfl) rfl (B0 rfl B.range (AA (pv 7) AD)) (NL:=["k"]) (ix:=[0]) (GB (AJ s_law_tree) EY) (λcl C s₃ H₃ fp pins=>⟨(AQ (i:=0) (show List.Nodup (["k","pool"]:List Str)from by decide+kernel) rfl (by first|exact Or.inl rfl|exact Or.inr rfl)),A5,(AK G_law_take hr rfl (AA (pv 1) (AA AF AD)))⟩))
 (AE (IG (i:=9) AX.nd rfl (by first|exact Or.inl rfl|exact Or.inr rfl) rfl (B0 rfl B.range (AA (pv 7) AD)) (NL:=["k"]) (ix:=[0,3]) (GB (AJ s_law_tree) EY) (λcl C s₃ H₃ fp pins=>⟨(AQ (i:=0) (show List.Nodup (["k","pool","base"]:List Str)from by decide+kernel) rfl (by first|exact Or.inl rfl|exact Or.inr rfl)),A5,(AK G_law_letter hr rfl (AA (pv 1) (AA (pv 2) AD)))⟩))
 (AE (AN (i:=10) AX.nd rfl (by first|exact Or.inl rfl|exact Or.inr rfl) (AR DD Bi (AK G_law_take hr rfl (AA (pv 0) (AA AF AD))) (λ_ _=>rfl)))
 (AE (AN (i:=11) AX.nd rfl (by first|exact Or.inl rfl|exact Or.inr rfl) (Ai AD))
 (AE (AN (i:=12) AX.nd rfl (by first|exact Or.inl rfl|exact Or.inr rfl) Bi)
 (AE (CF PassesOwn.never rfl (B0 rfl B.range (AA (pv 2) AD)) (AQ (i:=13) AX.nd rfl (by first|exact Or.inl rfl|exact Or.inr rfl))
 (AE (AN (i:=14) AX.nd rfl (by first|exact Or.inl rfl|exact Or.inr rfl) (Ai (AA AF (AA AF (AA (AS CV (pv 13) AF) (AA (AK G_law_take hr rfl (AA (pv 0) (AA AF AD))) (AA (AK G_law_take hr rfl (AA (pv 0) (AA AF AD))) (AA (AR Ap (pv 8) (AS CV (pv 13) (pv 7)) (λ_ _=>rfl)) (AA (AK G_law_take hr rfl (AA (pv 0) (AA AF AD))) AD)))))))))
 (AE (AN (i:=14) AX.nd rfl (by first|exact Or.inl rfl|exact Or.inr rfl) (AS ER (pv 14) (Ai (AA (AS EN AF (AK G_law_take hr rfl (AA (pv 0) (AA AF AD)))) (AA (AK G_law_take hr rfl (AA (pv 0) (AA AF AD))) AD)))))
 (AE (AN (i:=15) AX.nd rfl (by first|exact Or.inl rfl|exact Or.inr rfl) (AS KU (pv 13) AF))
 (AE (CF PassesOwn.never rfl (B0 rfl B.range (AA (AS EN (AR Ap (pv 14) (pv 4) (λ_ _=>rfl)) (Ao CG rfl B.int_ ET (AA (Bd Lf (pv 13) AF (AZ _)) AD))) AD)) (AQ (i:=16) AX.nd rfl (by first|exact Or.inl rfl|exact Or.inr rfl))
 (AL (AN (i:=15) AX.nd rfl (by first|exact Or.inl rfl|exact Or.inr rfl) (AM (FG rfl) rfl B.max IK (AA AF (AA (AR Ap (pv 11) (pv 15) (λ_ _=>rfl)) AD))))))
 (AE (B4 (Cp PySem.F.plainAttrs_list PySem.F.slot_list_append PySem.F.type_list_append BM (pv 11) (AA (pv 15) AD)))
 (AE (AN (i:=17) AX.nd rfl (by first|exact Or.inl rfl|exact Or.inr rfl) (Ai (AA (AK G_law_letter hr rfl (AA (pv 0) (AA (pv 3) AD))) (AA (AR Ap (pv 9) (AS CV (pv 13) (pv 7)) (λ_ _=>rfl)) (AA (AR Ap (Ai (AA (AR Ap (pv 9) AF (λ_ _=>rfl)) (AA (pv 10) AD))) (Ao CG rfl B.int_ ET (AA (Bd Cg (pv 13) (pv 6) (AZ _)) AD)) (λ_ _=>rfl)) AD)))))
 (AL (AN (i:=12) AX.nd rfl (by first|exact Or.inl rfl|exact Or.inr rfl) (AS BU (pv 12) (AR Ap (pv 17) (pv 5) (λ_ _=>rfl))))))))))))
 (AL (AV (Ak (AA (Ao BI rfl B.tuple_ BW (AA (pv 11) AD)) (AA (pv 12) AD))))))))))))))))),?_⟩
 first|(dsimp only[Bp,Cx.Ft];generalize hK:K=K';revert K' hK;refine Dn (Ae <|Ae <|Ae <|Ae <|Ae <|Ae <|Ae <|Ae <|Ae <|Ae <|Ae <|Ae <|λ_=>rfl) ?_)|skip
 refine⟨_,rfl,_,rfl,p,most,c,rfl,hd,by omega,by omega,by omega,λn1 H1 a0 a1 kd1=>?_⟩
 refine⟨_,_,rfl,rfl,_,rfl,_,rfl,_,rfl,_,_,rfl,p,_,c+1,rfl,kd1.deck,by omega,?_,?_,λn2 H2 b0 b1 kd2=>?_⟩
 ·split<;>omega
 ·split<;>omega
 have b2:n2 < 7/\n2 < most:=by
  revert b1;split<;>omega
 refine⟨_,_,rfl,rfl,(by show 3<=sizeLine;decide),λr1 hr1=>?_⟩
 have kq2:=((kd1.trans kd2).new (o:=.lst [.int (1+n1),.int most,.int (1+n2)]) hr1)
 refine⟨_,rfl,p,3,_,rfl,kq2.deck,by omega,by decide,by decide,λn3 H3 d0 d1 kd3=>?_⟩
 have ku3:=kq2.trans kd3
 obtain⟨many,hmany,mn1,mn60⟩:∃v:Int,DY [V.int (1+n1),.int most,.int (1+n2)] n3=some (.int v)/\1<=v/\v<=60:=by
  have:n3=0\/n3=1\/n3=2:=by omega
  rcases this with rfl|rfl|rfl
  ·exact⟨_,rfl,by omega,by omega⟩
  ·exact⟨_,rfl,by omega,by omega⟩
  ·exact⟨_,rfl,by omega,by omega⟩
 refine⟨r1,_,_,_,rfl,rfl,Am.of (kd3.keep _ _ (kd2.deck.ne hr1) AB),hmany,?_⟩
 refine⟨_,rfl,p,26,_,rfl,ku3.deck,by omega,by decide,by decide,λb0' H4 e0 e1 kd4=>?_⟩
 have ku4:=ku3.trans kd4
 refine⟨(by show 4<=sizeLine;decide),λr2 hr2=>?_⟩
 have kq4:=ku4.new (o:=.lst [.int 1,.int 2,.int 3,.int 26]) hr2
 refine⟨_,rfl,p,4,_,rfl,kq4.deck,by omega,by decide,by decide,λn5 H5 f0 f1 kd5=>?_⟩
 have ku5:=kq4.trans kd5
 obtain⟨bb,hbb,bb1,bb26⟩:=menu (us:=[1,2,3,26]) (n:=n5) (lo:=1) (hi:=26) f0 f1 (by decide)
 refine⟨r2,_,_,_,rfl,rfl,Am.of (kd5.keep _ _ (ku4.deck.ne hr2) AB),hbb,(by show 2<=sizeLine;decide),λbs hbs=>?_⟩
 have hHbs:H bs=none:=ku5.fresh hbs
 have bsp:bs≠p:=ku5.deck.ne hbs
 have kq5:=(ku5.new (o:=.tup [.int b0',.int bb]) hbs).mono (show _<=c+5 by omega)
 have hb5:upd H5 bs (.tup [.int b0',.int bb]) bs=some (.tup [.int b0',.int bb]):=AB
 generalize upd H5 bs (.tup [.int b0',.int bb])=Hb at kq5 hb5
 refine⟨_,rfl,p,9,_,rfl,kq5.deck,by omega,by decide,by decide,λway H6 g0 g1 kd6=>?_⟩
 have ku6:=kq5.trans kd6
 have hb6:=kd6.keep _ _ bsp hb5
 refine⟨_,rfl,p,3,_,rfl,ku6.deck,by omega,by decide,by decide,λn7 H7 i0 i1 kd7=>?_⟩
 have ku7:=ku6.trans kd7
 have hb7:=kd7.keep _ _ bsp hb6
 refine⟨_,rfl,rfl,.inr ⟨_,rfl,_,_,rfl,?_⟩⟩
 have hkind:0<=(if(if decide (V.int way=V.int 5)=true then(1:Int)else 0) > n7 then(if decide (V.int way=V.int 5)=true then(1:Int)else 0)else n7)/\(if(if decide (V.int way=V.int 5)=true then(1:Int)else 0) > n7 then(if decide (V.int way=V.int 5)=true then(1:Int)else 0)else n7) < 3:=by
  split<;>(try split)<;>omega
 generalize(if(if decide (V.int way=V.int 5)=true then(1:Int)else 0) > n7 then(if decide (V.int way=V.int 5)=true then(1:Int)else 0)else n7)=kind at hkind
 refine⟨_,rfl,_,rfl,p,many,_,rfl,ku7.deck,by omega,by omega,by omega,λodd H8 j0 j1 kd8=>?_⟩
 have ku8:=ku7.trans kd8
 have hb8:=kd8.keep _ _ bsp hb7
 refine⟨_,rfl,p,7,_,rfl,ku8.deck,by omega,by decide,by decide,λn9 H9 k0 k1 kd9=>?_⟩
 have ku9:=(ku8.trans kd9).mono (show _<=c+9 by omega)
 have hb9:=kd9.keep _ _ bsp hb8
 refine⟨_,_,rfl,rfl,?_⟩
 have per1:1<=(1+n9):=by omega
 have per7:(1+n9)<=7:=by omega
 refine⟨_,rfl,_,rfl,by omega,by omega,λcl0 hcl=>?_⟩
 have hHcl:H cl0=none:=ku9.fresh hcl
 have clp:cl0≠p:=ku9.deck.ne hcl
 have bcl:bs≠cl0:=AI hb9 hcl
 refine Cr (1+n9).toNat (by omega) (λj ys H'=>H' cl0=some (.lst ys)/\ys.length=j/\Kd p (c+9+j) H H'/\H' bs=some (.tup [.int b0',.int bb])/\∃us:List Int,ys=us.map V.int/\∀v∈us,0<=v/\v<=3)
  (λj ys H' h=>⟨h.1,by omega⟩) ⟨AB,rfl,(ku9.new hcl).mono (by omega),by rw[AH bcl];exact hb9,[],rfl,by simp⟩ ?_ ?_
 rotate_left
 ·rintro j ys Ha hj ⟨x1,x2,x3,x4,us,rfl,x5⟩
  refine⟨hj,?_⟩
  rintro x H4' ⟨rfl,rfl⟩
  refine⟨rfl,?_⟩
  refine⟨_,rfl,p,4,_,rfl,x3.deck,by omega,by decide,by decide,λn Hc y0 y1 kd=>?_⟩
  refine⟨kd.keep _ _ clp x1,AB,by rw[List.length_append,x2];rfl,((x3.trans kd).write hHcl clp).mono (by omega),by rw[AH bcl];exact kd.keep _ _ bsp x4,us++[n],by rw[List.map_append];rfl,λv hv=>?_⟩
  rcases List.mem_append.mp hv with hv|hv
  ·exact x5 v hv
  ·have:v=n:=by simpa using hv
   omega
 rintro ys Ha ⟨hc1,hc2,ku10,hb10,cls,rfl,hcls⟩
 refine⟨Nat.le_refl _,?_⟩
 rw[List.length_map]at hc2
 refine⟨_,rfl,_,rfl,by omega,by omega,λsg0 hsg=>?_⟩
 have hHsg:H sg0=none:=ku10.fresh hsg
 have sgp:sg0≠p:=ku10.deck.ne hsg
 have bsg:bs≠sg0:=AI hb10 hsg
 have csg:cl0≠sg0:=AI hc1 hsg
 refine Cr (1+n9).toNat (by omega) (λj ys H'=>H' sg0=some (.lst ys)/\ys.length=j/\Kd p (c+9+(1+n9).toNat+j) H H'/\H' bs=some (.tup [.int b0',.int bb])/\H' cl0=some (.lst (cls.map V.int))/\∃cs:List Nat,ys=Co cs/\∀c∈cs,Lw c)
  (λj ys H' h=>⟨h.1,by omega⟩) ⟨AB,rfl,(ku10.new hsg).mono (by omega),by rw[AH bsg];exact hb10,by rw[AH csg];exact hc1,[],rfl,by simp⟩ ?_ ?_
 rotate_left
 ·rintro j ys Hb' hj ⟨x1,x2,x3,x4,x5,cs,rfl,x6⟩
  refine⟨hj,?_⟩
  rintro x H4' ⟨rfl,rfl⟩
  refine⟨rfl,?_⟩
  refine⟨_,rfl,_,rfl,p,bs,_,b0',bb,rfl,x3.deck,by omega,x4,by omega,by omega,λch Hc chl kd=>?_⟩
  refine⟨kd.keep _ _ sgp x1,AB,by rw[List.length_append,x2];rfl,((x3.trans kd).write hHsg sgp).mono (by omega),by rw[AH bsg];exact kd.keep _ _ bsp x4,by rw[AH csg];exact kd.keep _ _ clp x5,cs++[ch],by unfold Co;rw[List.map_append];rfl,L8 x6 chl⟩
 rintro ys Hb' ⟨hs1,hs2,ku11,hb11,hc11,cs,rfl,lowc⟩
 refine⟨Nat.le_refl _,?_⟩
 rw[Jd]at hs2
 have ku11':=ku11.mono (show _<=c+23 by omega)
 have hal:(Str.ofString "abcdefghijklmnopqrstuvwxyz").length=26:=by decide+kernel
 refine⟨_,rfl,p,26,_,rfl,ku11'.deck,by omega,by decide,by decide,λn12 H12 l0 l1 kd12=>?_⟩
 obtain⟨och,hoch,ochl⟩:=L6 l0 l1
 refine⟨_,_,_,rfl,rfl,by rw[hal];exact Nat.le_of_lt (AO (by decide)),hoch,?_⟩
 have ku12:=(ku11'.trans kd12).mono (show _<=c+24 by omega)
 have hb12:=kd12.keep _ _ bsp hb11
 have hc12:=kd12.keep _ _ clp hc11
 have hs12:=kd12.keep _ _ sgp hs1
 refine⟨(by show 0<=sizeLine;decide),λu hu0=>?_⟩
 have hup:u≠p:=ku12.deck.ne hu0
 have hHu:H u=none:=ku12.fresh hu0
 have ubs:bs≠u:=AI hb12 hu0
 have ucl:cl0≠u:=AI hc12 hu0
 have usg:sg0≠u:=AI hs12 hu0
 refine⟨_,rfl,_,rfl,by omega,by omega,?_⟩
 refine C0 (lo:=0) (n:=many.toNat) (λi σ H'=>∃(us:List Int) (ls:List Nat) (tx:Str) (o13 o14 o15 o16 o17:Option V),
  σ=[some (.ref p),some (.int most),some (.int many),some (.ref bs),some (.int way),some (.int kind),some (.int odd),some (.int (1+n9)),some (.ref cl0),some (.ref sg0),some (.str ⟨#[och]⟩),some (.ref u),some (.str tx),o13,o14,o15,o16,o17]/\tx=mk ls/\
  Kd p (c+24+6*i) H H'/\H' bs=some (.tup [.int b0',.int bb])/\H' cl0=some (.lst (cls.map V.int))/\H' sg0=some (.lst (Co cs))/\H' u=some (.lst (us.map V.int))/\us.length=i/\ls.length=i/\U5 us/\∀c∈ls,Lw c)
  ⟨[],[],_,none,none,none,none,none,rfl,rfl,(ku12.new hu0).mono (by omega),by rw[AH ubs];exact hb12,by rw[AH ucl];exact hc12,by rw[AH usg];exact hs12,AB,rfl,rfl,.inl rfl,by simp⟩ ?_ ?_
 ·rintro i σ H' hi ⟨us,ls,tx,o13,o14,o15,o16,o17,rfl,rfl,kd,hb,hc,hs,hu,hlen,hls,gr,low⟩
  have hul:(us.map V.int).length=us.length:=List.length_map _
  have im:=Int.emod_nonneg (0+(i:Int)) (show(1+n9)≠0 by omega)
  have im2:=Int.emod_lt_of_pos (0+(i:Int)) (show 0 < (1+n9) by omega)
  have i2:=Int.emod_nonneg (0+(i:Int)) (by decide:(2:Int)≠0)
  have i22:=Int.emod_lt_of_pos (0+(i:Int)) (by decide:(0:Int) < 2)
  obtain⟨cv,hcv,cv0,cv3⟩:=menu (us:=cls) (n:=(0+(i:Int)) % (1+n9)) (lo:=0) (hi:=3) im (by omega) hcls
  refine⟨_,rfl,_,_,rfl,rfl,(by decide:(0:Int) < 2),_,rfl,p,2,_,rfl,kd.deck,by omega,by decide,by decide,λm1 G1 p0 p1 e1=>?_⟩
  refine⟨_,rfl,p,3,_,rfl,e1.deck,by omega,by decide,by decide,λm2 G2 p2 p3 e2=>?_⟩
  have hc2:=e2.keep _ _ clp (e1.keep _ _ clp hc)
  refine⟨_,rfl,_,rfl,_,rfl,_,_,rfl,rfl,by omega,cl0,_,_,_,rfl,rfl,Am.of hc2,hcv,?_⟩
  refine⟨_,rfl,p,5,_,rfl,e2.deck,by omega,by decide,by decide,λm3 G3 p4 p5 e3=>?_⟩
  refine⟨(by show 7<=sizeLine;decide),λs1 hs1'=>?_⟩
  have kd3:=((((Kd.refl kd.deck).trans e1).trans e2).trans e3).new (o:=.lst [.int 0,.int 60,.int ((0+(i:Int)) % 2),.int m1,.int m2,.int cv,.int m3]) hs1'
  have hsp1:s1≠p:=e3.deck.ne hs1'
  have hss1:upd G3 s1 (.lst [.int 0,.int 60,.int ((0+(i:Int)) % 2),.int m1,.int m2,.int cv,.int m3]) s1=some (.lst [.int 0,.int 60,.int ((0+(i:Int)) % 2),.int m1,.int m2,.int cv,.int m3]):=AB
  generalize upd G3 s1 (.lst [.int 0,.int 60,.int ((0+(i:Int)) % 2),.int m1,.int m2,.int cv,.int m3])=G3' at kd3 hss1
  refine⟨_,rfl,_,rfl,p,2,_,rfl,kd3.deck,by omega,by decide,by decide,λm4 G4 p6 p7 e4=>?_⟩
  refine⟨_,_,rfl,rfl,.inl ⟨by decide,by decide⟩,_,rfl,p,60,_,rfl,e4.deck,by omega,by decide,by decide,λm5 G5 p8 p9 e5=>?_⟩
  refine⟨(by show 2<=sizeLine;decide),λs2 hs2'=>?_⟩
  have kd5:=((kd3.trans e4).trans e5).new (o:=.lst [.int (3*m4),.int m5]) hs2'
  have hss2:upd G5 s2 (.lst [.int (3*m4),.int m5]) s1=some (.lst [.int 0,.int 60,.int ((0+(i:Int)) % 2),.int m1,.int m2,.int cv,.int m3]):=by
   have z:=e5.keep _ _ hsp1 (e4.keep _ _ hsp1 hss1)
   rw[AH (AI z hs2')];exact z
  refine⟨s1,s2,_,_,rfl,rfl,hss2,AB,(by show 9<=sizeLine;decide),λs3 hs3'=>?_⟩
  have kd6:=kd5.new (o:=.lst ([.int 0,.int 60,.int ((0+(i:Int)) % 2),.int m1,.int m2,.int cv,.int m3]++[.int (3*m4),.int m5])) hs3'
  have hs3:upd (upd G5 s2 (.lst [.int (3*m4),.int m5])) s3 (.lst ([.int 0,.int 60,.int ((0+(i:Int)) % 2),.int m1,.int m2,.int cv,.int m3]++[.int (3*m4),.int m5])) s3=some (.lst (([0,60,(0+(i:Int)) % 2,m1,m2,cv,m3,3*m4,m5]:List Int).map V.int)):=AB
  generalize upd (upd G5 s2 (.lst [.int (3*m4),.int m5])) s3 (.lst ([.int 0,.int 60,.int ((0+(i:Int)) % 2),.int m1,.int m2,.int cv,.int m3]++[.int (3*m4),.int m5]))=G6 at kd6 hs3
  have kk:Kd p (c+24+6*i+5) H G6:=(kd.trans kd6).mono (by omega)
  have keep:∀b o,b≠p->H' b=some o->G6 b=some o:=kd6.keep
  have hu6:=keep _ _ hup hu
  have hb6':=keep _ _ bsp hb
  have hs6:=keep _ _ sgp hs
  refine⟨_,rfl,_,_,rfl,rfl,?_⟩
  obtain⟨stp,hstp,st0,st60⟩:=menu (us:=[0,60,(0+(i:Int)) % 2,m1,m2,cv,m3,3*m4,m5]) (n:=way) (lo:=0) (hi:=60) g0 (by show way < 9;exact g1) (by
   intro v hv
   simp only[List.mem_cons,List.not_mem_nil,or_false]at hv
   rcases hv with rfl|rfl|rfl|rfl|rfl|rfl|rfl|rfl|rfl<;>omega)
  refine⟨_,rfl,_,rfl,s3,_,_,_,rfl,rfl,Am.of hs3,hstp,_,rfl,_,_,rfl,rfl,.inr ⟨_,rfl,_,_,rfl,rfl,.inl ⟨by omega,by omega⟩,_,rfl,?_,?_,?_⟩⟩
  ·split<;>omega
  ·split<;>omega
  have hn:(stp*(if decide (0 < 0+(i:Int))=true then(1:Int)else 0)).toNat<=60/\(i=0->(stp*(if decide (0 < 0+(i:Int))=true then(1:Int)else 0)).toNat=0):=by
   constructor
   ·split<;>omega
   ·intro e
    rw[if_neg (by simp;omega)]
    simp
  generalize(stp*(if decide (0 < 0+(i:Int))=true then(1:Int)else 0)).toNat=nst at hn
  refine C0 (lo:=0) (n:=nst) (λj σ H''=>∃(pl:Int) (o16':Option V),
   σ=[some (.ref p),some (.int most),some (.int many),some (.ref bs),some (.int way),some (.int kind),some (.int odd),some (.int (1+n9)),some (.ref cl0),some (.ref sg0),some (.str ⟨#[och]⟩),some (.ref u),some (.str (mk ls)),some (.int (0+(i:Int))),some (.ref s3),some (.int pl),o16',o17]/\H''=G6/\
   (i=0->pl=-1)/\(0 < i->0<=pl/\pl < (i:Int))/\∃n,Ah us n (0+(i:Int) - 1)=pl)
   ⟨0+(i:Int) - 1,o16,rfl,rfl,λe=>by omega,λe=>by omega,0,rfl⟩ ?_ ?_
  ·rintro j σ H'' hj ⟨pl,o16',rfl,rfl,pz,pp,n0,hn0⟩
   have ip:0 < i:=by
    rcases Nat.eq_zero_or_pos i with e|e
    ·have:=hn.2 e;omega
    ·exact e
   obtain⟨pl0,pl1⟩:=pp ip
   have hat:=DK (us:=us) (i:=pl) pl0 (by omega)
   have gr':Dt us:=by
    rcases gr with z|z
    ·rw[z]at hlen;simp at hlen;omega
    ·exact z
   have hv:us.getD pl.toNat 0 < pl\/(us.getD pl.toNat 0=-1/\pl=0):=by
    rcases Nat.eq_zero_or_pos pl.toNat with e|e
    ·right;rw[e];exact⟨gr'.root,by omega⟩
    ·left;have:=gr'.up pl.toNat e (by omega);omega
   refine⟨_,rfl,_,rfl,u,_,_,_,rfl,rfl,Am.of hu6,hat,_,_,rfl,?_⟩
   refine⟨_,_,rfl,rfl,λe=>by omega,λ_=>?_,n0+1,?_⟩
   ·split<;>omega
   ·show BF us (Ah us n0 _)=_
    rw[hn0];rfl
  rintro σ Gx ⟨pl,o16',rfl,rfl,pz,pp,n0,hn0⟩
  refine⟨_,rfl,.inl ⟨rfl,_,Am.of hu6⟩,_,rfl,u,_,_,rfl,rfl,hu6,by rw[hul];exact AO (by omega),?_⟩
  have kk7:Kd p (c+24+6*i+5) H (upd Gx u (.lst (us.map V.int++[.int pl]))):=kk.write hHu hup
  have hu7:upd Gx u (.lst (us.map V.int++[.int pl])) u=some (.lst ((us++[pl]).map V.int)):=by rw[AB,List.map_append];rfl
  have hb7':upd Gx u (.lst (us.map V.int++[.int pl])) bs=some (.tup [.int b0',.int bb]):=by rw[AH ubs];exact hb6'
  have hs7:upd Gx u (.lst (us.map V.int++[.int pl])) sg0=some (.lst (Co cs)):=by rw[AH usg];exact hs6
  have hc7:upd Gx u (.lst (us.map V.int++[.int pl])) cl0=some (.lst (cls.map V.int)):=by rw[AH ucl];exact keep _ _ clp hc
  generalize upd Gx u (.lst (us.map V.int++[.int pl]))=G7 at kk7 hu7 hb7' hs7 hc7
  refine⟨_,rfl,_,rfl,p,bs,_,b0',bb,rfl,kk7.deck,by omega,hb7',by omega,by omega,λch G8 chl e8=>?_⟩
  have hs8:=e8.keep _ _ sgp hs7
  have hb8':=e8.keep _ _ bsp hb7'
  have hc8:=e8.keep _ _ clp hc7
  have hu8:=e8.keep _ _ hup hu7
  have kk8:=(kk7.trans e8).mono (show _<=c+24+6*(i:Int)+6 by omega)
  obtain⟨sv,hsv,svm⟩:=IX (cs:=cs) (i:=(0+(i:Int)) % (1+n9)) im (by omega)
  obtain⟨s0v,hs0v,s0m⟩:=IX (cs:=cs) (i:=0) (by decide) (by omega)
  refine⟨_,rfl,_,rfl,_,rfl,_,_,rfl,rfl,by omega,sg0,_,_,_,rfl,rfl,Am.of hs8,hsv,_,rfl,sg0,_,_,_,rfl,rfl,Am.of hs8,hs0v,_,rfl,(by show 2<=sizeLine;decide),λl1' hl1'=>?_⟩
  obtain⟨ov,hov,ovl⟩:∃ov:Nat,DY [V.str ⟨#[s0v]⟩,.str ⟨#[och]⟩] (if decide (V.int (0+(i:Int))=V.int odd)=true then 1 else 0)=some (.str ⟨#[ov]⟩)/\Lw ov:=by
   by_cases z:V.int (0+(i:Int))=V.int odd
   ·rw[decide_eq_true z];exact⟨och,rfl,ochl⟩
   ·rw[decide_eq_false z];exact⟨s0v,rfl,lowc _ s0m⟩
  refine⟨_,rfl,_,rfl,rfl,.inr ⟨_,rfl,l1',_,_,_,rfl,rfl,Am.of AB,hov,(by show 3<=sizeLine;decide),λl2' hl2'=>?_⟩⟩
  have kk9:=(kk8.new (o:=.lst [V.str ⟨#[s0v]⟩,.str ⟨#[och]⟩]) hl1').new (o:=.lst [V.str ⟨#[ch]⟩,.str ⟨#[sv]⟩,.str ⟨#[ov]⟩]) hl2'
  have kp:∀b o,G8 b=some o->upd (upd G8 l1' (.lst [V.str ⟨#[s0v]⟩,.str ⟨#[och]⟩])) l2' (.lst [V.str ⟨#[ch]⟩,.str ⟨#[sv]⟩,.str ⟨#[ov]⟩]) b=some o:=λb o e=>((AG.refl G8).new hl1').new hl2' b o e
  have hl9:upd (upd G8 l1' (.lst [V.str ⟨#[s0v]⟩,.str ⟨#[och]⟩])) l2' (.lst [V.str ⟨#[ch]⟩,.str ⟨#[sv]⟩,.str ⟨#[ov]⟩]) l2'=some (.lst (Co [ch,sv,ov])):=AB
  generalize upd (upd G8 l1' (.lst [V.str ⟨#[s0v]⟩,.str ⟨#[och]⟩])) l2' (.lst [V.str ⟨#[ch]⟩,.str ⟨#[sv]⟩,.str ⟨#[ov]⟩])=G9 at kk9 kp hl9
  obtain⟨lc,hlc,lcm⟩:=IX (cs:=[ch,sv,ov]) (i:=kind) hkind.1 (by show kind < 3;omega)
  have lcl:Lw lc:=by
   simp only[List.mem_cons,List.not_mem_nil,or_false]at lcm
   rcases lcm with rfl|rfl|rfl
   ·exact chl
   ·exact lowc _ svm
   ·exact ovl
  have happ:mk ls++(⟨#[lc]⟩:Str)=mk (ls++[lc]):=by
   apply Cu;rw[app_list];rfl
  refine⟨_,rfl,_,rfl,_,rfl,l2',_,_,_,rfl,rfl,Am.of hl9,hlc,_,_,rfl,rfl,?_,us++[pl],ls++[lc],_,_,_,_,_,_,rfl,happ,kk9.mono (by omega),kp _ _ hb8',kp _ _ hc8,kp _ _ hs8,kp _ _ hu8,by rw[List.length_append,hlen];rfl,by rw[List.length_append,hls];rfl,?_,L8 low lcl⟩
  ·rw[LO]
   have:(⟨#[lc]⟩:Str).length=1:=rfl
   rw[this]
   exact Nat.le_of_lt (AO (by omega))
  ·right
   rcases gr with z|z
   ·subst z
    have i0:i=0:=by simpa using hlen.symm
    rw[pz i0]
    exact Dt.one
   ·have ip:0 < i:=by rw[<-hlen];exact z.pos
    have:=pp ip
    exact z.snoc this.1 (by omega) ⟨n0,by rw[<-hn0];congr 1;omega⟩
 ·rintro σ H' ⟨us,ls,tx,o13,o14,o15,o16,o17,rfl,rfl,kd,hb,hc,hs,hu,hlen,hls,gr,low⟩
  have gr':Dt us:=by
   rcases gr with z|z
   ·rw[z]at hlen;simp at hlen;omega
   ·exact z
  refine⟨_,rfl,u,_,rfl,.inl ⟨Am.of hu,λr7 hr7=>?_⟩⟩
  refine⟨_,rfl,(by show 2<=sizeLine;decide),λt ht=>?_⟩
  refine q t us (mk ls) _ (((kd.new hr7).new ht).mono (by omega)) ⟨r7,AB,?_,IY gr' (by omega) (by omega)⟩ ⟨low,gr'.road⟩
  rw[AH (AI AB ht)];exact AB
end
end S28
namespace S28
open PySem L2 W7
structure CK (mg:Str->Option Value):Prop extends Blt mg where
 sorted:mg "sorted"=none
 all:mg "all"=none
 repr:mg "repr"=none
 most:∃u,mg "MOST_PLACES"=some u/\RelV (.int 60) u
 letters:∃u,mg "LETTERS"=some u/\RelV (.str "abcdefghijklmnopqrstuvwxyz") u
section
variable {P:Program}{w:World}{K:PySem.W.Frag}{mg:Str->Option Value}{base:Heap}{k:Nat}
abbrev Ug:Pos:=⟨25,41,25,76⟩
abbrev qO:Str:=(("order_of":Str)++".<locals>.")++"<lambda>"
def Kw (ups:List Int)(lab:Str)(i:Nat):List V:=[.str (mk (W ups lab.cps.toList i)),.int (i:Int)]
theorem IZ (ups:List Int)(lab:Str)(n:Nat):FL n (Kw ups lab) [2,1] where
 shp:=λi=>rfl
 ne:=by simp
 z:=by simp
 inj:=λi j _ _ h=>by
  have h2:[V.str (mk (W ups lab.cps.toList i)),.int (i:Int)]=[.str (mk (W ups lab.cps.toList j)),.int (j:Int)]:=h
  simp only[List.cons.injEq,V.int.injEq,and_true]at h2
  omega
structure Cb (ups:List Int)(lab:Str)(os:List Nat):Prop where
 perm:os.Perm (List.range ups.length)
 rise:∀i j,i < j->j < ups.length->A8 (Kw ups lab (os.getD j 0)) (Kw ups lab (os.getD i 0))=false
theorem Cb.len {ups:List Int}{lab:Str}{os:List Nat}(h:Cb ups lab os):os.length=ups.length:=by have:=h.perm.length_eq;simpa using this
abbrev AY (l:List Nat):List V:=l.map λi:Nat=>V.int (i:Int)
theorem NK (l:List Nat):AY l=(l.map λi:Nat=>(i:Int)).map V.int:=by unfold AY;rw[List.map_map];rfl
theorem Hm {ups:List Int}{lab:Str}{i n:Nat}(h:i < n):DY (BY ups lab n) (i:Int)=some (.str (mk (W ups lab.cps.toList i))):=A0 (by unfold BY;rw[List.getElem?_map,List.getElem?_range h];rfl)
def Jh (ls:List Lm):Sp:=λvs H Q _=>∃(t:Addr) (ups:List Int) (lab:Str),vs=[.ref t]/\BE H t ups lab/\CJ ls H/\
 ∀(os:List Nat) (r:Addr) (H':Hp),Cb ups lab os->Kt ls H H'->H r=none->H' r=some (.lst (AY os))->Q (.ref r) H'
theorem NM {T:Addr}{ls:List Lm}(D:Df K mg "order_of" s_order_of)(B:CK mg)(kb:K.In base)(TA:TabAt base mg "order_of" T)(LK:Mu ls)(LI:(T,Ug,qO)∈ls)(G_words_of:Bb P w K mg base "words_of" k ["tree"] Jf):Bb P w K mg base "order_of" (k+1) ["tree"] (Jh ls):=by
 refine D.TB kb TA Ff (λ_ _ _ _ _ _=>Gy λ_=>rfl) (λvs H Q E h=>by obtain⟨t,ups,lab,rfl,_⟩:=h;rfl) (λf c A outer s H vs Q E CH hr h=>?_)
 have BA:=TA.blt
 obtain⟨t,ups,lab,rfl,tr,L,q⟩:=h
 refine⟨_,(AE (AN (i:=1) Ff.nd rfl (by first|exact Or.inl rfl|exact Or.inr rfl) (AK G_words_of hr rfl (AA (pv 0) AD)))
 (AL (AV (GJ (x:="place") (ix:=[1]) hr rfl rfl B.sorted (QO rfl B.range (AA (AM Ad rfl B.len Aw (AA (pv 1) AD)) AD)) rfl CH BA LK LI (GB (AJ s_order_of) GR) (λqual cl fa cd A1 s₃ H₃ pins=>(Ak (AA (AR (Eo K) (pv 1) (pv 0) (λ_ _=>rfl)) (AA (pv 0) AD)))))))),?_⟩
 obtain⟨_,_,_,ok⟩:=id tr
 have m60:=ok.most
 have lpos:=ok.pos
 refine⟨_,rfl,t,ups,lab,rfl,tr,λr H1 s1 hr1=>?_⟩
 have wl:(BY ups lab ups.length).length=ups.length:=by simp[BY]
 have L1:=L.same s1
 refine⟨_,rfl,r,_,rfl,.inl (Am.of hr1),_,rfl,λg hg=>?_⟩
 have s2:AG H1 (upd H1 g (.rng 0 (((BY ups lab ups.length).length:Nat):Int))):=(AG.refl H1).new hg
 refine⟨g,0,_,Kw ups lab,[2,1],rfl,AB,⟨by decide,by decide,by omega,by omega⟩,by omega,L1.same s2,IZ _ _ _,λi H2 hi kt=>?_,λp l H2 hp hrise kt hl hl2=>?_⟩
 ·have hr2:=kt.lst (s2 _ _ hr1)
  rw[wl]at hi
  have e0:(0:Int)+(i:Int)=(i:Int):=Int.zero_add _
  refine⟨_,rfl,_,rfl,r,_,_,_,rfl,rfl,Am.of hr2,by rw[e0];exact Hm (by omega),_,rfl,(by show 2<=sizeLine;decide),λa ha=>⟨a,rfl,?_,(AG.refl H2).new ha⟩⟩
  rw[AB]
  unfold Kw
  rw[e0]
 ·have e1:((((BY ups lab ups.length).length:Nat):Int) - 0).toNat=ups.length:=by rw[wl];omega
  rw[e1]at hp hrise
  refine q p l H2 ⟨hp,hrise⟩ ((s1.trans s2).kt kt) ((s1.trans s2).free hl) ?_
  rw[hl2]
  congr 2
  unfold AY
  refine List.map_congr_left λi _=>?_
  rw[Int.zero_add]
theorem Hn {ups:List Int}{lab:Str}{os:List Nat}(h:Cb ups lab os){i j:Nat}(hij:i < j)(hj:j < ups.length):A8 (Kw ups lab (os.getD i 0)) (Kw ups lab (os.getD j 0))=true:=by
 cases e:A8 (Kw ups lab (os.getD i 0)) (Kw ups lab (os.getD j 0))with
 |true=>rfl
 |false=>
  exfalso
  have z:=(IZ ups lab ups.length)
  have ek:=En _ _ ((z.shp (os.getD i 0)).trans (z.shp (os.getD j 0)).symm) (by rw[z.shp];exact z.z) e (h.rise i j hij hj)
  have ln:=h.len
  have e2:os.getD i 0=os.getD j 0:=by
   have h2:[V.str (mk (W ups lab.cps.toList (os.getD i 0))),.int ((os.getD i 0:Nat):Int)]=[.str (mk (W ups lab.cps.toList (os.getD j 0))),.int ((os.getD j 0:Nat):Int)]:=ek
   simp only[List.cons.injEq,V.int.injEq,and_true]at h2
   omega
  have nd:os.Nodup:=h.perm.nodup_iff.mpr List.nodup_range
  rw[List.getD_eq_getElem?_getD,List.getD_eq_getElem?_getD,List.getElem?_eq_getElem (by omega),List.getElem?_eq_getElem (by omega)]at e2
  have:=(List.getElem_inj nd).mp (show os[i]'(by omega)=os[j]'(by omega)from e2)
  omega
theorem Du (f:Nat->Bool):∀(l:List Nat) (j:Nat),j<=l.length->(∀i,i < j->f (l.getD i 0)=true)->(∀i,j<=i->i < l.length->f (l.getD i 0)=false)->(l.filter f).length=j
 |[],j,h,_,_=>by simp at h;simp[h]
 |x::l,0,_,_,b=>by
  have hx:f x=false:=b 0 (Nat.le_refl _) (by simp)
  rw[List.filter_cons_of_neg (by rw[hx];simp)]
  exact Du f l 0 (Nat.zero_le _) (λi hi=>absurd hi (Nat.not_lt_zero _)) λi _ hi=>b (i+1) (Nat.zero_le _) (by simpa using hi)
 |x::l,j+1,h,a,b=>by
  have hx:f x=true:=a 0 (Nat.succ_pos _)
  rw[List.filter_cons_of_pos hx,List.length_cons,Du f l j (by simpa using h) (λi hi=>a (i+1) (by omega)) λi h1 h2=>b (i+1) (by omega) (by simpa using h2)]
def cnt (ups:List Int)(lab:Str)(p:Nat):Nat:=((List.range ups.length).filter λi=>A8 (Kw ups lab i) (Kw ups lab p)).length
theorem Ji {ups:List Int}{lab:Str}{os:List Nat}(h:Cb ups lab os){j:Nat}(hj:j < ups.length):cnt ups lab (os.getD j 0)=j:=by
 have ln:=h.len
 have e:(os.filter λi=>A8 (Kw ups lab i) (Kw ups lab (os.getD j 0))).length=j:=by
  refine Du _ os j (by omega) (λi hi=>Hn h hi hj) λi h1 h2=>?_
  rcases Nat.eq_or_lt_of_le h1 with q|q
  ·rw[<-q]
   cases e:A8 (Kw ups lab (os.getD j 0)) (Kw ups lab (os.getD j 0))with
   |false=>rfl
   |true=>have:=C3 _ _ e;rw[e]at this;cases this
  ·exact h.rise j i q (by omega)
 have e2:=(h.perm.filter (λi=>A8 (Kw ups lab i) (Kw ups lab (os.getD j 0)))).length_eq
 unfold cnt
 rw[<-e2]
 exact e
def Jj (ls:List Lm):Sp:=λvs H Q _=>∃(t:Addr) (ups:List Int) (lab:Str),vs=[.ref t]/\BE H t ups lab/\CJ ls H/\
 ∀(os:List Nat) (r:Addr) (H':Hp),Cb ups lab os->Kt ls H H'->H r=none->H' r=some (.lst (AY ((List.range ups.length).map (cnt ups lab))))->Q (.ref r) H'
theorem NN {ls:List Lm}(D:Df K mg "ranks_of" s_ranks_of)(B:CK mg)(G_order_of:Bb P w K mg base "order_of" k ["tree"] (Jh ls)):Bb P w K mg base "ranks_of" (k+1) ["tree"] (Jj ls):=by
 refine D.has CQ (λ_ _ _ _ _ _=>Gy λ_=>rfl) (λvs H Q E h=>by obtain⟨t,ups,lab,rfl,_⟩:=h;rfl) (λf cdv A outer s H vs Q E hr h=>?_)
 obtain⟨t,ups,lab,rfl,tr,L,q⟩:=h
 refine⟨_,(AE (AN (i:=1) CQ.nd rfl (by first|exact Or.inl rfl|exact Or.inr rfl) (AK G_order_of hr rfl (AA (pv 0) AD)))
 (AE (AN (i:=2) CQ.nd rfl (by first|exact Or.inl rfl|exact Or.inr rfl) (AS Kh (Ai (AA AF AD)) (AM Ad rfl B.len Aw (AA (pv 1) AD))))
 (AE (CF PassesOwn.never rfl (D3 rfl B.enumerate (AA (pv 1) AD)) (Ce rfl (Ag (AQ (i:=3) CQ.nd rfl (by first|exact Or.inl rfl|exact Or.inr rfl)) (Ag (AQ (i:=4) CQ.nd rfl (by first|exact Or.inl rfl|exact Or.inr rfl)) Bv)))
 (AL (DC (pv 3) (FF (pv 2) (pv 4) set_list))))
 (AL (AV (pv 2)))))),?_⟩
 first|(dsimp only[Bp,Cx.Ft];generalize hK:K=K';revert K' hK;refine Dn (Ae <|Ae <|Ae <|λ_=>rfl) ?_)|skip
 obtain⟨_,_,_,ok⟩:=id tr
 have m60:=ok.most
 have lpos:=ok.pos
 refine⟨_,rfl,t,ups,lab,rfl,tr,L,λos r H1 oo k1 hf1 hr1=>?_⟩
 have ol:=oo.len
 have nl:(AY os).length=ups.length:=by rw[List.length_map,ol]
 refine⟨(by show 1<=sizeLine;decide),λz hz=>?_⟩
 have s2:AG H1 (upd H1 z (.lst [.int 0])):=(AG.refl H1).new hz
 refine⟨_,rfl,r,_,rfl,.inl (Am.of (s2 _ _ hr1)),z,_,_,rfl,rfl,AB,by omega,by omega,?_,λr2 hr2=>?_⟩
 ·rw[nl,List.length_singleton,Nat.one_mul]
  exact Nat.le_of_lt (AO (by omega))
 have eF:(List.replicate ((((AY os).length:Nat):Int)).toNat [V.int 0]).flatten=(List.replicate ups.length (0:Int)).map V.int:=by
  rw[nl,Int.toNat_natCast]
  induction ups.length with
  |zero=>rfl
  |succ m ih=>rw[List.replicate_succ,List.flatten_cons,ih,List.replicate_succ];rfl
 rw[eF]
 have s3:AG (upd H1 z (.lst [.int 0])) (upd (upd H1 z (.lst [.int 0])) r2 (.lst ((List.replicate ups.length (0:Int)).map V.int))):=(AG.refl _).new hr2
 have h22:upd (upd H1 z (.lst [.int 0])) r2 (.lst ((List.replicate ups.length (0:Int)).map V.int)) r2=some (.lst ((List.replicate ups.length (0:Int)).map V.int)):=AB
 have f2:H1 r2=none:=s2.free hr2
 have s4:=s2.trans s3
 generalize upd (upd H1 z (.lst [.int 0])) r2 (.lst ((List.replicate ups.length (0:Int)).map V.int))=H4 at s4 h22
 have h41:=s4 _ _ hr1
 have rr:r≠r2:=AI hr1 f2
 refine⟨_,rfl,.lst r,rfl,⟨_,.inl h41⟩,?_⟩
 refine Em (xs:=AY os) (λj σ H'=>∃o3 o4:Option V,∃rs:List Int,σ=[some (.ref t),some (.ref r),some (.ref r2),o3,o4]/\Kt ls H H'/\H' r=some (.lst (AY os))/\H' r2=some (.lst (rs.map V.int))/\rs.length=ups.length/\∀i p,i < j->os[i]?=some p->rs[p]?=some (i:Int))
  ⟨none,none,_,rfl,k1.same s4,h41,h22,List.length_replicate ..,λi p hi=>absurd hi (Nat.not_lt_zero _)⟩ (λj σ H' _ h=>by obtain⟨_,_,_,_,_,h,_⟩:=h;exact .inl h) ?_ ?_
 ·rintro j x σ H' p hx ⟨o3,o4,rs,rfl,kt,g1,g2,rl,hrs⟩ hp
  rw[AY,List.getElem?_map]at hx
  cases e1:os[j]? with
  |none=>rw[e1]at hx;cases hx
  |some pl=>
   rw[e1]at hx
   cases hx
   have pll:pl < ups.length:=List.mem_range.mp (oo.perm.mem_iff.mp (List.mem_of_getElem? e1))
   have jl:j < os.length:=(List.getElem?_eq_some_iff.mp e1).1
   refine⟨p,_,rfl,Ar.of AB,rfl,_,_,rfl,_,_,rfl,rfl,?_⟩
   have g1':upd H' p (.tup [.int (j:Int),.int (pl:Int)]) r=some (.lst (AY os)):=by rw[AH (AI g1 hp)];exact g1
   have g2':upd H' p (.tup [.int (j:Int),.int (pl:Int)]) r2=some (.lst (rs.map V.int)):=by rw[AH (AI g2 hp)];exact g2
   have kt':Kt ls H (upd H' p (.tup [.int (j:Int),.int (pl:Int)])):=kt.same ((AG.refl H').new hp)
   refine⟨_,rfl,_,rfl,_,rfl,r2,_,_,pl,rfl,rfl,g2',?_,_,_,rs.set pl (j:Int),rfl,kt'.write ?_ g2',?_,?_,by rw[List.length_set];exact rl,λi p' hi hp'=>?_⟩
   ·unfold Mj
    rw[List.length_map,rl,if_pos (by omega),if_pos (by omega),Int.toNat_natCast]
   ·exact k1.here _ f2
   ·rw[AH rr];exact g1'
   ·rw[AB,List.map_set]
   ·rcases Nat.lt_or_ge i j with c|c
    ·have nd:os.Nodup:=oo.perm.nodup_iff.mpr List.nodup_range
     have ne:pl≠p':=λe=>by
      subst e
      have i1:=(List.getElem?_eq_some_iff.mp hp')
      have i2:=(List.getElem?_eq_some_iff.mp e1)
      have:=(List.getElem_inj nd).mp (i1.2.trans i2.2.symm)
      omega
     rw[List.getElem?_set_ne ne]
     exact hrs i p' c hp'
    ·have ei:i=j:=by omega
     subst ei
     rw[e1]at hp';cases hp'
     rw[List.getElem?_set_self (by omega)]
 ·rintro σ H' ⟨o3,o4,rs,rfl,kt,g1,g2,rl,hrs⟩
  refine⟨_,rfl,q os r2 H' oo kt (k1.here _ f2) ?_⟩
  rw[g2]
  congr 2
  rw[NK]
  congr 1
  apply List.ext_getElem?
  intro p
  rcases Nat.lt_or_ge p ups.length with c|c
  ·have hm:p∈os:=oo.perm.mem_iff.mpr (List.mem_range.mpr c)
   obtain⟨i,hi,e⟩:=List.getElem_of_mem hm
   have ei:os[i]?=some p:=by rw[List.getElem?_eq_getElem hi,e]
   rw[hrs i p (by rw[nl];omega) ei,List.getElem?_map,List.getElem?_map,List.getElem?_range c]
   have ec:=Ji oo (j:=i) (by omega)
   rw[List.getD_eq_getElem?_getD,ei,Option.getD_some]at ec
   show _=some ((cnt ups lab p:Nat):Int)
   rw[ec]
  ·rw[List.getElem?_eq_none (by omega),List.getElem?_eq_none (by simp;omega)]
abbrev Uh:Pos:=⟨60,48,60,88⟩
abbrev qK:Str:=(("kept_order":Str)++".<locals>.")++"<lambda>"
theorem MA {ups:List Int}{lab:Str}{os:List Nat}(h:Cb ups lab os){a:Nat}(ha:a < ups.length):∃i,i < ups.length/\os.getD i 0=a/\cnt ups lab a=i:=by
 have ln:=h.len
 have hm:a∈os:=h.perm.mem_iff.mpr (List.mem_range.mpr ha)
 obtain⟨i,hi,e⟩:=List.getElem_of_mem hm
 have e2:os.getD i 0=a:=by rw[List.getD_eq_getElem?_getD,List.getElem?_eq_getElem hi];exact e
 have e3:=Ji h (j:=i) (by omega)
 rw[e2]at e3
 exact⟨i,by omega,e2,e3⟩
theorem QZ {ups:List Int}{lab:Str}{os:List Nat}(h:Cb ups lab os){a b:Nat}(ha:a < ups.length)(hb:b < ups.length)(hab:a≠b):cnt ups lab a≠cnt ups lab b/\A8 (Kw ups lab a) (Kw ups lab b)=decide (cnt ups lab a < cnt ups lab b):=by
 obtain⟨i,i1,i2,i3⟩:=MA h ha
 obtain⟨j,j1,j2,j3⟩:=MA h hb
 have ne:i≠j:=λe=>hab (by rw[<-i2,<-j2,e])
 rw[i3,j3]
 refine⟨ne,?_⟩
 rcases Nat.lt_or_gt_of_ne ne with c|c
 ·have:=Hn h c j1
  rw[i2,j2]at this
  rw[this,decide_eq_true c]
 ·have:=h.rise j i c i1
  rw[i2,j2]at this
  rw[this,decide_eq_false (by omega)]
def Ho (ups:List Int)(i:Nat):Nat:=(ups.getD (i+1) 0).toNat
def Kr (ups:List Int)(lab:Str)(i:Nat):List V:=[.int ((cnt ups lab (Ho ups i):Nat):Int),.int (1+(i:Int))]
def Kl (ups:List Int)(lab:Str)(i:Nat):List V:=[.str (mk (W ups lab.cps.toList (Ho ups i))),.int ((Ho ups i:Nat):Int),.int (1+(i:Int))]
theorem Qa (ups:List Int)(lab:Str)(n:Nat):FL n (Kr ups lab) [1,1] where
 shp:=λi=>rfl
 ne:=by simp
 z:=by simp
 inj:=λi j _ _ h=>by
  unfold Kr at h
  simp only[List.cons.injEq,V.int.injEq,and_true]at h
  omega
theorem Ia (ups:List Int)(lab:Str)(n:Nat):FL n (Kl ups lab) [2,1,1] where
 shp:=λi=>rfl
 ne:=by simp
 z:=by simp
 inj:=λi j _ _ h=>by
  unfold Kl at h
  simp only[List.cons.injEq,V.int.injEq,and_true]at h
  omega
theorem Ay (x y:V)(xs ys:List V):A8 (x::xs) (y::ys)=if x=y then A8 xs ys else ltV x y:=by rw[A8]
theorem Jk {ups:List Int}{lab:List Nat}(ok:Af ups lab){i:Nat}(hi:i < ups.length - 1):Ho ups i < ups.length/\ups.getD (i+1) 0=((Ho ups i:Nat):Int):=by
 have:=ok.up (i+1) (by omega) (by omega)
 unfold Ho
 omega
theorem Ow {ups:List Int}{lab:Str}{os:List Nat}(h:Cb ups lab os)(ok:Af ups lab.cps.toList){i j:Nat}(hi:i < ups.length - 1)(hj:j < ups.length - 1):A8 (Kr ups lab i) (Kr ups lab j)=A8 (Kl ups lab i) (Kl ups lab j):=by
 have ai:=(Jk ok hi).1
 have aj:=(Jk ok hj).1
 unfold Kr Kl
 generalize Ho ups i=a at ai
 generalize Ho ups j=b at aj
 by_cases e:a=b
 ·subst e
  rw[Ay,if_pos rfl,Ay (.str _),if_pos rfl,Ay (.int (a:Int)),if_pos rfl]
 ·obtain⟨c1,c2⟩:=QZ h ai aj e
  have n1:¬(V.int ((cnt ups lab a:Nat):Int)=V.int ((cnt ups lab b:Nat):Int)):=λz=>c1 (by injection z;omega)
  have n2:¬(V.int (a:Int)=V.int (b:Int)):=λz=>e (by injection z;omega)
  unfold Kw at c2
  rw[Ay,Ay (.int (a:Int)),if_neg n2]at c2
  rw[Ay,if_neg n1,Ay (.str _),Ay (.int (a:Int)),if_neg n2,c2]
  show decide (((cnt ups lab a:Nat):Int) < ((cnt ups lab b:Nat):Int))=_
  rw[Bool.eq_iff_iff,decide_eq_true_eq,decide_eq_true_eq]
  omega
structure A7 (ups:List Int)(lab:Str)(ks:List Nat):Prop where
 perm:ks.Perm (List.range (ups.length - 1))
 rise:∀i j,i < j->j < ups.length - 1->A8 (Kl ups lab (ks.getD j 0)) (Kl ups lab (ks.getD i 0))=false
theorem A7.len {ups:List Int}{lab:Str}{ks:List Nat}(h:A7 ups lab ks):ks.length=ups.length - 1:=by have:=h.perm.length_eq;simpa using this
theorem A7.one {ups:List Int}{lab:Str}{os os':List Nat}(h:A7 ups lab os)(h':A7 ups lab os'):os=os':=OI (Ia ups lab (ups.length - 1)) h.perm h'.perm h.rise h'.rise
abbrev Hq (ks:List Nat):List Int:=0::ks.map λi:Nat=>1+(i:Int)
def MB (ls:List Lm):Sp:=λvs H Q _=>∃(t:Addr) (ups:List Int) (lab:Str),vs=[.ref t]/\BE H t ups lab/\CJ ls H/\
 ∀(ks:List Nat) (r:Addr) (H':Hp),A7 ups lab ks->Kt ls H H'->H r=none->H' r=some (.lst ((Hq ks).map V.int))->Q (.ref r) H'
theorem Ox {T:Addr}{ls:List Lm}(D:Df K mg "kept_order" s_kept_order)(B:CK mg)(kb:K.In base)(TA:TabAt base mg "kept_order" T)(LK:Mu ls)(LI:(T,Uh,qK)∈ls)(G_ranks_of:Bb P w K mg base "ranks_of" k ["tree"] (Jj ls)):Bb P w K mg base "kept_order" (k+1) ["tree"] (MB ls):=by
 refine D.TB kb TA Cw (λ_ _ _ _ _ _=>Gy λ_=>rfl) (λvs H Q E h=>by obtain⟨t,ups,lab,rfl,_⟩:=h;rfl) (λf c A outer s H vs Q E CH hr h=>?_)
 have BA:=TA.blt
 obtain⟨t,ups,lab,rfl,tr,L,q⟩:=h
 refine⟨_,(AE (AN (i:=1) Cw.nd rfl (by first|exact Or.inl rfl|exact Or.inr rfl) (AR Aj (pv 0) AF (λ_ _=>rfl)))
 (AE (AN (i:=2) Cw.nd rfl (by first|exact Or.inl rfl|exact Or.inr rfl) (AK G_ranks_of hr rfl (AA (pv 0) AD)))
 (AL (AV (AS ER (Ai (AA AF AD)) (GJ (x:="place") (ix:=[2,1]) hr rfl rfl B.sorted (Lx rfl B.range (AA AF (AA (AM Ad rfl B.len Aw (AA (pv 1) AD)) AD))) rfl CH BA LK LI (GB (AJ s_kept_order) Eu) (λqual cl fa cd A1 s₃ H₃ pins=>(Ak (AA (AR (Eo K) (pv 1) (AR (CL K) (pv 2) (pv 0) (λ_ _=>rfl)) (λ_ _=>rfl)) (AA (pv 0) AD)))))))))),?_⟩
 first|(dsimp only[Bp,Cx.Ft];generalize hK:K=K';revert K' hK;refine Dn (Ae <|Ae <|λ_=>rfl) ?_)|skip
 obtain⟨u,ht,hu,ok⟩:=id tr
 have m60:=ok.most
 have lpos:=ok.pos
 refine⟨_,rfl,t,_,_,_,rfl,rfl,Ar.of ht,rfl,?_⟩
 refine⟨_,rfl,t,ups,lab,rfl,tr,L,λos r H1 oo k1 hf1 hr1=>?_⟩
 have hu1:=k1.tup hu
 refine⟨(by show 1<=sizeLine;decide),λz hz=>?_⟩
 have s2:AG H1 (upd H1 z (.lst [.int 0])):=(AG.refl H1).new hz
 have z2:upd H1 z (.lst [.int 0]) z=some (.lst [.int 0]):=AB
 generalize upd H1 z (.lst [.int 0])=H2 at s2 z2
 have hr2:=s2 _ _ hr1
 have hu2:=s2 _ _ hu1
 have L2':CJ ls H2:=k1.lam.same s2
 refine⟨_,rfl,u,_,rfl,.inr (Ar.of hu2),_,_,rfl,λg hg=>?_⟩
 have s3:AG H2 (upd H2 g (.rng 1 (((ups.map V.int).length:Nat):Int))):=(AG.refl H2).new hg
 have ul:(ups.map V.int).length=ups.length:=List.length_map _
 refine⟨g,1,_,Kr ups lab,[1,1],rfl,AB,⟨by decide,by decide,by omega,by omega⟩,by omega,L2'.same s3,Qa _ _ _,λi H3 hi kt=>?_,λp l H3 hp hrise kt hl hl2=>?_⟩
 ·have hi':i < ups.length - 1:=by omega
  have hr3:=kt.lst (s3 _ _ hr2)
  have hu3:=kt.tup (s3 _ _ hu2)
  have e1:(1+(i:Int)).toNat=i+1:=by omega
  obtain⟨ul1,ul2⟩:=Jk ok hi'
  refine⟨_,rfl,_,rfl,_,rfl,u,_,_,_,rfl,rfl,Ar.of hu3,(DK (us:=ups) (i:=1+(i:Int)) (by omega) (by omega)),r,_,_,_,rfl,rfl,Am.of hr3,?_,_,rfl,(by show 2<=sizeLine;decide),λa ha=>⟨a,rfl,AB,(AG.refl H3).new ha⟩⟩
  rw[e1,ul2]
  refine A0 ?_
  rw[AY,List.map_map,List.getElem?_map,List.getElem?_range ul1];rfl
 ·have e1:((((ups.map V.int).length:Nat):Int) - 1).toNat=ups.length - 1:=by omega
  rw[e1]at hp hrise
  have mem:∀i,i < ups.length - 1->p.getD i 0 < ups.length - 1:=λi hi=>by
   have pl:p.length=ups.length - 1:=by have:=hp.length_eq;simpa using this
   rw[List.getD_eq_getElem?_getD,List.getElem?_eq_getElem (by omega)]
   exact List.mem_range.mp (hp.mem_iff.mp (List.getElem_mem _))
  have ko:A7 ups lab p:=⟨hp,λi j hij hj=>by
   rw[<-Ow oo ok (mem j hj) (mem i (by omega))];exact hrise i j hij hj⟩
  have kl:=ko.len
  have z3:=kt.lst (s3 _ _ z2)
  refine⟨z,l,_,_,rfl,rfl,z3,hl2,?_,λpp hpp=>q p pp _ ko ?_ ?_ ?_⟩
  ·rw[List.length_map,kl]
   exact Nat.le_of_lt (AO (by simp only[List.length_cons,List.length_nil];omega))
  ·exact(k1.same (s2.trans s3)).trans (kt.same ((AG.refl H3).new hpp))
  ·exact k1.here _ ((s2.trans s3).free (kt.here _ hpp))
  ·rw[AB,List.map_cons,List.map_map];rfl
def Jl (K:PySem.W.Frag):Sp:=λvs H Q _=>∃(a:Addr) (ns:List Int) (m:Nat),vs=[.ref a,.int (m:Int)]/\Am K H a (ns.map V.int)/\ns.length<=63/\m<=63/\
 ∀(cs:List Int) (r:Addr) (H':Hp),cs.length<=64->AG H H'->H r=none->H' r=some (.lst (cs.map V.int))->Q (.ref r) H'
theorem NO (D:Df K mg "_law_cells" s_law_cells)(B:CK mg):Bb P w K mg base "_law_cells" (k+1) ["script","many"] (Jl K):=by
 refine D.has IW (λ_ _ _ _ _ _=>Om λ_ _=>rfl) (λvs H Q E h=>by obtain⟨a,ns,m,rfl,_⟩:=h;rfl) (λf cdv A outer s H vs Q E hr h=>?_)
 obtain⟨a,ns,m,rfl,hS,h63,m63,q⟩:=h
 refine⟨_,(AL (AV (AS ER (Aa QF (pv 0) Aq (Ac (pv 1))) (AS Kh (Ai (AA AF AD)) (Ao CG rfl B.int_ ET (AA (Bd (Mq hr.IA) (pv 0) (Ai AD) (AZ _)) AD)))))),?_⟩
 refine⟨_,rfl,_,rfl,_,rfl,a,_,rfl,hS,λp hp=>?_⟩
 have s1:AG H (upd H p (.lst (Bq (ns.map V.int) none (some (m:Int))))):=(AG.refl H).new hp
 have h1:upd H p (.lst (Bq (ns.map V.int) none (some (m:Int)))) p=some (.lst (Bq (ns.map V.int) none (some (m:Int)))):=AB
 generalize upd H p (.lst (Bq (ns.map V.int) none (some (m:Int))))=H1 at s1 h1
 refine⟨(by show 1<=sizeLine;decide),λz hz=>?_⟩
 have s2:AG H1 (upd H1 z (.lst [.int 0])):=(AG.refl H1).new hz
 have h2:upd H1 z (.lst [.int 0]) z=some (.lst [.int 0]):=AB
 generalize upd H1 z (.lst [.int 0])=H2 at s2 h2
 refine⟨_,rfl,(by show 0<=sizeLine;decide),λe he=>?_⟩
 have s3:AG H2 (upd H2 e (.lst [])):=(AG.refl H2).new he
 have h3:upd H2 e (.lst []) e=some (.lst []):=AB
 generalize upd H2 e (.lst [])=H3 at s3 h3
 refine⟨a,e,_,_,rfl,rfl,Am.TC hS ((s1.trans s2).trans s3),Am.of h3,FK _,rfl,?_⟩
 generalize Ci (ns.map V.int) []=bb
 refine .inr ⟨bb,rfl,z,_,_,rfl,rfl,s3 _ _ h2,?_,?_,?_,λr2 hr2=>?_⟩
 ·cases bb<;>decide
 ·cases bb<;>decide
 ·cases bb<;>decide
 have s4:AG H3 (upd H3 r2 (.lst (List.replicate (if bb=true then(1:Int)else 0).toNat [V.int 0]).flatten)):=(AG.refl H3).new hr2
 have e0:(List.replicate (if bb=true then(1:Int)else 0).toNat [V.int 0]).flatten=(List.replicate (if bb=true then 1 else 0) (0:Int)).map V.int:=by cases bb<;>rfl
 rw[e0]at s4 ⊢
 have h4:upd H3 r2 (.lst ((List.replicate (if bb=true then 1 else 0) (0:Int)).map V.int)) r2=some (.lst ((List.replicate (if bb=true then 1 else 0) (0:Int)).map V.int)):=AB
 generalize upd H3 r2 (.lst ((List.replicate (if bb=true then 1 else 0) (0:Int)).map V.int))=H4 at s4 h4
 have ec:Bq (ns.map V.int) none (some (m:Int))=(ns.take (HT.BD (ns.map V.int).length (ns.map V.int).length (some (m:Int)))).map V.int:=by
  unfold Bq
  rw[HT.Np,List.drop_zero,Nat.sub_zero,List.map_take]
 have lb:(if bb=true then 1 else 0:Nat)<=1:=by cases bb<;>decide
 have lt1:(ns.take (HT.BD (ns.map V.int).length (ns.map V.int).length (some (m:Int)))).length<=63:=by rw[List.length_take];omega
 refine⟨p,r2,_,_,rfl,rfl,s4 _ _ (s3 _ _ (s2 _ _ h1)),h4,?_,λr3 hr3=>q (ns.take (HT.BD (ns.map V.int).length (ns.map V.int).length (some (m:Int)))++List.replicate (if bb=true then 1 else 0) 0) r3 _ ?_ ?_ ?_ ?_⟩
 ·rw[ec]
  simp only[List.length_map,List.length_replicate]at lt1 ⊢
  exact Nat.le_of_lt (AO (by omega))
 ·rw[List.length_append,List.length_replicate];omega
 ·exact(((s1.trans s2).trans s3).trans s4).trans ((AG.refl H4).new hr3)
 ·exact(((s1.trans s2).trans s3).trans s4).free hr3
 ·rw[AB,ec,List.map_append]
end
end S28
namespace S28
open PySem L2 W7
section
variable {P:Program}{w:World}{K:PySem.W.Frag}{mg:Str->Option Value}{base:Heap}{k:Nat}
def EE (ups:List Int)(p:Int)(m:Nat):List Nat:=(List.range m).filter λj=>decide (ups.getD j 0=p)
theorem Ey (ups:List Int)(p:Int)(m:Nat):EE ups p (m+1)=if ups.getD m 0=p then EE ups p m++[m]else EE ups p m:=by
 unfold EE
 rw[List.range_succ,List.filter_append]
 by_cases h:ups.getD m 0=p
 ·rw[if_pos h,List.filter_cons_of_pos (by simpa using h)];rfl
 ·rw[if_neg h,List.filter_cons_of_neg (by simpa using h)];simp
theorem Oy (ups:List Int)(p:Int)(m:Nat):(EE ups p m).length<=m:=by
 have:=List.length_filter_le (λj=>decide (ups.getD j 0=p)) (List.range m)
 simpa[EE]using this
def GU:Sp:=λvs H Q _=>∃(t:Addr) (ups:List Int) (lab:Str) (p:Int),vs=[.ref t,.int p]/\BE H t ups lab/\
 ∀(r:Addr) (H':Hp),AG H H'->H r=none->H' r=some (.lst (AY (EE ups p ups.length)))->Q (.ref r) H'
theorem Jm (D:Df K mg "beneath_of" s_beneath_of)(B:CK mg):Bb P w K mg base "beneath_of" (k+1) ["tree","place"] GU:=by
 refine D.has G0 (λ_ _ _ _ _ _=>Om λ_ _=>rfl) (λvs H Q E h=>by obtain⟨t,ups,lab,p,rfl,_⟩:=h;rfl) (λf cdv A outer s H vs Q E hr h=>?_)
 obtain⟨t,ups,lab,p,rfl,tr,q⟩:=h
 refine⟨_,(AL (AV (BL rfl (D3 rfl B.enumerate (AA (AR Aj (pv 0) AF (λ_ _=>rfl)) AD)) (NL:=["other","up"]) (ix:=[1]) (GB (AJ s_beneath_of) Et) (λcl C s₃ H₃ fp pins=>⟨(Lj K (n:=2) rfl (Ag (AQ (i:=0) (show List.Nodup (["other","up","place"]:List Str)from by decide+kernel) rfl (by first|exact Or.inl rfl|exact Or.inr rfl)) (Ag (AQ (i:=1) (show List.Nodup (["other","up","place"]:List Str)from by decide+kernel) rfl (by first|exact Or.inl rfl|exact Or.inr rfl)) Bv))),(DZ (Ab Cg (pv 1) (pv 2) (AZ _))),(pv 0)⟩)))),?_⟩
 obtain⟨u,ht,hu,ok⟩:=id tr
 have m60:=ok.most
 refine⟨_,rfl,t,_,_,_,rfl,rfl,Ar.of ht,rfl,.tup u,rfl,⟨_,.inl hu⟩,λacc hacc=>?_⟩
 refine HU (xs:=ups.map V.int) (by rw[List.length_map];omega) (λi ys H2=>H2 acc=some (.lst ys)/\ys=AY (EE ups p i)/\AG H H2)
  (λi ys H2 h=>.inl (h.2.2 _ _ hu)) (λi ys H2 h=>⟨h.1,by rw[h.2.1,AY,List.length_map];exact Oy _ _ _⟩) ⟨AB,rfl,(AG.refl H).new hacc⟩ ?_ ?_
 ·rintro ys H2 ⟨g1,rfl,g3⟩
  rw[List.length_map]at g1
  exact q acc H2 g3 hacc g1
 ·rintro i x ys H2 pp hx ⟨g1,rfl,g3⟩ hpp
  rw[List.getElem?_map]at hx
  cases e1:ups[i]? with
  |none=>rw[e1]at hx;cases hx
  |some v=>
   rw[e1]at hx
   cases hx
   have ev:ups.getD i 0=v:=by rw[List.getD_eq_getElem?_getD,e1];rfl
   refine⟨pp,_,rfl,Ar.of AB,rfl,_,_,rfl,_,_,rfl,rfl,?_⟩
   refine⟨rfl,?_⟩
   have g1':upd H2 pp (.tup [.int (i:Int),.int v]) acc=some (.lst (AY (EE ups p i))):=by rw[AH (AI g1 hpp)];exact g1
   refine⟨_,rfl,_,rfl,rfl,_,rfl,CC (λcnd=>?_) (λcnd=>?_)⟩
   ·have ec:v=p:=by
     have:=of_decide_eq_true cnd
     injection this
    exact⟨_,rfl,g1',AB,by rw[Ey,if_pos (ev.trans ec),AY,AY,List.map_append];rfl,(g3.new hpp).write hacc⟩
   ·have ec:v≠p:=λz=>cnd (by rw[z];exact decide_eq_true rfl)
    exact⟨g1',by rw[Ey,if_neg (by rw[ev];exact ec)],g3.new hpp⟩
def BQ (ups:List Int)(p:Int):Bool:=!Tq (.int p) (ups.map V.int)
def MC:Sp:=λvs H Q _=>∃(t:Addr) (ups:List Int) (lab:Str) (p:Int),vs=[.ref t,.int p]/\BE H t ups lab/\Q (.bl (BQ ups p)) H
theorem Oz (D:Df K mg "is_leaf" s_is_leaf)(B:CK mg):Bb P w K mg base "is_leaf" (k+1) ["tree","place"] MC:=by
 refine D.has LA (λ_ _ _ _ _ _=>Om λ_ _=>rfl) (λvs H Q E h=>by obtain⟨t,ups,lab,p,rfl,_⟩:=h;rfl) (λf cdv A outer s H vs Q E hr h=>?_)
 obtain⟨t,ups,lab,p,rfl,tr,q⟩:=h
 refine⟨_,(AL (AV (Bd Ei (pv 1) (AR Aj (pv 0) AF (λ_ _=>rfl)) (by with_unfolding_all rfl)))),?_⟩
 obtain⟨u,ht,hu,ok⟩:=id tr
 exact⟨_,rfl,_,rfl,t,_,_,_,rfl,rfl,Ar.of ht,rfl,u,_,rfl,.inr (Ar.of hu),rfl,FK _,q⟩
def Az (ups:List Int)(j:Nat):Bool:=decide (j=0)||decide ((EE ups (ups.getD j 0) ups.length).getLast?=some j)
def MD:Sp:=λvs H Q _=>∃(t:Addr) (ups:List Int) (lab:Str) (j:Nat),vs=[.ref t,.int (j:Int)]/\BE H t ups lab/\j < ups.length/\∀H':Hp,AG H H'->Q (.bl (Az ups j)) H'
theorem O0 (D:Df K mg "is_last" s_is_last)(B:CK mg)(G_beneath_of:Bb P w K mg base "beneath_of" k ["tree","place"] GU):Bb P w K mg base "is_last" (k+1) ["tree","place"] MD:=by
 refine D.has LB (λ_ _ _ _ _ _=>Om λ_ _=>rfl) (λvs H Q E h=>by obtain⟨t,ups,lab,p,rfl,_⟩:=h;rfl) (λf cdv A outer s H vs Q E hr h=>?_)
 obtain⟨t,ups,lab,j,rfl,tr,hj,q⟩:=h
 refine⟨_,(AL (AV (Sa (Bd Cg (pv 1) AF (AZ _)) (Hx (Bd Cg (pv 1) (AR Ap (AK G_beneath_of hr rfl (AA (pv 0) (AA (AR Aj (AR Aj (pv 0) AF (λ_ _=>rfl)) (pv 1) (λ_ _=>rfl)) AD))) (Iz F7 AF) (λ_ _=>rfl)) (AZ _)))))),?_⟩
 obtain⟨u,ht,hu,ok⟩:=id tr
 have m60:=ok.most
 refine⟨_,rfl,rfl,_,rfl,CC (λcnd=>?_) (λcnd=>?_)⟩
 ·have z:=of_decide_eq_true cnd
  have z0:j=0:=by injection z with z;omega
  have e:Az ups j=true:=by unfold Az;rw[z0];rfl
  have:=q H (AG.refl H)
  rw[e]at this
  exact this
 ·have nz:j≠0:=λe=>cnd (by rw[e];exact decide_eq_true rfl)
  have hat:=DK (us:=ups) (i:=(j:Int)) (by omega) (by omega)
  rw[Int.toNat_natCast]at hat
  refine⟨_,rfl,_,rfl,_,rfl,t,_,_,_,rfl,rfl,Ar.of ht,rfl,_,rfl,u,_,_,_,rfl,rfl,Ar.of hu,hat,t,ups,lab,_,rfl,tr,λr H1 s1 hf1 hr1=>?_⟩
  have hm:j∈EE ups (ups.getD j 0) ups.length:=by
   unfold EE
   rw[List.mem_filter]
   exact⟨List.mem_range.mpr hj,decide_eq_true rfl⟩
  have el:Az ups j=decide ((EE ups (ups.getD j 0) ups.length).getLast?=some j):=by unfold Az;rw[decide_eq_false nz,Bool.false_or]
  generalize EE ups (ups.getD j 0) ups.length=bs at hm el hr1
  rcases List.eq_nil_or_concat bs with eb|⟨bi,bl,eb⟩
  ·rw[eb]at hm;cases hm
  ·rw[List.concat_eq_append]at eb
   subst eb
   have hat2:DY (AY (bi++[bl])) (-1)=some (.int (bl:Int)):=by rw[AY,List.map_append];exact Nr _ _
   refine⟨_,rfl,r,_,_,_,rfl,rfl,Am.of hr1,hat2,rfl,?_⟩
   have:=q H1 s1
   rw[el,List.getLast?_concat]at this
   have e2:decide (V.int (j:Int)=V.int (bl:Int))=decide (some bl=some j):=by
    rw[Bool.eq_iff_iff,decide_eq_true_eq,decide_eq_true_eq]
    constructor
    ·intro z;injection z with z;rw[show bl=j by omega]
    ·intro z;injection z with z;rw[z]
   rw[e2]
   exact this
abbrev Al (ks:List Nat):List Nat:=0::ks.map (·+1)
def Fq (lab:Str)(j:Nat):Str:=⟨#[lab.cps.toList.getD j 0]⟩
def BK (lab:Str)(ks:List Nat):Str:=Txt.join (Str.ofString "") ((Al ks).map (Fq lab))
def Ib (ls:List Lm):Sp:=λvs H Q _=>∃(t:Addr) (ups:List Int) (lab:Str),vs=[.ref t]/\BE H t ups lab/\CJ ls H/\
 ∀(ks:List Nat) (r a b:Addr) (H':Hp),A7 ups lab ks->Kt ls H H'->H r=none->H' r=some (.tup [.str (BK lab ks),.ref a,.ref b])->
  H' a=some (.tup ((Al ks).map λj=>.bl (Az ups j)))->H' b=some (.tup ((Al ks).map λj:Nat=>.bl (BQ ups (j:Int))))->Q (.ref r) H'
theorem O1 {ls:List Lm}(D:Df K mg "rows_of" s_rows_of)(B:CK mg)(G_kept_order:Bb P w K mg base "kept_order" k ["tree"] (MB ls))(G_is_last:Bb P w K mg base "is_last" k ["tree","place"] MD)(G_is_leaf:Bb P w K mg base "is_leaf" k ["tree","place"] MC):Bb P w K mg base "rows_of" (k+1) ["tree"] (Ib ls):=by
 refine D.has Cm (λ_ _ _ _ _ _=>Gy λ_=>rfl) (λvs H Q E h=>by obtain⟨t,ups,lab,rfl,_⟩:=h;rfl) (λf cdv A outer s H vs Q E hr h=>?_)
 obtain⟨t,ups,lab,rfl,tr,L,q⟩:=h
 refine⟨_,(AE (AN (i:=1) Cm.nd rfl (by first|exact Or.inl rfl|exact Or.inr rfl) (AK G_kept_order hr rfl (AA (pv 0) AD)))
 (AE (AN (i:=2) Cm.nd rfl (by first|exact Or.inl rfl|exact Or.inr rfl) (Cp PySem.F.plainAttrs_str PySem.F.slot_str_join PySem.F.type_str_join IM Bi (AA (BL rfl (B5 (pv 1)) (NL:=["place"]) (ix:=[0]) (GB (AJ s_rows_of) D7) (λcl C s₃ H₃ fp pins=>⟨(AQ (i:=0) (show List.Nodup (["place","tree"]:List Str)from by decide+kernel) rfl (by first|exact Or.inl rfl|exact Or.inr rfl)),A5,(AR DD (AR (CL K) (pv 1) AF (λ_ _=>rfl)) (pv 0) (λ_ _=>rfl))⟩)) AD)))
 (AE (AN (i:=3) Cm.nd rfl (by first|exact Or.inl rfl|exact Or.inr rfl) (Ao BI rfl B.tuple_ BW (AA (BL rfl (B5 (pv 1)) (NL:=["place"]) (ix:=[0]) (GB (AJ s_rows_of) D7) (λcl C s₃ H₃ fp pins=>⟨(AQ (i:=0) (show List.Nodup (["place","tree"]:List Str)from by decide+kernel) rfl (by first|exact Or.inl rfl|exact Or.inr rfl)),A5,(AK G_is_last hr rfl (AA (pv 1) (AA (pv 0) AD)))⟩)) AD)))
 (AE (AN (i:=4) Cm.nd rfl (by first|exact Or.inl rfl|exact Or.inr rfl) (Ao BI rfl B.tuple_ BW (AA (BL rfl (B5 (pv 1)) (NL:=["place"]) (ix:=[0]) (GB (AJ s_rows_of) D7) (λcl C s₃ H₃ fp pins=>⟨(AQ (i:=0) (show List.Nodup (["place","tree"]:List Str)from by decide+kernel) rfl (by first|exact Or.inl rfl|exact Or.inr rfl)),A5,(AK G_is_leaf hr rfl (AA (pv 1) (AA (pv 0) AD)))⟩)) AD)))
 (AL (AV (Ak (AA (pv 2) (AA (pv 3) (AA (pv 4) AD)))))))))),?_⟩
 first|(dsimp only[Bp,Cx.Ft];generalize hK:K=K';revert K' hK;refine Dn (Ae <|Ae <|Ae <|Ae <|λ_=>rfl) ?_)|skip
 obtain⟨u,ht,hu,ok⟩:=id tr
 have m60:=ok.most
 have lpos:=ok.pos
 refine⟨_,rfl,t,ups,lab,rfl,tr,L,λks r1 H1 ko k1 hf1 hr1=>?_⟩
 have kl:=ko.len
 have ek:(Hq ks).map V.int=AY (Al ks):=by
  rw[AY,Hq,Al,List.map_cons,List.map_cons,List.map_map,List.map_map]
  congr 1
  refine List.map_congr_left λi _=>?_
  show V.int (1+(i:Int))=V.int ((i+1:Nat):Int)
  congr 1;omega
 rw[ek]at hr1
 have kn:(Al ks).length=ups.length:=by simp only[Al,List.length_cons,List.length_map];omega
 have kin:∀j∈Al ks,j < ups.length:=λj hj=>by
  rcases List.mem_cons.mp hj with z|z
  ·omega
  ·obtain⟨i,hi,rfl⟩:=List.mem_map.mp z
   have:=List.mem_range.mp (ko.perm.mem_iff.mp hi)
   omega
 have q':=λ(r a b:Addr) (H':Hp)=>q ks r a b H' ko
 unfold BK at q'
 generalize Al ks=ns at kn kin hr1 q'
 have nl:(AY ns).length=ups.length:=by rw[AY,List.length_map,kn]
 have ht1:=k1.tup ht
 have hu1:=k1.tup hu
 have tr1:BE H1 t ups lab:=⟨u,ht1,hu1,ok⟩
 have ll:lab.cps.toList.length=ups.length:=ok.len.symm
 have lz:lab.length<=sizeLine:=Nat.le_of_lt (AO (by simp only[Str.length];rw[<-Array.length_toList,ll];omega))
 have nget:∀{i:Nat} {x:V},(AY ns)[i]?=some x->∃j,ns[i]?=some j/\j < ups.length/\x=.int (j:Int):=λ{i x} hx=>by
  rw[AY,List.getElem?_map]at hx
  cases e1:ns[i]? with
  |none=>rw[e1]at hx;cases hx
  |some j=>rw[e1]at hx;cases hx;exact⟨j,rfl,kin j (List.mem_of_getElem? e1),rfl⟩
 refine⟨rfl,_,rfl,r1,rfl,⟨_,Am.of hr1⟩,λacc hacc=>?_⟩
 refine Bu (xs:=AY ns) (by omega) (λi ys H2=>H2 acc=some (.lst ys)/\ys=((ns.take i).map (Fq lab)).map V.str/\AG H1 H2)
  (λi ys H2 h=>Am.of (h.2.2 _ _ hr1)) (λi ys H2 h=>⟨h.1,by rw[h.2.1,List.length_map,List.length_map,List.length_take];exact Nat.min_le_left _ _⟩) ⟨AB,rfl,(AG.refl H1).new hacc⟩ ?_ ?_
 rotate_left
 ·rintro i x ys H2 hx ⟨g1,rfl,g3⟩
  obtain⟨j,e1,jl,rfl⟩:=nget hx
  refine⟨rfl,?_⟩
  refine⟨_,rfl,t,_,_,_,rfl,rfl,Ar.of (g3 _ _ ht1),rfl,_,rfl,lab,_,_,rfl,rfl,lz,A0 (List.getElem?_eq_getElem (by omega:j < lab.cps.toList.length)),g1,AB,?_,g3.write hacc⟩
  rw[List.take_succ,e1,List.map_append,List.map_append]
  congr 1
  show _=[V.str (Fq lab j)]
  unfold Fq
  rw[List.getD_eq_getElem?_getD,List.getElem?_eq_getElem (by omega:j < lab.cps.toList.length)];rfl
 rintro ys H2 ⟨g1,rfl,g3⟩
 rw[nl,<-kn,List.take_length]at g1
 refine⟨_,acc,_,rfl,rfl,Am.of g1,?_,?_⟩
 ·have:∀l:List Nat,((l.map (Fq lab)).map (·.length)).sum=l.length:=λl=>by
   induction l with
   |nil=>rfl
   |cons a r ih=>rw[List.map_cons,List.map_cons,List.sum_cons,ih,List.length_cons];show 1+_=_;omega
  rw[this,List.length_map]
  have e0:(Str.ofString "").length=0:=rfl
  rw[e0];omega
 have hr2:=g3 _ _ hr1
 refine⟨_,rfl,r1,rfl,⟨_,Am.of hr2⟩,λac2 hac2=>?_⟩
 refine Bu (xs:=AY ns) (by omega) (λi ys H3=>H3 ac2=some (.lst ys)/\ys=(ns.take i).map (λj=>V.bl (Az ups j))/\AG H2 H3)
  (λi ys H3 h=>Am.of (h.2.2 _ _ hr2)) (λi ys H3 h=>⟨h.1,by rw[h.2.1,List.length_map,List.length_take];exact Nat.min_le_left _ _⟩) ⟨AB,rfl,(AG.refl H2).new hac2⟩ ?_ ?_
 rotate_left
 ·rintro i x ys H3 hx ⟨g4,rfl,g5⟩
  obtain⟨j,e1,jl,rfl⟩:=nget hx
  refine⟨rfl,?_⟩
  refine⟨_,rfl,_,rfl,t,ups,lab,j,rfl,(tr1.same g3).same g5,jl,λH4 s4=>?_⟩
  refine⟨s4 _ _ g4,AB,?_,(g5.trans s4).write hac2⟩
  rw[List.take_succ,e1,List.map_append];rfl
 rintro ys H3 ⟨g4,rfl,g5⟩
 rw[nl,<-kn,List.take_length]at g4
 refine⟨ac2,_,rfl,.inl ⟨Am.of g4,λla hla=>?_⟩⟩
 have s6:AG H3 (upd H3 la (.tup (ns.map λj=>V.bl (Az ups j)))):=(AG.refl H3).new hla
 have h6:upd H3 la (.tup (ns.map λj=>V.bl (Az ups j))) la=some (.tup (ns.map λj=>V.bl (Az ups j))):=AB
 generalize upd H3 la (.tup (ns.map λj=>V.bl (Az ups j)))=H6 at s6 h6
 have hr6:=s6 _ _ (g5 _ _ hr2)
 refine⟨_,rfl,r1,rfl,⟨_,Am.of hr6⟩,λac3 hac3=>?_⟩
 refine Bu (xs:=AY ns) (by omega) (λi ys H7=>H7 ac3=some (.lst ys)/\ys=(ns.take i).map (λj:Nat=>V.bl (BQ ups (j:Int)))/\AG H6 H7)
  (λi ys H7 h=>Am.of (h.2.2 _ _ hr6)) (λi ys H7 h=>⟨h.1,by rw[h.2.1,List.length_map,List.length_take];exact Nat.min_le_left _ _⟩) ⟨AB,rfl,(AG.refl H6).new hac3⟩ ?_ ?_
 rotate_left
 ·rintro i x ys H7 hx ⟨g7,rfl,g8⟩
  obtain⟨j,e1,jl,rfl⟩:=nget hx
  refine⟨rfl,?_⟩
  refine⟨_,rfl,_,rfl,t,ups,lab,_,rfl,(((tr1.same g3).same g5).same s6).same g8,g7,AB,?_,g8.write hac3⟩
  rw[List.take_succ,e1,List.map_append];rfl
 rintro ys H7 ⟨g7,rfl,g8⟩
 rw[nl,<-kn,List.take_length]at g7
 refine⟨ac3,_,rfl,.inl ⟨Am.of g7,λle hle=>?_⟩⟩
 have s9:AG H7 (upd H7 le (.tup (ns.map λj:Nat=>V.bl (BQ ups (j:Int))))):=(AG.refl H7).new hle
 have h9:upd H7 le (.tup (ns.map λj:Nat=>V.bl (BQ ups (j:Int)))) le=some (.tup (ns.map λj:Nat=>V.bl (BQ ups (j:Int)))):=AB
 generalize upd H7 le (.tup (ns.map λj:Nat=>V.bl (BQ ups (j:Int))))=H9 at s9 h9
 refine⟨_,rfl,_,rfl,_,rfl,(by show 3<=sizeLine;decide),λrr hrr=>?_⟩
 have s19:AG H1 H9:=((((g3.trans g5).trans s6).trans g8).trans s9)
 have sR:AG H9 (upd H9 rr (.tup [.str (Txt.join (Str.ofString "") (ns.map (Fq lab))),.ref la,.ref le])):=(AG.refl H9).new hrr
 exact q' rr la le _ (k1.same (s19.trans sR)) (k1.here _ (s19.free hrr)) AB (sR _ _ ((g8.trans s9) _ _ h6)) (sR _ _ h9)
end
end S28
namespace S28
open PySem L2 W7
section
variable {ups:List Int}{lab:List Nat}
theorem FU (t:Af ups lab):∀(n k:Nat),k < n->k < ups.length->∀v∈JX ups k,∀w∈JX ups v.toNat,w∈JX ups k
 |0,_,h,_,_,_,_,_=>absurd h (Nat.not_lt_zero _)
 |n+1,k,hn,hk,v,hv,w,hw=>by
  rw[Dq t hk]at hv ⊢
  split at hv
  ·cases hv
  ·rename_i h0
   rw[if_neg h0]
   have lt:=t.lt hk h0
   rcases List.mem_cons.mp hv with e|e
   ·rw[e]at hw;exact List.mem_cons_of_mem _ hw
   ·exact List.mem_cons_of_mem _ (FU t n _ (by omega) (by omega) v e w hw)
theorem Jn (t:Af ups lab){k:Nat}(hk:k < ups.length):∀n,Ah ups n (k:Int)=(k:Int)\/Ah ups n (k:Int)∈JX ups k
 |0=>.inl rfl
 |n+1=>by
  have step:∀c:Nat,c < ups.length->BF ups (c:Int)=(c:Int)\/BF ups (c:Int)∈JX ups c:=λc hc=>by
   rcases Nat.eq_zero_or_pos c with z|z
   ·left;subst z;unfold BF;show(if ups.getD 0 0 > 0 then ups.getD 0 0 else 0)=0;rw[t.root];rfl
   ·right
    have u:=t.up c z hc
    rw[Dq t hc,if_neg (by omega)]
    have e:BF ups (c:Int)=ups.getD c 0:=by
     unfold BF;rw[Int.toNat_natCast];split<;>omega
    rw[e];exact List.mem_cons_self ..
  show BF ups (Ah ups n (k:Int))=_\/BF ups (Ah ups n (k:Int))∈_
  rcases Jn t hk n with a|a
  ·rw[a];exact step k hk
  ·have b:=(IS t (k+1) k (by omega) hk).2 _ a
   have e:Ah ups n (k:Int)=((Ah ups n (k:Int)).toNat:Int):=by omega
   rcases step (Ah ups n (k:Int)).toNat (by omega)with s|s
   ·rw[<-e]at s;rw[s];exact .inr a
   ·rw[<-e]at s;exact .inr (FU t (k+1) k (by omega) hk _ a _ s)
theorem LQ (t:Af ups lab)(road:∀k,0 < k->k < ups.length->∃n,Ah ups n ((k:Int) - 1)=ups.getD k 0){k:Nat}(h0:0 < k)(hk:k < ups.length):∀v∈JX ups k,v=(k:Int) - 1\/v∈JX ups (k - 1):=λv hv=>by
 obtain⟨n,e⟩:=road k h0 hk
 have u:=t.up k h0 hk
 have ek:(k:Int) - 1=((k - 1:Nat):Int):=by omega
 rw[ek]at e ⊢
 rw[Dq t hk,if_neg (by omega)]at hv
 have m:=Jn t (k:=k - 1) (by omega) n
 rw[e]at m
 rcases List.mem_cons.mp hv with z|z
 ·rw[z];exact m
 ·right
  rcases m with m|m
  ·rw[m,Int.toNat_natCast]at z;exact z
  ·exact FU t (k - 1+1) (k - 1) (by omega) (by omega) _ m _ z
theorem GV (t:Af ups lab)(road:∀k,0 < k->k < ups.length->∃n,Ah ups n ((k:Int) - 1)=ups.getD k 0){p a:Nat}(ha:a < ups.length)(hp:(p:Int)∈JX ups a):∀d,d<=a->p < a - d->(p:Int)∈JX ups (a - d)
 |0,_,_=>hp
 |d+1,h,hd=>by
  have ih:=GV t road ha hp d (by omega) (by omega)
  rcases LQ t road (k:=a - d) (by omega) (by omega) _ ih with z|z
  ·omega
  ·rw[show a - (d+1)=a - d - 1 by omega];exact z
theorem Hr (t:Af ups lab):∀(n k:Nat),k < n->k < ups.length->∀v∈JX ups k,(W ups lab v.toNat).length < (W ups lab k).length
 |0,_,h,_,_,_=>absurd h (Nat.not_lt_zero _)
 |n+1,k,hn,hk,v,hv=>by
  rw[Dq t hk]at hv
  rw[JV t hk]
  split at hv
  ·cases hv
  ·rename_i h0
   rw[if_neg h0,List.length_cons]
   have lt:=t.lt hk h0
   rcases List.mem_cons.mp hv with e|e
   ·rw[e];omega
   ·have:=Hr t n _ (by omega) (by omega) v e
    omega
theorem NP (t:Af ups lab)(road:∀k,0 < k->k < ups.length->∃n,Ah ups n ((k:Int) - 1)=ups.getD k 0){p q a b:Nat}(ha:a < ups.length)(hb:b < ups.length)(ea:ups.getD a 0=(p:Int))(eb:ups.getD b 0=(q:Int))(pq:p < q)(hl:(W ups lab p).length=(W ups lab q).length):a < b:=by
 rcases Nat.lt_or_ge a b with z|z
 ·exact z
 ·exfalso
  have lb:=t.lt hb (by omega)
  rw[eb,Int.toNat_natCast]at lb
  have hp:(p:Int)∈JX ups a:=by
   rw[Dq t ha,if_neg (by omega),ea];exact List.mem_cons_self ..
  have:=GV t road ha hp (a - q) (by omega) (by omega)
  rw[show a - (a - q)=q by omega]at this
  have:=Hr t (q+1) q (by omega) (by omega) _ this
  rw[Int.toNat_natCast]at this
  omega
end
section
variable {ups:List Int}{lab:Str}{ks:List Nat}
def ME (ups:List Int)(lab:Str)(a b:Nat):Prop:=A8 (Kw ups lab a) (Kw ups lab b)=true
theorem MF (a:Nat):¬ME ups lab a a:=λh=>by
 have:=C3 _ _ h
 unfold ME at h
 rw[h]at this;cases this
theorem O2 (a b c:Nat)(h1:ME ups lab a b)(h2:ME ups lab b c):ME ups lab a c:=by
 have T:=(IZ ups lab 0).Q5
 cases e:A8 (Kw ups lab a) (Kw ups lab c)with
 |true=>exact e
 |false=>
  have:=T.tr b c a (C3 _ _ h2) e
  exact absurd h1 (by unfold ME;rw[this];simp)
theorem mk_inj {a b:List Nat}(h:mk a=mk b):a=b:=by
 have:=congrArg (λz:Str=>z.cps.toList) h
 exact this
theorem MG (a b:Nat):ME ups lab a b↔W ups lab.cps.toList a < W ups lab.cps.toList b\/(W ups lab.cps.toList a=W ups lab.cps.toList b/\a < b):=by
 unfold ME Kw
 rw[Ay,Ay]
 by_cases h:W ups lab.cps.toList a=W ups lab.cps.toList b
 ·rw[h,if_pos rfl]
  by_cases e:a=b
  ·subst e
   rw[if_pos rfl]
   constructor
   ·intro z;cases z
   ·rintro(z|⟨_,z⟩)
    ·exact absurd z (List.lt_irrefl _)
    ·omega
  ·rw[if_neg (λz=>e (by injection z;omega))]
   show decide ((a:Int) < (b:Int))=true↔_
   rw[decide_eq_true_eq]
   constructor
   ·intro z;exact .inr ⟨rfl,by omega⟩
   ·rintro(z|⟨_,z⟩)
    ·exact absurd z (List.lt_irrefl _)
    ·omega
 ·rw[if_neg (λz=>h (mk_inj (by injection z)))]
  show decide (W ups lab.cps.toList a < W ups lab.cps.toList b)=true↔_
  rw[decide_eq_true_eq]
  constructor
  ·exact .inl
  ·rintro(z|⟨z,_⟩)
   ·exact z
   ·exact absurd z h
theorem O3 {a b:Nat}(h:A8 (Kl ups lab a) (Kl ups lab b)=true):ME ups lab (Ho ups a) (Ho ups b)\/(Ho ups a=Ho ups b/\a < b):=by
 unfold Kl at h
 unfold ME Kw
 by_cases e:Ho ups a=Ho ups b
 ·right
  refine⟨e,?_⟩
  rw[e,Ay,if_pos rfl,Ay,if_pos rfl,Ay]at h
  by_cases e2:a=b
  ·subst e2;rw[if_pos rfl]at h;cases h
  ·rw[if_neg (λz=>e2 (by injection z;omega))]at h
   have:(1+(a:Int)) < (1+(b:Int)):=of_decide_eq_true h
   omega
 ·left
  have ne:¬(V.int ((Ho ups a:Nat):Int)=V.int ((Ho ups b:Nat):Int)):=λz=>e (by injection z;omega)
  rw[Ay,Ay (.int ((Ho ups a:Nat):Int)),if_neg ne]at h
  rw[Ay,Ay (.int ((Ho ups a:Nat):Int)),if_neg ne]
  exact h
def pl (ks:List Nat)(r:Nat):Nat:=(Al ks).getD r 0
def par (ups:List Int)(ks:List Nat)(r:Nat):Nat:=Ho ups (ks.getD (r - 1) 0)
theorem DL:pl ks 0=0:=rfl
theorem Cc {r:Nat}(h:r < ks.length):pl ks (r+1)=ks.getD r 0+1:=by
 unfold pl Al
 rw[List.getD_eq_getElem?_getD,List.getElem?_cons_succ,List.getElem?_map,List.getD_eq_getElem?_getD,List.getElem?_eq_getElem h];rfl
theorem MH (ko:A7 ups lab ks){i:Nat}(h:i < ks.length):ks.getD i 0 < ups.length - 1:=by
 rw[List.getD_eq_getElem?_getD,List.getElem?_eq_getElem h]
 exact List.mem_range.mp (ko.perm.mem_iff.mp (List.getElem_mem h))
theorem Dv (ok:Af ups lab.cps.toList)(ko:A7 ups lab ks){r:Nat}(h:r < ups.length):pl ks r < ups.length:=by
 have kl:=ko.len
 cases r with
 |zero=>rw[DL];exact ok.pos
 |succ r=>
  rw[Cc (by omega)]
  have:=MH ko (i:=r) (by omega)
  omega
theorem Ez (ok:Af ups lab.cps.toList)(ko:A7 ups lab ks){r:Nat}(h0:1<=r)(h:r < ups.length):ups.getD (pl ks r) 0=((par ups ks r:Nat):Int):=by
 have kl:=ko.len
 obtain⟨i,rfl⟩:∃i,r=i+1:=⟨r - 1,by omega⟩
 rw[Cc (by omega)]
 exact(Jk ok (MH ko (i:=i) (by omega))).2
theorem Fy (ok:Af ups lab.cps.toList)(ko:A7 ups lab ks){y:Nat}(h0:1<=y)(h:y < ups.length):∃r,1<=r/\r < ups.length/\pl ks r=y:=by
 have kl:=ko.len
 have hm:y - 1∈ks:=ko.perm.mem_iff.mpr (List.mem_range.mpr (by omega))
 obtain⟨i,hi,e⟩:=List.getElem_of_mem hm
 refine⟨i+1,by omega,by omega,?_⟩
 rw[Cc hi,List.getD_eq_getElem?_getD,List.getElem?_eq_getElem hi,Option.getD_some,e]
 omega
theorem O4 (ok:Af ups lab.cps.toList)(ko:A7 ups lab ks){r s:Nat}(hr:r < ups.length)(hs:s < ups.length)(e:pl ks r=pl ks s):r=s:=by
 have kl:=ko.len
 have nd:ks.Nodup:=ko.perm.nodup_iff.mpr List.nodup_range
 cases r with
 |zero=>
  cases s with
  |zero=>rfl
  |succ s=>rw[DL,Cc (by omega)]at e;omega
 |succ r=>
  cases s with
  |zero=>rw[DL,Cc (by omega)]at e;omega
  |succ s=>
   rw[Cc (by omega),Cc (by omega),List.getD_eq_getElem?_getD,List.getD_eq_getElem?_getD,List.getElem?_eq_getElem (by omega),List.getElem?_eq_getElem (by omega)]at e
   have e':ks[r]'(by omega)=ks[s]'(by omega):=by simpa using e
   have:=(List.getElem_inj nd).mp e'
   omega
theorem Dw (f:Nat->Bool):∀(m y:Nat),((List.range m).filter f).getLast?=some y->∀z∈(List.range m).filter f,z<=y
 |0,y,h,_,_=>by simp at h
 |m+1,y,h,z,hz=>by
  rw[List.range_succ,List.filter_append]at h hz
  by_cases c:f m=true
  ·rw[List.filter_cons_of_pos c,List.filter_nil]at h hz
   rw[List.getLast?_concat]at h
   have em:m=y:=Option.some.inj h
   rcases List.mem_append.mp hz with w|w
   ·have:=List.mem_range.mp (List.mem_filter.mp w).1;omega
   ·have:z=m:=by simpa using w
    omega
  ·rw[List.filter_cons_of_neg c,List.filter_nil,List.append_nil]at h hz
   exact Dw f m y h z hz
theorem B7 (f:Nat->Bool):∀(m:Nat) (x:Nat),x∈(List.range m).filter f->(∀y∈(List.range m).filter f,y<=x)->((List.range m).filter f).getLast?=some x
 |0,x,h,_=>by simp at h
 |m+1,x,h,hx=>by
  rw[List.range_succ,List.filter_append]at h hx ⊢
  by_cases c:f m=true
  ·rw[List.filter_cons_of_pos c]at h hx ⊢
   have:m<=x:=hx m (List.mem_append_right _ List.mem_cons_self)
   have xm:x<=m:=by
    rcases List.mem_append.mp h with z|z
    ·have:=List.mem_range.mp (List.mem_filter.mp z).1;omega
    ·have z':x=m:=by simpa using z
     omega
   rw[show x=m by omega]
   simp
  ·rw[List.filter_cons_of_neg c]at h hx ⊢
   rw[List.filter_nil,List.append_nil]at h hx ⊢
   exact B7 f m x h hx
theorem Ca {p:Int}{m z:Nat}:z∈EE ups p m↔z < m/\ups.getD z 0=p:=by
 unfold EE
 rw[List.mem_filter,List.mem_range,decide_eq_true_eq]
theorem Ic (ok:Af ups lab.cps.toList)(ko:A7 ups lab ks):W29.Rw ups.length (ME ups lab) (pl ks) (par ups ks) (λr=>Az ups (pl ks r)) where
 irr:=MF
 tr:=O2
 ro:=λo o' h1 h2 h3=>by
  have kl:=ko.len
  have nd:ks.Nodup:=ko.perm.nodup_iff.mpr List.nodup_range
  have r:=ko.rise (o - 1) (o' - 1) (by omega) (by omega)
  have z:=Ia ups lab (ups.length - 1)
  have tr:A8 (Kl ups lab (ks.getD (o - 1) 0)) (Kl ups lab (ks.getD (o' - 1) 0))=true:=by
   cases e:A8 (Kl ups lab (ks.getD (o - 1) 0)) (Kl ups lab (ks.getD (o' - 1) 0))with
   |true=>rfl
   |false=>
    exfalso
    have:=z.Q5.Q5 _ _ (MH ko (i:=o - 1) (by omega)) (MH ko (i:=o' - 1) (by omega)) e r
    rw[List.getD_eq_getElem?_getD,List.getD_eq_getElem?_getD,List.getElem?_eq_getElem (by omega),List.getElem?_eq_getElem (by omega)]at this
    have e':ks[o - 1]'(by omega)=ks[o' - 1]'(by omega):=by simpa using this
    have:=(List.getElem_inj nd).mp e'
    omega
  rcases O3 tr with w|⟨w1,w2⟩
  ·exact .inl w
  ·refine .inr ⟨w1,?_⟩
   have p1:=Cc (ks:=ks) (r:=o - 1) (by omega)
   have p2:=Cc (ks:=ks) (r:=o' - 1) (by omega)
   rw[show o - 1+1=o by omega]at p1
   rw[show o' - 1+1=o' by omega]at p2
   omega
 lst:=λo h1 h2=>by
  have p0:pl ks o≠0:=λe=>by
   have:=O4 ok ko h2 ok.pos (e.trans DL.symm)
   omega
  have lt:=Dv ok ko h2
  have eu:=Ez ok ko h1 h2
  show Az ups (pl ks o)=true↔_
  unfold Az
  rw[decide_eq_false p0,Bool.false_or,decide_eq_true_eq]
  constructor
  ·intro h o' a b e
   have hz:pl ks o'∈EE ups (ups.getD (pl ks o) 0) ups.length:=by
    rw[Ca,eu,Ez ok ko a b,e]
    exact⟨Dv ok ko b,rfl⟩
   exact Dw _ _ _ h _ hz
  ·intro h
   refine B7 _ _ _ (Ca.mpr ⟨lt,rfl⟩) λy hy=>?_
   obtain⟨y1,y2⟩:=Ca.mp hy
   have yp:1<=y:=by
    rcases Nat.eq_zero_or_pos y with z|z
    ·subst z
     have:=ok.root
     rw[y2,eu]at this
     omega
    ·exact z
   obtain⟨o',a,b,e⟩:=Fy ok ko yp y1
   have:=h o' a b (by
    have e1:=Ez ok ko a b
    rw[e,y2,eu]at e1
    omega)
   omega
theorem O5 (ok:Af ups lab.cps.toList)(fine:Jg ups lab)(ko:A7 ups lab ks){r s:Nat}(hr:r < ups.length)(hs:s < ups.length)
 (h:lab.cps.toList.getD (pl ks r) 0 < lab.cps.toList.getD (pl ks s) 0\/(lab.cps.toList.getD (pl ks r) 0=lab.cps.toList.getD (pl ks s) 0/\r < s)):ME ups lab (pl ks r) (pl ks s):=by
 have w1:=JV ok (Dv ok ko hr)
 have w2:=JV ok (Dv ok ko hs)
 rw[MG]
 rcases h with h|⟨e,h⟩
 ·left
  rw[w1,w2,List.cons_lt_cons_iff]
  exact .inl h
 ·have us:=Ez ok ko (r:=s) (by omega) hs
  rcases Nat.eq_zero_or_pos r with z|z
  ·left
   subst z
   have hroot:ups.getD (pl ks 0) 0 < 0:=by rw[DL,ok.root];decide
   rw[if_pos hroot]at w1
   rw[us,if_neg (by omega)]at w2
   rw[w1,w2,e,List.cons_lt_cons_iff]
   refine .inr ⟨rfl,?_⟩
   have pls:=Dv ok ko hs
   have lt:=ok.lt pls (by rw[us];omega)
   rw[us]at lt
   rw[JV ok (k:=((par ups ks s:Nat):Int).toNat) (by omega)]
   exact List.nil_lt_cons _ _
  ·have ur:=Ez ok ko (r:=r) z hr
   rw[ur,if_neg (by omega),Int.toNat_natCast]at w1
   rw[us,if_neg (by omega),Int.toNat_natCast]at w2
   rcases(Ic ok ko).ro r s z h hs with k|⟨k1,k2⟩
   ·rw[MG]at k
    rcases k with k|⟨k1,k2⟩
    ·left
     rw[w1,w2,e,List.cons_lt_cons_iff]
     exact .inr ⟨rfl,k⟩
    ·right
     refine⟨by rw[w1,w2,e,k1],?_⟩
     exact NP ok fine.road (Dv ok ko hr) (Dv ok ko hs) ur us k2 (by rw[k1])
   ·right
    exact⟨by rw[w1,w2,e,k1],k2⟩
def Qb (ups:List Int)(ks:List Nat)(n:Nat):List Nat:=(List.range n).filter λr=>!BQ ups ((pl ks r:Nat):Int)
theorem GW {p:Nat}:BQ ups (p:Int)=false↔∃y,y < ups.length/\ups.getD y 0=(p:Int):=by
 unfold BQ Tq
 rw[Bool.not_eq_false',List.any_eq_true]
 constructor
 ·rintro⟨x,hx,h⟩
  obtain⟨v,hv,rfl⟩:=List.mem_map.mp hx
  obtain⟨y,hy,e⟩:=List.getElem_of_mem hv
  have ev:v=(p:Int):=beq_iff_eq.mp (show(v==(p:Int))=true from h)
  refine⟨y,hy,?_⟩
  rw[List.getD_eq_getElem?_getD,List.getElem?_eq_getElem hy,Option.getD_some,e,ev]
 ·rintro⟨y,hy,e⟩
  refine⟨V.int (p:Int),List.mem_map.mpr ⟨(p:Int),?_,rfl⟩,?_⟩
  ·rw[List.getD_eq_getElem?_getD,List.getElem?_eq_getElem hy,Option.getD_some]at e
   rw[<-e];exact List.getElem_mem hy
  ·show((p:Int)==(p:Int))=true
   exact beq_self_eq_true _
theorem GX (ok:Af ups lab.cps.toList)(ko:A7 ups lab ks){gs:List (Nat×Nat)}{first:Nat}(I:W29.GI (λr=>Az ups (pl ks r)) ups.length gs first){so:List Nat}(hp:so.Perm (Qb ups ks ups.length))(hs:so.Pairwise λr s=>ME ups lab (pl ks r) (pl ks s)):
 so.map (pl ks)=gs.map λg=>par ups ks g.1:=by
 have R:=Ic ok ko
 have fn:=R.whole ok.pos I
 have fle:first<=ups.length:=by omega
 refine W29.Cd MF O2 _ _ (by rw[List.pairwise_map];exact hs) (R.rise I fle) λx=>?_
 rw[List.mem_map,List.mem_map]
 constructor
 ·rintro⟨r,hr,rfl⟩
  have hr':=hp.mem_iff.mp hr
  unfold Qb at hr'
  rw[List.mem_filter,List.mem_range]at hr'
  obtain⟨y,hy,e⟩:=GW.mp (by simpa using hr'.2)
  have yp:1<=y:=by
   rcases Nat.eq_zero_or_pos y with z|z
   ·subst z
    have:=ok.root
    omega
   ·exact z
  obtain⟨o,a,b,eo⟩:=Fy ok ko yp hy
  obtain⟨g,hg,g1,g2⟩:=I.cov o a (by omega)
  refine⟨g,hg,?_⟩
  have:=(R.all I fle hg a b).mpr ⟨g1,g2⟩
  have eu:=Ez ok ko a b
  rw[eo,e]at eu
  omega
 ·rintro⟨g,hg,rfl⟩
  obtain⟨a1,a2,a3,_⟩:=I.mem g hg
  have eu:=Ez ok ko a1 (by omega)
  have pls:=Dv ok ko (r:=g.1) (by omega)
  have lt:=ok.lt pls (by rw[eu];omega)
  rw[eu,Int.toNat_natCast]at lt
  have hx:∃r,r < ups.length/\pl ks r=par ups ks g.1:=by
   rcases Nat.eq_zero_or_pos (par ups ks g.1)with z|z
   ·exact⟨0,ok.pos,by rw[DL,z]⟩
   ·obtain⟨r,_,b,c⟩:=Fy ok ko z (by omega)
    exact⟨r,b,c⟩
  obtain⟨r,hr,e⟩:=hx
  refine⟨r,hp.mem_iff.mpr ?_,e⟩
  unfold Qb
  rw[List.mem_filter,List.mem_range]
  refine⟨hr,?_⟩
  have:BQ ups ((pl ks r:Nat):Int)=false:=GW.mpr ⟨pl ks g.1,pls,by rw[eu,e]⟩
  rw[this];rfl
end
end S28
namespace S28
open PySem L2 W7
theorem Hs {f g:Nat->Bool}:∀n,(∀r,r < n->f r=g r)->W29.Br f n=W29.Br g n
 |0,_=>rfl
 |n+1,h=>by
  rw[W29.Br,W29.Br,Hs n λr hr=>h r (by omega),h n (by omega)]
def TZ (g:Nat×Nat):List V:=[.int ((g.1:Nat):Int),.int ((g.2:Nat):Int)]
def D8 (H:Hp)(as:List Addr)(gs:List (Nat×Nat)):Prop:=as.length=gs.length/\∀(i:Nat) (a:Addr) (g:Nat×Nat),as[i]?=some a->gs[i]?=some g->H a=some (.tup (TZ g))
theorem D8.same {H H':Hp}{as:List Addr}{gs:List (Nat×Nat)}(h:D8 H as gs)(s:AG H H'):D8 H' as gs:=⟨h.1,λi a g e1 e2=>s _ _ (h.2 i a g e1 e2)⟩
section
variable {P:Program}{w:World}{K:PySem.W.Frag}{mg:Str->Option Value}{base:Heap}{k:Nat}
def FV:Sp:=λvs H Q _=>∃(t a b:Addr) (txt:Str) (ls:List Bool),vs=[.ref t]/\H t=some (.tup [.str txt,.ref a,.ref b])/\H a=some (.tup (ls.map V.bl))/\ls.length<=60/\
 ∀(as:List Addr) (r:Addr) (H':Hp),AG H H'->H r=none->H' r=some (.lst (as.map V.ref))->D8 H' as (W29.Br (λi=>ls.getD i false) ls.length).1->Q (.ref r) H'
theorem LR (D:Df K mg "groups_of" s_groups_of)(B:CK mg):Bb P w K mg base "groups_of" (k+1) ["rows"] FV:=by
 refine D.has Bo (λ_ _ _ _ _ _=>Gy λ_=>rfl) (λvs H Q E h=>by obtain⟨t,a,b,txt,ls,rfl,_⟩:=h;rfl) (λf cdv A outer s H vs Q E hr h=>?_)
 obtain⟨t,a,b,txt,ls,rfl,ht,ha,l60,q⟩:=h
 refine⟨_,(AE (AN (i:=1) Bo.nd rfl (by first|exact Or.inl rfl|exact Or.inr rfl) (Ai AD))
 (AE (AN (i:=2) Bo.nd rfl (by first|exact Or.inl rfl|exact Or.inr rfl) AF)
 (AE (CF PassesOwn.never rfl (D3 rfl B.enumerate (AA (AR Aj (pv 0) AF (λ_ _=>rfl)) AD)) (Ce rfl (Ag (AQ (i:=3) Bo.nd rfl (by first|exact Or.inl rfl|exact Or.inr rfl)) (Ag (AQ (i:=4) Bo.nd rfl (by first|exact Or.inl rfl|exact Or.inr rfl)) Bv)))
 (AL (Bk (PW.pt (KP (Ab Lf (pv 3) AF (AZ _)) (Hw (Bj (pv 4)))))
 (AE (B4 (Cp PySem.F.plainAttrs_list PySem.F.slot_list_append PySem.F.type_list_append BM (pv 1) (AA (Ak (AA (pv 2) (AA (AS BC (pv 3) AF) AD))) AD)))
 (AL (AN (i:=2) Bo.nd rfl (by first|exact Or.inl rfl|exact Or.inr rfl) (AS BC (pv 3) AF))))
 Av)))
 (AL (AV (pv 1)))))),?_⟩
 first|(dsimp only[Bp,Cx.Ft];generalize hK:K=K';revert K' hK;refine Dn (Ae <|Ae <|Ae <|λ_=>rfl) ?_)|skip
 refine⟨(by show 0<=sizeLine;decide),λr hr0=>?_⟩
 have s0:AG H (upd H r (.lst [])):=(AG.refl H).new hr0
 refine⟨_,rfl,t,_,_,_,rfl,rfl,Ar.of (s0 _ _ ht),rfl,.tup a,rfl,⟨_,.inl (s0 _ _ ha)⟩,?_⟩
 refine Em (xs:=ls.map V.bl) (λj σ H'=>∃(o3 o4:Option V) (as:List Addr),σ=[some (.ref t),some (.ref r),some (.int (((W29.Br (λi=>ls.getD i false) j).2:Nat):Int)),o3,o4]/\AG H H'/\H' r=some (.lst (as.map V.ref))/\D8 H' as (W29.Br (λi=>ls.getD i false) j).1)
  ⟨none,none,[],rfl,s0,AB,rfl,λi a g e=>by simp at e⟩ (λj σ H' _ h=>by obtain⟨_,_,_,_,s1,_⟩:=h;exact .inl (s1 _ _ ha)) ?_ ?_
 ·rintro j x σ H' p hx ⟨o3,o4,as,rfl,s1,hr1,pa⟩ hp
  rw[List.getElem?_map]at hx
  cases e1:ls[j]? with
  |none=>rw[e1]at hx;cases hx
  |some bb=>
   rw[e1]at hx
   cases hx
   have jl:j < ls.length:=(List.getElem?_eq_some_iff.mp e1).1
   have eb:ls.getD j false=bb:=by rw[List.getD_eq_getElem?_getD,e1];rfl
   have GI:=W29.Dp (λi=>ls.getD i false) j
   have gl:=GI.len
   refine⟨p,_,rfl,Ar.of AB,rfl,_,_,rfl,_,_,rfl,rfl,?_⟩
   have s2:AG H' (upd H' p (.tup [.int (j:Int),.bl bb])):=(AG.refl H').new hp
   have hr2:=s2 _ _ hr1
   have pa2:=pa.same s2
   have s3:=s1.trans s2
   generalize upd H' p (.tup [.int (j:Int),.bl bb])=H2 at s2 hr2 pa2 s3
   refine⟨_,rfl,_,_,rfl,rfl,_,rfl,CC (λc=>?_) (λc=>?_)⟩
   ·have c':(0:Int) < (j:Int):=of_decide_eq_true c
    refine⟨_,rfl,_,rfl,?_⟩
    cases bb with
    |true=>
     refine IF ?_
     have eg:W29.Br (λi=>ls.getD i false) (j+1)=((W29.Br (λi=>ls.getD i false) j).1++[((W29.Br (λi=>ls.getD i false) j).2,j+1)],j+1):=by
      rw[W29.Br,if_pos ⟨by omega,eb⟩]
     refine⟨_,rfl,.inl ⟨rfl,_,Am.of hr2⟩,_,rfl,_,rfl,_,_,rfl,rfl,(by show 2<=sizeLine;decide),λe he=>?_⟩
     have s4:AG H2 (upd H2 e (.tup [.int (((W29.Br (λi=>ls.getD i false) j).2:Nat):Int),.int ((j:Int)+1)])):=(AG.refl H2).new he
     have h4:upd H2 e (.tup [.int (((W29.Br (λi=>ls.getD i false) j).2:Nat):Int),.int ((j:Int)+1)]) e=some (.tup [.int (((W29.Br (λi=>ls.getD i false) j).2:Nat):Int),.int ((j:Int)+1)]):=AB
     generalize upd H2 e (.tup [.int (((W29.Br (λi=>ls.getD i false) j).2:Nat):Int),.int ((j:Int)+1)])=H4 at s4 h4
     have hr4:=s4 _ _ hr2
     have er:e≠r:=λz=>by subst z;rw[hr2]at he;cases he
     refine⟨r,_,_,rfl,rfl,hr4,by rw[List.length_map,pa.1];exact AO (by omega),?_⟩
     refine⟨_,rfl,_,_,rfl,rfl,?_⟩
     rw[eg]
     refine⟨_,_,as++[e],rfl,(s3.trans s4).write hr0,by rw[AB,List.map_append];rfl,by simp[pa.1],λi a' g' e1 e2=>?_⟩
     rcases Nat.lt_or_ge i as.length with z|z
     ·rw[List.getElem?_append_left z]at e1
      rw[List.getElem?_append_left (by rw[<-pa.1];exact z)]at e2
      have h1:=s4 _ _ (pa2.2 i a' g' e1 e2)
      rw[AH (Bh h1 hr4 (by intro z;cases z))];exact h1
     ·rw[List.getElem?_append_right z]at e1
      rw[List.getElem?_append_right (by rw[<-pa.1];exact z)]at e2
      have q0:i - as.length=0:=by
       rcases Nat.eq_zero_or_pos (i - as.length)with y|y
       ·exact y
       ·rw[List.getElem?_eq_none (by simp;omega)]at e1;cases e1
      rw[q0]at e1
      rw[<-pa.1,q0]at e2
      have ea:e=a':=by simpa using e1
      have eg':((W29.Br (λi=>ls.getD i false) j).2,j+1)=g':=by simpa using e2
      subst ea
      rw[AH er,h4,<-eg']
      rfl
    |false=>
     refine QI ?_
     have eg:W29.Br (λi=>ls.getD i false) (j+1)=W29.Br (λi=>ls.getD i false) j:=by
      rw[W29.Br,if_neg (by rw[eb];simp)]
     rw[eg]
     exact⟨_,_,as,rfl,s3,hr2,pa2⟩
   ·have c':¬(0:Int) < (j:Int):=of_decide_eq_false (Bool.eq_false_iff.mpr c)
    have eg:W29.Br (λi=>ls.getD i false) (j+1)=W29.Br (λi=>ls.getD i false) j:=by
     rw[W29.Br,if_neg (λz=>by omega)]
    rw[eg]
    refine QI ?_
    exact⟨_,_,as,rfl,s3,hr2,pa2⟩
 ·rintro σ H' ⟨o3,o4,as,rfl,s1,hr1,pa⟩
  rw[List.length_map]at pa
  exact⟨_,rfl,q as r H' s1 hr0 hr1 pa⟩
def C7 (so:List Nat)(r:Nat):V:=if r∈so then .int ((so.idxOf r:Nat):Int)else .A3
def ff (ls:List Bool)(n:Nat):List Nat:=(List.range n).filter λi=>!ls.getD i true
theorem Fz (ls:List Bool)(n:Nat):ff ls (n+1)=if ls.getD n true=false then ff ls n++[n]else ff ls n:=by
 unfold ff
 rw[List.range_succ,List.filter_append]
 by_cases h:ls.getD n true=false
 ·rw[if_pos h,List.filter_cons_of_pos (by rw[h];rfl)];rfl
 ·rw[if_neg h,List.filter_cons_of_neg (by simpa using h)];simp
theorem O6 (ls:List Bool)(n:Nat):(ff ls n).length<=n:=by
 have:=List.length_filter_le (λi=>!ls.getD i true) (List.range n)
 simpa[ff]using this
theorem Dx (ls:List Bool)(n:Nat):(ff ls n).Nodup:=List.Pairwise.filter _ List.nodup_range
theorem MI {ls:List Bool}{n x:Nat}(h:x∈ff ls n):x < n:=List.mem_range.mp (List.mem_filter.mp h).1
def KG (txt:Str)(r:Nat):List V:=[.str ⟨#[txt.cps.toList.getD r 0]⟩,.int (r:Int)]
theorem range_getD (l:List Nat):(List.range l.length).map (λi=>l.getD i 0)=l:=by
 apply List.ext_getElem
 ·simp
 ·intro i h1 h2
  rw[List.getElem_map,List.getElem_range,List.getD_eq_getElem?_getD,List.getElem?_eq_getElem h2];rfl
theorem Qc (txt:Str){ir:List Nat}(nd:ir.Nodup):FL ir.length (λi=>KG txt (ir.getD i 0)) [2,1] where
 shp:=λi=>rfl
 ne:=by simp
 z:=by simp
 inj:=λi j hi hj h=>by
  have h2:[V.str ⟨#[txt.cps.toList.getD (ir.getD i 0) 0]⟩,.int ((ir.getD i 0:Nat):Int)]=[.str ⟨#[txt.cps.toList.getD (ir.getD j 0) 0]⟩,.int ((ir.getD j 0:Nat):Int)]:=h
  simp only[List.cons.injEq,V.int.injEq,and_true]at h2
  have e:ir.getD i 0=ir.getD j 0:=by omega
  rw[List.getD_eq_getElem?_getD,List.getD_eq_getElem?_getD,List.getElem?_eq_getElem hi,List.getElem?_eq_getElem hj]at e
  exact(List.getElem_inj nd).mp (by simpa using e)
theorem O7 {txt:Str}{r s:Nat}(ne:r≠s)(h:A8 (KG txt s) (KG txt r)=false):txt.cps.toList.getD r 0 < txt.cps.toList.getD s 0\/(txt.cps.toList.getD r 0=txt.cps.toList.getD s 0/\r < s):=by
 unfold KG at h
 rw[Ay,Ay]at h
 by_cases e:txt.cps.toList.getD r 0=txt.cps.toList.getD s 0
 ·right
  refine⟨e,?_⟩
  rw[e,if_pos rfl,if_neg (λz=>ne (by injection z;omega))]at h
  have:¬(s:Int) < (r:Int):=of_decide_eq_false h
  omega
 ·left
  rw[if_neg (λz=>e (by injection z with z;injection z with z;injection z with z;injection z with z;exact z.symm))]at h
  have h':¬[txt.cps.toList.getD s 0] < [txt.cps.toList.getD r 0]:=of_decide_eq_false h
  rw[List.cons_lt_cons_iff]at h'
  have:¬txt.cps.toList.getD s 0 < txt.cps.toList.getD r 0:=λz=>h' (.inl z)
  omega
theorem Qd {so:List Nat}{n j x:Nat}(nd:so.Nodup)(hj:so[j]?=some x)(hx:x < n):((List.range n).map (C7 (so.take j))).set x (.int (j:Int))=(List.range n).map (C7 (so.take (j+1))):=by
 have jl:j < so.length:=(List.getElem?_eq_some_iff.mp hj).1
 have et:so.take (j+1)=so.take j++[x]:=by rw[List.take_succ,hj];rfl
 have xn:x∉so.take j:=λhm=>by
  obtain⟨i,hi,e⟩:=List.getElem_of_mem hm
  rw[List.length_take]at hi
  rw[List.getElem_take]at e
  have e2:so[j]=x:=(List.getElem?_eq_some_iff.mp hj).2
  have:=(List.getElem_inj nd).mp (e.trans e2.symm)
  omega
 apply List.ext_getElem?
 intro i
 rcases Nat.lt_or_ge i n with c|c
 ·by_cases e:x=i
  ·subst e
   rw[List.getElem?_set_self (by simpa using c),List.getElem?_map,List.getElem?_range c]
   show _=some (C7 (so.take (j+1)) x)
   unfold C7
   rw[et,if_pos (by simp),List.idxOf_append,if_neg xn]
   have:[x].idxOf x=0:=by simp
   rw[this,List.length_take,Nat.min_eq_left (by omega),Nat.zero_add]
  ·rw[List.getElem?_set_ne e,List.getElem?_map,List.getElem?_map,List.getElem?_range c]
   show some (C7 (so.take j) i)=some (C7 (so.take (j+1)) i)
   unfold C7
   rw[et,List.idxOf_append]
   by_cases m:i∈so.take j
   ·rw[if_pos m,if_pos (List.mem_append_left _ m),if_pos m]
   ·rw[if_neg m,if_neg (λz=>by
     rcases List.mem_append.mp z with z|z
     ·exact m z
     ·exact e (List.mem_singleton.mp z).symm)]
 ·rw[List.getElem?_eq_none (by simpa using c),List.getElem?_eq_none (by simpa using c)]
def Jo:Sp:=λvs H Q _=>∃(t a b:Addr) (txt:Str) (ls:List Bool),vs=[.ref t]/\H t=some (.tup [.str txt,.ref a,.ref b])/\H b=some (.tup (ls.map V.bl))/\ls.length<=60/\txt.cps.toList.length=ls.length/\
 ∀(so:List Nat) (r:Addr) (H':Hp),so.Perm (ff ls ls.length)->so.Pairwise (λx y=>txt.cps.toList.getD x 0 < txt.cps.toList.getD y 0\/(txt.cps.toList.getD x 0=txt.cps.toList.getD y 0/\x < y))->AG H H'->H r=none->H' r=some (.lst ((List.range ls.length).map (C7 so)))->Q (.ref r) H'
theorem NQ (D:Df K mg "group_numbers" s_group_numbers)(B:CK mg):Bb P w K mg base "group_numbers" (k+1) ["rows"] Jo:=by
 refine D.has BX (λ_ _ _ _ _ _=>Gy λ_=>rfl) (λvs H Q E h=>by obtain⟨t,a,b,txt,ls,rfl,_⟩:=h;rfl) (λf cdv A outer s H vs Q E hr h=>?_)
 obtain⟨t,a,b,txt,ls,rfl,ht,hb,l60,tl,q⟩:=h
 refine⟨_,(AE (AN (i:=1) BX.nd rfl (by first|exact Or.inl rfl|exact Or.inr rfl) (AM C4 rfl B.sorted FJ (AA (BL rfl (D3 rfl B.enumerate (AA (AR Aj (pv 0) AF (λ_ _=>rfl)) AD)) (NL:=["row","leaf"]) (ix:=[0]) (GB (AJ s_group_numbers) DP) (λcl C s₃ H₃ fp pins=>⟨(Lj K (n:=2) rfl (Ag (AQ (i:=0) (show List.Nodup (["row","leaf","rows"]:List Str)from by decide+kernel) rfl (by first|exact Or.inl rfl|exact Or.inr rfl)) (Ag (AQ (i:=1) (show List.Nodup (["row","leaf","rows"]:List Str)from by decide+kernel) rfl (by first|exact Or.inl rfl|exact Or.inr rfl)) Bv))),(DZ (B3 (Bj (pv 1)))),(Ak (AA (AR DD (AR (CL K) (pv 2) AF (λ_ _=>rfl)) (pv 0) (λ_ _=>rfl)) (AA (pv 0) AD)))⟩)) AD)))
 (AE (AN (i:=2) BX.nd rfl (by first|exact Or.inl rfl|exact Or.inr rfl) (AS Kh (Ai (AA CT AD)) (AM Ad rfl B.len Aw (AA (AR Aj (pv 0) AF (λ_ _=>rfl)) AD))))
 (AE (CF PassesOwn.never rfl (D3 rfl B.enumerate (AA (pv 1) AD)) (Ce rfl (Ag (AQ (i:=3) BX.nd rfl (by first|exact Or.inl rfl|exact Or.inr rfl)) (Ag (AQ (i:=4) BX.nd rfl (by first|exact Or.inl rfl|exact Or.inr rfl)) Bv)))
 (AL (DC (pv 3) (FF (pv 2) (AR Aj (pv 4) AF (λ_ _=>rfl)) set_list))))
 (AL (AV (pv 2)))))),?_⟩
 first|(dsimp only[Bp,Cx.Ft];generalize hK:K=K';revert K' hK;refine Dn (Ae <|Ae <|Ae <|λ_=>rfl) ?_)|skip
 have tz:txt.length<=sizeLine:=Nat.le_of_lt (AO (by simp only[Str.length];rw[<-Array.length_toList,tl];omega))
 refine⟨_,rfl,t,_,_,_,rfl,rfl,Ar.of ht,rfl,.tup b,rfl,⟨_,.inl hb⟩,λacc hacc=>?_⟩
 refine HU (xs:=ls.map V.bl) (by rw[List.length_map];omega) (λj ys H'=>H' acc=some (.lst ys)/\AG H H'/\∃as:List Addr,ys=as.map V.ref/\as.length=(ff ls j).length/\∀(i:Nat) (e:Addr),as[i]?=some e->H' e=some (.tup (KG txt ((ff ls j).getD i 0))))
  (λj ys H' h=>.inl (h.2.1 _ _ hb)) (λj ys H' h=>⟨h.1,by obtain⟨as,e,l,_⟩:=h.2.2;rw[e,List.length_map,l];exact O6 _ _⟩) ⟨AB,(AG.refl H).new hacc,[],rfl,rfl,λi e h=>by simp at h⟩ ?_ ?_
 rotate_left
 ·rintro j x ys H2 pp hx ⟨g1,g3,as,rfl,al,at'⟩ hpp
  rw[List.getElem?_map]at hx
  cases e1:ls[j]? with
  |none=>rw[e1]at hx;cases hx
  |some bb=>
   rw[e1]at hx
   cases hx
   have jl:j < ls.length:=(List.getElem?_eq_some_iff.mp e1).1
   have eb:ls.getD j true=bb:=by rw[List.getD_eq_getElem?_getD,e1];rfl
   refine⟨pp,_,rfl,Ar.of AB,rfl,_,_,rfl,_,_,rfl,rfl,?_⟩
   refine⟨rfl,?_⟩
   have s2:AG H2 (upd H2 pp (.tup [.int (j:Int),.bl bb])):=(AG.refl H2).new hpp
   generalize upd H2 pp (.tup [.int (j:Int),.bl bb])=H3 at s2
   refine⟨_,rfl,_,rfl,?_⟩
   cases bb with
   |true=>
    refine QI ?_
    have ef:ff ls (j+1)=ff ls j:=by rw[Fz,if_neg (by rw[eb];simp)]
    rw[ef]
    exact⟨s2 _ _ g1,g3.trans s2,as,rfl,al,λi e h=>s2 _ _ (at' i e h)⟩
   |false=>
    refine IF ?_
    have ef:ff ls (j+1)=ff ls j++[j]:=by rw[Fz,if_pos eb]
    rw[ef]
    have hc:txt.cps.toList[j]?=some (txt.cps.toList.getD j 0):=by rw[List.getD_eq_getElem?_getD,List.getElem?_eq_getElem (by omega)];rfl
    refine⟨_,rfl,t,_,_,_,rfl,rfl,Ar.of (s2 _ _ (g3 _ _ ht)),rfl,_,rfl,txt,_,_,rfl,rfl,tz,A0 hc,_,rfl,(by show 2<=sizeLine;decide),λe he=>?_⟩
    have g1':=s2 _ _ g1
    have ae:acc≠e:=AI g1' he
    refine⟨by rw[AH ae];exact g1',AB,((g3.trans s2).new he).write hacc,as++[e],by rw[List.map_append];rfl,by simp[al],λi e' h=>?_⟩
    rcases Nat.lt_or_ge i as.length with z|z
    ·rw[List.getElem?_append_left z]at h
     have h1:=s2 _ _ (at' i e' h)
     rw[AH (Bh h1 g1' (by intro z;cases z)),AH (AI h1 he),h1]
     congr 3
     rw[List.getD_eq_getElem?_getD,List.getD_eq_getElem?_getD,List.getElem?_append_left (by omega)]
    ·rw[List.getElem?_append_right z]at h
     have q0:i - as.length=0:=by
      rcases Nat.eq_zero_or_pos (i - as.length)with y|y
      ·exact y
      ·rw[List.getElem?_eq_none (by simp;omega)]at h;cases h
     rw[q0]at h
     have ee:e=e':=by simpa using h
     subst ee
     rw[AH (Ne.symm ae),AB]
     have ei:i=(ff ls j).length:=by omega
     have:(ff ls j++[j]).getD i 0=j:=by
      rw[List.getD_eq_getElem?_getD,List.getElem?_append_right (by omega),ei,Nat.sub_self];rfl
     rw[this]
     rfl
 rintro ys H2 ⟨g1,g3,as,rfl,al,at'⟩
 rw[List.length_map]at al at'
 generalize hir:ff ls ls.length=ir at al at' q
 have ird:ir.Nodup:=by rw[<-hir];exact Dx _ _
 have irl:∀x∈ir,x < ls.length:=λx hx=>by rw[<-hir]at hx;exact MI hx
 have irn:ir.length<=ls.length:=by rw[<-hir];exact O6 _ _
 have kk:=Qc txt ird
 refine⟨acc,as,λi=>KG txt (ir.getD i 0),[2,1],rfl,Am.of g1,by omega,λi b' hb'=>Ar.of (at' i b' hb'),by rw[al];exact kk,λp l hp hrise hl=>?_⟩
 rw[al]at hp hrise
 have s4:AG H2 (upd H2 l (.lst ((p.map λi=>as.getD i 0).map V.ref))):=(AG.refl H2).new hl
 have h4:upd H2 l (.lst ((p.map λi=>as.getD i 0).map V.ref)) l=some (.lst ((p.map λi=>as.getD i 0).map V.ref)):=AB
 generalize upd H2 l (.lst ((p.map λi=>as.getD i 0).map V.ref))=H4 at s4 h4
 have plen:p.length=ir.length:=by have:=hp.length_eq;simpa using this
 have pnd:p.Nodup:=hp.nodup_iff.mpr List.nodup_range
 have pin:∀x∈p,x < ir.length:=λx hx=>List.mem_range.mp (hp.mem_iff.mp hx)
 let so:=p.map λi=>ir.getD i 0
 have hso:so=p.map λi=>ir.getD i 0:=rfl
 have sop:so.Perm ir:=by
  have:=hp.map (λi=>ir.getD i 0)
  rw[range_getD]at this
  exact this
 have sond:so.Nodup:=sop.nodup_iff.mpr ird
 have solen:so.length=ir.length:=sop.length_eq
 have sopw:so.Pairwise (λx y=>txt.cps.toList.getD x 0 < txt.cps.toList.getD y 0\/(txt.cps.toList.getD x 0=txt.cps.toList.getD y 0/\x < y)):=by
  rw[List.pairwise_iff_getElem]
  intro i j hi hj hij
  have r:A8 (KG txt (ir.getD (p.getD j 0) 0)) (KG txt (ir.getD (p.getD i 0) 0))=false:=hrise i j hij (by omega)
  have gi:so[i]=ir.getD (p.getD i 0) 0:=by
   simp only[so,List.getElem_map,List.getD_eq_getElem?_getD]
   rw[List.getElem?_eq_getElem (by omega:i < p.length)];rfl
  have gj:so[j]=ir.getD (p.getD j 0) 0:=by
   simp only[so,List.getElem_map,List.getD_eq_getElem?_getD]
   rw[List.getElem?_eq_getElem (by omega:j < p.length)];rfl
  rw[<-gi,<-gj]at r
  refine O7 (λe=>?_) r
  have:=(List.getElem_inj sond).mp e
  omega
 have s04:=g3.trans s4
 refine⟨(by show 1<=sizeLine;decide),λz hz=>?_⟩
 have s5:AG H4 (upd H4 z (.lst [.A3])):=(AG.refl H4).new hz
 have h5:upd H4 z (.lst [.A3]) z=some (.lst [.A3]):=AB
 generalize upd H4 z (.lst [.A3])=H5 at s5 h5
 have s05:=s04.trans s5
 refine⟨_,rfl,t,_,_,_,rfl,rfl,Ar.of (s05 _ _ ht),rfl,b,_,rfl,.inr (Ar.of (s05 _ _ hb)),z,_,_,rfl,rfl,h5,by omega,by rw[List.length_map];omega,?_,λr2 hr2=>?_⟩
 ·rw[List.length_map,List.length_singleton,Nat.one_mul]
  exact Nat.le_of_lt (AO (by omega))
 have eF:(List.replicate ((((ls.map V.bl).length:Nat):Int)).toNat [V.A3]).flatten=(List.range ls.length).map (C7 []):=by
  rw[List.length_map,Int.toNat_natCast]
  have:C7 []=λ_=>V.A3:=by funext x;simp[C7]
  rw[this]
  induction ls.length with
  |zero=>rfl
  |succ m ih=>
   rw[List.replicate_succ,List.flatten_cons,ih,List.range_succ,List.map_append]
   show V.A3::_=_
   have hr:∀m,V.A3::(List.range m).map (λ_=>V.A3)=(List.range m).map (λ_=>V.A3)++[V.A3]:=λm=>by
    rw[List.map_const',List.length_range,<-List.replicate_succ,List.replicate_succ']
   exact hr m
 rw[eF]
 have s6:AG H5 (upd H5 r2 (.lst ((List.range ls.length).map (C7 [])))):=(AG.refl H5).new hr2
 have h6:upd H5 r2 (.lst ((List.range ls.length).map (C7 []))) r2=some (.lst ((List.range ls.length).map (C7 (so.take 0)))):=by rw[AB,List.take_zero]
 generalize upd H5 r2 (.lst ((List.range ls.length).map (C7 [])))=H6 at s6 h6
 have f2:H r2=none:=s05.free hr2
 have s46:AG H4 H6:=s5.trans s6
 have h46:=s46 _ _ h4
 have rl:r2≠l:=λe=>by
  subst e
  have:=s5 _ _ h4
  rw[hr2]at this;cases this
 have xl:((p.map λi=>as.getD i 0).map V.ref).length=ir.length:=by rw[List.length_map,List.length_map,plen]
 refine⟨_,rfl,.lst l,rfl,⟨_,.inl h46⟩,?_⟩
 refine Em (xs:=(p.map λi=>as.getD i 0).map V.ref) (λj σ H'=>∃o3 o4:Option V,σ=[some (.ref t),some (.ref l),some (.ref r2),o3,o4]/\AG H H'/\H' l=some (.lst ((p.map λi=>as.getD i 0).map V.ref))/\(∀(i:Nat) (e:Addr),as[i]?=some e->H' e=some (.tup (KG txt (ir.getD i 0))))/\H' r2=some (.lst ((List.range ls.length).map (C7 (so.take j)))))
  ⟨none,none,rfl,s04.trans s46,h46,λi e h=>s46 _ _ (s4 _ _ (at' i e h)),h6⟩ (λj σ H' _ h=>by obtain⟨_,_,_,_,h,_⟩:=h;exact .inl h) ?_ ?_
 ·rintro j x σ H' pp hx ⟨o3,o4,rfl,s7,g7,ga,g8⟩ hpp
  rw[List.map_map,List.getElem?_map]at hx
  cases e1:p[j]? with
  |none=>rw[e1]at hx;cases hx
  |some pj=>
   rw[e1]at hx
   have ex:x=V.ref (as.getD pj 0):=(Option.some.inj hx).symm
   subst ex
   have jl:j < p.length:=(List.getElem?_eq_some_iff.mp e1).1
   have pjl:=pin pj (List.mem_of_getElem? e1)
   have gae:as[pj]?=some (as.getD pj 0):=by rw[List.getD_eq_getElem?_getD,List.getElem?_eq_getElem (by omega:pj < as.length)];rfl
   have esj:so[j]?=some (ir.getD pj 0):=by rw[hso,List.getElem?_map,e1];rfl
   have sjl:ir.getD pj 0 < ls.length:=irl _ (by rw[List.getD_eq_getElem?_getD,List.getElem?_eq_getElem pjl];exact List.getElem_mem pjl)
   refine⟨pp,_,rfl,Ar.of AB,rfl,_,_,rfl,_,_,rfl,rfl,?_⟩
   have s8:AG H' (upd H' pp (.tup [.int (j:Int),.ref (as.getD pj 0)])):=(AG.refl H').new hpp
   have g7':=s8 _ _ g7
   have g8':=s8 _ _ g8
   have ga':∀(i:Nat) (e:Addr),as[i]?=some e->upd H' pp (.tup [.int (j:Int),.ref (as.getD pj 0)]) e=some (.tup (KG txt (ir.getD i 0))):=λi e h=>s8 _ _ (ga i e h)
   have s78:=s7.trans s8
   show P4 _ _ _ _ _
   generalize upd H' pp (.tup [.int (j:Int),.ref (as.getD pj 0)])=H9 at s8 g7' g8' ga' s78
   refine⟨_,rfl,_,rfl,_,rfl,as.getD pj 0,_,_,_,rfl,rfl,Ar.of (ga' pj _ gae),rfl,r2,_,_,ir.getD pj 0,rfl,rfl,g8',?_,_,_,rfl,s78.write f2,?_,λi e h=>?_,?_⟩
   ·unfold Mj
    rw[List.length_map,List.length_range,if_pos (by omega),if_pos (by omega),Int.toNat_natCast]
   ·rw[AH (Ne.symm rl)];exact g7'
   ·have h1:=ga' i e h
    rw[AH (Bh h1 g8' (by intro z;cases z))];exact h1
   ·rw[AB,Qd sond esj sjl]
 ·rintro σ H' ⟨o3,o4,rfl,s7,g7,ga,g8⟩
  rw[xl,<-solen,List.take_length]at g8
  exact⟨_,rfl,q so r2 H' sop sopw s7 f2 g8⟩
end
end S28
namespace S28
open PySem L2 W7
section
variable {ups:List Int}{lab:Str}{ks:List Nat}
theorem RB (ok:Af ups lab.cps.toList)(fine:Jg ups lab):W27.Tr ups where
 pos:=ok.pos
 root:=ok.root
 up:=ok.up
 btw:=λi y z hy e iz zy=>by
  have y0:y≠0:=by omega
  have hi:(i:Int)∈JX ups y:=by
   rw[Dq ok hy,e,if_neg (by omega)];exact List.mem_cons_self
  have d:=GV ok fine.road hy hi (y - z) (by omega) (by omega)
  rw[show y - (y - z)=z by omega]at d
  have hz:z < ups.length:=by omega
  have up:=ok.up z (by omega) hz
  rw[Dq ok hz,if_neg (by omega)]at d
  rcases List.mem_cons.mp d with q|q
  ·omega
  ·have:=(IS ok ((ups.getD z 0).toNat+1) (ups.getD z 0).toNat (by omega) (by omega)).2 _ q
   omega
def kids (gs:List (Nat×Nat))(so:List Nat)(r:Nat):List Nat:=if r∈so then(List.range ((gs.getD (so.idxOf r) (0,0)).2 - (gs.getD (so.idxOf r) (0,0)).1)).map λi=>(gs.getD (so.idxOf r) (0,0)).1+i else[]
def ro (ks:List Nat)(y:Nat):Nat:=(Al ks).idxOf y
theorem Ht (ok:Af ups lab.cps.toList)(ko:A7 ups lab ks):(Al ks).Perm (List.range ups.length):=by
 obtain⟨m,hm⟩:∃m,ups.length=m+1:=⟨ups.length - 1,by have:=ok.pos;omega⟩
 have p:=ko.perm
 rw[hm,Nat.add_sub_cancel]at p
 rw[hm,List.range_succ_eq_map]
 exact(p.map (·+1)).cons 0
theorem B8 (ok:Af ups lab.cps.toList)(ko:A7 ups lab ks):(Al ks).length=ups.length:=by have:=(Ht ok ko).length_eq;simpa using this
theorem Ta (ok:Af ups lab.cps.toList)(ko:A7 ups lab ks){r:Nat}(h:r < ups.length):pl ks r=(Al ks)[r]'(by rw[B8 ok ko];exact h):=by
 unfold pl;rw[List.getD_eq_getElem?_getD,List.getElem?_eq_getElem (by rw[B8 ok ko];exact h)];rfl
theorem O8 (ok:Af ups lab.cps.toList)(ko:A7 ups lab ks){y:Nat}(h:y < ups.length):ro ks y < ups.length/\pl ks (ro ks y)=y:=by
 have m:y∈Al ks:=(Ht ok ko).mem_iff.mpr (List.mem_range.mpr h)
 have l:=List.idxOf_lt_length_of_mem m
 have l':ro ks y < ups.length:=by rw[<-B8 ok ko];exact l
 refine⟨l',?_⟩
 rw[Ta ok ko l']
 exact List.getElem_idxOf l
theorem RC (ok:Af ups lab.cps.toList)(ko:A7 ups lab ks){r:Nat}(h:r < ups.length):ro ks (pl ks r)=r:=by
 obtain⟨a,b⟩:=O8 ok ko (Dv ok ko h)
 exact O4 ok ko a h b
structure Ui (ups:List Int)(lab:Str)(ks:List Nat)(gs:List (Nat×Nat))(so:List Nat):Prop where
 gi:∃first,W29.GI (λr=>Az ups (pl ks r)) ups.length gs first
 perm:so.Perm (Qb ups ks ups.length)
 pw:so.Pairwise λr s=>ME ups lab (pl ks r) (pl ks s)
theorem Qe (ok:Af ups lab.cps.toList)(ko:A7 ups lab ks){gs:List (Nat×Nat)}{so:List Nat}(S:Ui ups lab ks gs so){r:Nat}(hr:r < ups.length):(∀l∈kids gs so r,l < ups.length)/\(kids gs so r).map (pl ks)=W27.EE ups (pl ks r):=by
 obtain⟨first,I⟩:=S.gi
 have R:=Ic ok ko
 have fn:=R.whole ok.pos I
 have fle:first<=ups.length:=by omega
 have mt:=GX ok ko I S.perm S.pw
 have ml:so.length=gs.length:=by have:=congrArg List.length mt;simpa using this
 by_cases hm:r∈so
 ·have jl:so.idxOf r < so.length:=List.idxOf_lt_length_of_mem hm
  have jg:so.idxOf r < gs.length:=by omega
  have eg:gs.getD (so.idxOf r) (0,0)=gs[so.idxOf r]:=by rw[List.getD_eq_getElem?_getD,List.getElem?_eq_getElem jg];rfl
  have ek:kids gs so r=(List.range (gs[so.idxOf r].2 - gs[so.idxOf r].1)).map λi=>gs[so.idxOf r].1+i:=by
   unfold kids;rw[if_pos hm,eg]
  have hp:par ups ks gs[so.idxOf r].1=pl ks r:=by
   have:=congrArg (λl:List Nat=>l[so.idxOf r]?) mt
   simp only[List.getElem?_map,List.getElem?_eq_getElem jl,List.getElem?_eq_getElem jg,Option.map_some,List.getElem_idxOf]at this
   exact(Option.some.inj this).symm
  have hg:gs[so.idxOf r]∈gs:=List.getElem_mem jg
  generalize gs[so.idxOf r]=g at ek hp hg
  obtain⟨g1,g2,g3,_⟩:=I.mem g hg
  have mk':∀l,l∈kids gs so r↔g.1<=l/\l < g.2:=λl=>by
   rw[ek,List.mem_map]
   constructor
   ·rintro⟨i,hi,rfl⟩
    have:=List.mem_range.mp hi;omega
   ·rintro⟨a,b⟩
    exact⟨l - g.1,List.mem_range.mpr (by omega),by omega⟩
  refine⟨λl hl=>by have:=(mk' l).mp hl;omega,?_⟩
  refine W29.Cd (κ:=(·<·)) Nat.lt_irrefl (λa b c=>Nat.lt_trans) _ _ ?_ (W27.C5 _ _) λy=>?_
  ·rw[List.pairwise_map,ek,List.pairwise_map]
   refine List.Pairwise.imp_of_mem (λ{a b} ha hb ab=>?_) List.pairwise_lt_range
   have ha':=List.mem_range.mp ha
   have hb':=List.mem_range.mp hb
   have ea:=(R.all I fle hg (show 1<=g.1+a by omega) (by omega)).mpr ⟨by omega,by omega⟩
   have eb:=(R.all I fle hg (show 1<=g.1+b by omega) (by omega)).mpr ⟨by omega,by omega⟩
   rcases R.ro (g.1+a) (g.1+b) (by omega) (by omega) (by omega)with z|⟨_,z⟩
   ·rw[ea,eb]at z;exact absurd z (R.irr _)
   ·exact z
  ·rw[List.mem_map,W27.Ca]
   constructor
   ·rintro⟨l,hl,rfl⟩
    have hl':=(mk' l).mp hl
    have el:=(R.all I fle hg (show 1<=l by omega) (by omega)).mpr hl'
    refine⟨Dv ok ko (by omega),?_⟩
    rw[Ez ok ko (by omega) (by omega),el,hp]
   ·rintro⟨hy,e⟩
    have yp:1<=y:=by
     rcases Nat.eq_zero_or_pos y with z|z
     ·subst z;have:=ok.root;omega
     ·exact z
    obtain⟨o,a,b,c⟩:=Fy ok ko yp hy
    refine⟨o,(mk' o).mpr ((R.all I fle hg a b).mp ?_),c⟩
    have:=Ez ok ko a b
    rw[c,e]at this
    rw[hp];omega
 ·have ek:kids gs so r=[]:=by unfold kids;rw[if_neg hm]
  rw[ek]
  refine⟨(λl h=>by cases h),?_⟩
  symm
  refine List.eq_nil_iff_forall_not_mem.mpr λy hy=>hm ?_
  obtain⟨hy,e⟩:=W27.Ca.mp hy
  refine S.perm.mem_iff.mpr ?_
  unfold Qb
  rw[List.mem_filter,List.mem_range]
  refine⟨hr,?_⟩
  rw[GW.mpr ⟨y,hy,e⟩];rfl
theorem O9 (ok:Af ups lab.cps.toList)(fine:Jg ups lab)(ko:A7 ups lab ks){gs:List (Nat×Nat)}{so:List Nat}(S:Ui ups lab ks gs so){lt:Nat->Nat}(hl:∀r,r < ups.length->lt r=lab.cps.toList.getD (pl ks r) 0):
 ∀i,i<=ups.length->W27.run (kids gs so) lt i=((W27.fr ups i).map (λy=>(ro ks y,ups.getD y 0)),ups.take i,lab.cps.toList.take i):=by
 refine W27.Oo (RB ok fine) (ro:=ro ks) ?_ (λi hi=>?_) (λi hi=>?_) ok.len.symm
 ·have:=RC ok ko ok.pos
  rw[DL]at this;exact this
 ·obtain⟨a,b⟩:=O8 ok ko hi
  obtain⟨k1,k2⟩:=Qe ok ko S a
  rw[b]at k2
  rw[<-k2,List.map_map]
  have:(kids gs so (ro ks i)).map (ro ks∘pl ks)=(kids gs so (ro ks i)).map id:=List.map_congr_left λl hl=>RC ok ko (k1 l hl)
  rw[this,List.map_id]
 ·obtain⟨a,b⟩:=O8 ok ko hi
  rw[hl _ a,b]
end
end S28
namespace S28
open PySem L2 W7
theorem PB:bootBuiltins "all"=some (.builtin "all"):=by decide+kernel
section
variable {P:Program}{w:World}{K:PySem.W.Frag}{mg:Str->Option Value}{base:Heap}{k:Nat}
def Ea (H:Hp)(r:Addr)(txt:Str)(ls lv:List Bool):Prop:=∃a b,H r=some (.tup [.str txt,.ref a,.ref b])/\H a=some (.tup (ls.map V.bl))/\H b=some (.tup (lv.map V.bl))
theorem Ea.same {H H':Hp}{r:Addr}{txt:Str}{ls lv:List Bool}(h:Ea H r txt ls lv)(s:AG H H'):Ea H' r txt ls lv:=by
 obtain⟨a,b,h1,h2,h3⟩:=h
 exact⟨a,b,s _ _ h1,s _ _ h2,s _ _ h3⟩
abbrev A9 (ls:List Bool):List (Nat×Nat):=(W29.Br (λi=>ls.getD i false) ls.length).1
end
end S28
namespace S28
open PySem L2 W7
section
variable {P:Program}{w:World}{K:PySem.W.Frag}{mg:Str->Option Value}{base:Heap}{k:Nat}
theorem Jp:∀(ss:List Str) (acc:Array Nat),(List.foldl (λacc (p:Str)=>acc++(Str.ofString "").cps++p.cps) acc ss).toList=acc.toList++(ss.map λz:Str=>z.cps.toList).flatten
 |[],acc=>by simp
 |x::r,acc=>by
  rw[List.foldl_cons,Jp r,Array.toList_append,Array.toList_append]
  have e:(Str.ofString "").cps.toList=[]:=rfl
  rw[e,List.append_nil,List.map_cons,List.flatten_cons,List.append_assoc]
theorem Jq (ss:List Str):(Txt.join (Str.ofString "") ss).cps.toList=(ss.map λz:Str=>z.cps.toList).flatten:=by
 cases ss with
 |nil=>rfl
 |cons x r=>
  have:=Jp r x.cps
  rw[List.map_cons,List.flatten_cons]
  exact this
theorem Qf (l:List Nat):Txt.join (Str.ofString "") (l.map λc=>(⟨#[c]⟩:Str))=mk l:=by
 apply Cu
 rw[Jq,Oq,List.map_map]
 induction l with
 |nil=>rfl
 |cons a l ih=>rw[List.map_cons,List.flatten_cons,ih];rfl
theorem PC (l:List Nat):((l.map λc=>(⟨#[c]⟩:Str)).map λx=>x.length).sum=l.length:=by
 induction l with
 |nil=>rfl
 |cons a l ih=>rw[List.map_cons,List.map_cons,List.sum_cons,ih,List.length_cons];show 1+_=_;omega
def MJ (p:Nat×Int):List V:=[.int ((p.1:Nat):Int),.int p.2]
def KL (H:Hp)(ws:List Addr)(ps:List (Nat×Int)):Prop:=ws.length=ps.length/\∀(i:Nat) (a:Addr) (p:Nat×Int),ws[i]?=some a->ps[i]?=some p->H a=some (.tup (MJ p))
theorem KL.same {H H':Hp}{ws:List Addr}{ps:List (Nat×Int)}(h:KL H ws ps)(s:∀b xs,H b=some (.tup xs)->H' b=some (.tup xs)):KL H' ws ps:=⟨h.1,λi a p e1 e2=>s _ _ (h.2 i a p e1 e2)⟩
theorem KL.app {H:Hp}{ws vs:List Addr}{ps qs:List (Nat×Int)}(h:KL H ws ps)(g:KL H vs qs):KL H (ws++vs) (ps++qs):=by
 refine⟨by simp[h.1,g.1],λi a p e1 e2=>?_⟩
 rcases Nat.lt_or_ge i ws.length with c|c
 ·rw[List.getElem?_append_left c]at e1
  rw[List.getElem?_append_left (by rw[<-h.1];exact c)]at e2
  exact h.2 i a p e1 e2
 ·rw[List.getElem?_append_right c]at e1
  rw[List.getElem?_append_right (by rw[<-h.1];exact c),<-h.1]at e2
  exact g.2 _ a p e1 e2
theorem KL.init {H:Hp}{ws:List Addr}{a:Addr}{ps:List (Nat×Int)}{p:Nat×Int}(h:KL H (ws++[a]) (ps++[p])):KL H ws ps/\H a=some (.tup (MJ p)):=by
 have l:ws.length=ps.length:=by have:=h.1;simpa using this
 refine⟨⟨l,λi b q e1 e2=>?_⟩,?_⟩
 ·have i1:=(List.getElem?_eq_some_iff.mp e1).1
  exact h.2 i b q (by rw[List.getElem?_append_left i1];exact e1) (by rw[List.getElem?_append_left (by omega)];exact e2)
 ·exact h.2 ws.length a p (by simp) (by rw[l];simp)
def Uj (H:Hp)(kn:Addr)(n:Nat)(kd:Nat->List Nat)(lt:Nat->Nat):Prop:=∃as:List Addr,H kn=some (.lst (as.map V.ref))/\as.length=n/\∀(r:Nat) (a:Addr),as[r]?=some a->∃c,H a=some (.tup [.str ⟨#[lt r]⟩,.ref c])/\H c=some (.tup (AY (kd r)))
def MK:Sp:=λvs H Q _=>∃(kn:Addr) (N n:Nat) (kd:Nat->List Nat) (lt:Nat->Nat) (us:List Int) (ls:List Nat) (st:Nat->List (Nat×Int)),vs=[.ref kn,.int 0]/\Uj H kn N kd lt/\us.length=n/\ls.length=n/\1<=n/\n<=60/\
 (∀i,i<=n->W27.run kd lt i=(st i,us.take i,ls.take i))/\(∀i,i < n->st i≠[])/\st n=[]/\(∀i,i<=n->(st i).length<=60)/\(∀i,i<=n->∀p∈st i,p.1 < N)/\(∀r,r < N->(kd r).length<=60)/\
 ∀(t u:Addr) (H':Hp),AG H H'->H' t=some (.tup [.ref u,.str (mk ls)])->H' u=some (.tup (us.map V.int))->Q (.ref t) H'
theorem PD (D:Df K mg "grown_tree" s_grown_tree)(B:CK mg):Bb P w K mg base "grown_tree" (k+1) ["knots","start"] MK:=by
 refine D.has BV (λ_ _ _ _ _ _ us hl=>match us,hl with|[_,_],_=>rfl) (λvs H Q E h=>by obtain⟨kn,N,n,kd,lt,us,ls,st,rfl,_⟩:=h;rfl) (λf cdv A outer s H vs Q E hr h=>?_)
 obtain⟨kn,N,n,kd,lt,us,ls,st,rfl,ka,ul,ll,n1,n60,run,sne,snil,sl,srow,kl,q⟩:=h
 refine⟨_,(AE (AN (i:=2) BV.nd rfl (by first|exact Or.inl rfl|exact Or.inr rfl) (Ai AD))
 (AE (AN (i:=3) BV.nd rfl (by first|exact Or.inl rfl|exact Or.inr rfl) (Ai AD))
 (AE (AN (i:=4) BV.nd rfl (by first|exact Or.inl rfl|exact Or.inr rfl) (Ai (AA (Ak (AA (pv 1) (AA (Iz F7 AF) AD))) AD)))
 (AE (F5 PassesOwn.never (Nk (pv 4) (λ_=>rfl))
 (AE (AN (i:=5) BV.nd rfl (by first|exact Or.inl rfl|exact Or.inr rfl) (Nw PySem.F.plainAttrs_list PySem.F.slot_list_pop PySem.F.type_list_pop Nz (pv 4)))
 (AE (AN (i:=6) BV.nd rfl (by first|exact Or.inl rfl|exact Or.inr rfl) (AR Ap (pv 0) (AR Aj (pv 5) AF (λ_ _=>rfl)) (λ_ _=>rfl)))
 (AE (AN (i:=7) BV.nd rfl (by first|exact Or.inl rfl|exact Or.inr rfl) (AM Ad rfl B.len Aw (AA (pv 2) AD)))
 (AE (B4 (Cp PySem.F.plainAttrs_list PySem.F.slot_list_append PySem.F.type_list_append BM (pv 2) (AA (AR Aj (pv 5) AF (λ_ _=>rfl)) AD)))
 (AE (B4 (Cp PySem.F.plainAttrs_list PySem.F.slot_list_append PySem.F.type_list_append BM (pv 3) (AA (AR Aj (pv 6) AF (λ_ _=>rfl)) AD)))
 (AL (B4 (Cp PySem.F.plainAttrs_list PySem.F.slot_list_extend PySem.F.type_list_extend Mk (pv 4) (AA (BL rfl (Hy (QX K (AR Aj (pv 6) AF (λ_ _=>rfl)) (Ac (Iz F7 AF)))) (NL:=["lower"]) (ix:=[7]) (GB (AJ s_grown_tree) DJ) (λcl C s₃ H₃ fp pins=>⟨(AQ (i:=0) (show List.Nodup (["lower","place"]:List Str)from by decide+kernel) rfl (by first|exact Or.inl rfl|exact Or.inr rfl)),A5,(Ak (AA (pv 0) (AA (pv 1) AD)))⟩)) AD))))))))))
 (AL (AV (Ak (AA (Ao BI rfl B.tuple_ BW (AA (pv 2) AD)) (AA (Cp PySem.F.plainAttrs_str PySem.F.slot_str_join PySem.F.type_str_join IM Bi (AA (pv 3) AD)) AD))))))))),?_⟩
 refine⟨Nat.zero_le _,λu hu=>?_⟩
 have s1:AG H (upd H u (.lst [])):=(AG.refl H).new hu
 have h1:upd H u (.lst []) u=some (.lst []):=AB
 generalize upd H u (.lst [])=H1 at s1 h1
 refine⟨Nat.zero_le _,λl hl=>?_⟩
 have nl:H l=none:=s1.free hl
 have ul':u≠l:=AI h1 hl
 have s2:AG H1 (upd H1 l (.lst [])):=(AG.refl H1).new hl
 have h2:upd H1 l (.lst []) l=some (.lst []):=AB
 generalize upd H1 l (.lst [])=H2 at s2 h2
 refine⟨_,rfl,_,rfl,(by show 2<=sizeLine;decide),λp0 hp0=>?_⟩
 generalize hg3:upd H2 p0 _=H3
 have s3:AG H2 H3:=by rw[<-hg3];exact(AG.refl H2).new hp0
 have h3:H3 p0=some (.tup [.int 0,.int (-1)]):=by rw[<-hg3];exact AB
 clear hg3
 refine⟨(by show 1<=sizeLine;decide),λwt hwt=>?_⟩
 have nw:H wt=none:=s1.free (s2.free (s3.free hwt))
 have uw:u≠wt:=AI (s3 _ _ (s2 _ _ h1)) hwt
 have lw:l≠wt:=AI (s3 _ _ h2) hwt
 have s4:AG H3 (upd H3 wt (.lst [.ref p0])):=(AG.refl H3).new hwt
 have h4:upd H3 wt (.lst [.ref p0]) wt=some (.lst ([p0].map V.ref)):=AB
 generalize upd H3 wt (.lst [.ref p0])=H4 at s4 h4
 have st0:st 0=[(0,-1)]:=by
  have:=run 0 (Nat.zero_le _)
  exact(congrArg Prod.fst this).symm
 dsimp only[Ee]
 have e:((((L2.start DJ [V.ref kn,V.int 0]).set 2 (some (V.ref u))).set 3 (some (V.ref l))).set 4 (some (V.ref wt)))=[some (.ref kn),some (.int 0),some (.ref u),some (.ref l),some (.ref wt),none,none,none]:=rfl
 rw[e]
 clear e
 refine F6 (λσ HX=>∃(i:Nat) (ws:List Addr) (o5 o6 o7:Option V),σ=[some (.ref kn),some (.int 0),some (.ref u),some (.ref l),some (.ref wt),o5,o6,o7]/\i<=n/\AG H HX/\HX u=some (.lst ((us.take i).map V.int))/\HX l=some (.lst (Co (ls.take i)))/\HX wt=some (.lst (ws.map V.ref))/\KL HX ws (st i).reverse)
  (λσ HX=>match HX u with|some (.lst xs)=>60 - xs.length|_=>0) ⟨0,[p0],none,none,none,rfl,Nat.zero_le _,((s1.trans s2).trans s3).trans s4,s4 _ _ (s3 _ _ (s2 _ _ h1)),s4 _ _ (s3 _ _ h2),h4,?_⟩ ?_ ?_
 ·rw[st0]
  refine⟨rfl,λi a p e1 e2=>?_⟩
  have i0:i=0:=by have:=(List.getElem?_eq_some_iff.mp e1).1;simp at this;exact this
  subst i0
  cases e1;cases e2
  exact s4 _ _ h3
 ·rintro σ HX ⟨i,ws,o5,o6,o7,rfl,hi,sX,hu',hl',hw',pw⟩
  refine⟨_,rfl,_,.inl ⟨_,Am.of hw',rfl⟩,CC (λc=>?_) (λc=>?_)⟩
  ·have wne:ws≠[]:=λe=>by rw[e]at c;cases c
   have lt':i < n:=by
    rcases Nat.eq_or_lt_of_le hi with e|e
    ·rw[e,snil]at pw;exact absurd (List.eq_nil_of_length_eq_zero pw.1) wne
    ·exact e
   obtain⟨⟨r,up⟩,rest,est⟩:∃p rest,st i=p::rest:=by
    cases e:st i with
    |nil=>exact absurd e (sne i lt')
    |cons p rest=>exact⟨p,rest,rfl⟩
   obtain⟨ws0,a0,rfl⟩:∃ws0 a0,ws=ws0++[a0]:=⟨ws.dropLast,ws.getLast wne,(List.dropLast_concat_getLast wne).symm⟩
   rw[est,List.reverse_cons]at pw
   obtain⟨pw0,ha0⟩:=pw.init
   have rn:r < N:=srow i hi (r,up) (by rw[est];exact List.mem_cons_self)
   have step:=run (i+1) lt'
   have stepE:W27.run kd lt (i+1)=((kd r).map (λl=>(l,((us.take i).length:Int)))++rest,us.take i++[up],ls.take i++[lt r]):=by
    show W27.step kd lt (W27.run kd lt i)=_
    rw[run i hi,est];rfl
   rw[stepE]at step
   have ei:(us.take i).length=i:=by rw[List.length_take];omega
   have ei2:(ls.take i).length=i:=by rw[List.length_take];omega
   have e1:st (i+1)=(kd r).map (λl=>(l,(i:Int)))++rest:=by have:=(congrArg Prod.fst step).symm;rw[ei]at this;exact this
   have e2:us.take (i+1)=us.take i++[up]:=(congrArg (λx=>x.2.1) step).symm
   have e3:ls.take (i+1)=ls.take i++[lt r]:=(congrArg (λx=>x.2.2) step).symm
   obtain⟨as,hkn,al,hat⟩:=ka
   have ra:as[r]?=some (as[r]'(by omega)):=List.getElem?_eq_getElem (by omega)
   obtain⟨cc,hk1,hk2⟩:=hat r _ ra
   generalize as[r]'(by omega)=ar at ra hk1
   have wl:ws0.length<=60:=by
    have:=pw0.1
    have:=sl i hi
    rw[est,List.length_cons]at this
    rw[List.length_reverse]at*
    omega
   have hw2:HX wt=some (.lst (ws0.map V.ref++[.ref a0])):=by rw[hw',List.map_append];rfl
   refine⟨_,rfl,.inl ⟨rfl,_,Am.of hw2⟩,wt,_,.ref a0,rfl,rfl,hw2,by simp,?_⟩
   rw[List.dropLast_concat]
   have t1:∀b xs,HX b=some (.tup xs)->upd HX wt (.lst (ws0.map V.ref)) b=some (.tup xs):=λb xs e=>by rw[AH (Bh e hw2 (by intro z;cases z))];exact e
   have b1:∀b,b≠wt->upd HX wt (.lst (ws0.map V.ref)) b=HX b:=λb nb=>AH nb
   have w1:upd HX wt (.lst (ws0.map V.ref)) wt=some (.lst (ws0.map V.ref)):=AB
   have sA:AG H (upd HX wt (.lst (ws0.map V.ref))):=sX.write nw
   generalize upd HX wt (.lst (ws0.map V.ref))=HA at t1 b1 w1 sA
   refine⟨_,rfl,_,rfl,a0,_,_,_,rfl,rfl,Ar.of (t1 _ _ ha0),rfl,kn,_,_,_,rfl,rfl,Am.of (sA _ _ hkn),A0 (j:=r) (by rw[List.getElem?_map,ra];rfl),?_⟩
   have huA:HA u=some (.lst ((us.take i).map V.int)):=(b1 u uw).trans hu'
   have hlA:HA l=some (.lst (Co (ls.take i))):=(b1 l lw).trans hl'
   refine⟨_,rfl,u,_,rfl,.inl (Am.of huA),?_⟩
   rw[List.length_map,ei]
   refine⟨_,rfl,.inl ⟨rfl,_,Am.of huA⟩,_,rfl,a0,_,_,_,rfl,rfl,Ar.of (t1 _ _ ha0),rfl,u,_,_,rfl,rfl,huA,by rw[List.length_map,ei];exact AO (by omega),?_⟩
   have t2:∀b xs,HA b=some (.tup xs)->upd HA u (.lst ((us.take i).map V.int++[.int up])) b=some (.tup xs):=λb xs e=>by rw[AH (Bh e huA (by intro z;cases z))];exact e
   have sB:AG H (upd HA u (.lst ((us.take i).map V.int++[.int up]))):=sA.write hu
   have u2:upd HA u (.lst ((us.take i).map V.int++[.int up])) u=some (.lst ((us.take (i+1)).map V.int)):=by rw[AB,e2,List.map_append];rfl
   have l2:upd HA u (.lst ((us.take i).map V.int++[.int up])) l=some (.lst (Co (ls.take i))):=by rw[AH (Ne.symm ul')];exact hlA
   have w2:upd HA u (.lst ((us.take i).map V.int++[.int up])) wt=some (.lst (ws0.map V.ref)):=by rw[AH (Ne.symm uw)];exact w1
   generalize upd HA u (.lst ((us.take i).map V.int++[.int up]))=HB at t2 sB u2 l2 w2
   refine⟨_,rfl,.inl ⟨rfl,_,Am.of l2⟩,_,rfl,ar,_,_,_,rfl,rfl,Ar.of (sB _ _ hk1),rfl,l,_,_,rfl,rfl,l2,by rw[Jd,ei2];exact AO (by omega),?_⟩
   have t3:∀b xs,HB b=some (.tup xs)->upd HB l (.lst (Co (ls.take i)++[.str ⟨#[lt r]⟩])) b=some (.tup xs):=λb xs e=>by rw[AH (Bh e l2 (by intro z;cases z))];exact e
   have sC:AG H (upd HB l (.lst (Co (ls.take i)++[.str ⟨#[lt r]⟩]))):=sB.write nl
   have u3:upd HB l (.lst (Co (ls.take i)++[.str ⟨#[lt r]⟩])) u=some (.lst ((us.take (i+1)).map V.int)):=by rw[AH ul'];exact u2
   have l3:upd HB l (.lst (Co (ls.take i)++[.str ⟨#[lt r]⟩])) l=some (.lst (Co (ls.take (i+1)))):=by rw[AB,e3];unfold Co;rw[List.map_append];rfl
   have w3:upd HB l (.lst (Co (ls.take i)++[.str ⟨#[lt r]⟩])) wt=some (.lst (ws0.map V.ref)):=by rw[AH (Ne.symm lw)];exact w2
   generalize upd HB l (.lst (Co (ls.take i)++[.str ⟨#[lt r]⟩]))=HC at t3 sC u3 l3 w3
   have pw3:KL HC ws0 rest.reverse:=pw0.same λb xs e=>t3 _ _ (t2 _ _ (t1 _ _ e))
   refine⟨_,rfl,.inl ⟨rfl,_,Am.of w3⟩,_,rfl,ar,_,_,_,rfl,rfl,Ar.of (sC _ _ hk1),rfl,_,rfl,_,rfl,cc,_,rfl,rfl,Ar.of (sC _ _ hk2),λrv hrv=>?_⟩
   have s4':AG HC (upd HC rv (.tup (AY (kd r)).reverse)):=(AG.refl HC).new hrv
   have h4':upd HC rv (.tup (AY (kd r)).reverse) rv=some (.tup (AY (kd r)).reverse):=AB
   generalize upd HC rv (.tup (AY (kd r)).reverse)=HD at s4' h4'
   refine⟨rv,rfl,⟨_,Ar.of h4'⟩,λacc hacc=>?_⟩
   have kl':=kl r rn
   have en:(AY (kd r)).reverse=AY (kd r).reverse:=by unfold AY;rw[List.map_reverse]
   rw[en]at h4'
   refine FP (xs:=AY (kd r).reverse) (by unfold AY;rw[List.length_map,List.length_reverse];omega) (λj ys HX=>HX acc=some (.lst ys)/\AG HD HX/\∃vs:List Addr,ys=vs.map V.ref/\KL HX vs (((kd r).reverse.take j).map λl=>(l,(i:Int))))
    (λj ys HX h=>Ar.of (h.2.1 _ _ h4')) (λj ys HX h=>⟨h.1,by obtain⟨vs,e,pv⟩:=h.2.2;rw[e,List.length_map,pv.1,List.length_map,List.length_take];omega⟩) ⟨AB,(AG.refl HD).new hacc,[],rfl,rfl,λi a p e=>by simp at e⟩ ?_ ?_
   rotate_left
   ·rintro j x ys HX hx ⟨g1,g2,vs,rfl,pv⟩
    unfold AY at hx
    rw[List.getElem?_map]at hx
    cases ex:(kd r).reverse[j]? with
    |none=>rw[ex]at hx;cases hx
    |some lo=>
     rw[ex]at hx
     cases hx
     refine⟨rfl,_,rfl,_,rfl,(by show 2<=sizeLine;decide),λe he=>?_⟩
     have ae:acc≠e:=AI g1 he
     refine⟨by rw[AH ae];exact g1,AB,(g2.new he).write hacc,vs++[e],by rw[List.map_append];rfl,?_⟩
     rw[List.take_succ,ex,List.map_append]
     have keep:∀b xs,HX b=some (.tup xs)->upd (upd HX e (.tup [.int ((lo:Nat):Int),.int (i:Int)])) acc (.lst (vs.map V.ref++[.ref e])) b=some (.tup xs):=λb xs eb=>by
      rw[AH (Bh eb g1 (by intro z;cases z)),AH (AI eb he)];exact eb
     refine(pv.same keep).app ⟨rfl,λi' a p e1 e2=>?_⟩
     have i0:i'=0:=by have:=(List.getElem?_eq_some_iff.mp e1).1;simp at this;exact this
     subst i0
     cases e1;cases e2
     rw[AH (Ne.symm ae)];exact AB
   rintro ys HE ⟨g1,g2,vs,rfl,pv⟩
   have sCE:=s4'.trans g2
   have w4:=sCE _ _ w3
   have vl:vs.length<=60:=by
    rw[pv.1,List.length_map,List.length_take,List.length_reverse]
    omega
   refine⟨wt,acc,_,_,rfl,rfl,w4,g1,by rw[List.length_map,List.length_map];exact Nat.le_of_lt (AO (by omega)),?_⟩
   have nacc:wt≠acc:=AI (s4' _ _ w3) hacc
   have full:((kd r).reverse.take (AY (kd r).reverse).length).map (λl=>(l,(i:Int)))=((kd r).map λl=>(l,(i:Int))).reverse:=by
    rw[<-List.map_reverse]
    congr 1
    unfold AY
    rw[List.length_map];exact List.take_length
   rw[full]at pv
   have keep:∀b xs,HE b=some (.tup xs)->upd HE wt (.lst (ws0.map V.ref++vs.map V.ref)) b=some (.tup xs):=λb xs eb=>by rw[AH (Bh eb w4 (by intro z;cases z))];exact eb
   refine⟨⟨i+1,ws0++vs,_,_,_,rfl,lt',(sC.trans sCE).write nw,?_,?_,?_,?_⟩,?_⟩
   ·rw[AH uw];exact sCE _ _ u3
   ·rw[AH lw];exact sCE _ _ l3
   ·rw[AB,List.map_append]
   ·rw[e1,List.reverse_append]
    exact((pw3.same λb xs e=>sCE _ _ e).app pv).same keep
   ·show(match upd HE wt (.lst (ws0.map V.ref++vs.map V.ref)) u with|some (.lst xs)=>60 - xs.length|_=>0) < (match HX u with|some (.lst xs)=>60 - xs.length|_=>0)
    rw[AH uw,sCE _ _ u3,hu']
    show 60 - ((us.take (i+1)).map V.int).length < 60 - ((us.take i).map V.int).length
    rw[List.length_map,List.length_map,List.length_take,List.length_take];omega
  ·have w0:ws=[]:=by
    cases ws with
    |nil=>rfl
    |cons a b=>exact absurd rfl c
   have en:i=n:=by
    rcases Nat.eq_or_lt_of_le hi with e|e
    ·exact e
    ·have:=pw.1
     rw[w0,List.length_reverse]at this
     exact absurd (List.eq_nil_of_length_eq_zero this.symm) (sne i e)
   subst en
   have eu:us.take i=us:=List.take_of_length_le (by omega)
   have el:ls.take i=ls:=List.take_of_length_le (by omega)
   rw[eu]at hu'
   rw[el]at hl'
   refine⟨_,rfl,u,_,rfl,.inl ⟨Am.of hu',λru hru=>?_⟩⟩
   have s5:AG HX (upd HX ru (.tup (us.map V.int))):=(AG.refl HX).new hru
   have h5:upd HX ru (.tup (us.map V.int)) ru=some (.tup (us.map V.int)):=AB
   generalize upd HX ru (.tup (us.map V.int))=HY at s5 h5
   have ho:Co ls=(ls.map λc=>(⟨#[c]⟩:Str)).map V.str:=by unfold Co;rw[List.map_map];rfl
   rw[ho]at hl'
   refine⟨rfl,_,rfl,_,l,_,rfl,rfl,Am.of (s5 _ _ hl'),?_,?_⟩
   ·rw[PC,List.length_map]
    show ls.length+ls.length*0<=_
    omega
   refine⟨(by show 2<=sizeLine;decide),λt ht=>?_⟩
   rw[Qf]
   exact q t ru _ ((sX.trans s5).new ht) AB (by rw[AH (AI h5 ht)];exact h5)
 ·intro σ HX Q1 Q2 hq h
  obtain⟨v,e,kk,tr,hh⟩:=h
  exact⟨v,e,kk,tr,hq _ _ hh⟩
end
end S28
namespace S28
open PySem L2 W7
theorem E4 (lab:Str)(ks:List Nat):(BK lab ks).cps.toList=(Al ks).map λj=>lab.cps.toList.getD j 0:=by
 unfold BK
 rw[Jq,List.map_map]
 have:∀l:List Nat,(l.map ((λz:Str=>z.cps.toList)∘Fq lab)).flatten=l.map λj=>lab.cps.toList.getD j 0:=λl=>by
  induction l with
  |nil=>rfl
  |cons a r ih=>rw[List.map_cons,List.flatten_cons,ih];rfl
 exact this _
theorem map_getD {α:Type}(f:Nat->α)(d:α){l:List Nat}{r:Nat}(h:r < l.length):(l.map f).getD r d=f (l.getD r 0):=by
 rw[List.getD_eq_getElem?_getD,List.getElem?_map,List.getElem?_eq_getElem h,List.getD_eq_getElem?_getD,List.getElem?_eq_getElem h];rfl
structure RO (ups:List Int)(lab:Str)(ks:List Nat)(txt:Str)(ls lv:List Bool):Prop where
 ok:Af ups lab.cps.toList
 fine:Jg ups lab
 ko:A7 ups lab ks
 txt:txt=BK lab ks
 ls:ls=(Al ks).map (Az ups)
 lv:lv=(Al ks).map λj:Nat=>BQ ups (j:Int)
section
variable {ups:List Int}{lab:Str}{ks:List Nat}{txt:Str}{ls lv:List Bool}
theorem RO.tl (h:RO ups lab ks txt ls lv):txt.cps.toList.length=ups.length:=by rw[h.txt,E4,List.length_map,B8 h.ok h.ko]
theorem RO.Py (h:RO ups lab ks txt ls lv):txt.length=ups.length:=by have:=h.tl;rw[<-this];simp[Str.length]
theorem RO.sl (h:RO ups lab ks txt ls lv):ls.length=ups.length:=by rw[h.ls,List.length_map,B8 h.ok h.ko]
theorem RO.vl (h:RO ups lab ks txt ls lv):lv.length=ups.length:=by rw[h.lv,List.length_map,B8 h.ok h.ko]
theorem RO.at' (h:RO ups lab ks txt ls lv){r:Nat}(hr:r < ups.length):txt.cps.toList.getD r 0=lab.cps.toList.getD (pl ks r) 0:=by
 rw[h.txt,E4];exact map_getD (λj=>lab.cps.toList.getD j 0) 0 (by rw[B8 h.ok h.ko];exact hr)
theorem RO.low (h:RO ups lab ks txt ls lv):∀c∈txt.cps.toList,Lw c:=λc hc=>by
 obtain⟨r,hr,e⟩:=List.getElem_of_mem hc
 have hr':r < ups.length:=by rw[<-h.tl];exact hr
 have:=h.at' hr'
 rw[List.getD_eq_getElem?_getD,List.getElem?_eq_getElem hr]at this
 have e2:c=lab.cps.toList.getD (pl ks r) 0:=by rw[<-e];exact this
 have pll:=Dv h.ok h.ko hr'
 have ll:lab.cps.toList.length=ups.length:=h.ok.len.symm
 rw[e2,List.getD_eq_getElem?_getD,List.getElem?_eq_getElem (by omega)]
 exact h.fine.low _ (List.getElem_mem _)
theorem RO.Br (h:RO ups lab ks txt ls lv):W29.Br (λi=>ls.getD i false) ls.length=W29.Br (λr=>Az ups (pl ks r)) ups.length:=by
 rw[h.sl]
 refine Hs _ λr hr=>?_
 rw[h.ls];exact map_getD (Az ups) false (by rw[B8 h.ok h.ko];exact hr)
theorem RO.Qb (h:RO ups lab ks txt ls lv):ff lv lv.length=Qb ups ks ups.length:=by
 rw[h.vl,h.lv]
 unfold ff S28.Qb
 refine List.filter_congr λr hr=>?_
 rw[map_getD (λj:Nat=>BQ ups (j:Int)) true (by rw[B8 h.ok h.ko];exact List.mem_range.mp hr)];rfl
abbrev Qg (txt:Str)(x y:Nat):Prop:=txt.cps.toList.getD x 0 < txt.cps.toList.getD y 0\/(txt.cps.toList.getD x 0=txt.cps.toList.getD y 0/\x < y)
theorem RO.Ut (h:RO ups lab ks txt ls lv){so:List Nat}(sop:so.Perm (ff lv lv.length))(spw:so.Pairwise (Qg txt)):Ui ups lab ks (A9 ls) so:=by
 rw[h.Qb]at sop
 have slt:∀x∈so,x < ups.length:=λx hx=>List.mem_range.mp (List.mem_filter.mp (sop.mem_iff.mp hx)).1
 refine⟨⟨(W29.Br (λr=>Az ups (pl ks r)) ups.length).2,?_⟩,sop,List.Pairwise.imp_of_mem (λ{x y} hx hy q=>?_) spw⟩
 ·show W29.GI _ _ (W29.Br (λi=>ls.getD i false) ls.length).1 _
  rw[h.Br]
  exact W29.Dp _ _
 ·unfold Qg at q
  rw[h.at' (slt x hx),h.at' (slt y hy)]at q
  exact O5 h.ok h.fine h.ko (slt x hx) (slt y hy) q
theorem RD (txt:Str){l:List Nat}(nd:l.Nodup):∃so:List Nat,so.Perm l/\so.Pairwise (Qg txt):=by
 let le:Nat->Nat->Bool:=λx y=>decide (txt.cps.toList.getD x 0 < txt.cps.toList.getD y 0\/(txt.cps.toList.getD x 0=txt.cps.toList.getD y 0/\x<=y))
 refine⟨l.mergeSort le,List.mergeSort_perm l le,?_⟩
 have p:(l.mergeSort le).Pairwise (λa b=>le a b=true):=List.pairwise_mergeSort (λa b c h1 h2=>by
  have a1:=of_decide_eq_true h1
  have a2:=of_decide_eq_true h2
  refine decide_eq_true ?_
  omega) (λa b=>by
  show(decide _||decide _)=true
  rw[Bool.or_eq_true,decide_eq_true_eq,decide_eq_true_eq]
  omega) l
 have nd2:(l.mergeSort le).Nodup:=(List.mergeSort_perm l le).nodup_iff.mpr nd
 have both:=List.pairwise_and_iff.mpr ⟨p,nd2⟩
 refine List.Pairwise.imp (λ{a b} ⟨h1,h2⟩=>?_) both
 have a1:=of_decide_eq_true h1
 unfold Qg
 have:a≠b:=h2
 omega
theorem GY (l:List Bool):∀n,n<=l.length->(l.take n).count false=(ff l n).length
 |0,_=>by simp[ff]
 |n+1,h=>by
  have e:l[n]?=some (l.getD n true):=by rw[List.getD_eq_getElem?_getD,List.getElem?_eq_getElem (by omega)];rfl
  rw[List.take_succ,List.count_append,GY l n (by omega),Fz,e]
  cases l.getD n true with
  |true=>simp
  |false=>simp
theorem RO.gl (h:RO ups lab ks txt ls lv):(A9 ls).length=lv.count false:=by
 obtain⟨so,sop,spw⟩:=RD txt (Dx lv lv.length)
 have S:=h.Ut sop spw
 obtain⟨first,I⟩:=S.gi
 have M:=GX h.ok h.ko I S.perm S.pw
 have l1:so.length=(A9 ls).length:=by have:=congrArg List.length M;simpa using this
 have c:=GY lv lv.length (Nat.le_refl _)
 rw[List.take_length]at c
 rw[c,<-l1,sop.length_eq]
theorem RO.run (h:RO ups lab ks txt ls lv){so:List Nat}(sop:so.Perm (ff lv lv.length))(spw:so.Pairwise (Qg txt)):∀i,i<=ups.length->W27.run (kids (A9 ls) so) (λr=>txt.cps.toList.getD r 0) i=((W27.fr ups i).map (λy=>(ro ks y,ups.getD y 0)),ups.take i,lab.cps.toList.take i):=
 O9 h.ok h.fine h.ko (h.Ut sop spw) λr hr=>h.at' hr
theorem RO.one {ups':List Int}{lab':Str}{ks':List Nat}(h:RO ups lab ks txt ls lv)(h':RO ups' lab' ks' txt ls lv):ups=ups'/\lab=lab':=by
 obtain⟨so,sop,spw⟩:=RD txt (Dx lv lv.length)
 have e:ups.length=ups'.length:=by rw[<-h.sl,<-h'.sl]
 have r1:=h.run sop spw ups.length (Nat.le_refl _)
 have r2:=h'.run sop spw ups.length (by omega)
 rw[r1]at r2
 have q1:=congrArg (λz=>z.2.1) r2
 have q2:=congrArg (λz=>z.2.2) r2
 have l1:lab.cps.toList.length=ups.length:=h.ok.len.symm
 have l2:lab'.cps.toList.length=ups'.length:=h'.ok.len.symm
 simp only[List.take_length]at q1 q2
 rw[e,List.take_length]at q1
 rw[List.take_of_length_le (by omega),List.take_of_length_le (by omega)]at q2
 exact⟨q1,Cu q2⟩
theorem RO.same {ks':List Nat}{txt':Str}{ls' lv':List Bool}(h:RO ups lab ks txt ls lv)(h':RO ups lab ks' txt' ls' lv'):txt=txt'/\ls=ls'/\lv=lv':=by
 have e:=h.ko.one h'.ko
 subst e
 exact⟨h.txt.trans h'.txt.symm,h.ls.trans h'.ls.symm,h.lv.trans h'.lv.symm⟩
end
end S28
namespace S28
open PySem L2 W7
theorem Jr:∀(N:Nat) (l:List Nat),l.Nodup->(∀x∈l,x < N)->l.length<=N
 |0,l,_,h=>by
  cases l with
  |nil=>exact Nat.le_refl _
  |cons a l=>exact absurd (h a List.mem_cons_self) (Nat.not_lt_zero _)
 |N+1,l,nd,h=>by
  have ih:=Jr N (l.erase N) (nd.erase N) λx hx=>by
   have:=(nd.mem_erase_iff).mp hx
   have:=h x this.2
   omega
  rw[List.length_erase]at ih
  split at ih<;>omega
theorem least {p:Nat->Prop}(dp:∀n,Decidable (p n)):∀n,p n->∃m,m<=n/\p m/\∀j,j < m->¬p j
 |0,h=>⟨0,Nat.le_refl _,h,λj hj=>absurd hj (Nat.not_lt_zero _)⟩
 |n+1,h=>by
  by_cases q:∃j,j<=n/\p j
  ·obtain⟨j,hj,pj⟩:=q
   have:∀k,k<=n->p k->∃m,m<=k/\p m/\∀j,j < m->¬p j:=λk hk pk=>by
    revert pk
    induction k using Nat.strongRecOn with
    |ind k ih=>
     intro pk
     by_cases z:∃i,i < k/\p i
     ·obtain⟨i,hi,pi⟩:=z
      obtain⟨m,a,b,c⟩:=ih i hi (by omega) pi
      exact⟨m,by omega,b,c⟩
     ·exact⟨k,Nat.le_refl _,pk,λj hj pj=>z ⟨j,hj,pj⟩⟩
   obtain⟨m,a,b,c⟩:=this j hj pj
   exact⟨m,by omega,b,c⟩
  ·exact⟨n+1,Nat.le_refl _,h,λj hj pj=>q ⟨j,by omega,pj⟩⟩
theorem GZ {us:List Int}(pos:0 < us.length)(root:us.getD 0 0=-1)(up:∀k,0 < k->k < us.length->0<=us.getD k 0/\us.getD k 0 < (k:Int))(v:Int){p:Int}(h0:0<=p)(h1:p < (us.length:Int)):∀n,Ah (us++[v]) n p=Ah us n p/\0<=Ah us n p/\Ah us n p < (us.length:Int)
 |0=>⟨rfl,h0,h1⟩
 |n+1=>by
  obtain⟨a,b,c⟩:=GZ pos root up v h0 h1 n
  have lt:(Ah us n p).toNat < us.length:=by omega
  have e:(us++[v]).getD (Ah us n p).toNat 0=us.getD (Ah us n p).toNat 0:=by rw[C6,if_pos lt]
  refine⟨?_,?_⟩
  ·show BF (us++[v]) (Ah (us++[v]) n p)=BF us (Ah us n p)
   rw[a];unfold BF;rw[e]
  ·show 0<=BF us (Ah us n p)/\BF us (Ah us n p) < (us.length:Int)
   unfold BF
   rcases Nat.eq_zero_or_pos (Ah us n p).toNat with z|z
   ·rw[z,root];exact⟨by decide,by show(0:Int) < _;omega⟩
   ·have:=up _ z lt
    split<;>omega
theorem Hu (us:List Int)(p:Int)(a:Nat):∀b,Ah us (a+b) p=Ah us b (Ah us a p)
 |0=>rfl
 |b+1=>by
  show BF us (Ah us (a+b) p)=BF us (Ah us b (Ah us a p))
  rw[Hu us p a b]
structure LS (kd:Nat->List Nat)(N:Nat):Prop where
 pos:1<=N
 low:∀r,∀y∈kd r,1<=y/\y < N
 nd:∀r,(kd r).Nodup
 dis:∀r r' y,y∈kd r->y∈kd r'->r=r'
def vs (kd:Nat->List Nat)(lt:Nat->Nat):Nat->List Nat
 |0=>[]
 |i+1=>vs kd lt i++((W27.run kd lt i).1.map Prod.fst).take 1
abbrev Rc (us:List Int)(u v:Int):Prop:=∃n,Ah us n u=v
structure RI (kd:Nat->List Nat)(lt:Nat->Nat)(N i:Nat)(st:List (Nat×Int))(us:List Int)(ls:List Nat)(vs:List Nat):Prop where
 ul:us.length=i
 ll:ls.length=i
 vl:vs.length=i
 nd:(vs++st.map Prod.fst).Nodup
 blw:∀y∈vs++st.map Prod.fst,y < N
 par:∀y∈vs++st.map Prod.fst,y=0\/∃r'∈vs,y∈kd r'
 gr:(i=0/\st=[(0,-1)]/\us=[])\/(1<=i/\Dt us/\(∀p∈st,0<=p.2/\p.2 < (i:Int))/\(((i:Int) - 1)::st.map Prod.snd).Pairwise (Rc us))
 lets:∀c∈ls,∃r,r < N/\c=lt r
theorem Qh {kd:Nat->List Nat}{lt:Nat->Nat}{N i:Nat}{r:Nat}{u:Int}{st:List (Nat×Int)}{us:List Int}{ls vs:List Nat}(K:LS kd N)(h:RI kd lt N i ((r,u)::st) us ls vs):
 RI kd lt N (i+1) ((kd r).map (λl=>(l,(us.length:Int)))++st) (us++[u]) (ls++[lt r]) (vs++[r]):=by
 have rin:r∈vs++((r,u)::st).map Prod.fst:=List.mem_append_right _ (List.mem_cons_self)
 have rlt:=h.blw r rin
 have nd:=h.nd
 have e1:((kd r).map (λl=>(l,(us.length:Int)))++st).map Prod.fst=kd r++st.map Prod.fst:=by
  rw[List.map_append,List.map_map]
  congr 1
  have:(Prod.fst∘λl:Nat=>(l,(us.length:Int)))=id:=rfl
  rw[this,List.map_id]
 have e2:((kd r).map (λl=>(l,(us.length:Int)))++st).map Prod.snd=(kd r).map (λ_=>(us.length:Int))++st.map Prod.snd:=by
  rw[List.map_append,List.map_map];rfl
 rw[List.map_cons]at nd
 have nd2:(vs++[r]++st.map Prod.fst).Nodup:=by rw[List.append_assoc];exact nd
 have old:∀y,y∈vs++[r]++st.map Prod.fst->y∈vs++((r,u)::st).map Prod.fst:=λy hy=>by
  rw[List.map_cons];rw[List.append_assoc]at hy;exact hy
 have rv:r∉vs:=λz=>by
  have:=List.nodup_append.mp nd
  exact this.2.2 r z r List.mem_cons_self rfl
 have kf:∀y∈kd r,y∉vs++[r]++st.map Prod.fst:=λy hy hm=>by
  rcases h.par y (old y hm)with z|⟨r',hr',hy'⟩
  ·have:=(K.low r y hy).1;omega
  ·have:=K.dis _ _ _ hy hy'
   subst this;exact rv hr'
 refine⟨by rw[List.length_append,h.ul];rfl,by rw[List.length_append,h.ll];rfl,by rw[List.length_append,h.vl];rfl,?_,?_,?_,?_,?_⟩
 ·rw[e1]
  have p:(vs++[r]++(kd r++st.map Prod.fst)).Perm (kd r++(vs++[r]++st.map Prod.fst)):=by
   rw[<-List.append_assoc,<-List.append_assoc]
   exact List.Perm.append_right _ List.perm_append_comm
  rw[p.nodup_iff,List.nodup_append]
  exact⟨K.nd r,nd2,λa ha b hb e=>kf a ha (by rw[e];exact hb)⟩
 ·intro y hy
  rw[e1]at hy
  rcases List.mem_append.mp hy with z|z
  ·exact h.blw y (old y (List.mem_append_left _ z))
  ·rcases List.mem_append.mp z with z|z
   ·exact(K.low r y z).2
   ·exact h.blw y (old y (List.mem_append_right _ z))
 ·intro y hy
  rw[e1]at hy
  have wid:∀{y},(y=0\/∃r'∈vs,y∈kd r')->(y=0\/∃r'∈vs++[r],y∈kd r'):=λ{y} q=>q.imp id λ⟨r',a,b⟩=>⟨r',List.mem_append_left _ a,b⟩
  rcases List.mem_append.mp hy with z|z
  ·exact wid (h.par y (old y (List.mem_append_left _ z)))
  ·rcases List.mem_append.mp z with z|z
   ·exact .inr ⟨r,List.mem_append_right _ (List.mem_singleton.mpr rfl),z⟩
   ·exact wid (h.par y (old y (List.mem_append_right _ z)))
 ·right
  refine⟨by omega,?_⟩
  rw[e2]
  have kk:∀p∈(kd r).map (λl=>(l,(us.length:Int))),p.2=(us.length:Int):=λp hp=>by
   obtain⟨l,_,rfl⟩:=List.mem_map.mp hp;rfl
  have ul:=h.ul
  rcases h.gr with⟨i0,es,eu⟩|⟨i1,g,bd,pw⟩
  ·cases es
   subst eu
   have i0':i=0:=i0
   refine⟨Dt.one,λp hp=>?_,?_⟩
   ·rw[List.append_nil]at hp
    have:=kk p hp
    rw[this]
    exact⟨by decide,by show((0:Nat):Int) < ((i+1:Nat):Int);omega⟩
   ·rw[List.map_nil,List.append_nil]
    refine List.pairwise_cons.mpr ⟨λv hv=>?_,?_⟩
    ·obtain⟨_,_,rfl⟩:=List.mem_map.mp hv
     exact⟨0,by show((i+1:Nat):Int) - 1=((0:Nat):Int);omega⟩
    ·rw[List.pairwise_map]
     exact List.Pairwise.imp (λ_=>⟨0,rfl⟩) (K.nd _)
  ·have ub:=bd (r,u) List.mem_cons_self
   rw[List.map_cons]at pw
   obtain⟨pw1,pw2⟩:=List.pairwise_cons.mp pw
   obtain⟨pw3,pw4⟩:=List.pairwise_cons.mp pw2
   have ci:=λ{p:Int}=>GZ (p:=p) g.pos g.root g.up u
   have g2:Dt (us++[u]):=g.snoc ub.1 (by omega) (by
    obtain⟨n,e⟩:=pw1 u List.mem_cons_self
    exact⟨n,by rw[ul];exact e⟩)
   have wid:∀{a b:Int},0<=a->a < (i:Int)->Rc us a b->Rc (us++[u]) a b:=λ{a b} a0 a1 ⟨n,e⟩=>⟨n,((ci a0 (by omega) n).1).trans e⟩
   have up1:Ah (us++[u]) 1 (i:Int)=u:=by
    show BF (us++[u]) (i:Int)=u
    have e:(us++[u]).getD i 0=u:=by rw[C6,if_neg (by omega),show i - us.length=0 by omega];rfl
    have u0:0<=u:=ub.1
    unfold BF
    rw[Int.toNat_natCast,e]
    split<;>omega
   refine⟨g2,λp hp=>?_,?_⟩
   ·rcases List.mem_append.mp hp with z|z
    ·have:=kk p z;omega
    ·have:=bd p (List.mem_cons_of_mem _ z);omega
   ·have rest:∀v∈st.map Prod.snd,Rc (us++[u]) (i:Int) v:=λv hv=>by
     obtain⟨n,e⟩:=wid ub.1 ub.2 (pw3 v hv)
     exact⟨1+n,by rw[Hu,up1];exact e⟩
    have ei:((i+1:Nat):Int) - 1=(i:Int):=by omega
    rw[ei,ul]
    refine List.pairwise_cons.mpr ⟨λv hv=>?_,List.pairwise_append.mpr ⟨?_,?_,λa ha v hv=>?_⟩⟩
    ·rcases List.mem_append.mp hv with z|z
     ·obtain⟨_,_,rfl⟩:=List.mem_map.mp z
      exact⟨0,rfl⟩
     ·exact rest v z
    ·rw[List.pairwise_map]
     exact List.Pairwise.imp (λ_=>⟨0,rfl⟩) (K.nd r)
    ·refine List.Pairwise.imp_of_mem (λ{a b} ha hb q=>?_) pw4
     obtain⟨p,hp,rfl⟩:=List.mem_map.mp ha
     have:=bd p (List.mem_cons_of_mem _ hp)
     exact wid this.1 this.2 q
    ·obtain⟨_,_,rfl⟩:=List.mem_map.mp ha
     exact rest v hv
 ·intro c hc
  rcases List.mem_append.mp hc with z|z
  ·exact h.lets c z
  ·rw[List.mem_singleton.mp z];exact⟨r,rlt,rfl⟩
theorem LU {kd:Nat->List Nat}{lt:Nat->Nat}{N:Nat}(K:LS kd N):∀i,(∀j,j < i->(W27.run kd lt j).1≠[])->RI kd lt N i (W27.run kd lt i).1 (W27.run kd lt i).2.1 (W27.run kd lt i).2.2 (vs kd lt i)
 |0,_=>⟨rfl,rfl,rfl,by show[0].Nodup;simp,λy hy=>by have:y=0:=List.mem_singleton.mp hy;have:=K.pos;omega,λy hy=>.inl (List.mem_singleton.mp hy),.inl ⟨rfl,rfl,rfl⟩,λc hc=>by cases hc⟩
 |i+1,h=>by
  have ih:=LU K i λj hj=>h j (by omega)
  have ne:=h i (Nat.lt_succ_self _)
  rcases hr:W27.run kd lt i with⟨st,us,ls⟩
  rw[hr]at ih ne
  have es:W27.run kd lt (i+1)=W27.step kd lt (st,us,ls):=by rw[<-hr];rfl
  have ev:vs kd lt (i+1)=vs kd lt i++(st.map Prod.fst).take 1:=by
   show vs kd lt i++((W27.run kd lt i).1.map Prod.fst).take 1=_
   rw[hr]
  cases st with
  |nil=>exact absurd rfl ne
  |cons p st=>
   obtain⟨r,u⟩:=p
   rw[es,ev]
   exact Qh K ih
theorem ML {kd:Nat->List Nat}{lt:Nat->Nat}{N:Nat}(K:LS kd N)(N60:N<=60)(hl:∀r,r < N->Lw (lt r)):∃(m:Nat) (us:List Int) (ls:List Nat),1<=m/\m<=N/\us.length=m/\ls.length=m/\Dt us/\(∀c∈ls,Lw c)/\
 (∀i,i<=m->W27.run kd lt i=((W27.run kd lt i).1,us.take i,ls.take i))/\(∀i,i < m->(W27.run kd lt i).1≠[])/\(W27.run kd lt m).1=[]/\(∀i,i<=m->(W27.run kd lt i).1.length<=60)/\(∀i,i<=m->∀p∈(W27.run kd lt i).1,p.1 < N):=by
 have some:∃j,j<=N/\(W27.run kd lt j).1=[]:=by
  by_cases q:∃j,j<=N/\(W27.run kd lt j).1=[]
  ·exact q
  ·have I:=LU (lt:=lt) K N λj hj e=>q ⟨j,by omega,e⟩
   have:=Jr N _ I.nd I.blw
   rw[List.length_append,I.vl,List.length_map]at this
   exact⟨N,Nat.le_refl _,List.eq_nil_of_length_eq_zero (by omega)⟩
 obtain⟨j,jN,ej⟩:=some
 obtain⟨m,mj,em,le⟩:=least (p:=λn=>(W27.run kd lt n).1=[]) (λn=>inferInstance) j ej
 have II:=λi (hi:i<=m)=>LU (lt:=lt) K i λk hk=>le k (by omega)
 have m1:1<=m:=by
  rcases Nat.eq_zero_or_pos m with z|z
  ·subst z;cases em
  ·exact z
 have Im:=II m (Nat.le_refl _)
 have pre:∀d i,i+d=m->(W27.run kd lt i).2.1=(W27.run kd lt m).2.1.take i/\(W27.run kd lt i).2.2=(W27.run kd lt m).2.2.take i:=λd=>by
  induction d with
  |zero=>
   intro i hi
   have:i=m:=by omega
   subst this
   exact⟨(List.take_of_length_le (by rw[Im.ul];exact Nat.le_refl _)).symm,(List.take_of_length_le (by rw[Im.ll];exact Nat.le_refl _)).symm⟩
  |succ d ih=>
   intro i hi
   obtain⟨a,b⟩:=ih (i+1) (by omega)
   have I:=II i (by omega)
   have ne:=le i (by omega)
   rcases hr:W27.run kd lt i with⟨st,us,ls⟩
   rw[hr]at I ne
   have es:W27.run kd lt (i+1)=W27.step kd lt (st,us,ls):=by rw[<-hr];rfl
   cases st with
   |nil=>exact absurd rfl ne
   |cons p st=>
    obtain⟨r,u⟩:=p
    rw[es]at a b
    have a':us++[u]=(W27.run kd lt m).2.1.take (i+1):=a
    have b':ls++[lt r]=(W27.run kd lt m).2.2.take (i+1):=b
    have ul:us.length=i:=I.ul
    have ll:ls.length=i:=I.ll
    constructor
    ·show us=_
     have:=congrArg (List.take i) a'
     rw[List.take_left' ul,List.take_take,Nat.min_eq_left (by omega)]at this
     exact this
    ·show ls=_
     have:=congrArg (List.take i) b'
     rw[List.take_left' ll,List.take_take,Nat.min_eq_left (by omega)]at this
     exact this
 have cap:∀i,i<=m->(W27.run kd lt i).1.length<=N:=λi hi=>by
  have I:=II i hi
  have:=Jr N _ I.nd I.blw
  rw[List.length_append,List.length_map]at this
  omega
 refine⟨m,(W27.run kd lt m).2.1,(W27.run kd lt m).2.2,m1,by omega,Im.ul,Im.ll,?_,λc hc=>?_,λi hi=>?_,λi hi=>le i hi,em,λi hi=>Nat.le_trans (cap i hi) N60,λi hi p hp=>?_⟩
 ·rcases Im.gr with⟨z,_⟩|⟨_,g,_⟩
  ·omega
  ·exact g
 ·obtain⟨r,hr,rfl⟩:=Im.lets c hc
  exact hl r hr
 ·obtain⟨a,b⟩:=pre (m - i) i (by omega)
  exact Prod.ext rfl (Prod.ext a b)
 ·exact(II i hi).blw p.1 (List.mem_append_right _ (List.mem_map.mpr ⟨p,hp,rfl⟩))
end S28
namespace S28
open PySem L2 W7
section
variable {P:Program}{w:World}{K:PySem.W.Frag}{mg:Str->Option Value}{base:Heap}{k:Nat}
def Ga (H:Hp)(cs:List Addr)(f:Nat->List Nat):Prop:=∀(i:Nat) (c:Addr),cs[i]?=some c->H c=some (.tup (AY (f i)))
theorem Ga.same {H H':Hp}{cs:List Addr}{f:Nat->List Nat}(h:Ga H cs f)(s:∀b xs,H b=some (.tup xs)->H' b=some (.tup xs)):Ga H' cs f:=λi c e=>s _ _ (h i c e)
theorem Ga.snoc {H:Hp}{cs:List Addr}{f:Nat->List Nat}{e:Addr}(h:Ga H cs f)(he:H e=some (.tup (AY (f cs.length)))):Ga H (cs++[e]) f:=λi c hc=>by
 rcases Nat.lt_or_ge i cs.length with z|z
 ·rw[List.getElem?_append_left z]at hc;exact h i c hc
 ·rw[List.getElem?_append_right z]at hc
  have q0:i - cs.length=0:=by
   rcases Nat.eq_zero_or_pos (i - cs.length)with y|y
   ·exact y
   ·rw[List.getElem?_eq_none (by simp;omega)]at hc;cases hc
  rw[q0]at hc
  have ee:e=c:=by simpa using hc
  subst ee
  have:i=cs.length:=by omega
  rw[this];exact he
def D9 (g:Nat×Nat):List Nat:=(List.range (g.2 - g.1)).map λi=>g.1+i
theorem R4 (g:Nat×Nat):My ((g.1:Nat):Int) (((g.2:Nat):Int) - ((g.1:Nat):Int)).toNat=AY (D9 g):=by
 unfold AY D9 My
 rw[List.map_map,show(((g.2:Nat):Int) - ((g.1:Nat):Int)).toNat=g.2 - g.1 by omega]
 refine List.map_congr_left λi _=>?_
 show V.int _=V.int _
 congr 1
theorem EA {gs:List (Nat×Nat)}{so:List Nat}{r:Nat}(h:r∈so):kids gs so r=D9 (gs.getD (so.idxOf r) (0,0)):=by unfold kids D9;rw[if_pos h]
theorem C8 {gs:List (Nat×Nat)}{so:List Nat}{r:Nat}(h:r∉so):kids gs so r=[]:=by unfold kids;rw[if_neg h]
theorem MM {g:Nat×Nat}{y:Nat}:y∈D9 g↔g.1<=y/\y < g.2:=by
 unfold D9
 rw[List.mem_map]
 constructor
 ·rintro⟨i,hi,rfl⟩
  have:=List.mem_range.mp hi;omega
 ·rintro⟨a,b⟩
  exact⟨y - g.1,List.mem_range.mpr (by omega),by omega⟩
theorem Qi {last:Nat->Bool}{n first:Nat}{gs:List (Nat×Nat)}{so:List Nat}(I:W29.GI last n gs first)(n1:1<=n)(sl:so.length=gs.length)(nd:so.Nodup):LS (kids gs so) n:=by
 have key:∀r y,y∈kids gs so r->r∈so/\∃h:so.idxOf r < gs.length,(gs[so.idxOf r]).1<=y/\y < (gs[so.idxOf r]).2:=λr y hy=>by
  by_cases hm:r∈so
  ·rw[EA hm]at hy
   have jl:so.idxOf r < gs.length:=by rw[<-sl];exact List.idxOf_lt_length_of_mem hm
   rw[List.getD_eq_getElem?_getD,List.getElem?_eq_getElem jl]at hy
   exact⟨hm,jl,MM.mp hy⟩
  ·rw[C8 hm]at hy;cases hy
 refine⟨n1,λr y hy=>?_,λr=>?_,λr r' y hy hy'=>?_⟩
 ·obtain⟨_,jl,a,b⟩:=key r y hy
  obtain⟨g1,g2,g3,_⟩:=I.mem _ (List.getElem_mem jl)
  have:=I.f2
  rcases I.f2 with z|z<;>omega
 ·by_cases hm:r∈so
  ·rw[EA hm]
   unfold D9
   exact List.Pairwise.map _ (λa b ab e=>ab (by omega)) List.nodup_range
  ·rw[C8 hm];exact List.nodup_nil
 ·obtain⟨m1,j1,a1,b1⟩:=key r y hy
  obtain⟨m2,j2,a2,b2⟩:=key r' y hy'
  have pw:=List.pairwise_iff_getElem.mp I.pw
  have e:so.idxOf r=so.idxOf r':=by
   rcases Nat.lt_trichotomy (so.idxOf r) (so.idxOf r')with z|z|z
   ·have:=pw _ _ j1 j2 z;omega
   ·exact z
   ·have:=pw _ _ j2 j1 z;omega
  have x1:=List.getElem_idxOf (List.idxOf_lt_length_of_mem m1)
  have x2:=List.getElem_idxOf (List.idxOf_lt_length_of_mem m2)
  rw[<-x1,<-x2]
  congr 1
def Gb (txt:Str)(ls lv:List Bool)(ups:List Int)(lab:Str):Prop:=∃so m,so.Perm (ff lv lv.length)/\so.Pairwise (Qg txt)/\m<=lv.length/\W27.run (kids (A9 ls) so) (λr=>txt.cps.toList.getD r 0) m=([],ups,lab.cps.toList)
theorem RO.by {ups ups':List Int}{lab lab' txt:Str}{ks:List Nat}{ls lv:List Bool}(R:RO ups lab ks txt ls lv)(h:Gb txt ls lv ups' lab'):ups'=ups/\lab'=lab:=by
 obtain⟨so,m,sop,spw,ml,run⟩:=h
 rw[R.vl]at ml
 have r1:=R.run sop spw m ml
 rw[run]at r1
 have em:m=ups.length:=by
  rcases Nat.eq_or_lt_of_le ml with z|z
  ·exact z
  ·obtain⟨F,e,_⟩:=W27.L4 (RB R.ok R.fine) z
   have:=congrArg Prod.fst r1
   rw[e]at this
   cases this
 subst em
 have q1:=congrArg (λz=>z.2.1) r1
 have q2:=congrArg (λz=>z.2.2) r1
 simp only[List.take_length]at q1 q2
 rw[List.take_of_length_le (by have:=R.ok.len;omega)]at q2
 exact⟨q1,Cu q2⟩
def PF:Sp:=λvs H Q _=>∃(r:Addr) (txt:Str) (ls lv:List Bool) (n:Nat),vs=[.ref r]/\Ea H r txt ls lv/\txt.length=n/\ls.length=n/\lv.length=n/\1<=n/\n<=60/\(∀c∈txt.cps.toList,Lw c)/\(A9 ls).length=lv.count false/\∀(t:Addr) (ups:List Int) (lab:Str) (H':Hp),AG H H'->BE H' t ups lab->Jg ups lab->Gb txt ls lv ups lab->Q (.ref t) H'
theorem R5 (D:Df K mg "tree_by" s_tree_by)(B:CK mg)(G_groups_of:Bb P w K mg base "groups_of" k ["rows"] FV)(G_group_numbers:Bb P w K mg base "group_numbers" k ["rows"] Jo)(G_grown_tree:Bb P w K mg base "grown_tree" k ["knots","start"] MK):Bb P w K mg base "tree_by" (k+1) ["rows"] PF:=by
 refine D.has EW (λ_ _ _ _ _ _=>Gy λ_=>rfl) (λvs H Q E h=>by obtain⟨r,txt,ls,lv,n,rfl,_⟩:=h;rfl) (λf cdv A outer s H vs Q E hr h=>?_)
 obtain⟨r,txt,ls,lv,n,rfl,⟨a,b,hr0,ha,hb⟩,Py,sl,vl,lpos,m60,low,form,q⟩:=h
 refine⟨_,(AE (AN (i:=1) EW.nd rfl (by first|exact Or.inl rfl|exact Or.inr rfl) (BL rfl (B5 (AK G_groups_of hr rfl (AA (pv 0) AD))) (NL:=["group"]) (ix:=[]) (GB (AJ s_tree_by) FR) (λcl C s₃ H₃ fp pins=>⟨(AQ (i:=0) (show List.Nodup (["group"]:List Str)from by decide+kernel) rfl (by first|exact Or.inl rfl|exact Or.inr rfl)),A5,(Ao (GO rfl) rfl B.tuple_ BW (AA (Lx rfl B.range (AA (AR (CL K) (pv 0) AF (λ_ _=>rfl)) (AA (AR (CL K) (pv 0) AF (λ_ _=>rfl)) AD))) AD))⟩)))
 (AE (IG (i:=2) EW.nd rfl (by first|exact Or.inl rfl|exact Or.inr rfl) rfl (B5 (AK G_group_numbers hr rfl (AA (pv 0) AD))) (NL:=["number"]) (ix:=[1]) (GB (AJ s_tree_by) FR) (λcl C s₃ H₃ fp pins=>⟨(AQ (i:=0) (show List.Nodup (["number","groups"]:List Str)from by decide+kernel) rfl (by first|exact Or.inl rfl|exact Or.inr rfl)),A5,(DU (Ab KY (pv 0) CT (AZ _)) (Ak AD) (AR (Eo K) (pv 1) (pv 0) (λ_ _=>rfl)))⟩))
 (AL (AV (AK G_grown_tree hr rfl (AA (Oi rfl rfl B.list_ rfl B.zip (AA (AR Aj (pv 0) AF (λ_ _=>rfl)) (AA (pv 2) AD))) (AA AF AD))))))),?_⟩
 first|(dsimp only[Bp,Cx.Ft];generalize hK:K=K';revert K' hK;refine Dn (Ae <|Ae <|λ_=>rfl) ?_)|skip
 have tl:txt.cps.toList.length=n:=by rw[<-Py];simp[Str.length]
 have GI:=W29.Dp (λi=>ls.getD i false) ls.length
 have fl:=GY lv lv.length (Nat.le_refl _)
 rw[List.take_length]at fl
 refine⟨_,rfl,r,a,b,txt,ls,rfl,hr0,ha,by omega,λas rg H1 s1 hf1 hrg pa=>?_⟩
 have hgl:(A9 ls).length<=60:=by
  have:=(W29.Dp (λi=>ls.getD i false) ls.length).len
  show(W29.Br (λi=>ls.getD i false) ls.length).1.length<=60
  omega
 have hgm:∀g∈A9 ls,g.1 < g.2/\g.2<=60:=λg hg=>by
  have I:=W29.Dp (λi=>ls.getD i false) ls.length
  obtain⟨g1,g2,g3,_⟩:=I.mem g hg
  have:=I.f2
  rcases I.f2 with z|z<;>omega
 have hby:∀ups lab,Gb txt ls lv ups lab↔∃so m,so.Perm (ff lv lv.length)/\so.Pairwise (Qg txt)/\m<=lv.length/\W27.run (kids (A9 ls) so) (λr=>txt.cps.toList.getD r 0) m=([],ups,lab.cps.toList):=λ_ _=>Iff.rfl
 have GI':W29.GI (λi=>ls.getD i false) ls.length (A9 ls) _:=GI
 clear GI
 have pa':D8 H1 as (A9 ls):=pa
 clear pa
 generalize A9 ls=gs at pa' hgl hgm hby GI' form
 refine⟨rg,rfl,⟨_,Am.of hrg⟩,λacc hacc=>?_⟩
 have al:as.length=gs.length:=pa'.1
 refine Bu (xs:=as.map V.ref) (by rw[List.length_map];omega) (λi ys HX=>HX acc=some (.lst ys)/\AG H1 HX/\∃cs:List Addr,ys=cs.map V.ref/\cs.length=i/\Ga HX cs λj=>D9 (gs.getD j (0,0)))
  (λi ys HX h=>Am.of (h.2.1 _ _ hrg)) (λi ys HX h=>⟨h.1,by obtain⟨cs,e,l,_⟩:=h.2.2;rw[e,List.length_map,l];exact Nat.le_refl _⟩) ⟨AB,(AG.refl H1).new hacc,[],rfl,rfl,λi c e=>by simp at e⟩ ?_ ?_
 rotate_left
 ·rintro i x ys HX hx ⟨g1,g2,cs,rfl,cl,tp⟩
  rw[List.getElem?_map]at hx
  cases ex:as[i]? with
  |none=>rw[ex]at hx;cases hx
  |some ai=>
   rw[ex]at hx
   cases hx
   have il:i < gs.length:=by have:=(List.getElem?_eq_some_iff.mp ex).1;omega
   have eg:gs[i]?=some (gs.getD i (0,0)):=by rw[List.getD_eq_getElem?_getD,List.getElem?_eq_getElem il];rfl
   have hai:=g2 _ _ (pa'.2 i ai _ ex eg)
   obtain⟨b1,b2⟩:=hgm (gs.getD i (0,0)) (List.mem_of_getElem? eg)
   refine⟨rfl,?_⟩
   refine⟨_,rfl,ai,_,_,_,rfl,rfl,Ar.of hai,rfl,_,rfl,ai,_,_,_,rfl,rfl,Ar.of hai,rfl,_,_,rfl,λrr hrr=>?_⟩
   have s3:AG HX (upd HX rr (.rng (((gs.getD i (0,0)).1:Nat):Int) (((gs.getD i (0,0)).2:Nat):Int))):=(AG.refl HX).new hrr
   have h3:upd HX rr (.rng (((gs.getD i (0,0)).1:Nat):Int) (((gs.getD i (0,0)).2:Nat):Int)) rr=some (.rng (((gs.getD i (0,0)).1:Nat):Int) (((gs.getD i (0,0)).2:Nat):Int)):=AB
   show∃r lo hi,_
   generalize upd HX rr (.rng (((gs.getD i (0,0)).1:Nat):Int) (((gs.getD i (0,0)).2:Nat):Int))=HY at s3 h3
   refine⟨rr,_,_,rfl,h3,⟨by omega,by omega,by omega,by omega⟩,by omega,λl hl=>?_⟩
   rw[R4]
   have g1':=s3 _ _ g1
   have ne:acc≠l:=AI g1' hl
   refine⟨by rw[AH ne];exact g1',AB,((g2.trans s3).new hl).write hacc,cs++[l],by rw[List.map_append];rfl,by simp[cl],?_⟩
   refine Ga.snoc (tp.same λb xs e=>?_) ?_
   ·have e':=s3 _ _ e
    rw[AH (Bh e' g1' (by intro z;cases z)),AH (AI e' hl)];exact e'
   ·rw[cl,AH (Ne.symm ne)];exact AB
 rintro ys H2 ⟨g1,s2,cs,rfl,cl,tp⟩
 rw[List.length_map,al]at cl
 have s02:=s1.trans s2
 refine⟨_,rfl,r,a,b,txt,lv,rfl,s02 _ _ hr0,s02 _ _ hb,by omega,by omega,λso rn H3 sop spw s3 hf3 hrn=>?_⟩
 have sol:so.length=gs.length:=by rw[sop.length_eq,form,fl]
 have KO:LS (kids gs so) n:=Qi GI' (by omega) sol (sop.nodup_iff.mpr (Dx _ _))|> λh=>by rw[sl]at h;exact h
 obtain⟨m,us,lb,m1,mN,usl,lbl,gr,lwl,run,rne,rnil,rlen,rrow⟩:=ML (lt:=λr=>txt.cps.toList.getD r 0) KO m60 (λr hr=>by
  show Lw (txt.cps.toList.getD r 0)
  rw[List.getD_eq_getElem?_getD,List.getElem?_eq_getElem (by omega)]
  exact low _ (List.getElem_mem _))
 have kdl:∀r,(kids gs so r).length<=60:=λr=>Nat.le_trans (Jr n _ (KO.nd r) λy hy=>(KO.low r y hy).2) m60
 rw[vl]at hrn
 have g3:=s3 _ _ g1
 have tp3:=tp.same λb xs e=>s3 _ _ e
 refine⟨rn,rfl,⟨_,Am.of hrn⟩,λac2 hac2=>?_⟩
 refine Bu (xs:=(List.range n).map (C7 so)) (by rw[List.length_map,List.length_range];omega) (λi ys HX=>HX ac2=some (.lst ys)/\AG H3 HX/\∃bs:List Addr,ys=bs.map V.ref/\bs.length=i/\Ga HX bs (kids gs so))
  (λi ys HX h=>Am.of (h.2.1 _ _ hrn)) (λi ys HX h=>⟨h.1,by obtain⟨cs,e,l,_⟩:=h.2.2;rw[e,List.length_map,l];exact Nat.le_refl _⟩) ⟨AB,(AG.refl H3).new hac2,[],rfl,rfl,λi c e=>by simp at e⟩ ?_ ?_
 rotate_left
 ·rintro i x ys HX hx ⟨k1,k2,bs,rfl,bl,tb⟩
  have il:i < n:=by have:=(List.getElem?_eq_some_iff.mp hx).1;simpa using this
  rw[List.getElem?_map,List.getElem?_range il]at hx
  have ex:x=C7 so i:=(Option.some.inj hx).symm
  refine⟨rfl,?_⟩
  by_cases hm:i∈so
  ·have jl:so.idxOf i < so.length:=List.idxOf_lt_length_of_mem hm
   have en:x=V.int ((so.idxOf i:Nat):Int):=by rw[ex];unfold C7;rw[if_pos hm]
   subst en
   have hc:cs[so.idxOf i]?=some (cs[so.idxOf i]'(by omega)):=List.getElem?_eq_getElem (by omega)
   generalize cs[so.idxOf i]'(by omega)=c at hc
   have hcat:=k2 _ _ (tp3 _ _ hc)
   refine⟨_,rfl,rfl,_,rfl,CC (λz=>by simp at z) (λ_=>?_)⟩
   refine⟨_,rfl,_,rfl,acc,_,_,_,rfl,rfl,Am.of (k2 _ _ g3),A0 (j:=so.idxOf i) (by rw[List.getElem?_map,hc];rfl),?_⟩
   refine⟨k1,AB,k2.write hac2,bs++[c],by rw[List.map_append];rfl,by simp[bl],?_⟩
   have keep:∀b xs,HX b=some (.tup xs)->upd HX ac2 (.lst (bs.map V.ref++[.ref c])) b=some (.tup xs):=λb xs e=>by
    rw[AH (Bh e k1 (by intro z;cases z))];exact e
   refine Ga.snoc (tb.same keep) (keep _ _ ?_)
   rw[bl,EA hm];exact hcat
  ·have en:x=V.A3:=by rw[ex];unfold C7;rw[if_neg hm]
   subst en
   refine⟨_,rfl,rfl,_,rfl,CC (λ_=>?_) (λz=>absurd rfl z)⟩
   refine⟨Nat.zero_le _,λe he=>?_⟩
   have ne:ac2≠e:=AI k1 he
   refine⟨by rw[AH ne];exact k1,AB,(k2.new he).write hac2,bs++[e],by rw[List.map_append];rfl,by simp[bl],?_⟩
   refine Ga.snoc (tb.same λb xs eb=>?_) ?_
   ·rw[AH (Bh eb k1 (by intro z;cases z)),AH (AI eb he)];exact eb
   ·rw[bl,C8 hm,AH (Ne.symm ne)];exact AB
 rintro ys H4 ⟨k1,s4,bs,rfl,bl,tb⟩
 rw[List.length_map,List.length_range]at bl
 have s04:=(s02.trans s3).trans s4
 have sg:(signs txt).length=n:=by simp only[signs,List.length_map];exact tl
 refine⟨_,rfl,r,_,_,_,rfl,rfl,Ar.of (s04 _ _ hr0),rfl,_,rfl,.str txt,.lst ac2,signs txt,bs.map V.ref,rfl,rfl,.inl k1,by rw[sg,List.length_map,bl],by omega,λzs H5 l nt zl hl4 hl5=>?_⟩
 have s5:=nt.same
 have s6:AG H5 (upd H5 l (.lst (zs.map V.ref))):=(AG.refl H5).new hl5
 have h6:upd H5 l (.lst (zs.map V.ref)) l=some (.lst (zs.map V.ref)):=AB
 generalize upd H5 l (.lst (zs.map V.ref))=H6 at s6 h6
 refine⟨l,n,m,kids gs so,(λr=>txt.cps.toList.getD r 0),us,lb,(λi=>(W27.run (kids gs so) (λr=>txt.cps.toList.getD r 0) i).1),rfl,⟨zs,h6,by rw[zl,sg],λi z hz=>?_⟩,usl,lbl,m1,by omega,run,rne,rnil,rlen,rrow,λr _=>kdl r,λt u H7 s7 ht hu=>?_⟩
 ·obtain⟨_,x,y,hx,hy,hz2⟩:=nt.2.2 i z hz
  have il:i < n:=by have:=(List.getElem?_eq_some_iff.mp hx).1;omega
  have hcx:txt.cps.toList[i]?=some (txt.cps.toList.getD i 0):=by rw[List.getD_eq_getElem?_getD,List.getElem?_eq_getElem (by omega)];rfl
  unfold signs at hx
  rw[List.getElem?_map,hcx]at hx
  have ex:V.str ⟨#[txt.cps.toList.getD i 0]⟩=x:=Option.some.inj hx
  rw[List.getElem?_map]at hy
  cases eb:bs[i]? with
  |none=>rw[eb]at hy;cases hy
  |some c=>
   rw[eb]at hy
   cases hy
   rw[<-ex]at hz2
   exact⟨c,s6 _ _ hz2,s6 _ _ (s5 _ _ (tb i c eb))⟩
 ·have rm:=run m (Nat.le_refl _)
  rw[rnil,List.take_of_length_le (by omega),List.take_of_length_le (by omega)]at rm
  exact q t us (mk lb) H7 (((s04.trans s5).trans s6).trans s7) ⟨u,ht,hu,IY gr (by omega) (by omega)⟩ ⟨lwl,gr.road⟩ ((hby us (mk lb)).mpr ⟨so,m,sop,spw,by omega,rm⟩)
theorem Ea.kt {lms:List Lm}{H H':Hp}{r:Addr}{txt:Str}{ls lv:List Bool}(h:Ea H r txt ls lv)(s:Kt lms H H'):Ea H' r txt ls lv:=by
 obtain⟨a,b,h1,h2,h3⟩:=h
 exact⟨a,b,s.tup h1,s.tup h2,s.tup h3⟩
theorem BE.kt {lms:List Lm}{H H':Hp}{t:Addr}{ups:List Int}{lab:Str}(h:BE H t ups lab)(s:Kt lms H H'):BE H' t ups lab:=by
 obtain⟨u,a,b,c⟩:=h
 exact⟨u,s.tup a,s.tup b,c⟩
theorem Qj (a b:Str):JB (.str a) (.str b)=decide (a=b):=by
 rw[Bool.eq_iff_iff];simp[JB]
def Dy (txt:Str)(ls lv:List Bool):Prop:=∃ups lab ks,RO ups lab ks txt ls lv
end
end S28
namespace S28
open PySem L2 W7
theorem PJ {ups:List Int}{p:Int}{m:Nat}{x:Nat}(h:x∈EE ups p m)(hx:∀y∈EE ups p m,y<=x):(EE ups p m).getLast?=some x:=B7 _ m x h hx
theorem PK {ups:List Int}{lab:List Nat}(ok:Af ups lab):∀y∈EE ups (ups.getD 0 0) ups.length,y=0:=λy hy=>by
 unfold EE at hy
 rw[List.mem_filter]at hy
 obtain⟨h1,h2⟩:=hy
 have h1':=List.mem_range.mp h1
 have h2':ups.getD y 0=ups.getD 0 0:=of_decide_eq_true h2
 rcases Nat.eq_zero_or_pos y with z|z
 ·exact z
 ·have:=ok.up y z h1'
  have:=ok.root
  omega
theorem PL {ups:List Int}{lab:List Nat}(ok:Af ups lab){j:Nat}(hj:j < ups.length){m:Int}(h1:m∈(EE ups (ups.getD j 0) ups.length).map (λi:Nat=>(i:Int)))(h2:∀x∈(EE ups (ups.getD j 0) ups.length).map (λi:Nat=>(i:Int)),x<=m):decide (V.int (j:Int)=V.int m)=Az ups j:=by
 obtain⟨x,hx,rfl⟩:=List.mem_map.mp h1
 have gl:=PJ hx λy hy=>by
  have:=h2 _ (List.mem_map.mpr ⟨y,hy,rfl⟩)
  omega
 have e1:decide (V.int (j:Int)=V.int (x:Int))=decide (x=j):=by
  rw[Bool.eq_iff_iff,decide_eq_true_eq,decide_eq_true_eq]
  constructor
  ·intro z;injection z with z;omega
  ·intro z;rw[z]
 rw[e1]
 unfold Az
 rw[gl]
 by_cases z:j=0
 ·subst z
  have x0:=PK ok x hx
  rw[x0];rfl
 ·rw[decide_eq_false z,Bool.false_or]
  rw[Bool.eq_iff_iff,decide_eq_true_eq,decide_eq_true_eq]
  exact⟨λw=>by rw[w],λw=>Option.some.inj w⟩
section
variable {P:Program}{w:World}{K:PySem.W.Frag}{mg:Str->Option Value}{base:Heap}{k:Nat}
def Js:Sp:=λvs H Q _=>∃(t:Addr) (ups:List Int) (lab:Str) (i:Int),vs=[.ref t,.int i]/\BE H t ups lab/\i < (ups.length:Int)/\Q (.str (mk (R ups lab.cps.toList i))) H
theorem NR (D:Df K mg "_law_word" s_law_word)(B:Blt mg):Bb P w K mg base "_law_word" (k+1) ["tree","place"] Js:=by
 refine D.has Ct (λ_ _ _ _ _ _=>Om λ_ _=>rfl) (λvs H Q E h=>by obtain⟨t,ups,lab,i,rfl,_⟩:=h;rfl) (λf cdv A outer s H vs Q E hr h=>?_)
 obtain⟨t,ups,lab,i,rfl,⟨u,ht,hu,ok⟩,hi,q⟩:=h
 refine⟨_,(AE (AN (i:=2) Ct.nd rfl (by first|exact Or.inl rfl|exact Or.inr rfl) Bi)
 (AE (F5 PassesOwn.never (Ab Sn (pv 1) AF (AZ _))
 (AE (AN (i:=2) Ct.nd rfl (by first|exact Or.inl rfl|exact Or.inr rfl) (AS BU (pv 2) (AR DD (AR Aj (pv 0) AF (λ_ _=>rfl)) (pv 1) (λ_ _=>rfl))))
 (AL (AN (i:=1) Ct.nd rfl (by first|exact Or.inl rfl|exact Or.inr rfl) (AR Aj (AR Aj (pv 0) AF (λ_ _=>rfl)) (pv 1) (λ_ _=>rfl))))))
 (AL (AV (pv 2))))),?_⟩
 first|(dsimp only[Bp,Cx.Ft];generalize hK:K=K';revert K' hK;refine Dn (Ae <|Ae <|λ_=>rfl) ?_)|skip
 have hm:=ok.most
 refine F6 (λσ H'=>H'=H/\∃(j:Int) (l:List Nat),σ=[some (.ref t),some (.int j),some (.str (mk l))]/\j < (ups.length:Int)/\l++R ups lab.cps.toList j=R ups lab.cps.toList i/\l.length+(j+1).toNat<=60)
  (λσ _=>match σ with|[_,some (.int j),_]=>(j+1).toNat|_=>0) ⟨rfl,i,[],rfl,hi,rfl,by simp;omega⟩ ?_ (λσ H Q Q' h ⟨v,e,i,j,e1,e2,k,e3,q⟩=>⟨v,e,i,j,e1,e2,k,e3,h _ _ q⟩)
 rintro σ H' ⟨rfl,j,l,rfl,hj,hl,hlen⟩
 refine⟨_,rfl,_,_,rfl,rfl,_,rfl,CC (λc=>?_) (λc=>?_)⟩
 ·have c':0<=j:=of_decide_eq_true c
  have hk:j.toNat < ups.length:=by omega
  have hk2:j.toNat < lab.cps.toList.length:=by rw[<-ok.len];exact hk
  have e1:DY lab.cps.toList j=some lab.cps.toList[j.toNat]:=by
   have e:=A0 (xs:=lab.cps.toList) (j:=j.toNat) (List.getElem?_eq_getElem hk2)
   rw[show((j.toNat:Nat):Int)=j by omega]at e
   exact e
  have e2:DY (ups.map V.int) j=some (.int ups[j.toNat]):=by
   have e:=A0 (xs:=ups.map V.int) (j:=j.toNat) (v:=.int ups[j.toNat]) (by rw[List.getElem?_map,List.getElem?_eq_getElem hk];rfl)
   rw[show((j.toNat:Nat):Int)=j by omega]at e
   exact e
  have g1:lab.cps.toList.getD j.toNat 0=lab.cps.toList[j.toNat]:=by rw[List.getD_eq_getElem?_getD,List.getElem?_eq_getElem hk2];rfl
  have g2:ups.getD j.toNat 0=ups[j.toNat]:=by rw[List.getD_eq_getElem?_getD,List.getElem?_eq_getElem hk];rfl
  have st:=Ry ok c' hj
  rw[g1,g2]at st
  have lt:ups[j.toNat] < j:=by
   rcases Nat.eq_zero_or_pos j.toNat with z|z
   ·have:=ok.root
    rw[<-z,g2]at this
    omega
   ·have:=ok.up j.toNat z hk
    rw[g2]at this
    omega
  have hlab:lab.length=ups.length:=by rw[ok.len];simp[Str.length]
  refine⟨_,rfl,_,rfl,t,_,_,_,rfl,rfl,Ar.of ht,rfl,_,rfl,_,_,_,rfl,rfl,by rw[hlab];exact Nat.le_of_lt (AO (by omega)),e1,_,_,rfl,rfl,?_,?_⟩
  ·rw[LO]
   have:(⟨#[lab.cps.toList[j.toNat]]⟩:Str).length=1:=rfl
   rw[this]
   exact Nat.le_of_lt (AO (by omega))
  ·refine⟨_,rfl,t,_,_,_,rfl,rfl,Ar.of ht,rfl,_,rfl,u,_,_,_,rfl,rfl,Ar.of hu,e2,?_⟩
   refine⟨⟨rfl,ups[j.toNat],l++[lab.cps.toList[j.toNat]],?_,by omega,?_,?_⟩,?_⟩
   ·have:mk l++(⟨#[lab.cps.toList[j.toNat]]⟩:Str)=mk (l++[lab.cps.toList[j.toNat]]):=by
     apply Cu;rw[app_list];rfl
    rw[this];rfl
   ·rw[List.append_assoc,<-hl,st];rfl
   ·simp only[List.length_append,List.length_singleton];omega
   ·show(ups[j.toNat]+1).toNat < (j+1).toNat
    omega
 ·have c':¬0<=j:=of_decide_eq_false (Bool.eq_false_iff.mpr c)
  have e:l=R ups lab.cps.toList i:=by
   rw[<-hl];unfold R;rw[if_pos (show j < 0 by omega),List.append_nil]
  refine⟨_,rfl,?_⟩
  rw[e]
  exact q
def Jt:Sp:=λvs H Q _=>∃(t:Addr) (ups:List Int) (lab:Str),vs=[.ref t]/\BE H t ups lab/\
 ∀(ks:List Nat) (r a b:Addr) (H':Hp),A7 ups lab ks->AG H H'->H' r=some (.tup [.str (BK lab ks),.ref a,.ref b])->
  H' a=some (.tup ((Al ks).map λj=>.bl (Az ups j)))->H' b=some (.tup ((Al ks).map λj:Nat=>.bl (BQ ups (j:Int))))->Q (.ref r) H'
theorem NS (D:Df K mg "_law_rows" s_law_rows)(B:CK mg)(G_law_word:Bb P w K mg base "_law_word" k ["tree","place"] Js):Bb P w K mg base "_law_rows" (k+1) ["tree"] Jt:=by
 refine D.has B2 (λ_ _ _ _ _ _=>Gy λ_=>rfl) (λvs H Q E h=>by obtain⟨t,ups,lab,rfl,_⟩:=h;rfl) (λf cdv A outer s H vs Q E hr h=>?_)
 obtain⟨t,ups,lab,rfl,tr,q⟩:=h
 refine⟨_,(AE (DC (pv 0) (Ce rfl (Ag (AQ (i:=1) B2.nd rfl (by first|exact Or.inl rfl|exact Or.inr rfl)) (Ag (AQ (i:=2) B2.nd rfl (by first|exact Or.inl rfl|exact Or.inr rfl)) Bv))))
 (AE (AN (i:=3) B2.nd rfl (by first|exact Or.inl rfl|exact Or.inr rfl) (BL rfl (B0 rfl B.range (AA (AM A4 rfl B.len Aw (AA (pv 2) AD)) AD)) (NL:=["place"]) (ix:=[0]) (GB (AJ s_law_rows) Bz) (λcl C s₃ H₃ fp pins=>⟨(AQ (i:=0) (show List.Nodup (["place","tree"]:List Str)from by decide+kernel) rfl (by first|exact Or.inl rfl|exact Or.inr rfl)),A5,(AK G_law_word hr rfl (AA (pv 1) (AA (pv 0) AD)))⟩)))
 (AE (AN (i:=4) B2.nd rfl (by first|exact Or.inl rfl|exact Or.inr rfl) (AS ER (Ai (AA AF AD)) (BL rfl (B5 (AM C4 rfl B.sorted FJ (AA (BL rfl (HL rfl B.range (AA AF (AA (AM A4 rfl B.len Aw (AA (pv 2) AD)) AD))) (NL:=["k"]) (ix:=[3,1]) (GB (AJ s_law_rows) Bz) (λcl C s₃ H₃ fp pins=>⟨(AQ (i:=0) (show List.Nodup (["k","words","ups"]:List Str)from by decide+kernel) rfl (by first|exact Or.inl rfl|exact Or.inr rfl)),A5,(Ak (AA (AR (Eo K) (pv 1) (AR (CL K) (pv 2) (pv 0) (λ_ _=>rfl)) (λ_ _=>rfl)) (AA (AR (CL K) (pv 2) (pv 0) (λ_ _=>rfl)) (AA (pv 0) AD))))⟩)) AD))) (NL:=["key"]) (ix:=[]) (GB (AJ s_law_rows) Bz) (λcl C s₃ H₃ fp pins=>⟨(AQ (i:=0) (show List.Nodup (["key"]:List Str)from by decide+kernel) rfl (by first|exact Or.inl rfl|exact Or.inr rfl)),A5,(AR (CL K) (pv 0) AF (λ_ _=>rfl))⟩))))
 (AE (AN (i:=5) B2.nd rfl (by first|exact Or.inl rfl|exact Or.inr rfl) (Ao BI rfl B.tuple_ BW (AA (OM rfl (B5 (pv 4)) (NL:=["k"]) (ix:=[1]) (UZ (AJ s_law_rows) Bz) (λcl C s₃ H₃ fp pins=>⟨(AQ (i:=0) (show List.Nodup (["k","ups"]:List Str)from by decide+kernel) rfl (by first|exact Or.inl rfl|exact Or.inr rfl)),A5,(Bd Cg (pv 0) (AM (Ko K rfl) rfl B.max IK (AA (BL rfl (B0 rfl B.range (AA (AM (EJ K) rfl B.len Aw (AA (pv 1) AD)) AD)) (NL:=["other"]) (ix:=[1,0]) (GB _ ["k","ups"] rfl rfl rfl (by decide+kernel) (by decide+kernel) (of_decide_eq_true rfl) (by decide+kernel)) (λcl C s₃ H₃ fp pins=>⟨(AQ (i:=0) (show List.Nodup (["other","ups","k"]:List Str)from by decide+kernel) rfl (by first|exact Or.inl rfl|exact Or.inr rfl)),(DZ (Ab Cg (AR (CL K) (pv 1) (pv 0) (λ_ _=>rfl)) (AR (CL K) (pv 1) (pv 2) (λ_ _=>rfl)) (AZ _))),(pv 0)⟩)) AD)) (AZ _))⟩)) AD)))
 (AL (AV (Ak (AA (Cp PySem.F.plainAttrs_str PySem.F.slot_str_join PySem.F.type_str_join IM Bi (AA (BL rfl (B5 (pv 4)) (NL:=["k"]) (ix:=[2]) (GB (AJ s_law_rows) Bz) (λcl C s₃ H₃ fp pins=>⟨(AQ (i:=0) (show List.Nodup (["k","labels"]:List Str)from by decide+kernel) rfl (by first|exact Or.inl rfl|exact Or.inr rfl)),A5,(AR DD (pv 1) (pv 0) (λ_ _=>rfl))⟩)) AD)) (AA (pv 5) (AA (Ao BI rfl B.tuple_ BW (AA (BL rfl (B5 (pv 4)) (NL:=["k"]) (ix:=[1]) (GB (AJ s_law_rows) Bz) (λcl C s₃ H₃ fp pins=>⟨(AQ (i:=0) (show List.Nodup (["k","ups"]:List Str)from by decide+kernel) rfl (by first|exact Or.inl rfl|exact Or.inr rfl)),A5,(Bd (Gr K) (pv 0) (pv 1) (by with_unfolding_all rfl))⟩)) AD)) AD)))))))))),?_⟩
 first|(dsimp only[Bp,Cx.Ft];generalize hK:K=K';revert K' hK;refine Dn (Ae <|Ae <|Ae <|Ae <|λ_=>rfl) ?_)|skip
 obtain⟨u,ht,hu,ok⟩:=id tr
 have m60:=ok.most
 have lpos:=ok.pos
 have ll:lab.length=ups.length:=by rw[ok.len];simp[Str.length]
 have lz:lab.length<=sizeLine:=Nat.le_of_lt (AO (by omega))
 refine⟨_,rfl,t,_,rfl,Ar.of ht,rfl,_,_,rfl,_,_,rfl,rfl,?_⟩
 refine⟨_,rfl,lab,rfl,lz,_,rfl,?_,?_,λacc hacc=>?_⟩
 ·omega
 ·omega
 have eN:((lab.length:Nat):Int).toNat=ups.length:=by omega
 refine Cr (((lab.length:Nat):Int).toNat) (by omega) (λj ys H'=>H' acc=some (.lst ys)/\ys=BY ups lab j/\AG H H')
  (λj ys H' h=>⟨h.1,by rw[h.2.1];simp[BY]⟩) ⟨AB,rfl,(AG.refl H).new hacc⟩ ?_ ?_
 rotate_left
 ·rintro j ys H3 hj ⟨g1,rfl,g3⟩
  refine⟨hj,?_⟩
  rw[eN]at hj
  rintro x H4 ⟨rfl,rfl⟩
  refine⟨rfl,?_⟩
  refine⟨_,rfl,_,rfl,t,ups,lab,0+(j:Int),rfl,tr.same g3,by omega,g1,AB,?_,g3.write hacc⟩
  have eR:R ups lab.cps.toList (0+(j:Int))=W ups lab.cps.toList j:=by
   unfold R
   rw[if_neg (by omega),Int.zero_add,Int.toNat_natCast]
  rw[eR]
  unfold BY
  rw[List.range_succ,List.map_append];rfl
 rintro ys H3 ⟨g1,rfl,g3⟩
 refine⟨Nat.le_refl _,?_⟩
 rw[eN]at g1
 refine⟨(by show 1<=sizeLine;decide),λz hz=>?_⟩
 have s5:AG H3 (upd H3 z (.lst [.int 0])):=(AG.refl H3).new hz
 have hz5:upd H3 z (.lst [.int 0]) z=some (.lst [.int 0]):=AB
 generalize upd H3 z (.lst [.int 0])=H6 at s5 hz5
 have s06:AG H H6:=g3.trans s5
 have hu6:=s06 _ _ hu
 refine⟨_,rfl,lab,rfl,lz,_,_,rfl,?_,λac2 hac2=>?_⟩
 ·omega
 have eM:(((lab.length:Nat):Int) - 1).toNat=ups.length - 1:=by omega
 refine Cr ((((lab.length:Nat):Int) - 1).toNat) (by omega) (λj ys H'=>H' ac2=some (.lst ys)/\AG H6 H'/\∃as:List Addr,ys=as.map V.ref/\as.length=j/\∀i b,as[i]?=some b->H' b=some (.tup (Kl ups lab i)))
  (λj ys H' h=>⟨h.1,by obtain⟨as,e,l,_⟩:=h.2.2;rw[e,List.length_map,l];exact Nat.le_refl _⟩) ⟨AB,(AG.refl H6).new hac2,[],rfl,rfl,λi b e=>by simp at e⟩ ?_ ?_
 rotate_left
 ·rintro j ys H4 hj ⟨g4,g5,as,rfl,al,at'⟩
  refine⟨hj,?_⟩
  rw[eM]at hj
  rintro x H5 ⟨rfl,rfl⟩
  refine⟨rfl,?_⟩
  have hu4:=g5 _ _ hu6
  have e1:(1+(j:Int)).toNat=j+1:=by omega
  obtain⟨ul1,ul2⟩:=Jk ok hj
  have ea:DY (ups.map V.int) (1+(j:Int))=some (.int ((Ho ups j:Nat):Int)):=by
   rw[DK (us:=ups) (i:=1+(j:Int)) (by omega) (by omega),e1,ul2]
  refine⟨_,rfl,_,rfl,_,rfl,u,_,_,_,rfl,rfl,Ar.of hu4,ea,acc,_,_,_,rfl,rfl,Am.of (g5 _ _ (s5 _ _ g1)),Hm ul1,_,rfl,_,rfl,u,_,_,_,rfl,rfl,Ar.of hu4,ea,_,rfl,(by show 3<=sizeLine;decide),λe he=>?_⟩
  have ae:ac2≠e:=AI g4 he
  refine⟨by rw[AH ae];exact g4,AB,(g5.new he).write hac2,as++[e],by rw[List.map_append];rfl,by simp[al],λi b hb=>?_⟩
  rcases Nat.lt_or_ge i as.length with z|z
  ·rw[List.getElem?_append_left z]at hb
   have h1:=at' i b hb
   rw[AH (Bh h1 g4 (by intro z;cases z)),AH (AI h1 he)];exact h1
  ·rw[List.getElem?_append_right z]at hb
   have q0:i - as.length=0:=by
    rcases Nat.eq_zero_or_pos (i - as.length)with y|y
    ·exact y
    ·rw[List.getElem?_eq_none (by simp;omega)]at hb;cases hb
   rw[q0]at hb
   have eb:e=b:=by simpa using hb
   subst eb
   have ei:i=j:=by omega
   subst ei
   rw[AH (Ne.symm ae),AB]
   rfl
 rintro ys H4 ⟨g4,g5,as,rfl,al,at'⟩
 refine⟨Nat.le_refl _,?_⟩
 rw[eM]at al
 refine⟨ac2,as,Kl ups lab,[2,1,1],rfl,Am.of g4,by omega,λi b hb=>Ar.of (at' i b hb),Ia _ _ _,λpo r2 hpo hrise hr2=>?_⟩
 rw[al]at hpo hrise
 have oo:A7 ups lab po:=⟨hpo,hrise⟩
 have ol:=oo.len
 have s4:AG H4 (upd H4 r2 (.lst ((po.map λi=>as.getD i 0).map V.ref))):=(AG.refl H4).new hr2
 have h22:upd H4 r2 (.lst ((po.map λi=>as.getD i 0).map V.ref)) r2=some (.lst ((po.map λi=>as.getD i 0).map V.ref)):=AB
 generalize upd H4 r2 (.lst ((po.map λi=>as.getD i 0).map V.ref))=H5 at s4 h22
 refine⟨r2,rfl,⟨_,Am.of h22⟩,λr3 hr3=>?_⟩
 have xl:((po.map λi=>as.getD i 0).map V.ref).length=ups.length - 1:=by rw[List.length_map,List.length_map,ol]
 refine Bu (xs:=(po.map λi=>as.getD i 0).map V.ref) (by omega) (λj ys H'=>H' r3=some (.lst ys)/\ys=((po.take j).map λi:Nat=>1+(i:Int)).map V.int/\AG H5 H')
  (λj ys H' h=>Am.of (h.2.2 _ _ h22)) (λj ys H' h=>⟨h.1,by rw[h.2.1,List.length_map,List.length_map,List.length_take];exact Nat.min_le_left _ _⟩) ⟨AB,rfl,(AG.refl H5).new hr3⟩ ?_ ?_
 rotate_left
 ·rintro j x ys H7 hx ⟨g7,rfl,g8⟩
  rw[List.map_map,List.getElem?_map]at hx
  cases e1:po[j]? with
  |none=>rw[e1]at hx;cases hx
  |some pj=>
   rw[e1]at hx
   cases hx
   have pjl:pj < as.length:=by rw[al];exact List.mem_range.mp (hpo.mem_iff.mp (List.mem_of_getElem? e1))
   have ga:as[pj]?=some (as.getD pj 0):=by rw[List.getD_eq_getElem?_getD,List.getElem?_eq_getElem pjl];rfl
   have hb:=g8 _ _ (s4 _ _ (at' pj _ ga))
   refine⟨rfl,?_⟩
   refine⟨_,rfl,as.getD pj 0,_,_,_,rfl,rfl,Ar.of hb,rfl,g7,AB,?_,g8.write hr3⟩
   rw[List.take_succ,e1]
   simp
 rintro ys H7 ⟨g7,rfl,g8⟩
 rw[xl,<-ol,List.take_length]at g7
 refine⟨z,r3,_,_,rfl,rfl,g8 _ _ (s4 _ _ (g5 _ _ hz5)),g7,?_,λr4 hr4=>?_⟩
 ·simp only[List.length_map,List.length_cons,List.length_nil]
  exact Nat.le_of_lt (AO (by omega))
 have s8:AG H7 (upd H7 r4 (.lst ([V.int 0]++(po.map λi:Nat=>1+(i:Int)).map V.int))):=(AG.refl H7).new hr4
 have h44:upd H7 r4 (.lst ([V.int 0]++(po.map λi:Nat=>1+(i:Int)).map V.int)) r4=some (.lst ((Hq po).map V.int)):=AB
 generalize upd H7 r4 (.lst ([V.int 0]++(po.map λi:Nat=>1+(i:Int)).map V.int))=H8 at s8 h44
 have s08:AG H H8:=(((s06.trans g5).trans s4).trans g8).trans s8
 have ek:(Hq po).map V.int=AY (Al po):=by
  rw[AY,Hq,Al,List.map_cons,List.map_cons,List.map_map,List.map_map]
  congr 1
  refine List.map_congr_left λi _=>?_
  show V.int (1+(i:Int))=V.int ((i+1:Nat):Int)
  congr 1;omega
 rw[ek]at h44
 have kn:(Al po).length=ups.length:=by simp only[Al,List.length_cons,List.length_map];omega
 have kin:∀j∈Al po,j < ups.length:=λj hj=>by
  rcases List.mem_cons.mp hj with z|z
  ·omega
  ·obtain⟨i,hi,rfl⟩:=List.mem_map.mp z
   have:=List.mem_range.mp (oo.perm.mem_iff.mp hi)
   omega
 have q':=λ(r a b:Addr) (H':Hp)=>q po r a b H' oo
 unfold BK at q'
 generalize Al po=ns at kn kin h44 q'
 have nl:(AY ns).length=ups.length:=by rw[AY,List.length_map,kn]
 have nget:∀{i:Nat} {x:V},(AY ns)[i]?=some x->∃j,ns[i]?=some j/\j < ups.length/\x=.int (j:Int):=λ{i x} hx=>by
  rw[AY,List.getElem?_map]at hx
  cases e1:ns[i]? with
  |none=>rw[e1]at hx;cases hx
  |some j=>rw[e1]at hx;cases hx;exact⟨j,rfl,kin j (List.mem_of_getElem? e1),rfl⟩
 have hu8:=s08 _ _ hu
 have la:lab.cps.toList.length=ups.length:=ok.len.symm
 refine⟨_,rfl,r4,rfl,⟨_,Am.of h44⟩,λac5 hac5=>?_⟩
 refine Bu (xs:=AY ns) (by omega) (λi ys H9=>H9 ac5=some (.lst ys)/\ys=(ns.take i).map (λj=>V.bl (Az ups j))/\AG H8 H9)
  (λi ys H9 h=>Am.of (h.2.2 _ _ h44)) (λi ys H9 h=>⟨h.1,by rw[h.2.1,List.length_map,List.length_take];exact Nat.min_le_left _ _⟩) ⟨AB,rfl,(AG.refl H8).new hac5⟩ ?_ ?_
 rotate_left
 ·rintro i x ys H9 hx ⟨g9,rfl,gA⟩
  obtain⟨j,e1,jl,rfl⟩:=nget hx
  refine⟨rfl,?_⟩
  have hu9:=gA _ _ hu8
  refine⟨_,rfl,_,rfl,u,_,rfl,.inr (Ar.of hu9),_,rfl,?_,?_,λac6 hac6=>?_⟩
  ·omega
  ·rw[List.length_map];omega
  have eU:(((ups.map V.int).length:Nat):Int).toNat=ups.length:=by rw[List.length_map];omega
  have ej:DY (ups.map V.int) (j:Int)=some (.int (ups.getD j 0)):=by
   have:=DK (us:=ups) (i:=(j:Int)) (by omega) (by omega)
   rw[Int.toNat_natCast]at this;exact this
  refine Cr ((((ups.map V.int).length:Nat):Int).toNat) (by omega) (λm ys' HB=>HB ac6=some (.lst ys')/\ys'=((EE ups (ups.getD j 0) m).map λi:Nat=>(i:Int)).map V.int/\AG H9 HB)
   (λm ys' HB h=>⟨h.1,by rw[h.2.1,List.length_map,List.length_map];exact Oy _ _ _⟩) ⟨AB,rfl,(AG.refl H9).new hac6⟩ ?_ ?_
  rotate_left
  ·rintro m ys' HB hm ⟨b1,rfl,b3⟩
   refine⟨hm,?_⟩
   rw[eU]at hm
   rintro x HC ⟨rfl,rfl⟩
   refine⟨rfl,?_⟩
   have huB:=b3 _ _ hu9
   have em:DY (ups.map V.int) (0+(m:Int))=some (.int (ups.getD m 0)):=by
    have:=DK (us:=ups) (i:=(m:Int)) (by omega) (by omega)
    rw[Int.toNat_natCast]at this
    rw[Int.zero_add];exact this
   refine⟨_,rfl,_,rfl,u,_,_,_,rfl,rfl,Ar.of huB,em,_,rfl,_,rfl,u,_,_,_,rfl,rfl,Ar.of huB,ej,rfl,_,rfl,CC (λcnd=>?_) (λcnd=>?_)⟩
   ·have ec:ups.getD m 0=ups.getD j 0:=by
     have:=of_decide_eq_true cnd
     injection this
    refine⟨_,rfl,b1,AB,?_,b3.write hac6⟩
    rw[Ey,if_pos ec,List.map_append,List.map_append,Int.zero_add];rfl
   ·have ec:ups.getD m 0≠ups.getD j 0:=λz=>cnd (by rw[z];exact decide_eq_true rfl)
    exact⟨b1,by rw[Ey,if_neg ec],b3⟩
  rintro ys' HB ⟨b1,rfl,b3⟩
  refine⟨Nat.le_refl _,?_⟩
  rw[eU]at b1
  have hjm:(j:Int)∈(EE ups (ups.getD j 0) ups.length).map (λi:Nat=>(i:Int)):=List.mem_map.mpr ⟨j,by
   unfold EE
   rw[List.mem_filter]
   exact⟨List.mem_range.mpr jl,decide_eq_true rfl⟩,rfl⟩
  refine⟨ac6,_,rfl,Am.of b1,(λe=>by rw[e]at hjm;cases hjm),λm hm hmax=>?_⟩
  refine⟨rfl,?_⟩
  rw[PL ok jl hm hmax]
  refine⟨b3 _ _ g9,AB,?_,(gA.trans b3).write hac5⟩
  rw[List.take_succ,e1,List.map_append];rfl
 rintro ys H9 ⟨g9,rfl,gA⟩
 rw[nl,<-kn,List.take_length]at g9
 refine⟨ac5,_,rfl,.inl ⟨Am.of g9,λlo hlo=>?_⟩⟩
 have sB:AG H9 (upd H9 lo (.tup (ns.map λj=>V.bl (Az ups j)))):=(AG.refl H9).new hlo
 have hB:upd H9 lo (.tup (ns.map λj=>V.bl (Az ups j))) lo=some (.tup (ns.map λj=>V.bl (Az ups j))):=AB
 generalize upd H9 lo (.tup (ns.map λj=>V.bl (Az ups j)))=HB at sB hB
 have h4B:=sB _ _ (gA _ _ h44)
 have huB:=sB _ _ (gA _ _ hu8)
 refine⟨rfl,_,rfl,r4,rfl,⟨_,Am.of h4B⟩,λac7 hac7=>?_⟩
 refine Bu (xs:=AY ns) (by omega) (λi ys H2=>H2 ac7=some (.lst ys)/\ys=((ns.take i).map (Fq lab)).map V.str/\AG HB H2)
  (λi ys H2 h=>Am.of (h.2.2 _ _ h4B)) (λi ys H2 h=>⟨h.1,by rw[h.2.1,List.length_map,List.length_map,List.length_take];exact Nat.min_le_left _ _⟩) ⟨AB,rfl,(AG.refl HB).new hac7⟩ ?_ ?_
 rotate_left
 ·rintro i x ys H2 hx ⟨c1,rfl,c3⟩
  obtain⟨j,e1,jl,rfl⟩:=nget hx
  refine⟨rfl,?_⟩
  refine⟨_,rfl,_,rfl,lab,_,_,rfl,rfl,lz,A0 (List.getElem?_eq_getElem (by omega:j < lab.cps.toList.length)),c1,AB,?_,c3.write hac7⟩
  rw[List.take_succ,e1,List.map_append,List.map_append]
  congr 1
  show _=[V.str (Fq lab j)]
  unfold Fq
  rw[List.getD_eq_getElem?_getD,List.getElem?_eq_getElem (by omega:j < lab.cps.toList.length)];rfl
 rintro ys HC ⟨c1,rfl,c3⟩
 rw[nl,<-kn,List.take_length]at c1
 refine⟨_,ac7,_,rfl,rfl,Am.of c1,?_,?_⟩
 ·have:∀l:List Nat,((l.map (Fq lab)).map (·.length)).sum=l.length:=λl=>by
   induction l with
   |nil=>rfl
   |cons a r ih=>rw[List.map_cons,List.map_cons,List.sum_cons,ih,List.length_cons];show 1+_=_;omega
  rw[this,List.length_map]
  have e0:(Str.ofString "").length=0:=rfl
  rw[e0];omega
 have h4C:=c3 _ _ h4B
 have huC:=c3 _ _ huB
 refine⟨_,rfl,_,rfl,r4,rfl,⟨_,Am.of h4C⟩,λac8 hac8=>?_⟩
 refine Bu (xs:=AY ns) (by omega) (λi ys H2=>H2 ac8=some (.lst ys)/\ys=(ns.take i).map (λj:Nat=>V.bl (BQ ups (j:Int)))/\AG HC H2)
  (λi ys H2 h=>Am.of (h.2.2 _ _ h4C)) (λi ys H2 h=>⟨h.1,by rw[h.2.1,List.length_map,List.length_take];exact Nat.min_le_left _ _⟩) ⟨AB,rfl,(AG.refl HC).new hac8⟩ ?_ ?_
 rotate_left
 ·rintro i x ys H2 hx ⟨d1,rfl,d3⟩
  obtain⟨j,e1,jl,rfl⟩:=nget hx
  refine⟨rfl,?_⟩
  refine⟨_,rfl,_,rfl,u,_,rfl,.inr (Ar.of (d3 _ _ huC)),rfl,FK _,d1,AB,?_,d3.write hac8⟩
  rw[List.take_succ,e1,List.map_append];rfl
 rintro ys HD ⟨d1,rfl,d3⟩
 rw[nl,<-kn,List.take_length]at d1
 refine⟨ac8,_,rfl,.inl ⟨Am.of d1,λle hle=>?_⟩⟩
 have sE:AG HD (upd HD le (.tup (ns.map λj:Nat=>V.bl (BQ ups (j:Int))))):=(AG.refl HD).new hle
 have hE:upd HD le (.tup (ns.map λj:Nat=>V.bl (BQ ups (j:Int)))) le=some (.tup (ns.map λj:Nat=>V.bl (BQ ups (j:Int)))):=AB
 generalize upd HD le (.tup (ns.map λj:Nat=>V.bl (BQ ups (j:Int))))=HE at sE hE
 refine⟨(by show 3<=sizeLine;decide),λrr hrr=>?_⟩
 have s0E:AG H HE:=((((s08.trans gA).trans sB).trans c3).trans d3).trans sE
 have sR:AG HE (upd HE rr (.tup [.str (Txt.join (Str.ofString "") (ns.map (Fq lab))),.ref lo,.ref le])):=(AG.refl HE).new hrr
 exact q' rr lo le _ (s0E.trans sR) AB (sR _ _ (sE _ _ (d3 _ _ (c3 _ _ hB)))) (sR _ _ hE)
end
end S28
namespace HT
open PySem PySem.Spec PyProof.Rows
section
variable {prog:Program}{w:World}{A:Around}{E:Value->Shared->Prop}{s:Shared}
theorem E5 {t sl:Addr}{items:Array Value}{vl vu:Value}{lo hi:Option Int}{Q:Value->Shared->Prop}(ht:IsTup s.heap t items)(hs:s.heap.IsSliceOf sl vl vu .none)(pl:IsPart vl lo)(pu:IsPart vu hi)
 (h1:BD items.size 0 lo=0)(h2:BD items.size items.size hi=items.size)(h:Q (.ref t) s):wpAny (model prog w) A (getItem (.ref t) (.ref sl)) Q E s:=by
 obtain⟨os,hos,hcs,hds⟩:=id hs
 have hTs:s.TypeIs (.ref sl) "slice":=⟨os,hos,hcs⟩
 unfold getItem
 try with_reducible refine wpAny_holding ?_
 first|refine wpAny_bind (wpAny_pure ?_)|skip
 refine wpAny_bind (wpAny_sequenceKey ht.typeIs (by decide) ?_)
 refine wpAny_bind (wpAny_callSpecial?_slot (name:=Str.ofString "__getitem__") ht.typeIs PyProof.Rows.slot_tuple_getitem
  (wpAny_call_entry PyProof.Rows.slot_tuple_getitem ht.typeIs entry_tuple_getitem ?_ (args_tuple_getitem _ _)))
 show wpAny _ _ (Builtin.Tuple.tupleItemsOf (.ref t) >>= _) _ _ s
 refine wpAny_bind (tupleItemsOf_ ht ?_)
 refine wpAny_bind (wpAny_typeOf hTs ?_)
 rw[if_pos (by decide)]
 refine wpAny_bind (C1 hs pl pu ?_)
 have hyes:((((BD items.size 0 lo:Nat):Int)==0&&(1:Int)==1&&(BD items.size items.size hi - BD items.size 0 lo)==items.size)=true):=by
  rw[h1,h2];simp
 show wpAny _ _ (if(((BD items.size 0 lo:Nat):Int)==0&&(1:Int)==1&&(BD items.size items.size hi - BD items.size 0 lo)==items.size)=true then _ else _) _ _ s
 rw[if_pos hyes]
 unfold Builtin.Tuple.tupleIsExact
 refine wpAny_bind (wpAny_bind (wpAny_typeOf ht.typeIs (wpAny_pure ?_)))
 rw[if_pos (by decide)]
 refine wpAny_bind (wpAny_rule ?_)
 first
  |exact wpAny_pure ⟨_,rfl,wpAny_pure h⟩
  |exact wpAny_bind (wpAny_pure (wpAny_pure ⟨_,rfl,wpAny_pure h⟩))
end
end HT
namespace L2
open PySem PySem.Spec PyProof.Rows
section
variable {X:Cx}
def Tb (K:PySem.W.Frag):V->Option Int->Option Int->Hp->VK->Prop:=λx lo hi H Q=>∃a xs,x=.ref a/\Ar K H a xs/\
 ((HT.BD xs.length 0 lo=0/\HT.BD xs.length xs.length hi=xs.length)->Q (.ref a) H)/\(¬(HT.BD xs.length 0 lo=0/\HT.BD xs.length xs.length hi=xs.length)->∀p,H p=none->Q (.ref p) (upd H p (.tup (Bq xs lo hi))))
theorem MN:SO X (Tb X.K):=by
 intro pins s σ H x v vl vu lo hi sl Q I rx hs pl pu h
 obtain⟨a,xs,rfl,hx,q1,q2⟩:=h
 by_cases hw:HT.BD xs.length 0 lo=0/\HT.BD xs.length xs.length hi=xs.length
 ·cases rx
  obtain⟨its,r,ht,hz⟩:=I.tuple hx
  have hlen:its.toArray.size=xs.length:=by rw[List.size_toArray];exact r.length.symm
  refine⟨"tuple",_,PyProof.Rows.slot_tuple_getitem.lookup,ht.typeIs,?_⟩
  exact HT.E5 ht hs pl pu (by rw[hlen];exact hw.1) (by rw[hlen];exact hw.2) ⟨.ref a,H,I,rfl,q1 hw⟩
 ·exact RY pins s σ H _ v vl vu lo hi sl Q I rx hs pl pu ⟨a,xs,rfl,hx,hw,q2 hw⟩
end
end L2
namespace L2
open PySem PySem.Spec PyProof.Rows PySem.W
section
variable {X:Cx}
theorem PM (its:List Value):(slicePick its.toArray none none (some (-1))).toList=its.reverse:=by
 have e:(slicePick its.toArray none none (some (-1))).toList=(sliceRange ((its.length:Int) - 1) (-1) (-1)).filterMap (its.toArray[·]?):=by
  have b:sliceBounds none none (some (-1)) its.toArray.size=((its.length:Int) - 1,-1,-1):=by
   rw[List.size_toArray];rfl
  unfold slicePick
  rw[b,List.toList_toArray]
 rw[e]
 unfold sliceRange
 dsimp only
 rw[if_neg (by decide)]
 have c:(if(its.length:Int) - 1 > -1 then((its.length:Int) - 1 - -1 - -1 - 1) / (- -1)else 0).toNat=its.length:=by
  split
  ·rw[show(- -1:Int)=1 by decide,Int.ediv_one];omega
  ·omega
 rw[c,List.filterMap_map]
 have:=JU its.toArray
 rw[List.size_toArray]at this
 rw[show its.toArray.toList=its by simp]at this
 rw[<-this]
 congr 1
 funext k
 show its.toArray[((its.length:Int) - 1+-1*(k:Int)).toNat]?=its.toArray[((its.length:Int) - 1+(k:Int)*-1).toNat]?
 rw[Int.mul_comm]
variable {e st:Expr}{te:TE}{ts:TO}{pos p2:Pos}
def Tc (K:PySem.W.Frag)(te:TE)(ts:TO):TE:=λσ H Q=>te σ H λx H1=>ts σ H1 λo H2=>∃(a:Addr) (xs:List V),o=some (-1)/\x=.ref a/\Am K H2 a xs/\∀r:Addr,H2 r=none->Q (.ref r) (upd H2 r (.lst xs.reverse))
theorem Qk (K:PySem.W.Frag)(he:PE X e te)(hs:PO X (some st) ts)(hK:X.K=K:=by rfl):PE X (.Subscript e (.Slice none none (some st) p2) pos) (Tc K te ts):=by
 subst hK
 intro pins s σ H Q I h
 refine Subscript_ (BG (he pins s σ H _ I h) λv s1 ⟨x,H1,I1,r1,q1⟩=>?_)
 refine wpAny_Slice ?_
 rw[evalPart_none]
 refine wpAny_pure (wpAny_pure ?_)
 refine BG (hs pins s1 σ H1 _ I1 q1) λvs s3 ⟨o,H3,I3,po,q3⟩=>?_
 obtain⟨a,xs,rfl,rfl,hq,q⟩:=q3
 cases r1
 cases po with
 |int i tk=>
 have I4:Inv X pins σ H3 { s3 with heap:=s3.heap.push { cls:=.type "slice",data:=.fields #[.none,.none,.int (-1) tk] } }:=I3.kept (t':=s3.toks) λb ob q=>Heap.get?_push_of_some _ q
 show wpAny (model X.prog X.w) X.A (subscriptTail e (.Slice none none (some st) p2) (.ref a) (.ref s3.heap.objs.size)) (EP X pins σ Q) X.xe { s3 with heap:=s3.heap.push { cls:=.type "slice",data:=.fields #[.none,.none,.int (-1) tk] } }
 obtain⟨its,r,ht,hz⟩:=I4.list hq
 have hlen:=r.length
 refine tail_any (ops:=[.ref a,.ref s3.heap.objs.size]) (T:="list") ht.isList.typeIs F.slot_list_getitem.lookup ?_ (by with_unfolding_all rfl)
 refine wpAny_getItem_list_slice ht.isList (Heap.IsSliceOf.new ..) .none .none (.int (-1) tk) (λe=>by cases e) ?_ (by rw[List.size_toArray];omega)
 have pr:slicePick its.toArray none none (some (-1))=its.reverse.toArray:=by
  apply Array.toList_inj.mp
  rw[PM,List.toList_toArray]
 rw[pr]
 refine⟨.ref _,_,I4.laid (t':=s3.toks) (o:=.lst xs.reverse) (λb ob q=>Heap.get?_push_of_some _ q) (Nat.le_refl _) ?_,rfl,q _ (I4.hok.fresh (Nat.le_refl _))⟩
 exact⟨by rw[List.length_reverse];omega,_,0,GP r,Heap.get?_push_size _ rfl⟩
end
end L2
namespace L2
open PySem PySem.Spec PyProof.Rows PySem.W
mutual
inductive Td (H:Hp):V->PyData->Prop
 |A3:Td H .A3 .none
 |bl (b:Bool):Td H (.bl b) (.bool b)
 |int (i:Int):Td H (.int i) (.int i)
 |str (z:Str):Td H (.str z) (.str z)
 |lst {a:Addr} {xs:List V} {ds:List PyData}:H a=some (.lst xs)->FE H xs ds->Td H (.ref a) (.list ds)
 |tup {a:Addr} {xs:List V} {ds:List PyData}:H a=some (.tup xs)->FE H xs ds->Td H (.ref a) (.tuple ds)
 |dct {a:Addr} {kvs:List (Key×V)} {ps:List (PyData×PyData)}:H a=some (.dK kvs)->FE H (kvs.map λp=>kV p.1) (ps.map (·.1))->FE H (kvs.map (·.2)) (ps.map (·.2))->Td H (.ref a) (.dict ps)
inductive FE (H:Hp):List V->List PyData->Prop
 |nil:FE H [] []
 |cons {v:V} {d:PyData} {vs:List V} {ds:List PyData}:Td H v d->FE H vs ds->FE H (v::vs) (d::ds)
end
mutual
theorem Td.same {H H':Hp}(s:AG H H'):∀{v:V} {d:PyData},Td H v d->Td H' v d
 |_,_,.A3=>.A3
 |_,_,.bl b=>.bl b
 |_,_,.int i=>.int i
 |_,_,.str z=>.str z
 |_,_,.lst e t=>.lst (s _ _ e) (t.same s)
 |_,_,.tup e t=>.tup (s _ _ e) (t.same s)
 |_,_,.dct e t u=>.dct (s _ _ e) (t.same s) (u.same s)
theorem FE.same {H H':Hp}(s:AG H H'):∀{vs:List V} {ds:List PyData},FE H vs ds->FE H' vs ds
 |_,_,.nil=>.nil
 |_,_,.cons t u=>.cons (t.same s) (u.same s)
end
mutual
def B9:PyData->Bool
 |.none|.bool _|.int _|.str _=>true
 |.list _=>false
 |.tuple xs=>BN xs
 |.dict kvs=>E6 kvs
def BN:List PyData->Bool
 |[]=>true
 |x::xs=>B9 x&&BN xs
def E6:List (PyData×PyData)->Bool
 |[]=>true
 |(k,v)::r=>B9 k&&B9 v&&E6 r
end
theorem EM:∀kvs:List (PyData×PyData),E6 kvs=true->BN (kvs.map (·.1))=true/\BN (kvs.map (·.2))=true
 |[],_=>⟨by simp only[List.map_nil,BN],by simp only[List.map_nil,BN]⟩
 |(k,v)::r,h=>by
  simp only[E6,Bool.and_eq_true]at h
  obtain⟨a,b⟩:=EM r h.2
  simp only[List.map_cons,BN,Bool.and_eq_true]
  exact⟨⟨h.1.1,a⟩,⟨h.1.2,b⟩⟩
theorem LV {P:Program}{w:World}{es:List DictEntry}{vs:List (Key×Value)}(h:Pairs (BO P w) es vs):∀{kvs:List (Key×V)},KV kvs vs->Vals (kvs.map λp=>kV p.1) (es.map (·.key))/\Vals (kvs.map (·.2)) (es.map (·.val)):=by
 induction h with
 |nil=>intro kvs r;cases r;exact⟨.nil,.nil⟩
 |cons hk hv _ ih=>
  intro kvs r
  cases r with
  |cons r1 r2=>
   obtain⟨a,b⟩:=ih r2
   refine⟨.cons ?_ a,.cons (by show RelV _ _;simp only[hv];exact r1.2) b⟩
   show RelV (kV _) _
   simp only[r1.1]
   rcases BH hk with⟨i,t,e,e'⟩|⟨x,t,e,e'⟩
   ·rw[e,e'];exact⟨t,rfl⟩
   ·rw[e,e'];exact⟨t,rfl⟩
section
variable {X:Cx}{pins:List (Addr×Obj)}{σ:St}{H:Hp}{s:Shared}
mutual
theorem Ju (I:Inv X pins σ H s):∀{v:V} {d:PyData},Td H v d->∀{u:Value},RelV v u->∃as,Reads s.heap u d as/\(B9 d=true->sysModules∉as)
 |_,_,.A3,_,r=>by cases r;exact⟨[],.none,λ_ h=>by cases h⟩
 |_,_,.bl b,_,r=>by cases r;exact⟨[],.bool b,λ_ h=>by cases h⟩
 |_,_,.int i,_,r=>by obtain⟨t,rfl⟩:=r;exact⟨[],.int i t,λ_ h=>by cases h⟩
 |_,_,.str z,_,r=>by obtain⟨t,rfl⟩:=r;exact⟨[],.str z t,λ_ h=>by cases h⟩
 |_,_,.lst e t,_,r=>by
  cases r
  obtain⟨_,its,n,rv,g⟩:=I.hok _ _ e
  obtain⟨as,ra,_⟩:=C9 I t rv
  exact⟨_,.list g rfl rfl ra,λh=>by simp only[B9]at h;cases h⟩
 |_,_,.tup e t,_,r=>by
  cases r
  obtain⟨_,its,rv,o,g,c,n,dd⟩:=I.hok _ _ e
  obtain⟨as,ra,na⟩:=C9 I t rv
  exact⟨as,.tuple g c dd ra,λh=>na (by simpa only[B9]using h)⟩
 |_,_,.dct e t u,_,r=>by
  cases r
  obtain⟨_,hs,vs,kv,o,es,ep,g,ex,dd,_,pr,_⟩:=I.hok _ _ e
  obtain⟨v1,v2⟩:=LV pr kv
  obtain⟨as,ra,na⟩:=C9 I t v1
  obtain⟨bs,rb,nb⟩:=C9 I u v2
  refine⟨_,.dict g ex.1 dd ra rb,λh=>?_⟩
  simp only[B9]at h
  obtain⟨h1,h2⟩:=EM _ h
  intro m
  rcases List.mem_append.mp m with m|m
  ·rcases List.mem_cons.mp m with m|m
   ·exact beq_eq_false_iff_ne.mp hs m.symm
   ·exact na h1 m
  ·exact nb h2 m
theorem C9 (I:Inv X pins σ H s):∀{vs:List V} {ds:List PyData},FE H vs ds->∀{us:List Value},Vals vs us->∃as,ReadsAll s.heap us ds as/\(BN ds=true->sysModules∉as)
 |_,_,.nil,_,r=>by cases r;exact⟨[],.nil,λ_ h=>by cases h⟩
 |_,_,.cons t u,_,r=>by
  cases r with
  |cons r1 r2=>
   obtain⟨as,ra,na⟩:=Ju I t r1
   obtain⟨bs,rb,nb⟩:=C9 I u r2
   refine⟨as++bs,.cons ra rb,λh=>?_⟩
   simp only[BN,Bool.and_eq_true]at h
   intro m
   rcases List.mem_append.mp m with m|m
   ·exact na h.1 m
   ·exact nb h.2 m
end
structure PN (d:PyData):Prop where
 sh:d.showable=true
 lv:d.leavesShort 61=true
 wt:d.weight<=200000
 dp:d.depth<=20
 md:d.hasDict=false\/B9 d=true
theorem PN.sz {d:PyData}(f:PN d):d.shown.length<=sizeLine:=by
 have h:=PyData.shown_le 61 (by decide) d f.lv
 have:=f.wt
 rw[sizeLine_eq]
 omega
variable {k:Nat}
theorem Bc (hr:B6 k X.A):Bs X (.builtin "repr") (λxs H Q=>∃v d,xs=[v]/\Td H v d/\PN d/\Q (.str d.shown) H):=by
 intro pins s σ H xs us Q I r h
 obtain⟨v,d,rfl,t,f,q⟩:=h
 obtain⟨u,rfl,rx⟩:=vals1 r
 have fin:∀(h':Heap) (u:Tok) (tk:Tok),(∀b o,s.heap.get? b=some o->h'.get? b=some o)->EP X pins σ Q (.str d.shown u) { s with heap:=h',toks:=tk }:=λh' u tk hk=>⟨.str d.shown,H,I.kept (t':=tk) hk,⟨u,rfl⟩,q⟩
 have sz:=f.sz
 have ref:∀a:Addr,u=.ref a->wpAny (model X.prog X.w) X.A (call (.builtin "repr") [u]) (EP X pins σ Q) X.xe s:=λa e=>by
  subst e
  obtain⟨as,rd,na⟩:=Ju I t rx
  have un:=hr.un
  have dp:=f.dp
  refine repr_of_reads' rd f.sh (λz=>?_) hr.gd (by omega) (λ_ _ e=>e) (λh' u tk hk=>fin h' u tk hk) sz
  rcases f.md with m|m
  ·rw[m]at z;cases z
  ·exact na m
 cases t with
 |A3=>cases rx;exact P.repr_of_none (fin _ _ _ λ_ _ e=>e)
 |bl b=>cases rx;exact P.repr_of_bool (by cases b<;>exact fin _ _ _ λ_ _ e=>e)
 |int i=>obtain⟨t,rfl⟩:=rx;exact P.repr_of_int (of_decide_eq_true f.sh) (fin _ _ _ λ_ _ e=>e)
 |str z=>obtain⟨t,rfl⟩:=rx;exact P.repr_of_str (fin _ _ _ λ_ _ e=>e) sz
 |lst e t=>cases rx;exact ref _ rfl
 |tup e t=>cases rx;exact ref _ rfl
 |dct e t u=>cases rx;exact ref _ rfl
end
section
variable {H:Hp}
theorem FE.len:∀{vs:List V} {ds:List PyData},FE H vs ds->vs.length=ds.length
 |_,_,.nil=>rfl
 |_,_,.cons _ u=>by rw[List.length_cons,List.length_cons,u.len]
theorem FE.get:∀{vs:List V} {ds:List PyData} {i:Nat} {v:V},FE H vs ds->vs[i]?=some v->∃d,ds[i]?=some d/\Td H v d
 |_,_,_,_,.nil,e=>by simp at e
 |_,_,0,_,.cons a u,e=>by simp at e;subst e;exact⟨_,rfl,a⟩
 |_,_,i+1,_,.cons a u,e=>u.get (i:=i) (by simpa using e)
end
structure Gd (hd hl:Bool)(c e:Nat)(d:PyData):Prop where
 sh:d.showable=true
 lv:d.leavesShort 61=true
 wt:d.weight<=c
 dp:d.depth<=e
 nd:hd=false->d.hasDict=false
 nl:hl=false->B9 d=true
structure Gs (hd hl:Bool)(c e:Nat)(ds:List PyData):Prop where
 sh:PyData.showableAll ds=true
 lv:PyData.leavesShortAll 61 ds=true
 wt:PyData.weightAll ds<=c
 dp:PyData.depthAll ds<=e
 nd:hd=false->PyData.hasDictAll ds=false
 nl:hl=false->BN ds=true
section
variable {hd hl:Bool}{c c' e e':Nat}{d:PyData}{ds es:List PyData}
theorem Gd.fit (g:Gd hd hl c e d)(h:hd=false\/hl=false)(hc:c<=200000)(he:e<=20):PN d:=
 ⟨g.sh,g.lv,Nat.le_trans g.wt hc,Nat.le_trans g.dp he,h.imp g.nd g.nl⟩
theorem Gd.mono (g:Gd hd hl c e d)(hc:c<=c')(he:e<=e'):Gd hd hl c' e' d:=⟨g.sh,g.lv,Nat.le_trans g.wt hc,Nat.le_trans g.dp he,g.nd,g.nl⟩
theorem Gs.mono (g:Gs hd hl c e ds)(hc:c<=c')(he:e<=e'):Gs hd hl c' e' ds:=⟨g.sh,g.lv,Nat.le_trans g.wt hc,Nat.le_trans g.dp he,g.nd,g.nl⟩
theorem Gs.nil:Gs hd hl 0 0 []:=⟨by simp only[PyData.showableAll],by simp only[PyData.leavesShortAll],by simp only[PyData.weightAll];omega,by simp only[PyData.depthAll];omega,λ_=>by simp only[PyData.hasDictAll],λ_=>by simp only[BN]⟩
theorem Gs.cons (g:Gd hd hl c e d)(h:Gs hd hl c' e ds):Gs hd hl (c+1+c') e (d::ds):=by
 have:=g.wt;have:=h.wt;have:=g.dp;have:=h.dp
 refine⟨?_,?_,?_,?_,λz=>?_,λz=>?_⟩
 ·simp only[PyData.showableAll,g.sh,h.sh,Bool.and_self]
 ·simp only[PyData.leavesShortAll,g.lv,h.lv,Bool.and_self]
 ·simp only[PyData.weightAll];omega
 ·simp only[PyData.depthAll];omega
 ·simp only[PyData.hasDictAll,g.nd z,h.nd z,Bool.or_self]
 ·simp only[BN,g.nl z,h.nl z,Bool.and_self]
theorem Gs.one (g:Gd hd hl c e d):Gs hd hl (c+1) e [d]:=(Gs.cons g (Gs.nil.mono (Nat.le_refl 0) (Nat.zero_le e))).mono (by omega) (Nat.le_refl _)
theorem Gs.all:∀{ds:List PyData},(∀d∈ds,Gd hd hl c e d)->Gs hd hl ((c+1)*ds.length) e ds
 |[],_=>Gs.nil.mono (Nat.zero_le _) (Nat.zero_le _)
 |d::ds,h=>by
  refine(Gs.cons (h d List.mem_cons_self) (Gs.all (ds:=ds) λx hx=>h x (List.mem_cons_of_mem _ hx))).mono ?_ (Nat.le_refl _)
  rw[List.length_cons,Nat.mul_succ];omega
theorem Gd.tup (g:Gs hd hl c e ds):Gd hd hl c (e+1) (.tuple ds):=
 ⟨by simp only[PyData.showable];exact g.sh,by simp only[PyData.leavesShort];exact g.lv,by simp only[PyData.weight];exact g.wt,by simp only[PyData.depth];have:=g.dp;omega,λz=>by simp only[PyData.hasDict];exact g.nd z,λz=>by simp only[B9];exact g.nl z⟩
theorem Gd.lst (g:Gs hd true c e ds):Gd hd true c (e+1) (.list ds):=
 ⟨by simp only[PyData.showable];exact g.sh,by simp only[PyData.leavesShort];exact g.lv,by simp only[PyData.weight];exact g.wt,by simp only[PyData.depth];have:=g.dp;omega,λz=>by simp only[PyData.hasDict];exact g.nd z,λz=>by cases z⟩
theorem Gd.A3:Gd hd hl 0 0 .none:=⟨by simp only[PyData.showable],by simp only[PyData.leavesShort],by simp only[PyData.weight];omega,by simp only[PyData.depth];omega,λ_=>by simp only[PyData.hasDict],λ_=>by simp only[B9]⟩
theorem Gd.bl (b:Bool):Gd hd hl 0 0 (.bool b):=⟨by simp only[PyData.showable],by simp only[PyData.leavesShort],by simp only[PyData.weight];omega,by simp only[PyData.depth];omega,λ_=>by simp only[PyData.hasDict],λ_=>by simp only[B9]⟩
theorem Gd.str {z:Str}(h:∀c∈z.cps.toList,c < 1000):Gd hd hl z.cps.size 0 (.str z):=⟨by simp only[PyData.showable],by
 simp only[PyData.leavesShort,List.all_eq_true,decide_eq_true_eq]
 intro c hc
 have:=h c hc
 have e:16 ^ 8=4294967296:=by decide
 omega,by simp only[PyData.weight];omega,by simp only[PyData.depth];omega,λ_=>by simp only[PyData.hasDict],λ_=>by simp only[B9]⟩
end
end L2
namespace L2
open PySem PySem.Spec PyProof.Rows PySem.W
theorem Cn {c:Bool}{A B:Prop}(h:c=true)(q:A):if c=true then A else B:=by rw[h];exact IF q
end L2
namespace W56
open PySem
end W56
namespace W56
open PySem
end W56
namespace L2
open PySem PySem.Spec PyProof.Rows PySem.W
def FW:PyData->Bool|.tuple _=>true|_=>false
def Ge:PyData->Bool|.str _=>true|_=>false
def DA:PyData->Bool|.bool _=>true|_=>false
section
variable {K:PySem.W.Frag}{H:Hp}{v:V}{d:PyData}
theorem Ie (h:Td H v d):∃t,DX K H v t/\kitOne K t (.type "tuple")=some (FW d):=by
 cases h with
 |A3=>exact⟨_,.A3,by rfl⟩
 |bl b=>exact⟨_,.bl b,by rfl⟩
 |int i=>exact⟨_,.int i,by rfl⟩
 |str z=>exact⟨_,.str z,by rfl⟩
 |lst e _=>exact⟨_,.lst e,by rfl⟩
 |tup e _=>exact⟨_,.tup e,by rfl⟩
 |dct e _ _=>exact⟨_,.dK e,by rfl⟩
theorem PQ (h:Td H v d):∃t,DX K H v t/\kitOne K t (.type "str")=some (Ge d):=by
 cases h with
 |A3=>exact⟨_,.A3,by rfl⟩
 |bl b=>exact⟨_,.bl b,by rfl⟩
 |int i=>exact⟨_,.int i,by rfl⟩
 |str z=>exact⟨_,.str z,by rfl⟩
 |lst e _=>exact⟨_,.lst e,by rfl⟩
 |tup e _=>exact⟨_,.tup e,by rfl⟩
 |dct e _ _=>exact⟨_,.dK e,by rfl⟩
theorem RE (h:Td H v d):∃t,DX K H v t/\kitOne K t (.type "bool")=some (DA d):=by
 cases h with
 |A3=>exact⟨_,.A3,by rfl⟩
 |bl b=>exact⟨_,.bl b,by rfl⟩
 |int i=>exact⟨_,.int i,by rfl⟩
 |str z=>exact⟨_,.str z,by rfl⟩
 |lst e _=>exact⟨_,.lst e,by rfl⟩
 |tup e _=>exact⟨_,.tup e,by rfl⟩
 |dct e _ _=>exact⟨_,.dK e,by rfl⟩
end
theorem E7 {H:Hp}{v:V}{d:PyData}(h:Td H v d)(b:FW d=true):∃a xs ds,v=.ref a/\d=.tuple ds/\H a=some (.tup xs)/\FE H xs ds:=by
 cases h with
 |tup e t=>exact⟨_,_,_,rfl,rfl,e,t⟩
 |_=>cases b
theorem E8 {H:Hp}{v:V}{d:PyData}(h:Td H v d)(b:Ge d=true):∃z,v=.str z/\d=.str z:=by
 cases h with
 |str z=>exact⟨_,rfl,rfl⟩
 |_=>cases b
def dl (ps:List Addr)(H:Hp):Hp:=λa=>if a∈ps then none else H a
theorem Ql (ps:List Addr)(H:Hp):AG (dl ps H) H:=λb o e=>by
 unfold dl at e
 split at e
 ·cases e
 ·exact e
theorem MO {ps:List Addr}{H:Hp}{a:Addr}{o:HO}(h:H a=some o)(n:a∉ps):dl ps H a=some o:=by unfold dl;rw[if_neg n];exact h
theorem Ig {ps:List Addr}{H H':Hp}(h:∀b o,b∉ps->H b=some o->H' b=some o):AG (dl ps H) (dl ps H'):=λb o e=>by
 unfold dl at e ⊢
 split at e
 ·cases e
 ·rename_i n
  rw[if_neg n];exact h b o n e
end L2
namespace S28
open PySem L2 W7
mutual
theorem Td.kt {lms:List Lm}{H H':Hp}(s:Kt lms H H'):∀{v:V} {d:PyData},Td H v d->Td H' v d
 |_,_,.A3=>.A3
 |_,_,.bl b=>.bl b
 |_,_,.int i=>.int i
 |_,_,.str z=>.str z
 |_,_,.lst e t=>.lst (s.lst e) (FE.kt s t)
 |_,_,.tup e t=>.tup (s.tup e) (FE.kt s t)
 |_,_,.dct e t u=>.dct (s.keep _ _ (λ_ z=>by cases z) e) (FE.kt s t) (FE.kt s u)
theorem FE.kt {lms:List Lm}{H H':Hp}(s:Kt lms H H'):∀{vs:List V} {ds:List PyData},FE H vs ds->FE H' vs ds
 |_,_,.nil=>.nil
 |_,_,.cons t u=>.cons (Td.kt s t) (FE.kt s u)
end
theorem CA {c:Bool}{A B:Prop}(h:c=false)(q:B):if c=true then A else B:=by rw[h];exact QI q
def Ir (c:Nat):Bool:=decide (97<=c)&&decide (c < 123)
theorem F0 {c:Nat}:Ir c=true↔Lw c:=by unfold Ir Lw;rw[Bool.and_eq_true,decide_eq_true_eq,decide_eq_true_eq]
theorem PR {c:Nat}(h:c < 1000):(!(Builtin.Str.occurrences (Str.ofString "abcdefghijklmnopqrstuvwxyz") ⟨#[c]⟩ 0 (Str.ofString "abcdefghijklmnopqrstuvwxyz").length 1).isEmpty)=Ir c:=by
 have all:∀c:Nat,c < 1000->(!(Builtin.Str.occurrences (Str.ofString "abcdefghijklmnopqrstuvwxyz") ⟨#[c]⟩ 0 (Str.ofString "abcdefghijklmnopqrstuvwxyz").length 1).isEmpty)=Ir c:=by decide+kernel
 exact all c h
def R6:PyData->Bool
 |.str z=>z.cps.toList.all Ir
 |_=>false
def Qm:PyData->Bool
 |.str z=>z.cps.toList.all Ir&&(decide (1<=z.length)&&decide (z.length<=60))
 |_=>false
def Short (d:PyData):Prop:=∀z,d=.str z->z.length<=900/\∀c∈z.cps.toList,c < 1000
def SU (d:PyData):Prop:=∀ds,d=.tuple ds->ds.length<=900
def EF (m:Nat):PyData->Bool
 |.tuple ds=>decide (ds.length=m)&&ds.all DA
 |_=>false
theorem PU:∀{ds:List PyData},ds.all DA=true->∃bs:List Bool,ds=bs.map .bool
 |[],_=>⟨[],rfl⟩
 |d::ds,h=>by
  rw[List.all_cons,Bool.and_eq_true]at h
  obtain⟨bs,e⟩:=PU h.2
  have h1:=h.1
  cases d<;>first|exact⟨_::bs,by rw[e];rfl⟩|(exact absurd h1 (by simp[DA]))
theorem EB {H:Hp}:∀{bs:List Bool} {xs:List V},FE H xs (bs.map .bool)->xs=bs.map V.bl
 |[],[],_=>rfl
 |[],_::_,h=>by cases h
 |b::bs,xs,h=>by
  cases h with
  |cons t u=>cases t;rw[List.map_cons,EB u]
theorem Ih {H:Hp}:∀bs:List Bool,FE H (bs.map V.bl) (bs.map .bool)
 |[]=>.nil
 |b::bs=>.cons (.bl b) (Ih bs)
theorem E9 {d:PyData}{m:Nat}(h:EF m d=true):∃bs:List Bool,d=.tuple (bs.map .bool)/\bs.length=m:=by
 cases d with
 |tuple ds=>
  have h':(decide (ds.length=m)&&ds.all DA)=true:=h
  rw[Bool.and_eq_true,decide_eq_true_eq]at h'
  obtain⟨bs,e⟩:=PU h'.2
  exact⟨bs,by rw[e],by rw[<-h'.1,e,List.length_map]⟩
 |_=>cases h
theorem F1 (bs:List Bool):EF bs.length (.tuple (bs.map .bool))=true:=by
 show(decide _&&_)=true
 rw[List.length_map,decide_eq_true rfl,Bool.true_and,List.all_map,List.all_eq_true]
 exact λ_ _=>rfl
structure Bf (d:PyData)(z:Str)(ls lv:List Bool):Prop where
 eq:d=.tuple [.str z,.tuple (ls.map .bool),.tuple (lv.map .bool)]
 l1:ls.length=z.length
 l2:lv.length=z.length
 pos:1<=z.length
 most:z.length<=60
 low:∀c∈z.cps.toList,Lw c
theorem Bf.rw {H:Hp}{v:V}{d:PyData}{z:Str}{ls lv:List Bool}(f:Bf d z ls lv)(t:Td H v d):∃r,v=.ref r/\Ea H r z ls lv:=by
 have e:=f.eq
 subst e
 cases t with
 |tup h1 ts=>
  cases ts with
  |cons t1 ts=>
   cases ts with
   |cons t2 ts=>
    cases ts with
    |cons t3 ts=>
     cases ts
     cases t1
     cases t2 with
     |tup h2 u2=>
      cases t3 with
      |tup h3 u3=>
       rw[EB u2]at h2
       rw[EB u3]at h3
       exact⟨_,rfl,_,_,h1,h2,h3⟩
theorem Jv {a b:List Bool}(h:a.map PyData.bool=b.map PyData.bool):a=b:=(List.map_inj_right (λa b h=>by injection h)).mp h
theorem Bf.one {d:PyData}{z z':Str}{ls ls' lv lv':List Bool}(f:Bf d z ls lv)(g:Bf d z' ls' lv'):z=z'/\ls=ls'/\lv=lv':=by
 have e:=f.eq.symm.trans g.eq
 injection e with e
 injection e with e1 e
 injection e with e2 e
 injection e with e3 e
 injection e1 with e1
 injection e2 with e2
 injection e3 with e3
 exact⟨e1,Jv e2,Jv e3⟩
def RF (d:PyData):Prop:=∀x y z,d=.tuple [x,y,z]->Short x/\SU y/\SU z
section
variable {P:Program}{w:World}{K:PySem.W.Frag}{mg:Str->Option Value}{base:Heap}{k:Nat}
def Fj:Sp:=λvs H Q _=>∃(v:V) (d:PyData),vs=[v]/\Td H v d/\Short d/\∀H',AG H H'->Q (.bl (R6 d)) H'
theorem Ii (D:Df K mg "is_letters" s_is_letters)(B:CK mg):Bb P w K mg base "is_letters" (k+1) ["thing"] Fj:=by
 refine D.has Gz (λ_ _ _ _ _ _=>Gy λ_=>rfl) (λvs H Q E h=>by obtain⟨x,d,rfl,_⟩:=h;rfl) (λf cdv A outer s H vs Q E hr h=>?_)
 obtain⟨v,d,rfl,td,sh,q⟩:=h
 obtain⟨u2,h_LETTERS,r_LETTERS⟩:=B.letters
 refine⟨_,(AL (AV (KQ (AM Ba rfl B.isinstance Au (AA (pv 0) (AA (CZ (v:=.ty "str") rfl B.str_ N4 rfl) AD))) (Hx (AM (JI rfl) rfl B.all PB (AA (BL rfl (Ks (pv 0)) (NL:=["sign"]) (ix:=[]) (GB (AJ s_is_letters) Es) (λcl C s₃ H₃ fp pins=>⟨(AQ (i:=0) (show List.Nodup (["sign"]:List Str)from by decide+kernel) rfl (by first|exact Or.inl rfl|exact Or.inr rfl)),A5,(Bd Me (pv 0) (D0 (v:=.str "abcdefghijklmnopqrstuvwxyz") rfl h_LETTERS r_LETTERS) (by with_unfolding_all rfl))⟩)) AD)))))),?_⟩
 obtain⟨t1,a1,a2⟩:=PQ (K:=K) td
 refine⟨_,rfl,_,t1,"str",_,rfl,a1,a2,_,rfl,CC (λc=>?_) (λc=>?_)⟩
 rotate_left
 ·have e:R6 d=false:=by cases d<;>first|rfl|(exact absurd rfl c)
  have:=q H (AG.refl H)
  rw[e]at this;exact this
 obtain⟨z,rfl,rfl⟩:=E8 td c
 obtain⟨zl,zc⟩:=sh z rfl
 have zs:z.cps.size<=900:=zl
 refine⟨_,rfl,_,rfl,λa1 ha1=>?_⟩
 refine JP (by omega) (λi ys HX=>HX a1=some (.lst ys)/\AG H HX/\ys=((z.cps.toList.take i).map Ir).map V.bl)
  (λi ys HX h=>⟨h.1,by rw[h.2.2,List.length_map,List.length_map,List.length_take];exact Nat.min_le_left _ _⟩) ⟨AB,(AG.refl H).new ha1,rfl⟩ ?_ ?_
 rotate_left
 ·rintro i ch ys HX hc ⟨g1,g2,rfl⟩
  have hc':z.cps.toList[i]?=some ch:=by rw[<-Array.getElem?_toList]at hc;exact hc
  refine⟨rfl,_,rfl,_,_,rfl,rfl,?_⟩
  rw[PR (zc ch (List.mem_of_getElem? hc'))]
  refine⟨g1,AB,g2.write ha1,?_⟩
  rw[List.take_succ,hc',List.map_append,List.map_append];rfl
 rintro ys H1 ⟨g1,s1,rfl⟩
 refine⟨a1,_,rfl,Am.of g1,?_⟩
 have e:(((z.cps.toList.take z.cps.size).map Ir).all id)=R6 (.str z):=by
  show _=z.cps.toList.all Ir
  rw[<-Array.length_toList,List.take_length,List.all_map];rfl
 rw[e]
 exact q _ s1
def Gf:Sp:=λvs H Q _=>∃(v:V) (d:PyData),vs=[v]/\Td H v d/\Short d/\∀H',AG H H'->Q (.bl (Qm d)) H'
theorem Jw (D:Df K mg "is_labels" s_is_labels)(B:CK mg)(G_is_letters:Bb P w K mg base "is_letters" k ["thing"] Fj):Bb P w K mg base "is_labels" (k+1) ["thing"] Gf:=by
 refine D.has IT (λ_ _ _ _ _ _=>Gy λ_=>rfl) (λvs H Q E h=>by obtain⟨x,d,rfl,_⟩:=h;rfl) (λf cdv A outer s H vs Q E hr h=>?_)
 obtain⟨v,d,rfl,td,sh,q⟩:=h
 obtain⟨u1,h_MOST_PLACES,r_MOST_PLACES⟩:=B.most
 refine⟨_,(AL (AV (KQ (AK G_is_letters hr rfl (AA (pv 0) AD)) (Hx (Nj Ni Ni AF (AM A4 rfl B.len Aw (AA (pv 0) AD)) (D0 (v:=.int 60) rfl h_MOST_PLACES r_MOST_PLACES)))))),?_⟩
 refine⟨_,rfl,v,d,rfl,td,sh,λH1 s1=>⟨_,rfl,CC (λc=>?_) (λc=>?_)⟩⟩
 rotate_left
 ·have e:Qm d=false:=by
   cases d with
   |str z=>
    have c':z.cps.toList.all Ir=false:=Bool.eq_false_iff.mpr c
    show(z.cps.toList.all Ir&&_)=false
    rw[c',Bool.false_and]
   |_=>rfl
  have:=q H1 s1
  rw[e]at this;exact this
 have hs:Ge d=true:=by cases d<;>first|rfl|cases c
 obtain⟨z,rfl,rfl⟩:=E8 td hs
 obtain⟨zl,zc⟩:=sh z rfl
 have q1:=q H1 s1
 have c':z.cps.toList.all Ir=true:=c
 have e:Qm (.str z)=(decide (1<=z.length)&&decide (z.length<=60)):=by show(z.cps.toList.all Ir&&_)=_;rw[c',Bool.true_and]
 rw[e]at q1
 refine⟨_,rfl,_,rfl,Nat.le_of_lt (AO (by omega)),_,_,rfl,rfl,_,rfl,?_⟩
 have d1:decide ((1:Int)<=(z.length:Int))=decide (1<=z.length):=by rw[Bool.eq_iff_iff,decide_eq_true_eq,decide_eq_true_eq];omega
 have d2:decide ((z.length:Int)<=60)=decide (z.length<=60):=by rw[Bool.eq_iff_iff,decide_eq_true_eq,decide_eq_true_eq];omega
 refine CC (λx=>?_) (λx=>?_)
 ·have x':decide (1<=z.length)=true:=by rw[<-d1];exact x
  rw[x',Bool.true_and,<-d2]at q1
  exact⟨_,_,rfl,rfl,q1⟩
 ·have x':decide (1<=z.length)=false:=by rw[<-d1];exact Bool.eq_false_iff.mpr x
  rw[x',Bool.false_and]at q1
  exact q1
def Gg:Sp:=λvs H Q _=>∃(v:V) (d:PyData) (m:Nat),vs=[v,.int (m:Int)]/\Td H v d/\SU d/\∀H',AG H H'->Q (.bl (EF m d)) H'
theorem Jx (D:Df K mg "is_truths" s_is_truths)(B:CK mg):Bb P w K mg base "is_truths" (k+1) ["thing","many"] Gg:=by
 refine D.has IU (λ_ _ _ _ _ _=>Om λ_ _=>rfl) (λvs H Q E h=>by obtain⟨v,d,m,rfl,_⟩:=h;rfl) (λf cdv A outer s H vs Q E hr h=>?_)
 obtain⟨v,d,m,rfl,td,sm,q⟩:=h
 refine⟨_,(AE (Bk (PW.pt (DN (B3 (Bj (AM Ba rfl B.isinstance Au (AA (pv 0) (AA (CZ (v:=.ty "tuple") rfl B.tuple_ BW rfl) AD))))) (DB (Ab FZ (AM Ad rfl B.len Aw (AA (pv 0) AD)) (pv 1) (AZ _)))))
 (AL (AV DM))
 Av)
 (AL (AV (AM (JI rfl) rfl B.all PB (AA (BL rfl (Hy (pv 0)) (NL:=["part"]) (ix:=[]) (GB (AJ s_is_truths) Fh) (λcl C s₃ H₃ fp pins=>⟨(AQ (i:=0) (show List.Nodup (["part"]:List Str)from by decide+kernel) rfl (by first|exact Or.inl rfl|exact Or.inr rfl)),A5,(AM (Ep K) rfl B.isinstance Au (AA (pv 0) (AA (CZ (v:=.ty "bool") rfl B.bool_ IL rfl) AD)))⟩)) AD))))),?_⟩
 obtain⟨t1,a1,a2⟩:=Ie (K:=K) td
 have no:EF m d=false->Q (.bl false) H:=λe=>by have:=q H (AG.refl H);rw[e]at this;exact this
 refine⟨_,rfl,_,t1,"tuple",_,rfl,a1,a2,_,rfl,?_⟩
 by_cases ct:FW d=true
 rotate_left
 ·refine Cn (by rw[Bool.eq_false_iff.mpr ct];rfl) ?_
  exact no (by cases d<;>first|rfl|exact absurd rfl ct)
 refine CA (by rw[ct];rfl) ?_
 obtain⟨a,xs,ds,rfl,rfl,ha,tds⟩:=E7 td ct
 have xl:=tds.len
 have x9:=sm ds rfl
 refine⟨_,rfl,a,_,rfl,.inr (Ar.of ha),_,rfl,rfl,_,rfl,?_⟩
 by_cases cl:xs.length=m
 rotate_left
 ·refine Cn (by simp;omega) ?_
  refine no ?_
  show(decide (ds.length=m)&&_)=false
  rw[decide_eq_false (by omega),Bool.false_and]
 refine CA (by rw[cl];simp) ?_
 refine⟨_,rfl,a,rfl,⟨_,Ar.of ha⟩,λacc hacc=>?_⟩
 refine FP (xs:=xs) (by omega) (λi ys HX=>HX acc=some (.lst ys)/\AG H HX/\ys=((ds.take i).map DA).map V.bl)
  (λi ys HX h=>Ar.of (h.2.1 _ _ ha)) (λi ys HX h=>⟨h.1,by rw[h.2.2,List.length_map,List.length_map,List.length_take];omega⟩) ⟨AB,(AG.refl H).new hacc,rfl⟩ ?_ ?_
 rotate_left
 ·rintro i x ys HX hx ⟨g1,g2,rfl⟩
  obtain⟨dx,ed,tx⟩:=tds.get hx
  obtain⟨t2,b1,b2⟩:=RE (K:=K) (tx.same g2)
  refine⟨rfl,_,rfl,_,t2,"bool",_,rfl,b1,b2,g1,AB,g2.write hacc,?_⟩
  rw[List.take_succ,ed,List.map_append,List.map_append];rfl
 rintro ys H1 ⟨g1,s1,rfl⟩
 refine⟨acc,_,rfl,Am.of g1,?_⟩
 have e:(((ds.take xs.length).map DA).all id)=EF m (.tuple ds):=by
  show _=(decide (ds.length=m)&&ds.all DA)
  rw[xl,List.take_length,decide_eq_true (by omega),Bool.true_and,List.all_map];rfl
 rw[e]
 exact q _ s1
def Jy:Sp:=λvs H Q _=>∃(v:V) (d:PyData),vs=[v]/\Td H v d/\RF d/\∀(b:Bool) (H':Hp),AG H H'->(b=true↔∃z ls lv,Bf d z ls lv/\(A9 ls).length=lv.count false)->Q (.bl b) H'
theorem NT (D:Df K mg "has_form" s_has_form)(B:CK mg)(G_is_labels:Bb P w K mg base "is_labels" k ["thing"] Gf)(G_is_truths:Bb P w K mg base "is_truths" k ["thing","many"] Gg)(G_groups_of:Bb P w K mg base "groups_of" k ["rows"] FV):Bb P w K mg base "has_form" (k+1) ["thing"] Jy:=by
 refine D.has Fg (λ_ _ _ _ _ _=>Gy λ_=>rfl) (λvs H Q E h=>by obtain⟨v,d,rfl,_⟩:=h;rfl) (λf cdv A outer s H vs Q E hr h=>?_)
 obtain⟨v,d,rfl,td,sh,q⟩:=h
 refine⟨_,(AE (Bk (PW.pt (DN (B3 (Bj (AM Ba rfl B.isinstance Au (AA (pv 0) (AA (CZ (v:=.ty "tuple") rfl B.tuple_ BW rfl) AD))))) (DN (Ab FZ (AM Ad rfl B.len Aw (AA (pv 0) AD)) AF (AZ _)) (DB (B3 (Bj (AK G_is_labels hr rfl (AA (AR Aj (pv 0) AF (λ_ _=>rfl)) AD))))))))
 (AL (AV DM))
 Av)
 (AE (AN (i:=1) Fg.nd rfl (by first|exact Or.inl rfl|exact Or.inr rfl) (AM A4 rfl B.len Aw (AA (AR Aj (pv 0) AF (λ_ _=>rfl)) AD)))
 (AE (Bk (PW.pt (DN (B3 (Bj (AK G_is_truths hr rfl (AA (AR Aj (pv 0) AF (λ_ _=>rfl)) (AA (pv 1) AD))))) (DB (B3 (Bj (AK G_is_truths hr rfl (AA (AR Aj (pv 0) AF (λ_ _=>rfl)) (AA (pv 1) AD))))))))
 (AL (AV DM))
 Av)
 (AL (AV (Bd Cg (AM Ad rfl B.len Aw (AA (AK G_groups_of hr rfl (AA (pv 0) AD)) AD)) (K0 (AR Aj (pv 0) AF (λ_ _=>rfl)) DM) (AZ _))))))),?_⟩
 first|(dsimp only[Bp,Cx.Ft];generalize hK:K=K';revert K' hK;refine Dn (Ae <|Ae <|Ae <|λ_=>rfl) ?_)|skip
 have no:∀H',AG H H'->(∀z ls lv,¬Bf d z ls lv)->Q (.bl false) H':=λH' s n=>q false H' s ⟨(λz=>by cases z),λ⟨z,ls,lv,f,_⟩=>absurd f (n z ls lv)⟩
 obtain⟨t1,a1,a2⟩:=Ie (K:=K) td
 refine⟨_,rfl,_,t1,"tuple",_,rfl,a1,a2,_,rfl,?_⟩
 by_cases ct:FW d=true
 rotate_left
 ·refine Cn (by rw[Bool.eq_false_iff.mpr ct];rfl) ?_
  exact no H (AG.refl H) λz ls lv f=>ct (by rw[f.eq];rfl)
 refine CA (by rw[ct];rfl) ?_
 obtain⟨r,xs,ds,rfl,rfl,hr0,tds⟩:=E7 td ct
 have xl:=tds.len
 refine⟨_,rfl,r,_,rfl,.inr (Ar.of hr0),rfl,_,rfl,?_⟩
 by_cases cl:xs.length=3
 rotate_left
 ·refine Cn (by simp;omega) ?_
  exact no H (AG.refl H) λz ls lv f=>cl (by rw[xl];have:=f.eq;injection this with this;rw[this];rfl)
 refine CA (by rw[cl];simp) ?_
 obtain⟨x,y,y2,rfl⟩:∃x y y2,xs=[x,y,y2]:=by
  match xs,cl with
  |[x,y,y2],_=>exact⟨x,y,y2,rfl⟩
 cases tds with
 |cons tx t2=>
  rename_i dx ds2
  cases t2 with
  |cons ty t3=>
   rename_i dy ds3
   cases t3 with
   |cons tz t4=>
    rename_i dz ds4
    cases t4
    obtain⟨shx,smy,smz⟩:=sh dx dy dz rfl
    refine⟨_,rfl,r,_,_,_,rfl,rfl,Ar.of hr0,rfl,x,dx,rfl,tx,shx,λH1 s1=>⟨_,rfl,?_⟩⟩
    by_cases cx:Qm dx=true
    rotate_left
    ·refine Cn (by rw[Bool.eq_false_iff.mpr cx];rfl) ?_
     refine no H1 s1 λz ls lv f=>cx ?_
     have e:=f.eq
     injection e with e
     injection e with e _
     rw[e]
     show(z.cps.toList.all Ir&&(decide (1<=z.length)&&decide (z.length<=60)))=true
     rw[decide_eq_true f.pos,decide_eq_true f.most,List.all_eq_true.mpr λc hc=>F0.mpr (f.low c hc)];rfl
    refine CA (by rw[cx];rfl) ?_
    have hs:Ge dx=true:=by cases dx<;>first|rfl|cases cx
    obtain⟨z,rfl,rfl⟩:=E8 tx hs
    have c':(z.cps.toList.all Ir&&(decide (1<=z.length)&&decide (z.length<=60)))=true:=cx
    rw[Bool.and_eq_true,Bool.and_eq_true,decide_eq_true_eq,decide_eq_true_eq]at c'
    obtain⟨c1,c2,c3⟩:=c'
    have ts:z.length<=sizeLine:=Nat.le_of_lt (AO (by omega))
    refine⟨_,rfl,r,_,_,_,rfl,rfl,Ar.of (s1 _ _ hr0),rfl,z,rfl,ts,?_⟩
    refine⟨_,rfl,r,_,_,_,rfl,rfl,Ar.of (s1 _ _ hr0),rfl,_,rfl,y,dy,z.length,rfl,ty.same s1,smy,λH2 s2=>⟨_,rfl,?_⟩⟩
    have s02:=s1.trans s2
    have inj:∀z' ls lv,Bf (.tuple [.str z,dy,dz]) z' ls lv->z=z'/\dy=.tuple (ls.map .bool)/\dz=.tuple (lv.map .bool):=λz' ls lv f=>by
     have e:=f.eq
     injection e with e
     injection e with e1 e
     injection e with e2 e
     injection e with e3 e
     injection e1 with e1
     exact⟨e1,e2,e3⟩
    by_cases cy:EF z.length dy=true
    rotate_left
    ·refine Cn (by rw[Bool.eq_false_iff.mpr cy];rfl) ?_
     refine no H2 s02 λz' ls lv f=>cy ?_
     obtain⟨e1,e2,e3⟩:=inj z' ls lv f
     rw[e2,e1,<-f.l1];exact F1 ls
    refine CA (by rw[cy];rfl) ?_
    refine⟨_,rfl,r,_,_,_,rfl,rfl,Ar.of (s02 _ _ hr0),rfl,_,rfl,y2,dz,z.length,rfl,tz.same s02,smz,λH3 s3=>⟨_,rfl,?_⟩⟩
    have s03:=s02.trans s3
    by_cases cz:EF z.length dz=true
    rotate_left
    ·refine Cn (by rw[Bool.eq_false_iff.mpr cz];rfl) ?_
     refine no H3 s03 λz' ls lv f=>cz ?_
     obtain⟨e1,e2,e3⟩:=inj z' ls lv f
     rw[e3,e1,<-f.l2];exact F1 lv
    refine CA (by rw[cz];rfl) ?_
    obtain⟨ls,rfl,l1⟩:=E9 cy
    obtain⟨lv,rfl,l2⟩:=E9 cz
    have f0:Bf (.tuple [.str z,.tuple (ls.map .bool),.tuple (lv.map .bool)]) z ls lv:=⟨rfl,l1,l2,c2,c3,λc hc=>F0.mp (List.all_eq_true.mp c1 c hc)⟩
    cases ty with
    |tup ha ua=>
     cases tz with
     |tup hb ub=>
      rename_i a xa b xb
      rw[EB ua]at ha
      rw[EB ub]at hb
      refine⟨_,rfl,r,a,b,z,ls,rfl,s03 _ _ hr0,s03 _ _ ha,by omega,λas rg H4 s4 hf hrg pa=>?_⟩
      have s04:=s03.trans s4
      refine⟨rg,_,rfl,.inl (Am.of hrg),_,rfl,r,_,_,_,rfl,rfl,Ar.of (s04 _ _ hr0),rfl,⟨_,_,rfl,s04 _ _ hb⟩,b,lv,false,rfl,rfl,s04 _ _ hb,rfl,?_⟩
      refine q _ H4 s04 ?_
      rw[decide_eq_true_eq,List.length_map,pa.1]
      constructor
      ·intro e
       refine⟨z,ls,lv,f0,?_⟩
       injection e with e
       have:(((A9 ls).length:Nat):Int)=((lv.count false:Nat):Int):=e
       omega
      ·rintro⟨z',ls',lv',f,e⟩
       obtain⟨_,rfl,rfl⟩:=f0.one f
       rw[e]
def Eb (lms:List Lm):Sp:=λvs H Q _=>∃(v:V) (d:PyData),vs=[v]/\Td H v d/\RF d/\CJ lms H/\∀(b:Bool) (H':Hp),(b=true↔∃z ls lv,Bf d z ls lv/\Dy z ls lv)->Kt lms H H'->Q (.bl b) H'
theorem Jz {lms:List Lm}(D:Df K mg "is_rows" s_is_rows)(B:CK mg)(G_has_form:Bb P w K mg base "has_form" k ["thing"] Jy)(G_rows_of:Bb P w K mg base "rows_of" k ["tree"] (Ib lms))(G_tree_by:Bb P w K mg base "tree_by" k ["rows"] PF):Bb P w K mg base "is_rows" (k+1) ["thing"] (Eb lms):=by
 refine D.has LC (λ_ _ _ _ _ _=>Gy λ_=>rfl) (λvs H Q E h=>by obtain⟨v,d,rfl,_⟩:=h;rfl) (λf cdv A outer s H vs Q E hr h=>?_)
 obtain⟨v,d,rfl,td,sh,L,q⟩:=h
 refine⟨_,(AL (AV (KQ (AK G_has_form hr rfl (AA (pv 0) AD)) (Hx (Bd (Ky K hr) (AK G_rows_of hr rfl (AA (AK G_tree_by hr rfl (AA (pv 0) AD)) AD)) (pv 0) (AZ _)))))),?_⟩
 refine⟨_,rfl,v,d,rfl,td,sh,λbf H1 s1 hbf=>⟨_,rfl,CC (λcf=>?_) (λcf=>?_)⟩⟩
 rotate_left
 ·have:=q false H1 ⟨(λz=>by cases z),λ⟨z,ls,lv,f,ups,lab,ks,R⟩=>absurd (hbf.mpr ⟨z,ls,lv,f,R.gl⟩) cf⟩ (Kt.of s1 L)
  exact this
 obtain⟨txt,ls,lv,fm,form⟩:=hbf.mp cf
 obtain⟨r,rfl,rw0⟩:=fm.rw td
 have rw1:=rw0.same s1
 refine⟨_,rfl,r,txt,ls,lv,txt.length,rfl,rw1,rfl,fm.l1,fm.l2,fm.pos,fm.most,fm.low,form,λt ups lab H2 s2 tr fine byr=>⟨t,ups,lab,rfl,tr,(L.same s1).same s2,λks r' a' b' H3 ko k3 hf3 hr3 ha3 hb3=>?_⟩⟩
 obtain⟨_,_,_,ok⟩:=id tr
 have R0:RO ups lab ks (BK lab ks) ((Al ks).map (Az ups)) ((Al ks).map λj:Nat=>BQ ups (j:Int)):=⟨ok,fine,ko,rfl,rfl,rfl⟩
 have rw3:=(rw1.same s2).kt k3
 obtain⟨a,b,hr4,ha4,hb4⟩:=id rw3
 have ne:r'≠r:=λz=>by
  subst z
  obtain⟨_,_,z,_⟩:=rw1.same s2
  rw[hf3]at z;cases z
 have ha3':H3 a'=some (.tup (((Al ks).map (Az ups)).map V.bl)):=by rw[ha3,List.map_map];rfl
 have hb3':H3 b'=some (.tup (((Al ks).map λj:Nat=>BQ ups (j:Int)).map V.bl)):=by rw[hb3,List.map_map];rfl
 have key:(JB (.str (BK lab ks)) (.str txt)&&(Ci (((Al ks).map (Az ups)).map V.bl) (ls.map V.bl)&&(Ci (((Al ks).map λj:Nat=>BQ ups (j:Int)).map V.bl) (lv.map V.bl)&&true)))=true↔∃z ls lv,Bf d z ls lv/\Dy z ls lv:=by
  rw[Qj,GQ,GQ]
  simp only[Bool.and_eq_true,decide_eq_true_eq,and_true]
  constructor
  ·rintro⟨e1,e2,e3⟩
   rw[e1,e2,e3]at R0
   exact⟨txt,ls,lv,fm,ups,lab,ks,R0⟩
  ·rintro⟨z',ls',lv',fm',ups',lab',ks',R'⟩
   obtain⟨rfl,rfl,rfl⟩:=fm.one fm'
   obtain⟨e1,e2⟩:=R'.by byr
   subst e1 e2
   exact R0.same R'
 generalize(Al ks).map (Az ups)=l1 at ha3' key
 generalize((Al ks).map λj:Nat=>BQ ups (j:Int))=v1 at hb3' key
 refine⟨_,rfl,r',r,_,_,(λi=>[JB (.str (BK lab ks)) (.str txt),Ci (l1.map V.bl) (ls.map V.bl),Ci (v1.map V.bl) (lv.map V.bl)].getD i true),rfl,rfl,ne,Ar.of hr3,Ar.of hr4,rfl,λi x y hx hy=>?_,?_⟩
 ·match i,hx,hy with
  |0,hx,hy=>
   cases hx;cases hy
   exact .inl ⟨rfl,rfl,rfl⟩
  |1,hx,hy=>
   cases hx;cases hy
   exact .inr ⟨a',a,_,_,rfl,rfl,Ar.of ha3',Ar.of ha4,Ck _,Ck _,rfl⟩
  |2,hx,hy=>
   cases hx;cases hy
   exact .inr ⟨b',b,_,_,rfl,rfl,Ar.of hb3',Ar.of hb4,Ck _,Ck _,rfl⟩
  |n+3,hx,hy=>cases hx
 ·exact q _ H3 key ((Kt.of (s1.trans s2) L).trans k3)
end
end S28
namespace L2
open PySem PySem.Spec PyProof.Rows PySem.W
theorem MP:∀{xs:List V} {us:List Value},xs.length=us.length->(∀(j:Nat) (x:V) (u:Value),xs[j]?=some x->us[j]?=some u->RelV x u)->Vals xs us
 |[],[],_,_=>.nil
 |[],_::_,h,_=>by cases h
 |_::_,[],h,_=>by cases h
 |x::xs,u::us,h,r=>.cons (r 0 x u rfl rfl) (MP (by simpa using h) λj y v hy hv=>r (j+1) y v (by simpa using hy) (by simpa using hv))
section
variable {X:Cx}
def Uk:V->Option Int->Option Int->Hp->VK->Prop:=λx lo hi H Q=>∃a xs,x=.ref a/\H a=some (.tup xs)/\∀r H',AG H H'->H' r=some (.tup (Bq xs lo hi))->Q (.ref r) H'
theorem NU {xs:List V}{lo hi:Option Int}(h:HT.BD xs.length 0 lo=0/\HT.BD xs.length xs.length hi=xs.length):Bq xs lo hi=xs:=by
 unfold Bq
 rw[h.1,h.2,List.drop_zero,Nat.sub_zero,List.take_length]
theorem BR:SO X Uk:=by
 intro pins s σ H x v vl vu lo hi sl Q I rx hs pl pu h
 obtain⟨a,xs,rfl,hx,q⟩:=h
 refine MN pins s σ H _ v vl vu lo hi sl Q I rx hs pl pu ⟨a,xs,rfl,Ar.of hx,λw=>?_,λ_ p hp=>?_⟩
 ·exact q a H (AG.refl H) (by rw[NU w];exact hx)
 ·exact q p _ ((AG.refl H).new hp) AB
def Te:R2:=λx y H Q=>∃a b xs ys,x=.ref a/\y=.ref b/\H a=some (.tup xs)/\H b=some (.tup ys)/\xs.length+ys.length<=sizeLine/\∀r H',AG H H'->H' r=some (.tup (xs++ys))->Q (.ref r) H'
theorem By:DS X (binaryOp .Add) Te:=by
 intro pins s σ H x y v u Q I rx ry h
 obtain⟨a,b,xs,ys,rfl,rfl,ha,hb,hz,q⟩:=h
 refine QR pins s σ H _ _ v u Q I rx ry ⟨a,b,xs,ys,rfl,rfl,Ar.of ha,Ar.of hb,hz,λe=>?_,λ_ e=>?_,λ_ _ p hp=>?_⟩
 ·exact q b H (AG.refl H) (by rw[e,List.nil_append];exact hb)
 ·exact q a H (AG.refl H) (by rw[e,List.append_nil];exact ha)
 ·exact q p _ ((AG.refl H).new hp) AB
theorem HI (hc:X.calm=true):Bs X (.type "list") (λxs H Q=>∃z,xs=[.str z]/\z.length<=10000/\∀l,H l=none->Q (.ref l) (upd H l (.lst (signs z)))):=by
 intro pins s σ H xs us Q I r h
 obtain⟨z,rfl,zl,q⟩:=h
 obtain⟨u,rfl,t,rfl⟩:=vals1 r
 have hz:z.cps.size<=10000:=zl
 have hs:10000<=sizeLine:=by rw[sizeLine_eq];decide
 refine call_list_str (I.ok.hd hc) z t (λh' tk acc' c' kp e it=>?_) (by omega)
 have vals:Vals (signs z) acc'.toList:=by
  refine MP (by unfold signs;rw[List.length_map,Array.length_toList,Array.length_toList,it.1]) λj x u hx hu=>?_
  obtain⟨c,tk',hc',rfl⟩:=it.2 j u (by rw[<-Array.getElem?_toList];exact hu)
  unfold signs at hx
  rw[List.getElem?_map,Array.getElem?_toList,hc']at hx
  cases hx
  exact⟨tk',rfl⟩
 exact⟨.ref s.heap.objs.size,_,I.laid (t':=tk) kp (Nat.le_refl _) (show A2 X.prog X.w _ h' _ (.lst (signs z))from⟨by unfold signs;rw[List.length_map,Array.length_toList];omega,acc'.toList,c',vals,by simpa using e⟩),rfl,q _ (I.hok.fresh (Nat.le_refl _))⟩
end
theorem Gd.big {hd hl:Bool}{i:Int}(h:i.natAbs < 10 ^ 60):Gd hd hl 201 0 (.int i):=by
 have e:i.natAbs < 2 ^ 200:=Nat.lt_trans h (by decide)
 have lg:i.natAbs≠0->i.natAbs.log2 < 200:=λn0=>(Nat.log2_lt n0).mpr e
 have l0:i.natAbs.log2 < 200:=by
  by_cases n0:i.natAbs=0
  ·rw[n0];decide
  ·exact lg n0
 refine⟨?_,?_,?_,by simp only[PyData.depth];omega,λ_=>by simp only[PyData.hasDict],λ_=>by simp only[B9]⟩
 ·simp only[PyData.showable,decide_eq_true_eq];omega
 ·simp only[PyData.leavesShort,decide_eq_true_eq]
  have e:=int_text_length_le10 (k:=60) (by decide) h
  show(Str.ofString (toString i)).length<=61
  rw[PySem.ofString_length];exact e
 ·simp only[PyData.weight]
  split<;>omega
end L2
namespace S28
open PySem L2 W7
structure Exs (K:PySem.W.Frag)(mg:Str->Option Value) where
 c_UpError:Addr
 m_UpError:mg "UpError"=some (.ref c_UpError)
 c_NoPlace:Addr
 m_NoPlace:mg "NoPlace"=some (.ref c_NoPlace)
 c_NoRows:Addr
 m_NoRows:mg "NoRows"=some (.ref c_NoRows)
 c_NoRuns:Addr
 m_NoRuns:mg "NoRuns"=some (.ref c_NoRuns)
 c_NoText:Addr
 m_NoText:mg "NoText"=some (.ref c_NoText)
 c_NoTree:Addr
 m_NoTree:mg "NoTree"=some (.ref c_NoTree)
 q_NoRows:PySem.W.excIn K c_NoRows Uc "ValueError.__new__"=true
 z_NoRows:Q8 K c_NoRows
 u_NoRows:PySem.W.exmOne K (.ref c_NoRows) (.ref c_UpError)=some true
 xm:PySem.W.exmOne K (.ref c_NoRows) (.ref c_NoRows)=some true
 pa:PySem.W.kitAny K (.ref c_NoRows) ([c_NoPlace,c_NoRuns,c_NoText,c_NoTree].map Value.ref)=some false
section
variable {P:Program}{w:World}{K:PySem.W.Frag}{mg:Str->Option Value}{base:Heap}{k:Nat}
def Gh (lms:List Lm)(cR:Addr):Sp:=λvs H Q E=>∃(v:V) (d:PyData),vs=[v]/\Td H v d/\RF d/\CJ lms H/\
 (∀z ls lv ups lab ks,Bf d z ls lv->RO ups lab ks z ls lv->∀(t:Addr) (H':Hp),Kt lms H H'->BE H' t ups lab->Q (.ref t) H')/\
 ((∀z ls lv,Bf d z ls lv->¬Dy z ls lv)->∀a H',Kt lms H H'->H' a=none->E (.ref a) (some cR) H')
theorem J0 {lms:List Lm}(EX:Exs K mg)(D:Df K mg "tree_of" s_tree_of)(B:CK mg)(G_is_rows:Bb P w K mg base "is_rows" k ["thing"] (Eb lms))(G_tree_by:Bb P w K mg base "tree_by" k ["rows"] PF):QV P w K mg base "tree_of" (k+1) ["rows"] (Gh lms EX.c_NoRows):=by
 refine D.Ud LD (λ_ _ _ _ _ _=>Gy λ_=>rfl) (λvs H Q E h=>by obtain⟨v,d,rfl,_⟩:=h;rfl) (λf cdv A outer s H vs Q E hr h=>?_)
 obtain⟨v,d,rfl,td,sh,L,q,qe⟩:=h
 refine⟨_,(AE (Bk (B3 (Bj (AK G_is_rows hr rfl (AA (pv 0) AD))))
 (AL (Oc M5 EX.m_NoRows EX.q_NoRows rfl (AA Bi AD)))
 Av)
 (AL (AV (AK G_tree_by hr rfl (AA (pv 0) AD))))),?_⟩
 refine⟨_,rfl,v,d,rfl,td,sh,L,λb H1 hb k1=>⟨_,rfl,?_⟩⟩
 by_cases cb:b=true
 rotate_left
 ·refine Cn (by rw[Bool.eq_false_iff.mpr cb];rfl) ?_
  exact⟨(by show 1<=sizeLine;decide),λa ha=>qe (λz ls lv f r=>cb (hb.mpr ⟨z,ls,lv,f,r⟩)) a H1 k1 ha⟩
 refine CA (by rw[cb];rfl) ?_
 obtain⟨z,ls,lv,fm,ups,lab,ks,R⟩:=hb.mp cb
 obtain⟨r,rfl,rw0⟩:=fm.rw td
 refine⟨_,rfl,r,z,ls,lv,ups.length,rfl,rw0.kt k1,R.Py,R.sl,R.vl,R.ok.pos,R.ok.most,R.low,R.gl,λt us lb H2 s2 tr fine byr=>?_⟩
 obtain⟨e1,e2⟩:=R.by byr
 subst e1 e2
 exact q z ls lv us lb ks fm R t H2 (k1.same s2) tr
def MQ (lms:List Lm):Sp:=λvs H Q _=>∃(v:V) (d:PyData),vs=[v]/\Td H v d/\RF d/\CJ lms H/\
 (∀z ls lv ups lab ks,Bf d z ls lv->RO ups lab ks z ls lv->∀(t:Addr) (H':Hp),Kt lms H H'->BE H' t ups lab->Q (.ref t) H')/\
 ((∀z ls lv,Bf d z ls lv->¬Dy z ls lv)->∀H',Kt lms H H'->Q (.str (Str.ofString "NoRows")) H')
theorem PV {lms:List Lm}(EX:Exs K mg)(D:Df K mg "_law_told" s_law_told)(B:CK mg)(G_tree_of:QV P w K mg base "tree_of" k ["rows"] (Gh lms EX.c_NoRows)):Bb P w K mg base "_law_told" (k+1) ["thing"] (MQ lms):=by
 refine D.has Fi (λ_ _ _ _ _ _=>Gy λ_=>rfl) (λvs H Q E h=>by obtain⟨v,d,rfl,_⟩:=h;rfl) (λf cdv A outer s H vs Q E hr h=>?_)
 obtain⟨v,d,rfl,td,sh,L,q,qe⟩:=h
 refine⟨_,(AL (Rr (λpn xe E σ0 hx=>(AL (AV (Od G_tree_of hx hr rfl (AA (pv 0) AD)))))
 (TQ rfl EX.m_NoRows Fi.nd (i:=1) rfl rfl (λa=>(AL (AV (AR Ap (Ai (AA Bi (AA Bi AD))) (Ao CG rfl B.int_ ET (AA (AM (Gv K) rfl B.isinstance Au (AA (pv 1) (AA (Ak (AA (D0 (x:="NoPlace") (v:=.ref EX.c_NoPlace) rfl EX.m_NoPlace rfl) (AA (D0 (x:="NoRuns") (v:=.ref EX.c_NoRuns) rfl EX.m_NoRuns rfl) (AA (D0 (x:="NoText") (v:=.ref EX.c_NoText) rfl EX.m_NoText rfl) (AA (D0 (x:="NoTree") (v:=.ref EX.c_NoTree) rfl EX.m_NoTree rfl) AD))))) AD))) AD)) (λ_ _=>rfl)))))))),?_⟩
 refine⟨rfl,_,rfl,v,d,rfl,td,sh,L,q,λn a H1 k1 ha=>?_⟩
 refine⟨a,EX.c_NoRows,rfl,rfl,EX.xm,?_⟩
 have sA:AG H1 (upd H1 a (Fo a EX.c_NoRows)):=(AG.refl H1).new ha
 have hA:upd H1 a (Fo a EX.c_NoRows) a=some (Fo a EX.c_NoRows):=AB
 generalize upd H1 a (Fo a EX.c_NoRows)=HA at sA hA
 refine⟨(by show 2<=sizeLine;decide),λl hl=>?_⟩
 have sB:AG HA (upd HA l (.lst [.str (Str.ofString "NoRows"),.str (Str.ofString "odd")])):=(AG.refl HA).new hl
 have hB:upd HA l (.lst [.str (Str.ofString "NoRows"),.str (Str.ofString "odd")]) l=some (.lst [.str (Str.ofString "NoRows"),.str (Str.ofString "odd")]):=AB
 show(λHH=>_) (upd HA l (.lst [.str (Str.ofString "NoRows"),.str (Str.ofString "odd")]))
 generalize upd HA l (.lst [.str (Str.ofString "NoRows"),.str (Str.ofString "odd")])=HB at sB hB
 have hA2:=sB _ _ hA
 refine⟨_,rfl,(by show 4<=sizeLine;decide),λt7 ht7=>?_⟩
 have sC:AG HB (upd HB t7 (.tup ([EX.c_NoPlace,EX.c_NoRuns,EX.c_NoText,EX.c_NoTree].map V.ref))):=(AG.refl HB).new ht7
 refine⟨a,EX.c_NoRows,t7,[EX.c_NoPlace,EX.c_NoRuns,EX.c_NoText,EX.c_NoTree],false,rfl,sC _ _ hA2,AB,EX.z_NoRows,EX.pa,?_⟩
 show(λHH=>_) (upd HB t7 (.tup ([EX.c_NoPlace,EX.c_NoRuns,EX.c_NoText,EX.c_NoTree].map V.ref)))
 generalize upd HB t7 (.tup ([EX.c_NoPlace,EX.c_NoRuns,EX.c_NoText,EX.c_NoTree].map V.ref))=HC at sC
 exact .inr ⟨_,rfl,l,_,_,_,rfl,rfl,Am.of (sC _ _ hB),rfl,qe n _ (((k1.same sA).same sB).same sC)⟩
end
end S28
namespace S28
open PySem L2 W7
theorem Qn {d:PyData}{m:Nat}{ds:List PyData}(e:d=.tuple ds)(l:ds.length=m)(f:ds.filter (λx=>!DA x)=[]):EF m d=true:=by
 subst e
 show(decide _&&_)=true
 rw[decide_eq_true l,Bool.true_and,List.all_eq_true]
 intro x hx
 have:=List.filter_eq_nil_iff.mp f x hx
 simpa using this
theorem PX {ds:List PyData}{m:Nat}(h:EF m (.tuple ds)=true):ds.length=m/\ds.filter (λx=>!DA x)=[]:=by
 have h':(decide (ds.length=m)&&ds.all DA)=true:=h
 rw[Bool.and_eq_true,decide_eq_true_eq,List.all_eq_true]at h'
 exact⟨h'.1,List.filter_eq_nil_iff.mpr λx hx=>by simpa using h'.2 x hx⟩
theorem Qo {α β:Type}(f:α->β)(l:List α):(l.map f).isEmpty=l.isEmpty:=by cases l<;>rfl
section
variable {P:Program}{w:World}{K:PySem.W.Frag}{mg:Str->Option Value}{base:Heap}{k:Nat}
def Gi:Sp:=λvs H Q _=>∃(v:V) (d:PyData),vs=[v]/\Td H v d/\RF d/\∀(b:Bool) (H':Hp),AG H H'->(b=true↔∃z ls lv,Bf d z ls lv/\ls.getD 0 false=true)->Q (.bl b) H'
theorem NV (D:Df K mg "_law_form" s_law_form)(B:CK mg):Bb P w K mg base "_law_form" (k+1) ["thing"] Gi:=by
 refine D.has Dr (λ_ _ _ _ _ _=>Gy λ_=>rfl) (λvs H Q E h=>by obtain⟨v,d,rfl,_⟩:=h;rfl) (λf cdv A outer s H vs Q E hr h=>?_)
 obtain⟨v,d,rfl,td,sh,q⟩:=h
 refine⟨_,(AE (Bk (PW.pt (DN (B3 (Bj (AM Ba rfl B.isinstance Au (AA (pv 0) (AA (CZ (v:=.ty "tuple") rfl B.tuple_ BW rfl) AD))))) (DN (Ab FZ (AM Ad rfl B.len Aw (AA (pv 0) AD)) AF (AZ _)) (DB (B3 (Bj (AM Ba rfl B.isinstance Au (AA (AR Aj (pv 0) AF (λ_ _=>rfl)) (AA (CZ (v:=.ty "str") rfl B.str_ N4 rfl) AD)))))))))
 (AL (AV DM))
 Av)
 (AE (AN (i:=1) Dr.nd rfl (by first|exact Or.inl rfl|exact Or.inr rfl) (AM A4 rfl B.len Aw (AA (AR Aj (pv 0) AF (λ_ _=>rfl)) AD)))
 (AE (Bk (PW.pt (DN (Ab I0 (pv 1) AF (AZ _)) (DN (Ab Lf (pv 1) AF (AZ _)) (DB (Ab (FQ hr.IA) (BL rfl (Ks (AR Aj (pv 0) AF (λ_ _=>rfl))) (NL:=["sign"]) (ix:=[]) (GB (AJ s_law_form) EZ) (λcl C s₃ H₃ fp pins=>⟨(AQ (i:=0) (show List.Nodup (["sign"]:List Str)from by decide+kernel) rfl (by first|exact Or.inl rfl|exact Or.inr rfl)),(DZ (Ab Hz (pv 0) Bi (by with_unfolding_all rfl))),(pv 0)⟩)) (Ai AD) (AZ _))))))
 (AL (AV DM))
 Av)
 (AE (CF PassesOwn.never rfl (Hy (Aa MN (pv 0) (Ac AF) Aq)) (AQ (i:=2) Dr.nd rfl (by first|exact Or.inl rfl|exact Or.inr rfl))
 (AE (Bk (PW.pt (DN (B3 (Bj (AM Ba rfl B.isinstance Au (AA (pv 2) (AA (CZ (v:=.ty "tuple") rfl B.tuple_ BW rfl) AD))))) (DB (Ab FZ (AM Ad rfl B.len Aw (AA (pv 2) AD)) (pv 1) (AZ _)))))
 (AL (AV DM))
 Av)
 (AL (Bk (Ab (FQ hr.IA) (BL rfl (Hy (pv 2)) (NL:=["mark"]) (ix:=[]) (GB (AJ s_law_form) EZ) (λcl C s₃ H₃ fp pins=>⟨(AQ (i:=0) (show List.Nodup (["mark"]:List Str)from by decide+kernel) rfl (by first|exact Or.inl rfl|exact Or.inr rfl)),(DZ (B3 (Bj (AM (Ep K) rfl B.isinstance Au (AA (pv 0) (AA (CZ (v:=.ty "bool") rfl B.bool_ IL rfl) AD)))))),(pv 0)⟩)) (Ai AD) (AZ _))
 (AL (AV DM))
 Av))))
 (AL (AV (AR Aj (AR Aj (pv 0) AF (λ_ _=>rfl)) AF (λ_ _=>rfl)))))))),?_⟩
 first|(dsimp only[Bp,Cx.Ft];generalize hK:K=K';revert K' hK;refine Dn (Ae <|Ae <|Ae <|Ae <|λ_=>rfl) ?_)|skip
 have no:∀H',AG H H'->(∀z ls lv,¬Bf d z ls lv)->Q (.bl false) H':=λH' s n=>q false H' s ⟨(λz=>by cases z),λ⟨z,ls,lv,f,_⟩=>absurd f (n z ls lv)⟩
 obtain⟨t1,a1,a2⟩:=Ie (K:=K) td
 refine⟨_,rfl,_,t1,"tuple",_,rfl,a1,a2,_,rfl,?_⟩
 by_cases ct:FW d=true
 rotate_left
 ·refine Cn (by rw[Bool.eq_false_iff.mpr ct];rfl) (IF ?_)
  exact no H (AG.refl H) λz ls lv f=>ct (by rw[f.eq];rfl)
 refine CA (by rw[ct];rfl) ?_
 obtain⟨r,xs,ds,rfl,rfl,hr0,tds⟩:=E7 td ct
 have xl:=tds.len
 refine⟨_,rfl,r,_,rfl,.inr (Ar.of hr0),rfl,_,rfl,?_⟩
 by_cases cl:xs.length=3
 rotate_left
 ·refine Cn (by simp;omega) (IF ?_)
  exact no H (AG.refl H) λz ls lv f=>cl (by rw[xl];have:=f.eq;injection this with this;rw[this];rfl)
 refine CA (by rw[cl];simp) ?_
 obtain⟨x,y,y2,rfl⟩:∃x y y2,xs=[x,y,y2]:=by
  match xs,cl with
  |[x,y,y2],_=>exact⟨x,y,y2,rfl⟩
 cases tds with
 |cons tx t2=>
  rename_i dx ds2
  cases t2 with
  |cons ty t3=>
   rename_i dy ds3
   cases t3 with
   |cons tz t4=>
    rename_i dz ds4
    cases t4
    obtain⟨shx,smy,smz⟩:=sh dx dy dz rfl
    have inj:∀z' ls lv,Bf (.tuple [dx,dy,dz]) z' ls lv->dx=.str z'/\dy=.tuple (ls.map .bool)/\dz=.tuple (lv.map .bool):=λz' ls lv f=>by
     have e:=f.eq
     injection e with e
     injection e with e1 e
     injection e with e2 e
     injection e with e3 e
     exact⟨e1,e2,e3⟩
    obtain⟨t5,b1,b2⟩:=PQ (K:=K) tx
    refine⟨_,rfl,r,_,_,_,rfl,rfl,Ar.of hr0,rfl,_,t5,"str",_,rfl,b1,b2,_,rfl,?_⟩
    by_cases cx:Ge dx=true
    rotate_left
    ·refine Cn (by rw[Bool.eq_false_iff.mpr cx];rfl) ?_
     exact no H (AG.refl H) λz ls lv f=>cx (by rw[(inj z ls lv f).1];rfl)
    refine CA (by rw[cx];rfl) ?_
    obtain⟨z,rfl,rfl⟩:=E8 tx cx
    obtain⟨z9,zc⟩:=shx z rfl
    have ts:z.length<=sizeLine:=Nat.le_of_lt (AO (by omega))
    refine⟨_,rfl,r,_,_,_,rfl,rfl,Ar.of hr0,rfl,_,rfl,ts,?_⟩
    refine⟨_,rfl,_,_,rfl,rfl,_,rfl,CC (λc=>?_) (λc=>?_)⟩
    ·have c':(z.length:Int) < 1:=of_decide_eq_true c
     refine IF ?_
     refine no H (AG.refl H) λz' ls lv f=>?_
     have e:=(inj z' ls lv f).1
     injection e with e
     subst e
     have:=f.pos
     omega
    have z1:1<=z.length:=by
     by_cases h:1<=z.length
     ·exact h
     ·exact absurd (decide_eq_true (by omega)) c
    refine⟨_,rfl,_,_,rfl,rfl,_,rfl,CC (λc60=>?_) (λc60=>?_)⟩
    ·have c':=of_decide_eq_true c60
     refine IF ?_
     refine no H (AG.refl H) λz' ls lv f=>?_
     have e:=(inj z' ls lv f).1
     injection e with e
     subst e
     have:=f.most
     omega
    have zs:z.cps.size<=900:=z9
    refine⟨_,rfl,r,_,_,_,rfl,rfl,Ar.of hr0,rfl,_,rfl,λacc hacc=>?_⟩
    refine JP (by omega) (λi ys HX=>HX acc=some (.lst ys)/\AG H HX/\ys=((z.cps.toList.take i).filter λc=>!Ir c).map λc=>V.str ⟨#[c]⟩)
     (λi ys HX h=>⟨h.1,by rw[h.2.2,List.length_map];exact Nat.le_trans (List.length_filter_le _ _) (by rw[List.length_take];omega)⟩) ⟨AB,(AG.refl H).new hacc,rfl⟩ ?_ ?_
    rotate_left
    ·rintro i ch ys HX hc ⟨g1,g2,rfl⟩
     have hc':z.cps.toList[i]?=some ch:=by rw[<-Array.getElem?_toList]at hc;exact hc
     have tk:z.cps.toList.take (i+1)=z.cps.toList.take i++[ch]:=by rw[List.take_succ,hc'];rfl
     refine⟨rfl,_,rfl,_,_,rfl,rfl,_,rfl,?_⟩
     rw[PR (zc ch (List.mem_of_getElem? hc')),tk,List.filter_append]
     by_cases lb:Ir ch=true
     ·refine CA (by rw[lb];rfl) ⟨g1,g2,?_⟩
      rw[List.filter_cons_of_neg (by rw[lb];simp)];simp
     ·refine Cn (by rw[Bool.eq_false_iff.mpr lb];rfl) ⟨_,rfl,g1,AB,g2.write hacc,?_⟩
      rw[List.filter_cons_of_pos (by rw[Bool.eq_false_iff.mpr lb];rfl),List.map_append];rfl
    rintro ys H1 ⟨g1,s1,rfl⟩
    have full:z.cps.toList.take z.cps.size=z.cps.toList:=by rw[<-Array.length_toList,List.take_length]
    rw[full]at g1
    refine⟨(by show 0<=sizeLine;decide),λe0 he0=>?_⟩
    have s2:AG H1 (upd H1 e0 (.lst [])):=(AG.refl H1).new he0
    refine⟨acc,e0,_,rfl,rfl,Am.of (s2 _ _ g1),Am.of AB,_,rfl,?_⟩
    show(λHH=>_) (upd H1 e0 (.lst []))
    generalize upd H1 e0 (.lst [])=H2 at s2
    rw[Qo]
    by_cases lo:(z.cps.toList.filter λc=>!Ir c).isEmpty=true
    rotate_left
    ·refine Cn (by rw[Bool.eq_false_iff.mpr lo];rfl) ?_
     refine no H2 (s1.trans s2) λz' ls lv f=>lo ?_
     have e:=(inj z' ls lv f).1
     injection e with e
     subst e
     rw[List.isEmpty_iff,List.filter_eq_nil_iff]
     intro c hc
     rw[F0.mpr (f.low c hc)];simp
    refine CA (by rw[lo];rfl) ?_
    have low:∀c∈z.cps.toList,Lw c:=λc hc=>by
     rw[List.isEmpty_iff,List.filter_eq_nil_iff]at lo
     have:=lo c hc
     exact F0.mp (by simpa using this)
    have z60:z.length<=60:=by
     by_cases h:z.length<=60
     ·exact h
     ·exact absurd (decide_eq_true (by omega)) c60
    have s02:=s1.trans s2
    refine⟨_,rfl,_,rfl,r,_,rfl,Ar.of (s02 _ _ hr0),λwh=>absurd (show(1:Nat)=0 from wh.1) (by decide),λnw p hp=>?_⟩
    rw[show Bq [V.str z,y,y2] (some 1) none=[y,y2]from rfl]
    have s3:AG H2 (upd H2 p (.tup [y,y2])):=(AG.refl H2).new hp
    have h3:upd H2 p (.tup [y,y2]) p=some (.tup [y,y2]):=AB
    show(λHH=>_) (upd H2 p (.tup [y,y2]))
    generalize upd H2 p (.tup [y,y2])=H3 at s3 h3
    have s03:=s02.trans s3
    refine⟨p,rfl,⟨_,Ar.of h3⟩,?_⟩
    refine P5 (K:=K) (xs:=[y,y2]) (λi σ HX=>∃o2:Option V,σ=[some (.ref r),some (.int (z.length:Int)),o2]/\AG H3 HX/\(0 < i->EF z.length dy=true)/\(1 < i->EF z.length dz=true))
     ⟨none,rfl,AG.refl H3,(λz=>absurd z (Nat.lt_irrefl _)),λz=>absurd z (by decide)⟩ (λi σ HX _ h=>by obtain⟨_,_,s,_⟩:=h;exact Ar.of (s _ _ h3)) ?_ ?_
    ·rintro i v σ HX hv ⟨o2,rfl,sX,f1,f2⟩
     have s0X:=s03.trans sX
     obtain⟨dv,tv,sv,nv,gv⟩:∃dv,Td H v dv/\SU dv/\(EF z.length dv≠true->∀z' ls lv,¬Bf (.tuple [.str z,dy,dz]) z' ls lv)/\(EF z.length dv=true->(0 < i+1->EF z.length dy=true)/\(1 < i+1->EF z.length dz=true)):=by
      match i,hv,f1 with
      |0,hv,_=>
       cases hv
       refine⟨dy,ty,smy,λn z' ls lv f=>n ?_,λg=>⟨λ_=>g,λz=>absurd z (by decide)⟩⟩
       obtain⟨e1,e2,e3⟩:=inj z' ls lv f
       injection e1 with e1
       rw[e2,e1,<-f.l1];exact F1 ls
      |1,hv,f1=>
       cases hv
       refine⟨dz,tz,smz,λn z' ls lv f=>n ?_,λg=>⟨λ_=>f1 (by decide),λ_=>g⟩⟩
       obtain⟨e1,e2,e3⟩:=inj z' ls lv f
       injection e1 with e1
       rw[e3,e1,<-f.l2];exact F1 lv
      |n+2,hv,_=>cases hv
     obtain⟨t6,c1,c2⟩:=Ie (K:=K) (tv.same s0X)
     refine⟨_,rfl,_,t6,"tuple",_,rfl,c1,c2,_,rfl,?_⟩
     by_cases cv:FW dv=true
     rotate_left
     ·refine Cn (by rw[Bool.eq_false_iff.mpr cv];rfl) (IF ?_)
      exact no HX s0X (nv (λz=>cv (by obtain⟨bs,e,_⟩:=E9 z;rw[e];rfl)))
     refine CA (by rw[cv];rfl) ?_
     obtain⟨a,vs,es,rfl,rfl,ha,tvs⟩:=E7 tv cv
     have vl:=tvs.len
     have v9:=sv es rfl
     refine⟨_,rfl,a,_,rfl,.inr (Ar.of (s0X _ _ ha)),_,rfl,rfl,_,rfl,?_⟩
     by_cases cm:vs.length=z.length
     rotate_left
     ·refine Cn (by simp;omega) ?_
      exact no HX s0X (nv (λq=>cm (by have:=(PX q).1;omega)))
     refine CA (by rw[cm];simp) ?_
     refine⟨_,rfl,a,rfl,⟨_,Ar.of (s0X _ _ ha)⟩,λac hac=>?_⟩
     refine FP (xs:=vs) (by omega) (λj ys HY=>HY ac=some (.lst ys)/\AG HX HY/\ys.length=((es.take j).filter λx=>!DA x).length)
      (λj ys HY h=>Ar.of (h.2.1 _ _ (s0X _ _ ha))) (λj ys HY h=>⟨h.1,by rw[h.2.2];exact Nat.le_trans (List.length_filter_le _ _) (by rw[List.length_take];omega)⟩) ⟨AB,(AG.refl HX).new hac,rfl⟩ ?_ ?_
     rotate_left
     ·rintro j w1 ys HY hw ⟨g1,g2,g3⟩
      obtain⟨dw,ew,tw⟩:=tvs.get hw
      have tk:es.take (j+1)=es.take j++[dw]:=by rw[List.take_succ,ew];rfl
      obtain⟨t7,i1,i2⟩:=RE (K:=K) (tw.same (s0X.trans g2))
      refine⟨rfl,_,rfl,_,t7,"bool",_,rfl,i1,i2,_,rfl,?_⟩
      rw[tk,List.filter_append]
      by_cases lb:DA dw=true
      ·refine CA (by rw[lb];rfl) ⟨g1,g2,?_⟩
       rw[List.filter_cons_of_neg (by rw[lb];simp)];simpa using g3
      ·refine Cn (by rw[Bool.eq_false_iff.mpr lb];rfl) ⟨_,rfl,g1,AB,g2.write hac,?_⟩
       rw[List.filter_cons_of_pos (by rw[Bool.eq_false_iff.mpr lb];rfl),List.length_append,List.length_append,g3];rfl
     rintro ys HY ⟨g1,g2,g3⟩
     rw[vl,List.take_length]at g3
     refine⟨(by show 0<=sizeLine;decide),λe1 he1=>?_⟩
     have s4:AG HY (upd HY e1 (.lst [])):=(AG.refl HY).new he1
     refine⟨ac,e1,_,rfl,rfl,Am.of (s4 _ _ g1),Am.of AB,_,rfl,?_⟩
     show(λHH=>_) (upd HY e1 (.lst []))
     generalize upd HY e1 (.lst [])=HZ at s4
     have s0Z:=(s0X.trans g2).trans s4
     by_cases lo:ys.isEmpty=true
     rotate_left
     ·refine Cn (by rw[Bool.eq_false_iff.mpr lo];rfl) ?_
      refine no HZ s0Z (nv λq=>lo ?_)
      rw[(PX q).2]at g3
      rw[List.isEmpty_iff]
      exact List.eq_nil_of_length_eq_zero g3
     refine CA (by rw[lo];rfl) ?_
     have yn:ys=[]:=List.isEmpty_iff.mp lo
     rw[yn]at g3
     have good:EF z.length (.tuple es)=true:=Qn rfl (by omega) (List.eq_nil_of_length_eq_zero g3.symm)
     obtain⟨p1,p2⟩:=gv good
     exact⟨_,rfl,(sX.trans g2).trans s4,p1,p2⟩
    ·rintro σ HX ⟨o2,rfl,sX,f1,f2⟩
     have g1:=f1 (by show 0 < 2;decide)
     have g2:=f2 (by show 1 < 2;decide)
     obtain⟨ls,rfl,l1⟩:=E9 g1
     obtain⟨lv,rfl,l2⟩:=E9 g2
     have s0X:=s03.trans sX
     have f0:Bf (.tuple [.str z,.tuple (ls.map .bool),.tuple (lv.map .bool)]) z ls lv:=⟨rfl,l1,l2,z1,z60,low⟩
     cases ty with
     |tup ha ua=>
      rename_i a xa
      rw[EB ua]at ha
      have e0:(ls.map V.bl)[0]?=some (.bl (ls.getD 0 false)):=by
       rw[List.getElem?_map,List.getElem?_eq_getElem (by omega:0 < ls.length),List.getD_eq_getElem?_getD,List.getElem?_eq_getElem (by omega:0 < ls.length)];rfl
      have hat:=A0 (xs:=ls.map V.bl) (j:=0) e0
      refine⟨_,rfl,r,_,_,_,rfl,rfl,Ar.of (s0X _ _ hr0),rfl,a,_,_,_,rfl,rfl,Ar.of (s0X _ _ ha),hat,?_⟩
      refine q _ HX s0X ⟨λe=>⟨z,ls,lv,f0,e⟩,?_⟩
      rintro⟨z',ls',lv',f,e⟩
      obtain⟨_,rfl,_⟩:=f0.one f
      exact e
end
end S28
namespace S28
open PySem L2 W7
theorem MR:D9 (0,0)=[]:=rfl
theorem PY {last:Nat->Bool}{n first:Nat}{gs:List (Nat×Nat)}{so:List Nat}(I:W29.GI last n gs first)(n1:1<=n)(nd:so.Nodup):LS (kids gs so) n:=by
 have key:∀r y,y∈kids gs so r->r∈so/\∃h:so.idxOf r < gs.length,(gs[so.idxOf r]).1<=y/\y < (gs[so.idxOf r]).2:=λr y hy=>by
  by_cases hm:r∈so
  ·rw[EA hm]at hy
   by_cases jl:so.idxOf r < gs.length
   ·rw[List.getD_eq_getElem?_getD,List.getElem?_eq_getElem jl]at hy
    exact⟨hm,jl,MM.mp hy⟩
   ·rw[List.getD_eq_getElem?_getD,List.getElem?_eq_none (by omega)]at hy
    exact absurd hy (by show¬y∈D9 (0,0);rw[MR];exact List.not_mem_nil)
  ·rw[C8 hm]at hy;cases hy
 refine⟨n1,λr y hy=>?_,λr=>?_,λr r' y hy hy'=>?_⟩
 ·obtain⟨_,jl,a,b⟩:=key r y hy
  obtain⟨g1,g2,g3,_⟩:=I.mem _ (List.getElem_mem jl)
  have:=I.f2
  rcases I.f2 with z|z<;>omega
 ·by_cases hm:r∈so
  ·rw[EA hm]
   unfold D9
   exact List.Pairwise.map _ (λa b ab e=>ab (by omega)) List.nodup_range
  ·rw[C8 hm];exact List.nodup_nil
 ·obtain⟨m1,j1,a1,b1⟩:=key r y hy
  obtain⟨m2,j2,a2,b2⟩:=key r' y hy'
  have pw:=List.pairwise_iff_getElem.mp I.pw
  have e:so.idxOf r=so.idxOf r':=by
   rcases Nat.lt_trichotomy (so.idxOf r) (so.idxOf r')with z|z|z
   ·have:=pw _ _ j1 j2 z;omega
   ·exact z
   ·have:=pw _ _ j2 j1 z;omega
  have x1:=List.getElem_idxOf (List.idxOf_lt_length_of_mem m1)
  have x2:=List.getElem_idxOf (List.idxOf_lt_length_of_mem m2)
  rw[<-x1,<-x2]
  congr 1
def KN (txt:Str)(lv:List Bool)(m c:Nat):List Nat:=(ff lv m).filter λr=>decide (txt.cps.toList.getD r 0=c)
theorem PZ (txt:Str)(lv:List Bool)(c:Nat):KN txt lv 0 c=[]:=rfl
theorem KA (txt:Str)(lv:List Bool)(m c:Nat):KN txt lv (m+1) c=if lv.getD m true=false/\txt.cps.toList.getD m 0=c then KN txt lv m c++[m]else KN txt lv m c:=by
 unfold KN
 rw[Fz]
 by_cases h1:lv.getD m true=false
 ·rw[if_pos h1,List.filter_append]
  by_cases h2:txt.cps.toList.getD m 0=c
  ·rw[if_pos ⟨h1,h2⟩,List.filter_cons_of_pos (by simpa using h2)];rfl
  ·rw[if_neg (λz=>h2 z.2),List.filter_cons_of_neg (by simpa using h2)];simp
 ·rw[if_neg h1,if_neg λz=>h1 z.1]
theorem FA {txt:Str}{lv:List Bool}{m c r:Nat}:r∈KN txt lv m c↔r∈ff lv m/\txt.cps.toList.getD r 0=c:=by
 unfold KN;rw[List.mem_filter,decide_eq_true_eq]
def MS (txt:Str)(lv:List Bool)(n:Nat):Nat->List Nat
 |0=>[]
 |c+1=>MS txt lv n c++KN txt lv n (97+c)
theorem FC {txt:Str}{lv:List Bool}{n r:Nat}:∀c,r∈MS txt lv n c↔r∈ff lv n/\97<=txt.cps.toList.getD r 0/\txt.cps.toList.getD r 0 < 97+c
 |0=>by
  constructor
  ·intro h;cases h
  ·rintro⟨_,a,b⟩;omega
 |c+1=>by
  show r∈MS txt lv n c++_↔_
  rw[List.mem_append,FC c,FA]
  constructor
  ·rintro(⟨a,b,d⟩|⟨a,b⟩)
   ·exact⟨a,b,by omega⟩
   ·exact⟨a,by omega,by omega⟩
  ·rintro⟨a,b,d⟩
   by_cases e:txt.cps.toList.getD r 0=97+c
   ·exact .inr ⟨a,e⟩
   ·exact .inl ⟨a,b,by omega⟩
theorem Tf (lv:List Bool)(n:Nat):(ff lv n).Pairwise (·<·):=List.Pairwise.sublist List.filter_sublist List.pairwise_lt_range
theorem Ij (txt:Str)(lv:List Bool)(n:Nat):∀c,(MS txt lv n c).Pairwise (Qg txt)
 |0=>.nil
 |c+1=>by
  refine List.pairwise_append.mpr ⟨Ij txt lv n c,?_,λa ha b hb=>?_⟩
  ·refine List.Pairwise.imp_of_mem (R:=(·<·)) (λ{a b} ha hb h=>?_) (List.Pairwise.sublist List.filter_sublist (Tf lv n))
   have ea:=(FA.mp ha).2
   have eb:=(FA.mp hb).2
   exact .inr ⟨by rw[ea,eb],h⟩
  ·have ea:=(FC c).mp ha
   have eb:=(FA.mp hb).2
   exact .inl (by omega)
theorem FX (txt:Str)(lv:List Bool)(n c:Nat):(MS txt lv n c).Nodup:=by
 refine List.Pairwise.imp (R:=Qg txt) (λ{a b} h e=>?_) (Ij txt lv n c)
 subst e
 rcases h with h|⟨_,h⟩<;>omega
theorem Pa {txt:Str}{lv:List Bool}{n:Nat}(low:∀c∈txt.cps.toList,Lw c)(hn:n<=txt.cps.toList.length):(MS txt lv n 26).Perm (ff lv n):=by
 refine(List.perm_ext_iff_of_nodup (FX txt lv n 26) (Dx lv n)).mpr λr=>?_
 rw[FC]
 refine⟨λh=>h.1,λh=>⟨h,?_⟩⟩
 have rl:=MI h
 have e:txt.cps.toList.getD r 0=txt.cps.toList[r]:=by rw[List.getD_eq_getElem?_getD,List.getElem?_eq_getElem (by omega)];rfl
 have:=low _ (List.getElem_mem (show r < txt.cps.toList.length by omega))
 rw[e]
 exact this
end S28
namespace W100
open PySem PySem.SetTable
end W100
namespace L2
open PySem PySem.Spec PyProof.Rows PySem.W
theorem Qp {z:Str}{g:TG}{tb:TS}{D:Ends}{σ:St}{H:Hp}(Pv:Nat->St->Hp->Prop)(h0:Pv 0 σ H)
 (hs:∀i c σ H,z.cps.toList[i]?=some c->Pv i σ H->g (.str ⟨#[c]⟩) σ H λσ2 H2=>tb { D with nx:=Pv (i+1),ct:=Pv (i+1),bk:=D.nx } σ2 H2)(hd:∀σ H,Pv z.cps.toList.length σ H->D.nx σ H):
 ∃W:Nat->Nat->St->Hp->Prop,(∃m,W 0 m σ H)/\∀i m σ H,W i m σ H->
  ((QQ z).stop i H/\D.nx σ H)\/((QQ z).go i H/\∃N:St->Hp->Prop,(∀σ' H',N σ' H'->∃m',m' < m/\W (i+1) m' σ' H')/\∀x H',(QQ z).yld i H x H'->g x σ H' λσ2 H2=>tb { D with nx:=N,ct:=N,bk:=D.nx } σ2 H2):=by
 refine⟨λi m σ H=>m=z.cps.size - i/\i<=z.cps.size/\Pv i σ H,⟨z.cps.size,by simp,Nat.zero_le _,h0⟩,?_⟩
 rintro i m σ H ⟨rfl,hi,p⟩
 by_cases hlt:i < z.cps.size
 ·refine .inr ⟨hlt,Pv (i+1),λσ' H' p'=>⟨z.cps.size - (i+1),by omega,rfl,hlt,p'⟩,λx H' y=>?_⟩
  obtain⟨e,c,hc,rfl⟩:=y
  subst e
  exact hs i c σ _ (by rw[Array.getElem?_toList];exact hc) p
 ·have e:i=z.cps.size:=by omega
  subst e
  exact .inl ⟨Nat.le_refl _,hd σ H (by rw[Array.length_toList];exact p)⟩
section
variable {X:Cx}
end
end L2
namespace S28
open PySem L2 W7
def Ec (H:Hp)(as:List Addr)(gs:List (Nat×Nat)):Prop:=as.length=gs.length/\∀(j:Nat) (x:Addr),as[j]?=some x->H x=some (.lst (AY (D9 (gs.getD j (0,0)))))
theorem Ec.same {H H':Hp}{as:List Addr}{gs:List (Nat×Nat)}(h:Ec H as gs)(s:∀(j:Nat) (x:Addr) o,as[j]?=some x->H x=some o->H' x=some o):Ec H' as gs:=⟨h.1,λj x e=>s j x _ e (h.2 j x e)⟩
theorem Ec.snoc {H:Hp}{as:List Addr}{gs:List (Nat×Nat)}{x:Addr}{g:Nat×Nat}(h:Ec H as gs)(hx:H x=some (.lst (AY (D9 g)))):Ec H (as++[x]) (gs++[g]):=by
 refine⟨by rw[List.length_append,List.length_append,h.1];rfl,λj y e=>?_⟩
 rcases Nat.lt_or_ge j as.length with lt|ge
 ·rw[List.getElem?_append_left lt]at e
  have:=h.2 j y e
  rw[this,List.getD_eq_getElem?_getD,List.getD_eq_getElem?_getD,List.getElem?_append_left (by rw[<-h.1];exact lt)]
 ·rw[List.getElem?_append_right ge]at e
  have z:j - as.length=0:=by
   rcases Nat.eq_zero_or_pos (j - as.length)with z|z
   ·exact z
   ·rw[List.getElem?_eq_none (by show 1<=_;omega)]at e;cases e
  rw[z]at e
  cases e
  rw[hx,List.getD_eq_getElem?_getD,List.getElem?_append_right (by rw[<-h.1];exact ge),<-h.1,z];rfl
theorem Pb {f r:Nat}(h:f<=r):AY (D9 (f,r))++[V.int (r:Int)]=AY (D9 (f,r+1)):=by
 unfold D9
 show AY ((List.range (r - f)).map λi=>f+i)++_=AY ((List.range (r+1 - f)).map λi=>f+i)
 rw[show r+1 - f=(r - f)+1 by omega,List.range_succ,List.map_append]
 unfold AY
 rw[List.map_append]
 show _=_++[V.int ((f+(r - f):Nat):Int)]
 rw[show f+(r - f)=r by omega]
theorem Ik (last:Nat->Bool):∀r,(W29.Br last r).1.length<=r
 |0=>Nat.le_refl _
 |r+1=>by
  rw[W29.Br]
  have:=Ik last r
  split
  ·show((W29.Br last r).1++_).length<=_
   rw[List.length_append];show _+1<=_;omega
  ·omega
theorem Qq (f r:Nat):(AY (D9 (f,r))).length=r - f:=by unfold AY D9;simp
theorem Pc (r:Nat):D9 (r,r)=[]:=by unfold D9;simp
def Na (H:Hp)(gs:List (Nat×Nat))(kvs:List (Key×V))(D:List Nat):Prop:=kvs.length=D.length/\(∀k:Key,(CP kvs k).isSome=true->∃r∈D,k=Sum.inl (r:Int))/\
 ∀(j r:Nat),D[j]?=some r->∃x,CP kvs (Sum.inl (r:Int))=some (.ref x)/\H x=some (.lst (AY (D9 (gs.getD j (0,0)))))
theorem Na.same {H H':Hp}{gs:List (Nat×Nat)}{kvs:List (Key×V)}{D:List Nat}(h:Na H gs kvs D)(s:∀x xs,H x=some (.lst xs)->H' x=some (.lst xs)):Na H' gs kvs D:=⟨h.1,h.2.1,λj r e=>let⟨x,a,b⟩:=h.2.2 j r e;⟨x,a,s _ _ b⟩⟩
theorem Na.none {H:Hp}{gs:List (Nat×Nat)}{kvs:List (Key×V)}{D:List Nat}{r:Nat}(h:Na H gs kvs D)(nr:r∉D):CP kvs (Sum.inl (r:Int))=none:=by
 cases e:CP kvs (Sum.inl (r:Int))with
 |none=>rfl
 |some v=>
  obtain⟨q,hq,eq⟩:=h.2.1 (Sum.inl (r:Int)) (by rw[e];rfl)
  injection eq with eq
  have:q=r:=by omega
  subst this
  exact absurd hq nr
theorem Na.put {H:Hp}{gs:List (Nat×Nat)}{kvs:List (Key×V)}{D:List Nat}{r:Nat}{x:Addr}(h:Na H gs kvs D)(nr:r∉D)(hx:H x=some (.lst (AY (D9 (gs.getD D.length (0,0)))))):Na H gs (putK kvs (Sum.inl (r:Int)) (.ref x)) (D++[r]):=by
 have nn:=h.none nr
 refine⟨by rw[ON _ nn,List.length_append,List.length_append,h.1];rfl,λk hk=>?_,λj q e=>?_⟩
 ·rw[JO]at hk
  by_cases c:k=Sum.inl (r:Int)
  ·exact⟨r,List.mem_append_right _ (List.mem_singleton.mpr rfl),c⟩
  ·rw[if_neg c]at hk
   obtain⟨q,hq,e⟩:=h.2.1 k hk
   exact⟨q,List.mem_append_left _ hq,e⟩
 ·rw[JO]
  rcases Nat.lt_or_ge j D.length with lt|ge
  ·rw[List.getElem?_append_left lt]at e
   obtain⟨y,a,b⟩:=h.2.2 j q e
   have:¬(Sum.inl (q:Int):Key)=Sum.inl (r:Int):=λz=>by
    injection z with z
    have:q=r:=by omega
    subst this
    exact nr (List.mem_of_getElem? e)
   exact⟨y,by rw[if_neg this];exact a,b⟩
  ·rw[List.getElem?_append_right ge]at e
   have z:j - D.length=0:=by
    rcases Nat.eq_zero_or_pos (j - D.length)with z|z
    ·exact z
    ·rw[List.getElem?_eq_none (by show 1<=_;omega)]at e;cases e
   rw[z]at e
   cases e
   have:j=D.length:=by omega
   subst this
   exact⟨x,by rw[if_pos rfl],hx⟩
abbrev rd (z:Str)(r:Nat):Nat:=z.cps.toList.getD r 0
def EG (z:Str)(lv:List Bool)(n:Nat):List Nat:=MS z lv n 26
theorem NW (z:Str)(lv:List Bool)(n:Nat):(EG z lv n).Nodup:=FX z lv n 26
theorem Tg {z:Str}{ls lv:List Bool}{n:Nat}(e:n=ls.length)(z1:1<=n):LS (kids (A9 ls) (EG z lv n)) n:=by
 subst e
 exact PY (last:=λi=>ls.getD i false) (n:=ls.length) (first:=(W29.Br (λi=>ls.getD i false) ls.length).2) (gs:=A9 ls) (so:=EG z lv ls.length) (W29.Dp (λi=>ls.getD i false) ls.length) z1 (NW z lv ls.length)
theorem R7 {z:Str}(low:∀c∈z.cps.toList,Lw c)(r:Nat)(hr:r < z.length):Lw (rd z r):=by
 have zl:z.cps.toList.length=z.length:=by rw[Array.length_toList];rfl
 have e:rd z r=z.cps.toList[r]'(by omega):=by
  show z.cps.toList.getD r 0=_
  rw[List.getD_eq_getElem?_getD,List.getElem?_eq_getElem (by omega)];rfl
 rw[e]
 exact low _ (List.getElem_mem _)
theorem R8 {z:Str}{ls lv:List Bool}(l1:ls.length=z.length)(z1:1<=z.length)(z60:z.length<=60)(low:∀c∈z.cps.toList,Lw c):∃(m:Nat) (us:List Int) (cs:List Nat),1<=m/\m<=z.length/\us.length=m/\cs.length=m/\Dt us/\(∀c∈cs,Lw c)/\
 (∀i,i<=m->W27.run (kids (A9 ls) (EG z lv z.length)) (rd z) i=((W27.run (kids (A9 ls) (EG z lv z.length)) (rd z) i).1,us.take i,cs.take i))/\(∀i,i < m->(W27.run (kids (A9 ls) (EG z lv z.length)) (rd z) i).1≠[])/\
 (W27.run (kids (A9 ls) (EG z lv z.length)) (rd z) m).1=[]/\(∀i,i<=m->(W27.run (kids (A9 ls) (EG z lv z.length)) (rd z) i).1.length<=60)/\(∀i,i<=m->∀p∈(W27.run (kids (A9 ls) (EG z lv z.length)) (rd z) i).1,p.1 < z.length):=
 ML (Tg l1.symm z1) z60 (R7 low)
theorem R9 {kd:Nat->List Nat}{lt:Nat->Nat}{m:Nat}{us:List Int}{cs:List Nat}(ul:us.length=m)(hrun:∀i,i<=m->W27.run kd lt i=((W27.run kd lt i).1,us.take i,cs.take i))(hne:∀i,i < m->(W27.run kd lt i).1≠[]){i:Nat}(hi:i < m):
 ∃row up st,(W27.run kd lt i).1=(row,up)::st/\(W27.run kd lt (i+1)).1=(kd row).map (λl=>(l,(i:Int)))++st/\us.take (i+1)=us.take i++[up]/\cs.take (i+1)=cs.take i++[lt row]:=by
 have h1:=hrun i (by omega)
 have h2:=hrun (i+1) (by omega)
 have ne:=hne i hi
 cases e:(W27.run kd lt i).1 with
 |nil=>exact absurd e ne
 |cons p st=>
  obtain⟨row,up⟩:=p
  rw[e]at h1
  have es:W27.run kd lt (i+1)=W27.step kd lt ((row,up)::st,us.take i,cs.take i):=by rw[<-h1];rfl
  have es':W27.run kd lt (i+1)=((kd row).map (λl=>(l,((us.take i).length:Int)))++st,us.take i++[up],cs.take i++[lt row]):=es
  have tl:(us.take i).length=i:=by rw[List.length_take];omega
  rw[tl]at es'
  rw[es']at h2
  have a:=congrArg (λq=>q.2.1) h2
  have b:=congrArg (λq=>q.2.2) h2
  exact⟨row,up,st,rfl,by rw[es'],a.symm,b.symm⟩
section
variable {P:Program}{w:World}{K:PySem.W.Frag}{mg:Str->Option Value}{base:Heap}{k:Nat}
def KC:Sp:=λvs H Q _=>∃(r:Addr) (z:Str) (ls lv:List Bool),vs=[.ref r]/\Ea H r z ls lv/\ls.length=z.length/\lv.length=z.length/\1<=z.length/\z.length<=60/\(∀c∈z.cps.toList,Lw c)/\
 (∀(t:Addr) (ups:List Int) (lab:Str) (H':Hp),AG H H'->BE H' t ups lab->Jg ups lab->Gb z ls lv ups lab->Q (.ref t) H')/\(¬Dy z ls lv->∀H',AG H H'->Q .A3 H')
theorem NX (D:Df K mg "_law_tree_by" s_law_tree_by)(B:CK mg):Bb P w K mg base "_law_tree_by" (k+1) ["thing"] KC:=by
 refine D.has AU (λ_ _ _ _ _ _=>Gy λ_=>rfl) (λvs H Q E h=>by obtain⟨r,z,ls,lv,rfl,_⟩:=h;rfl) (λf cdv A outer s H vs Q E hr h=>?_)
 obtain⟨r,z,ls,lv,rfl,⟨a,b,hr0,ha,hb⟩,l1,l2,z1,z60,low,q,qn⟩:=h
 refine⟨_,(AE (DC (pv 0) (Ce rfl (Ag (AQ (i:=1) AU.nd rfl (by first|exact Or.inl rfl|exact Or.inr rfl)) (Ag (AQ (i:=2) AU.nd rfl (by first|exact Or.inl rfl|exact Or.inr rfl)) (Ag (AQ (i:=3) AU.nd rfl (by first|exact Or.inl rfl|exact Or.inr rfl)) Bv)))))
 (AE (AN (i:=4) AU.nd rfl (by first|exact Or.inl rfl|exact Or.inr rfl) (Ai AD))
 (AE (AN (i:=5) AU.nd rfl (by first|exact Or.inl rfl|exact Or.inr rfl) (Ai AD))
 (AE (CF PassesOwn.never rfl (HL rfl B.range (AA AF (AA (AM A4 rfl B.len Aw (AA (pv 1) AD)) AD))) (AQ (i:=6) AU.nd rfl (by first|exact Or.inl rfl|exact Or.inr rfl))
 (AE (B4 (Cp PySem.F.plainAttrs_list PySem.F.slot_list_append PySem.F.type_list_append BM (pv 5) (AA (pv 6) AD)))
 (AL (Bk (Bj (AR Aj (pv 2) (pv 6) (λ_ _=>rfl)))
 (AE (B4 (Cp PySem.F.plainAttrs_list PySem.F.slot_list_append PySem.F.type_list_append BM (pv 4) (AA (pv 5) AD)))
 (AL (AN (i:=5) AU.nd rfl (by first|exact Or.inl rfl|exact Or.inr rfl) (Ai AD))))
 Av))))
 (AE (AN (i:=7) AU.nd rfl (by first|exact Or.inl rfl|exact Or.inr rfl) OR)
 (AE (CF PassesOwn.never rfl (Ks Bi) (AQ (i:=8) AU.nd rfl (by first|exact Or.inl rfl|exact Or.inr rfl))
 (AL (CF PassesOwn.never rfl (B0 rfl B.range (AA (AM A4 rfl B.len Aw (AA (pv 1) AD)) AD)) (AQ (i:=6) AU.nd rfl (by first|exact Or.inl rfl|exact Or.inr rfl))
 (AL (Bk (PW.pt (KP (Ab Cg (AR DD (pv 1) (pv 6) (λ_ _=>rfl)) (pv 8) (AZ _)) (Hw (B3 (Bj (AR Aj (pv 3) (pv 6) (λ_ _=>rfl)))))))
 (AL (QP (Q3 hr) (pv 7) (pv 6) (DU (Ab I0 (AM Hj rfl B.len Aw (AA (pv 7) AD)) (AM Ad rfl B.len Aw (AA (pv 4) AD)) (AZ _)) (AR Ap (pv 4) (AM Hj rfl B.len Aw (AA (pv 7) AD)) (λ_ _=>rfl)) (Ai AD)) rfl))
 Av)))))
 (AE (AN (i:=9) AU.nd rfl (by first|exact Or.inl rfl|exact Or.inr rfl) (Ai AD))
 (AE (AN (i:=10) AU.nd rfl (by first|exact Or.inl rfl|exact Or.inr rfl) Bi)
 (AE (AN (i:=11) AU.nd rfl (by first|exact Or.inl rfl|exact Or.inr rfl) (Ai (AA (Ak (AA AF (AA (AS KU AF AF) AD))) AD)))
 (AE (F5 PassesOwn.never (PW.pt (KP (Ab (FQ hr.IA) (pv 11) (Ai AD) (AZ _)) (Hw (Ab Ni (AM Ad rfl B.len Aw (AA (pv 9) AD)) (AM A4 rfl B.len Aw (AA (pv 1) AD)) (AZ _)))))
 (AE (DC (Nw PySem.F.plainAttrs_list PySem.F.slot_list_pop PySem.F.type_list_pop Nz (pv 11)) (Ce rfl (Ag (AQ (i:=6) AU.nd rfl (by first|exact Or.inl rfl|exact Or.inr rfl)) (Ag (AQ (i:=12) AU.nd rfl (by first|exact Or.inl rfl|exact Or.inr rfl)) Bv))))
 (AE (AN (i:=11) AU.nd rfl (by first|exact Or.inl rfl|exact Or.inr rfl) (AS ER (pv 11) (BL rfl (B5 (Qk K (OS (Q3 hr) (pv 7) (pv 6) (Ai AD) ⟨rfl,rfl,rfl,rfl⟩) (Ac (Iz F7 AF)))) (NL:=["one"]) (ix:=[9]) (GB (AJ s_law_tree_by) EL) (λcl C s₃ H₃ fp pins=>⟨(AQ (i:=0) (show List.Nodup (["one","ups"]:List Str)from by decide+kernel) rfl (by first|exact Or.inl rfl|exact Or.inr rfl)),A5,(Ak (AA (pv 0) (AA (AM (EJ K) rfl B.len Aw (AA (pv 1) AD)) AD)))⟩))))
 (AE (B4 (Cp PySem.F.plainAttrs_list PySem.F.slot_list_append PySem.F.type_list_append BM (pv 9) (AA (pv 12) AD)))
 (AL (AN (i:=10) AU.nd rfl (by first|exact Or.inl rfl|exact Or.inr rfl) (AS BU (pv 10) (AR DD (pv 1) (pv 6) (λ_ _=>rfl)))))))))
 (AL (AV (DU (Ab Cg (AM Ad rfl B.len Aw (AA (pv 9) AD)) (AM A4 rfl B.len Aw (AA (pv 1) AD)) (AZ _)) (Ak (AA (Ao BI rfl B.tuple_ BW (AA (pv 9) AD)) (AA (pv 10) AD))) CT))))))))))))),?_⟩
 first|(dsimp only[Bp,Cx.Ft];generalize hK:K=K';revert K' hK;refine Dn (Ae <|Ae <|Ae <|Ae <|Ae <|Ae <|Ae <|Ae <|Ae <|Ae <|λ_=>rfl) ?_)|skip
 have ts:z.length<=sizeLine:=Nat.le_of_lt (AO (by omega))
 have zl:z.cps.toList.length=z.length:=by rw[Array.length_toList];rfl
 refine⟨_,rfl,r,_,rfl,Ar.of hr0,rfl,_,_,rfl,_,_,rfl,_,_,rfl,rfl,?_⟩
 refine⟨Nat.zero_le _,λgl hgl=>?_⟩
 have s1:AG H (upd H gl (.lst [])):=(AG.refl H).new hgl
 have h1:upd H gl (.lst []) gl=some (.lst []):=AB
 show(λHH=>_) (upd H gl (.lst []))
 generalize upd H gl (.lst [])=H1 at s1 h1
 refine⟨Nat.zero_le _,λg0 hg0=>?_⟩
 have s2:AG H1 (upd H1 g0 (.lst [])):=(AG.refl H1).new hg0
 have h2:upd H1 g0 (.lst []) g0=some (.lst []):=AB
 have gg:g0≠gl:=(AI h1 hg0).symm
 have fg0:H g0=none:=s1.free hg0
 show(λHH=>_) (upd H1 g0 (.lst []))
 generalize upd H1 g0 (.lst [])=H2 at s2 h2
 let last:Nat->Bool:=λi=>ls.getD i false
 dsimp only
 refine mid (λσ HX=>∃(as:List Addr) (o5 o6:Option V),σ=[some (.ref r),some (.str z),some (.ref a),some (.ref b),some (.ref gl),o5,o6,none,none,none,none,none,none]/\AG H HX/\HX gl=some (.lst (as.map V.ref))/\Ec HX as (A9 ls)) ?_ λE nx=>?_
 rotate_left
 ·refine⟨_,rfl,z,rfl,ts,1,(z.length:Int),rfl,⟨by decide,by decide,by omega,by omega⟩,?_⟩
  refine C0 (lo:=1) (n:=((z.length:Int) - 1).toNat) (λi σ HX=>∃(g:Addr) (as:List Addr) (o6:Option V),σ=[some (.ref r),some (.str z),some (.ref a),some (.ref b),some (.ref gl),some (.ref g),o6,none,none,none,none,none,none]/\AG H HX/\HX gl=some (.lst (as.map V.ref))/\
   Ec HX as (W29.Br last (1+i)).1/\HX g=some (.lst (AY (D9 ((W29.Br last (1+i)).2,1+i))))/\g≠gl/\H g=none/\(∀x∈as,x≠g/\x≠gl))
   ⟨g0,[],none,rfl,s1.trans s2,s2 _ _ h1,⟨rfl,λj x e=>by cases e⟩,h2,gg,fg0,λx hx=>by cases hx⟩ ?_ ?_
  ·rintro i σ HX hi ⟨g,as,o6,rfl,sX,hglX,ga,hgX,ng,fg,na⟩
   have I:=W29.Dp last (1+i)
   have rn:1+i < ls.length:=by omega
   have fle:(W29.Br last (1+i)).2<=1+i:=by rcases I.f2 with q|q<;>omega
   have al:as.length<=60:=by have:=ga.1;have:=Ik last (1+i);omega
   refine⟨_,rfl,.inl ⟨rfl,_,Am.of hgX⟩,_,rfl,g,_,_,rfl,rfl,hgX,?_,?_⟩
   ·rw[Qq];exact AO (by omega)
   have hg1:upd HX g (.lst (AY (D9 ((W29.Br last (1+i)).2,1+i))++[V.int (1+(i:Int))])) g=some (.lst (AY (D9 ((W29.Br last (1+i)).2,1+i+1)))):=by
    rw[AB,show(1+(i:Int))=((1+i:Nat):Int) by omega,Pb fle]
   have sA:AG H (upd HX g (.lst (AY (D9 ((W29.Br last (1+i)).2,1+i))++[V.int (1+(i:Int))]))):=sX.write fg
   have gl1:upd HX g (.lst (AY (D9 ((W29.Br last (1+i)).2,1+i))++[V.int (1+(i:Int))])) gl=some (.lst (as.map V.ref)):=by rw[AH ng.symm];exact hglX
   have ga1:Ec (upd HX g (.lst (AY (D9 ((W29.Br last (1+i)).2,1+i))++[V.int (1+(i:Int))]))) as (W29.Br last (1+i)).1:=ga.same λj x o e he=>by rw[AH (na x (List.mem_of_getElem? e)).1];exact he
   show(λHH=>_) (upd HX g (.lst (AY (D9 ((W29.Br last (1+i)).2,1+i))++[V.int (1+(i:Int))])))
   generalize upd HX g (.lst (AY (D9 ((W29.Br last (1+i)).2,1+i))++[V.int (1+(i:Int))]))=HA at hg1 sA gl1 ga1
   have lat:DY (ls.map V.bl) (1+(i:Int))=some (.bl (last (1+i))):=by
    rw[show(1+(i:Int))=((1+i:Nat):Int) by omega]
    refine A0 (xs:=ls.map V.bl) (j:=1+i) ?_
    show _=some (V.bl (ls.getD (1+i) false))
    rw[List.getElem?_map,List.getElem?_eq_getElem rn,List.getD_eq_getElem?_getD,List.getElem?_eq_getElem rn];rfl
   have gs1:W29.Br last (1+i+1)=if 0 < 1+i/\last (1+i)=true then((W29.Br last (1+i)).1++[((W29.Br last (1+i)).2,1+i+1)],1+i+1)else W29.Br last (1+i):=rfl
   refine⟨_,rfl,_,rfl,a,_,_,_,rfl,rfl,Ar.of (sA _ _ ha),lat,_,rfl,CC (λc=>?_) (λc=>?_)⟩
   ·have e1:=gs1.trans (if_pos ⟨by omega,c⟩)
    refine⟨_,rfl,.inl ⟨rfl,_,Am.of gl1⟩,_,rfl,gl,_,_,rfl,rfl,gl1,by rw[List.length_map];exact AO (by omega),?_⟩
    have sB:AG H (upd HA gl (.lst (as.map V.ref++[.ref g]))):=sA.write hgl
    have gl2:upd HA gl (.lst (as.map V.ref++[.ref g])) gl=some (.lst ((as++[g]).map V.ref)):=by rw[AB,List.map_append];rfl
    have hg2:upd HA gl (.lst (as.map V.ref++[.ref g])) g=some (.lst (AY (D9 ((W29.Br last (1+i)).2,1+i+1)))):=by rw[AH ng];exact hg1
    have ga2:Ec (upd HA gl (.lst (as.map V.ref++[.ref g]))) as (W29.Br last (1+i)).1:=ga1.same λj x o e he=>by rw[AH (na x (List.mem_of_getElem? e)).2];exact he
    have ga3:=ga2.snoc hg2
    show(λHH=>_) (upd HA gl (.lst (as.map V.ref++[.ref g])))
    generalize upd HA gl (.lst (as.map V.ref++[.ref g]))=HB at sB gl2 hg2 ga3
    refine⟨Nat.zero_le _,λg3 hg3=>?_⟩
    have sC:AG HB (upd HB g3 (.lst [])):=(AG.refl HB).new hg3
    refine⟨g3,as++[g],_,rfl,sB.trans sC,sC _ _ gl2,?_,?_,(AI gl2 hg3).symm,sB.free hg3,λx hx=>?_⟩
    ·show Ec _ _ (W29.Br last (1+i+1)).1
     rw[e1]
     exact ga3.same λj x o _ he=>sC _ _ he
    ·show _=some (HO.lst (AY (D9 ((W29.Br last (1+i+1)).2,1+i+1))))
     rw[e1,AB,Pc];rfl
    ·rcases List.mem_append.mp hx with hx|hx
     ·obtain⟨j,hj⟩:=List.getElem?_of_mem hx
      exact⟨AI (ga2.2 j x hj|> λe=>by exact(ga3.2 j x (by rw[List.getElem?_append_left (List.getElem?_eq_some_iff.mp hj).1];exact hj))) hg3,(na x hx).2⟩
     ·rw[List.mem_singleton.mp hx]
      exact⟨AI hg2 hg3,ng⟩
   ·have e1:=gs1.trans (if_neg λq=>c q.2)
    refine⟨g,as,_,rfl,sA,gl1,?_,?_,ng,fg,na⟩
    ·show Ec _ _ (W29.Br last (1+i+1)).1
     rw[e1];exact ga1
    ·show _=some (HO.lst (AY (D9 ((W29.Br last (1+i+1)).2,1+i+1))))
     rw[e1];exact hg1
  ·rintro σ HX ⟨g,as,o6,rfl,sX,hglX,ga,hgX,ng,fg,na⟩
   refine nx _ _ ⟨as,_,_,rfl,sX,hglX,?_⟩
   have e:1+((z.length:Int) - 1).toNat=ls.length:=by omega
   rw[e]at ga
   exact ga
 rintro σ HX ⟨as,o5,o6,rfl,sX,hglX,ga⟩
 refine λd hd=>?_
 have s3:AG HX (upd HX d (.dK [])):=(AG.refl HX).new hd
 have h3:upd HX d (.dK []) d=some (.dK []):=AB
 have fd:H d=none:=sX.free hd
 have hgl3:=s3 _ _ hglX
 have ga3:Ec (upd HX d (.dK [])) as (A9 ls):=ga.same λj x o _ he=>s3 _ _ he
 have s03:=sX.trans s3
 show(λHH=>_) (upd HX d (.dK []))
 generalize upd HX d (.dK [])=H3 at s3 h3 hgl3 ga3 s03
 have gl60:as.length<=60:=by
  have:=ga.1
  have:(A9 ls).length<=ls.length:=Ik last ls.length
  omega
 dsimp only
 refine mid (λσ HX=>∃(kvs:List (Key×V)) (o6 o8:Option V),σ=[some (.ref r),some (.str z),some (.ref a),some (.ref b),some (.ref gl),o5,o6,some (.ref d),o8,none,none,none,none]/\AG H HX/\HX d=some (.dK kvs)/\Na HX (A9 ls) kvs (EG z lv z.length)) ?_ λE nx=>?_
 rotate_left
 ·refine⟨_,rfl,?_⟩
  refine Qp (λc σ HX=>∃(kvs:List (Key×V)) (o6 o8:Option V),σ=[some (.ref r),some (.str z),some (.ref a),some (.ref b),some (.ref gl),o5,o6,some (.ref d),o8,none,none,none,none]/\AG H HX/\HX gl=some (.lst (as.map V.ref))/\Ec HX as (A9 ls)/\HX d=some (.dK kvs)/\Na HX (A9 ls) kvs (MS z lv z.length c))
   ⟨[],o6,none,rfl,s03,hgl3,ga3,h3,rfl,(λk hk=>by cases hk),λj r e=>by cases e⟩ ?_ ?_
  ·rintro c ch σ HX hc ⟨kvs,o6',o8,rfl,sX,hglX,ga,hdX,un⟩
   have c26:c < 26:=by have:=(List.getElem?_eq_some_iff.mp hc).1;exact this
   have ech:ch=97+c:=by
    have all:∀c,c < 26->(Str.ofString "abcdefghijklmnopqrstuvwxyz").cps.toList[c]?=some (97+c):=by decide+kernel
    rw[all c c26]at hc
    injection hc with hc
    exact hc.symm
   subst ech
   refine⟨_,rfl,z,rfl,ts,(z.length:Int),rfl,by omega,by omega,?_⟩
   refine C0 (lo:=0) (n:=z.length) (λm σ HX=>∃(kvs:List (Key×V)) (o6:Option V),σ=[some (.ref r),some (.str z),some (.ref a),some (.ref b),some (.ref gl),o5,o6,some (.ref d),some (.str ⟨#[97+c]⟩),none,none,none,none]/\AG H HX/\HX gl=some (.lst (as.map V.ref))/\Ec HX as (A9 ls)/\HX d=some (.dK kvs)/\Na HX (A9 ls) kvs (MS z lv z.length c++KN z lv m (97+c)))
    ⟨kvs,o6',rfl,sX,hglX,ga,hdX,by rw[PZ,List.append_nil];exact un⟩ ?_ ?_
   ·rintro m σ HX hm ⟨kvs,o6,rfl,sX,hglX,ga,hdX,un⟩
    rw[show(0:Int)+(m:Int)=((m:Nat):Int) by omega]
    have zat:DY z.cps.toList (m:Int)=some (z.cps.toList.getD m 0):=A0 (xs:=z.cps.toList) (j:=m) (by rw[List.getElem?_eq_getElem (by omega),List.getD_eq_getElem?_getD,List.getElem?_eq_getElem (by omega)];rfl)
    have vat:DY (lv.map V.bl) (m:Int)=some (.bl (lv.getD m true)):=A0 (xs:=lv.map V.bl) (j:=m) (by rw[List.getElem?_map,List.getElem?_eq_getElem (by omega),List.getD_eq_getElem?_getD,List.getElem?_eq_getElem (by omega)];rfl)
    have EC:¬(lv.getD m true=false/\z.cps.toList.getD m 0=97+c)->KN z lv (m+1) (97+c)=KN z lv m (97+c):=λn=>by rw[KA,if_neg n]
    refine⟨_,rfl,_,rfl,_,_,_,rfl,rfl,ts,zat,_,rfl,rfl,_,rfl,CC (λc1=>?_) (λc1=>?_)⟩
    rotate_left
    ·refine⟨kvs,_,rfl,sX,hglX,ga,hdX,?_⟩
     rw[EC λn=>c1 (by rw[n.2];exact decide_eq_true rfl)]
     exact un
    have ec:z.cps.toList.getD m 0=97+c:=by
     have:=of_decide_eq_true c1
     injection this with this
     injection this with this
     injection this with this
     injection this
    refine⟨_,rfl,_,rfl,b,_,_,_,rfl,rfl,Ar.of (sX _ _ hb),vat,_,rfl,?_⟩
    by_cases lf:lv.getD m true=true
    ·refine CA (by rw[lf];rfl) ⟨kvs,_,rfl,sX,hglX,ga,hdX,?_⟩
     rw[EC λn=>by rw[n.1]at lf;cases lf]
     exact un
    have lf':lv.getD m true=false:=Bool.eq_false_iff.mpr lf
    refine Cn (by rw[lf'];rfl) ?_
    have grow:MS z lv z.length c++KN z lv (m+1) (97+c)=(MS z lv z.length c++KN z lv m (97+c))++[m]:=by
     rw[KA,if_pos ⟨lf',ec⟩,List.append_assoc]
    have nm:m∉MS z lv z.length c++KN z lv m (97+c):=λh=>by
     rcases List.mem_append.mp h with h|h
     ·have:=(FC c).mp h;omega
     ·have:=MI (FA.mp h).1;omega
    have kl:kvs.length<=1000:=by
     have e:=un.1
     rw[List.length_append]at e
     have a1:(MS z lv z.length c).length<=60:=by
      have:=Jr z.length _ (FX z lv z.length c) λx hx=>MI ((FC c).mp hx).1
      omega
     have a2:(KN z lv m (97+c)).length<=m:=Nat.le_trans (List.length_filter_le _ _) (O6 _ _)
     omega
    refine⟨_,rfl,d,kvs,rfl,.inl hdX,_,rfl,gl,_,rfl,.inl (Am.of hglX),_,_,rfl,rfl,_,rfl,CC (λc2=>?_) (λc2=>?_)⟩
    ·have c3:=of_decide_eq_true c2
     have lt:kvs.length < as.length:=by rw[List.length_map]at c3;omega
     obtain⟨x,ex⟩:∃x,as[kvs.length]?=some x:=⟨_,List.getElem?_eq_getElem lt⟩
     have gat:DY (as.map V.ref) (kvs.length:Int)=some (.ref x):=A0 (xs:=as.map V.ref) (j:=kvs.length) (by rw[List.getElem?_map,ex];rfl)
     have hx:=ga.2 _ x ex
     have xd:x≠d:=λq=>by rw[q,hdX]at hx;cases hx
     refine⟨_,rfl,_,rfl,d,kvs,rfl,.inl hdX,gl,_,_,_,rfl,rfl,Am.of hglX,gat,_,rfl,_,rfl,d,_,rfl,M1.k (k:=Sum.inl (m:Int)) hdX (Nat.lt_of_le_of_lt kl (by decide)),?_⟩
     have lk:∀y xs,HX y=some (.lst xs)->upd HX d (.dK (putK kvs (Sum.inl (m:Int)) (.ref x))) y=some (.lst xs):=λy xs e=>by
      rw[AH (λq=>by rw[q,hdX]at e;cases e)];exact e
     refine⟨_,_,rfl,sX.write fd,lk _ _ hglX,⟨ga.1,λj y e=>lk _ _ (ga.2 j y e)⟩,AB,?_⟩
     rw[grow]
     exact(un.same lk).put nm (by rw[<-un.1];exact lk _ _ hx)
    ·have c3:as.length<=kvs.length:=by
      by_cases h:as.length<=kvs.length
      ·exact h
      ·exact absurd (decide_eq_true (by rw[List.length_map];omega)) c2
     refine⟨(by show 0<=sizeLine;decide),λx hx=>?_⟩
     have sE:AG HX (upd HX x (.lst [])):=(AG.refl HX).new hx
     have hE:upd HX x (.lst []) x=some (.lst []):=AB
     have hdE:=sE _ _ hdX
     show(λHH=>_) (upd HX x (.lst []))
     generalize upd HX x (.lst [])=HE at sE hE hdE
     refine⟨_,rfl,_,rfl,d,_,rfl,M1.k (k:=Sum.inl (m:Int)) hdE (Nat.lt_of_le_of_lt kl (by decide)),?_⟩
     have lk:∀y xs,HE y=some (.lst xs)->upd HE d (.dK (putK kvs (Sum.inl (m:Int)) (.ref x))) y=some (.lst xs):=λy xs e=>by
      rw[AH (λq=>by rw[q,hdE]at e;cases e)];exact e
     refine⟨_,_,rfl,(sX.trans sE).write fd,lk _ _ (sE _ _ hglX),⟨ga.1,λj y e=>lk _ _ (sE _ _ (ga.2 j y e))⟩,AB,?_⟩
     rw[grow]
     refine((un.same λy xs e=>sE _ _ e).same lk).put nm ?_
     have e0:D9 ((A9 ls).getD (MS z lv z.length c++KN z lv m (97+c)).length (0,0))=[]:=by
      rw[<-un.1,List.getD_eq_getElem?_getD,List.getElem?_eq_none (by rw[<-ga.1];exact c3)];exact MR
     rw[e0]
     exact lk _ _ hE
   ·rintro σ HX ⟨kvs,o6,rfl,sX,hglX,ga,hdX,un⟩
    exact⟨kvs,_,_,rfl,sX,hglX,ga,hdX,un⟩
  ·rintro σ HX ⟨kvs,o6',o8,rfl,sX,hglX,ga,hdX,un⟩
   have e26:(Str.ofString "abcdefghijklmnopqrstuvwxyz").cps.toList.length=26:=by decide+kernel
   rw[e26]at un
   have un':Na HX (A9 ls) kvs (EG z lv z.length):=un
   exact nx _ _ ⟨kvs,_,_,rfl,sX,hdX,un'⟩
 rintro σ HF ⟨kvs,o6',o8,rfl,sF,hdF,un⟩
 obtain⟨m,us,cs,m1,mN,usl,csl,gr,lwl,hrun,hne,hend,hcap,hin⟩:=R8 (lv:=lv) l1 z1 z60 low
 refine⟨Nat.zero_le _,λu hu=>?_⟩
 have s4:AG HF (upd HF u (.lst [])):=(AG.refl HF).new hu
 have h4:upd HF u (.lst []) u=some (.lst []):=AB
 show(λHH=>_) (upd HF u (.lst []))
 generalize upd HF u (.lst [])=H4 at s4 h4
 refine⟨_,_,rfl,rfl,(by show 2<=sizeLine;decide),λp0 hp0=>?_⟩
 have s5:AG H4 (upd H4 p0 (.tup [.int 0,.int (0 - 1)])):=(AG.refl H4).new hp0
 have h5:upd H4 p0 (.tup [.int 0,.int (0 - 1)]) p0=some (.tup (MJ (0,-1))):=AB
 show(λHH=>_) (upd H4 p0 (.tup [.int 0,.int (0 - 1)]))
 generalize upd H4 p0 (.tup [.int 0,.int (0 - 1)])=H5 at s5 h5
 refine⟨(by show 1<=sizeLine;decide),λw0 hw0=>?_⟩
 have s6:AG H5 (upd H5 w0 (.lst [.ref p0])):=(AG.refl H5).new hw0
 have h6:upd H5 w0 (.lst [.ref p0]) w0=some (.lst ([p0].map V.ref)):=AB
 have uw:w0≠u:=(AI (s5 _ _ h4) hw0).symm
 show(λHH=>_) (upd H5 w0 (.lst [.ref p0]))
 generalize upd H5 w0 (.lst [.ref p0])=H6 at s6 h6
 have s46:=s5.trans s6
 have sH6:=s4.trans s46
 dsimp only[Ee]
 refine F6 (λσ HX=>∃(i:Nat) (ws:List Addr) (wt:Addr) (o6 o12:Option V),σ=[some (.ref r),some (.str z),some (.ref a),some (.ref b),some (.ref gl),o5,o6,some (.ref d),o8,some (.ref u),some (.str (mk (cs.take i))),some (.ref wt),o12]/\i<=m/\AG HF HX/\HX u=some (.lst ((us.take i).map V.int))/\HX wt=some (.lst (ws.map V.ref))/\
  KL HX ws (W27.run (kids (A9 ls) (EG z lv z.length)) (rd z) i).1.reverse/\wt≠u/\HF wt=none)
  (λσ HX=>match HX u with|some (.lst xs)=>300 - xs.length|_=>0) ⟨0,[p0],w0,o6',none,rfl,Nat.zero_le _,sH6,s46 _ _ h4,h6,?_,uw,s4.free (s5.free hw0)⟩ ?_ ?_
 ·refine⟨rfl,λi x p e1 e2=>?_⟩
  have i0:i=0:=by have:=(List.getElem?_eq_some_iff.mp e1).1;simp at this;exact this
  subst i0
  cases e1;cases e2
  exact s6 _ _ h5
 ·rintro σ HX ⟨i,ws,wt,o6,o12,rfl,hi,sX,huX,hwX,pw,wu,fw⟩
  have hdX:=sX _ _ hdF
  refine⟨_,rfl,(by show 0<=sizeLine;decide),λem hem=>?_⟩
  have sE:AG HX (upd HX em (.lst [])):=(AG.refl HX).new hem
  have hE:upd HX em (.lst []) em=some (.lst []):=AB
  show(λHH=>_) (upd HX em (.lst []))
  generalize upd HX em (.lst [])=HZ at sE hE
  refine⟨wt,em,_,rfl,rfl,Am.of (sE _ _ hwX),Am.of hE,_,rfl,CC (λcnd=>?_) (λcnd=>?_)⟩
  ·have ui:((us.take i).map V.int).length=i:=by rw[List.length_map,List.length_take];omega
   refine⟨_,rfl,u,_,rfl,.inl (Am.of (sE _ _ huX)),_,rfl,z,rfl,ts,_,_,rfl,rfl,_,rfl,CC (λc2=>?_) (λc2=>?_)⟩
   rotate_left
   ·exact absurd (decide_eq_true (by rw[ui];omega)) c2
   have wne:ws≠[]:=λe=>by rw[e]at cnd;cases cnd
   have lt':i < m:=by
    rcases Nat.eq_or_lt_of_le hi with e|e
    ·rw[e,hend]at pw;exact absurd (List.eq_nil_of_length_eq_zero pw.1) wne
    ·exact e
   obtain⟨row,up,st,est,e1,e2,e3⟩:=R9 usl hrun hne lt'
   have rn:row < z.length:=hin i hi (row,up) (by rw[est];exact List.mem_cons_self)
   have cap:=hcap i hi
   rw[est,List.length_cons]at cap
   obtain⟨ws0,a0,rfl⟩:∃ws0 a0,ws=ws0++[a0]:=⟨ws.dropLast,ws.getLast wne,(List.dropLast_concat_getLast wne).symm⟩
   rw[est,List.reverse_cons]at pw
   obtain⟨pw0,ha0⟩:=pw.init
   have wl:ws0.length<=60:=by
    have:=pw0.1
    rw[List.length_reverse]at this
    omega
   have hw2:HZ wt=some (.lst (ws0.map V.ref++[.ref a0])):=by rw[sE _ _ hwX,List.map_append];rfl
   refine⟨_,rfl,.inl ⟨rfl,_,Am.of hw2⟩,wt,_,.ref a0,rfl,rfl,hw2,by simp,?_⟩
   rw[List.dropLast_concat]
   have keep:∀b o,b≠wt->HX b=some o->upd HZ wt (.lst (ws0.map V.ref)) b=some o:=λb o nb e=>by rw[AH nb];exact sE _ _ e
   have t1:∀b xs,HX b=some (.tup xs)->upd HZ wt (.lst (ws0.map V.ref)) b=some (.tup xs):=λb xs e=>keep b _ (λq=>by rw[q,hwX]at e;cases e) e
   have dw:d≠wt:=λq=>by rw[q,hwX]at hdX;cases hdX
   have u1:=keep _ _ wu.symm huX
   have d1:=keep _ _ dw hdX
   have w1:upd HZ wt (.lst (ws0.map V.ref)) wt=some (.lst (ws0.map V.ref)):=AB
   have sA:AG HF (upd HZ wt (.lst (ws0.map V.ref))):=(sX.trans sE).write fw
   have vd:∃(o:Option V) (x:Addr),CP kvs (Sum.inl (row:Int))=o/\((o=some (.ref x)/\HF x=some (.lst (AY (kids (A9 ls) (EG z lv z.length) row))))\/(o=none/\kids (A9 ls) (EG z lv z.length) row=[])):=by
    by_cases h:row∈EG z lv z.length
    ·have jl:=List.idxOf_lt_length_of_mem h
     obtain⟨x,a1,b1⟩:=un.2.2 _ row (by rw[List.getElem?_eq_getElem jl,List.getElem_idxOf])
     exact⟨_,x,a1,.inl ⟨rfl,by rw[EA h];exact b1⟩⟩
    ·exact⟨_,d,un.none h,.inr ⟨rfl,C8 h⟩⟩
   show(λHH=>_) (upd HZ wt (.lst (ws0.map V.ref)))
   generalize upd HZ wt (.lst (ws0.map V.ref))=HA at keep t1 u1 d1 w1 sA
   refine⟨a0,_,rfl,Ar.of (t1 _ _ ha0),rfl,_,_,rfl,_,_,rfl,rfl,?_⟩
   refine⟨_,rfl,_,rfl,d,rfl,.inl ⟨kvs,.inl d1⟩,_,rfl,(by show 0<=sizeLine;decide),λe he=>?_⟩
   have sB:AG HA (upd HA e (.lst [])):=(AG.refl HA).new he
   have hBe:upd HA e (.lst []) e=some (.lst []):=AB
   show(λHH=>_) (upd HA e (.lst []))
   generalize upd HA e (.lst [])=HB at sB hBe
   obtain⟨o,x,eo,hox⟩:=vd
   have dg:M0 HB d (.int (row:Int)) o:=by
    have:=M0.k (k:=Sum.inl (row:Int)) (sB _ _ d1)
    rw[eo]at this;exact this
   obtain⟨y,ey,hy⟩:∃y,o.getD (.ref e)=.ref y/\HB y=some (.lst (AY (kids (A9 ls) (EG z lv z.length) row))):=by
    rcases hox with⟨rfl,hx⟩|⟨rfl,hk⟩
    ·exact⟨x,rfl,sB _ _ (sA _ _ hx)⟩
    ·exact⟨e,rfl,by rw[hk];exact hBe⟩
   refine⟨o,dg,?_⟩
   rw[ey]
   refine⟨_,rfl,_,rfl,y,_,rfl,rfl,Am.of hy,λrv hrv=>?_⟩
   have en:(AY (kids (A9 ls) (EG z lv z.length) row)).reverse=AY (kids (A9 ls) (EG z lv z.length) row).reverse:=by unfold AY;rw[List.map_reverse]
   rw[en]
   have sC:AG HB (upd HB rv (.lst (AY (kids (A9 ls) (EG z lv z.length) row).reverse))):=(AG.refl HB).new hrv
   have hC:upd HB rv (.lst (AY (kids (A9 ls) (EG z lv z.length) row).reverse)) rv=some (.lst (AY (kids (A9 ls) (EG z lv z.length) row).reverse)):=AB
   show(λHH=>_) (upd HB rv (.lst (AY (kids (A9 ls) (EG z lv z.length) row).reverse)))
   generalize upd HB rv (.lst (AY (kids (A9 ls) (EG z lv z.length) row).reverse))=HC at sC hC
   have kl:(kids (A9 ls) (EG z lv z.length) row).length<=60:=by
    have:=hcap (i+1) (by omega)
    rw[e1,List.length_append,List.length_map]at this
    omega
   have nl:∀l:List Nat,(AY l).length=l.length:=λl=>by unfold AY;rw[List.length_map]
   have sAC:=sB.trans sC
   refine⟨rv,rfl,⟨_,Am.of hC⟩,λacc hacc=>?_⟩
   refine Bu (xs:=AY (kids (A9 ls) (EG z lv z.length) row).reverse) (by rw[nl,List.length_reverse];omega) (λj ys HY=>∃ns:List Addr,HY acc=some (.lst ys)/\ys=ns.map V.ref/\KL HY ns (((kids (A9 ls) (EG z lv z.length) row).reverse.take j).map λl=>(l,(i:Int)))/\AG HC HY)
    (λj ys HY h=>by obtain⟨_,_,_,_,s⟩:=h;exact Am.of (s _ _ hC)) (λj ys HY h=>by obtain⟨ns,h1,rfl,h2,_⟩:=h;exact⟨h1,by rw[List.length_map,h2.1,List.length_map,List.length_take];omega⟩)
    ⟨[],AB,rfl,⟨rfl,λi a p e=>by simp at e⟩,(AG.refl HC).new hacc⟩ ?_ ?_
   rotate_left
   ·rintro j v ys HY hv ⟨ns,g1,rfl,g2,g3⟩
    unfold AY at hv
    rw[List.getElem?_map]at hv
    cases ex:(kids (A9 ls) (EG z lv z.length) row).reverse[j]? with
    |none=>rw[ex]at hv;cases hv
    |some lo=>
     rw[ex]at hv
     cases hv
     have u2:=g3 _ _ (sAC _ _ u1)
     refine⟨rfl,?_⟩
     refine⟨_,rfl,_,rfl,u,_,rfl,.inl (Am.of u2),(by show 2<=sizeLine;decide),λtp htp=>?_⟩
     rw[ui]
     have sT:AG HY (upd HY tp (.tup [.int ((lo:Nat):Int),.int (i:Int)])):=(AG.refl HY).new htp
     have hT:upd HY tp (.tup [.int ((lo:Nat):Int),.int (i:Int)]) tp=some (.tup (MJ (lo,(i:Int)))):=AB
     show(λHH=>_) (upd HY tp (.tup [.int ((lo:Nat):Int),.int (i:Int)]))
     generalize upd HY tp (.tup [.int ((lo:Nat):Int),.int (i:Int)])=HT at sT hT
     have e4:((kids (A9 ls) (EG z lv z.length) row).reverse.take (j+1)).map (λl=>(l,(i:Int)))=((kids (A9 ls) (EG z lv z.length) row).reverse.take j).map (λl=>(l,(i:Int)))++[(lo,(i:Int))]:=by rw[List.take_succ,ex,List.map_append];rfl
     have tk:∀b xs,HT b=some (.tup xs)->upd HT acc (.lst (ns.map V.ref++[.ref tp])) b=some (.tup xs):=λb xs e=>by
      rw[AH (λq=>by rw[q,sT _ _ g1]at e;cases e)];exact e
     refine⟨sT _ _ g1,ns++[tp],AB,by rw[List.map_append];rfl,?_,(g3.trans sT).write hacc⟩
     rw[e4]
     refine KL.app (vs:=[tp]) (qs:=[(lo,(i:Int))]) (g2.same λb xs e=>tk _ _ (sT _ _ e)) ⟨rfl,λi' a p e1 e2=>?_⟩
     have i0:i'=0:=by have:=(List.getElem?_eq_some_iff.mp e1).1;simp at this;exact this
     subst i0
     cases e1;cases e2
     exact tk _ _ hT
   rintro ys HY ⟨ns,g1,rfl,g2,g3⟩
   have full:((kids (A9 ls) (EG z lv z.length) row).reverse.take (AY (kids (A9 ls) (EG z lv z.length) row).reverse).length).map (λl=>(l,(i:Int)))=((kids (A9 ls) (EG z lv z.length) row).map λl=>(l,(i:Int))).reverse:=by
    rw[nl,List.take_length,List.map_reverse]
   rw[full]at g2
   have sAY:=sAC.trans g3
   have nsl:ns.length<=60:=by rw[g2.1,List.length_reverse,List.length_map];exact kl
   refine⟨wt,acc,_,_,rfl,rfl,sAY _ _ w1,g1,by rw[List.length_map,List.length_map];exact Nat.le_of_lt (AO (by omega)),λw2 hw2'=>?_⟩
   have sD:AG HY (upd HY w2 (.lst (ws0.map V.ref++ns.map V.ref))):=(AG.refl HY).new hw2'
   have hD:upd HY w2 (.lst (ws0.map V.ref++ns.map V.ref)) w2=some (.lst ((ws0++ns).map V.ref)):=by rw[AB,List.map_append]
   have u3:=sAY _ _ u1
   have w2u:w2≠u:=(AI u3 hw2').symm
   have fw2:HF w2=none:=sA.free (sAY.free hw2')
   show(λHH=>_) (upd HY w2 (.lst (ws0.map V.ref++ns.map V.ref)))
   generalize upd HY w2 (.lst (ws0.map V.ref++ns.map V.ref))=HD at sD hD
   have u4:=sD _ _ u3
   have sAD:=sAY.trans sD
   refine⟨_,rfl,.inl ⟨rfl,_,Am.of u4⟩,_,rfl,u,_,_,rfl,rfl,u4,by rw[ui];exact AO (by omega),?_⟩
   have tt:∀b xs,HD b=some (.tup xs)->upd HD u (.lst ((us.take i).map V.int++[.int up])) b=some (.tup xs):=λb xs e=>by rw[AH (λq=>by rw[q,u4]at e;cases e)];exact e
   have zat:DY z.cps.toList (row:Int)=some (rd z row):=A0 (xs:=z.cps.toList) (j:=row) (by show _=some (z.cps.toList.getD row 0);rw[List.getElem?_eq_getElem (by omega),List.getD_eq_getElem?_getD,List.getElem?_eq_getElem (by omega)];rfl)
   have cl:(mk (cs.take i)).length<=60:=by show(cs.take i).length<=60;rw[List.length_take];omega
   refine⟨_,rfl,_,rfl,_,rfl,_,_,_,rfl,rfl,ts,zat,_,_,rfl,rfl,?_,?_⟩
   ·show(mk (cs.take i)).length+1<=sizeLine
    exact Nat.le_of_lt (AO (by omega))
   have ef:mk (cs.take i)++(⟨#[rd z row]⟩:Str)=mk (cs.take (i+1)):=by
    rw[e3]
    refine Cu ?_
    show((cs.take i).toArray++#[rd z row]).toList=_
    simp[mk]
   have sE':AG HF (upd HD u (.lst ((us.take i).map V.int++[.int up]))):=(sA.trans sAD).write hu
   have u5:upd HD u (.lst ((us.take i).map V.int++[.int up])) u=some (.lst ((us.take (i+1)).map V.int)):=by rw[AB,e2,List.map_append];rfl
   have w5:upd HD u (.lst ((us.take i).map V.int++[.int up])) w2=some (.lst ((ws0++ns).map V.ref)):=by rw[AH w2u];exact hD
   show(λHH=>_) (upd HD u (.lst ((us.take i).map V.int++[.int up])))
   generalize upd HD u (.lst ((us.take i).map V.int++[.int up]))=HE at tt sE' u5 w5
   refine⟨⟨i+1,ws0++ns,w2,_,_,by rw[<-ef];rfl,lt',sE',u5,w5,?_,w2u,fw2⟩,?_⟩
   ·rw[e1,List.reverse_append]
    exact(pw0.same λb xs e=>tt _ _ (sAD _ _ (t1 _ _ e))).app (g2.same λb xs e=>tt _ _ (sD _ _ e))
   ·show(match HE u with|some (.lst xs)=>300 - xs.length|_=>0) < (match HX u with|some (.lst xs)=>300 - xs.length|_=>0)
    rw[u5,huX]
    show 300 - ((us.take (i+1)).map V.int).length < 300 - ((us.take i).map V.int).length
    rw[List.length_map,List.length_map,List.length_take,List.length_take];omega
  ·have w0':ws=[]:=by
    cases ws with
    |nil=>rfl
    |cons a b=>exact absurd rfl cnd
   have en:i=m:=by
    rcases Nat.eq_or_lt_of_le hi with e|e
    ·exact e
    ·have:=pw.1
     rw[w0',List.length_reverse]at this
     exact absurd (List.eq_nil_of_length_eq_zero this.symm) (hne i e)
   subst en
   have tu:us.take i=us:=List.take_of_length_le (by omega)
   have tc:cs.take i=cs:=List.take_of_length_le (by omega)
   have rm:=hrun i (Nat.le_refl _)
   rw[hend,tu,tc]at rm
   rw[tu]at huX
   rw[tc]
   have byr:Gb z ls lv us (mk cs):=⟨EG z lv z.length,i,by rw[l2];exact Pa low (by omega),Ij z lv z.length 26,by omega,rm⟩
   have huZ:=sE _ _ huX
   have sZ:=(sF.trans sX).trans sE
   refine⟨_,rfl,u,_,rfl,.inl (Am.of huZ),_,rfl,z,rfl,ts,rfl,_,rfl,CC (λc2=>?_) (λc2=>?_)⟩
   ·refine⟨_,rfl,u,_,rfl,.inl ⟨Am.of huZ,λtp htp=>?_⟩⟩
    have sT:AG HZ (upd HZ tp (.tup (us.map V.int))):=(AG.refl HZ).new htp
    have hT:upd HZ tp (.tup (us.map V.int)) tp=some (.tup (us.map V.int)):=AB
    show(λHH=>_) (upd HZ tp (.tup (us.map V.int)))
    generalize upd HZ tp (.tup (us.map V.int))=HT at sT hT
    refine⟨_,rfl,(by show 2<=sizeLine;decide),λt ht=>?_⟩
    have sU:AG HT (upd HT t (.tup [.ref tp,.str (mk cs)])):=(AG.refl HT).new ht
    exact q t us (mk cs) _ ((sZ.trans sT).trans sU) ⟨tp,AB,sU _ _ hT,IY gr (by omega) (by omega)⟩ ⟨lwl,gr.road⟩ byr
   ·refine qn (λ⟨ups,lab,ks,R⟩=>c2 ?_) HZ sZ
    obtain⟨e1,e2⟩:=R.by byr
    have:=R.Py
    rw[<-e1]at this
    rw[List.length_map,this]
    exact decide_eq_true rfl
 ·intro σ HX Q1 Q2 hq h
  obtain⟨v,e,hz,h⟩:=h
  refine⟨v,e,hz,λem hem=>?_⟩
  obtain⟨a,b,xs,e1,e2,e3,e4,kk,e5,h⟩:=h em hem
  refine⟨a,b,xs,e1,e2,e3,e4,kk,e5,?_⟩
  cases kk with
  |true=>
   rw[if_pos rfl]at h ⊢
   obtain⟨v2,e6,p,ys,e7,e8,v3,e9,z',e10,e11,i',j',e12,e13,k2,e14,h⟩:=h
   exact⟨v2,e6,p,ys,e7,e8,v3,e9,z',e10,e11,i',j',e12,e13,k2,e14,hq _ _ h⟩
  |false=>exact hq _ _ h
end
end S28
namespace S28
open PySem L2 W7
def dec (l:List Nat):List Bool:=l.filterMap λc=>if c=84 then some true else if c=70 then some false else none
theorem FD (a b:List Nat):dec (a++b)=dec a++dec b:=List.filterMap_append
theorem MT {l:List Nat}(h:∀c∈l,Lw c):dec l=[]:=by
 unfold dec
 rw[List.filterMap_eq_nil_iff]
 intro c hc
 have lc:=h c hc
 unfold Lw at lc
 rw[if_neg (by omega),if_neg (by omega)]
theorem Qr:∀c,c < 123->97<=c->Builtin.Str.reprChar 39 c=[c]:=by decide+kernel
theorem KD:∀(l:List Nat) (acc:Array Nat),(∀c∈l,Lw c)->(l.foldl (λout c=>out++(Builtin.Str.reprChar 39 c).toArray) acc).toList=acc.toList++l
 |[],acc,_=>by simp
 |c::l,acc,h=>by
  have lc:=h c List.mem_cons_self
  unfold Lw at lc
  rw[List.foldl_cons,KD l _ λx hx=>h x (List.mem_cons_of_mem _ hx),Qr c (by omega) (by omega)]
  simp
theorem rt {z:Str}(h:∀c∈z.cps.toList,Lw c):(PySem.reprText z).cps.toList=39::z.cps.toList++[39]:=by
 have q:PySem.reprQuote z=39:=by
  unfold PySem.reprQuote
  have:z.cps.contains 39=false:=by
   rw[Bool.eq_false_iff]
   intro e
   rw[Array.contains_iff_mem]at e
   have:=h 39 (Array.mem_def.mp e)
   unfold Lw at this
   omega
  rw[this];rfl
 unfold PySem.reprText
 rw[q]
 show(Array.push (z.cps.foldl (λout c=>out++(Builtin.Str.reprChar 39 c).toArray) #[39]) 39).toList=_
 rw[Array.toList_push,<-Array.foldl_toList,KD _ _ h]
 rfl
def tb (b:Bool):Str:=if b then"True" else"False"
theorem Pd (b:Bool):dec (tb b).cps.toList=[b]:=by cases b<;>decide+kernel
theorem CB (a b:Str):(a++b).cps.toList=a.cps.toList++b.cps.toList:=by show(a.cps++b.cps).toList=_;simp
theorem KH:∀l:List Bool,dec (Str.join ", " (l.map tb)).cps.toList=l
 |[]=>rfl
 |[b]=>Pd b
 |b::c::l=>by
  show dec (tb b++", "++Str.join ", " ((c::l).map tb)).cps.toList=_
  rw[CB,CB,FD,FD,Pd,KH (c::l),show dec ((", ":Str)).cps.toList=[]from by decide+kernel]
  rfl
def tt (l:List Bool):Str:=tupleText (l.map tb)
theorem SA (l:List Bool):dec (tt l).cps.toList=l:=by
 unfold tt tupleText
 rw[CB,CB,FD,FD,KH,show dec (("(":Str)).cps.toList=[]from by decide+kernel]
 have:dec (Str.ofString (if(l.map tb).length==1 then",)" else")")).cps.toList=[]:=by split<;>decide+kernel
 rw[List.nil_append]
 refine(congrArg (λq=>l++q) this).trans (List.append_nil l)
theorem FY:∀l:List Bool,PyData.shownAll (l.map .bool)=l.map tb
 |[]=>by simp only[List.map_nil,PyData.shownAll]
 |b::l=>by
  rw[List.map_cons,List.map_cons]
  simp only[PyData.shownAll,PyData.shown]
  rw[FY l];rfl
def Gj (z:Str)(l v:List Bool):PyData:=.tuple [.str z,.tuple (l.map .bool),.tuple (v.map .bool)]
theorem KI {z:Str}(h:∀c∈z.cps.toList,Lw c)(l v:List Bool):(Gj z l v).shown.cps.toList=[40,39]++(z.cps.toList++([39,44,32]++(tt l).cps.toList++[44,32]++(tt v).cps.toList++[41])):=by
 have e:(Gj z l v).shown=tupleText [PySem.reprText z,tt l,tt v]:=by
  unfold Gj
  simp only[PyData.shown,PyData.shownAll]
  rw[FY,FY];rfl
 rw[e]
 show((("(":Str)++(PySem.reprText z++", "++(tt l++", "++tt v)))++((")":String):Str)).cps.toList=_
 rw[CB,CB,CB,CB,CB,CB,rt h]
 show[40]++((39::z.cps.toList++[39])++[44,32]++((tt l).cps.toList++[44,32]++(tt v).cps.toList))++[41]=_
 simp
theorem Pe {z z':Str}{l l' v v':List Bool}(h:∀c∈z.cps.toList,Lw c)(h':∀c∈z'.cps.toList,Lw c)(e1:l.length=v.length)(e2:l'.length=v'.length)(e:(Gj z l v).shown=(Gj z' l' v').shown):z=z'/\l=l'/\v=v':=by
 have ec:=congrArg (λs:Str=>s.cps.toList) e
 simp only[KI h,KI h']at ec
 have ed:=congrArg dec ec
 have k1:dec [40,39]=[]:=rfl
 have k2:dec [39,44,32]=[]:=rfl
 have k3:dec [44,32]=[]:=rfl
 have k4:dec [41]=[]:=rfl
 simp only[FD,k1,k2,k3,k4,MT h,MT h',SA,List.nil_append,List.append_nil]at ed
 have ll:l.length=l'.length:=by
  have:=congrArg List.length ed
  simp only[List.length_append]at this
  omega
 obtain⟨a,b⟩:=List.append_inj ed ll
 subst a b
 refine⟨?_,rfl,rfl⟩
 have:=List.append_cancel_left ec
 exact Cu (List.append_cancel_right this)
end S28
namespace S28
open PySem L2 W7
theorem Pf {z:Str}{l v:List Bool}(h:∀c∈z.cps.toList,Lw c)(z1:z.length<=60)(l1:l.length<=60)(v1:v.length<=60):PN (Gj z l v):=by
 have gs:Gd false true z.cps.size 0 (.str z):=Gd.str λc hc=>by have:=h c hc;unfold Lw at this;omega
 have gb:∀bs:List Bool,Gs false true ((0+1)*(bs.map PyData.bool).length) 0 (bs.map PyData.bool):=λbs=>Gs.all λd hd=>by
  obtain⟨b,_,rfl⟩:=List.mem_map.mp hd
  exact Gd.bl b
 have g1:=gb l
 have g2:=gb v
 rw[List.length_map]at g1 g2
 have zs:z.cps.size<=60:=z1
 exact(Gd.tup (Gs.cons (gs.mono (Nat.le_refl _) (Nat.zero_le 1)) (Gs.cons (Gd.tup g1) (Gs.one (Gd.tup g2))))).fit (.inl rfl) (by omega) (by omega)
theorem ne_str {a b:Str}(h:a=b):(!decide (V.str a=V.str b))=false:=by subst h;simp
theorem Qt {a b:Str}(h:¬a=b):(!decide (V.str a=V.str b))=true:=by
 have:decide (V.str a=V.str b)=false:=decide_eq_false λe=>h (by injection e)
 rw[this];rfl
section
variable {P:Program}{w:World}{K:PySem.W.Frag}{mg:Str->Option Value}{base:Heap}{k:Nat}
def Pg:Sp:=λvs H Q _=>∃(v:V) (d:PyData),vs=[v]/\Td H v d/\RF d/\PN d/\
 (∀z ls lv ups lab ks,Bf d z ls lv->RO ups lab ks z ls lv->∀(t:Addr) (H':Hp),AG H H'->BE H' t ups lab->Q (.ref t) H')/\
 ((∀z ls lv,Bf d z ls lv->¬Dy z ls lv)->∀H',AG H H'->Q .A3 H')
theorem Qu (D:Df K mg "_law_due" s_law_due)(B:CK mg)(G_law_form:Bb P w K mg base "_law_form" k ["thing"] Gi)(G_law_tree_by:Bb P w K mg base "_law_tree_by" k ["thing"] KC)(G_law_rows:Bb P w K mg base "_law_rows" k ["tree"] Jt):Bb P w K mg base "_law_due" (k+1) ["thing"] Pg:=by
 refine D.has GS (λ_ _ _ _ _ _=>Gy λ_=>rfl) (λvs H Q E h=>by obtain⟨v,d,rfl,_⟩:=h;rfl) (λf cdv A outer s H vs Q E hr h=>?_)
 obtain⟨v,d,rfl,td,sh,fit,q,qn⟩:=h
 refine⟨_,(AE (Bk (B3 (Bj (AK G_law_form hr rfl (AA (pv 0) AD))))
 (AL (AV CT))
 Av)
 (AE (AN (i:=1) GS.nd rfl (by first|exact Or.inl rfl|exact Or.inr rfl) (AK G_law_tree_by hr rfl (AA (pv 0) AD)))
 (AE (Bk (PW.pt (DN (Ab KY (pv 1) CT (AZ _)) (DB (Ab FZ (AM (Bc hr) rfl B.repr D5 (AA (AK G_law_rows hr rfl (AA (pv 1) AD)) AD)) (AM (Bc hr) rfl B.repr D5 (AA (pv 0) AD)) (AZ _)))))
 (AL (AV CT))
 Av)
 (AL (AV (pv 1)))))),?_⟩
 first|(dsimp only[Bp,Cx.Ft];generalize hK:K=K';revert K' hK;refine Dn (Ae <|Ae <|Ae <|λ_=>rfl) ?_)|skip
 refine⟨_,rfl,v,d,rfl,td,sh,λb H1 s1 hb=>⟨_,rfl,?_⟩⟩
 by_cases cb:b=true
 rotate_left
 ·refine Cn (by rw[Bool.eq_false_iff.mpr cb];rfl) ?_
  refine qn (λz ls lv f ⟨ups,lab,ks,R⟩=>cb (hb.mpr ⟨z,ls,lv,f,?_⟩)) H1 s1
  rw[R.ls]
  rfl
 refine CA (by rw[cb];rfl) ?_
 obtain⟨z,ls,lv,fm,l0⟩:=hb.mp cb
 obtain⟨r,rfl,rw0⟩:=fm.rw td
 have none_:¬Dy z ls lv->∀H',AG H H'->Q .A3 H':=λn H' s=>qn (λz' ls' lv' f' r'=>by obtain⟨rfl,rfl,rfl⟩:=fm.one f';exact n r') H' s
 refine⟨_,rfl,r,z,ls,lv,rfl,rw0.same s1,fm.l1,fm.l2,fm.pos,fm.most,fm.low,λt ups lab H2 s2 tr fine byr=>?_,λn H2 s2=>?_⟩
 rotate_left
 ·exact⟨_,rfl,rfl,_,rfl,Cn (decide_eq_true rfl) (IF (none_ n H2 (s1.trans s2)))⟩
 have s02:=s1.trans s2
 obtain⟨_,_,_,ok⟩:=id tr
 refine⟨_,rfl,rfl,_,rfl,CA (decide_eq_false λe=>by cases e) ?_⟩
 refine⟨_,rfl,t,ups,lab,rfl,tr,λks r' a' b' H3 ko s3 hr3 ha3 hb3=>?_⟩
 have R0:RO ups lab ks (BK lab ks) ((Al ks).map (Az ups)) ((Al ks).map λj:Nat=>BQ ups (j:Int)):=⟨ok,fine,ko,rfl,rfl,rfl⟩
 have ha3':H3 a'=some (.tup (((Al ks).map (Az ups)).map V.bl)):=by rw[ha3,List.map_map];rfl
 have hb3':H3 b'=some (.tup (((Al ks).map λj:Nat=>BQ ups (j:Int)).map V.bl)):=by rw[hb3,List.map_map];rfl
 have m60:=ok.most
 clear ha3 hb3
 generalize BK lab ks=tz at R0 hr3
 generalize(Al ks).map (Az ups)=tl at R0 ha3'
 generalize((Al ks).map λj:Nat=>BQ ups (j:Int))=tv at R0 hb3'
 have td3:Td H3 (.ref r') (Gj tz tl tv):=.tup hr3 (.cons (.str _) (.cons (.tup ha3' (Ih _)) (.cons (.tup hb3' (Ih _)) .nil)))
 have ft3:PN (Gj tz tl tv):=Pf R0.low (by rw[R0.Py];exact m60) (by rw[R0.sl];exact m60) (by rw[R0.vl];exact m60)
 have tdv:Td H3 (.ref r) d:=td.same (s02.trans s3)
 have ed:d=Gj z ls lv:=fm.eq
 have key:(Gj tz tl tv).shown=d.shown↔(tz=z/\tl=ls/\tv=lv):=by
  constructor
  ·intro eq
   rw[ed]at eq
   exact Pe R0.low fm.low (by rw[R0.sl,R0.vl]) (by rw[fm.l1,fm.l2]) eq
  ·rintro⟨rfl,rfl,rfl⟩
   exact congrArg PyData.shown ed.symm
 clear ed
 generalize Gj tz tl tv=d3 at td3 ft3 key
 generalize hs3:d3.shown=z3 at key
 generalize hs:d.shown=z4 at key
 refine⟨_,d3,rfl,td3,ft3,_,rfl,_,d,rfl,tdv,fit,?_⟩
 rw[hs3,hs]
 refine⟨rfl,_,rfl,?_⟩
 by_cases eq:z3=z4
 ·refine CA (ne_str eq) ?_
  obtain⟨e1,e2,e3⟩:=key.mp eq
  subst e1 e2 e3
  exact⟨_,rfl,q tz tl tv ups lab ks fm R0 t H3 (s02.trans s3) (tr.same s3)⟩
 ·refine Cn (Qt eq) ?_
  refine none_ (λ⟨ups',lab',ks',R'⟩=>eq (key.mpr ?_)) H3 (s02.trans s3)
  obtain⟨e1,e2⟩:=R'.by byr
  subst e1 e2
  exact R0.same R'
end
end S28
namespace S28
open PySem L2 W7
def Ls (ps:List Addr)(H:Hp):Prop:=∀y∈ps,∃xs,H y=some (.lst xs)
theorem Ls.kd {ps:List Addr}{p:Addr}{c:Int}{H H':Hp}(l:Ls ps H)(k:Kd p c H H'):Ls ps H':=λy hy=>by
 obtain⟨xs,e⟩:=l y hy
 by_cases q:y=p
 ·subst q
  obtain⟨x,y',z,e',_⟩:=k.deck
  exact⟨_,e'⟩
 ·exact⟨xs,k.keep _ _ q e⟩
theorem Ls.tup {ps:List Addr}{H:Hp}{x:Addr}{xs:List V}(l:Ls ps H)(e:H x=some (.tup xs)):x∉ps:=λh=>by
 obtain⟨ys,e'⟩:=l x h
 rw[e]at e';cases e'
theorem Ls.new {ps:List Addr}{H:Hp}{x:Addr}(l:Ls ps H)(e:H x=none):x∉ps:=λh=>by
 obtain⟨ys,e'⟩:=l x h
 rw[e]at e';cases e'
theorem Ul {H H':Hp}{ps:List Addr}(h:AG H H'):AG (dl ps H) (dl ps H'):=Ig λb o n e=>h b o e
theorem Uu {H H':Hp}{p:Addr}{ps:List Addr}{c:Int}(hp:p∈ps)(h:Kd p c H H'):AG (dl ps H) (dl ps H'):=Ig λb o n e=>h.keep b o (λz=>n (by rw[z];exact hp)) e
def Pt (ps:List Addr)(H:Hp)(v:V):Prop:=∃d,Td (dl ps H) v d/\Gd false true 30000 2 d/\Short d/\SU d
def Wh (ps:List Addr)(H:Hp)(v:V):Prop:=∃d,Td (dl ps H) v d/\PN d/\RF d
section
variable {ps:List Addr}{r:Addr}{H H':Hp}{v:V}{xs:List V}
theorem Pt.on (h:Pt ps H v)(s:AG (dl ps H) (dl ps H')):Pt ps H' v:=let⟨d,t,g⟩:=h;⟨d,t.same s,g⟩
theorem Wh.on (h:Wh ps H v)(s:AG (dl ps H) (dl ps H')):Wh ps H' v:=let⟨d,t,g⟩:=h;⟨d,t.same s,g⟩
def At (v:V):Prop:=∃d,(∀H:Hp,Td H v d)/\Gd false true 201 0 d
theorem Gk (b:Bool):At (.bl b):=⟨_,λ_=>.bl b,(Gd.bl b).mono (Nat.zero_le _) (Nat.le_refl _)⟩
theorem LW {i:Int}(h:i.natAbs < 10 ^ 60):At (.int i):=⟨_,λ_=>.int i,Gd.big h⟩
theorem SD:At .A3:=⟨_,λ_=>.A3,Gd.A3.mono (Nat.zero_le _) (Nat.le_refl _)⟩
theorem Ph {z:Str}(h:∀c∈z.cps.toList,c < 1000)(l:z.length<=200):At (.str z):=⟨_,λ_=>.str z,(Gd.str h).mono (show z.length<=201 by omega) (Nat.le_refl _)⟩
theorem Il:∀{xs:List V},(∀x∈xs,At x)->∃ds,(∀H:Hp,FE H xs ds)/\∀d∈ds,Gd false true 201 0 d
 |[],_=>⟨[],λ_=>.nil,λd h=>by cases h⟩
 |x::xs,h=>by
  obtain⟨d,t,g⟩:=h x List.mem_cons_self
  obtain⟨ds,ts,gs⟩:=Il λy hy=>h y (List.mem_cons_of_mem _ hy)
  refine⟨d::ds,λH=>.cons (t H) (ts H),λe he=>?_⟩
  rcases List.mem_cons.mp he with rfl|he
  ·exact g
  ·exact gs e he
theorem Dz (h:H r=some (.tup xs))(n:r∉ps)(l:xs.length<=130)(a:∀x∈xs,At x):Pt ps H (.ref r):=by
 obtain⟨ds,ts,gs⟩:=Il a
 have dl':=(ts H).len
 have g:=Gd.tup (Gs.all gs)
 refine⟨_,.tup (MO h n) (ts _),g.mono (by omega) (by omega),λz e=>by(cases e),λes e=>?_⟩
 injection e with e
 rw[<-e];omega
theorem Pj (h:H r=some (.lst xs))(n:r∉ps)(l:xs.length<=130)(a:∀x∈xs,At x):Pt ps H (.ref r):=by
 obtain⟨ds,ts,gs⟩:=Il a
 have dl':=(ts H).len
 have g:=Gd.lst (Gs.all gs)
 exact⟨_,.lst (MO h n) (ts _),g.mono (by omega) (by omega),λz e=>(by cases e),λes e=>(by cases e)⟩
theorem Pk {z:Str}(h:∀c∈z.cps.toList,c < 1000)(l:z.length<=200):Pt ps H (.str z):=by
 refine⟨_,.str z,(Gd.str h).mono (show z.length<=30000 by omega) (Nat.zero_le _),λy e=>?_,λes e=>(by cases e)⟩
 injection e with e
 subst e
 exact⟨by omega,h⟩
theorem Pl:Pt ps H .A3:=⟨_,.A3,Gd.A3.mono (Nat.zero_le _) (Nat.zero_le _),λy e=>(by cases e),λes e=>(by cases e)⟩
theorem Pm {i:Int}(h:i.natAbs < 10 ^ 60):Pt ps H (.int i):=⟨_,.int i,(Gd.big h).mono (by omega) (Nat.zero_le _),λy e=>(by cases e),λes e=>(by cases e)⟩
theorem Io:∀{xs:List V},(∀x∈xs,Pt ps H x)->∃ds,FE (dl ps H) xs ds/\∀d∈ds,Gd false true 30000 2 d/\Short d/\SU d
 |[],_=>⟨[],.nil,λd h=>by cases h⟩
 |x::xs,h=>by
  obtain⟨d,t,g⟩:=h x List.mem_cons_self
  obtain⟨ds,ts,gs⟩:=Io λy hy=>h y (List.mem_cons_of_mem _ hy)
  refine⟨d::ds,.cons t ts,λe he=>?_⟩
  rcases List.mem_cons.mp he with rfl|he
  ·exact g
  ·exact gs e he
theorem Ip (h:H r=some (.tup xs))(n:r∉ps)(l:xs.length<=4)(a:∀x∈xs,Pt ps H x):Wh ps H (.ref r):=by
 obtain⟨ds,ts,gs⟩:=Io a
 have dl':=ts.len
 have g:=Gd.tup (Gs.all λd hd=>(gs d hd).1)
 have lm:(30000+1)*ds.length<=(30000+1)*4:=Nat.mul_le_mul_left _ (by omega)
 refine⟨_,.tup (MO h n) ts,g.fit (.inl rfl) (by omega) (by omega),λx y z e=>?_⟩
 injection e with e
 subst e
 exact⟨(gs x (by simp)).2.1,(gs y (by simp)).2.2,(gs z (by simp)).2.2⟩
theorem SE (h:H r=some (.lst xs))(n:r∉ps)(l:xs.length<=4)(a:∀x∈xs,Pt ps H x):Wh ps H (.ref r):=by
 obtain⟨ds,ts,gs⟩:=Io a
 have dl':=ts.len
 have g:=Gd.lst (Gs.all λd hd=>(gs d hd).1)
 have lm:(30000+1)*ds.length<=(30000+1)*4:=Nat.mul_le_mul_left _ (by omega)
 exact⟨_,.lst (MO h n) ts,g.fit (.inl rfl) (by omega) (by omega),λx y z e=>(by cases e)⟩
end
section
variable {P:Program}{w:World}{K:PySem.W.Frag}{mg:Str->Option Value}{base:Heap}{k:Nat}
theorem Pn {n:Nat}{i:Int}(h0:0<=i)(h1:i < (n:Int)):Mj n i=some i.toNat:=by unfold Mj;rw[if_pos h0,if_pos h1]
theorem MU {xs:List V}{lo hi:Option Int}{x:V}(h:x∈Bq xs lo hi):x∈xs:=by
 unfold Bq at h
 exact List.mem_of_mem_drop (List.mem_of_mem_take h)
theorem Po {xs:List V}{lo hi:Option Int}:(Bq xs lo hi).length<=xs.length:=by
 unfold Bq
 rw[List.length_take,List.length_drop];omega
def KJ:Sp:=λvs H Q _=>∃(p a:Addr) (c:Int) (bs:List Bool) (ps:List Addr),vs=[.ref p,.ref a]/\p∈ps/\Ls ps H/\CO H p c/\0<=c/\c < 900000/\H a=some (.tup (bs.map V.bl))/\1<=bs.length/\bs.length<=60/\∀(v:V) (H':Hp),Kd p (c+10) H H'->Pt ps H' v->Q v H'
theorem NY (D:Df K mg "_law_marks_bent" s_law_marks_bent)(B:CK mg)(G_law_take:Bb P w K mg base "_law_take" k ["pool","many"] Ex):Bb P w K mg base "_law_marks_bent" (k+1) ["pool","marks"] KJ:=by
 refine D.has Ax (λ_ _ _ _ _ _=>Om λ_ _=>rfl) (λvs H Q E h=>by obtain⟨p,a,c,bs,ps,rfl,_⟩:=h;rfl) (λf cdv A outer s H vs Q E hr h=>?_)
 obtain⟨p,a,c,bs,ps,rfl,hpp,Lq,dk,c0,c9,ha,b1,b60,q⟩:=h
 refine⟨_,(AE (AN (i:=2) Ax.nd rfl (by first|exact Or.inl rfl|exact Or.inr rfl) (AK G_law_take hr rfl (AA (pv 0) (AA AF AD))))
 (AE (AN (i:=3) Ax.nd rfl (by first|exact Or.inl rfl|exact Or.inr rfl) (AK G_law_take hr rfl (AA (pv 0) (AA (AM Ad rfl B.len Aw (AA (pv 1) AD)) AD))))
 (AE (AN (i:=4) Ax.nd rfl (by first|exact Or.inl rfl|exact Or.inr rfl) (AK G_law_take hr rfl (AA (pv 0) (AA (AM Ad rfl B.len Aw (AA (pv 1) AD)) AD))))
 (AE (AN (i:=5) Ax.nd rfl (by first|exact Or.inl rfl|exact Or.inr rfl) (Ao Ej rfl B.list_ Fw (AA (pv 1) AD)))
 (AE (DC (Ak (AA (AR Aj (pv 1) (pv 4) (λ_ _=>rfl)) (AA (AR Aj (pv 1) (pv 3) (λ_ _=>rfl)) AD))) (Ce rfl (Ag (FF (pv 5) (pv 3) set_list) (Ag (FF (pv 5) (pv 4) set_list) Bv))))
 (AE (AN (i:=6) Ax.nd rfl (by first|exact Or.inl rfl|exact Or.inr rfl) (AR Ap (Ai (AA AF (AA AF (AA CT (AA Bi (AA (Ao CG rfl B.int_ ET (AA (AR Aj (pv 1) (pv 3) (λ_ _=>rfl)) AD)) AD)))))) (AK G_law_take hr rfl (AA (pv 0) (AA AF AD))) (λ_ _=>rfl)))
 (AE (AN (i:=7) Ax.nd rfl (by first|exact Or.inl rfl|exact Or.inr rfl) (AS By (AS By (Aa BR (pv 1) Aq (Ac (pv 3))) (Ak (AA (RN (AR Aj (pv 1) (pv 3) (λ_ _=>rfl))) AD))) (Aa BR (pv 1) (Ac (AS BC (pv 3) AF)) Aq)))
 (AL (AV (AR Ap (Ai (AA (pv 7) (AA (pv 7) (AA (Ao BI rfl B.tuple_ BW (AA (pv 5) AD)) (AA (AS By (Aa BR (pv 1) Aq (Ac (pv 3))) (Aa BR (pv 1) (Ac (AS BC (pv 3) AF)) Aq)) (AA (AS By (AS By (Aa BR (pv 1) Aq (Ac (pv 3))) (Ak (AA (pv 6) AD))) (Aa BR (pv 1) (Ac (AS BC (pv 3) AF)) Aq)) (AA (pv 5) AD))))))) (pv 2) (λ_ _=>rfl))))))))))),?_⟩
 first|(dsimp only[Bp,Cx.Ft];generalize hK:K=K';revert K' hK;refine Dn (Ae <|Ae <|Ae <|Ae <|Ae <|Ae <|Ae <|λ_=>rfl) ?_)|skip
 have bl:(bs.map V.bl).length=bs.length:=List.length_map _
 have ap:a≠p:=Lk dk ha (by intro _ _ _ z;cases z)
 refine⟨_,rfl,p,6,c,rfl,dk,by omega,by decide,by decide,λway H1 w0 w1 kd1=>?_⟩
 have ha1:=kd1.keep _ _ ap ha
 refine⟨_,rfl,_,rfl,a,_,rfl,.inr (Ar.of ha1),p,_,_,rfl,kd1.deck,by omega,by rw[bl];omega,by rw[bl];omega,λat_ H2 x0 x1 kd2=>?_⟩
 have ha2:=kd2.keep _ _ ap ha1
 refine⟨_,rfl,_,rfl,a,_,rfl,.inr (Ar.of ha2),p,_,_,rfl,kd2.deck,by omega,by rw[bl];omega,by rw[bl];omega,λto_ H3 y0 y1 kd3=>?_⟩
 have ha3:=kd3.keep _ _ ap ha2
 have ku3:=(kd1.trans kd2).trans kd3
 rw[bl]at x1 y1
 have hat:∀i:Int,0<=i->i < (bs.length:Int)->DY (bs.map V.bl) i=some (.bl (bs.getD i.toNat false)):=λi i0 i1=>by
  have e:=A0 (xs:=bs.map V.bl) (j:=i.toNat) (v:=.bl (bs.getD i.toNat false)) (by rw[List.getElem?_map,List.getElem?_eq_getElem (by omega),List.getD_eq_getElem?_getD,List.getElem?_eq_getElem (by omega)];rfl)
  rw[show((i.toNat:Nat):Int)=i by omega]at e
  exact e
 have hxa:=hat at_ x0 x1
 have hya:=hat to_ y0 y1
 have allb:∀x∈bs.map V.bl,At x:=λx hx=>by obtain⟨b,_,rfl⟩:=List.mem_map.mp hx;exact Gk b
 refine⟨_,rfl,a,_,rfl,.inr (Ar.of ha3),λsm hsm=>?_⟩
 have smp:sm≠p:=ku3.deck.ne hsm
 have fsm:H sm=none:=ku3.fresh hsm
 have smq:sm∉ps:=(Lq.kd ku3).new hsm
 have sma:a≠sm:=AI ha3 hsm
 have ku4:=ku3.new (o:=.lst (bs.map V.bl)) hsm
 have h4:upd H3 sm (.lst (bs.map V.bl)) sm=some (.lst (bs.map V.bl)):=AB
 have ha4:upd H3 sm (.lst (bs.map V.bl)) a=some (.tup (bs.map V.bl)):=by rw[AH sma];exact ha3
 show(λHH=>_) (upd H3 sm (.lst (bs.map V.bl)))
 generalize upd H3 sm (.lst (bs.map V.bl))=H4 at ku4 h4 ha4
 refine⟨_,rfl,_,rfl,a,_,_,_,rfl,rfl,Ar.of ha4,hya,_,rfl,_,rfl,a,_,_,_,rfl,rfl,Ar.of ha4,hxa,(by show 2<=sizeLine;decide),λtp htp=>?_⟩
 have s5:AG H4 (upd H4 tp (.tup [.bl (bs.getD to_.toNat false),.bl (bs.getD at_.toNat false)])):=(AG.refl H4).new htp
 have h5:upd H4 tp (.tup [.bl (bs.getD to_.toNat false),.bl (bs.getD at_.toNat false)]) tp=some (.tup [.bl (bs.getD to_.toNat false),.bl (bs.getD at_.toNat false)]):=AB
 have ku5:=ku4.new (o:=.tup [.bl (bs.getD to_.toNat false),.bl (bs.getD at_.toNat false)]) htp
 show(λHH=>_) (upd H4 tp (.tup [.bl (bs.getD to_.toNat false),.bl (bs.getD at_.toNat false)]))
 generalize upd H4 tp (.tup [.bl (bs.getD to_.toNat false),.bl (bs.getD at_.toNat false)])=H5 at s5 h5 ku5
 have hs5:=s5 _ _ h4
 have ha5:=s5 _ _ ha4
 refine⟨tp,_,rfl,Ar.of h5,rfl,_,_,rfl,_,rfl,_,rfl,sm,_,_,_,rfl,rfl,hs5,by rw[bl];exact Pn x0 x1,?_⟩
 have ku6:=ku5.write (o:=.lst ((bs.map V.bl).set at_.toNat (.bl (bs.getD to_.toNat false)))) fsm smp
 have h6:upd H5 sm (.lst ((bs.map V.bl).set at_.toNat (.bl (bs.getD to_.toNat false)))) sm=some (.lst ((bs.map V.bl).set at_.toNat (.bl (bs.getD to_.toNat false)))):=AB
 have ha6:upd H5 sm (.lst ((bs.map V.bl).set at_.toNat (.bl (bs.getD to_.toNat false)))) a=some (.tup (bs.map V.bl)):=by rw[AH sma];exact ha5
 have fsm6:H sm=none:=fsm
 show(λHH=>_) (upd H5 sm (.lst ((bs.map V.bl).set at_.toNat (.bl (bs.getD to_.toNat false)))))
 generalize upd H5 sm (.lst ((bs.map V.bl).set at_.toNat (.bl (bs.getD to_.toNat false))))=H6 at ku6 h6 ha6
 refine⟨_,_,rfl,_,rfl,_,rfl,sm,_,_,_,rfl,rfl,h6,by rw[List.length_set,bl];exact Pn y0 y1,rfl,?_⟩
 obtain⟨ys,eys⟩:∃ys,ys=((bs.map V.bl).set at_.toNat (.bl (bs.getD to_.toNat false))).set to_.toNat (.bl (bs.getD at_.toNat false)):=⟨_,rfl⟩
 rw[<-eys]
 have yl:ys.length=bs.length:=by rw[eys,List.length_set,List.length_set,bl]
 have yat:∀x∈ys,At x:=λx hx=>by
  rw[eys]at hx
  rcases List.mem_or_eq_of_mem_set hx with hx|rfl
  ·rcases List.mem_or_eq_of_mem_set hx with hx|rfl
   ·exact allb x hx
   ·exact Gk _
  ·exact Gk _
 have ku7:=ku6.write (o:=.lst ys) fsm smp
 have h7:upd H6 sm (.lst ys) sm=some (.lst ys):=AB
 have ha7:upd H6 sm (.lst ys) a=some (.tup (bs.map V.bl)):=by rw[AH sma];exact ha6
 show(λHH=>_) (upd H6 sm (.lst ys))
 generalize upd H6 sm (.lst ys)=H7 at ku7 h7 ha7
 clear eys h6 ha6 ku6 hs5 ha5 ku5
 refine⟨_,rfl,_,rfl,a,_,_,_,rfl,rfl,Ar.of ha7,hxa,.inr ⟨_,rfl,(by show 5<=sizeLine;decide),λol hol=>?_⟩⟩
 obtain⟨ob,hob,aob⟩:∃ob:Int,(if bs.getD at_.toNat false=true then(1:Int)else 0)=ob/\ob.natAbs < 10 ^ 60:=⟨_,rfl,by split<;>decide⟩
 rw[hob]
 have s8:AG H7 (upd H7 ol (.lst [.int 1,.int 0,.A3,.str (Str.ofString ""),.int ob])):=(AG.refl H7).new hol
 have h8:upd H7 ol (.lst [.int 1,.int 0,.A3,.str (Str.ofString ""),.int ob]) ol=some (.lst [.int 1,.int 0,.A3,.str (Str.ofString ""),.int ob]):=AB
 have ku8:=ku7.new (o:=.lst [.int 1,.int 0,.A3,.str (Str.ofString ""),.int ob]) hol
 have olp:ol≠p:=ku7.deck.ne hol
 show(λHH=>_) (upd H7 ol (.lst [.int 1,.int 0,.A3,.str (Str.ofString ""),.int ob]))
 generalize upd H7 ol (.lst [.int 1,.int 0,.A3,.str (Str.ofString ""),.int ob])=H8 at s8 h8 ku8
 refine⟨_,rfl,p,5,_,rfl,ku8.deck,by omega,by decide,by decide,λod H9 d0 d1 kd9=>?_⟩
 obtain⟨ov,hov,aov⟩:∃ov,DY [V.int 1,.int 0,.A3,.str (Str.ofString ""),.int ob] od=some ov/\At ov:=by
  have:od=0\/od=1\/od=2\/od=3\/od=4:=by omega
  rcases this with rfl|rfl|rfl|rfl|rfl
  ·exact⟨_,rfl,LW (by decide)⟩
  ·exact⟨_,rfl,LW (by decide)⟩
  ·exact⟨_,rfl,SD⟩
  ·exact⟨_,rfl,Ph (λc hc=>by cases hc) (by decide)⟩
  ·exact⟨_,rfl,LW aob⟩
 refine⟨ol,_,_,_,rfl,rfl,Am.of (kd9.keep _ _ olp h8),hov,?_⟩
 have ku9:=ku8.trans kd9
 have ha9:=kd9.keep _ _ ap (s8 _ _ ha7)
 have hs9:=kd9.keep _ _ smp (s8 _ _ h7)
 clear ku8 h8 hov hob
 refine⟨_,rfl,_,rfl,_,rfl,a,_,rfl,ha9,λr1 G1 q1 g1=>?_⟩
 have lc:∀lo hi,(Bq (bs.map V.bl) lo hi).length<=60:=λlo hi=>by have:=Po (xs:=bs.map V.bl) (lo:=lo) (hi:=hi);rw[bl]at this;omega
 have ca:∀lo hi,∀x∈Bq (bs.map V.bl) lo hi,At x:=λlo hi x hx=>allb x (MU hx)
 have jo:∀{xs ys:List V},(∀x∈xs,At x)->(∀x∈ys,At x)->∀x∈xs++ys,At x:=λ{xs ys} h1 h2 x hx=>by
  rcases List.mem_append.mp hx with hx|hx
  ·exact h1 x hx
  ·exact h2 x hx
 have on1:∀{v:V},At v->∀x∈[v],At x:=λ{v} h x hx=>by rw[List.mem_singleton.mp hx];exact h
 have sz:∀a b c:Nat,a<=60->b<=60->c<=3->a+b+c<=sizeLine:=λa b c h1 h2 h3=>Nat.le_of_lt (AO (by omega))
 refine⟨_,rfl,_,rfl,a,_,_,_,rfl,rfl,Ar.of (q1 _ _ ha9),hxa,_,rfl,(by show 1<=sizeLine;decide),λt1 ht1=>?_⟩
 have q2:AG G1 (upd G1 t1 (.tup [.bl (!bs.getD at_.toNat false)])):=(AG.refl G1).new ht1
 have w2:upd G1 t1 (.tup [.bl (!bs.getD at_.toNat false)]) t1=some (.tup [.bl (!bs.getD at_.toNat false)]):=AB
 show(λHH=>_) (upd G1 t1 (.tup [.bl (!bs.getD at_.toNat false)]))
 generalize upd G1 t1 (.tup [.bl (!bs.getD at_.toNat false)])=G2 at q2 w2
 refine⟨r1,t1,_,_,rfl,rfl,q2 _ _ g1,w2,sz _ 1 0 (lc _ _) (by decide) (by decide),λr2 G3 q3 g3=>?_⟩
 have q13:=(q1.trans q2).trans q3
 refine⟨_,rfl,_,rfl,_,_,rfl,rfl,_,rfl,a,_,rfl,q13 _ _ ha9,λr3 G4 q4 g4=>?_⟩
 refine⟨r2,r3,_,_,rfl,rfl,q4 _ _ g3,g4,by rw[List.length_append];have:=lc none (some at_);have:=lc (some (at_+1)) none;exact Nat.le_of_lt (AO (by show _+1+_<=1000;omega)),λtn G5 q5 g5=>?_⟩
 have q15:=(q13.trans q4).trans q5
 refine⟨_,rfl,_,rfl,_,rfl,sm,_,rfl,.inl ⟨Am.of (q15 _ _ hs9),λts hts=>?_⟩⟩
 have q6:AG G5 (upd G5 ts (.tup ys)):=(AG.refl G5).new hts
 have w6:upd G5 ts (.tup ys) ts=some (.tup ys):=AB
 show(λHH=>_) (upd G5 ts (.tup ys))
 generalize upd G5 ts (.tup ys)=G6 at q6 w6
 have q16:=q15.trans q6
 refine⟨_,rfl,_,rfl,_,rfl,a,_,rfl,q16 _ _ ha9,λr4 G7 q7 g7=>?_⟩
 have q17:=q16.trans q7
 refine⟨_,rfl,_,rfl,_,_,rfl,rfl,_,rfl,a,_,rfl,q17 _ _ ha9,λr5 G8 q8 g8=>?_⟩
 refine⟨r4,r5,_,_,rfl,rfl,q8 _ _ g7,g8,sz _ _ 0 (lc _ _) (lc _ _) (by decide),λv3 G9 q9 g9=>?_⟩
 have q19:=(q17.trans q8).trans q9
 refine⟨_,rfl,_,rfl,_,rfl,a,_,rfl,q19 _ _ ha9,λr6 K1 e1 k1=>?_⟩
 have q1A:=q19.trans e1
 refine⟨_,rfl,(by show 1<=sizeLine;decide),λt2 ht2=>?_⟩
 have e2:AG K1 (upd K1 t2 (.tup [ov])):=(AG.refl K1).new ht2
 have x2:upd K1 t2 (.tup [ov]) t2=some (.tup [ov]):=AB
 show(λHH=>_) (upd K1 t2 (.tup [ov]))
 generalize upd K1 t2 (.tup [ov])=K2 at e2 x2
 refine⟨r6,t2,_,_,rfl,rfl,e2 _ _ k1,x2,sz _ 1 0 (lc _ _) (by decide) (by decide),λr7 K3 e3 k3=>?_⟩
 have q1B:=(q1A.trans e2).trans e3
 refine⟨_,rfl,_,rfl,_,_,rfl,rfl,_,rfl,a,_,rfl,q1B _ _ ha9,λr8 K4 e4 k4=>?_⟩
 refine⟨r7,r8,_,_,rfl,rfl,e4 _ _ k3,k4,by rw[List.length_append];have:=lc none (some at_);have:=lc (some (at_+1)) none;exact Nat.le_of_lt (AO (by show _+1+_<=1000;omega)),λv4 K5 e5 k5=>?_⟩
 have q1C:=(q1B.trans e4).trans e5
 refine⟨_,rfl,(by show 6<=sizeLine;decide),λrl hrl=>?_⟩
 have e6:AG K5 (upd K5 rl (.lst [.ref tn,.ref tn,.ref ts,.ref v3,.ref v4,.ref sm])):=(AG.refl K5).new hrl
 have x6:upd K5 rl (.lst [.ref tn,.ref tn,.ref ts,.ref v3,.ref v4,.ref sm]) rl=some (.lst [.ref tn,.ref tn,.ref ts,.ref v3,.ref v4,.ref sm]):=AB
 show(λHH=>_) (upd K5 rl (.lst [.ref tn,.ref tn,.ref ts,.ref v3,.ref v4,.ref sm]))
 generalize upd K5 rl (.lst [.ref tn,.ref tn,.ref ts,.ref v3,.ref v4,.ref sm])=K6 at e6 x6
 have qF:=q1C.trans e6
 have kuF:=ku9.same qF
 have dF:=kuF.deck
 have a5:=((q6.trans q7).trans q8).trans q9
 have tnF:K6 tn=some (.tup ((Bq (bs.map V.bl) none (some at_)++[.bl (!bs.getD at_.toNat false)])++Bq (bs.map V.bl) (some (at_+1)) none)):=e6 _ _ (e5 _ _ (e4 _ _ (e3 _ _ (e2 _ _ (e1 _ _ (a5 _ _ g5))))))
 have tsF:K6 ts=some (.tup ys):=e6 _ _ (e5 _ _ (e4 _ _ (e3 _ _ (e2 _ _ (e1 _ _ (q9 _ _ (q8 _ _ (q7 _ _ w6))))))))
 have v3F:K6 v3=some (.tup (Bq (bs.map V.bl) none (some at_)++Bq (bs.map V.bl) (some (at_+1)) none)):=e6 _ _ (e5 _ _ (e4 _ _ (e3 _ _ (e2 _ _ (e1 _ _ g9)))))
 have v4F:K6 v4=some (.tup ((Bq (bs.map V.bl) none (some at_)++[ov])++Bq (bs.map V.bl) (some (at_+1)) none)):=e6 _ _ k5
 have smF:K6 sm=some (.lst ys):=qF _ _ hs9
 have n1:=lc none (some at_)
 have n2:=lc (some (at_+1)) none
 have pts:∀v∈[V.ref tn,.ref tn,.ref ts,.ref v3,.ref v4,.ref sm],Pt ps K6 v:=λv hv=>by
  have np:∀{r:Addr} {xs:List V},K6 r=some (.tup xs)->r∉ps:=λ{r xs} e=>(Lq.kd kuF).tup e
  simp only[List.mem_cons,List.not_mem_nil,or_false]at hv
  rcases hv with rfl|rfl|rfl|rfl|rfl|rfl
  ·exact Dz tnF (np tnF) (by rw[List.length_append,List.length_append];show _+1+_<=_;omega) (jo (jo (ca _ _) (on1 (Gk _))) (ca _ _))
  ·exact Dz tnF (np tnF) (by rw[List.length_append,List.length_append];show _+1+_<=_;omega) (jo (jo (ca _ _) (on1 (Gk _))) (ca _ _))
  ·exact Dz tsF (np tsF) (by omega) yat
  ·exact Dz v3F (np v3F) (by rw[List.length_append];omega) (jo (ca _ _) (ca _ _))
  ·exact Dz v4F (np v4F) (by rw[List.length_append,List.length_append];show _+1+_<=_;omega) (jo (jo (ca _ _) (on1 aov)) (ca _ _))
  ·exact Pj smF smq (by omega) yat
 obtain⟨res,hres,hin⟩:∃res,DY [V.ref tn,.ref tn,.ref ts,.ref v3,.ref v4,.ref sm] way=some res/\res∈[V.ref tn,.ref tn,.ref ts,.ref v3,.ref v4,.ref sm]:=by
  have:way=0\/way=1\/way=2\/way=3\/way=4\/way=5:=by omega
  rcases this with rfl|rfl|rfl|rfl|rfl|rfl<;>exact⟨_,rfl,by simp⟩
 exact⟨_,rfl,rl,_,_,_,rfl,rfl,Am.of x6,hres,q res K6 (kuF.mono (by omega)) (pts res hin)⟩
end
end S28
namespace S28
open PySem L2 W7
def Lo (n:Nat)(z:Str):Prop:=z.length<=n/\∀c∈z.cps.toList,c < 1000
theorem Lo.cut {n:Nat}{z:Str}(h:Lo n z)(lo hi:Option Int):Lo n (Di z lo hi):=by
 have e:(Di z lo hi).cps.toList=(z.cps.toList.drop (HT.BD z.length 0 lo)).take (HT.BD z.length z.length hi - HT.BD z.length 0 lo):=rfl
 refine⟨?_,λc hc=>?_⟩
 ·have:(Di z lo hi).length=(Di z lo hi).cps.toList.length:=by rw[Array.length_toList];rfl
  rw[this,e,List.length_take,List.length_drop,Array.length_toList]
  have:z.cps.size<=n:=h.1
  omega
 ·rw[e]at hc
  exact h.2 c (List.mem_of_mem_drop (List.mem_of_mem_take hc))
theorem Lo.app {n m:Nat}{y z:Str}(h:Lo n y)(g:Lo m z):Lo (n+m) (y++z):=by
 refine⟨?_,λc hc=>?_⟩
 ·show(y.cps++z.cps).size<=_
  rw[Array.size_append]
  have:y.cps.size<=n:=h.1
  have:z.cps.size<=m:=g.1
  omega
 ·rw[CB]at hc
  rcases List.mem_append.mp hc with hc|hc
  ·exact h.2 c hc
  ·exact g.2 c hc
theorem SF {ch:Nat}(h:ch < 1000):Lo 1 (⟨#[ch]⟩:Str):=by
 refine⟨Nat.le_refl _,λc hc=>?_⟩
 have e:c=ch:=by simpa using hc
 rw[e];exact h
theorem Lo.le {n:Nat}{z:Str}(h:Lo n z)(hn:n<=1000):z.length<=sizeLine:=Nat.le_of_lt (AO (Nat.le_trans h.1 hn))
theorem Lo.sum {n m:Nat}{y z:Str}(h:Lo n y)(g:Lo m z)(hn:n+m<=1000):y.length+z.length<=sizeLine:=Nat.le_of_lt (AO (Nat.le_trans (Nat.add_le_add h.1 g.1) hn))
section
variable {ps:List Addr}{r:Addr}{H:Hp}
theorem Lo.pt {n:Nat}{z:Str}(h:Lo n z)(hn:n<=200):Pt ps H (.str z):=Pk h.2 (Nat.le_trans h.1 hn)
theorem Cy {bs:List Bool}(h:H r=some (.tup (bs.map V.bl)))(n:r∉ps)(l:bs.length<=60):Pt ps H (.ref r):=Dz h n (by rw[List.length_map];omega) λx hx=>by obtain⟨b,_,rfl⟩:=List.mem_map.mp hx;exact Gk b
theorem F2 {xs:List V}(h:H r=some (.tup xs))(n:r∉ps)(l:xs.length<=130)(a:∀x∈xs,∃b,x=V.bl b):Pt ps H (.ref r):=Dz h n l λx hx=>by obtain⟨b,rfl⟩:=a x hx;exact Gk b
theorem NZ {x y z:V}(h:H r=some (.tup [x,y,z]))(n:r∉ps)(px:Pt ps H x)(py:Pt ps H y)(pz:Pt ps H z):Wh ps H (.ref r):=Ip h n (by show 3<=4;decide) λv hv=>by
 simp only[List.mem_cons,List.not_mem_nil,or_false]at hv
 rcases hv with rfl|rfl|rfl
 ·exact px
 ·exact py
 ·exact pz
theorem SG:Wh ps H .A3:=⟨_,.A3,(Gd.A3 (hd:=false) (hl:=true)).fit (.inl rfl) (by decide) (by decide),λx y z e=>by cases e⟩
theorem SH {i:Int}(h:i.natAbs < 10 ^ 60):Wh ps H (.int i):=⟨_,.int i,(Gd.big (hd:=false) (hl:=true) h).fit (.inl rfl) (by decide) (by decide),λx y z e=>by cases e⟩
theorem Th (b:Bool):Wh ps H (.bl b):=⟨_,.bl b,(Gd.bl (hd:=false) (hl:=true) b).fit (.inl rfl) (by decide) (by decide),λx y z e=>by cases e⟩
theorem SI {z:Str}(h:Lo 200 z):Wh ps H (.str z):=⟨_,.str z,(Gd.str (hd:=false) (hl:=true) h.2).fit (.inl rfl) (show z.length<=200000 by have:=h.1;omega) (by decide),λx y z e=>by cases e⟩
end
theorem CN {bs:List Bool}{lo hi:Option Int}:∀x∈Bq (bs.map V.bl) lo hi,∃b,x=V.bl b:=λx hx=>by
 obtain⟨b,_,rfl⟩:=List.mem_map.mp (MU hx);exact⟨b,rfl⟩
theorem BB {bs:List Bool}{lo hi:Option Int}(h:bs.length<=60):(Bq (bs.map V.bl) lo hi).length<=60:=by
 have:=Po (xs:=bs.map V.bl) (lo:=lo) (hi:=hi)
 rw[List.length_map]at this;omega
theorem Qv {bs:List Bool}{i:Int}(h:bs.length<=60)(i0:0<=i):(Bq (bs.map V.bl) (some i) (some (i+1))).length<=1:=by
 unfold Bq
 rw[List.length_take]
 have e1:HT.BD (bs.map V.bl).length 0 (some i)=min i.toNat (bs.map V.bl).length:=by
  simp only[HT.BD];split<;>omega
 have e2:HT.BD (bs.map V.bl).length (bs.map V.bl).length (some (i+1))=min (i+1).toNat (bs.map V.bl).length:=by
  simp only[HT.BD];split<;>omega
 rw[e1,e2]
 omega
theorem two {a b:Nat}(h1:a<=60)(h2:b<=60):a+b<=sizeLine:=Nat.le_of_lt (AO (by omega))
theorem three {a b c:Nat}(h1:a<=60)(h2:b<=1)(h3:c<=60):a+b+c<=sizeLine:=Nat.le_of_lt (AO (by omega))
theorem Ti {xs ys:List V}(h1:xs.length<=60)(h2:ys.length<=60):(xs++ys).length<=130:=by rw[List.length_append];omega
theorem Pq {xs ys zs:List V}(h1:xs.length<=60)(h2:ys.length<=1)(h3:zs.length<=60):(xs++ys).length+zs.length<=130:=by rw[List.length_append];omega
theorem jo {xs ys:List V}(h1:∀x∈xs,∃b,x=V.bl b)(h2:∀x∈ys,∃b,x=V.bl b):∀x∈xs++ys,∃b,x=V.bl b:=λx hx=>by
 rcases List.mem_append.mp hx with hx|hx
 ·exact h1 x hx
 ·exact h2 x hx
theorem SJ {n:Int}(h0:0<=n)(h1:n < 32):∃c,DY (Str.ofString "abcdefghijklmnopqrstuvwxyzA {|~`").cps.toList n=some c/\c < 1000:=by
 have all:∀c∈(Str.ofString "abcdefghijklmnopqrstuvwxyzA {|~`").cps.toList,c < 1000:=by decide+kernel
 have len:(Str.ofString "abcdefghijklmnopqrstuvwxyzA {|~`").cps.toList.length=32:=by decide+kernel
 have hn:n.toNat < (Str.ofString "abcdefghijklmnopqrstuvwxyzA {|~`").cps.toList.length:=by omega
 have e:=A0 (xs:=(Str.ofString "abcdefghijklmnopqrstuvwxyzA {|~`").cps.toList) (j:=n.toNat) (List.getElem?_eq_getElem hn)
 rw[show((n.toNat:Nat):Int)=n by omega]at e
 exact⟨_,e,all _ (List.getElem_mem hn)⟩
section
variable {P:Program}{w:World}{K:PySem.W.Frag}{mg:Str->Option Value}{base:Heap}{k:Nat}
def MV:Sp:=λvs H Q _=>∃(p r:Addr) (c:Int) (z:Str) (ls lv:List Bool) (ps:List Addr),vs=[.ref p,.ref r]/\p∈ps/\Ls ps H/\CO H p c/\0<=c/\c < 800000/\Ea H r z ls lv/\ls.length=z.length/\lv.length=z.length/\1<=z.length/\z.length<=60/\(∀c∈z.cps.toList,Lw c)/\∀(v:V) (H':Hp),Kd p (c+20) H H'->Wh ps H' v->Q v H'
theorem Pr (D:Df K mg "_law_bent" s_law_bent)(B:CK mg)(G_law_take:Bb P w K mg base "_law_take" k ["pool","many"] Ex)(G_law_marks_bent:Bb P w K mg base "_law_marks_bent" k ["pool","marks"] KJ):Bb P w K mg base "_law_bent" (k+1) ["pool","rows"] MV:=by
 refine D.has BP (λ_ _ _ _ _ _=>Om λ_ _=>rfl) (λvs H Q E h=>by obtain⟨p,r,c,z,ls,lv,ps,rfl,_⟩:=h;rfl) (λf cdv A outer s H vs Q E hr h=>?_)
 obtain⟨p,r,c,z,ls,lv,ps,rfl,hpp,Lq,dk,c0,c9,⟨a,b,hr0,ha,hb⟩,l1,l2,z1,z60,low,q⟩:=h
 refine⟨_,(AE (AN (i:=2) BP.nd rfl (by first|exact Or.inl rfl|exact Or.inr rfl) (AK G_law_take hr rfl (AA (pv 0) (AA AF AD))))
 (AE (DC (pv 1) (Ce rfl (Ag (AQ (i:=3) BP.nd rfl (by first|exact Or.inl rfl|exact Or.inr rfl)) (Ag (AQ (i:=4) BP.nd rfl (by first|exact Or.inl rfl|exact Or.inr rfl)) (Ag (AQ (i:=5) BP.nd rfl (by first|exact Or.inl rfl|exact Or.inr rfl)) Bv)))))
 (AE (AN (i:=6) BP.nd rfl (by first|exact Or.inl rfl|exact Or.inr rfl) (AK G_law_take hr rfl (AA (pv 0) (AA (AM A4 rfl B.len Aw (AA (pv 3) AD)) AD))))
 (AE (AN (i:=7) BP.nd rfl (by first|exact Or.inl rfl|exact Or.inr rfl) (AR DD Bi (AK G_law_take hr rfl (AA (pv 0) (AA AF AD))) (λ_ _=>rfl)))
 (AE (Bk (Ab I0 (pv 2) AF (AZ _))
 (AL (AV (Ak (AA (AS BU (AS BU (Aa DH (pv 3) Aq (Ac (pv 6))) (pv 7)) (Aa DH (pv 3) (Ac (AS BC (pv 6) AF)) Aq)) (AA (pv 4) (AA (pv 5) AD))))))
 Av)
 (AE (Bk (Ab Cg (pv 2) AF (AZ _))
 (AL (AV (Ak (AA (AS BU (Aa DH (pv 3) (Ac (pv 6)) Aq) (Aa DH (pv 3) Aq (Ac (pv 6)))) (AA (pv 4) (AA (pv 5) AD))))))
 Av)
 (AE (Bk (Ab I0 (pv 2) AF (AZ _))
 (AL (AV (Ak (AA (pv 3) (AA (AK G_law_marks_bent hr rfl (AA (pv 0) (AA (pv 4) AD))) (AA (pv 5) AD))))))
 Av)
 (AE (Bk (Ab I0 (pv 2) AF (AZ _))
 (AL (AV (Ak (AA (pv 3) (AA (pv 4) (AA (AK G_law_marks_bent hr rfl (AA (pv 0) (AA (pv 5) AD))) AD))))))
 Av)
 (AE (Bk (Ab Cg (pv 2) AF (AZ _))
 (AL (AV (Ak (AA (AS BU (Aa DH (pv 3) Aq (Ac (pv 6))) (Aa DH (pv 3) (Ac (AS BC (pv 6) AF)) Aq)) (AA (AS By (Aa BR (pv 4) Aq (Ac (pv 6))) (Aa BR (pv 4) (Ac (AS BC (pv 6) AF)) Aq)) (AA (AS By (Aa BR (pv 5) Aq (Ac (pv 6))) (Aa BR (pv 5) (Ac (AS BC (pv 6) AF)) Aq)) AD))))))
 Av)
 (AE (Bk (Ab Cg (pv 2) AF (AZ _))
 (AL (AV (Ak (AA (AS BU (AS BU (Aa DH (pv 3) Aq (Ac (pv 6))) (Aa DH (pv 3) (Ac (pv 6)) (Ac (AS BC (pv 6) AF)))) (Aa DH (pv 3) (Ac (pv 6)) Aq)) (AA (AS By (AS By (Aa BR (pv 4) Aq (Ac (pv 6))) (Aa BR (pv 4) (Ac (pv 6)) (Ac (AS BC (pv 6) AF)))) (Aa BR (pv 4) (Ac (pv 6)) Aq)) (AA (AS By (AS By (Aa BR (pv 5) Aq (Ac (pv 6))) (Aa BR (pv 5) (Ac (pv 6)) (Ac (AS BC (pv 6) AF)))) (Aa BR (pv 5) (Ac (pv 6)) Aq)) AD))))))
 Av)
 (AE (AN (i:=8) BP.nd rfl (by first|exact Or.inl rfl|exact Or.inr rfl) (Ai (AA (Ao Ej rfl B.list_ Fw (AA (pv 1) AD)) (AA (Aa BR (pv 1) Aq (Ac AF)) (AA (AS By (pv 1) (Ak (AA (Ak AD) AD))) (AA (Ak (AA (pv 3) (AA (pv 5) (AA (pv 4) AD)))) (AA (Ak (AA (Ao (HI rfl) rfl B.list_ Fw (AA (pv 3) AD)) (AA (pv 4) (AA (pv 5) AD)))) (AA CT (AA Bi (AA (Ak AD) AD))))))))))
 (AE (AN (i:=8) BP.nd rfl (by first|exact Or.inl rfl|exact Or.inr rfl) (AS ER (pv 8) (Ai (AA (Ak (AA CT (AA (pv 4) (AA (pv 5) AD)))) (AA (Ak (AA (pv 3) (AA CT (AA (pv 5) AD)))) (AA (Ak (AA (pv 3) (AA (pv 4) (AA AF AD)))) (AA (Ak (AA AF (AA (pv 4) (AA (pv 5) AD)))) (AA AF (AA DM AD)))))))))
 (AL (AV (AR Ap (pv 8) (AK G_law_take hr rfl (AA (pv 0) (AA AF AD))) (λ_ _=>rfl)))))))))))))))),?_⟩
 first|(dsimp only[Bp,Cx.Ft];generalize hK:K=K';revert K' hK;refine Dn (Ae <|Ae <|Ae <|Ae <|Ae <|Ae <|Ae <|Ae <|Ae <|Ae <|Ae <|Ae <|λ_=>rfl) ?_)|skip
 have tp:∀{G:Hp} {c:Int} {x:Addr} {xs:List V},CO G p c->G x=some (.tup xs)->x≠p:=λ{G c x xs} d e=>Lk d e (by intro _ _ _ z;cases z)
 have rp:=tp dk hr0
 have ap:=tp dk ha
 have bp:=tp dk hb
 have aq:=Lq.tup ha
 have bq:=Lq.tup hb
 have zlo:Lo 60 z:=⟨z60,λc hc=>Nat.lt_trans (low c hc).2 (by decide)⟩
 have ts:z.length<=sizeLine:=zlo.le (by decide)
 have s60:ls.length<=60:=by omega
 have v60:lv.length<=60:=by omega
 refine⟨_,rfl,p,10,c,rfl,dk,by omega,by decide,by decide,λway H1 w0 w1 kd1=>?_⟩
 have hr1:=kd1.keep _ _ rp hr0
 have ha1:=kd1.keep _ _ ap ha
 have hb1:=kd1.keep _ _ bp hb
 refine⟨_,rfl,r,_,rfl,Ar.of hr1,rfl,_,_,rfl,_,_,rfl,_,_,rfl,rfl,?_⟩
 refine⟨_,rfl,_,rfl,z,rfl,ts,p,_,_,rfl,kd1.deck,by omega,by omega,by omega,λat_ H2 x0 x1 kd2=>?_⟩
 refine⟨_,rfl,p,32,_,rfl,kd2.deck,by omega,by decide,by decide,λn3 H3 y0 y1 kd3=>?_⟩
 obtain⟨ch,hch,chl⟩:=SJ y0 y1
 refine⟨_,_,_,rfl,rfl,(by show 32<=sizeLine;decide),hch,?_⟩
 have chlo:Lo 1 (⟨#[ch]⟩:Str):=SF chl
 have ku:=(kd1.trans kd2).trans kd3
 have hr3:=kd3.keep _ _ rp (kd2.keep _ _ rp hr1)
 have ha3:=kd3.keep _ _ ap (kd2.keep _ _ ap ha1)
 have hb3:=kd3.keep _ _ bp (kd2.keep _ _ bp hb1)
 clear hr1 ha1 hb1 kd1 kd2 kd3 hr0 ha hb
 have dF:=ku.deck
 refine⟨_,rfl,_,_,rfl,rfl,_,rfl,CC (λc1=>?_) (λc1=>?_)⟩
 ·have lo1:=(zlo.cut none (some at_)).app chlo
  have lo2:=lo1.app (zlo.cut (some (at_+1)) none)
  refine⟨_,rfl,_,rfl,_,rfl,z,rfl,ts,_,rfl,_,_,rfl,rfl,(zlo.cut none (some at_)).sum chlo (by decide),_,rfl,_,rfl,_,_,rfl,rfl,_,rfl,z,rfl,ts,_,_,rfl,rfl,lo1.sum (zlo.cut (some (at_+1)) none) (by decide),_,rfl,_,rfl,(by show 3<=sizeLine;decide),λt ht=>?_⟩
  have sT:=(AG.refl H3).new (o:=.tup [.str (Di z none (some at_)++⟨#[ch]⟩++Di z (some (at_+1)) none),.ref a,.ref b]) ht
  exact q _ _ ((ku.same sT).mono (by omega)) (NZ AB ((Lq.kd ku).new ht) (lo2.pt (by decide)) (Cy (sT _ _ ha3) aq s60) (Cy (sT _ _ hb3) bq v60))
 refine⟨_,rfl,rfl,_,rfl,CC (λc2=>?_) (λc2=>?_)⟩
 ·have lo2:=(zlo.cut (some at_) none).app (zlo.cut none (some at_))
  refine⟨_,rfl,_,rfl,_,rfl,z,rfl,ts,_,rfl,_,rfl,_,rfl,z,rfl,ts,_,_,rfl,rfl,(zlo.cut (some at_) none).sum (zlo.cut none (some at_)) (by decide),_,rfl,_,rfl,(by show 3<=sizeLine;decide),λt ht=>?_⟩
  have sT:=(AG.refl H3).new (o:=.tup [.str (Di z (some at_) none++Di z none (some at_)),.ref a,.ref b]) ht
  exact q _ _ ((ku.same sT).mono (by omega)) (NZ AB ((Lq.kd ku).new ht) (lo2.pt (by decide)) (Cy (sT _ _ ha3) aq s60) (Cy (sT _ _ hb3) bq v60))
 refine⟨_,rfl,_,_,rfl,rfl,_,rfl,CC (λc3=>?_) (λc3=>?_)⟩
 ·refine⟨_,rfl,_,rfl,_,rfl,p,a,_,ls,ps,rfl,hpp,Lq.kd ku,dF,by omega,by omega,ha3,by omega,s60,λv G kd pv=>?_⟩
  refine⟨_,rfl,(by show 3<=sizeLine;decide),λt ht=>?_⟩
  have sT:=(AG.refl G).new (o:=.tup [.str z,v,.ref b]) ht
  exact q _ _ (((ku.trans kd).same sT).mono (by omega)) (NZ AB ((Lq.kd (ku.trans kd)).new ht) (zlo.pt (by decide)) (pv.on (Ul sT)) (Cy (sT _ _ (kd.keep _ _ bp hb3)) bq v60))
 refine⟨_,rfl,_,_,rfl,rfl,_,rfl,CC (λc4=>?_) (λc4=>?_)⟩
 ·refine⟨_,rfl,_,rfl,_,rfl,_,rfl,p,b,_,lv,ps,rfl,hpp,Lq.kd ku,dF,by omega,by omega,hb3,by omega,v60,λv G kd pv=>?_⟩
  refine⟨(by show 3<=sizeLine;decide),λt ht=>?_⟩
  have sT:=(AG.refl G).new (o:=.tup [.str z,.ref a,v]) ht
  exact q _ _ (((ku.trans kd).same sT).mono (by omega)) (NZ AB ((Lq.kd (ku.trans kd)).new ht) (zlo.pt (by decide)) (Cy (sT _ _ (kd.keep _ _ ap ha3)) aq s60) (pv.on (Ul sT)))
 refine⟨_,rfl,rfl,_,rfl,CC (λc5=>?_) (λc5=>?_)⟩
 ·have lo2:=(zlo.cut none (some at_)).app (zlo.cut (some (at_+1)) none)
  refine⟨_,rfl,_,rfl,_,rfl,z,rfl,ts,_,rfl,_,rfl,_,_,rfl,rfl,_,rfl,z,rfl,ts,_,_,rfl,rfl,(zlo.cut none (some at_)).sum (zlo.cut (some (at_+1)) none) (by decide),?_⟩
  refine⟨_,rfl,_,rfl,_,rfl,a,_,rfl,ha3,λr1 G1 q1 g1=>?_⟩
  refine⟨_,rfl,_,rfl,_,_,rfl,rfl,_,rfl,a,_,rfl,q1 _ _ ha3,λr2 G2 q2 g2=>?_⟩
  refine⟨r1,r2,_,_,rfl,rfl,q2 _ _ g1,g2,two (BB s60) (BB s60),λr3 G3 q3 g3=>?_⟩
  have qa:=(q1.trans q2).trans q3
  refine⟨_,rfl,_,rfl,_,rfl,b,_,rfl,qa _ _ hb3,λr4 G4 q4 g4=>?_⟩
  refine⟨_,rfl,_,rfl,_,_,rfl,rfl,_,rfl,b,_,rfl,q4 _ _ (qa _ _ hb3),λr5 G5 q5 g5=>?_⟩
  refine⟨r4,r5,_,_,rfl,rfl,q5 _ _ g4,g5,two (BB v60) (BB v60),λr6 G6 q6 g6=>?_⟩
  have qb:=(q4.trans q5).trans q6
  have kG:=ku.same (qa.trans qb)
  refine⟨(by show 3<=sizeLine;decide),λt ht=>?_⟩
  have sT:=(AG.refl G6).new (o:=.tup [.str (Di z none (some at_)++Di z (some (at_+1)) none),.ref r3,.ref r6]) ht
  have f3:=sT _ _ (qb _ _ g3)
  have f6:=sT _ _ g6
  have kT:=kG.same sT
  exact q _ _ (kT.mono (by omega)) (NZ AB ((Lq.kd kG).new ht) (lo2.pt (by decide)) (F2 f3 ((Lq.kd kT).tup f3) (Ti (BB s60) (BB s60)) (jo CN CN)) (F2 f6 ((Lq.kd kT).tup f6) (Ti (BB v60) (BB v60)) (jo CN CN)))
 refine⟨_,rfl,rfl,_,rfl,CC (λc6=>?_) (λc6=>?_)⟩
 ·have lo1:=(zlo.cut none (some at_)).app (zlo.cut (some at_) (some (at_+1)))
  have lo2:=lo1.app (zlo.cut (some at_) none)
  refine⟨_,rfl,_,rfl,_,rfl,z,rfl,ts,_,rfl,_,rfl,_,rfl,_,rfl,_,_,rfl,rfl,_,rfl,z,rfl,ts,_,_,rfl,rfl,(zlo.cut none (some at_)).sum (zlo.cut (some at_) (some (at_+1))) (by decide),_,rfl,_,rfl,_,rfl,z,rfl,ts,_,_,rfl,rfl,lo1.sum (zlo.cut (some at_) none) (by decide),?_⟩
  refine⟨_,rfl,_,rfl,_,rfl,a,_,rfl,ha3,λr1 G1 q1 g1=>?_⟩
  refine⟨_,rfl,_,rfl,_,rfl,_,rfl,_,_,rfl,rfl,_,rfl,a,_,rfl,q1 _ _ ha3,λr2 G2 q2 g2=>?_⟩
  refine⟨r1,r2,_,_,rfl,rfl,q2 _ _ g1,g2,two (BB s60) (BB s60),λr3 G3 q3 g3=>?_⟩
  have qa:=(q1.trans q2).trans q3
  refine⟨_,rfl,_,rfl,_,rfl,a,_,rfl,qa _ _ ha3,λr4 G4 q4 g4=>?_⟩
  refine⟨r3,r4,_,_,rfl,rfl,q4 _ _ g3,g4,by rw[List.length_append];exact three (BB s60) (Qv s60 x0) (BB s60),λr5 G5 q5 g5=>?_⟩
  have qb:=(qa.trans q4).trans q5
  refine⟨_,rfl,_,rfl,_,rfl,b,_,rfl,qb _ _ hb3,λr6 G6 q6 g6=>?_⟩
  refine⟨_,rfl,_,rfl,_,rfl,_,rfl,_,_,rfl,rfl,_,rfl,b,_,rfl,q6 _ _ (qb _ _ hb3),λr7 G7 q7 g7=>?_⟩
  refine⟨r6,r7,_,_,rfl,rfl,q7 _ _ g6,g7,two (BB v60) (BB v60),λr8 G8 q8 g8=>?_⟩
  have qc:=(q6.trans q7).trans q8
  refine⟨_,rfl,_,rfl,_,rfl,b,_,rfl,qc _ _ (qb _ _ hb3),λr9 G9 q9 g9=>?_⟩
  refine⟨r8,r9,_,_,rfl,rfl,q9 _ _ g8,g9,by rw[List.length_append];exact three (BB v60) (Qv v60 x0) (BB v60),λrA GA qA gA=>?_⟩
  have qd:=(qc.trans q9).trans qA
  have kG:=ku.same (qb.trans qd)
  refine⟨(by show 3<=sizeLine;decide),λt ht=>?_⟩
  have sT:=(AG.refl GA).new (o:=.tup [.str (Di z none (some at_)++Di z (some at_) (some (at_+1))++Di z (some at_) none),.ref r5,.ref rA]) ht
  have f5:=sT _ _ (qd _ _ g5)
  have fA:=sT _ _ gA
  have kT:=kG.same sT
  exact q _ _ (kT.mono (by omega)) (NZ AB ((Lq.kd kG).new ht) (lo2.pt (by decide)) (F2 f5 ((Lq.kd kT).tup f5) (by rw[List.length_append];exact Pq (BB s60) (Qv s60 x0) (BB s60)) (jo (jo CN CN) CN)) (F2 fA ((Lq.kd kT).tup fA) (by rw[List.length_append];exact Pq (BB v60) (Qv v60 x0) (BB v60)) (jo (jo CN CN) CN)))
 refine⟨_,rfl,r,_,rfl,.inr (Ar.of hr3),λe1 he1=>?_⟩
 generalize hg1:upd H3 e1 _=J1
 have s1:AG H3 J1:=by rw[<-hg1];exact(AG.refl H3).new he1
 have w1:J1 e1=some (.lst [.str z,.ref a,.ref b]):=by rw[<-hg1];exact AB
 have d1:e1∉ps:=(Lq.kd ku).new he1
 have k1:=ku.same s1
 clear hg1
 refine⟨_,rfl,_,rfl,r,_,rfl,(s1 _ _ hr3),λe2 J2 s2 w2=>?_⟩
 have k2:=k1.same s2
 have d2:e2∉ps:=(Lq.kd k2).tup w2
 refine⟨_,rfl,(by show 0<=sizeLine;decide),λe3 he3=>?_⟩
 generalize hg3:upd J2 e3 _=J3
 have s3:AG J2 J3:=by rw[<-hg3];exact(AG.refl J2).new he3
 have w3:J3 e3=some (.tup []):=by rw[<-hg3];exact AB
 have d3:e3∉ps:=(Lq.kd k2).new he3
 have k3:=k2.same s3
 clear hg3
 refine⟨(by show 1<=sizeLine;decide),λe4 he4=>?_⟩
 generalize hg4:upd J3 e4 _=J4
 have s4:AG J3 J4:=by rw[<-hg4];exact(AG.refl J3).new he4
 have w4:J4 e4=some (.tup [.ref e3]):=by rw[<-hg4];exact AB
 have d4:e4∉ps:=(Lq.kd k3).new he4
 have k4:=k3.same s4
 clear hg4
 refine⟨r,e4,_,_,rfl,rfl,(s4 _ _ (s3 _ _ (s2 _ _ (s1 _ _ hr3)))),w4,(by show 3+1<=sizeLine;decide),λe5 J5 s5 w5=>?_⟩
 have k5:=k4.same s5
 have d5:e5∉ps:=(Lq.kd k5).tup w5
 refine⟨_,rfl,_,rfl,_,rfl,(by show 3<=sizeLine;decide),λe6 he6=>?_⟩
 generalize hg6:upd J5 e6 _=J6
 have s6:AG J5 J6:=by rw[<-hg6];exact(AG.refl J5).new he6
 have w6:J6 e6=some (.tup [.str z,.ref b,.ref a]):=by rw[<-hg6];exact AB
 have d6:e6∉ps:=(Lq.kd k5).new he6
 have k6:=k5.same s6
 clear hg6
 refine⟨_,rfl,z,rfl,(by omega),λe7 he7=>?_⟩
 generalize hg7:upd J6 e7 _=J7
 have s7:AG J6 J7:=by rw[<-hg7];exact(AG.refl J6).new he7
 have w7:J7 e7=some (.lst (signs z)):=by rw[<-hg7];exact AB
 have d7:e7∉ps:=(Lq.kd k6).new he7
 have k7:=k6.same s7
 clear hg7
 refine⟨_,rfl,_,rfl,(by show 3<=sizeLine;decide),λe8 he8=>?_⟩
 generalize hg8:upd J7 e8 _=J8
 have s8:AG J7 J8:=by rw[<-hg8];exact(AG.refl J7).new he8
 have w8:J8 e8=some (.tup [.ref e7,.ref a,.ref b]):=by rw[<-hg8];exact AB
 have d8:e8∉ps:=(Lq.kd k7).new he8
 have k8:=k7.same s8
 clear hg8
 refine⟨(by show 0<=sizeLine;decide),λe9 he9=>?_⟩
 generalize hg9:upd J8 e9 _=J9
 have s9:AG J8 J9:=by rw[<-hg9];exact(AG.refl J8).new he9
 have w9:J9 e9=some (.tup []):=by rw[<-hg9];exact AB
 have d9:e9∉ps:=(Lq.kd k8).new he9
 have k9:=k8.same s9
 clear hg9
 refine⟨(by show 8<=sizeLine;decide),λeA heA=>?_⟩
 generalize hg10:upd J9 eA _=J10
 have s10:AG J9 J10:=by rw[<-hg10];exact(AG.refl J9).new heA
 have w10:J10 eA=some (.lst [.ref e1,.ref e2,.ref e5,.ref e6,.ref e8,.A3,.str (Str.ofString ""),.ref e9]):=by rw[<-hg10];exact AB
 have d10:eA∉ps:=(Lq.kd k9).new heA
 have k10:=k9.same s10
 clear hg10
 refine⟨_,rfl,_,rfl,_,rfl,(by show 3<=sizeLine;decide),λeB heB=>?_⟩
 generalize hg11:upd J10 eB _=J11
 have s11:AG J10 J11:=by rw[<-hg11];exact(AG.refl J10).new heB
 have w11:J11 eB=some (.tup [.A3,.ref a,.ref b]):=by rw[<-hg11];exact AB
 have d11:eB∉ps:=(Lq.kd k10).new heB
 have k11:=k10.same s11
 clear hg11
 refine⟨_,rfl,_,rfl,(by show 3<=sizeLine;decide),λeC heC=>?_⟩
 generalize hg12:upd J11 eC _=J12
 have s12:AG J11 J12:=by rw[<-hg12];exact(AG.refl J11).new heC
 have w12:J12 eC=some (.tup [.str z,.A3,.ref b]):=by rw[<-hg12];exact AB
 have d12:eC∉ps:=(Lq.kd k11).new heC
 have k12:=k11.same s12
 clear hg12
 refine⟨_,rfl,_,rfl,(by show 3<=sizeLine;decide),λeD heD=>?_⟩
 generalize hg13:upd J12 eD _=J13
 have s13:AG J12 J13:=by rw[<-hg13];exact(AG.refl J12).new heD
 have w13:J13 eD=some (.tup [.str z,.ref a,.int 5]):=by rw[<-hg13];exact AB
 have d13:eD∉ps:=(Lq.kd k12).new heD
 have k13:=k12.same s13
 clear hg13
 refine⟨_,rfl,_,rfl,(by show 3<=sizeLine;decide),λeE heE=>?_⟩
 generalize hg14:upd J13 eE _=J14
 have s14:AG J13 J14:=by rw[<-hg14];exact(AG.refl J13).new heE
 have w14:J14 eE=some (.tup [.int 7,.ref a,.ref b]):=by rw[<-hg14];exact AB
 have d14:eE∉ps:=(Lq.kd k13).new heE
 have k14:=k13.same s14
 clear hg14
 refine⟨(by show 6<=sizeLine;decide),λeF heF=>?_⟩
 generalize hg15:upd J14 eF _=J15
 have s15:AG J14 J15:=by rw[<-hg15];exact(AG.refl J14).new heF
 have w15:J15 eF=some (.lst [.ref eB,.ref eC,.ref eD,.ref eE,.int 3,.bl true]):=by rw[<-hg15];exact AB
 have d15:eF∉ps:=(Lq.kd k14).new heF
 have k15:=k14.same s15
 clear hg15
 refine⟨eA,eF,_,_,rfl,rfl,(s15 _ _ (s14 _ _ (s13 _ _ (s12 _ _ (s11 _ _ w10))))),w15,(by show 8+6<=sizeLine;decide),λeG heG=>?_⟩
 generalize hg16:upd J15 eG _=J16
 have s16:AG J15 J16:=by rw[<-hg16];exact(AG.refl J15).new heG
 have w16:J16 eG=some (.lst ([.ref e1,.ref e2,.ref e5,.ref e6,.ref e8,.A3,.str (Str.ofString ""),.ref e9]++[.ref eB,.ref eC,.ref eD,.ref eE,.int 3,.bl true])):=by rw[<-hg16];exact AB
 have d16:eG∉ps:=(Lq.kd k15).new heG
 have k16:=k15.same s16
 clear hg16
 have zp:∀H,Pt ps H (.str z):=λH=>zlo.pt (by decide)
 have pa:Pt ps J16 (.ref a):=Cy (s16 _ _ (s15 _ _ (s14 _ _ (s13 _ _ (s12 _ _ (s11 _ _ (s10 _ _ (s9 _ _ (s8 _ _ (s7 _ _ (s6 _ _ (s5 _ _ (s4 _ _ (s3 _ _ (s2 _ _ (s1 _ _ ha3)))))))))))))))) aq s60
 have pb:Pt ps J16 (.ref b):=Cy (s16 _ _ (s15 _ _ (s14 _ _ (s13 _ _ (s12 _ _ (s11 _ _ (s10 _ _ (s9 _ _ (s8 _ _ (s7 _ _ (s6 _ _ (s5 _ _ (s4 _ _ (s3 _ _ (s2 _ _ (s1 _ _ hb3)))))))))))))))) bq v60
 have pe:Pt ps J16 (.ref e3):=Dz (s16 _ _ (s15 _ _ (s14 _ _ (s13 _ _ (s12 _ _ (s11 _ _ (s10 _ _ (s9 _ _ (s8 _ _ (s7 _ _ (s6 _ _ (s5 _ _ (s4 _ _ w3))))))))))))) d3 (Nat.zero_le _) (λx hx=>by cases hx)
 have p7:Pt ps J16 (.ref e7):=Pj (s16 _ _ (s15 _ _ (s14 _ _ (s13 _ _ (s12 _ _ (s11 _ _ (s10 _ _ (s9 _ _ (s8 _ _ w7))))))))) d7 (by unfold signs;rw[List.length_map,Array.length_toList];have:z.cps.size<=60:=z60;omega) (λx hx=>by
  unfold signs at hx
  obtain⟨c,hc,rfl⟩:=List.mem_map.mp hx
  exact Ph (λx hx=>by have e:x=c:=by simpa using hx
                      rw[e];exact zlo.2 c hc) (by show 1<=200;decide))
 have all:∀v∈(([.ref e1,.ref e2,.ref e5,.ref e6,.ref e8,.A3,.str (Str.ofString ""),.ref e9]++[.ref eB,.ref eC,.ref eD,.ref eE,.int 3,.bl true]):List V),Wh ps J16 v:=λv hv=>by
  simp only[List.cons_append,List.nil_append,List.mem_cons,List.not_mem_nil,or_false]at hv
  rcases hv with rfl|rfl|rfl|rfl|rfl|rfl|rfl|rfl|rfl|rfl|rfl|rfl|rfl|rfl
  ·refine SE (s16 _ _ (s15 _ _ (s14 _ _ (s13 _ _ (s12 _ _ (s11 _ _ (s10 _ _ (s9 _ _ (s8 _ _ (s7 _ _ (s6 _ _ (s5 _ _ (s4 _ _ (s3 _ _ (s2 _ _ w1))))))))))))))) d1 (by show 3<=4;decide) λx hx=>?_
   simp only[List.mem_cons,List.not_mem_nil,or_false]at hx
   rcases hx with rfl|rfl|rfl
   ·exact zp _
   ·exact pa
   ·exact pb
  ·refine Ip (xs:=[.str z,.ref a]) (s16 _ _ (s15 _ _ (s14 _ _ (s13 _ _ (s12 _ _ (s11 _ _ (s10 _ _ (s9 _ _ (s8 _ _ (s7 _ _ (s6 _ _ (s5 _ _ (s4 _ _ (s3 _ _ w2)))))))))))))) d2 (by show 2<=4;decide) λx hx=>?_
   simp only[List.mem_cons,List.not_mem_nil,or_false]at hx
   rcases hx with rfl|rfl
   ·exact zp _
   ·exact pa
  ·refine Ip (xs:=[.str z,.ref a,.ref b,.ref e3]) (s16 _ _ (s15 _ _ (s14 _ _ (s13 _ _ (s12 _ _ (s11 _ _ (s10 _ _ (s9 _ _ (s8 _ _ (s7 _ _ (s6 _ _ w5))))))))))) d5 (by show 4<=4;decide) λx hx=>?_
   simp only[List.mem_cons,List.not_mem_nil,or_false]at hx
   rcases hx with rfl|rfl|rfl|rfl
   ·exact zp _
   ·exact pa
   ·exact pb
   ·exact pe
  ·exact NZ (s16 _ _ (s15 _ _ (s14 _ _ (s13 _ _ (s12 _ _ (s11 _ _ (s10 _ _ (s9 _ _ (s8 _ _ (s7 _ _ w6)))))))))) d6 (zp _) pb pa
  ·exact NZ (s16 _ _ (s15 _ _ (s14 _ _ (s13 _ _ (s12 _ _ (s11 _ _ (s10 _ _ (s9 _ _ w8)))))))) d8 p7 pa pb
  ·exact SG
  ·exact SI ⟨by decide,λc hc=>by cases hc⟩
  ·exact Ip (s16 _ _ (s15 _ _ (s14 _ _ (s13 _ _ (s12 _ _ (s11 _ _ (s10 _ _ w9))))))) d9 (Nat.zero_le _) (λx hx=>by cases hx)
  ·exact NZ (s16 _ _ (s15 _ _ (s14 _ _ (s13 _ _ (s12 _ _ w11))))) d11 Pl pa pb
  ·exact NZ (s16 _ _ (s15 _ _ (s14 _ _ (s13 _ _ w12)))) d12 (zp _) Pl pb
  ·exact NZ (s16 _ _ (s15 _ _ (s14 _ _ w13))) d13 (zp _) pa (Pm (by decide))
  ·exact NZ (s16 _ _ (s15 _ _ w14)) d14 (Pm (by decide)) pa pb
  ·exact SH (by decide)
  ·exact Th true
 refine⟨_,rfl,_,rfl,p,14,_,rfl,k16.deck,by omega,by decide,by decide,λm JH m0 m1 kd=>?_⟩
 obtain⟨res,hres,hin⟩:∃res,DY (([.ref e1,.ref e2,.ref e5,.ref e6,.ref e8,.A3,.str (Str.ofString ""),.ref e9]++[.ref eB,.ref eC,.ref eD,.ref eE,.int 3,.bl true]):List V) m=some res/\res∈(([.ref e1,.ref e2,.ref e5,.ref e6,.ref e8,.A3,.str (Str.ofString ""),.ref e9]++[.ref eB,.ref eC,.ref eD,.ref eE,.int 3,.bl true]):List V):=by
  have hm:m.toNat < (([.ref e1,.ref e2,.ref e5,.ref e6,.ref e8,.A3,.str (Str.ofString ""),.ref e9]++[.ref eB,.ref eC,.ref eD,.ref eE,.int 3,.bl true]):List V).length:=by show m.toNat < 14;omega
  have e:=A0 (xs:=(([.ref e1,.ref e2,.ref e5,.ref e6,.ref e8,.A3,.str (Str.ofString ""),.ref e9]++[.ref eB,.ref eC,.ref eD,.ref eE,.int 3,.bl true]):List V)) (j:=m.toNat) (List.getElem?_eq_getElem hm)
  rw[show((m.toNat:Nat):Int)=m by omega]at e
  exact⟨_,e,List.getElem_mem hm⟩
 exact⟨eG,_,_,_,rfl,rfl,Am.of (kd.keep _ _ (λe=>d16 (by rw[e];exact hpp)) w16),hres,q res JH ((k16.trans kd).mono (by omega)) ((all res hin).on (Uu hpp kd))⟩
end
end S28
namespace S28
open PySem L2 W7
theorem CJ.but {ls:List Lm}{p:Addr}{o:HO}{H H':Hp}(a:CJ ls H)(hp:H p=some o)(h1:∀ps,o≠.tbl ps)(h2:∀c q,o≠Hg c q)(k:∀b u,b≠p->H b=some u->H' b=some u):CJ ls H':=λm hm=>by
 obtain⟨ps,a,b,c⟩:=a m hm
 refine⟨ps,k _ _ (λe=>h1 ps (by rw[e,hp]at a;exact Option.some.inj a)) a,b,?_⟩
 rcases c with c|⟨d,c,e⟩
 ·exact .inl c
 ·exact .inr ⟨d,c,k _ _ (λz=>h2 d _ (by rw[z,hp]at e;rw[z];exact Option.some.inj e)) e⟩
theorem CJ.kd {ls:List Lm}{p:Addr}{c:Int}{H H':Hp}(a:CJ ls H)(dk:∃c,CO H p c)(k:Kd p c H H'):CJ ls H':=by
 obtain⟨c0,x,y,z,e0,_⟩:=dk
 exact CJ.but a e0 (λ_ z=>by cases z) (λ_ _ z=>by cases z) k.keep
theorem Kt.kd {ls:List Lm}{p:Addr}{c:Int}{H0 H H':Hp}(a:Kt ls H0 H)(dk:∃c,CO H p c)(hp:H0 p=none)(k:Kd p c H H'):Kt ls H0 H':=
 ⟨CJ.kd a.lam dk k,λb o ho e=>k.keep b o (AI e hp) (a.keep b o ho e),λb e=>a.here b (k.fresh e)⟩
theorem CO.same {p:Addr}{c:Int}{H H':Hp}(h:CO H p c)(s:AG H H'):CO H' p c:=by
 obtain⟨x,y,z,e,r⟩:=h
 exact⟨x,y,z,s _ _ e,r⟩
def lamsOf (Ts:List Addr):List Lm:=[(Ts.getD 0 0,Ug,qO),(Ts.getD 1 0,Uh,qK)]
theorem Tj (Ts:List Addr):Mu (lamsOf Ts):=by
 intro l hl m hm
 simp only[lamsOf,List.mem_cons,List.not_mem_nil,or_false]at hl hm
 rcases hl with rfl|rfl<;>rcases hm with rfl|rfl
 ·exact .inl rfl
 ·exact .inr (show¬(_/\_)from by dsimp only;decide)
 ·exact .inr (show¬(_/\_)from by dsimp only;decide)
 ·exact .inl rfl
theorem lams_start {Ts:List Addr}{H:Hp}(hl:Ts.length=2)(h:∀T∈Ts,H T=some (.tbl #[])):CJ (lamsOf Ts) H:=by
 match Ts,hl with
 |[T1,T2],_=>
  intro l hl
  simp only[lamsOf,List.mem_cons,List.not_mem_nil,or_false]at hl
  rcases hl with rfl|rfl
  ·exact Dk.start (h T1 (by simp))
  ·exact Dk.start (h T2 (by simp))
theorem LX {ups:List Int}{lab:Str}(ok:Af ups lab.cps.toList):∀n∈ups,n.natAbs < 10 ^ 12:=λn hn=>by
 obtain⟨i,hi,e⟩:=List.getElem_of_mem hn
 have e2:ups.getD i 0=n:=by rw[List.getD_eq_getElem?_getD,List.getElem?_eq_getElem hi];exact e
 have m:=ok.most
 have t:(10:Nat) ^ 12=1000000000000:=by decide
 rw[t]
 rcases Nat.eq_zero_or_pos i with z|z
 ·subst z;have:=ok.root;omega
 ·have:=ok.up i z hi;omega
structure Bg (lms:List Lm)(H2 H:Hp)(p tl r:Addr)(z:Str)(ls lv:List Bool)(c:Int)(vs:List V):Prop where
 kt:Kt lms H2 H
 fp:H2 p=none
 ft:H2 tl=none
 ne:tl≠p
 dk:CO H p c
 rw0:Ea H r z ls lv
 at_:H tl=some (.lst vs)
 wh:∀v∈vs,Wh [p,tl] H v
section
variable {lms:List Lm}{H2 H H':Hp}{p tl r:Addr}{z:Str}{ls lv:List Bool}{c c':Int}{vs:List V}{v:V}
theorem Ea.kd (h:Ea H r z ls lv)(dk:CO H p c)(k:Kd p c' H H'):Ea H' r z ls lv:=by
 obtain⟨a,b,h1,h2,h3⟩:=h
 obtain⟨x,y,w,e0,_⟩:=dk
 exact⟨a,b,k.keep _ _ (Bh h1 e0 (by intro z;cases z)) h1,k.keep _ _ (Bh h2 e0 (by intro z;cases z)) h2,k.keep _ _ (Bh h3 e0 (by intro z;cases z)) h3⟩
theorem Bg.Uv (b:Bg lms H2 H p tl r z ls lv c vs):Ls [p,tl] H:=λy hy=>by
 obtain⟨x,y',w,e0,_⟩:=b.dk
 simp only[List.mem_cons,List.not_mem_nil,or_false]at hy
 rcases hy with rfl|rfl
 ·exact⟨_,e0⟩
 ·exact⟨_,b.at_⟩
theorem Bg.Tn (b:Bg lms H2 H p tl r z ls lv c vs)(k:Kd p c' H H'):Bg lms H2 H' p tl r z ls lv c' vs:=
 ⟨Kt.kd b.kt ⟨_,b.dk⟩ b.fp k,b.fp,b.ft,b.ne,k.deck,b.rw0.kd b.dk k,k.keep _ _ b.ne b.at_,λv hv=>(b.wh v hv).on (Uu (by simp) k)⟩
theorem Bg.same (b:Bg lms H2 H p tl r z ls lv c vs)(s:AG H H'):Bg lms H2 H' p tl r z ls lv c vs:=
 ⟨b.kt.same s,b.fp,b.ft,b.ne,CO.same b.dk s,b.rw0.same s,s _ _ b.at_,λv hv=>(b.wh v hv).on (Ul s)⟩
theorem Bg.Pu (b:Bg lms H2 H p tl r z ls lv c vs)(v:V):AG (dl [p,tl] H) (dl [p,tl] (upd H tl (.lst (vs++[v])))):=Ig λb' o n e=>by
 rw[AH (λq=>n (by rw[q];simp))];exact e
theorem Bg.put (b:Bg lms H2 H p tl r z ls lv c vs)(hv:Wh [p,tl] H v):Bg lms H2 (upd H tl (.lst (vs++[v]))) p tl r z ls lv c (vs++[v]):=by
 have sm:=b.Pu v
 refine⟨b.kt.write b.ft b.at_,b.fp,b.ft,b.ne,?_,?_,AB,λx hx=>?_⟩
 ·obtain⟨x,y,w,e0,h⟩:=b.dk
  exact⟨x,y,w,by rw[AH (Ne.symm b.ne)];exact e0,h⟩
 ·obtain⟨a,b',h1,h2,h3⟩:=b.rw0
  exact⟨a,b',by rw[AH (Bh h1 b.at_ (by intro z;cases z))];exact h1,by rw[AH (Bh h2 b.at_ (by intro z;cases z))];exact h2,by rw[AH (Bh h3 b.at_ (by intro z;cases z))];exact h3⟩
 ·rcases List.mem_append.mp hx with hx|hx
  ·exact(b.wh x hx).on sm
  ·rw[List.mem_singleton]at hx
   subst hx
   exact hv.on sm
theorem Wh.td {ps:List Addr}(h:Wh ps H v):∃d,Td H v d/\PN d/\RF d:=let⟨d,t,g⟩:=h;⟨d,t.same (Ql _ _),g⟩
def Pw (ups:List Int)(lab:Str):PyData:=.tuple [.tuple (ups.map .int),.str lab]
theorem MW {t:Addr}{ups:List Int}{lab:Str}(h:BE H t ups lab)(f:Jg ups lab):Td H (.ref t) (Pw ups lab)/\PN (Pw ups lab):=by
 obtain⟨u,h1,h2,ok⟩:=h
 have m60:=ok.most
 refine⟨.tup h1 (.cons (.tup h2 ?_) (.cons (.str _) .nil)),?_⟩
 ·clear h2 ok f m60 h1
  induction ups with
  |nil=>exact .nil
  |cons x xs ih=>exact .cons (.int x) ih
 ·have gb:Gs false true ((201+1)*(ups.map PyData.int).length) 0 (ups.map PyData.int):=Gs.all λd hd=>by
   obtain⟨n,hn,rfl⟩:=List.mem_map.mp hd
   exact(Gd.big (Nat.lt_of_lt_of_le (LX ok n hn) (Nat.pow_le_pow_right (by decide) (by decide)))).mono (by omega) (Nat.le_refl _)
  rw[List.length_map]at gb
  have ll:lab.cps.size=ups.length:=by have:=ok.len;rw[Array.length_toList]at this;exact this.symm
  have gs:Gd false true lab.cps.size 0 (.str lab):=Gd.str λc hc=>by have:=f.low c hc;unfold Lw at this;omega
  exact(Gd.tup (Gs.cons (Gd.tup gb) (Gs.one (gs.mono (Nat.le_refl _) (Nat.zero_le 1))))).fit (.inl rfl) (by omega) (by omega)
def MX (H:Hp)(d:PyData)(o:V):Prop:=(∃z ls lv ups lab ks t,Bf d z ls lv/\RO ups lab ks z ls lv/\o=.ref t/\BE H t ups lab)\/((∀z ls lv,Bf d z ls lv->¬Dy z ls lv)/\o=.A3)
theorem MX.kt {d:PyData}{o:V}(h:MX H d o)(k:Kt lms H H'):MX H' d o:=by
 rcases h with⟨z,ls,lv,ups,lab,ks,t,f,R,e,tr⟩|⟨n,e⟩
 ·exact .inl ⟨z,ls,lv,ups,lab,ks,t,f,R,e,tr.kt k⟩
 ·exact .inr ⟨n,e⟩
end
section
variable {P:Program}{w:World}{K:PySem.W.Frag}{mg:Str->Option Value}{base:Heap}{k:Nat}
def sp_law (ls:List Lm):PySem.W.Frag->Sp:=λK vs H Q _=>∃(a:Addr) (ns:List Int),vs=[.ref a]/\Am K H a (ns.map V.int)/\ns.length<=63/\CJ ls H/\∀H',Q (.bl true) H'
theorem SM {lms:List Lm}{f:Addr}{fd:FuncData}(F:Ra K "law" "law" s_law f fd)(B:CK mg)(G_law_cells:Bb P w K mg base "_law_cells" k ["script","many"] (Jl K))(G_law_pool:Bb P w K mg base "_law_pool" k ["cell"] L7)(G_law_tree:Bb P w K mg base "_law_tree" k ["pool","most"] L9)
 (G_rows_of:Bb P w K mg base "rows_of" k ["tree"] (Ib lms))(G_is_rows:Bb P w K mg base "is_rows" k ["thing"] (Eb lms))(G_law_bent:Bb P w K mg base "_law_bent" k ["pool","rows"] MV)(G_law_form:Bb P w K mg base "_law_form" k ["thing"] Gi)
 (G_law_due:Bb P w K mg base "_law_due" k ["thing"] Pg)(G_law_told:Bb P w K mg base "_law_told" k ["thing"] (MQ lms)):
 Ef P w K mg base CX0 (k+1) f fd ["script"] (sp_law lms K):=by
 refine F.ok CY (λvs H Q E h=>by obtain⟨a,ns,rfl,_⟩:=h;rfl) (λcdv A outer s H vs Q E hr h=>?_)
 obtain⟨a,ns,rfl,hS,h63,L,q⟩:=h
 refine⟨_,(AE (CF PassesOwn.never rfl (D3 rfl B.enumerate (AA (AK G_law_cells hr rfl (AA (pv 0) (AA AF AD))) AD)) (Ce rfl (Ag (AQ (i:=1) CY.nd rfl (by first|exact Or.inl rfl|exact Or.inr rfl)) (Ag (AQ (i:=2) CY.nd rfl (by first|exact Or.inl rfl|exact Or.inr rfl)) Bv)))
 (AE (AN (i:=3) CY.nd rfl (by first|exact Or.inl rfl|exact Or.inr rfl) (AK G_law_pool hr rfl (AA (pv 2) AD)))
 (AE (AN (i:=4) CY.nd rfl (by first|exact Or.inl rfl|exact Or.inr rfl) (AK G_rows_of hr rfl (AA (AK G_law_tree hr rfl (AA (pv 3) (AA (AR Ap (Ai (AA AF (AA AF AD))) (Ao CG rfl B.int_ ET (AA (Bd Cg (pv 1) AF (AZ _)) AD)) (λ_ _=>rfl)) AD))) AD)))
 (AE (AN (i:=5) CY.nd rfl (by first|exact Or.inl rfl|exact Or.inr rfl) (Ai (AA (pv 4) AD)))
 (AE (CF PassesOwn.never rfl (B0 rfl B.range (AA AF AD)) (AQ (i:=6) CY.nd rfl (by first|exact Or.inl rfl|exact Or.inr rfl))
 (AE (AN (i:=7) CY.nd rfl (by first|exact Or.inl rfl|exact Or.inr rfl) (AK G_law_bent hr rfl (AA (pv 3) (AA (pv 4) AD))))
 (AE (B4 (Cp PySem.F.plainAttrs_list PySem.F.slot_list_append PySem.F.type_list_append BM (pv 5) (AA (pv 7) AD)))
 (AL (Bk (Bj (AK G_law_form hr rfl (AA (pv 7) AD)))
 (AL (B4 (Cp PySem.F.plainAttrs_list PySem.F.slot_list_append PySem.F.type_list_append BM (pv 5) (AA (AK G_law_bent hr rfl (AA (pv 3) (AA (pv 7) AD))) AD))))
 Av)))))
 (AL (CF PassesOwn.never rfl (B5 (pv 5)) (AQ (i:=8) CY.nd rfl (by first|exact Or.inl rfl|exact Or.inr rfl))
 (AE (AN (i:=9) CY.nd rfl (by first|exact Or.inl rfl|exact Or.inr rfl) (AM (Bc hr) rfl B.repr D5 (AA (pv 8) AD)))
 (AE (AN (i:=10) CY.nd rfl (by first|exact Or.inl rfl|exact Or.inr rfl) (AK G_law_due hr rfl (AA (pv 8) AD)))
 (AE (AN (i:=11) CY.nd rfl (by first|exact Or.inl rfl|exact Or.inr rfl) (AK G_is_rows hr rfl (AA (pv 8) AD)))
 (AE (Bk (PW.pt (DN (B3 (Bj (AM Ba rfl B.isinstance Au (AA (pv 11) (AA (CZ (v:=.ty "bool") rfl B.bool_ IL rfl) AD))))) (DB (Ab FZ (pv 11) (Bd P7 (pv 10) CT (AZ _)) (AZ _)))))
 (AL (AV DM))
 Av)
 (AL (Bk (PW.pt (DN (Ab FZ (AM (Bc hr) rfl B.repr D5 (AA (AK G_law_told hr rfl (AA (pv 8) AD)) AD)) (AM (Bc hr) rfl B.repr D5 (AA (DU (Ab KY (pv 10) CT (AZ _)) Bi (pv 10)) AD)) (AZ _)) (DB (Ab FZ (AM (Bc hr) rfl B.repr D5 (AA (pv 8) AD)) (pv 9) (AZ _)))))
 (AL (AV DM))
 Av)))))))))))))
 (AL (AV DM))),?_⟩
 refine⟨_,rfl,a,ns,4,rfl,hS,h63,by decide,λcs r0 H0 cl s0 hf0 hr0=>?_⟩
 refine⟨.lst r0,rfl,⟨_,.inl hr0⟩,?_⟩
 have L0:CJ lms H0:=L.same s0
 refine Em (xs:=cs.map V.int) (λi σ H'=>∃o1 o2 o3 o4 o5 o6 o7 o8 o9 oA oB:Option V,σ=[some (.ref a),o1,o2,o3,o4,o5,o6,o7,o8,o9,oA,oB]/\Kt lms H0 H') ⟨none,none,none,none,none,none,none,none,none,none,none,rfl,Kt.refl L0⟩ (λi σ H' _ h=>by obtain⟨_,_,_,_,_,_,_,_,_,_,_,_,k1⟩:=h;exact .inl (k1.lst hr0)) ?_ ?_
 ·rintro i x σ H' pp hx ⟨o1,o2,o3,o4,o5,o6,o7,o8,o9,oA,oB,rfl,k1⟩ hpp
  obtain⟨cell,_,rfl⟩:=List.mem_map.mp (List.mem_of_getElem? hx)
  refine⟨pp,_,rfl,Ar.of AB,rfl,_,_,rfl,_,_,rfl,rfl,?_⟩
  have k2:Kt lms H0 (upd H' pp (.tup [.int (i:Int),.int cell])):=k1.same ((AG.refl H').new hpp)
  show(λHH=>_) (upd H' pp (.tup [.int (i:Int),.int cell]))
  generalize upd H' pp (.tup [.int (i:Int),.int cell])=H2 at k2
  refine⟨_,rfl,cell,rfl,λp x y hp=>?_⟩
  have dk3:CO (upd H2 p (.lst [.int x,.int y,.int 0])) p 0:=⟨x,y,0,AB,by decide,by decide⟩
  have k3:Kt lms H2 (upd H2 p (.lst [.int x,.int y,.int 0])):=(Kt.refl k2.lam).same ((AG.refl H2).new hp)
  show(λHH=>_) (upd H2 p (.lst [.int x,.int y,.int 0]))
  generalize upd H2 p (.lst [.int x,.int y,.int 0])=H3 at dk3 k3
  refine⟨_,rfl,(by show 2<=sizeLine;decide),λv hv=>?_⟩
  have s4:AG H3 (upd H3 v (.lst [.int 16,.int 60])):=(AG.refl H3).new hv
  have h4:upd H3 v (.lst [.int 16,.int 60]) v=some (.lst [.int 16,.int 60]):=AB
  show(λHH=>_) (upd H3 v (.lst [.int 16,.int 60]))
  generalize upd H3 v (.lst [.int 16,.int 60])=H4 at s4 h4
  obtain⟨most,ms1,ms60,atm⟩:∃most:Int,1<=most/\most<=60/\DY [V.int 16,.int 60] (if decide (V.int (i:Int)=V.int 0)then 1 else 0)=some (.int most):=by
   generalize decide (V.int (i:Int)=V.int 0)=bb
   cases bb
   ·exact⟨16,by decide,by decide,rfl⟩
   ·exact⟨60,by decide,by decide,rfl⟩
  have dk4:=CO.same dk3 s4
  refine⟨_,rfl,rfl,.inr ⟨_,rfl,v,_,_,_,rfl,rfl,Am.of h4,atm,p,most,0,rfl,dk4,by decide,by decide,ms1,ms60,λt ups lab H5 kd5 tr fine=>?_⟩⟩
  have k5:Kt lms H2 H5:=Kt.kd (k3.same s4) ⟨_,dk4⟩ hp kd5
  obtain⟨_,_,_,ok⟩:=id tr
  have m60:=ok.most
  refine⟨t,ups,lab,rfl,tr,k5.lam,λks r a1 b1 H6 ko k6 hf6 hr6 ha6 hb6=>?_⟩
  have R:RO ups lab ks (BK lab ks) ((Al ks).map (Az ups)) ((Al ks).map λj:Nat=>BQ ups (j:Int)):=⟨ok,fine,ko,rfl,rfl,rfl⟩
  have rw6:Ea H6 r (BK lab ks) ((Al ks).map (Az ups)) ((Al ks).map λj:Nat=>BQ ups (j:Int)):=⟨a1,b1,hr6,by rw[ha6,List.map_map];rfl,by rw[hb6,List.map_map];rfl⟩
  clear ha6 hb6 hr6
  generalize BK lab ks=z at R rw6
  generalize(Al ks).map (Az ups)=ls at R rw6
  generalize((Al ks).map λj:Nat=>BQ ups (j:Int))=lv at R rw6
  have dk6:CO H6 p 400:=by
   obtain⟨x',y',w',e0,h⟩:=kd5.deck
   exact⟨x',y',w',k6.lst e0,h⟩
  refine⟨_,rfl,(by show 1<=sizeLine;decide),λtl htl=>?_⟩
  have s7:AG H6 (upd H6 tl (.lst [.ref r])):=(AG.refl H6).new htl
  have h7:upd H6 tl (.lst [.ref r]) tl=some (.lst [.ref r]):=AB
  show(λHH=>_) (upd H6 tl (.lst [.ref r]))
  generalize upd H6 tl (.lst [.ref r])=H7 at s7 h7
  have b7:Bg lms H2 H7 p tl r z ls lv 400 [.ref r]:=by
   have k26:=k5.trans k6
   have rw7:=rw6.same s7
   have dk7:=CO.same dk6 s7
   have ne:tl≠p:=dk6.ne htl
   refine⟨k26.same s7,hp,k26.here _ htl,ne,dk7,rw7,h7,λv hv=>?_⟩
   rw[List.mem_singleton]at hv
   subst hv
   have Lq:Ls [p,tl] H7:=λy hy=>by
    obtain⟨x,y',w,e0,_⟩:=dk7
    simp only[List.mem_cons,List.not_mem_nil,or_false]at hy
    rcases hy with rfl|rfl
    ·exact⟨_,e0⟩
    ·exact⟨_,h7⟩
   obtain⟨a,b,h1,h2,h3⟩:=rw7
   exact NZ h1 (Lq.tup h1) (Pk (λc hc=>by have:=R.low c hc;unfold Lw at this;omega) (by rw[R.Py];omega)) (Cy h2 (Lq.tup h2) (by rw[R.sl];exact m60)) (Cy h3 (Lq.tup h3) (by rw[R.vl];exact m60))
  have lz:z.length<=60:=by rw[R.Py];exact m60
  have l1:ls.length=z.length:=by rw[R.Py,R.sl]
  have l2:lv.length=z.length:=by rw[R.Py,R.vl]
  have z1:1<=z.length:=by rw[R.Py];exact ok.pos
  dsimp only[Ee]
  refine mid (λσ HX=>∃(o6 o7:Option V) (vs:List V) (c:Int),σ=[some (.ref a),some (.int (i:Int)),some (.int cell),some (.ref p),some (.ref r),some (.ref tl),o6,o7,o8,o9,oA,oB]/\Bg lms H2 HX p tl r z ls lv c vs/\vs.length<=13) ?_ λE nx=>?_
  rotate_left
  ·refine⟨6,rfl,by decide,by decide,?_⟩
   refine C0 (lo:=0) (n:=6) (λj σ HX=>∃(o6 o7:Option V) (vs:List V) (c:Int),σ=[some (.ref a),some (.int (i:Int)),some (.int cell),some (.ref p),some (.ref r),some (.ref tl),o6,o7,o8,o9,oA,oB]/\Bg lms H2 HX p tl r z ls lv c vs/\vs.length<=1+2*j/\c<=400+40*(j:Int)/\0<=c) ⟨o6,o7,_,_,rfl,b7,by show 1<=1+2*0;decide,by decide,by decide⟩ ?_ ?_
   rotate_left
   ·rintro σ HX ⟨o6,o7,vs,c,rfl,b,l,_,_⟩
    exact nx _ _ ⟨_,_,_,_,rfl,b,l⟩
   rintro j σ HX hj ⟨o6,o7,vs,c,rfl,b,l,c1,c0⟩
   refine⟨_,rfl,_,rfl,p,r,c,z,ls,lv,[p,tl],rfl,by simp,b.Uv,b.dk,c0,by omega,b.rw0,l1,l2,z1,lz,R.low,λv HY kd hv=>?_⟩
   have bY:=b.Tn kd
   refine⟨_,rfl,.inl ⟨rfl,_,Am.of bY.at_⟩,_,rfl,tl,vs,v,rfl,rfl,bY.at_,AO (by omega),?_⟩
   have bZ:=bY.put hv
   have vZ:=hv.on (bY.Pu v)
   show(λHH=>_) (upd HY tl (.lst (vs++[v])))
   generalize upd HY tl (.lst (vs++[v]))=HZ at bZ vZ
   obtain⟨d,td,ft,sh⟩:=vZ.td
   refine⟨_,rfl,v,d,rfl,td,sh,λbf HW sW hb=>?_⟩
   have bW:=bZ.same sW
   have tdW:=td.same sW
   by_cases cb:bf=true
   rotate_left
   ·refine⟨_,rfl,CA (Bool.eq_false_iff.mpr cb) ?_⟩
    exact⟨_,_,_,_,rfl,bW,by rw[List.length_append];show vs.length+1<=_;omega,by omega,by omega⟩
   refine⟨_,rfl,Cn cb ?_⟩
   obtain⟨z',ls',lv',fm,_⟩:=hb.mp cb
   obtain⟨r',rfl,rw'⟩:=fm.rw tdW
   refine⟨_,rfl,.inl ⟨rfl,_,Am.of bW.at_⟩,_,rfl,_,rfl,p,r',c+20,z',ls',lv',[p,tl],rfl,by simp,bW.Uv,bW.dk,by omega,by omega,rw',fm.l1,fm.l2,fm.pos,fm.most,fm.low,λv' HV kd' hv'=>?_⟩
   have bV:=bW.Tn kd'
   refine⟨tl,_,v',rfl,rfl,bV.at_,AO (by rw[List.length_append];show vs.length+1<=_;omega),?_⟩
   have bU:=bV.put hv'
   exact⟨_,_,_,_,rfl,bU,by rw[List.length_append,List.length_append];show vs.length+1+1<=_;omega,by omega,by omega⟩
  rintro σ HX ⟨o6',o7',vs,c,rfl,b,l⟩
  refine⟨_,rfl,tl,rfl,⟨_,Am.of b.at_⟩,?_⟩
  refine Ng (xs:=vs) (λj σ HV=>∃o8 o9 oA oB:Option V,σ=[some (.ref a),some (.int (i:Int)),some (.int cell),some (.ref p),some (.ref r),some (.ref tl),o6',o7',o8,o9,oA,oB]/\Kt lms HX HV) ⟨o8,o9,oA,oB,rfl,Kt.refl b.kt.lam⟩ (λj σ HV _ h=>by obtain⟨_,_,_,_,_,kX⟩:=h;exact Am.of (kX.lst b.at_)) ?_ ?_
  rotate_left
  ·rintro σ HV ⟨o8',o9',oA',oB',rfl,kX⟩
   exact⟨_,_,_,_,_,_,_,_,_,_,_,rfl,(k2.trans b.kt).trans kX⟩
  rintro j x σ HV hx ⟨o8',o9',oA',oB',rfl,kX⟩
  obtain⟨d,tdX,ft,sh⟩:=(b.wh x (List.mem_of_getElem? hx)).td
  have td:=Td.kt kX tdX
  dsimp only[Ee]
  refine mid (λσ HY=>σ=[some (.ref a),some (.int (i:Int)),some (.int cell),some (.ref p),some (.ref r),some (.ref tl),o6',o7',some x,some (.str d.shown),oA',oB']/\HY=HV) ?_ λE1 nx1=>?_
  rotate_left
  ·refine⟨_,rfl,x,d,rfl,td,ft,?_⟩
   exact nx1 _ _ ⟨rfl,rfl⟩
  rintro σ HY ⟨rfl,rfl⟩
  generalize hkp:d.shown=kp
  refine mid (λσ HZ=>∃o:V,σ=[some (.ref a),some (.int (i:Int)),some (.int cell),some (.ref p),some (.ref r),some (.ref tl),o6',o7',some x,some (.str kp),some o,oB']/\AG HY HZ/\MX HZ d o) ?_ λE2 nx2=>?_
  rotate_left
  ·refine⟨_,rfl,x,d,rfl,td,sh,ft,λz' ls' lv' ups' lab' ks' f' R' t' HZ sZ tr'=>nx2 _ _ ⟨_,rfl,sZ,.inl ⟨_,_,_,_,_,_,_,f',R',rfl,tr'⟩⟩,λn HZ sZ=>nx2 _ _ ⟨_,rfl,sZ,.inr ⟨n,rfl⟩⟩⟩
  rintro σ HZ ⟨o,rfl,sZ,due⟩
  refine⟨_,rfl,x,d,rfl,td.same sZ,sh,kX.lam.same sZ,λbf HA hb kA=>?_⟩
  have dueA:=due.kt kA
  have tdA:=Td.kt kA (td.same sZ)
  dsimp only[Ee]
  refine mid (λσ HB=>σ=[some (.ref a),some (.int (i:Int)),some (.int cell),some (.ref p),some (.ref r),some (.ref tl),o6',o7',some x,some (.str kp),some o,some (.bl bf)]/\HB=HA) ?_ λE3 nx3=>?_
  rotate_left
  ·have eb:bf=!decide (o=.A3):=by
    rcases dueA with⟨z',ls',lv',ups',lab',ks',t',f',R',rfl,_⟩|⟨n,rfl⟩
    ·exact hb.mpr ⟨z',ls',lv',f',ups',lab',ks',R'⟩
    ·refine Bool.eq_false_iff.mpr λe=>?_
     obtain⟨z',ls',lv',f',r'⟩:=hb.mp e
     exact n _ _ _ f' r'
   refine⟨_,rfl,_,_,_,true,rfl,.bl _,rfl,true,rfl,CA rfl ?_⟩
   refine⟨_,rfl,_,rfl,rfl,rfl,_,rfl,CA ?_ ?_⟩
   ·rw[eb];simp
   ·exact nx3 _ _ ⟨rfl,rfl⟩
  rintro σ HB ⟨rfl,rfl⟩
  have kHB:Kt lms HX HB:=(kX.same sZ).trans kA
  rcases dueA with⟨z',ls',lv',ups',lab',ks',t',f',R',rfl,tr'⟩|⟨n,rfl⟩
  ·refine⟨_,rfl,x,d,rfl,tdA,sh,kA.lam,λz2 ls2 lv2 ups2 lab2 ks2 f2 R2 t2 HC kC tr2=>?_,λn=>absurd ⟨_,_,_,R'⟩ (n _ _ _ f')⟩
   obtain⟨e1,e2,e3⟩:=f'.one f2
   subst e1 e2 e3
   obtain⟨e1,e2⟩:=R'.one R2
   subst e1 e2
   obtain⟨g1,g2⟩:=MW tr2 R'.fine
   obtain⟨g3,_⟩:=MW (tr'.kt kC) R'.fine
   generalize Pw ups' lab'=td' at g1 g2 g3
   refine⟨_,td',rfl,g1,g2,?_⟩
   generalize hzt:td'.shown=zt
   refine⟨_,rfl,rfl,_,rfl,CA rfl ?_⟩
   refine⟨_,rfl,_,td',rfl,g3,g2,?_⟩
   rw[hzt]
   refine⟨rfl,_,rfl,CA (ne_str rfl) ?_⟩
   refine⟨_,rfl,x,d,rfl,Td.kt kC tdA,ft,_,rfl,?_⟩
   rw[hkp]
   refine⟨rfl,_,rfl,CA (ne_str rfl) ?_⟩
   exact⟨_,_,_,_,rfl,kHB.trans kC⟩
  ·refine⟨_,rfl,x,d,rfl,tdA,sh,kA.lam,λz2 ls2 lv2 ups2 lab2 ks2 f2 R2=>absurd ⟨_,_,_,R2⟩ (n _ _ _ f2),λ_ HC kC=>?_⟩
   have fs:PN (PyData.str (Str.ofString "NoRows")):=(Gd.str (hd:=false) (hl:=true) (by decide)).fit (.inl rfl) (by decide) (by decide)
   refine⟨_,_,rfl,.str _,fs,?_⟩
   generalize hzt:(PyData.str (Str.ofString "NoRows")).shown=zt
   refine⟨_,rfl,rfl,_,rfl,Cn rfl ?_⟩
   refine⟨_,_,rfl,.str _,fs,?_⟩
   rw[hzt]
   refine⟨rfl,_,rfl,CA (ne_str rfl) ?_⟩
   refine⟨_,rfl,x,d,rfl,Td.kt kC tdA,ft,_,rfl,?_⟩
   rw[hkp]
   refine⟨rfl,_,rfl,CA (ne_str rfl) ?_⟩
   exact⟨_,_,_,_,rfl,kHB.trans kC⟩
 ·rintro σ H' ⟨o1,o2,o3,o4,o5,o6,o7,o8,o9,oA,oB,rfl,k1⟩
  exact q H'
end
end S28
namespace S28
open PySem L2 W7
theorem df_mk {K:PySem.W.Frag}{h:Heap}{mg:Str->Option Value}{x:Str}{st:Stmt}{f:Addr}{oc:Value}{od an:Option Addr}{osl:Array (Option Value)}{kV doc pm cdv ct:Value}(X:K.In h)(G:h.Ns mainGlobals mg)
 (a:PySem.W.nsIn K mainGlobals x=some (some (.ref f)))(l:K.lookup f=some ⟨oc,od,.func (PySem.W.fnOf x x (Cq st) (Bw st) (AJ st) .none kV doc pm an cdv ct),osl⟩)(c:PySem.W.codeIn K cdv x=true)(kk:PySem.W.keepIn K (.ref f)=true):Df K mg x st:=
 ⟨f,_,Rb l c kk,PySem.W.mg_of X G a⟩
def exs_mk {K:PySem.W.Frag}{h:Heap}{mg:Str->Option Value}(X:K.In h)(G:h.Ns mainGlobals mg){UpError NoPlace NoRows NoRuns NoText NoTree:Addr}
 (a_UpError:PySem.W.nsIn K mainGlobals "UpError"=some (some (.ref UpError)))
 (a_NoPlace:PySem.W.nsIn K mainGlobals "NoPlace"=some (some (.ref NoPlace)))
 (a_NoRows:PySem.W.nsIn K mainGlobals "NoRows"=some (some (.ref NoRows)))
 (a_NoRuns:PySem.W.nsIn K mainGlobals "NoRuns"=some (some (.ref NoRuns)))
 (a_NoText:PySem.W.nsIn K mainGlobals "NoText"=some (some (.ref NoText)))
 (a_NoTree:PySem.W.nsIn K mainGlobals "NoTree"=some (some (.ref NoTree)))
 (q_NoRows:PySem.W.excIn K NoRows Uc "ValueError.__new__"=true)
 (ga_NoRows:PySem.W.findIn K (.ref NoRows) "__getattribute__"=some (some (.builtin "BaseException.__getattribute__")))
 (gn_NoRows:PySem.W.findIn K (.ref NoRows) "__getattr__"=some none)
 (cl_NoRows:PySem.W.findIn K (.ref NoRows) "__class__"=some (some (.builtin "object.__class__")))
 (ob_NoRows:PySem.W.mroIn K NoRows (.type "object")=some true)
 (be_NoRows:PySem.W.mroIn K NoRows (.type "BaseException")=some true)
 (cd_NoRows:(PySem.W.clsIn K NoRows).isSome=true)
 (u_NoRows:PySem.W.exmOne K (.ref NoRows) (.ref UpError)=some true)
 (gt:PySem.W.specialIn K (.builtin "object.__class__") "__get__"=some (some (.builtin "getset_descriptor.__get__")))
 (tk:PySem.W.takesIn K (.builtin "object.__class__")=some true)
 (xm:PySem.W.exmOne K (.ref NoRows) (.ref NoRows)=some true)
 (pa:PySem.W.kitAny K (.ref NoRows) ([NoPlace,NoRuns,NoText,NoTree].map Value.ref)=some false):Exs K mg where
 c_UpError:=UpError
 m_UpError:=PySem.W.mg_of X G a_UpError
 c_NoPlace:=NoPlace
 m_NoPlace:=PySem.W.mg_of X G a_NoPlace
 c_NoRows:=NoRows
 m_NoRows:=PySem.W.mg_of X G a_NoRows
 c_NoRuns:=NoRuns
 m_NoRuns:=PySem.W.mg_of X G a_NoRuns
 c_NoText:=NoText
 m_NoText:=PySem.W.mg_of X G a_NoText
 c_NoTree:=NoTree
 m_NoTree:=PySem.W.mg_of X G a_NoTree
 q_NoRows:=q_NoRows
 z_NoRows:=⟨ga_NoRows,gn_NoRows,cl_NoRows,gt,tk,ob_NoRows,be_NoRows,cd_NoRows⟩
 u_NoRows:=u_NoRows
 xm:=xm
 pa:=pa
theorem blt_mk {K:PySem.W.Frag}{h:Heap}{mg:Str->Option Value}(X:K.In h)(G:h.Ns mainGlobals mg)
 (z1:PySem.W.nsIn K mainGlobals "len"=some none)(z2:PySem.W.nsIn K mainGlobals "range"=some none)(z3:PySem.W.nsIn K mainGlobals "zip"=some none)(z4:PySem.W.nsIn K mainGlobals "enumerate"=some none)
 (z5:PySem.W.nsIn K mainGlobals "max"=some none)(z6:PySem.W.nsIn K mainGlobals "min"=some none)(z7:PySem.W.nsIn K mainGlobals "int"=some none)(z8:PySem.W.nsIn K mainGlobals "str"=some none)
 (z9:PySem.W.nsIn K mainGlobals "bool"=some none)(z10:PySem.W.nsIn K mainGlobals "list"=some none)(z11:PySem.W.nsIn K mainGlobals "tuple"=some none)(z12:PySem.W.nsIn K mainGlobals "isinstance"=some none):Blt mg:=
 ⟨PySem.W.mg_none_of X G z1,PySem.W.mg_none_of X G z2,PySem.W.mg_none_of X G z3,PySem.W.mg_none_of X G z4,PySem.W.mg_none_of X G z5,PySem.W.mg_none_of X G z6,PySem.W.mg_none_of X G z7,PySem.W.mg_none_of X G z8,
  PySem.W.mg_none_of X G z9,PySem.W.mg_none_of X G z10,PySem.W.mg_none_of X G z11,PySem.W.mg_none_of X G z12⟩
theorem all_ok {P:Program}{w:World}{K:PySem.W.Frag}{mg:Str->Option Value}{fa:Addr}(hfa:mg "law"=some (.ref fa))(B:CK mg)
 (d1:Df K mg "words_of" s_words_of)(d2:Df K mg "order_of" s_order_of)(d3:Df K mg "ranks_of" s_ranks_of)(d4:Df K mg "is_letters" s_is_letters)(d5:Df K mg "is_labels" s_is_labels)(d6:Df K mg "beneath_of" s_beneath_of)(d7:Df K mg "is_leaf" s_is_leaf)(d8:Df K mg "grown_tree" s_grown_tree)(d9:Df K mg "kept_order" s_kept_order)(d10:Df K mg "rows_of" s_rows_of)(d11:Df K mg "is_last" s_is_last)(d12:Df K mg "is_rows" s_is_rows)(d13:Df K mg "tree_of" s_tree_of)(d14:Df K mg "has_form" s_has_form)(d15:Df K mg "is_truths" s_is_truths)(d16:Df K mg "tree_by" s_tree_by)(d17:Df K mg "groups_of" s_groups_of)(d18:Df K mg "group_numbers" s_group_numbers)(d19:Df K mg "_law_prime" s_law_prime)(d20:Df K mg "_law_pool" s_law_pool)(d21:Df K mg "_law_take" s_law_take)(d22:Df K mg "_law_letter" s_law_letter)(d23:Df K mg "_law_tree" s_law_tree)(d24:Df K mg "_law_word" s_law_word)(d25:Df K mg "_law_cells" s_law_cells)(d26:Df K mg "_law_rows" s_law_rows)(d27:Df K mg "_law_form" s_law_form)(d28:Df K mg "_law_tree_by" s_law_tree_by)(d29:Df K mg "_law_due" s_law_due)(d30:Df K mg "_law_marks_bent" s_law_marks_bent)(d31:Df K mg "_law_bent" s_law_bent)(d32:Df K mg "_law_told" s_law_told)(d33:Df K mg "law" s_law)(EX:Exs K mg):
 ∃fd:FuncData,(∀(s:Shared) (v:Value),BindsTo s fd ⟨[v],[]⟩ [("script",v)])/\∀(Ts:List Addr) (base:Heap),K.In base->Mw (TabAt base mg) ["order_of","kept_order"] Ts->Ef P w K mg base CX0 12 fa fd ["script"] (sp_law (lamsOf Ts) K):=by
 obtain⟨f,fd,F,m⟩:=d33
 have e:=hfa.symm.trans m
 cases e
 refine⟨fd,?_,λTs base kb TT=>?_⟩
 ·obtain⟨oc,od,kV,doc,pm,an,cdv,ct,osl,rfl,_,_⟩:=F.ex
  exact λs v=>.of_eq rfl
 cases TT with
 |cons TA1 TT2=>
  rename_i T1 _
  cases TT2 with
  |cons TA2 TT3=>
   rename_i T2 _
   cases TT3
   have LK:Mu (lamsOf [T1,T2]):=Tj _
   have LI1:(T1,Ug,qO)∈lamsOf [T1,T2]:=List.mem_cons_self ..
   have LI2:(T2,Uh,qK)∈lamsOf [T1,T2]:=List.mem_cons_of_mem _ (List.mem_cons_self ..)
   have g_words:=NJ (P:=P) (w:=w) (base:=base) (k:=0) d1 B.toBlt
   have g_order:=NM (k:=1) d2 B kb TA1 LK LI1 g_words
   have g_ranks:=NN (k:=2) d3 B g_order
   have g_kept:=Ox (k:=3) d9 B kb TA2 LK LI2 g_ranks
   have g_ben:=Jm (P:=P) (w:=w) (base:=base) (k:=0) d6 B
   have g_leaf:=Oz (P:=P) (w:=w) (base:=base) (k:=0) d7 B
   have g_last:=O0 (k:=1) d11 B g_ben
   have g_rows:=O1 (k:=4) d10 B g_kept (g_last.mono (by decide)) (g_leaf.mono (by decide))
   have g_prime:=NI (P:=P) (w:=w) (base:=base) (k:=0) d19 B.toBlt
   have g_pool:=Ot (P:=P) (w:=w) (base:=base) (k:=0) d20 B.toBlt
   have g_take:=Ou (k:=1) d21 B.toBlt g_prime
   have g_letter:=LP (k:=2) d22 B.toBlt g_take
   have g_tree:=Ov (k:=3) d23 B.toBlt (g_take.mono (by decide)) g_letter
   have g_cells:=NO (P:=P) (w:=w) (base:=base) (k:=0) d25 B
   have g_groups:=LR (P:=P) (w:=w) (base:=base) (k:=0) d17 B
   have g_gnums:=NQ (P:=P) (w:=w) (base:=base) (k:=0) d18 B
   have g_grow:=PD (P:=P) (w:=w) (base:=base) (k:=0) d8 B
   have g_by:=R5 (k:=1) d16 B g_groups g_gnums g_grow
   have g_letters:=Ii (P:=P) (w:=w) (base:=base) (k:=0) d4 B
   have g_labels:=Jw (k:=1) d5 B g_letters
   have g_truths:=Jx (P:=P) (w:=w) (base:=base) (k:=0) d15 B
   have g_form:=NT (k:=2) d14 B g_labels (g_truths.mono (by decide)) (g_groups.mono (by decide))
   have g_isrows:=Jz (k:=5) d12 B (g_form.mono (by decide)) g_rows (g_by.mono (by decide))
   have g_treeof:=J0 (k:=6) EX d13 B g_isrows (g_by.mono (by decide))
   have g_told:=PV (k:=7) EX d32 B g_treeof
   have g_lform:=NV (P:=P) (w:=w) (base:=base) (k:=0) d27 B
   have g_ltree:=NX (P:=P) (w:=w) (base:=base) (k:=0) d28 B
   have g_lword:=NR (P:=P) (w:=w) (base:=base) (k:=0) d24 B.toBlt
   have g_lrows:=NS (k:=1) d26 B g_lword
   have g_due:=Qu (k:=2) d29 B (g_lform.mono (by decide)) (g_ltree.mono (by decide)) g_lrows
   have g_mbent:=NY (k:=2) d30 B g_take
   have g_bent:=Pr (k:=3) d31 B (g_take.mono (by decide)) g_mbent
   exact(SM (k:=8) F B (g_cells.mono (by decide)) (g_pool.mono (by decide)) (g_tree.mono (by decide)) (g_rows.mono (by decide)) (g_isrows.mono (by decide)) (g_bent.mono (by decide)) (g_lform.mono (by decide)) (g_due.mono (by decide)) g_told).mono (by decide)
end S28
def PySem.W.Fast.tw10576087384357498542:Nat:=0
def PySem.W.Fast.tw17760955177015934695:Nat:=0
def PySem.W.Fast.tw16670634311586893239:Nat:=0
def PySem.W.Fast.tw5100634628194568813:Nat:=0
def PySem.W.Fast.tw15993155004562308339:Nat:=0
def PySem.W.Fast.tw11543674040194707010:Nat:=0
def PySem.W.Fast.tw2392451616849171080:Nat:=0
def PySem.W.Fast.tw3100114398335614948:Nat:=0
def PySem.W.Fast.tw12678828757177559017:Nat:=0
def PySem.W.Fast.tw7139643950537273183:Nat:=0
def PySem.W.Fast.tw16598680153241590043:Nat:=0
def PySem.W.Fast.tw8161048708015526994:Nat:=0
def PySem.W.Fast.tw16588076642846359014:Nat:=0
def PySem.W.Fast.tw4801071526837045042:Nat:=0
def PySem.W.Fast.tw16581749606237600420:Nat:=0
def PySem.W.Fast.tw6817922196249166595:Nat:=0
def PySem.W.Fast.tw15414610704808450955:Nat:=0
def PySem.W.Fast.tw3231777212262877042:Nat:=0
def PySem.W.Fast.tw3760022891628492459:Nat:=0
def PySem.W.Fast.tw12023730458535380751:Nat:=0
def PySem.W.Fast.tw3340298469387936443:Nat:=0
def PySem.W.Fast.tw13325052922707477012:Nat:=0
def PySem.W.Fast.tw18172478378316150948:Nat:=0
def PySem.W.Fast.tw15529256691776271800:Nat:=0
def PySem.W.Fast.tw2606177268801914827:Nat:=0
def PySem.W.Fast.tw12810845698527167692:Nat:=0
def PySem.W.Fast.tw8447200724425755325:Nat:=0
def PySem.W.Fast.tw9855079183508786668:Nat:=0
def PySem.W.Fast.tw13739212730190167055:Nat:=0
def PySem.W.Fast.tw9979965939595382424:Nat:=0
def PySem.W.Fast.tw6927431347989848167:Nat:=0
def PySem.W.Fast.tw1787332082680288750:Nat:=0
def PySem.W.Fast.tw10695154492423099825:Nat:=0
def PySem.W.Fast.tw6860619979632247476:Nat:=0
def PySem.W.Fast.tw11505347607996234251:Nat:=0
def PySem.W.Fast.tw3268676612400145713:Nat:=0
open PySem PySem.W PyProof.Rows
set_option maxRecDepth 100000 in
set_option maxHeartbeats 0 in
theorem PySem.Challenge.cw_upwords_k28_rows_told_apart_holds : PySem.Challenge.rw_upwords_k28_rows_told_apart.Holds := by
  w_on; o_law; k_head; (case hw => w_witness2)
  k_fill
  refine L2.walk_ofT (l := PySem.Challenge.rw_upwords_k28_rows_told_apart) (n := 63) (k := 12) (x := "script") (nms := ["order_of", "kept_order"]) (CX := L2.CX0) (sp := fun Ts => S28.sp_law (S28.lamsOf Ts)) rfl (by decide) rfl ⟨rfl, by decide, by decide, rfl⟩ (fun w h Y => PySem.W.km_in_of Y) (.cons rfl (.cons rfl .nil)) (fun w => by kernel_rfl) ?F
    (fun K Ts H a ns hl hlen hT hS => ⟨a, ns, rfl, hS, hl, S28.lams_start hlen hT, fun _ => rfl⟩) (fun _ _ _ _ z => z)
  case F =>
    intro w mg fa h KX G hmg
    have B : L2.Blt mg := by
      refine' S28.blt_mk KX G ?z1 ?z2 ?z3 ?z4 ?z5 ?z6 ?z7 ?z8 ?z9 ?z10 ?z11 ?z12
      (case z1 => k_is); (case z2 => k_is); (case z3 => k_is); (case z4 => k_is); (case z5 => k_is); (case z6 => k_is); (case z7 => k_is); (case z8 => k_is); (case z9 => k_is); (case z10 => k_is); (case z11 => k_is); (case z12 => k_is)
    have Bx0 : mg "sorted" = none := by
      refine' PySem.W.mg_none_of KX G ?z
      (case z => k_is)
    have Bx1 : mg "all" = none := by
      refine' PySem.W.mg_none_of KX G ?z
      (case z => k_is)
    have Bx2 : mg "repr" = none := by
      refine' PySem.W.mg_none_of KX G ?z
      (case z => k_is)
    have Bx3 : ∃ u, mg "MOST_PLACES" = some u ∧ L2.RelV (.int 60) u := by
      refine' ⟨_, PySem.W.mg_of KX G ?z, ?r⟩
      (case z => k_is)
      (case r => exact ⟨_, rfl⟩)
    have Bx4 : ∃ u, mg "LETTERS" = some u ∧ L2.RelV (.str "abcdefghijklmnopqrstuvwxyz") u := by
      refine' ⟨_, PySem.W.mg_of KX G ?z, ?r⟩
      (case z => k_is)
      (case r => exact ⟨_, rfl⟩)
    have d1 : L2.Df (L2.KOf KX) mg "words_of" S28.s_words_of := by
      dsimp only [L2.KOf]; refine' S28.df_mk KX G ?a ?l ?c ?k
      (case a => k_is); (case l => k_is); (case c => k_is); (case k => k_is)
    have d2 : L2.Df (L2.KOf KX) mg "order_of" S28.s_order_of := by
      dsimp only [L2.KOf]; refine' S28.df_mk KX G ?a ?l ?c ?k
      (case a => k_is); (case l => k_is); (case c => k_is); (case k => k_is)
    have d3 : L2.Df (L2.KOf KX) mg "ranks_of" S28.s_ranks_of := by
      dsimp only [L2.KOf]; refine' S28.df_mk KX G ?a ?l ?c ?k
      (case a => k_is); (case l => k_is); (case c => k_is); (case k => k_is)
    have d4 : L2.Df (L2.KOf KX) mg "is_letters" S28.s_is_letters := by
      dsimp only [L2.KOf]; refine' S28.df_mk KX G ?a ?l ?c ?k
      (case a => k_is); (case l => k_is); (case c => k_is); (case k => k_is)
    have d5 : L2.Df (L2.KOf KX) mg "is_labels" S28.s_is_labels := by
      dsimp only [L2.KOf]; refine' S28.df_mk KX G ?a ?l ?c ?k
      (case a => k_is); (case l => k_is); (case c => k_is); (case k => k_is)
    have d6 : L2.Df (L2.KOf KX) mg "beneath_of" S28.s_beneath_of := by
      dsimp only [L2.KOf]; refine' S28.df_mk KX G ?a ?l ?c ?k
      (case a => k_is); (case l => k_is); (case c => k_is); (case k => k_is)
    have d7 : L2.Df (L2.KOf KX) mg "is_leaf" S28.s_is_leaf := by
      dsimp only [L2.KOf]; refine' S28.df_mk KX G ?a ?l ?c ?k
      (case a => k_is); (case l => k_is); (case c => k_is); (case k => k_is)
    have d8 : L2.Df (L2.KOf KX) mg "grown_tree" S28.s_grown_tree := by
      dsimp only [L2.KOf]; refine' S28.df_mk KX G ?a ?l ?c ?k
      (case a => k_is); (case l => k_is); (case c => k_is); (case k => k_is)
    have d9 : L2.Df (L2.KOf KX) mg "kept_order" S28.s_kept_order := by
      dsimp only [L2.KOf]; refine' S28.df_mk KX G ?a ?l ?c ?k
      (case a => k_is); (case l => k_is); (case c => k_is); (case k => k_is)
    have d10 : L2.Df (L2.KOf KX) mg "rows_of" S28.s_rows_of := by
      dsimp only [L2.KOf]; refine' S28.df_mk KX G ?a ?l ?c ?k
      (case a => k_is); (case l => k_is); (case c => k_is); (case k => k_is)
    have d11 : L2.Df (L2.KOf KX) mg "is_last" S28.s_is_last := by
      dsimp only [L2.KOf]; refine' S28.df_mk KX G ?a ?l ?c ?k
      (case a => k_is); (case l => k_is); (case c => k_is); (case k => k_is)
    have d12 : L2.Df (L2.KOf KX) mg "is_rows" S28.s_is_rows := by
      dsimp only [L2.KOf]; refine' S28.df_mk KX G ?a ?l ?c ?k
      (case a => k_is); (case l => k_is); (case c => k_is); (case k => k_is)
    have d13 : L2.Df (L2.KOf KX) mg "tree_of" S28.s_tree_of := by
      dsimp only [L2.KOf]; refine' S28.df_mk KX G ?a ?l ?c ?k
      (case a => k_is); (case l => k_is); (case c => k_is); (case k => k_is)
    have d14 : L2.Df (L2.KOf KX) mg "has_form" S28.s_has_form := by
      dsimp only [L2.KOf]; refine' S28.df_mk KX G ?a ?l ?c ?k
      (case a => k_is); (case l => k_is); (case c => k_is); (case k => k_is)
    have d15 : L2.Df (L2.KOf KX) mg "is_truths" S28.s_is_truths := by
      dsimp only [L2.KOf]; refine' S28.df_mk KX G ?a ?l ?c ?k
      (case a => k_is); (case l => k_is); (case c => k_is); (case k => k_is)
    have d16 : L2.Df (L2.KOf KX) mg "tree_by" S28.s_tree_by := by
      dsimp only [L2.KOf]; refine' S28.df_mk KX G ?a ?l ?c ?k
      (case a => k_is); (case l => k_is); (case c => k_is); (case k => k_is)
    have d17 : L2.Df (L2.KOf KX) mg "groups_of" S28.s_groups_of := by
      dsimp only [L2.KOf]; refine' S28.df_mk KX G ?a ?l ?c ?k
      (case a => k_is); (case l => k_is); (case c => k_is); (case k => k_is)
    have d18 : L2.Df (L2.KOf KX) mg "group_numbers" S28.s_group_numbers := by
      dsimp only [L2.KOf]; refine' S28.df_mk KX G ?a ?l ?c ?k
      (case a => k_is); (case l => k_is); (case c => k_is); (case k => k_is)
    have d19 : L2.Df (L2.KOf KX) mg "_law_prime" S28.s_law_prime := by
      dsimp only [L2.KOf]; refine' S28.df_mk KX G ?a ?l ?c ?k
      (case a => k_is); (case l => k_is); (case c => k_is); (case k => k_is)
    have d20 : L2.Df (L2.KOf KX) mg "_law_pool" S28.s_law_pool := by
      dsimp only [L2.KOf]; refine' S28.df_mk KX G ?a ?l ?c ?k
      (case a => k_is); (case l => k_is); (case c => k_is); (case k => k_is)
    have d21 : L2.Df (L2.KOf KX) mg "_law_take" S28.s_law_take := by
      dsimp only [L2.KOf]; refine' S28.df_mk KX G ?a ?l ?c ?k
      (case a => k_is); (case l => k_is); (case c => k_is); (case k => k_is)
    have d22 : L2.Df (L2.KOf KX) mg "_law_letter" S28.s_law_letter := by
      dsimp only [L2.KOf]; refine' S28.df_mk KX G ?a ?l ?c ?k
      (case a => k_is); (case l => k_is); (case c => k_is); (case k => k_is)
    have d23 : L2.Df (L2.KOf KX) mg "_law_tree" S28.s_law_tree := by
      dsimp only [L2.KOf]; refine' S28.df_mk KX G ?a ?l ?c ?k
      (case a => k_is); (case l => k_is); (case c => k_is); (case k => k_is)
    have d24 : L2.Df (L2.KOf KX) mg "_law_word" S28.s_law_word := by
      dsimp only [L2.KOf]; refine' S28.df_mk KX G ?a ?l ?c ?k
      (case a => k_is); (case l => k_is); (case c => k_is); (case k => k_is)
    have d25 : L2.Df (L2.KOf KX) mg "_law_cells" S28.s_law_cells := by
      dsimp only [L2.KOf]; refine' S28.df_mk KX G ?a ?l ?c ?k
      (case a => k_is); (case l => k_is); (case c => k_is); (case k => k_is)
    have d26 : L2.Df (L2.KOf KX) mg "_law_rows" S28.s_law_rows := by
      dsimp only [L2.KOf]; refine' S28.df_mk KX G ?a ?l ?c ?k
      (case a => k_is); (case l => k_is); (case c => k_is); (case k => k_is)
    have d27 : L2.Df (L2.KOf KX) mg "_law_form" S28.s_law_form := by
      dsimp only [L2.KOf]; refine' S28.df_mk KX G ?a ?l ?c ?k
      (case a => k_is); (case l => k_is); (case c => k_is); (case k => k_is)
    have d28 : L2.Df (L2.KOf KX) mg "_law_tree_by" S28.s_law_tree_by := by
      dsimp only [L2.KOf]; refine' S28.df_mk KX G ?a ?l ?c ?k
      (case a => k_is); (case l => k_is); (case c => k_is); (case k => k_is)
    have d29 : L2.Df (L2.KOf KX) mg "_law_due" S28.s_law_due := by
      dsimp only [L2.KOf]; refine' S28.df_mk KX G ?a ?l ?c ?k
      (case a => k_is); (case l => k_is); (case c => k_is); (case k => k_is)
    have d30 : L2.Df (L2.KOf KX) mg "_law_marks_bent" S28.s_law_marks_bent := by
      dsimp only [L2.KOf]; refine' S28.df_mk KX G ?a ?l ?c ?k
      (case a => k_is); (case l => k_is); (case c => k_is); (case k => k_is)
    have d31 : L2.Df (L2.KOf KX) mg "_law_bent" S28.s_law_bent := by
      dsimp only [L2.KOf]; refine' S28.df_mk KX G ?a ?l ?c ?k
      (case a => k_is); (case l => k_is); (case c => k_is); (case k => k_is)
    have d32 : L2.Df (L2.KOf KX) mg "_law_told" S28.s_law_told := by
      dsimp only [L2.KOf]; refine' S28.df_mk KX G ?a ?l ?c ?k
      (case a => k_is); (case l => k_is); (case c => k_is); (case k => k_is)
    have d33 : L2.Df (L2.KOf KX) mg "law" S28.s_law := by
      dsimp only [L2.KOf]; refine' S28.df_mk KX G ?a ?l ?c ?k
      (case a => k_is); (case l => k_is); (case c => k_is); (case k => k_is)
    have EX : S28.Exs (L2.KOf KX) mg := by
      dsimp only [L2.KOf]; refine' S28.exs_mk KX G ?a_UpError ?a_NoPlace ?a_NoRows ?a_NoRuns ?a_NoText ?a_NoTree ?q_NoRows ?ga_NoRows ?gn_NoRows ?cl_NoRows ?ob_NoRows ?be_NoRows ?cd_NoRows ?u_NoRows ?gt ?tk ?xm ?pa
      (case a_UpError => k_is); (case a_NoPlace => k_is); (case a_NoRows => k_is); (case a_NoRuns => k_is); (case a_NoText => k_is); (case a_NoTree => k_is); (case q_NoRows => first | k_exc | k_is); (case ga_NoRows => k_is); (case gn_NoRows => k_is); (case cl_NoRows => k_is); (case ob_NoRows => k_is); (case be_NoRows => k_is); (case cd_NoRows => first | k_is | kernel_rfl); (case u_NoRows => first | k_is | kernel_rfl); (case gt => k_is); (case tk => k_is); (case xm => first | k_is | kernel_rfl); (case pa => first | k_is | kernel_rfl)
    obtain ⟨fd, h1, h2⟩ := S28.all_ok (P := PySem.Challenge.rw_upwords_k28_rows_told_apart.prog) (w := w) hmg ⟨B, Bx0, Bx1, Bx2, Bx3, Bx4⟩ d1 d2 d3 d4 d5 d6 d7 d8 d9 d10 d11 d12 d13 d14 d15 d16 d17 d18 d19 d20 d21 d22 d23 d24 d25 d26 d27 d28 d29 d30 d31 d32 d33 EX
    exact ⟨fd, h1, fun Ts base kb _ TA => h2 Ts base kb TA⟩
